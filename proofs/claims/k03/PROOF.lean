import PyProof.Rows.All
import Wide.All
import OpenK.AllK
import Wide.FinOn
import HandS.ForMost
import HandS.Wide
import HandS.IsInst
import HandS.Style
import HandS.Walk
import HandS.LawCells
import HandS.ForExc
import HandS.Defaults
import HandS.ExcInit
import HandS.CallSlots
import HandS.ExcIs
import HandS.ExcField
import HandS.MakeKw
import HandS.Gcd
import HandS.FStr
import HandS.RaiseMore
import PyProof.InstNe
import KE.KExcIs
import KE.KCallOwn
import PySem.Challenge.RW_voicefold_k03_shares_made
set_option Elab.async false
set_option linter.all false
set_option maxRecDepth 100000
set_option maxHeartbeats 4000000
/-! Own rules: exceptions of own classes made with keywords, in any place; calls with keywords that may raise. -/
namespace PySem
namespace OwnK
open PySem.W PySem.Calls PyProof.Rows PySem.HandSPX
section
variable {M : Model} {A : Around} {E : Value → Shared → Prop} {h : Heap} {g : Array GenState} {d : Drawn} {t : Nat} {os : OsState}
variable {nm q : Str} {C N : Addr} {bs bm bmB : List Value} {hd : Bool} {sn : List Str} {sub : List Value} {ab : Bool} {col : Option Bool} {dd : Option Addr} {k0 k1 k2 k3 k5 : Option Value} {B newId initId : String}
/-- the look ahead of the base's __new__, keywords or none -/
theorem newLook (F : ExcBaseFacts B newId initId bmB) (hT : ∀ T : String, bm.contains (.type T) = bmB.contains (.type T)) {rest : List Value} {kw : List (Str × Value)} {Q : Unit → Shared → Prop}
    (hC : h.get? C = some (excClassObj nm q C N bs bm hd sn sub ab col dd k0 k1 k2 k3 k5 newId)) (z : Q () ⟨h, g, d, t, os⟩) : wpAny M A (checkBuiltinCall newId ⟨.ref C :: rest, kw⟩) Q E ⟨h, g, d, t, os⟩ := by
  have hB : (Value.ref C :: bm).contains (.type B) = true := by
    rw [List.contains_cons, hT, F.hasB]
    exact Bool.or_true _
  have st := F.noStar
  simp only [checkBuiltinCall, F.newKind, F.newSplit, F.newRow]
  repeat (first
    | refine wpAny_loadPart_at hC ?_
    | (refine wpAny_isSubtype_exc hC ?_; rw [hB])
    | refine wpAny_staticBase_exc hC ?_
    | refine wpAny_madeBy_exc hC ?_
    | simp only [bne_self_eq_false, Bool.false_eq_true, if_false]
    | wp_step)
  exact z
end
section
variable {prog : Program} {w : World} {A : Around} {E : Value → Shared → Prop} {R : Result → Shared → Prop} {h : Heap} {g : Array GenState} {d : Drawn} {t : Nat} {os : OsState}
variable {nm q : Str} {C N : Addr} {bs bm bmB : List Value} {hd : Bool} {sn : List Str} {sub : List Value} {ab : Bool} {col : Option Bool} {dd : Option Addr} {k0 k1 k2 k3 k5 : Option Value} {B newId initId : String}
theorem newRun (F : ExcBaseFacts B newId initId bmB) (hT : ∀ T : String, bm.contains (.type T) = bmB.contains (.type T)) {rest : List Value} {kw : List (Str × Value)}
    (hC : h.get? C = some (excClassObj nm q C N bs bm hd sn sub ab col dd k0 k1 k2 k3 k5 newId))
    (z : R (.ok (.ret (.ref (h.objs.size + 1)))) ⟨(h.push (kdv_tup rest)).push (excO C h.objs.size), g, d, t, os⟩) (hr : rest.length ≤ sizeLine) :
    codeAny (model prog w) A (.builtin newId ⟨.ref C :: rest, kw⟩) R ⟨h, g, d, t, os⟩ := by
  have en := F.ends
  have hB : (Value.ref C :: bm).contains (.type B) = true := by
    rw [List.contains_cons, hT, F.hasB]
    exact Bool.or_true _
  have hA : (Value.ref C :: bm).contains (.type "AttributeError") = false := by
    rw [List.contains_cons, hT, F.noAttr] <;> rfl
  have hN : (Value.ref C :: bm).contains (.type "NameError") = false := by
    rw [List.contains_cons, hT, F.noName] <;> rfl
  refine codeAny_builtinAt F.entry ?_
  unfold Builtin.«BaseException.__new__»
  refine wpAt_bind ?_
  show wpAt _ _ _ (stack >>= _) _ _ _
  refine wpAt_bind (wpAt_stack fun p below => wpAt_of_wpAny ?_)
  wp_walk
  refine wpAt_of_wpAny ?_
  rw [F.owner]
  repeat (first
    | with_reducible refine wpAny_madeHere_exc F.canon hC ?_
    | with_reducible refine wpAny_loadPart_at hC ?_
    | (with_reducible refine wpAny_isSubtype_exc hC ?_; first | rw [hB] | rw [hA] | rw [hN])
    | wp_step)
  show R _ _
  rw [Heap.size_push]
  exact z
/-- the base's type.__call__, then the own __init__ -/
theorem typeCallRun (F : ExcBaseFacts B newId initId bmB) (hT : ∀ T : String, bm.contains (.type T) = bmB.contains (.type T)) {rest : List Value} {kw : List (Str × Value)} {fI : Addr} {Q : Fin → Shared → Prop}
    (hC : h.get? C = some (excClassObj nm q C N bs bm hd sn sub ab col dd k0 k1 k2 k3 k5 newId))
    (hi : Looks (model prog w) h (typeLookup (.ref C) "__init__") (some (.ref fI))) (hb : ∀ self, Looks (model prog w) h (bindSpecial (.ref fI) self) (.ref fI, [self])) (hr : rest.length ≤ sizeLine)
    (z : codeAny (model prog w) A (.call (.ref fI) ⟨.ref (h.objs.size + 1) :: rest, kw⟩)
      (fun r s' => match r with | .ok (.ret v) => v = .none ∧ Q (.done (.ret (.ref (h.objs.size + 1)))) s' | .ok _ => False | .error e => E e s')
      ⟨(h.push (kdv_tup rest)).push (excO C h.objs.size), g, d, t, os⟩) :
    wpAny (model prog w) A (Builtin.«type.__call__» ⟨.ref C :: rest, kw⟩) Q E ⟨h, g, d, t, os⟩ := by
  repeat (first
    | with_reducible refine wpAny_loadPart_at hC ?_
    | with_reducible refine wpAny_madeBy_exc hC ?_
    | wp_step)
  refine codeAny_call_builtin_code (Code.quiet_builtin _ F.quiet) (newLook F hT hC ?_)
  refine newRun F hT hC ?_ hr
  show wpAny _ _ _ _ _ _
  have kk : ∀ b o, h.get? b = some o → ((h.push (kdv_tup rest)).push (excO C h.objs.size)).get? b = some o := fun b o e => Heap.get?_push_of_some _ (Heap.get?_push_of_some _ e)
  have hC1 := kk _ _ hC
  have hx : ((h.push (kdv_tup rest)).push (excO C h.objs.size)).get? (h.objs.size + 1) = some (excO C h.objs.size) := by heap_get
  have hs : (Value.ref C :: bm).contains (.ref C) = true := by simp
  have i1 := hi.keeps kk
  have b1 := (hb (.ref (h.objs.size + 1))).keeps kk
  unfold isInstance
  repeat (first
    | with_reducible refine wpAny_loadPart_at hx ?_
    | (with_reducible refine wpAny_isSubtype_exc hC1 ?_; rw [hs])
    | wp_step)
  show wpAny _ _ (typeLookup (.ref C) _) _ _ _
  refine i1.at (wpAny_holding (wpAny_bind (b1.at ?_)))
  refine wpAny_bind (wpAny_call (codeAny_mono z fun r s' y => ?_))
  rcases r with e | fl
  · exact y
  cases fl with
  | ret v =>
    obtain ⟨rfl, y⟩ := y
    first
    | exact wpAny_pure (wpAny_pure y)
    | (wp_walk; exact y)
  | next => exact y.elim
  | brk => exact y.elim
  | cont => exact y.elim
theorem excCall (F : ExcBaseFacts B newId initId bmB) (hT : ∀ T : String, bm.contains (.type T) = bmB.contains (.type T)) {rest : List Value} {kw : List (Str × Value)} {fI : Addr}
    (hC : h.get? C = some (excClassObj nm q C N bs bm hd sn sub ab col dd k0 k1 k2 k3 k5 newId))
    (hi : Looks (model prog w) h (typeLookup (.ref C) "__init__") (some (.ref fI))) (hb : ∀ self, Looks (model prog w) h (bindSpecial (.ref fI) self) (.ref fI, [self])) (hr : rest.length ≤ sizeLine)
    (z : codeAny (model prog w) (A.under (.builtin "type.__call__" ⟨.ref C :: rest, kw⟩)) (.call (.ref fI) ⟨.ref (h.objs.size + 1) :: rest, kw⟩) (InitBack (h.objs.size + 1) R)
      ⟨(h.push (kdv_tup rest)).push (excO C h.objs.size), g, d, t, os⟩) :
    codeAny (model prog w) A (.call (.ref C) ⟨rest, kw⟩) R ⟨h, g, d, t, os⟩ := by
  have f1 := tc_lookup
  have f2 := tc_bind (.ref C)
  have ty : (⟨h, g, d, t, os⟩ : Shared).TypeIs (.ref C) "type" := ⟨_, hC, rfl⟩
  refine codeAny_of_tree ?_
  show wpAny _ _ (callAny (.ref C) _) _ _ _
  repeat (any_goals (first
    | assumption
    | with_reducible refine wpAny_loadPart_at hC ?_
    | wp_step))
  refine ⟨rfl, ?_⟩
  have look : ∀ {Q : Unit → Shared → Prop} {E : Value → Shared → Prop} {A : Around}, Q () ⟨h, g, d, t, os⟩ → wpAny (model prog w) A (checkBuiltinCall "type.__call__" ⟨.ref C :: rest, kw⟩) Q E ⟨h, g, d, t, os⟩ := by
    intro Q E A hq
    have f3 := tc_sub
    simp only [checkBuiltinCall, tc_kind, tc_split]
    repeat (any_goals (first
      | assumption
      | with_reducible refine wpAny_loadPart_at hC ?_
      | with_reducible refine wpAny_onRaise ?_
      | with_reducible refine wpAny_map ?_
      | wp_step))
  refine codeAny_call_builtin_at (Code.quiet_builtin _ (by decide +kernel)) entry_typeCall (look (typeCallRun F hT hC hi hb hr ?_))
  refine codeAny_mono z fun r s' y => ?_
  rcases r with e | (v | _ | _ | _) <;> exact y
end
end OwnK
end PySem

namespace Own
open PySem PySem.Spec PyProof.Rows L2
/-! ### calls of any form: positional values and keywords bound by KBn; what is raised is wished for at the caller's slots -/
theorem at0 {X : Cx} (σ : L2.St) : PassesAt CX0 X σ E0 := fun _ _ _ _ _ _ z => z.elim
theorem atE {X : Cx} {W : WX} (tk : Takes X W) (σ : L2.St) : PassesAt (L2.CX X.prog X.w) X σ (WE W σ) := passAt tk σ
theorem atN {X : Cx} (σ : L2.St) : PassesAt (L2.CX X.prog X.w) X σ E0 := fun _ _ _ _ _ _ z => by
  obtain ⟨_, _, _, _, _, _, _, _, _, _, _, _, y⟩ := z
  exact y.elim
section
variable {X : Cx} {CX : CXT} {k n : Nat} {f C : Addr} {fd : FuncData} {ps ks : List Str} {sp : Sp} {E : L2.St → XK} {E1 : XK} {x m : Str} {p pos apos : Pos} {e o : Expr} {es : List Expr} {kws : List Keyword} {t tk : TA} {to : TE}
variable {g : List Value → List Value → List Value} {gV : List V → List V → List V} {pins : List (Addr × Obj)} {σ : L2.St} {H : Hp} {s : Shared} {Q : VK} {us ws : List Value} {vs zs : List V}
theorem runF (F : FnOk X.prog X.w X.K X.mg X.base CX k f fd ps sp) (hr : Room k X.A) (hb : KBn X.K fd ps n ks g gV) (hx : PassesAt CX X σ E1) (I : Inv X pins σ H s) (r : Vals vs us) (rz : Vals zs ws) (l1 : vs.length = n) (l2 : zs.length = ks.length)
    (h : sp (gV vs zs) H Q E1) : wpAny (model X.prog X.w) X.A (call (.ref f) us (ks.zip ws)) (EP X pins σ Q) X.xe s := by
  have b := hb.to s us ws I.kIn (r.length.symm.trans l1) (rz.length.symm.trans l2)
  refine wpAny_call (codeAny_mono (F.run X.A X.stack s H _ (g us ws) (gV vs zs) Q E1 hr I.env0 b (hb.rel r rz) h) fun r s' y => ?_)
  cases r with
  | error e => exact hx pins H s e s' I y
  | ok fl =>
    cases fl with
    | ret u => exact I.after y
    | next => exact y.elim
    | brk => exact y.elim
    | cont => exact y.elim
theorem runM (M : Mk X.K C f) (F : FnOk X.prog X.w X.K X.mg X.base CX k f fd ps sp) (hr : Room (k + 1) X.A) (hb : KBn X.K fd ps (n + 1) ks g gV) (hx : PassesAt CX X σ E1) (I : Inv X pins σ H s) (r : Vals vs us) (rz : Vals zs ws) (l1 : vs.length = n) (l2 : zs.length = ks.length)
    (h : ∀ a dx, H a = none → H dx = none → dx ≠ a → sp (gV (.ref a :: vs) zs) (upd (upd H dx (.own a)) a (.ins C dx [])) (fun v H2 => v = .non ∧ Q (.ref a) H2) E1) :
    wpAny (model X.prog X.w) X.A (call (.ref C) us (ks.zip ws)) (EP X pins σ Q) X.xe s := by
  have hq := h (s.heap.objs.size + 1) s.heap.objs.size (I.hok.fresh (Nat.le_succ _)) (I.hok.fresh (Nat.le_refl _)) (Nat.ne_of_lt (Nat.lt_succ_self _))
  have J := Inv.made (C := C) I
  have r1 : Vals (V.ref (s.heap.objs.size + 1) :: vs) (Value.ref (s.heap.objs.size + 1) :: us) := .cons rfl r
  have n1 : (Value.ref (s.heap.objs.size + 1) :: us).length = n + 1 := r1.length.symm.trans (congrArg Nat.succ l1)
  have b := hb.to _ (Value.ref (s.heap.objs.size + 1) :: us) ws J.kIn n1 (rz.length.symm.trans l2)
  refine wpAny_call (make_map (f := f) I.kIn M.makes M.init (beq_iff_eq.mp M.fn) (codeAny_mono (F.run _ X.stack _ _ _ _ _ _ E1 (hr.make C us (ks.zip ws)) (J.env0.make C us (ks.zip ws)) b (hb.rel r1 rz) hq) fun r s' y => ?_))
  cases r with
  | error e => exact hx pins _ _ e s' J y
  | ok fl =>
    cases fl with
    | ret u =>
      obtain ⟨v, H', I3, rv, ev, q3⟩ := J.after y
      subst ev
      exact ⟨rv, ⟨V.ref (s.heap.objs.size + 1), H', I3, rfl, q3⟩⟩
    | next => exact y.elim
    | brk => exact y.elim
    | cont => exact y.elim
/-- f(e, .., k = v, ..) -/
def tFn (n m : Nat) (sp : Sp) (gV : List V → List V → List V) (E : L2.St → XK) (t tk : TA) : TE := fun σ H Q => t σ H fun vs H1 => tk σ H1 fun zs H2 => vs.length = n ∧ zs.length = m ∧ sp (gV vs zs) H2 Q (E σ)
theorem pf_pos (F : FnOk X.prog X.w X.K X.mg X.base CX k f fd ps sp) (hr : Room k X.A) (hg : Gl X x) (hm : X.mg x = some (.ref f)) (hk : PySem.W.keepIn X.K (.ref f) = true) (hb : KBn X.K fd ps n [] g gV) (hx : ∀ σ, PassesAt CX X σ (E σ)) (ha : PA X (e :: es) t)
    (hdb : (x == ("__debug__" : Str)) = false := by decide) (he : starEach (e :: es) X.env = (false, eval e X.env) :: starEach es X.env := by rfl) (hpl : (backTo pos (starEach es X.env)).any (·.1) = false := by rfl) :
    PE X (.Call (.Name x p) (e :: es) [] pos) (tFn n 0 sp gV E t tNil) := by
  refine ⟨fun pins s σ H Q I h => wpAny_Call_Name_kw (ld_glob I hg hm ?_ hdb)⟩
  exact PySem.W.callWith_K (h₀ := X.base) I.ok.mod.kin hk (thn (ha.run pos pins s σ H _ I h) fun us s1 ⟨vs, H1, I1, r, l1, l2, q⟩ => ⟨I1.kIn, runF (ks := []) F hr hb (hx σ) I1 r (.nil : Vals [] []) l1 rfl q⟩) he hpl
theorem pf_both (F : FnOk X.prog X.w X.K X.mg X.base CX k f fd ps sp) (hr : Room k X.A) (hg : Gl X x) (hm : X.mg x = some (.ref f)) (hk : PySem.W.keepIn X.K (.ref f) = true) (hb : KBn X.K fd ps n ks g gV) (hx : ∀ σ, PassesAt CX X σ (E σ)) (ha : PA X (e :: es) t) (hkw : PK X kws tk)
    (hall : (backToKw pos (keywordEach kws X.env)).all (·.1.isSome) = true := by rfl) (hks : (backToKw pos (keywordEach kws X.env)).filterMap (·.1) = ks := by rfl) (hdb : (x == ("__debug__" : Str)) = false := by decide)
    (he : starEach (e :: es) X.env = (false, eval e X.env) :: starEach es X.env := by rfl) (hpl : ((backTo pos (starEach (e :: es) X.env)).any (·.1) || (backToKw pos (keywordEach kws X.env)).any (·.1.isNone)) = false := by rfl) :
    PE X (.Call (.Name x p) (e :: es) kws pos) (tFn n ks.length sp gV E t tk) := by
  refine ⟨fun pins s σ H Q I h => wpAny_Call_Name_kw (ld_glob I hg hm ?_ hdb)⟩
  refine PySem.W.callWith_KW (h₀ := X.base) I.ok.mod.kin hk hall (thn (ha.run pos pins s σ H _ I h) fun us s1 ⟨vs, H1, I1, r, q⟩ => ?_) hpl he
  refine thn (hkw.run pos pins s1 σ H1 _ I1 q) fun ws s2 ⟨zs, H2, I2, rz, l1, l2, q2⟩ => ⟨I2.kIn, ?_⟩
  rw [hks]
  exact runF F hr hb (hx σ) I2 r rz l1 l2 q2
theorem pf_kw (F : FnOk X.prog X.w X.K X.mg X.base CX k f fd ps sp) (hr : Room k X.A) (hg : Gl X x) (hm : X.mg x = some (.ref f)) (hk : PySem.W.keepIn X.K (.ref f) = true) (hb : KBn X.K fd ps 0 ks g gV) (hx : ∀ σ, PassesAt CX X σ (E σ)) (hkw : PK X kws tk)
    (hall : (backToKw pos (keywordEach kws X.env)).all (·.1.isSome) = true := by rfl) (hks : (backToKw pos (keywordEach kws X.env)).filterMap (·.1) = ks := by rfl) (hdb : (x == ("__debug__" : Str)) = false := by decide)
    (hpl : ((backTo pos (starEach [] X.env)).any (·.1) || (backToKw pos (keywordEach kws X.env)).any (·.1.isNone)) = false := by rfl) :
    PE X (.Call (.Name x p) [] kws pos) (tFn 0 ks.length sp gV E tNil tk) := by
  refine ⟨fun pins s σ H Q I h => wpAny_Call_Name_kw (ld_glob I hg hm ?_ hdb)⟩
  refine PySem.W.callWith_KW0 (h₀ := X.base) I.ok.mod.kin hk hall ?_ hpl
  refine thn (hkw.run pos pins s σ H _ I h) fun ws s2 ⟨zs, H2, I2, rz, l1, l2, q2⟩ => ⟨I2.kIn, ?_⟩
  rw [hks]
  exact runF (us := []) (vs := []) F hr hb (hx σ) I2 .nil rz rfl l2 q2
/-- o.m(e, .., k = v, ..) -/
def tMt (C : Addr) (m : Str) (n j : Nat) (sp : Sp) (gV : List V → List V → List V) (E : L2.St → XK) (to : TE) (t tk : TA) : TE := fun σ H Q => to σ H fun x H0 => ∃ a dx fs, x = .ref a ∧ H0 a = some (.ins C dx fs) ∧ fs.lookup m = none ∧
  t σ H0 fun vs H1 => tk σ H1 fun zs H2 => vs.length = n ∧ zs.length = j ∧ sp (gV (.ref a :: vs) zs) H2 Q (E σ)
theorem pm_pos {pl : Sem Bool} (ho : PE X o to) (c : Cls X.K C) (hm : Meth X.K C m f) (F : FnOk X.prog X.w X.K X.mg X.base CX k f fd ps sp) (hr : Room k X.A) (hb : KBn X.K fd ps (n + 1) [] g gV) (hx : ∀ σ, PassesAt CX X σ (E σ)) (ha : PA X (e :: es) t)
    (hst : starEach (e :: es) X.env = (false, eval e X.env) :: starEach es X.env := by rfl) (hpl : (backTo pos (starEach es X.env)).any (·.1) = false := by rfl)
    (ht : eval (.Call (.Attribute o m apos) (e :: es) [] pos) X.env = (do
      let ov ← eval o X.env
      standAt apos.atName
      let (f, first) ← holding [ov] (getMethod ov m pl)
      callWith pos f first (backTo pos (starEach (e :: es) X.env)) (backToKw pos (keywordEach [] X.env))) := by rfl) :
    PE X (.Call (.Attribute o m apos) (e :: es) [] pos) (tMt C m n 0 sp gV E to t tNil) := by
  refine ⟨fun pins s σ H Q I h => ?_⟩
  refine PySem.W.methodCall_KW (pl := pl) (thn (ho.run pins s σ H _ I h) fun u s1 ⟨x, H1, I1, rx, a, dx, fs, ex, ea, l, q⟩ => ?_) ht
  subst ex
  obtain rfl : u = Value.ref a := rx
  refine getmeth_ok I1 ea c hm l ?_
  exact PySem.W.callWith_K (first := [.ref a]) (h₀ := X.base) I.ok.mod.kin hm.kp (thn (ha.run pos pins s1 σ H1 _ I1 q) fun us s2 ⟨vs, H2, I2, r, l1, l2, q2⟩ =>
    ⟨I2.kIn, runF (ks := []) (us := .ref a :: us) (vs := .ref a :: vs) F hr hb (hx σ) I2 (.cons rfl r) (.nil : Vals [] []) (congrArg Nat.succ l1) rfl q2⟩) hst hpl
theorem pm_kw {pl : Sem Bool} (ho : PE X o to) (c : Cls X.K C) (hm : Meth X.K C m f) (F : FnOk X.prog X.w X.K X.mg X.base CX k f fd ps sp) (hr : Room k X.A) (hb : KBn X.K fd ps 1 ks g gV) (hx : ∀ σ, PassesAt CX X σ (E σ)) (hkw : PK X kws tk)
    (hall : (backToKw pos (keywordEach kws X.env)).all (·.1.isSome) = true := by rfl) (hks : (backToKw pos (keywordEach kws X.env)).filterMap (·.1) = ks := by rfl)
    (hpl : ((backTo pos (starEach [] X.env)).any (·.1) || (backToKw pos (keywordEach kws X.env)).any (·.1.isNone)) = false := by rfl)
    (ht : eval (.Call (.Attribute o m apos) [] kws pos) X.env = (do
      let ov ← eval o X.env
      standAt apos.atName
      let (f, first) ← holding [ov] (getMethod ov m pl)
      callWith pos f first (backTo pos (starEach [] X.env)) (backToKw pos (keywordEach kws X.env))) := by rfl) :
    PE X (.Call (.Attribute o m apos) [] kws pos) (tMt C m 0 ks.length sp gV E to tNil tk) := by
  refine ⟨fun pins s σ H Q I h => ?_⟩
  refine PySem.W.methodCall_KW (pl := pl) (thn (ho.run pins s σ H _ I h) fun u s1 ⟨x, H1, I1, rx, a, dx, fs, ex, ea, l, q⟩ => ?_) ht
  subst ex
  obtain rfl : u = Value.ref a := rx
  refine getmeth_ok I1 ea c hm l ?_
  refine PySem.W.callWith_KW0 (first := [.ref a]) (h₀ := X.base) I.ok.mod.kin hm.kp hall ?_ hpl
  refine thn (hkw.run pos pins s1 σ H1 _ I1 q) fun ws s2 ⟨zs, H2, I2, rz, l1, l2, q2⟩ => ⟨I2.kIn, ?_⟩
  rw [hks]
  exact runF (us := [.ref a]) (vs := [.ref a]) F hr hb (hx σ) I2 (.cons rfl .nil) rz rfl l2 q2
/-- C(e, .., k = v, ..) -/
def tMk (C : Addr) (n m : Nat) (sp : Sp) (gV : List V → List V → List V) (E : L2.St → XK) (t tk : TA) : TE := fun σ H Q => t σ H fun vs H1 => tk σ H1 fun zs H2 => vs.length = n ∧ zs.length = m ∧ ∀ a dx, H2 a = none → H2 dx = none → dx ≠ a →
  sp (gV (.ref a :: vs) zs) (upd (upd H2 dx (.own a)) a (.ins C dx [])) (fun v H3 => v = .non ∧ Q (.ref a) H3) (E σ)
theorem pc_pos (M : Mk X.K C f) (F : FnOk X.prog X.w X.K X.mg X.base CX k f fd ps sp) (hr : Room (k + 1) X.A) (hg : Gl X x) (hm : X.mg x = some (.ref C)) (hb : KBn X.K fd ps (n + 1) [] g gV) (hx : ∀ σ, PassesAt CX X σ (E σ)) (ha : PA X (e :: es) t)
    (hdb : (x == ("__debug__" : Str)) = false := by decide) (he : starEach (e :: es) X.env = (false, eval e X.env) :: starEach es X.env := by rfl) (hpl : (backTo pos (starEach es X.env)).any (·.1) = false := by rfl) :
    PE X (.Call (.Name x p) (e :: es) [] pos) (tMk C n 0 sp gV E t tNil) := by
  refine ⟨fun pins s σ H Q I h => wpAny_Call_Name_kw (ld_glob I hg hm ?_ hdb)⟩
  exact PySem.W.callWith_K (h₀ := X.base) I.ok.mod.kin M.kp (thn (ha.run pos pins s σ H _ I h) fun us s1 ⟨vs, H1, I1, r, l1, l2, q⟩ =>
    ⟨I1.kIn, runM (ks := []) M F hr hb (hx σ) I1 r (.nil : Vals [] []) l1 rfl q⟩) he hpl
theorem pc_both (M : Mk X.K C f) (F : FnOk X.prog X.w X.K X.mg X.base CX k f fd ps sp) (hr : Room (k + 1) X.A) (hg : Gl X x) (hm : X.mg x = some (.ref C)) (hb : KBn X.K fd ps (n + 1) ks g gV) (hx : ∀ σ, PassesAt CX X σ (E σ)) (ha : PA X (e :: es) t) (hkw : PK X kws tk)
    (hall : (backToKw pos (keywordEach kws X.env)).all (·.1.isSome) = true := by rfl) (hks : (backToKw pos (keywordEach kws X.env)).filterMap (·.1) = ks := by rfl) (hdb : (x == ("__debug__" : Str)) = false := by decide)
    (he : starEach (e :: es) X.env = (false, eval e X.env) :: starEach es X.env := by rfl) (hpl : ((backTo pos (starEach (e :: es) X.env)).any (·.1) || (backToKw pos (keywordEach kws X.env)).any (·.1.isNone)) = false := by rfl) :
    PE X (.Call (.Name x p) (e :: es) kws pos) (tMk C n ks.length sp gV E t tk) := by
  refine ⟨fun pins s σ H Q I h => wpAny_Call_Name_kw (ld_glob I hg hm ?_ hdb)⟩
  refine PySem.W.callWith_KW (h₀ := X.base) I.ok.mod.kin M.kp hall (thn (ha.run pos pins s σ H _ I h) fun us s1 ⟨vs, H1, I1, r, q⟩ => ?_) hpl he
  refine thn (hkw.run pos pins s1 σ H1 _ I1 q) fun ws s2 ⟨zs, H2, I2, rz, l1, l2, q2⟩ => ⟨I2.kIn, ?_⟩
  rw [hks]
  exact runM M F hr hb (hx σ) I2 r rz l1 l2 q2
theorem pc_kw (M : Mk X.K C f) (F : FnOk X.prog X.w X.K X.mg X.base CX k f fd ps sp) (hr : Room (k + 1) X.A) (hg : Gl X x) (hm : X.mg x = some (.ref C)) (hb : KBn X.K fd ps 1 ks g gV) (hx : ∀ σ, PassesAt CX X σ (E σ)) (hkw : PK X kws tk)
    (hall : (backToKw pos (keywordEach kws X.env)).all (·.1.isSome) = true := by rfl) (hks : (backToKw pos (keywordEach kws X.env)).filterMap (·.1) = ks := by rfl) (hdb : (x == ("__debug__" : Str)) = false := by decide)
    (hpl : ((backTo pos (starEach [] X.env)).any (·.1) || (backToKw pos (keywordEach kws X.env)).any (·.1.isNone)) = false := by rfl) :
    PE X (.Call (.Name x p) [] kws pos) (tMk C 0 ks.length sp gV E tNil tk) := by
  refine ⟨fun pins s σ H Q I h => wpAny_Call_Name_kw (ld_glob I hg hm ?_ hdb)⟩
  refine PySem.W.callWith_KW0 (h₀ := X.base) I.ok.mod.kin M.kp hall ?_ hpl
  refine thn (hkw.run pos pins s σ H _ I h) fun ws s2 ⟨zs, H2, I2, rz, l1, l2, q2⟩ => ⟨I2.kIn, ?_⟩
  rw [hks]
  exact runM (n := 0) (us := []) (vs := []) M F hr hb (hx σ) I2 .nil rz rfl l2 q2
/-- C0.m(e, ..), the def read off an own class -/
theorem pcl_pos {C0 : Addr} {mc : Value} {pl : Sem Bool} (hg : Gl X x) (hm : X.mg x = some (.ref C0)) (rd : PySem.W.readsIn X.K C0 mc = true) (ga : PySem.W.specialIn X.K (.ref C0) "__getattribute__" = some (some (.builtin "type.__getattribute__")))
    (fc : PySem.W.findCls X.K (.ref C0) mc m = some (.val (.ref f))) (hk : PySem.W.keepIn X.K (.ref f) = true) (F : FnOk X.prog X.w X.K X.mg X.base CX k f fd ps sp) (hr : Room k X.A) (hb : KBn X.K fd ps n [] g gV) (hx : ∀ σ, PassesAt CX X σ (E σ)) (ha : PA X (e :: es) t)
    (hdb : (x == ("__debug__" : Str)) = false := by decide) (hst : starEach (e :: es) X.env = (false, eval e X.env) :: starEach es X.env := by rfl) (hpl : (backTo pos (starEach es X.env)).any (·.1) = false := by rfl)
    (ht : eval (.Call (.Attribute (.Name x p) m apos) (e :: es) [] pos) X.env = (do
      let ov ← eval (.Name x p) X.env
      standAt apos.atName
      let (f, first) ← holding [ov] (getMethod ov m pl)
      callWith pos f first (backTo pos (starEach (e :: es) X.env)) (backToKw pos (keywordEach [] X.env))) := by rfl) :
    PE X (.Call (.Attribute (.Name x p) m apos) (e :: es) [] pos) (tFn n 0 sp gV E t tNil) := by
  refine ⟨fun pins s σ H Q I h => ?_⟩
  refine PySem.W.methodCall_KW (pl := pl) (ld_glob I hg hm ?_ hdb) ht
  refine PySem.W.method_cls I.kIn ga (PySem.W.cls_value I.kIn rd fc rfl ?_)
  exact PySem.W.callWith_K (first := []) (h₀ := X.base) I.ok.mod.kin hk (thn (ha.run pos pins _ σ H _ (I.tok _) h) fun us s2 ⟨vs, H2, I2, r, l1, l2, q2⟩ => ⟨I2.kIn, runF (ks := []) F hr hb (hx σ) I2 r (.nil : Vals [] []) l1 rfl q2⟩) hst hpl
end

/-! ### raise C(..) of an own class over ValueError: positional values, keywords, none -/
section
variable {X : Cx} {CX : CXT} {k n : Nat} {fI C : Addr} {fd : FuncData} {ps ks : List Str} {sp : Sp} {x : Str} {p pos : Pos} {e : Expr} {es : List Expr} {kws : List Keyword} {t tk : TA}
variable {g : List Value → List Value → List Value} {gV : List V → List V → List V} {pins : List (Addr × Obj)} {σ : L2.St} {H : Hp} {s : Shared} {Q : XK} {us ws : List Value} {vs zs : List V}
abbrev NoE : XK := fun _ _ _ => False
/-- what the written part says of C and its __init__ -/
structure ExK (K : PySem.W.Frag) (C fI : Addr) : Prop where
  oex : OexC K C
  init : PySem.W.findIn K (.ref C) "__init__" = some (some (.ref fI))
  fn : PySem.W.typeIn K (.ref fI) = some (.type "function")
def BackX (a C : Addr) (H2 : Hp) (Q : XK) : VK := fun v H3 => v = .non ∧ ∃ (d : Addr) (fs : List (Str × V)), H3 a = some (exo a C (some d)) ∧ H3 d = some (exd d fs) ∧ H2 d = none ∧ Q (.ref C) (some d) (upd (del H3 a) d (.xd fs))
theorem runX (T : ExK X.K C fI) (F : FnOk X.prog X.w X.K X.mg X.base CX k fI fd ps sp) (hr : Room (k + 1) X.A) (hb : KBn X.K fd ps (n + 1) ks g gV) (hx : PassesAt CX X σ NoE) (I : Inv X pins σ H s) (r : Vals vs us) (rz : Vals zs ws) (l1 : vs.length = n) (l2 : zs.length = ks.length) (hn : n ≤ 1000)
    (h : ∀ a, H a = none → sp (gV (.ref a :: vs) zs) (upd H a (exo a C none)) (BackX a C H Q) NoE) : wpAny (model X.prog X.w) X.A (call (.ref C) us (ks.zip ws)) (MkP X pins σ Q) X.xe s := by
  obtain ⟨nm, q, N, bs, bm, sn, sub, ab, col, dd, k0, k1, k2, k3, k5, hC, hbm⟩ := T.oex.cls
  obtain ⟨hp, gs, dr, tk, os⟩ := s
  have sz : hp.objs.size ≤ hp.objs.size + 1 := Nat.le_succ _
  have hq := h (hp.objs.size + 1) (I.hok.fresh sz)
  have kk : ∀ b o, hp.get? b = some o → ((hp.push (PySem.W.kdv_tup us)).push (PySem.HandSPX.excO C hp.objs.size)).get? b = some o := fun b o e => Heap.get?_push_of_some _ (Heap.get?_push_of_some _ e)
  have hat : ((hp.push (PySem.W.kdv_tup us)).push (PySem.HandSPX.excO C hp.objs.size)).get? (hp.objs.size + 1) = some (PySem.HandSPX.excO C hp.objs.size) := by heap_get
  have J : Inv X pins σ (upd H (hp.objs.size + 1) (exo (hp.objs.size + 1) C none)) ⟨(hp.push (PySem.W.kdv_tup us)).push (PySem.HandSPX.excO C hp.objs.size), gs, dr, tk, os⟩ :=
    I.laid (t' := tk) (a := hp.objs.size + 1) (o := exo (hp.objs.size + 1) C none) kk sz (exo_ok hat)
  have r1 : Vals (V.ref (hp.objs.size + 1) :: vs) (Value.ref (hp.objs.size + 1) :: us) := .cons rfl r
  have b := hb.to _ (Value.ref (hp.objs.size + 1) :: us) ws J.kIn (r1.length.symm.trans (congrArg Nat.succ l1)) (rz.length.symm.trans l2)
  have hus : us.length ≤ sizeLine := by
    rw [← r.length, l1, sizeLine_eq]
    omega
  refine wpAny_call (PySem.OwnK.excCall PySem.F.excBase_ValueError (fun Y => PySem.HandSPX.refsVE_contains Y bm hbm) (I.kIn _ _ hC) (PySem.W.looks_findIn I.kIn T.init) (fun self => PySem.W.bind_fn I.kIn self T.fn) hus
    (codeAny_mono (F.run _ X.stack _ _ _ _ _ _ NoE (hr.make C us (ks.zip ws)) (J.env0.make C us (ks.zip ws)) b (hb.rel r1 rz) hq) fun r s' y => ?_))
  cases r with
  | error er => exact hx pins _ _ er s' J y
  | ok fl =>
    cases fl with
    | ret u =>
      obtain ⟨v, H2, os2, bare2, un2, hok2, rv, ev, d, fs, ea, ed, hd1, q2⟩ := y
      subst ev
      obtain ⟨h2, g2, d2, t2, os'⟩ := s'
      exact ⟨rv, mk_end (raises_own T.oex.exC T.oex.tyC) I sz kk un2 hok2 os2 bare2 ea ed hd1 q2⟩
    | next => exact y.elim
    | brk => exact y.elim
    | cont => exact y.elim
def tRz (C : Addr) (n m : Nat) (sp : Sp) (gV : List V → List V → List V) (t tk : TA) : L2.St → Hp → XK → Prop := fun σ H Q => t σ H fun vs H1 => tk σ H1 fun zs H2 => vs.length = n ∧ zs.length = m ∧ n ≤ 1000 ∧
  ∀ a, H2 a = none → sp (gV (.ref a :: vs) zs) (upd H2 a (exo a C none)) (BackX a C H2 Q) NoE
theorem px_pos (T : ExK X.K C fI) (F : FnOk X.prog X.w X.K X.mg X.base CX k fI fd ps sp) (hr : Room (k + 1) X.A) (hg : Gl X x) (hm : X.mg x = some (.ref C)) (hb : KBn X.K fd ps (n + 1) [] g gV) (hx : ∀ σ, PassesAt CX X σ NoE) (ha : PA X (e :: es) t)
    (hdb : (x == ("__debug__" : Str)) = false := by decide) (he : starEach (e :: es) X.env = (false, eval e X.env) :: starEach es X.env := by rfl) (hpl : (backTo pos (starEach es X.env)).any (·.1) = false := by rfl) :
    PMk X (.Call (.Name x p) (e :: es) [] pos) (tRz C n 0 sp gV t tNil) := by
  intro pins s σ H Q I h
  refine wpAny_Call_Name_kw (ld_glob I hg hm ?_ hdb)
  exact PySem.W.callWith_K (h₀ := X.base) I.ok.mod.kin T.oex.kC (thn (ha.run pos pins s σ H _ I h) fun us s1 ⟨vs, H1, I1, r, l1, l2, l3, q⟩ => ⟨I1.kIn, runX (ks := []) T F hr hb (hx σ) I1 r (.nil : Vals [] []) l1 rfl l3 q⟩) he hpl
theorem px_both (T : ExK X.K C fI) (F : FnOk X.prog X.w X.K X.mg X.base CX k fI fd ps sp) (hr : Room (k + 1) X.A) (hg : Gl X x) (hm : X.mg x = some (.ref C)) (hb : KBn X.K fd ps (n + 1) ks g gV) (hx : ∀ σ, PassesAt CX X σ NoE) (ha : PA X (e :: es) t) (hkw : PK X kws tk)
    (hall : (backToKw pos (keywordEach kws X.env)).all (·.1.isSome) = true := by rfl) (hks : (backToKw pos (keywordEach kws X.env)).filterMap (·.1) = ks := by rfl) (hdb : (x == ("__debug__" : Str)) = false := by decide)
    (he : starEach (e :: es) X.env = (false, eval e X.env) :: starEach es X.env := by rfl) (hpl : ((backTo pos (starEach (e :: es) X.env)).any (·.1) || (backToKw pos (keywordEach kws X.env)).any (·.1.isNone)) = false := by rfl) :
    PMk X (.Call (.Name x p) (e :: es) kws pos) (tRz C n ks.length sp gV t tk) := by
  intro pins s σ H Q I h
  refine wpAny_Call_Name_kw (ld_glob I hg hm ?_ hdb)
  refine PySem.W.callWith_KW (h₀ := X.base) I.ok.mod.kin T.oex.kC hall (thn (ha.run pos pins s σ H _ I h) fun us s1 ⟨vs, H1, I1, r, q⟩ => ?_) hpl he
  refine thn (hkw.run pos pins s1 σ H1 _ I1 q) fun ws s2 ⟨zs, H2, I2, rz, l1, l2, l3, q2⟩ => ⟨I2.kIn, ?_⟩
  rw [hks]
  exact runX T F hr hb (hx σ) I2 r rz l1 l2 l3 q2
theorem px_kw (T : ExK X.K C fI) (F : FnOk X.prog X.w X.K X.mg X.base CX k fI fd ps sp) (hr : Room (k + 1) X.A) (hg : Gl X x) (hm : X.mg x = some (.ref C)) (hb : KBn X.K fd ps 1 ks g gV) (hx : ∀ σ, PassesAt CX X σ NoE) (hkw : PK X kws tk)
    (hall : (backToKw pos (keywordEach kws X.env)).all (·.1.isSome) = true := by rfl) (hks : (backToKw pos (keywordEach kws X.env)).filterMap (·.1) = ks := by rfl) (hdb : (x == ("__debug__" : Str)) = false := by decide)
    (hpl : ((backTo pos (starEach [] X.env)).any (·.1) || (backToKw pos (keywordEach kws X.env)).any (·.1.isNone)) = false := by rfl) :
    PMk X (.Call (.Name x p) [] kws pos) (tRz C 0 ks.length sp gV tNil tk) := by
  intro pins s σ H Q I h
  refine wpAny_Call_Name_kw (ld_glob I hg hm ?_ hdb)
  refine PySem.W.callWith_KW0 (h₀ := X.base) I.ok.mod.kin T.oex.kC hall ?_ hpl
  refine thn (hkw.run pos pins s σ H _ I h) fun ws s2 ⟨zs, H2, I2, rz, l1, l2, l3, q2⟩ => ⟨I2.kIn, ?_⟩
  rw [hks]
  exact runX (n := 0) (us := []) (vs := []) T F hr hb (hx σ) I2 .nil rz rfl l2 l3 q2
theorem px_none (T : ExK X.K C fI) (F : FnOk X.prog X.w X.K X.mg X.base CX k fI fd ps sp) (hr : Room (k + 1) X.A) (hg : Gl X x) (hm : X.mg x = some (.ref C)) (hb : KBn X.K fd ps 1 [] g gV) (hx : ∀ σ, PassesAt CX X σ NoE)
    (hdb : (x == ("__debug__" : Str)) = false := by decide) : PMk X (.Call (.Name x p) [] [] pos) (tRz C 0 0 sp gV tNil tNil) := by
  intro pins s σ H Q I h
  refine wpAny_Call_Name_kw (ld_glob I hg hm ?_ hdb)
  obtain ⟨l1, l2, l3, q⟩ := h
  exact PySem.W.callWith_K0 I.kIn T.oex.kC (runX (n := 0) (ks := []) (us := []) (vs := []) T F hr hb (hx σ) I .nil (.nil : Vals [] []) rfl rfl l3 q)
end
end Own

/-! Own rules: == and != where the left one is an instance of a class with an own __eq__ (and object's __ne__), whatever the right one is. -/
namespace PySem
namespace OwnQ
open PySem.W PyProof.Rows Builtin
section
variable {prog : Program} {w : World} {A : Around} {E : Value → Shared → Prop} {s : Shared} {K : Frag} {x C L f : Addr} {h₀ : Heap} {m : Str → Option Value} {ox : Obj} {od : Option Obj} {b tb : Value}
/-- a def's word back, then turned round -/
def NotBack (Q : Value → Shared → Prop) (v : Value) (s' : Shared) : Prop := ∃ r : Bool, v = .bool r ∧ Q (.bool (!r)) s'
theorem neTry {Q : Option Value → Shared → Prop} (hu : A.units + 1 < cLine) (X : K.In s.heap) (I : InstAt s.heap x ox C od) (hn : findIn K (.ref C) "__ne__" = some (some (.builtin "object.__ne__"))) (ho : mroIn K C (.type "object") = some true)
    (hs : findIn K (.ref C) "__eq__" = some (some (.ref f))) (hf : isFn K (.ref f) = true) (h : wpAny (model prog w) A.in1 (call (.ref f) [.ref x, b]) (NotBack fun v s' => Q (some v) s') E s) :
    wpAny (model prog w) A (tryCompare (.ref x) "__ne__" b) Q E s := by
  obtain ⟨hp, gs, dr, tk, os⟩ := s
  have sub : Looks (model prog w) hp (isInstance (.ref x) (.type "object")) true := I.type.andThen (looks_mroIn X ho)
  have entry : ∀ {P : Fin → Shared → Prop}, wpAny (model prog w) A.in1 (call (.ref f) [.ref x, b]) (NotBack fun v s' => P (.done (.ret v)) s') E ⟨hp, gs, dr, tk, os⟩ →
      wpAny (model prog w) A.in1 (Builtin.«object.__ne__» ⟨[.ref x, b], []⟩) P E ⟨hp, gs, dr, tk, os⟩ := by
    intro P hc
    unfold Builtin.«object.__ne__»
    refine wpAny_bind (wpAny_of_eq (a := ((Value.ref x : Value), [b])) (by first | rfl | (simp only [slotArgs]; rfl)) ?_)
    refine wpAny_bind (wpAny_cRoomFor hu ?_)
    refine wpAny_bind (ifBound_K (args := [b]) X I hs hf (wpAny_mono hc (fun v s' y => ?_) fun _ _ e => e))
    obtain ⟨r, rfl, q⟩ := y
    exact wpAny_bind (wpAny_truthy_bool (wpAny_pure q))
  have go : ∀ {P : Option Value → Shared → Prop}, wpAny (model prog w) A.in1 (call (.ref f) [.ref x, b]) (NotBack fun v s' => P (some v) s') E ⟨hp, gs, dr, tk, os⟩ →
      wpAny (model prog w) A (call (.builtin "object.__ne__") ([.ref x] ++ [b]) >>= fun v => pure (some v)) P E ⟨hp, gs, dr, tk, os⟩ := by
    intro P hc
    refine wpAny_bind (wpAny_call (codeAny_call_builtin F.cmp_object.ne.plain F.cmpEntry_ne ?_))
    refine @check_slot (model prog w) _ _ ⟨hp, gs, dr, tk, os⟩ "object.__ne__" "object" "__ne__" (.ref x) [b] [] _ F.cmpKind_ne F.cmpSplit_ne sub (F.cmpArgs_ne _ _) ?_
    refine entry (wpAny_mono hc (fun v s' y => ?_) fun _ _ e => e)
    obtain ⟨r, rfl, q⟩ := y
    exact ⟨r, rfl, wpAny_pure q⟩
  have full : ∀ {P : Option Value → Shared → Prop}, wpAny (model prog w) A.in1 (call (.ref f) [.ref x, b]) (NotBack fun v s' => P (some v) s') E ⟨hp, gs, dr, tk, os⟩ →
      wpAny (model prog w) A (callSpecialIfBound? (.ref x) "__ne__" [b]) P E ⟨hp, gs, dr, tk, os⟩ := by
    intro P hc
    simp only [callSpecialIfBound?, bindSpecialIfBound?]
    refine wpAny_holding (wpAny_bind (wpAny_bind (wpAny_bind (I.type.here ((looks_findIn X hn).here ?_)))))
    refine wpAny_bind (wpAny_askSetting (wpAny_ite ?_))
    split
    · refine wpAny_bind ?_
      rw [F.cmp_object.ne.bind (.ref x)]
      exact wpAny_pure (wpAny_pure (go hc))
    · refine wpAny_tryCatch (wpAny_bind ?_)
      rw [F.cmp_object.ne.bind (.ref x)]
      exact wpAny_pure (wpAny_pure (go hc))
  unfold tryCompare
  refine wpAny_bind (full (wpAny_mono h (fun v s' y => ?_) fun _ _ e => e))
  obtain ⟨r, rfl, q⟩ := y
  exact ⟨r, rfl, wpAny_pure q⟩
theorem neK {Q : Value → Shared → Prop} (hu : A.units + 1 < cLine) (X : K.In s.heap) (I : InstAt s.heap x ox C od) (hb : Looks (model prog w) s.heap (typeOf b) tb) (hnf : notFirst K C tb = true) (hn : findIn K (.ref C) "__ne__" = some (some (.builtin "object.__ne__")))
    (ho : mroIn K C (.type "object") = some true) (hs : findIn K (.ref C) "__eq__" = some (some (.ref f))) (hf : isFn K (.ref f) = true) (h : wpAny (model prog w) A.in1 (call (.ref f) [.ref x, b]) (NotBack Q) E s) :
    wpAny (model prog w) A (richCompare .NotEq (.ref x) b) Q E s := by
  have one : wpAny (model prog w) A (tryCompare (.ref x) "__ne__" b) (fun r s' => ∃ v, r = some v ∧ Q v s') E s := by
    refine neTry hu X I hn ho hs hf (wpAny_mono h (fun v s' y => ?_) fun _ _ e => e)
    obtain ⟨r, rfl, q⟩ := y
    exact ⟨r, rfl, _, rfl, q⟩
  unfold richCompare
  simp only [oneThing_ref]
  refine wpAny_holding (wpAny_bind (wpAny_cRoomFor (Nat.lt_of_succ_lt hu) ?_))
  rw [cmpInfo_NotEq]
  dsimp only
  refine wpAny_bind (I.type.here (wpAny_bind (hb.here ?_)))
  split
  · rename_i z
    have e : subIn K tb (.ref C) = some false := by
      rcases Bool.or_eq_true_iff.mp hnf with e | e
      · rw [beq_iff_eq.mp e] at z; simp at z
      · exact beq_iff_eq.mp e
    refine wpAny_bind ((looks_subIn X e).here ?_)
    simp only [Bool.false_eq_true, if_false]
    refine wpAny_bind (wpAny_mono one (fun r s' y => ?_) fun _ _ e => e)
    obtain ⟨v, rfl, q⟩ := y
    exact wpAny_pure q
  · refine wpAny_bind (wpAny_pure ?_)
    simp only [Bool.false_eq_true, if_false]
    refine wpAny_bind (wpAny_mono one (fun r s' y => ?_) fun _ _ e => e)
    obtain ⟨v, rfl, q⟩ := y
    exact wpAny_pure q
end
end OwnQ
end PySem
namespace Own
open PySem PySem.Spec PyProof.Rows L2
section
variable {X : Cx} {CX : CXT} {k : Nat} {C f : Addr} {fd : FuncData} {ps : List Str} {sp : Sp} {E : XK}
/-- what == and != by an own __eq__ ask of the written part -/
structure EqOwn (K : PySem.W.Frag) (C f : Addr) : Prop where
  eq : PySem.W.findIn K (.ref C) "__eq__" = some (some (.ref f))
  fn : PySem.W.isFn K (.ref f) = true
  ne : PySem.W.findIn K (.ref C) "__ne__" = some (some (.builtin "object.__ne__"))
  ob : PySem.W.mroIn K C (.type "object") = some true
def rEqO (K : PySem.W.Frag) (C : Addr) (sp : Sp) (E : XK) (flip : Bool) : R2 := fun x y H Q => ∃ (a dx : Addr) (fs : List (Str × V)) (t : Value), x = .ref a ∧ H a = some (.ins C dx fs) ∧ TyX K H y t ∧ PySem.W.notFirst K C t = true ∧
  sp [x, y] H (fun v H' => ∃ b : Bool, v = .bl b ∧ Q (.bl (xor flip b)) H') E
theorem looks_ty {pins : List (Addr × Obj)} {σ : L2.St} {H : Hp} {s : Shared} {y : V} {u t : Value} {M : Model} (I : Inv X pins σ H s) (r : RelV y u) (h : TyX X.K H y t) : PySem.W.Looks M s.heap (typeOf u) t := by
  obtain ⟨P, Z, p, _⟩ := kit_of I r h
  exact Z.ty M s.heap I.kIn p
theorem op_eqO (T : EqOwn X.K C f) (F : FnOk X.prog X.w X.K X.mg X.base CX k f fd ps sp) (hr : Room k X.A) (hb : Binds X.K fd ps []) (hx : Passes CX X E) : OpR X (compareOp .Eq) (rEqO X.K C sp E false) := by
  intro pins s σ H x y v u Q I rx ry h
  obtain ⟨a, dx, fs, t, rfl, ha, ht, hn, q⟩ := h
  cases rx
  obtain ⟨mA, J, _⟩ := ins_get I.hok ha
  obtain ⟨od, J, _⟩ := J.look
  obtain ⟨m, hF⟩ := I.fr
  show wpAny _ _ (richCompare .Eq (.ref a) u) _ _ _
  refine PySem.W.cmp_K (op := .Eq) hr.units0 hF I.ok.mod.kin J (looks_ty I ry ht) hn T.eq T.fn ?_
  have r2 : Vals [V.ref a, y] [Value.ref a, u] := .cons rfl (.cons ry .nil)
  refine wpAny_mono (run_fn (us := [.ref a, u]) F hr hb (dvs := []) .nil hx I r2 q) (fun w s' z => ?_) fun _ _ z => z
  obtain ⟨v', H', I', rv, b, ev, q'⟩ := z
  subst ev
  obtain rfl : w = Value.bool b := rv
  have e : xor false b = b := by cases b <;> rfl
  rw [e] at q'
  exact ⟨.bl b, H', I', rfl, q'⟩
theorem op_neO (T : EqOwn X.K C f) (F : FnOk X.prog X.w X.K X.mg X.base CX k f fd ps sp) (hr : Room (k + 1) X.A) (hb : Binds X.K fd ps []) (hx : Passes CX X E) : OpR X (compareOp .NotEq) (rEqO X.K C sp E true) := by
  intro pins s σ H x y v u Q I rx ry h
  obtain ⟨a, dx, fs, t, rfl, ha, ht, hn, q⟩ := h
  cases rx
  obtain ⟨mA, J, _⟩ := ins_get I.hok ha
  obtain ⟨od, J, _⟩ := J.look
  show wpAny _ _ (richCompare .NotEq (.ref a) u) _ _ _
  refine PySem.OwnQ.neK (hu_of hr) I.kIn J (looks_ty I ry ht) hn T.ne T.ob T.eq T.fn ?_
  have r2 : Vals [V.ref a, y] [Value.ref a, u] := .cons rfl (.cons ry .nil)
  have hl : ([Value.ref a, u] : List Value).length = ps.length := (Paired.length r2).symm.trans (F.len _ _ _ _ q)
  have b0 := hb s [.ref a, u] I.kIn (by simpa using hl)
  rw [List.append_nil] at b0
  refine wpAny_call (codeAny_mono (F.run X.A.in1 X.stack s H ⟨[.ref a, u], []⟩ [.ref a, u] [.ref a, y] _ E hr.in1 I.env0.in1 b0 r2 q) fun r s' z => ?_)
  cases r with
  | error e => exact hx pins σ H s e s' I z
  | ok fl =>
    cases fl with
    | ret w =>
      obtain ⟨v', H', I', rv, b, ev, q'⟩ := I.after z
      subst ev
      obtain rfl : w = Value.bool b := rv
      have e : xor true b = !b := by cases b <;> rfl
      rw [e] at q'
      exact ⟨b, rfl, .bl (!b), H', I', rfl, q'⟩
    | next => exact z.elim
    | brk => exact z.elim
    | cont => exact z.elim
end
end Own
namespace Own
open PySem PySem.Spec PyProof.Rows L2
/-- what isinstance asks of an own class -/
structure InsK (K : PySem.W.Frag) (C : Addr) : Prop where
  ha : PySem.W.findIn K (.ref C) "__class__" = some (some (.builtin "object.__class__"))
  hn : PySem.W.specialIn K (.builtin "object.__class__") "__get__" = some (some (.builtin "getset_descriptor.__get__"))
  ht : PySem.W.takesIn K (.builtin "object.__class__") = some true
  hm : PySem.W.mroIn K C (.type "object") = some true
theorem tyx_ins {K : PySem.W.Frag} {H : Hp} {a C dx : Addr} {fs : List (Str × V)} (e : H a = some (.ins C dx fs)) (cl : Cls K C) (i : InsK K C) : TyX K H (.ref a) (.ref C) := .base (.ins e cl i.ha i.hn i.ht i.hm)
end Own

/-! Own rules and mathematics: floor division by any divisor but nought; fractions in lowest terms. -/
namespace Own
open PySem PySem.Spec PyProof.Rows L2
/-- // by a divisor that isn't nought, below 2 ^ 9000 in size -/
def DivOk (_ j : Int) : Prop := j ≠ 0 ∧ j.natAbs.log2 < 9000
section
variable {X : Cx}
theorem op_fdivX : OpR X (binaryOp .FloorDiv) (rI DivOk fun i j => .int (i.fdiv j)) := opI fun i j _ _ _ _ _ hc q => floordiv_int hc.1 q (.inl (PyProof.noPylong_of_log2 hc.2))
end
theorem div_ok {i j : Int} {b : Nat} (h : j ≠ 0) (hb : j.natAbs < 2 ^ b) (h0 : 0 < b) (h9 : b ≤ 9000) : DivOk i j := ⟨h, Nat.lt_of_lt_of_le (PySem.Flt.log2_lt_of h0 hb) h9⟩
/-! ### lowest terms -/
/-- what both are divided by -/
def cg (a b : Int) : Int := if b < 0 then -((Nat.gcd a.natAbs b.natAbs : Nat) : Int) else ((Nat.gcd a.natAbs b.natAbs : Nat) : Int)
def low (a b : Int) : Int × Int := (a.fdiv (cg a b), b.fdiv (cg a b))
/-- in lowest terms, the lower one above 0 -/
def Red (p : Int × Int) : Prop := 0 < p.2 ∧ Nat.gcd p.1.natAbs p.2.natAbs = 1
theorem gcd_pos {a b : Int} (h : b ≠ 0) : 0 < Nat.gcd a.natAbs b.natAbs := Nat.gcd_pos_of_pos_right _ (by omega)
theorem cg_ne {a b : Int} (h : b ≠ 0) : cg a b ≠ 0 := by
  have := gcd_pos (a := a) h
  unfold cg
  split <;> omega
theorem cg_abs (a b : Int) : (cg a b).natAbs = Nat.gcd a.natAbs b.natAbs := by
  unfold cg
  split <;> omega
theorem cg_le {a b : Int} (h : b ≠ 0) : (cg a b).natAbs ≤ b.natAbs := by
  rw [cg_abs]
  exact Nat.le_of_dvd (by omega) (Nat.gcd_dvd_right _ _)
theorem cg_dvd (a b : Int) : cg a b ∣ a ∧ cg a b ∣ b := by
  constructor
  · rw [← Int.natAbs_dvd_natAbs, cg_abs]
    exact Nat.gcd_dvd_left _ _
  · rw [← Int.natAbs_dvd_natAbs, cg_abs]
    exact Nat.gcd_dvd_right _ _
theorem low_eqs (a b : Int) : (low a b).1 * cg a b = a ∧ (low a b).2 * cg a b = b := ⟨Int.fdiv_mul_cancel (cg_dvd a b).1, Int.fdiv_mul_cancel (cg_dvd a b).2⟩
theorem low_red {a b : Int} (h : b ≠ 0) : Red (low a b) := by
  obtain ⟨e1, e2⟩ := low_eqs a b
  have hc := cg_ne (a := a) h
  have n1 : (low a b).1.natAbs * Nat.gcd a.natAbs b.natAbs = a.natAbs := by
    rw [← cg_abs, ← Int.natAbs_mul, e1]
  have n2 : (low a b).2.natAbs * Nat.gcd a.natAbs b.natAbs = b.natAbs := by
    rw [← cg_abs, ← Int.natAbs_mul, e2]
  have g0 := gcd_pos (a := a) h
  refine ⟨?_, ?_⟩
  · generalize hx : (low a b).2 = x at e2
    unfold cg at e2
    generalize hg : ((Nat.gcd a.natAbs b.natAbs : Nat) : Int) = g at e2
    have gp : 0 < g := by omega
    split at e2
    · rename_i hb
      rcases Int.lt_trichotomy 0 x with z | z | z
      · exact z
      · rw [← z, Int.zero_mul] at e2
        omega
      · have : 0 < x * -g := Int.mul_pos_of_neg_of_neg z (by omega)
        omega
    · rename_i hb
      rcases Int.lt_trichotomy 0 x with z | z | z
      · exact z
      · rw [← z, Int.zero_mul] at e2
        omega
      · have : x * g < 0 := Int.mul_neg_of_neg_of_pos z gp
        omega
  · have d1 : (low a b).1.natAbs = a.natAbs / Nat.gcd a.natAbs b.natAbs := (Nat.div_eq_of_eq_mul_left g0 n1.symm).symm
    have d2 : (low a b).2.natAbs = b.natAbs / Nat.gcd a.natAbs b.natAbs := (Nat.div_eq_of_eq_mul_left g0 n2.symm).symm
    rw [d1, d2]
    exact Nat.coprime_div_gcd_div_gcd g0
theorem abs_le_mul {x c a : Int} (hc : c ≠ 0) (e : x * c = a) : x.natAbs ≤ a.natAbs := by
  rw [← e, Int.natAbs_mul]
  exact Nat.le_mul_of_pos_right _ (by omega)
theorem low_le {a b : Int} (h : b ≠ 0) : (low a b).1.natAbs ≤ a.natAbs ∧ (low a b).2.natAbs ≤ b.natAbs :=
  ⟨abs_le_mul (cg_ne h) (low_eqs a b).1, abs_le_mul (cg_ne h) (low_eqs a b).2⟩
/-- lowest terms are one -/
theorem red_one {p q : Int × Int} (hp : Red p) (hq : Red q) (e : p.1 * q.2 = q.1 * p.2) : p = q := by
  obtain ⟨p1, p2⟩ := p
  obtain ⟨q1, q2⟩ := q
  obtain ⟨hp0, hpg⟩ := hp
  obtain ⟨hq0, hqg⟩ := hq
  dsimp only at hp0 hpg hq0 hqg e
  have en : p1.natAbs * q2.natAbs = q1.natAbs * p2.natAbs := by rw [← Int.natAbs_mul, ← Int.natAbs_mul, e]
  have c1 : Nat.Coprime p2.natAbs p1.natAbs := by
    unfold Nat.Coprime
    rw [Nat.gcd_comm]
    exact hpg
  have c2 : Nat.Coprime q2.natAbs q1.natAbs := by
    unfold Nat.Coprime
    rw [Nat.gcd_comm]
    exact hqg
  have d1 : p2.natAbs ∣ q2.natAbs := c1.dvd_of_dvd_mul_left (by rw [en]; exact Nat.dvd_mul_left _ _)
  have d2 : q2.natAbs ∣ p2.natAbs := c2.dvd_of_dvd_mul_left (by rw [← en]; exact Nat.dvd_mul_left _ _)
  have ed := Nat.dvd_antisymm d1 d2
  have e2 : p2 = q2 := by omega
  subst e2
  have e1 : p1 = q1 := Int.eq_of_mul_eq_mul_right (by omega) e
  rw [e1]
theorem low_cross {a b c d : Int} (hb : b ≠ 0) (hd : d ≠ 0) (e : a * d = c * b) : low a b = low c d := by
  refine red_one (low_red hb) (low_red hd) ?_
  obtain ⟨a1, b1⟩ := low_eqs a b
  obtain ⟨c1, d1⟩ := low_eqs c d
  have k1 := cg_ne (a := a) hb
  have k2 := cg_ne (a := c) hd
  generalize cg a b = k at a1 b1 k1
  generalize cg c d = m at c1 d1 k2
  generalize (low a b).1 = x at a1 ⊢
  generalize (low a b).2 = y at b1 ⊢
  generalize (low c d).1 = u at c1 ⊢
  generalize (low c d).2 = v at d1 ⊢
  subst a1 b1 c1 d1
  have e' : (x * v) * (k * m) = (u * y) * (k * m) := by
    have l : x * k * (v * m) = (x * v) * (k * m) := by ac_rfl
    have r : u * m * (y * k) = (u * y) * (k * m) := by ac_rfl
    rw [← l, ← r, e]
  exact Int.eq_of_mul_eq_mul_right (Int.mul_ne_zero k1 k2) e'
theorem low_of_red {p : Int × Int} (h : Red p) : low p.1 p.2 = p := by
  refine red_one (low_red (by have := h.1; omega)) h ?_
  obtain ⟨e1, e2⟩ := low_eqs p.1 p.2
  have k := cg_ne (a := p.1) (b := p.2) (by have := h.1; omega)
  generalize hx : low p.1 p.2 = q at e1 e2
  generalize cg p.1 p.2 = c at e1 e2 k
  refine Int.eq_of_mul_eq_mul_right k ?_
  have l : q.1 * p.2 * c = (q.1 * c) * p.2 := by ac_rfl
  have r : p.1 * q.2 * c = (q.2 * c) * p.1 := by ac_rfl
  rw [l, r, e1, e2, Int.mul_comm]
theorem low_scale {a b k : Int} (hb : b ≠ 0) (hk : k ≠ 0) : low (a * k) (b * k) = low a b :=
  low_cross (Int.mul_ne_zero hb hk) hb (by ac_rfl)
/-! ### sums -/
def addL (p q : Int × Int) : Int × Int := low (p.1 * q.2 + q.1 * p.2) (p.2 * q.2)
theorem addL_red {p q : Int × Int} (hp : 0 < p.2) (hq : 0 < q.2) : Red (addL p q) := low_red (by have := Int.mul_pos hp hq; omega)
theorem addL_swap {p q r : Int × Int} (hp : 0 < p.2) (hq : 0 < q.2) (hr : 0 < r.2) : addL (addL p q) r = addL (addL p r) q := by
  have key : ∀ {x y : Int × Int}, 0 < x.2 → 0 < y.2 → addL (addL p x) y = low (p.1 * x.2 * y.2 + x.1 * p.2 * y.2 + y.1 * (p.2 * x.2)) (p.2 * x.2 * y.2) := by
    intro x y hx hy
    have hpx : p.2 * x.2 ≠ 0 := by have := Int.mul_pos hp hx; omega
    have hb : (addL p x).2 * y.2 ≠ 0 := by have := Int.mul_pos (addL_red hp hx).1 hy; omega
    obtain ⟨e1, e2⟩ := low_eqs (p.1 * x.2 + x.1 * p.2) (p.2 * x.2)
    have k := cg_ne (a := p.1 * x.2 + x.1 * p.2) hpx
    show low ((addL p x).1 * y.2 + y.1 * (addL p x).2) ((addL p x).2 * y.2) = _
    unfold addL at hb ⊢
    generalize hl : low (p.1 * x.2 + x.1 * p.2) (p.2 * x.2) = t at e1 e2 hb
    generalize cg (p.1 * x.2 + x.1 * p.2) (p.2 * x.2) = c at e1 e2 k
    rw [← low_scale hb k]
    have f1 : (t.1 * y.2 + y.1 * t.2) * c = p.1 * x.2 * y.2 + x.1 * p.2 * y.2 + y.1 * (p.2 * x.2) := by
      rw [Int.add_mul]
      have g1 : t.1 * y.2 * c = (t.1 * c) * y.2 := by ac_rfl
      have g2 : y.1 * t.2 * c = y.1 * (t.2 * c) := by ac_rfl
      rw [g1, g2, e1, e2, Int.add_mul]
    have f2 : t.2 * y.2 * c = p.2 * x.2 * y.2 := by
      have g1 : t.2 * y.2 * c = (t.2 * c) * y.2 := by ac_rfl
      rw [g1, e2]
    rw [f1, f2]
  rw [key hq hr, key hr hq]
  have f1 : p.1 * q.2 * r.2 + q.1 * p.2 * r.2 + r.1 * (p.2 * q.2) = p.1 * r.2 * q.2 + r.1 * p.2 * q.2 + q.1 * (p.2 * r.2) := by
    have a1 : p.1 * q.2 * r.2 = p.1 * r.2 * q.2 := by ac_rfl
    have a2 : q.1 * p.2 * r.2 = q.1 * (p.2 * r.2) := by ac_rfl
    have a3 : r.1 * (p.2 * q.2) = r.1 * p.2 * q.2 := by ac_rfl
    rw [a1, a2, a3]
    ac_rfl
  have f2 : p.2 * q.2 * r.2 = p.2 * r.2 * q.2 := by ac_rfl
  rw [f1, f2]
def sumL (l : List (Int × Int)) (e : Int × Int) : Int × Int := l.foldl addL e
theorem sumL_pos : ∀ (l : List (Int × Int)) (e : Int × Int), 0 < e.2 → (∀ p ∈ l, 0 < p.2) → 0 < (sumL l e).2
  | [], _, h, _ => h
  | p :: l, e, h, hl => sumL_pos l (addL e p) (addL_red h (hl p List.mem_cons_self)).1 fun q hq => hl q (List.mem_cons_of_mem _ hq)
theorem sumL_front : ∀ (l : List (Int × Int)) (e p : Int × Int), 0 < e.2 → 0 < p.2 → (∀ q ∈ l, 0 < q.2) → sumL l (addL e p) = addL (sumL l e) p
  | [], _, _, _, _, _ => rfl
  | q :: l, e, p, he, hp, hl => by
    have hq := hl q List.mem_cons_self
    show sumL l (addL (addL e p) q) = addL (sumL l (addL e q)) p
    rw [addL_swap he hp hq, sumL_front l (addL e q) p (addL_red he hq).1 hp fun x hx => hl x (List.mem_cons_of_mem _ hx)]
theorem sumL_rev : ∀ (l : List (Int × Int)) (e : Int × Int), 0 < e.2 → (∀ q ∈ l, 0 < q.2) → sumL l.reverse e = sumL l e
  | [], _, _, _ => rfl
  | p :: l, e, he, hl => by
    have hp := hl p List.mem_cons_self
    have hl' : ∀ q ∈ l, 0 < q.2 := fun q hq => hl q (List.mem_cons_of_mem _ hq)
    rw [List.reverse_cons]
    show List.foldl addL e (l.reverse ++ [p]) = sumL l (addL e p)
    rw [List.foldl_append]
    show addL (sumL l.reverse e) p = _
    rw [sumL_rev l e he hl', sumL_front l e p he hp hl']
/-! ### sizes -/
def Bd (n : Nat) (p : Int × Int) : Prop := p.1.natAbs < 2 ^ n ∧ p.2.natAbs < 2 ^ n
theorem Bd.mono {n m : Nat} {p : Int × Int} (h : Bd n p) (k : n ≤ m) : Bd m p := ⟨Nat.lt_of_lt_of_le h.1 (Nat.pow_le_pow_right (by decide) k), Nat.lt_of_lt_of_le h.2 (Nat.pow_le_pow_right (by decide) k)⟩
theorem bd_low {n : Nat} {a b : Int} (h : b ≠ 0) (ha : a.natAbs < 2 ^ n) (hb : b.natAbs < 2 ^ n) : Bd n (low a b) := ⟨Nat.lt_of_le_of_lt (low_le h).1 ha, Nat.lt_of_le_of_lt (low_le h).2 hb⟩
theorem mul_lt {i j : Int} {a b : Nat} (ha : i.natAbs < 2 ^ a) (hb : j.natAbs < 2 ^ b) : (i * j).natAbs < 2 ^ (a + b) := wide_lt ha hb
theorem add_lt {i j : Int} {a : Nat} (ha : i.natAbs < 2 ^ a) (hb : j.natAbs < 2 ^ a) : (i + j).natAbs < 2 ^ (a + 1) ∧ (i - j).natAbs < 2 ^ (a + 1) := by
  rw [Nat.pow_succ]
  omega
theorem bd_add {n m : Nat} {p q : Int × Int} (hp : Bd n p) (hq : Bd m q) (h1 : 0 < p.2) (h2 : 0 < q.2) : Bd (n + m + 1) (addL p q) := by
  refine bd_low (by have := Int.mul_pos h1 h2; omega) ?_ ?_
  · exact (add_lt (mul_lt hp.1 hq.2) (by rw [Nat.add_comm]; exact mul_lt hq.1 hp.2)).1
  · exact Nat.lt_of_lt_of_le (mul_lt hp.2 hq.2) (Nat.pow_le_pow_right (by decide) (by omega))
/-- Euclid's rest -/
theorem gcd_step {a b : Nat} : Nat.gcd b (a % b) = Nat.gcd a b := by
  rw [Nat.gcd_comm b (a % b), ← Nat.gcd_rec, Nat.gcd_comm]
end Own

/-! Own rules: repr and str of an instance with own __repr__, __str__; a text times 0 or 1; isinstance of a caught own exception that has fields. -/
namespace Own
open PySem PySem.Spec PyProof.Rows L2
section
variable {X : Cx} {CX : CXT} {k : Nat} {C f : Addr} {fd : FuncData} {ps : List Str} {sp : Sp} {E : XK}
/-- what repr or str by an own def asks of the written part -/
structure TxtOwn (K : PySem.W.Frag) (C f : Addr) (nm : Str) : Prop where
  fd : PySem.W.findIn K (.ref C) nm = some (some (.ref f))
  fn : PySem.W.isFn K (.ref f) = true
def rTxO (C : Addr) (sp : Sp) (E : XK) : List V → Hp → VK → Prop := fun xs H Q => ∃ (a dx : Addr) (fs : List (Str × V)), xs = [.ref a] ∧ H a = some (.ins C dx fs) ∧
  sp [.ref a] H (fun v H' => ∃ y : Str, v = .str y ∧ Q (.str y) H') E
theorem call_reprO (T : TxtOwn X.K C f "__repr__") (F : FnOk X.prog X.w X.K X.mg X.base CX k f fd ps sp) (hr : Room (k + 1) X.A) (hb : Binds X.K fd ps []) (hx : Passes CX X E) : CallR X (.builtin "repr") (rTxO C sp E) := by
  intro pins s σ H xs us Q I r h
  obtain ⟨a, dx, fs, rfl, ha, q⟩ := h
  obtain ⟨mA, J, _⟩ := ins_get I.hok ha
  obtain ⟨od, J, _⟩ := J.look
  obtain ⟨m, hF⟩ := I.fr
  obtain ⟨u, rfl, ru⟩ := vals1 r
  cases ru
  have r2 : Vals [V.ref a] [Value.ref a] := .cons rfl .nil
  refine PySem.W.repr_K hr.in1.units0 hF I.ok.mod.kin J T.fd T.fn ?_
  have hl : ([Value.ref a] : List Value).length = ps.length := (Paired.length r2).symm.trans (F.len _ _ _ _ q)
  have b0 := hb s [.ref a] I.kIn (by simpa using hl)
  rw [List.append_nil] at b0
  refine wpAny_call (codeAny_mono (F.run X.A.in1 X.stack s H ⟨[.ref a], []⟩ [.ref a] [.ref a] _ E hr.in1 I.env0.in1 b0 r2 q) fun r s' z => ?_)
  cases r with
  | error e => exact hx pins σ H s e s' I z
  | ok fl =>
    cases fl with
    | ret w =>
      obtain ⟨v', H', I', rv, y, ev, q'⟩ := I.after z
      subst ev
      obtain ⟨t, rfl⟩ := rv
      exact ⟨.str y, H', I', ⟨t, rfl⟩, q'⟩
    | next => exact z.elim
    | brk => exact z.elim
    | cont => exact z.elim
theorem call_strO (T : TxtOwn X.K C f "__str__") (F : FnOk X.prog X.w X.K X.mg X.base CX k f fd ps sp) (hr : Room (k + 2) X.A) (hb : Binds X.K fd ps []) (hx : Passes CX X E) : CallR X (.type "str") (rTxO C sp E) := by
  intro pins s σ H xs us Q I r h
  obtain ⟨a, dx, fs, rfl, ha, q⟩ := h
  obtain ⟨mA, J, _⟩ := ins_get I.hok ha
  obtain ⟨od, J, _⟩ := J.look
  obtain ⟨u, rfl, ru⟩ := vals1 r
  cases ru
  have r2 : Vals [V.ref a] [Value.ref a] := .cons rfl .nil
  refine PySem.W.kso_call hr.in1.in1.units0 I.kIn J T.fd T.fn ?_
  have hl : ([Value.ref a] : List Value).length = ps.length := (Paired.length r2).symm.trans (F.len _ _ _ _ q)
  have b0 := hb s [.ref a] I.kIn (by simpa using hl)
  rw [List.append_nil] at b0
  refine wpAny_call (codeAny_mono (F.run X.A.in1.in1 X.stack s H ⟨[.ref a], []⟩ [.ref a] [.ref a] _ E hr.in1.in1 I.env0.in1.in1 b0 r2 q) fun r s' z => ?_)
  cases r with
  | error e => exact hx pins σ H s e s' I z
  | ok fl =>
    cases fl with
    | ret w =>
      obtain ⟨v', H', I', rv, y, ev, q'⟩ := I.after z
      subst ev
      obtain ⟨t, rfl⟩ := rv
      exact ⟨.str y, H', I', ⟨t, rfl⟩, q'⟩
    | next => exact z.elim
    | brk => exact z.elim
    | cont => exact z.elim
/-- a text times int(a truth) -/
theorem op_mul01 : OpR X (binaryOp .Mult) (fun x y H Q => ∃ (z : Str) (n : Int), x = .str z ∧ y = .int n ∧ (n = 0 ∨ n = 1) ∧ Q (.str (if n = 1 then z else Str.empty)) H) := by
  intro pins s σ H x y v u Q I rx ry h
  obtain ⟨z, n, rfl, rfl, hn, q⟩ := h
  obtain ⟨t, rfl⟩ := rx
  obtain ⟨t', rfl⟩ := ry
  rcases hn with rfl | rfl
  · exact PySem.P.mul_str_none (by decide) (by decide) ⟨.str Str.empty, H, I.tok _, ⟨_, rfl⟩, q⟩
  · exact PySem.P.mul_str (by decide) (fun _ h => by simp at h) (fun _ h => by simp at h) (by rw [if_neg (by decide), if_pos (by rfl)]; exact ⟨.str z, H, I, ⟨_, rfl⟩, q⟩)
end
/-- isinstance(e, c), e the caught exception, of the class D, with the dict d -/
def rIsX (K : PySem.W.Frag) (D a : Addr) (cls : Value) (d : Option Addr) : List V → Hp → VK → Prop := fun xs H Q => ∃ (c : V) (cv : Value) (b : Bool) (dd : Addr) (fs : List (Str × V)), xs = [.ref a, c] ∧ (∀ u, RelV c u → u = cv) ∧ cls = .ref D ∧ d = some dd ∧ H dd = some (.xd fs) ∧
  PySem.W.kitOne K (.ref D) cv = some b ∧ Q (.bl b) H
theorem call_isX {X : Cx} {a D : Addr} {oe : Obj} {cls : Value} {d : Option Addr} {pn : List (Addr × Obj)} (C : ExcC X.K D) (hz : Zc cls d oe) (hf : ∃ vs, oe.data = .fields vs) : CallR (X.suite a ((a, oe) :: pn)) (.builtin "isinstance") (rIsX X.K D a cls d) := by
  intro pins s σ H xs us Q I r h
  obtain ⟨c, cv, b, dd, fs, rfl, hcv, ec, ed, ea, e, q⟩ := h
  subst ec
  subst ed
  obtain ⟨u1, u2, rfl, rx, rt⟩ := vals2 r
  cases rx
  have e2 := hcv _ rt
  subst e2
  obtain ⟨hget, _⟩ := I.pin (a, oe) (List.mem_append_left _ List.mem_cons_self)
  obtain ⟨vs, hv⟩ := hf
  have hx : ObjOk X.prog X.w H s.heap dd (.xd fs) := I.hok dd _ ea
  obtain ⟨mA, hns, hr⟩ := hx
  obtain ⟨od, ho, hl⟩ := lookIn_ns hns
  have J : PySem.W.InstAt s.heap a oe D (some od) := ⟨hget, hz.1, by unfold PySem.W.notCls; rw [hv] <;> rfl, by rw [hz.2]; exact ho⟩
  have hc : (PySem.W.clsIn X.K D).isSome = true := by
    obtain ⟨cd, hc, _⟩ := PySem.W.any_some C.hd
    rw [hc]
    rfl
  exact PySem.W.kia_one (PySem.W.kitx_exc hc C.hg C.hk C.hs C.ha C.hn C.ht C.hm) I.kIn J e (fun z => nomatch z) fun tk => ⟨.bl b, H, I.kept (t' := tk) fun _ _ z => z, rfl, q⟩
end Own

/-! Law k03 over the landed shares: by hand, over the layer. -/
namespace Own
open PySem PySem.Spec PyProof.Rows L2
/-! ### the text -/
/-- the k-th block of a statement -/
def blkOf (s : Stmt) (k : Nat) : List Stmt := match s with
  | .If _ a b _ => if k = 0 then a else b
  | .For _ _ a _ _ => a
  | .While _ a _ _ => a
  | .Try a hs _ _ _ => match k, hs with
    | 0, _ => a
    | j + 1, hs => match hs[j]? with
      | some (.ExceptHandler _ _ b _) => b
      | none => []
  | _ => []
abbrev noE : Expr := .Constant .none 0 ⟨0, 0, 0, 0⟩
/-- a statement's own expression; the k-th part of an expression -/
def rootE (s : Stmt) : Expr := match s with
  | .Assign _ v _ => v
  | .Return (some v) _ => v
  | .Expr v _ => v
  | .AugAssign _ _ v _ => v
  | .If t _ _ _ => t
  | .While t _ _ _ => t
  | .For _ i _ _ _ => i
  | _ => noE
def subE (e : Expr) (k : Nat) : Expr := match e with
  | .BinOp a _ b _ => if k = 0 then a else b
  | .BoolOp _ vs _ => vs.getD k noE
  | .UnaryOp _ a _ => a
  | .Compare a _ cs _ => (a :: cs).getD k noE
  | .Call f as kws _ => (f :: (as ++ kws.map (·.value))).getD k noE
  | .Attribute a _ _ => a
  | .Subscript a b _ => if k = 0 then a else b
  | .Tuple es _ _ => es.getD k noE
  | .List es _ => es.getD k noE
  | .IfExp c a b _ => [c, a, b].getD k noE
  | .Slice a b c _ => ([a, b, c].getD k none).getD noE
  | .ListComp a gs _ _ => match gs with
    | g :: _ => ([a, g.iter, g.target] ++ g.ifs).getD k noE
    | [] => noE
  | _ => noE
def lcScope (e : Expr) : Scope := match e with
  | .ListComp _ _ sc _ => sc
  | _ => { kind := .function, names := [], isGenerator := false, isCoroutine := false }
def lcIfs (e : Expr) : List Expr := match e with
  | .ListComp _ (g :: _) _ _ => g.ifs
  | _ => []
def topS (i : Nat) : Stmt := PySem.Challenge.pw_voicefold_k03_shares_made.main.body.getD i (.Pass ⟨0, 0, 0, 0⟩)
abbrev s_PollError_init : Stmt := inClass (topS 3) 0
theorem sc_PollError_init : FnScope ["self", "why"] ["self", "why"] (defScope s_PollError_init) := ⟨rfl, rfl, rfl, by decide +kernel, rfl, by decide +kernel, by decide +kernel⟩
abbrev s_NoShare_init : Stmt := inClass (topS 4) 0
theorem sc_NoShare_init : FnScope ["self", "num", "over"] ["self", "num", "over"] (defScope s_NoShare_init) := ⟨rfl, rfl, rfl, by decide +kernel, rfl, by decide +kernel, by decide +kernel⟩
abbrev s_Share_init : Stmt := inClass (topS 6) 0
theorem sc_Share_init : FnScope ["self", "num", "over", "common"] ["self", "num", "over"] (defScope s_Share_init) := ⟨rfl, rfl, rfl, by decide +kernel, rfl, by decide +kernel, by decide +kernel⟩
abbrev s_Share_eq : Stmt := inClass (topS 6) 1
theorem sc_Share_eq : FnScope ["self", "other"] ["self", "other"] (defScope s_Share_eq) := ⟨rfl, rfl, rfl, by decide +kernel, rfl, by decide +kernel, by decide +kernel⟩
abbrev s_Share_repr : Stmt := inClass (topS 6) 2
theorem sc_Share_repr : FnScope ["self"] ["self"] (defScope s_Share_repr) := ⟨rfl, rfl, rfl, by decide +kernel, rfl, by decide +kernel, by decide +kernel⟩
abbrev s_Share_str : Stmt := inClass (topS 6) 3
theorem sc_Share_str : FnScope ["self"] ["self"] (defScope s_Share_str) := ⟨rfl, rfl, rfl, by decide +kernel, rfl, by decide +kernel, by decide +kernel⟩
abbrev s_law_cell_at : Stmt := topS 8
theorem sc_law_cell_at : FnScope ["_law_script", "_law_k"] ["_law_script", "_law_k"] (defScope s_law_cell_at) := ⟨rfl, rfl, rfl, by decide +kernel, rfl, by decide +kernel, by decide +kernel⟩
abbrev s_law_well : Stmt := topS 9
theorem sc_law_well : FnScope ["_law_cell"] ["_law_cell"] (defScope s_law_well) := ⟨rfl, rfl, rfl, by decide +kernel, rfl, by decide +kernel, by decide +kernel⟩
abbrev s_law_draw : Stmt := topS 10
theorem sc_law_draw : FnScope ["_law_well_here", "_law_size", "_law_digit", "_law_mix"] ["_law_well_here", "_law_size"] (defScope s_law_draw) := ⟨rfl, rfl, rfl, by decide +kernel, rfl, by decide +kernel, by decide +kernel⟩
abbrev s_law_one : Stmt := topS 11
theorem sc_law_one : FnScope ["_law_well_here", "_law_some"] ["_law_well_here", "_law_some"] (defScope s_law_one) := ⟨rfl, rfl, rfl, by decide +kernel, rfl, by decide +kernel, by decide +kernel⟩
abbrev s_law_lowest : Stmt := topS 12
theorem sc_law_lowest : FnScope ["_law_top", "_law_ground", "_law_one_here", "_law_rest"] ["_law_top", "_law_ground"] (defScope s_law_lowest) := ⟨rfl, rfl, rfl, by decide +kernel, rfl, by decide +kernel, by decide +kernel⟩
abbrev s_law_number : Stmt := topS 13
theorem sc_law_number : FnScope ["_law_well_here", "_law_far"] ["_law_well_here"] (defScope s_law_number) := ⟨rfl, rfl, rfl, by decide +kernel, rfl, by decide +kernel, by decide +kernel⟩
abbrev s_law_refused : Stmt := topS 14
theorem sc_law_refused : FnScope ["_law_first", "_law_way", "_law_found", "e"] ["_law_first", "_law_way"] (defScope s_law_refused) := ⟨rfl, rfl, rfl, by decide +kernel, rfl, by decide +kernel, by decide +kernel⟩
abbrev s_law_shown : Stmt := topS 15
theorem sc_law_shown : FnScope ["_law_due", "_law_text"] ["_law_due"] (defScope s_law_shown) := ⟨rfl, rfl, rfl, by decide +kernel, rfl, by decide +kernel, by decide +kernel⟩
abbrev s_law : Stmt := topS 16
theorem sc_law : FnScope ["_law_script", "_law_cell", "_law_well_here", "_law_first", "_law_second", "_law_part", "_law_due", "_law_some", "_law_share", "_law_whole", "_law_way"] ["_law_script"] (defScope s_law) := ⟨rfl, rfl, rfl, by decide +kernel, rfl, by decide +kernel, by decide +kernel⟩
structure Txt (K : PySem.W.Frag) (mg : Str → Option Value) where
  f_PollError_init : Addr
  fd_PollError_init : FuncData
  F_PollError_init : FunD K "__init__" "PollError.__init__" (defArgs s_PollError_init) (defBody s_PollError_init) (defScope s_PollError_init) [.str ""] [] f_PollError_init fd_PollError_init
  gkb_PollError_init_2 : List Value → List Value → List Value
  kb_PollError_init_2 : KBn K fd_PollError_init ["self", "why"] 2 [] gkb_PollError_init_2 (fun vs zs => vs)
  f_NoShare_init : Addr
  fd_NoShare_init : FuncData
  F_NoShare_init : Fun K "__init__" "NoShare.__init__" s_NoShare_init f_NoShare_init fd_NoShare_init
  gkb_NoShare_init_2_over : List Value → List Value → List Value
  kb_NoShare_init_2_over : KBn K fd_NoShare_init ["self", "num", "over"] 2 ["over"] gkb_NoShare_init_2_over (fun vs zs => vs ++ ((zs.drop 0).take 1))
  f_Share_init : Addr
  fd_Share_init : FuncData
  F_Share_init : FunD K "__init__" "Share.__init__" (defArgs s_Share_init) (defBody s_Share_init) (defScope s_Share_init) [.int 1] [] f_Share_init fd_Share_init
  gkb_Share_init_3 : List Value → List Value → List Value
  kb_Share_init_3 : KBn K fd_Share_init ["self", "num", "over"] 3 [] gkb_Share_init_3 (fun vs zs => vs)
  gkb_Share_init_1_over_num : List Value → List Value → List Value
  kb_Share_init_1_over_num : KBn K fd_Share_init ["self", "num", "over"] 1 ["over", "num"] gkb_Share_init_1_over_num (fun vs zs => vs ++ ((zs.drop 1).take 1 ++ ((zs.drop 0).take 1)))
  gkb_Share_init_1_num_over : List Value → List Value → List Value
  kb_Share_init_1_num_over : KBn K fd_Share_init ["self", "num", "over"] 1 ["num", "over"] gkb_Share_init_1_num_over (fun vs zs => vs ++ ((zs.drop 0).take 1 ++ ((zs.drop 1).take 1)))
  gkb_Share_init_2 : List Value → List Value → List Value
  kb_Share_init_2 : KBn K fd_Share_init ["self", "num", "over"] 2 [] gkb_Share_init_2 (fun vs zs => vs ++ ([V.int 1]))
  f_Share_eq : Addr
  fd_Share_eq : FuncData
  F_Share_eq : Fun K "__eq__" "Share.__eq__" s_Share_eq f_Share_eq fd_Share_eq
  b_Share_eq : Binds K fd_Share_eq ["self", "other"] []
  f_Share_repr : Addr
  fd_Share_repr : FuncData
  F_Share_repr : Fun K "__repr__" "Share.__repr__" s_Share_repr f_Share_repr fd_Share_repr
  b_Share_repr : Binds K fd_Share_repr ["self"] []
  f_Share_str : Addr
  fd_Share_str : FuncData
  F_Share_str : Fun K "__str__" "Share.__str__" s_Share_str f_Share_str fd_Share_str
  b_Share_str : Binds K fd_Share_str ["self"] []
  f_law_cell_at : Addr
  fd_law_cell_at : FuncData
  F_law_cell_at : Fun K "_law_cell_at" "_law_cell_at" s_law_cell_at f_law_cell_at fd_law_cell_at
  b_law_cell_at : Binds K fd_law_cell_at ["_law_script", "_law_k"] []
  g_law_cell_at : mg "_law_cell_at" = some (.ref f_law_cell_at)
  f_law_well : Addr
  fd_law_well : FuncData
  F_law_well : Fun K "_law_well" "_law_well" s_law_well f_law_well fd_law_well
  b_law_well : Binds K fd_law_well ["_law_cell"] []
  g_law_well : mg "_law_well" = some (.ref f_law_well)
  f_law_draw : Addr
  fd_law_draw : FuncData
  F_law_draw : Fun K "_law_draw" "_law_draw" s_law_draw f_law_draw fd_law_draw
  b_law_draw : Binds K fd_law_draw ["_law_well_here", "_law_size"] []
  g_law_draw : mg "_law_draw" = some (.ref f_law_draw)
  f_law_one : Addr
  fd_law_one : FuncData
  F_law_one : Fun K "_law_one" "_law_one" s_law_one f_law_one fd_law_one
  b_law_one : Binds K fd_law_one ["_law_well_here", "_law_some"] []
  g_law_one : mg "_law_one" = some (.ref f_law_one)
  f_law_lowest : Addr
  fd_law_lowest : FuncData
  F_law_lowest : Fun K "_law_lowest" "_law_lowest" s_law_lowest f_law_lowest fd_law_lowest
  b_law_lowest : Binds K fd_law_lowest ["_law_top", "_law_ground"] []
  g_law_lowest : mg "_law_lowest" = some (.ref f_law_lowest)
  f_law_number : Addr
  fd_law_number : FuncData
  F_law_number : Fun K "_law_number" "_law_number" s_law_number f_law_number fd_law_number
  b_law_number : Binds K fd_law_number ["_law_well_here"] []
  g_law_number : mg "_law_number" = some (.ref f_law_number)
  f_law_refused : Addr
  fd_law_refused : FuncData
  F_law_refused : Fun K "_law_refused" "_law_refused" s_law_refused f_law_refused fd_law_refused
  b_law_refused : Binds K fd_law_refused ["_law_first", "_law_way"] []
  g_law_refused : mg "_law_refused" = some (.ref f_law_refused)
  f_law_shown : Addr
  fd_law_shown : FuncData
  F_law_shown : Fun K "_law_shown" "_law_shown" s_law_shown f_law_shown fd_law_shown
  b_law_shown : Binds K fd_law_shown ["_law_due"] []
  g_law_shown : mg "_law_shown" = some (.ref f_law_shown)
  f_law : Addr
  fd_law : FuncData
  F_law : Fun K "law" "law" s_law f_law fd_law
  b_law : Binds K fd_law ["_law_script"] []
  g_law : mg "law" = some (.ref f_law)
  C_PollError : Addr
  k_PollError : mg "PollError" = some (.ref C_PollError)
  ex_PollError : ExK K C_PollError f_PollError_init
  xf_PollError : XfC K C_PollError
  nf_PollError_why : PySem.W.findIn K (.ref C_PollError) "why" = some none
  rd_PollError : PySem.W.readsIn K C_PollError (.type "type") = true
  ga_PollError : PySem.W.specialIn K (.ref C_PollError) "__getattribute__" = some (some (.builtin "type.__getattribute__"))
  fc_PollError_init : PySem.W.findCls K (.ref C_PollError) (.type "type") "__init__" = some (.val (.ref f_PollError_init))
  C_NoShare : Addr
  k_NoShare : mg "NoShare" = some (.ref C_NoShare)
  ex_NoShare : ExK K C_NoShare f_NoShare_init
  xf_NoShare : XfC K C_NoShare
  nf_NoShare_why : PySem.W.findIn K (.ref C_NoShare) "why" = some none
  nf_NoShare_num : PySem.W.findIn K (.ref C_NoShare) "num" = some none
  nf_NoShare_over : PySem.W.findIn K (.ref C_NoShare) "over" = some none
  ic_NoShare : ExcC K C_NoShare
  C_Share : Addr
  k_Share : mg "Share" = some (.ref C_Share)
  cl_Share : Cls K C_Share
  n_Share_num : NoAttr K C_Share "num"
  n_Share_over : NoAttr K C_Share "over"
  mk_Share : Mk K C_Share f_Share_init
  tx_Share_repr : TxtOwn K C_Share f_Share_repr "__repr__"
  tx_Share_str : TxtOwn K C_Share f_Share_str "__str__"
  eo_Share : EqOwn K C_Share f_Share_eq
  is_Share : InsK K C_Share
  ki_Share : PySem.W.kitOne K (.ref C_Share) (.ref C_Share) = some true
  nf_Share_tuple : PySem.W.notFirst K C_Share (.type "tuple") = true
  nf_Share_str : PySem.W.notFirst K C_Share (.type "str") = true
  nf_Share_int : PySem.W.notFirst K C_Share (.type "int") = true
  ki_Share_tuple : PySem.W.kitOne K (.type "tuple") (.ref C_Share) = some false
  ki_Share_str : PySem.W.kitOne K (.type "str") (.ref C_Share) = some false
  ki_Share_int : PySem.W.kitOne K (.type "int") (.ref C_Share) = some false
  te_NoShare_PollError : PySem.W.exmOne K (.ref C_NoShare) (.ref C_PollError) = some true
  kt_NoShare_NoShare : PySem.W.kitOne K (.ref C_NoShare) (.ref C_NoShare) = some true
  vV : PySem.W.findCls K (.type "ValueError") (.type "type") "__init__" = some (.val (.builtin "ValueError.__init__"))
  gcd : mg "gcd" = some (.builtin "math.gcd")
  z_ValueError : mg "ValueError" = none
  z_isinstance : mg "isinstance" = none
  z_str : mg "str" = none
  z_len : mg "len" = none
  z_int : mg "int" = none
  z_abs : mg "abs" = none
  z_repr : mg "repr" = none
  z_range : mg "range" = none
/-! ### wells -/
/-- a well's three numbers, k a bound of how often it was drawn from -/
def WellL (w : List V) (k : Nat) : Prop := ∃ a b c : Int, w = [.int a, .int b, .int c] ∧ 0 ≤ a ∧ 0 ≤ b ∧ b < 2147483629 ∧ 0 ≤ c ∧ c ≤ k
theorem WellL.mono {w : List V} {j k : Nat} (h : WellL w j) (hk : j ≤ k) : WellL w k := by
  obtain ⟨a, b, c, e, h1, h2, h3, h4, h5⟩ := h
  exact ⟨a, b, c, e, h1, h2, h3, h4, by omega⟩
theorem mix_mod (x m : Int) (h : 0 < m) : 0 ≤ x % m ∧ x % m < m := ⟨Int.emod_nonneg x (by omega), Int.emod_lt_of_pos x h⟩
theorem div_nn {a n : Int} (h : 0 ≤ a) (hn : 0 < n) : 0 ≤ a / n := Int.ediv_nonneg h (by omega)
theorem same_upd {H : Hp} {p : Addr} {o : HO} (h : H p = none) : Same H (upd H p o) := fun b x e => by
  rw [upd_ne (ne_of_none e h)]
  exact e
theorem same_mut {H H' : Hp} {p : Addr} {o : HO} (e : Same H H') (h : H p = none) : Same H (upd H' p o) := fun b x q => by
  rw [upd_ne (ne_of_none q h)]
  exact e b x q
theorem line_of {n : Nat} (h : n ≤ 1000) : n ≤ sizeLine := Nat.le_of_lt (small1000 h)
/-- what was tracked besides p stays -/
def But (p : Addr) (H H' : Hp) : Prop := ∀ b o, b ≠ p → H b = some o → H' b = some o
theorem But.refl (p : Addr) (H : Hp) : But p H H := fun _ _ _ h => h
theorem But.upd {p : Addr} {H H' : Hp} (e : But p H H') (o : HO) : But p H (upd H' p o) := fun b u hb q => by
  rw [upd_ne hb]
  exact e b u hb q
theorem But.new {p q : Addr} {H H' : Hp} (e : But p H H') (n : H' q = none) (o : HO) : But p H (L2.upd H' q o) := fun b u hb h => by
  have h2 := e b u hb h
  rw [upd_ne (ne_of_none h2 n)]
  exact h2
theorem But.same {p : Addr} {H H1 H2 : Hp} (e : But p H H1) (s : Same H1 H2) : But p H H2 := fun b u hb h => s b u (e b u hb h)
theorem But.trans {p : Addr} {H H1 H2 : Hp} (e : But p H H1) (f : But p H1 H2) : But p H H2 := fun b u hb h => f b u hb (e b u hb h)
/-- p new to H0 -/
theorem But.ext {p : Addr} {H0 H H' : Hp} (s : Same H0 H) (n : H0 p = none) (e : But p H H') : Same H0 H' := fun b u h => e b u (ne_of_none h n) (s b u h)
theorem size_ok {n : Int} (h0 : 0 ≤ n) (h : n ≤ 1000) : n.natAbs < 2 ^ 8000 := Nat.lt_of_le_of_lt (show n.natAbs ≤ 1000 by omega) (by decide +kernel)
theorem cut_ints (ns : List Int) (lo hi : Option Int) : ∃ ms : List Int, cutV (ns.map V.int) lo hi = ms.map V.int ∧ ms.length ≤ ns.length := by
  refine ⟨(ns.drop (HT.sIx (ns.map V.int).length 0 lo)).take (HT.sIx (ns.map V.int).length (ns.map V.int).length hi - HT.sIx (ns.map V.int).length 0 lo), ?_, ?_⟩
  · unfold cutV
    rw [← List.map_drop, ← List.map_take]
  · rw [List.length_take, List.length_drop]
    omega
theorem take_more {α : Type} : ∀ {l : List α} {i : Nat} {x : α}, l[i]? = some x → l.take (i + 1) = l.take i ++ [x]
  | [], i, x, h => by simp at h
  | a :: l, 0, x, h => by
    have e : a = x := Option.some.inj h
    subst e
    rfl
  | a :: l, i + 1, x, h => by
    have ih := take_more (l := l) (i := i) (x := x) h
    show a :: l.take (i + 1) = a :: l.take i ++ [x]
    rw [ih]
    rfl
section
variable {P : Program} {w : World} {K : PySem.W.Frag} {mg : Str → Option Value} {base : Heap}
/-! ### the law's own small defs -/
def sp_law_cell_at (K : PySem.W.Frag) : Sp := fun vs H Q _ => ∃ (a : Addr) (ns : List Int), vs = [.ref a, .int 0] ∧ SqL K H a (ns.map V.int) ∧ ns.length ≤ 63 ∧ ∀ z : Int, Q (.int z) H
theorem ok_law_cell_at (T : Txt K mg) : FnOk P w K mg base CX0 1 T.f_law_cell_at T.fd_law_cell_at ["_law_script", "_law_k"] (sp_law_cell_at K) := by
  refine T.F_law_cell_at.ok sc_law_cell_at (fun vs H Q E h => ?_) (fun cdv A outer s H vs Q E hr h => ?_)
  · obtain ⟨a, ns, rfl, _⟩ := h
    rfl
  · obtain ⟨a, ns, rfl, hS, hlen, q⟩ := h
    refine ⟨_, (pss_cons
 (ps_if (pt_cmpR op_lt (pv 1) (pe_callB call_len_seq (by rfl) T.z_len (by decide +kernel) (pa_cons (pv 0) pa_nil)) (nomark _))
 (pss_one
 (ps_ret (pe_ix ix_list (pv 0) (pv 1) (fun _ _ => rfl))))
 pss_nil)
 (pss_one
 (ps_ret pe_int))), ?_⟩
    refine ⟨.int 0, rfl, .ref a, rfl, a, ns.map V.int, rfl, .inl hS, 0, _, rfl, rfl, _, rfl, ite2 (fun e => ?_) (fun e => ?_)⟩
    · have e0 := of_decide_eq_true e
      cases ns with
      | nil => simp at e0
      | cons z r => exact ⟨.ref a, rfl, .int 0, rfl, a, _, 0, .int z, rfl, rfl, hS, atI_nat (j := 0) rfl, q z⟩
    · exact q 0
def sp_law_well : Sp := fun vs H Q _ => ∃ z : Int, vs = [.int z] ∧ ∀ (p : Addr) (x : List V) (H' : Hp), H p = none → Same H H' → H' p = some (.lst x) → WellL x 0 → Q (.ref p) H'
theorem ok_law_well (T : Txt K mg) : FnOk P w K mg base CX0 1 T.f_law_well T.fd_law_well ["_law_cell"] sp_law_well := by
  refine T.F_law_well.ok sc_law_well (fun vs H Q E h => ?_) (fun cdv A outer s H vs Q E hr h => ?_)
  · obtain ⟨z, rfl, _⟩ := h
    rfl
  · obtain ⟨z, rfl, q⟩ := h
    refine ⟨_, (pss_one
 (ps_ret (pe_lst (pa_cons (pe_ix ix_list (pe_lst (pa_cons pe_int (pa_cons (pv 0) pa_nil))) (pe_callTy call_int1 (by rfl) T.z_int (by decide +kernel) (pa_cons (pe_cmpR op_ge (pv 0) (pe_op op_pow pe_int pe_int) (nomark _)) pa_nil)) (fun _ _ => rfl)) (pa_cons (pe_op op_mod (pv 0) pe_int) (pa_cons pe_int pa_nil)))))), ?_⟩
    refine ⟨.int z, rfl, Nat.le_trans (by decide : 2 ≤ 1000) (Nat.le_of_lt (small1000 (by decide))), fun t nt => ?_⟩
    have ht : (upd H t (.lst [V.int 0, V.int z])) t = some (.lst [V.int 0, V.int z]) := upd_same
    refine ⟨.int z, rfl, 10, 18, rfl, rfl, ⟨by decide, by decide, by decide⟩, z, _, rfl, rfl, .inr ⟨_, rfl, ?_⟩⟩
    have fin : ∀ a : Int, 0 ≤ a → ∀ (p : Addr), (upd H t (.lst [V.int 0, V.int z])) p = none → Q (.ref p) (upd (upd H t (.lst [V.int 0, V.int z])) p (.lst [.int a, .int (z % 2147483629), .int 0])) := fun a ha p np => by
      have hb := mix_mod z 2147483629 (by decide)
      exact q p _ _ ((same_upd nt).free np) ((same_upd nt).trans (same_upd np)) upd_same ⟨a, _, 0, rfl, ha, hb.1, hb.2, by decide, by decide⟩
    by_cases hz : (10 : Int) ^ 18 ≤ z
    · refine ⟨t, _, 1, .int z, rfl, ?_, .of ht, rfl, .int z, rfl, z, _, rfl, rfl, (by show (0 : Int) < 2147483629; decide), Nat.le_trans (by decide : 3 ≤ 1000) (Nat.le_of_lt (small1000 (by decide))), fun p np => fin z (by omega) p np⟩
      rw [show decide ((10 : Int) ^ (18 : Int).toNat ≤ z) = true from decide_eq_true hz] <;> rfl
    · refine ⟨t, _, 0, .int 0, rfl, ?_, .of ht, rfl, .int z, rfl, z, _, rfl, rfl, (by show (0 : Int) < 2147483629; decide), Nat.le_trans (by decide : 3 ≤ 1000) (Nat.le_of_lt (small1000 (by decide))), fun p np => fin 0 (by omega) p np⟩
      rw [show decide ((10 : Int) ^ (18 : Int).toNat ≤ z) = false from decide_eq_false hz] <;> rfl
/-- drawing: a number below the size; the well holds three numbers again -/
def sp_law_draw : Sp := fun vs H Q _ => ∃ (p : Addr) (n : Int) (x : List V) (k : Nat), vs = [.ref p, .int n] ∧ H p = some (.lst x) ∧ WellL x k ∧ k ≤ 1000000 ∧ 0 < n ∧ n.natAbs < 2 ^ 8000 ∧
  ∀ (d : Int) (y : List V), 0 ≤ d → d < n → WellL y (k + 1) → Q (.int d) (upd H p (.lst y))
theorem ok_law_draw (T : Txt K mg) : FnOk P w K mg base CX0 1 T.f_law_draw T.fd_law_draw ["_law_well_here", "_law_size"] sp_law_draw := by
  refine T.F_law_draw.ok sc_law_draw (fun vs H Q E h => ?_) (fun cdv A outer s H vs Q E hr h => ?_)
  · obtain ⟨p, n, x, k, rfl, _⟩ := h
    rfl
  · obtain ⟨p, n, x, k, rfl, hp, ⟨a, b, c, rfl, ha, hb, hb2, hc, hck⟩, hk, hn, hn2, q⟩ := h
    refine ⟨_, (pss_cons
 (ps_if (pt_cmpR op_gt (pe_ix ix_list (pv 0) pe_int (fun _ _ => rfl)) pe_int (nomark _))
 (pss_cons
 (ps_set (i := 2) sc_law_draw.nd rfl (Or.inl rfl) (pe_op op_mod (pe_ix ix_list (pv 0) pe_int (fun _ _ => rfl)) (pv 1)))
 (pss_cons
 (ps_asg (pe_op op_fdivW (pe_ix ix_list (pv 0) pe_int (fun _ _ => rfl)) (pv 1)) (pg_sub (pv 0) pe_int set_list))
 (pss_one
 (ps_ret (pv 2)))))
 pss_nil)
 (pss_cons
 (ps_asg (pe_op op_add (pe_ix ix_list (pv 0) pe_int (fun _ _ => rfl)) pe_int) (pg_sub (pv 0) pe_int set_list))
 (pss_cons
 (ps_set (i := 3) sc_law_draw.nd rfl (Or.inl rfl) (pe_op op_mod (pe_op op_pow (pe_op op_add (pe_op op_add (pe_ix ix_list (pv 0) pe_int (fun _ _ => rfl)) (pe_op op_mul pe_int (pe_ix ix_list (pv 0) pe_int (fun _ _ => rfl)))) pe_int) pe_int) pe_int))
 (pss_cons
 (ps_set (i := 3) sc_law_draw.nd rfl (Or.inl rfl) (pe_op op_mod (pe_op op_mul (pv 3) (pe_op op_add (pe_op op_add (pe_op op_fdiv (pv 3) pe_int) pe_int) (pe_ix ix_list (pv 0) pe_int (fun _ _ => rfl)))) pe_int))
 (pss_one
 (ps_ret (pe_op op_mod (pe_op op_mod (pe_op op_mul (pv 3) (pe_op op_add (pe_op op_fdiv (pv 3) pe_int) pe_int)) pe_int) (pv 1)))))))), ?_⟩
    refine ⟨.ref p, rfl, p, _, 0, .int a, rfl, rfl, .of hp, rfl, a, 0, rfl, rfl, _, rfl, ite2 (fun e => ?_) (fun e => ?_)⟩
    · have hd := mix_mod a n hn
      have ha2 := div_nn ha hn
      refine ⟨.ref p, rfl, p, _, 0, .int a, rfl, rfl, .of hp, rfl, .int n, rfl, a, n, rfl, rfl, hn, ?_⟩
      refine ⟨.ref p, rfl, p, _, 0, .int a, rfl, rfl, .of hp, rfl, .int n, rfl, a, n, rfl, rfl, wide_div hn hn2 (by decide) (by decide), .ref p, rfl, p, _, 0, 0, rfl, rfl, hp, rfl, ?_⟩
      exact ⟨_, rfl, q (a % n) _ hd.1 hd.2 ⟨a / n, b, c, rfl, ha2, hb, hb2, hc, by omega⟩⟩
    · refine ⟨.ref p, rfl, p, _, 2, .int c, rfl, rfl, .of hp, rfl, c, 1, rfl, rfl, .ref p, rfl, p, _, 2, 2, rfl, rfl, hp, rfl, ?_⟩
      have h1 : (upd H p (.lst [V.int a, V.int b, V.int (c + 1)])) p = some (.lst [V.int a, V.int b, V.int (c + 1)]) := upd_same
      refine ⟨.ref p, rfl, p, _, 1, .int b, rfl, rfl, .of h1, rfl, .ref p, rfl, p, _, 2, .int (c + 1), rfl, rfl, .of h1, rfl, 7919, c + 1, rfl, rfl, .inl ⟨by decide, by decide⟩, b, _, rfl, rfl, _, 1, rfl, rfl, _, 5, rfl, rfl, ⟨by decide, by decide, by omega⟩, _, 2147483647, rfl, rfl, (by show (0 : Int) < 2147483647; decide), ?_⟩
      dsimp only
      generalize hg : (_ : Int) % 2147483647 = m
      have hm : 0 ≤ m ∧ m < 2147483647 := hg ▸ mix_mod _ _ (by decide)
      refine ⟨.int m, rfl, .int m, rfl, m, 1009, rfl, rfl, ⟨by decide, by decide⟩, _, 69621, rfl, rfl, .ref p, rfl, p, _, 2, .int (c + 1), rfl, rfl, .of h1, rfl, _, c + 1, rfl, rfl, m, _, rfl, rfl, .inl ⟨by omega, by omega⟩, _, 2147483629, rfl, rfl, (by show (0 : Int) < 2147483629; decide), ?_⟩
      dsimp only
      generalize hg2 : (_ : Int) % 2147483629 = m2
      have hm2 : 0 ≤ m2 ∧ m2 < 2147483629 := hg2 ▸ mix_mod _ _ (by decide)
      refine ⟨.int m2, rfl, .int m2, rfl, m2, 2003, rfl, rfl, ⟨by decide, by decide⟩, _, 40692, rfl, rfl, m2, _, rfl, rfl, .inl ⟨by omega, by omega⟩, _, 2147483399, rfl, rfl, (by show (0 : Int) < 2147483399; decide), .int n, rfl, _, n, rfl, rfl, hn, ?_⟩
      have hd := mix_mod (m2 * (m2 / 2003 + 40692) % 2147483399) n hn
      exact q _ _ hd.1 hd.2 ⟨a, b, c + 1, rfl, ha, hb, hb2, by omega, by omega⟩
end
/-! ### refusals: PollError's and NoShare's __init__ -/
theorem fld_putF2 (n o : V) : putF "over" o (putF "num" n []) = ([("num", n), ("over", o)] : List (Str × V)) := by
  have h : ¬ (("num" : Str) = "over") := by decide +kernel
  show (if ("num" : Str) = "over" then [(("num" : Str), o)] else (("num" : Str), n) :: putF "over" o []) = ([("num", n), ("over", o)] : List (Str × V))
  rw [if_neg h] <;> rfl
/-- a share's fields -/
def shF (r : Int × Int) : List (Str × V) := putF "over" (.int r.2) (putF "num" (.int r.1) [])
theorem shF_num (r : Int × Int) : (shF r).lookup ("num" : Str) = some (.int r.1) := by
  unfold shF
  rw [lookup_putF, if_neg (by decide +kernel), lookup_putF, if_pos rfl]
theorem shF_over (r : Int × Int) : (shF r).lookup ("over" : Str) = some (.int r.2) := by
  unfold shF
  rw [lookup_putF, if_pos rfl]
theorem shF_no (r : Int × Int) {m : Str} (h1 : ¬ m = "over") (h2 : ¬ m = "num") : (shF r).lookup m = none := by
  unfold shF
  rw [lookup_putF, if_neg h1, lookup_putF, if_neg h2] <;> rfl
/-- the share r stands at p -/
def ShAt (C : Addr) (H : Hp) (p : Addr) (r : Int × Int) : Prop := ∃ dx, H p = some (.ins C dx (shF r))
theorem ShAt.same {C : Addr} {H H' : Hp} {p : Addr} {r : Int × Int} (s : Same H H') (h : ShAt C H p r) : ShAt C H' p r := by
  obtain ⟨dx, h⟩ := h
  exact ⟨dx, s _ _ h⟩
/-- the dict of a NoShare -/
def NoF (n : Int) (fs : List (Str × V)) : Prop := fs.lookup ("num" : Str) = some (.int n) ∧ fs.lookup ("over" : Str) = some (.int 0)
section
variable {P : Program} {w : World} {K : PySem.W.Frag} {mg : Str → Option Value} {base : Heap}
def sp_PollError_init (K : PySem.W.Frag) : Sp := fun vs H Q _ => ∃ (a C : Addr) (z : Str), vs = [.ref a, .str z] ∧ H a = some (exo a C none) ∧ OexC K C ∧ PySem.W.findIn K (.ref C) "why" = some none ∧
  ∀ dx, H dx = none → dx ≠ a → Q .non (upd (upd H dx (exd dx [("why", .str z)])) a (exo a C (some dx)))
theorem ok_PollError_init (T : Txt K mg) : FnOk P w K mg base CX0 1 T.f_PollError_init T.fd_PollError_init ["self", "why"] (sp_PollError_init K) := by
  refine T.F_PollError_init.ok (CX := CX0) sc_PollError_init (fun vs H Q E h => ?_) (fun cdv A outer s H vs Q E hr h => ?_)
  · obtain ⟨a, C, z, rfl, _⟩ := h
    rfl
  · obtain ⟨a, C, z, rfl, ha, hT, hno, q⟩ := h
    refine ⟨_, (pss_cons
 (ps_expr (pe_veinit (by rfl) T.z_ValueError T.vV (pa_cons (pv 0) (pa_cons (pv 1) pa_nil))))
 (pss_one
 (ps_ost (pv 0) (pv 1)))), ?_⟩
    refine ⟨.ref a, rfl, .str z, rfl, a, C, [.str z], rfl, (by show 1 ≤ 1000; decide), hT, ha, ?_⟩
    exact ⟨.str z, rfl, .ref a, rfl, a, C, rfl, hT, hno, .inl ⟨ha, fun dx n1 n2 => q dx n1 n2⟩⟩
def sp_NoShare_init (K : PySem.W.Frag) (C : Addr) : Sp := fun vs H Q _ => ∃ (a : Addr) (n o : Int), vs = [.ref a, .int n, .int o] ∧ H a = some (exo a C none) ∧
  ∀ (dx : Addr) (z : Str) (H' : Hp), H dx = none → dx ≠ a → But a H H' → H' a = some (exo a C (some dx)) → H' dx = some (exd dx [("over", .int o), ("num", .int n), ("why", .str z)]) → Q .non H'
theorem ok_NoShare_init (T : Txt K mg) : FnOk P w K mg base CX0 2 T.f_NoShare_init T.fd_NoShare_init ["self", "num", "over"] (sp_NoShare_init K T.C_NoShare) := by
  refine T.F_NoShare_init.ok sc_NoShare_init (fun vs H Q E h => ?_) (fun cdv A outer s H vs Q E hr h => ?_)
  · obtain ⟨a, n, o, rfl, _⟩ := h
    rfl
  · obtain ⟨a, n, o, rfl, ha, q⟩ := h
    refine ⟨_, (pss_cons
 (ps_expr (pcl_pos (by rfl) T.k_PollError T.rd_PollError T.ga_PollError T.fc_PollError_init T.F_PollError_init.kp (ok_PollError_init T) (hr.mono (by decide)) T.kb_PollError_init_2 (fun σ => at0 σ) (pa_cons (pv 0) (pa_cons pe_str pa_nil))))
 (pss_cons
 (ps_ost (pv 0) (pv 1))
 (pss_one
 (ps_ost (pv 0) (pv 2))))), ?_⟩
    refine ⟨.ref a, rfl, rfl, rfl, a, T.C_NoShare, _, rfl, ha, T.ex_NoShare.oex, T.nf_NoShare_why, fun dx n1 n2 => ?_⟩
    have h1 : (upd (upd H dx (exd dx [("why", V.str "no share over nought")])) a (exo a T.C_NoShare (some dx))) a = some (exo a T.C_NoShare (some dx)) := upd_same
    have h2 : (upd (upd H dx (exd dx [("why", V.str "no share over nought")])) a (exo a T.C_NoShare (some dx))) dx = some (exd dx [("why", V.str "no share over nought")]) := by rw [upd_ne n2, upd_same]
    refine ⟨.int n, rfl, .ref a, rfl, a, T.C_NoShare, rfl, T.ex_NoShare.oex, T.nf_NoShare_num, .inr ⟨dx, _, h1, h2, (by show 1 ≤ 900; decide), ?_⟩⟩
    refine ⟨.int o, rfl, .ref a, rfl, a, T.C_NoShare, rfl, T.ex_NoShare.oex, T.nf_NoShare_over, .inr ⟨dx, _, by rw [upd_ne n2.symm]; exact h1, upd_same, (by show 2 ≤ 900; decide), ?_⟩⟩
    refine q dx _ _ n1 n2 (fun b x hb hx => ?_) (by rw [upd_ne n2.symm, upd_ne n2.symm]; exact h1) upd_same
    have hbd : b ≠ dx := ne_of_none hx n1
    rw [upd_ne hbd, upd_ne hbd, upd_ne hb, upd_ne hbd]
    exact hx
/-! ### a share is made -/
def sp_Share_init (C CN : Addr) : Sp := fun vs H Q E => ∃ (p dx : Addr) (a b : Int) (m : Nat), vs = [.ref p, .int a, .int b] ∧ H p = some (.ins C dx []) ∧ b.natAbs < 2 ^ m ∧ 0 < m ∧ m ≤ 9000 ∧
  (b = 0 → ∀ (d : Addr) (fs : List (Str × V)) (H' : Hp), Same H H' → H d = none → H' d = some (.xd fs) → NoF a fs → E (.ref CN) (some d) H') ∧
  (b ≠ 0 → ∀ H', But p H H' → H' p = some (.ins C dx (shF (low a b))) → Q .non H')
theorem ok_Share_init (T : Txt K mg) : FnOk P w K mg base (L2.CX P w) 4 T.f_Share_init T.fd_Share_init ["self", "num", "over"] (sp_Share_init T.C_Share T.C_NoShare) := by
  refine T.F_Share_init.ok (CX := L2.CX P w) sc_Share_init (fun vs H Q E h => ?_) (fun cdv A outer s H vs Q E hr h => ?_)
  · obtain ⟨p, dx, a, b, m, rfl, _⟩ := h
    rfl
  · obtain ⟨p, dx, a, b, m, rfl, hp, hm, hm0, hm9, q0, q1⟩ := h
    refine ⟨_, (pss_cons
 (ps_if (pt_cmpR op_eq (pv 2) pe_int (nomark _))
 (pss_one
 (ps_raise rfl (takes_of rfl rfl rfl rfl) (px_both T.ex_NoShare (ok_NoShare_init T) (hr.mono (by decide)) (by rfl) T.k_NoShare T.kb_NoShare_init_2_over (fun σ => at0 σ) (pa_cons (pv 1) pa_nil) (pk_cons pe_int pk_nil))))
 pss_nil)
 (pss_cons
 (ps_set (i := 3) sc_Share_init.nd rfl (Or.inl rfl) (pe_callBfun cr_gcd (by rfl) T.gcd (pa_cons (pv 1) (pa_cons (pv 2) pa_nil))))
 (pss_cons
 (ps_if (pt_cmpR op_lt (pv 2) pe_int (nomark _))
 (pss_one
 (ps_set (i := 3) sc_Share_init.nd rfl (Or.inl rfl) (pe_un un_neg (pv 3))))
 pss_nil)
 (pss_cons
 (ps_fld (pv 0) (pe_op op_fdivX (pv 1) (pv 3)) rfl)
 (pss_one
 (ps_fld (pv 0) (pe_op op_fdivX (pv 2) (pv 3)) rfl)))))), ?_⟩
    refine ⟨.int b, rfl, rfl, _, rfl, ite2 (fun e => ?_) (fun e => ?_)⟩
    · have hb : b = 0 := V.int.inj (of_decide_eq_true e)
      refine ⟨.int a, rfl, rfl, rfl, by decide, fun x nx => ?_⟩
      refine ⟨x, a, 0, rfl, upd_same, fun dy z H' n1 n2 bt e1 e2 => ⟨rfl, dy, _, e1, e2, ?_, ?_⟩⟩
      · rw [upd_ne n2] at n1
        exact n1
      · rw [upd_ne n2] at n1
        refine q0 hb dy _ _ (fun y o ho => ?_) n1 upd_same ⟨rfl, rfl⟩
        have y1 : y ≠ dy := ne_of_none ho n1
        have y2 : y ≠ x := ne_of_none ho nx
        rw [upd_ne y1, del_ne y2]
        exact bt y o y2 (by rw [upd_ne y2]; exact ho)
    · have hb : b ≠ 0 := fun z => e (by rw [z]; exact decide_eq_true rfl)
      have hc0 := cg_ne (a := a) hb
      have hcl : (cg a b).natAbs < 2 ^ m := Nat.lt_of_le_of_lt (cg_le hb) hm
      refine ⟨.int a, rfl, .int b, rfl, a, b, rfl, .int b, rfl, b, 0, rfl, rfl, _, rfl, ite2 (fun e2 => ?_) (fun e2 => ?_)⟩
      · have ec : cg a b = -((Nat.gcd a.natAbs b.natAbs : Nat) : Int) := if_pos (of_decide_eq_true e2)
        refine ⟨_, rfl, _, rfl, ?_⟩
        refine ⟨.int a, rfl,   .int (cg a b), (by rw [ec]; rfl), a, _, rfl, rfl, div_ok hc0 hcl hm0 hm9, .ref p, rfl, p, T.C_Share, dx, [], rfl, hp, T.cl_Share, T.n_Share_num, by decide, ?_⟩
        refine ⟨.int b, rfl, .int (cg a b), (by rw [ec]; rfl), b, _, rfl, rfl, div_ok hc0 hcl hm0 hm9, .ref p, rfl, p, T.C_Share, dx, _, rfl, upd_same, T.cl_Share, T.n_Share_over, (by show 1 < 1000; decide), ?_⟩
        refine q1 hb _ (fun y o hy ho => ?_) upd_same
        rw [upd_ne hy, upd_ne hy]
        exact ho
      · have ec : cg a b = ((Nat.gcd a.natAbs b.natAbs : Nat) : Int) := if_neg (fun z => e2 (decide_eq_true z))
        refine ⟨.int a, rfl,   .int (cg a b), (by rw [ec]; rfl), a, _, rfl, rfl, div_ok hc0 hcl hm0 hm9, .ref p, rfl, p, T.C_Share, dx, [], rfl, hp, T.cl_Share, T.n_Share_num, by decide, ?_⟩
        refine ⟨.int b, rfl, .int (cg a b), (by rw [ec]; rfl), b, _, rfl, rfl, div_ok hc0 hcl hm0 hm9, .ref p, rfl, p, T.C_Share, dx, _, rfl, upd_same, T.cl_Share, T.n_Share_over, (by show 1 < 1000; decide), ?_⟩
        refine q1 hb _ (fun y o hy ho => ?_) upd_same
        rw [upd_ne hy, upd_ne hy]
        exact ho
end
/-! ### what a share does -/
theorem made_same {H H' : Hp} {a dx : Addr} {o u : HO} (n1 : H a = none) (n2 : H dx = none) (b : But a (upd (upd H dx u) a o) H') : Same H H' := fun y x h => by
  have y1 : y ≠ a := ne_of_none h n1
  exact b y x y1 (by rw [upd_ne y1, upd_ne (ne_of_none h n2)]; exact h)
section
variable {P : Program} {w : World} {K : PySem.W.Frag} {mg : Str → Option Value} {base : Heap}
def sp_Share_eq (K : PySem.W.Frag) (C : Addr) : Sp := fun vs H Q _ => ∃ (p : Addr) (y : V) (r : Int × Int), vs = [.ref p, y] ∧ ShAt C H p r ∧
  ((∃ (q : Addr) (s : Int × Int), y = .ref q ∧ ShAt C H q s ∧ Q (.bl (decide (r = s))) H) ∨ ∃ t : Value, TyX K H y t ∧ PySem.W.kitOne K t (.ref C) = some false ∧ Q (.bl false) H)
theorem dec_pair (r s : Int × Int) : decide (r = s) = (if decide (V.int r.1 = V.int s.1) = true then decide (V.int r.2 = V.int s.2) else false) := by
  obtain ⟨a, b⟩ := r
  obtain ⟨c, d⟩ := s
  by_cases h1 : a = c
  · by_cases h2 : b = d
    · simp [h1, h2]
    · simp [h1, h2]
  · simp [h1]
theorem ok_Share_eq (T : Txt K mg) : FnOk P w K mg base CX0 1 T.f_Share_eq T.fd_Share_eq ["self", "other"] (sp_Share_eq K T.C_Share) := by
  refine T.F_Share_eq.ok sc_Share_eq (fun vs H Q E h => ?_) (fun cdv A outer s H vs Q E hr h => ?_)
  · obtain ⟨p, y, r, rfl, _⟩ := h
    rfl
  · obtain ⟨p, y, r, rfl, ⟨dp, hp⟩, h⟩ := h
    refine ⟨_, (pss_one
 (ps_ret (pe_and (pe_callB call_isi (by rfl) T.z_isinstance (by decide +kernel) (pa_cons (pv 1) (pa_cons (pe_glob (v := .ref T.C_Share) rfl T.k_Share rfl) pa_nil))) (pe_and (pe_cmpR op_eq (pe_fld (pv 0) rfl) (pe_fld (pv 1) rfl) (nomark _)) (pe_one (pe_cmpR op_eq (pe_fld (pv 0) rfl) (pe_fld (pv 1) rfl) (nomark _))))))), ?_⟩
    rcases h with ⟨q, s, rfl, ⟨dq, hq⟩, h⟩ | ⟨t, ht, hk, h⟩
    · refine ⟨.ref q, rfl, .ref q, _, _, _, true, rfl, .own _, tyx_ins hq T.cl_Share T.is_Share, T.ki_Share, true, rfl, iteT ?_⟩
      refine ⟨.ref p, rfl, p, T.C_Share, dp, _, .int r.1, rfl, hp, T.cl_Share, T.n_Share_num, shF_num r, .ref q, rfl, q, T.C_Share, dq, _, .int s.1, rfl, hq, T.cl_Share, T.n_Share_num, shF_num s, rfl, _, rfl, ?_⟩
      rw [dec_pair] at h
      cases e : decide (V.int r.1 = V.int s.1) with
      | false =>
        rw [e] at h
        exact iteF h
      | true =>
        rw [e] at h
        exact iteT ⟨.ref p, rfl, p, T.C_Share, dp, _, .int r.2, rfl, hp, T.cl_Share, T.n_Share_over, shF_over r, .ref q, rfl, q, T.C_Share, dq, _, .int s.2, rfl, hq, T.cl_Share, T.n_Share_over, shF_over s, rfl, h⟩
    · exact ⟨y, rfl, y, _, t, _, false, rfl, .own _, ht, hk, false, rfl, iteF h⟩
theorem mulOk {a b : Int} {n m : Nat} (ha : a.natAbs < 2 ^ n) (hb : b.natAbs < 2 ^ m) (h : n + m + 1 ≤ 8000) : CMulW a b :=
  wide_mul (a := n + 1) (b := m + 1) (Nat.lt_of_lt_of_le ha (Nat.pow_le_pow_right (by decide) (by omega))) (Nat.lt_of_lt_of_le hb (Nat.pow_le_pow_right (by decide) (by omega))) (by omega) (by omega) (by omega)
theorem prod_bd {a b : Int} {n m : Nat} (ha : a.natAbs < 2 ^ n) (hb : b.natAbs < 2 ^ m) (h : n + m + 1 ≤ 8000) : (a * b).natAbs < 2 ^ 8001 :=
  Nat.lt_of_lt_of_le (mul_lt ha hb) (Nat.pow_le_pow_right (by decide) (by omega))
end
/-! ### the law's own lowest terms -/
section
variable {P : Program} {w : World} {K : PySem.W.Frag} {mg : Str → Option Value} {base : Heap}
def sp_law_lowest : Sp := fun vs H Q _ => ∃ (a b : Int) (m : Nat), vs = [.int a, .int b] ∧ b ≠ 0 ∧ b.natAbs < 2 ^ m ∧ 0 < m ∧ m ≤ 9000 ∧
  ∀ t, H t = none → Q (.ref t) (upd H t (.tup [.int (low a b).1, .int (low a b).2]))
def restOf : L2.St → Nat
  | [_, _, _, some (.int y)] => y.toNat
  | _ => 0
theorem abs_nat (a : Int) : (if a < 0 then -a else a) = ((a.natAbs : Nat) : Int) := by split <;> omega
theorem ok_law_lowest (T : Txt K mg) : FnOk P w K mg base CX0 1 T.f_law_lowest T.fd_law_lowest ["_law_top", "_law_ground"] sp_law_lowest := by
  refine T.F_law_lowest.ok sc_law_lowest (fun vs H Q E h => ?_) (fun cdv A outer s H vs Q E hr h => ?_)
  · obtain ⟨a, b, m, rfl, _⟩ := h
    rfl
  · obtain ⟨a, b, m, rfl, hb, hm, hm0, hm9, q⟩ := h
    refine ⟨_, (pss_cons
 (ps_par (i := 2) (j := 3) (by rfl) sc_law_lowest.nd rfl rfl (by decide) rfl rfl (pa_cons (pe_callB call_abs (by rfl) T.z_abs (by decide +kernel) (pa_cons (pv 0) pa_nil)) (pa_cons (pe_callB call_abs (by rfl) T.z_abs (by decide +kernel) (pa_cons (pv 1) pa_nil)) pa_nil)) (by rfl))
 (pss_cons
 (ps_while PassesOwn.never (pt_cmpR op_gt (pv 3) pe_int (nomark _))
 (pss_one
 (ps_par (i := 2) (j := 3) (by rfl) sc_law_lowest.nd rfl rfl (by decide) rfl rfl (pa_cons (pv 3) (pa_cons (pe_op op_mod (pv 2) (pv 3)) pa_nil)) (by rfl))))
 (pss_cons
 (ps_if (pt_cmpR op_lt (pv 1) pe_int (nomark _))
 (pss_one
 (ps_set (i := 2) sc_law_lowest.nd rfl (Or.inl rfl) (pe_op op_sub pe_int (pv 2))))
 pss_nil)
 (pss_one
 (ps_ret (pe_tup (pa_cons (pe_op op_fdivX (pv 0) (pv 2)) (pa_cons (pe_op op_fdivX (pv 1) (pv 2)) pa_nil)))))))), ?_⟩
    refine ⟨.int a, rfl, a, rfl, .int b, rfl, b, rfl, _, _, rfl, ?_⟩
    rw [abs_nat, abs_nat]
    refine while_by (fun σ H' => H' = H ∧ ∃ x y : Nat, σ = [some (.int a), some (.int b), some (.int (x : Int)), some (.int (y : Int))] ∧ Nat.gcd x y = Nat.gcd a.natAbs b.natAbs) (fun σ _ => restOf σ) ⟨rfl, _, _, rfl, rfl⟩ ?_
      (fun σ H Q Q' imp ⟨v, h1, i, j, h2, h3, k, h4, h5⟩ => ⟨v, h1, i, j, h2, h3, k, h4, imp _ _ h5⟩)
    rintro σ H1 ⟨rfl, x, y, rfl, hg⟩
    refine ⟨_, rfl, (y : Int), 0, rfl, rfl, _, rfl, ite2 (fun e => ?_) (fun e => ?_)⟩
    · have hy : (0 : Int) < y := of_decide_eq_true e
      refine ⟨_, rfl, _, rfl, _, rfl, (x : Int), (y : Int), rfl, rfl, hy, _, _, rfl, ⟨rfl, y, x % y, ?_, ?_⟩, ?_⟩
      · show [some (V.int a), some (V.int b), some (V.int (y : Int)), some (V.int ((x : Int) % (y : Int)))] = _
        rw [← Int.natCast_emod]
      · rw [gcd_step, hg]
      · show ((x : Int) % (y : Int)).toNat < (y : Int).toNat
        have := Int.emod_lt_of_pos (x : Int) hy
        have := Int.emod_nonneg (x : Int) (show (y : Int) ≠ 0 by omega)
        omega
    · have hy : y = 0 := by
        have : ¬ (0 : Int) < y := fun z => e (decide_eq_true z)
        omega
      subst hy
      rw [Nat.gcd_zero_right] at hg
      have hc0 := cg_ne (a := a) hb
      have hcl : (cg a b).natAbs < 2 ^ m := Nat.lt_of_le_of_lt (cg_le hb) hm
      refine ⟨.int b, rfl, b, 0, rfl, rfl, _, rfl, ite2 (fun e2 => ?_) (fun e2 => ?_)⟩
      · have ec : cg a b = 0 - (x : Int) := by
          unfold cg
          rw [if_pos (of_decide_eq_true e2), ← hg]
          omega
        refine ⟨_, rfl, 0, (x : Int), rfl, rfl, ?_⟩
        refine ⟨.int a, rfl, .int (cg a b), (by rw [ec]; rfl), a, _, rfl, rfl, div_ok hc0 hcl hm0 hm9, .int b, rfl, .int (cg a b), (by rw [ec]; rfl), b, _, rfl, rfl, div_ok hc0 hcl hm0 hm9, line_of (show 2 ≤ 1000 by decide), fun t nt => q t nt⟩
      · have ec : cg a b = (x : Int) := by
          unfold cg
          rw [if_neg (fun z => e2 (decide_eq_true z)), ← hg]
        refine ⟨.int a, rfl, .int (cg a b), (by rw [ec]; rfl), a, _, rfl, rfl, div_ok hc0 hcl hm0 hm9, .int b, rfl, .int (cg a b), (by rw [ec]; rfl), b, _, rfl, rfl, div_ok hc0 hcl hm0 hm9, line_of (show 2 ≤ 1000 by decide), fun t nt => q t nt⟩
end
section
variable {P : Program} {w : World} {K : PySem.W.Frag} {mg : Str → Option Value} {base : Heap}
/-! ### numbers drawn -/
theorem b40 : ((10 : Int) ^ (40 : Int).toNat).natAbs < 2 ^ 140 := by decide +kernel
theorem b39 : ((10 : Int) ^ (39 : Int).toNat).natAbs < 2 ^ 140 := by decide +kernel
theorem p80 : (10 : Int) ^ (40 : Int).toNat * (10 : Int) ^ (40 : Int).toNat = 100000000000000000000000000000000000000000000000000000000000000000000000000000000 := by decide +kernel
theorem p79 : (10 : Int) ^ (40 : Int).toNat * (10 : Int) ^ (39 : Int).toNat = 10000000000000000000000000000000000000000000000000000000000000000000000000000000 := by decide +kernel
theorem p80s : ((10 : Int) ^ (40 : Int).toNat * (10 : Int) ^ (40 : Int).toNat).natAbs < 2 ^ 8000 := by decide +kernel
theorem small_bd {x : Int} (h : x.natAbs ≤ 100000000000000000000000000000000000000000000000000000000000000000000000000000000) : x.natAbs < 2 ^ 270 := Nat.lt_of_le_of_lt h (by decide +kernel)
def sp_law_one : Sp := fun vs H Q _ => ∃ (p l : Addr) (ns : List Int) (x : List V) (k : Nat), vs = [.ref p, .ref l] ∧ H p = some (.lst x) ∧ H l = some (.lst (ns.map V.int)) ∧ l ≠ p ∧ WellL x k ∧ k ≤ 1000000 ∧ 0 < ns.length ∧ ns.length ≤ 1000 ∧
  ∀ (n : Int) (y : List V), n ∈ ns → WellL y (k + 1) → Q (.int n) (L2.upd H p (.lst y))
theorem ok_law_one (T : Txt K mg) : FnOk P w K mg base CX0 2 T.f_law_one T.fd_law_one ["_law_well_here", "_law_some"] sp_law_one := by
  refine T.F_law_one.ok sc_law_one (fun vs H Q E h => ?_) (fun cdv A outer s H vs Q E hr h => ?_)
  · obtain ⟨p, l, ns, x, k, rfl, _⟩ := h
    rfl
  · obtain ⟨p, l, ns, x, k, rfl, hp, hl, hlp, hx, hk, h0, h1, q⟩ := h
    refine ⟨_, (pss_one
 (ps_ret (pe_ix ix_list (pv 1) (pe_call (ok_law_draw T) (hr.mono (by decide)) (by rfl) T.g_law_draw T.F_law_draw.kp T.b_law_draw .nil pass0 (pa_cons (pv 0) (pa_cons (pe_callB call_len_seq (by rfl) T.z_len (by decide +kernel) (pa_cons (pv 1) pa_nil)) pa_nil))) (fun _ _ => rfl)))), ?_⟩
    refine ⟨.ref l, rfl, .ref p, rfl, .ref l, rfl, l, _, rfl, .inl (.of hl), p, _, x, k, rfl, hp, hx, hk, ?_, ?_, fun d y h2 h3 hy => ?_⟩
    · rw [List.length_map]
      omega
    · rw [List.length_map]
      exact size_ok (by omega) (by omega)
    · rw [List.length_map] at h3
      obtain ⟨j, rfl⟩ := Int.eq_ofNat_of_zero_le h2
      have hd : j < ns.length := by omega
      exact ⟨l, ns.map V.int, j, .int ns[j], rfl, rfl, .of (by rw [upd_ne hlp]; exact hl), atI_nat (by rw [List.getElem?_map, List.getElem?_eq_getElem hd]; rfl), q _ y (List.getElem_mem hd) hy⟩
def sp_law_number : Sp := fun vs H Q _ => ∃ (p : Addr) (x : List V) (k : Nat), vs = [.ref p] ∧ H p = some (.lst x) ∧ WellL x k ∧ k ≤ 900000 ∧
  ∀ (n : Int) (y : List V) (H' : Hp), n.natAbs < 2 ^ 270 → But p H H' → H' p = some (.lst y) → WellL y (k + 4) → Q (.int n) H'
theorem ok_law_number (T : Txt K mg) : FnOk P w K mg base CX0 3 T.f_law_number T.fd_law_number ["_law_well_here"] sp_law_number := by
  refine T.F_law_number.ok sc_law_number (fun vs H Q E h => ?_) (fun cdv A outer s H vs Q E hr h => ?_)
  · obtain ⟨p, x, k, rfl, _⟩ := h
    rfl
  · obtain ⟨p, x, k, rfl, hp, hx, hk, q⟩ := h
    refine ⟨_, (pss_cons
 (ps_set (i := 1) sc_law_number.nd rfl (Or.inl rfl) (pe_op op_sub (pe_call (ok_law_draw T) (hr.mono (by decide)) (by rfl) T.g_law_draw T.F_law_draw.kp T.b_law_draw .nil pass0 (pa_cons (pv 0) (pa_cons (pe_op op_mulW (pe_op op_pow pe_int pe_int) (pe_op op_pow pe_int pe_int)) pa_nil))) (pe_op op_mulW (pe_op op_pow pe_int pe_int) (pe_op op_pow pe_int pe_int))))
 (pss_one
 (ps_ret (pe_call (ok_law_one T) (hr.mono (by decide)) (by rfl) T.g_law_one T.F_law_one.kp T.b_law_one .nil pass0 (pa_cons (pv 0) (pa_cons (pe_lst (pa_cons (pe_op op_sub (pe_call (ok_law_draw T) (hr.mono (by decide)) (by rfl) T.g_law_draw T.F_law_draw.kp T.b_law_draw .nil pass0 (pa_cons (pv 0) (pa_cons pe_int pa_nil))) pe_int) (pa_cons (pe_op op_sub (pe_call (ok_law_draw T) (hr.mono (by decide)) (by rfl) T.g_law_draw T.F_law_draw.kp T.b_law_draw .nil pass0 (pa_cons (pv 0) (pa_cons pe_int pa_nil))) pe_int) (pa_cons (pv 1) pa_nil)))) pa_nil)))))), ?_⟩
    refine ⟨.ref p, rfl, 10, 40, rfl, rfl, ⟨by decide, by decide, by decide⟩, 10, 40, rfl, rfl, ⟨by decide, by decide, by decide⟩, _, _, rfl, rfl, mulOk b40 b40 (by decide), p, _, x, k, rfl, hp, hx, by omega, by decide +kernel, p80s, fun d1 y1 a1 a2 w1 => ?_⟩
    refine ⟨10, 40, rfl, rfl, ⟨by decide, by decide, by decide⟩, 10, 39, rfl, rfl, ⟨by decide, by decide, by decide⟩, _, _, rfl, rfl, mulOk b40 b39 (by decide), d1, _, rfl, rfl, ?_⟩
    rw [p80] at a2
    have hf : (d1 - (10 : Int) ^ (40 : Int).toNat * (10 : Int) ^ (39 : Int).toNat).natAbs < 2 ^ 270 := by
      rw [p79]
      exact small_bd (by omega)
    dsimp only
    generalize d1 - (10 : Int) ^ (40 : Int).toNat * (10 : Int) ^ (39 : Int).toNat = far at hf
    refine ⟨.ref p, rfl, .ref p, rfl, p, 13, y1, _, rfl, upd_same, w1, by omega, by decide, size_ok (by decide) (by decide), fun d2 y2 a3 a4 w2 => ?_⟩
    refine ⟨d2, 6, rfl, rfl, .ref p, rfl, p, 2000, y2, _, rfl, upd_same, w2, by omega, by decide, by decide +kernel, fun d3 y3 a5 a6 w3 => ?_⟩
    refine ⟨d3, 1000, rfl, rfl, .int far, rfl, line_of (show 3 ≤ 1000 by decide), fun l nl => ?_⟩
    rw [upd_upd, upd_upd] at nl ⊢
    have hpl : p ≠ l := fun e => by rw [← e, upd_same] at nl; cases nl
    refine ⟨p, l, [d2 - 6, d3 - 1000, far], y3, _, rfl, by rw [upd_ne hpl, upd_same], upd_same, hpl.symm, w3, by omega, Nat.succ_pos _, (show 3 ≤ 1000 by decide), fun n y hn hy => ?_⟩
    refine q n y _ ?_ ((((But.refl p H).upd _).new nl _).upd _) upd_same hy
    rcases List.mem_cons.mp hn with rfl | hn
    · exact small_bd (by omega)
    · rcases List.mem_cons.mp hn with rfl | hn
      · exact small_bd (by omega)
      · rw [List.mem_singleton.mp hn]
        exact hf
/-! ### over nought -/
def sp_law_refused : Sp := fun vs H Q _ => ∃ n j : Int, vs = [.int n, .int j] ∧ ∀ (t : Addr) (H' : Hp), Same H H' → H' t = some (.tup [.int n, .int 0]) → Q (.ref t) H'
theorem ok_law_refused (T : Txt K mg) : FnOk P w K mg base CX0 6 T.f_law_refused T.fd_law_refused ["_law_first", "_law_way"] sp_law_refused := by
  refine T.F_law_refused.ok sc_law_refused (fun vs H Q E h => ?_) (fun cdv A outer s H vs Q E hr h => ?_)
  · obtain ⟨n, j, rfl, _⟩ := h
    rfl
  · obtain ⟨n, j, rfl, q⟩ := h
    refine ⟨_, (pss_cons
 (ps_set (i := 2) sc_law_refused.nd rfl (Or.inl rfl) pe_non)
 (pss_cons
 (ps_try_as (i := 3) rfl rfl sc_law_refused.nd rfl rfl ⟨rfl, by decide, Or.inl T.k_PollError⟩ takes0
 (fun W pn xe tk _ => (by have h := ((pss_one
 (ps_if (pt_cmpR op_eq (pv 1) pe_int (nomark _))
 (pss_one
 (ps_expr (pc_pos T.mk_Share (ok_Share_init T) (hr.mono (by decide)) (by rfl) T.k_Share T.kb_Share_init_3 (fun σ => atE tk σ) (pa_cons (pv 0) (pa_cons pe_int pa_nil)))))
 (pss_one
 (ps_if (pt_cmpR op_eq (pv 1) pe_int (nomark _))
 (pss_one
 (ps_expr (pc_kw T.mk_Share (ok_Share_init T) (hr.mono (by decide)) (by rfl) T.k_Share T.kb_Share_init_1_over_num (fun σ => atE tk σ) (pk_cons pe_int (pk_cons (pv 0) pk_nil)))))
 (pss_one
 (ps_expr (pc_kw T.mk_Share (ok_Share_init T) (hr.mono (by decide)) (by rfl) T.k_Share T.kb_Share_init_1_num_over (fun σ => atE tk σ) (pk_cons (pv 0) (pk_cons pe_int pk_nil))))))))) : PSs ((cxOf CX0 P w K mg base ["_law_first", "_law_way", "_law_found", "e"] "_law_refused" (defScope s_law_refused) T.f_law_refused cdv A outer s H E).nox.tr pn xe) (blkOf ((defBody s_law_refused).getD 1 (.Pass ⟨0, 0, 0, 0⟩)) 0) _); dsimp only [Cx.tr, Cx.suite, Cx.nox, Cx.wish, cxOf] at h; exact h))
 (fun a oe cls d pn hz hf => (by have h := ((pss_one
 (ps_if (pt_val (pe_callB (call_isX T.ic_NoShare hz hf) (by rfl) T.z_isinstance (by decide +kernel) (pa_cons (pv 3) (pa_cons (pe_glob (v := .ref T.C_NoShare) rfl T.k_NoShare rfl) pa_nil))))
 (pss_one
 (ps_set (i := 2) sc_law_refused.nd rfl (Or.inl rfl) (pe_tup (pa_cons (pe_xf T.xf_NoShare T.nf_NoShare_num hz hf (pv 3)) (pa_cons (pe_xf T.xf_NoShare T.nf_NoShare_over hz hf (pv 3)) pa_nil)))))
 pss_nil)) : PSs ((cxOf CX0 P w K mg base ["_law_first", "_law_way", "_law_found", "e"] "_law_refused" (defScope s_law_refused) T.f_law_refused cdv A outer s H E).nox.suite a ((a, oe) :: pn)) (blkOf ((defBody s_law_refused).getD 1 (.Pass ⟨0, 0, 0, 0⟩)) 1) _); dsimp only [Cx.tr, Cx.suite, Cx.nox, Cx.wish, cxOf] at h; exact h)))
 (pss_one
 (ps_ret (pv 2))))), ?_⟩
    refine ⟨.int j, rfl, rfl, _, rfl, ?_⟩
    cases decide (V.int j = V.int 0) with
    | true =>
      refine iteT ⟨.int n, rfl, rfl, rfl, fun a dx n1 n2 n3 => ⟨a, dx, n, 0, 1, rfl, upd_same, by decide, by decide, by decide, fun _ d fs H' s1 nd hd hf => ?_, fun z => absurd rfl z⟩⟩
      exact ⟨true, T.te_NoShare_PollError, fun _ x _ => ⟨.ref x, rfl, _, _, true, d, fs, rfl, fun _ h => h, rfl, rfl, hd, T.kt_NoShare_NoShare, true, rfl, iteT ⟨.ref x, rfl, rfl, rfl, d, fs, _, rfl, hd, hf.1, .ref x, rfl, rfl, rfl, d, fs, _, rfl, hd, hf.2, line_of (show 2 ≤ 1000 by decide), fun t nt => ⟨.ref t, rfl, q t _ ((made_same n1 n2 (fun y x _ h => s1 y x h)).trans (same_upd nt)) upd_same⟩⟩⟩, fun q => Bool.noConfusion q⟩
    | false =>
      refine iteF ⟨.int j, rfl, rfl, _, rfl, ?_⟩
      cases decide (V.int j = V.int 1) with
      | true =>
        refine iteT ⟨.int n, rfl, rfl, rfl, fun a dx n1 n2 n3 => ⟨a, dx, n, 0, 1, rfl, upd_same, by decide, by decide, by decide, fun _ d fs H' s1 nd hd hf => ?_, fun z => absurd rfl z⟩⟩
        exact ⟨true, T.te_NoShare_PollError, fun _ x _ => ⟨.ref x, rfl, _, _, true, d, fs, rfl, fun _ h => h, rfl, rfl, hd, T.kt_NoShare_NoShare, true, rfl, iteT ⟨.ref x, rfl, rfl, rfl, d, fs, _, rfl, hd, hf.1, .ref x, rfl, rfl, rfl, d, fs, _, rfl, hd, hf.2, line_of (show 2 ≤ 1000 by decide), fun t nt => ⟨.ref t, rfl, q t _ ((made_same n1 n2 (fun y x _ h => s1 y x h)).trans (same_upd nt)) upd_same⟩⟩⟩, fun q => Bool.noConfusion q⟩
      | false =>
        refine iteF ⟨.int n, rfl, rfl, rfl, fun a dx n1 n2 n3 => ⟨a, dx, n, 0, 1, rfl, upd_same, by decide, by decide, by decide, fun _ d fs H' s1 nd hd hf => ?_, fun z => absurd rfl z⟩⟩
        exact ⟨true, T.te_NoShare_PollError, fun _ x _ => ⟨.ref x, rfl, _, _, true, d, fs, rfl, fun _ h => h, rfl, rfl, hd, T.kt_NoShare_NoShare, true, rfl, iteT ⟨.ref x, rfl, rfl, rfl, d, fs, _, rfl, hd, hf.1, .ref x, rfl, rfl, rfl, d, fs, _, rfl, hd, hf.2, line_of (show 2 ≤ 1000 by decide), fun t nt => ⟨.ref t, rfl, q t _ ((made_same n1 n2 (fun y x _ h => s1 y x h)).trans (same_upd nt)) upd_same⟩⟩⟩, fun q => Bool.noConfusion q⟩
/-! ### texts -/
def txI (i : Int) : Str := Str.ofString (toString i)
def rpS (r : Int × Int) : Str := "Share(" ++ txI r.1 ++ ", " ++ txI r.2 ++ ")"
def stS (r : Int × Int) : Str := if r.2 = 1 then txI r.1 else txI r.1 ++ "/" ++ txI r.2
theorem txI_log {i : Int} (h : i.natAbs < 2 ^ 400) : i.natAbs.log2 < 1920 := Nat.lt_trans (PySem.Flt.log2_lt_of (by decide) h) (by decide)
theorem txI_len {i : Int} (h : i.natAbs < 2 ^ 400) : (txI i).length ≤ 402 := by
  have e := int_text_length_le (k := 400) (by decide) (PySem.Flt.log2_lt_of (by decide) h)
  unfold txI
  rw [PySem.ofString_length]
  omega
theorem ok_ofString (s : String) : PyData.strOk (Str.ofString s) = true := by
  rw [Str.ofString_eq_toList]
  unfold PyData.strOk
  rw [List.all_toArray, List.all_eq_true]
  intro x hx
  obtain ⟨c, _, rfl⟩ := List.mem_map.mp hx
  refine decide_eq_true ?_
  show c.val.toNat < 1114112
  rcases c.valid with h | ⟨_, h⟩
  · exact Nat.lt_trans h (by decide)
  · exact h
theorem ok_cat {a b : Str} (ha : PyData.strOk a = true) (hb : PyData.strOk b = true) : PyData.strOk (a ++ b) = true := by
  unfold PyData.strOk at ha hb ⊢
  rw [Str.cps_append, Array.all_append, ha, hb]
  rfl
theorem ok_txI (i : Int) : PyData.strOk (txI i) = true := ok_ofString _
theorem ok_rpS (r : Int × Int) : PyData.strOk (rpS r) = true := ok_cat (ok_cat (ok_cat (ok_cat (by decide +kernel) (ok_txI _)) (by decide +kernel)) (ok_txI _)) (by decide +kernel)
theorem ok_stS (r : Int × Int) : PyData.strOk (stS r) = true := by
  unfold stS
  split
  · exact ok_txI _
  · exact ok_cat (ok_cat (ok_txI _) (by decide +kernel)) (ok_txI _)
theorem len1 : ("Share(" : Str).length = 6 := by decide +kernel
theorem len2 : (", " : Str).length = 2 := by decide +kernel
theorem len3 : (")" : Str).length = 1 := by decide +kernel
theorem len4 : ("/" : Str).length = 1 := by decide +kernel
def sp_Share_repr (C : Addr) : Sp := fun vs H Q _ => ∃ (p : Addr) (r : Int × Int), vs = [.ref p] ∧ ShAt C H p r ∧ Bd 400 r ∧ Q (.str (rpS r)) H
theorem ok_Share_repr (T : Txt K mg) : FnOk P w K mg base CX0 1 T.f_Share_repr T.fd_Share_repr ["self"] (sp_Share_repr T.C_Share) := by
  refine T.F_Share_repr.ok sc_Share_repr (fun vs H Q E h => ?_) (fun cdv A outer s H vs Q E hr h => ?_)
  · obtain ⟨p, r, rfl, _⟩ := h
    rfl
  · obtain ⟨p, r, rfl, ⟨dp, hp⟩, br, q⟩ := h
    refine ⟨_, (pss_one
 (ps_ret (pe_joined (.cons pe_str (.cons (pe_fmt (pe_fld (pv 0) rfl)) (.cons pe_str (.cons (pe_fmt (pe_fld (pv 0) rfl)) (.cons pe_str .nil)))))))), ?_⟩
    have l1 := txI_len br.1
    have l2 := txI_len br.2
    have g1 := len1
    have g2 := len2
    have g3 := len3
    refine ⟨_, rfl, ?_, .ref p, rfl, p, T.C_Share, dp, _, .int r.1, rfl, hp, T.cl_Share, T.n_Share_num, shF_num r, .inr ⟨r.1, rfl, txI_log br.1, txI r.1, rfl, ?_, _, rfl, ?_, .ref p, rfl, p, T.C_Share, dp, _, .int r.2, rfl, hp, T.cl_Share, T.n_Share_over, shF_over r, .inr ⟨r.2, rfl, txI_log br.2, txI r.2, rfl, ?_, _, rfl, ?_, ?_⟩⟩⟩
    · exact line_of (show 6 ≤ 1000 by decide)
    · rw [Str.empty_append]
      exact line_of (by rw [Str.length_append]; omega)
    · rw [Str.empty_append]
      exact line_of (by rw [Str.length_append, Str.length_append]; omega)
    · rw [Str.empty_append]
      exact line_of (by rw [Str.length_append, Str.length_append, Str.length_append]; omega)
    · rw [Str.empty_append]
      exact line_of (by rw [Str.length_append, Str.length_append, Str.length_append, Str.length_append]; omega)
    · rw [Str.empty_append]
      exact q
def sp_Share_str (C : Addr) : Sp := fun vs H Q _ => ∃ (p : Addr) (r : Int × Int), vs = [.ref p] ∧ ShAt C H p r ∧ Bd 400 r ∧ Q (.str (stS r)) H
theorem ok_Share_str (T : Txt K mg) : FnOk P w K mg base CX0 1 T.f_Share_str T.fd_Share_str ["self"] (sp_Share_str T.C_Share) := by
  refine T.F_Share_str.ok sc_Share_str (fun vs H Q E h => ?_) (fun cdv A outer s H vs Q E hr h => ?_)
  · obtain ⟨p, r, rfl, _⟩ := h
    rfl
  · obtain ⟨p, r, rfl, ⟨dp, hp⟩, br, q⟩ := h
    refine ⟨_, (pss_cons
 (ps_if (pt_cmpR op_eq (pe_fld (pv 0) rfl) pe_int (nomark _))
 (pss_one
 (ps_ret (pe_callTy call_str_int (by rfl) T.z_str (by decide +kernel) (pa_cons (pe_fld (pv 0) rfl) pa_nil))))
 pss_nil)
 (pss_one
 (ps_ret (pe_joined (.cons (pe_fmt (pe_fld (pv 0) rfl)) (.cons pe_str (.cons (pe_fmt (pe_fld (pv 0) rfl)) .nil))))))), ?_⟩
    have l1 := txI_len br.1
    have l2 := txI_len br.2
    have g4 := len4
    refine ⟨.ref p, rfl, p, T.C_Share, dp, _, .int r.2, rfl, hp, T.cl_Share, T.n_Share_over, shF_over r, rfl, _, rfl, ?_⟩
    by_cases h1 : r.2 = 1
    · have c0 : decide (V.int r.2 = V.int 1) = true := by simp [h1]
      have e : stS r = txI r.1 := by
        unfold stS
        rw [if_pos h1]
      rw [e] at q
      rw [c0]
      refine iteT ⟨.ref p, rfl, p, T.C_Share, dp, _, .int r.1, rfl, hp, T.cl_Share, T.n_Share_num, shF_num r, r.1, rfl, txI_log br.1, q⟩
    · have c0 : decide (V.int r.2 = V.int 1) = false := by simp [h1]
      have e : stS r = txI r.1 ++ "/" ++ txI r.2 := by
        unfold stS
        rw [if_neg h1]
      rw [e] at q
      rw [c0]
      refine iteF ⟨.ref p, rfl, p, T.C_Share, dp, _, .int r.1, rfl, hp, T.cl_Share, T.n_Share_num, shF_num r, .inr ⟨r.1, rfl, txI_log br.1, txI r.1, rfl, ?_, _, rfl, ?_, .ref p, rfl, p, T.C_Share, dp, _, .int r.2, rfl, hp, T.cl_Share, T.n_Share_over, shF_over r, .inr ⟨r.2, rfl, txI_log br.2, txI r.2, rfl, ?_, ?_⟩⟩⟩
      · rw [Str.empty_append]
        exact line_of (by omega)
      · rw [Str.empty_append]
        exact line_of (by rw [Str.length_append]; omega)
      · rw [Str.empty_append]
        exact line_of (by rw [Str.length_append, Str.length_append]; omega)
      · rw [Str.empty_append]
        exact q
def PairAt (H : Hp) (t : Addr) (r : Int × Int) : Prop := H t = some (.tup [.int r.1, .int r.2])
theorem PairAt.same {H H' : Hp} {t : Addr} {r : Int × Int} (s : Same H H') (h : PairAt H t r) : PairAt H' t r := s _ _ h
def sp_law_shown : Sp := fun vs H Q _ => ∃ (t : Addr) (r : Int × Int), vs = [.ref t] ∧ PairAt H t r ∧ 0 < r.2 ∧ Bd 400 r ∧ ∀ u, H u = none → Q (.ref u) (upd H u (.tup [.str (rpS r), .str (stS r)]))
theorem ok_law_shown (T : Txt K mg) : FnOk P w K mg base CX0 1 T.f_law_shown T.fd_law_shown ["_law_due"] sp_law_shown := by
  refine T.F_law_shown.ok sc_law_shown (fun vs H Q E h => ?_) (fun cdv A outer s H vs Q E hr h => ?_)
  · obtain ⟨t, r, rfl, _⟩ := h
    rfl
  · obtain ⟨t, r, rfl, ht, h0, br, q⟩ := h
    refine ⟨_, (pss_cons
 (ps_set (i := 1) sc_law_shown.nd rfl (Or.inl rfl) (pe_op op_add_str (pe_callTy call_str_int (by rfl) T.z_str (by decide +kernel) (pa_cons (pe_ix ix_tup (pv 0) pe_int (fun _ _ => rfl)) pa_nil)) (pe_op op_mul01 (pe_op op_add_str pe_str (pe_callTy call_str_int (by rfl) T.z_str (by decide +kernel) (pa_cons (pe_ix ix_tup (pv 0) pe_int (fun _ _ => rfl)) pa_nil))) (pe_callTy call_int1 (by rfl) T.z_int (by decide +kernel) (pa_cons (pe_cmpR op_gt (pe_ix ix_tup (pv 0) pe_int (fun _ _ => rfl)) pe_int (nomark _)) pa_nil)))))
 (pss_one
 (ps_ret (pe_tup (pa_cons (pe_op op_add_str (pe_op op_add_str (pe_op op_add_str (pe_op op_add_str pe_str (pe_callTy call_str_int (by rfl) T.z_str (by decide +kernel) (pa_cons (pe_ix ix_tup (pv 0) pe_int (fun _ _ => rfl)) pa_nil))) pe_str) (pe_callTy call_str_int (by rfl) T.z_str (by decide +kernel) (pa_cons (pe_ix ix_tup (pv 0) pe_int (fun _ _ => rfl)) pa_nil))) pe_str) (pa_cons (pv 1) pa_nil)))))), ?_⟩
    have l1 := txI_len br.1
    have l2 := txI_len br.2
    have g1 := len1
    have g2 := len2
    have g3 := len3
    have g4 := len4
    have key : txI r.1 ++ (if (if decide (1 < r.2) = true then (1 : Int) else 0) = 1 then "/" ++ txI r.2 else Str.empty) = stS r := by
      unfold stS
      by_cases h1 : r.2 = 1
      · have c0 : decide (1 < r.2) = false := decide_eq_false (by omega)
        rw [c0, if_pos h1, if_neg (by decide), Str.append_empty]
      · have c0 : decide (1 < r.2) = true := decide_eq_true (by omega)
        rw [c0, if_neg h1, if_pos (by decide), Str.append_assoc]
    have lk : (txI r.1).length + (if (if decide (1 < r.2) = true then (1 : Int) else 0) = 1 then "/" ++ txI r.2 else Str.empty).length ≤ 1000 := by
      split
      · rw [if_pos rfl, Str.length_append]
        omega
      · rw [if_neg (by decide)]
        have : (Str.empty).length = 0 := rfl
        omega
    have i0 : atI [V.int r.1, V.int r.2] 0 = some (.int r.1) := atI_nat (j := 0) rfl
    have i1 : atI [V.int r.1, V.int r.2] 1 = some (.int r.2) := atI_nat (j := 1) rfl
    refine ⟨.ref t, rfl, t, _, 0, .int r.1, rfl, rfl, .of ht, i0, r.1, rfl, txI_log br.1, .ref t, rfl, t, _, 1, .int r.2, rfl, rfl, .of ht, i1, r.2, rfl, txI_log br.2, _, txI r.2, rfl, rfl, line_of (by omega), .ref t, rfl, t, _, 1, .int r.2, rfl, rfl, .of ht, i1, _, _, rfl, rfl, .inr ⟨_, rfl, _, _, rfl, rfl, ?_, txI r.1, _, rfl, rfl, line_of lk, ?_⟩⟩
    · cases decide (1 < r.2) with
      | true => exact .inr rfl
      | false => exact .inl rfl
    · rw [key]
      refine ⟨.ref t, rfl, t, _, 0, .int r.1, rfl, rfl, .of ht, i0, r.1, rfl, txI_log br.1, _, txI r.1, rfl, rfl, line_of (by omega), _, _, rfl, rfl, line_of (by rw [Str.length_append]; omega), .ref t, rfl, t, _, 1, .int r.2, rfl, rfl, .of ht, i1, r.2, rfl, txI_log br.2, _, txI r.2, rfl, rfl, line_of (by rw [Str.length_append, Str.length_append]; omega), _, _, rfl, rfl, line_of (by rw [Str.length_append, Str.length_append, Str.length_append]; omega), .str (stS r), rfl, line_of (show 2 ≤ 1000 by decide), fun u nu => q u nu⟩
end
section
variable {P : Program} {w : World} {K : PySem.W.Frag} {mg : Str → Option Value} {base : Heap}
theorem split_zero {F : L2.St → Hp → Prop} {σ : L2.St} {H : Hp} {n : Int} {A : Prop} (S : Int → L2.St) (main : ∀ m : Int, m ≠ 0 → m.natAbs < 2 ^ 270 → F (S m) H) (hn : n.natAbs < 2 ^ 270) (hS : S n = σ) (h1 : F (S 1) H → A) : if decide (V.int n = V.int 0) = true then A else F σ H := by
  subst hS
  by_cases h : n = 0
  · rw [if_pos (by simp [h])]
    exact h1 (main 1 (by decide) (by decide +kernel))
  · rw [if_neg (by simp [h])]
    exact main n h hn
theorem low_more {a m : Int} (hm : m ≠ 0) : low (a + 1) m ≠ low a m := fun e => by
  obtain ⟨p1, p2⟩ := low_eqs (a + 1) m
  obtain ⟨q1, q2⟩ := low_eqs a m
  rw [e] at p1 p2
  have hy : (low a m).2 ≠ 0 := fun z => hm (by rw [← q2, z, Int.zero_mul])
  have hg : cg (a + 1) m = cg a m := Int.eq_of_mul_eq_mul_left hy (p2.trans q2.symm)
  rw [hg, q1] at p1
  omega
theorem nf_own (C : Addr) : PySem.W.notFirst K C (.ref C) = true := by simp [PySem.W.notFirst]
def pd (r : Int × Int) : PyData := .tuple [.int r.1, .int r.2]
theorem dp_pair {H : Hp} {t : Addr} {r : Int × Int} (h : PairAt H t r) : Dp K H (.ref t) (pd r) := .tup (.of h) (.cons (.int _) (.cons (.int _) .nil))
theorem eqv_same (d : PyData) (h : SeqAt.shaped d = true) : PyData.eqv d d = true := SeqAt.eqv_refl d (SeqAt.canLay_of_shaped h)
theorem eqv_pd (r s : Int × Int) : PyData.eqv (pd r) (pd s) = decide (r = s) := by
  obtain ⟨a, b⟩ := r
  obtain ⟨c, d⟩ := s
  simp only [pd, PyData.eqv, PyData.eqvAll, Prod.ext_iff, Bool.decide_and, Bool.and_true]
  rfl
theorem shaped_two {x y : Str} (hx : PyData.strOk x = true) (hy : PyData.strOk y = true) : SeqAt.shaped (.tuple [.str x, .str y]) = true := by
  unfold SeqAt.shaped
  simp only [PyData.canLay0, PyData.canLayAll0, hx, hy, PyData.depth, PyData.depthAll]
  rfl
/-- law's frame: the script at a -/
def FrL (a : Addr) (σ : L2.St) : Prop := ∃ y1 y2 y3 y4 y5 y6 y7 y8 y9 y10 : Option V, σ = [some (.ref a), y1, y2, y3, y4, y5, y6, y7, y8, y9, y10]
def sp_law (K : PySem.W.Frag) : Sp := fun vs H Q _ => ∃ (a : Addr) (ns : List Int), vs = [.ref a] ∧ SqL K H a (ns.map V.int) ∧ ns.length ≤ 63 ∧ ∀ H', Q (.bl true) H'
theorem item_map {α : Type} {l : List α} {f : α → V} {i : Nat} {v : V} (h : (l.map f)[i]? = some v) : ∃ x, l[i]? = some x ∧ v = f x := by
  rw [List.getElem?_map] at h
  cases e : l[i]? with
  | none => rw [e] at h; cases h
  | some b => rw [e] at h; exact ⟨b, rfl, (Option.some.inj h).symm⟩
theorem ok_law (T : Txt K mg) : FnOk P w K mg base CX0 7 T.f_law T.fd_law ["_law_script"] (sp_law K) := by
  refine T.F_law.ok sc_law (fun vs H Q E h => ?_) (fun cdv A outer s H vs Q E hr h => ?_)
  · obtain ⟨a, ns, rfl, _⟩ := h
    rfl
  · obtain ⟨a, ns, rfl, hS, hlen, q⟩ := h
    refine ⟨_, (pss_cons
 (ps_for PassesOwn.never rfl (pi_list (pe_op op_cat (pe_lst (pa_cons (pe_call (ok_law_cell_at T) (hr.mono (by decide)) (by rfl) T.g_law_cell_at T.F_law_cell_at.kp T.b_law_cell_at .nil pass0 (pa_cons (pv 0) (pa_cons pe_int pa_nil))) pa_nil)) (pe_slice sl_list (pv 0) (po_some pe_int) (po_some pe_int)))) (pg_name (i := 1) sc_law.nd rfl (Or.inl rfl))
 (pss_cons
 (ps_set (i := 2) sc_law.nd rfl (Or.inl rfl) (pe_call (ok_law_well T) (hr.mono (by decide)) (by rfl) T.g_law_well T.F_law_well.kp T.b_law_well .nil pass0 (pa_cons (pv 1) pa_nil)))
 (pss_cons
 (ps_par (i := 3) (j := 4) (by rfl) sc_law.nd rfl rfl (by decide) rfl rfl (pa_cons (pe_call (ok_law_number T) (hr.mono (by decide)) (by rfl) T.g_law_number T.F_law_number.kp T.b_law_number .nil pass0 (pa_cons (pv 2) pa_nil)) (pa_cons (pe_call (ok_law_number T) (hr.mono (by decide)) (by rfl) T.g_law_number T.F_law_number.kp T.b_law_number .nil pass0 (pa_cons (pv 2) pa_nil)) pa_nil)) (by rfl))
 (pss_cons
 (ps_if (pt_cmpR op_eq (pv 4) pe_int (nomark _))
 (pss_one
 (ps_set (i := 4) sc_law.nd rfl (Or.inl rfl) pe_int))
 pss_nil)
 (pss_cons
 (ps_set (i := 5) sc_law.nd rfl (Or.inl rfl) (pe_op op_add pe_int (pe_call (ok_law_draw T) (hr.mono (by decide)) (by rfl) T.g_law_draw T.F_law_draw.kp T.b_law_draw .nil pass0 (pa_cons (pv 2) (pa_cons (pe_ix ix_list (pe_lst (pa_cons pe_int (pa_cons (pe_op op_pow pe_int pe_int) pa_nil))) (pe_call (ok_law_draw T) (hr.mono (by decide)) (by rfl) T.g_law_draw T.F_law_draw.kp T.b_law_draw .nil pass0 (pa_cons (pv 2) (pa_cons pe_int pa_nil))) (fun _ _ => rfl)) pa_nil)))))
 (pss_cons
 (ps_set (i := 6) sc_law.nd rfl (Or.inl rfl) (pe_call (ok_law_lowest T) (hr.mono (by decide)) (by rfl) T.g_law_lowest T.F_law_lowest.kp T.b_law_lowest .nil pass0 (pa_cons (pv 3) (pa_cons (pv 4) pa_nil))))
 (pss_cons
 (ps_set (i := 7) sc_law.nd rfl (Or.inl rfl) (pe_lst (pa_cons (pc_pos T.mk_Share (ok_Share_init T) (hr.mono (by decide)) (by rfl) T.k_Share T.kb_Share_init_3 (fun σ => atN σ) (pa_cons (pv 3) (pa_cons (pv 4) pa_nil))) (pa_cons (pc_pos T.mk_Share (ok_Share_init T) (hr.mono (by decide)) (by rfl) T.k_Share T.kb_Share_init_3 (fun σ => atN σ) (pa_cons (pe_op op_mulW (pv 3) (pv 5)) (pa_cons (pe_op op_mulW (pv 4) (pv 5)) pa_nil))) (pa_cons (pc_kw T.mk_Share (ok_Share_init T) (hr.mono (by decide)) (by rfl) T.k_Share T.kb_Share_init_1_over_num (fun σ => atN σ) (pk_cons (pe_op op_sub pe_int (pv 4)) (pk_cons (pe_op op_sub pe_int (pv 3)) pk_nil))) pa_nil)))))
 (pss_cons
 (ps_for PassesOwn.never rfl (pi_list (pv 7)) (pg_name (i := 8) sc_law.nd rfl (Or.inl rfl))
 (pss_cons
 (ps_if (PW.pt (pw_or (pt_cmpR (op_neD hr.units) (pe_tup (pa_cons (pe_fld (pv 8) rfl) (pa_cons (pe_fld (pv 8) rfl) pa_nil))) (pv 6) (nomark _)) (pw_or1 (pt_cmpR (op_neD hr.units) (pe_tup (pa_cons (pe_callB (call_reprO T.tx_Share_repr (ok_Share_repr T) (hr.mono (by decide)) T.b_Share_repr pass0) (by rfl) T.z_repr (by decide +kernel) (pa_cons (pv 8) pa_nil)) (pa_cons (pe_callTy (call_strO T.tx_Share_str (ok_Share_str T) (hr.mono (by decide)) T.b_Share_str pass0) (by rfl) T.z_str (by decide +kernel) (pa_cons (pv 8) pa_nil)) pa_nil))) (pe_call (ok_law_shown T) (hr.mono (by decide)) (by rfl) T.g_law_shown T.F_law_shown.kp T.b_law_shown .nil pass0 (pa_cons (pv 6) pa_nil)) (nomark _)))))
 (pss_one
 (ps_ret pe_bl))
 pss_nil)
 (pss_one
 (ps_if (PW.pt (pw_or (pt_cmpR (op_neO T.eo_Share (ok_Share_eq T) (hr.mono (by decide)) T.b_Share_eq pass0) (pv 8) (pe_ix ix_list (pv 7) pe_int (fun _ _ => rfl)) (nomark _)) (pw_or (pt_cmpR (op_eqO T.eo_Share (ok_Share_eq T) (hr.mono (by decide)) T.b_Share_eq pass0) (pv 8) (pv 6) (nomark _)) (pw_or (pt_cmpR (op_eqO T.eo_Share (ok_Share_eq T) (hr.mono (by decide)) T.b_Share_eq pass0) (pv 8) (pe_callTy (call_strO T.tx_Share_str (ok_Share_str T) (hr.mono (by decide)) T.b_Share_str pass0) (by rfl) T.z_str (by decide +kernel) (pa_cons (pv 8) pa_nil)) (nomark _)) (pw_or1 (PW.pt (pw_and (pt_cmpR (op_eqO T.eo_Share (ok_Share_eq T) (hr.mono (by decide)) T.b_Share_eq pass0) (pv 8) (pv 3) (nomark _)) (pw_and1 (pt_cmpR op_eq (pe_ix ix_tup (pv 6) pe_int (fun _ _ => rfl)) pe_int (nomark _))))))))))
 (pss_one
 (ps_ret pe_bl))
 pss_nil))))
 (pss_cons
 (ps_set (i := 9) sc_law.nd rfl (Or.inl rfl) (pc_pos T.mk_Share (ok_Share_init T) (hr.mono (by decide)) (by rfl) T.k_Share T.kb_Share_init_2 (fun σ => atN σ) (pa_cons (pv 3) pa_nil)))
 (pss_cons
 (ps_if (PW.pt (pw_or (pt_cmpR (op_neD hr.units) (pe_tup (pa_cons (pe_fld (pv 9) rfl) (pa_cons (pe_fld (pv 9) rfl) pa_nil))) (pe_tup (pa_cons (pv 3) (pa_cons pe_int pa_nil))) (nomark _)) (pw_or1 (pt_cmpR (op_neD hr.units) (pe_cmpR (op_eqO T.eo_Share (ok_Share_eq T) (hr.mono (by decide)) T.b_Share_eq pass0) (pv 9) (pe_ix ix_list (pv 7) pe_int (fun _ _ => rfl)) (nomark _)) (pe_cmpR (op_eqD hr.units) (pv 6) (pe_tup (pa_cons (pv 3) (pa_cons pe_int pa_nil))) (nomark _)) (nomark _)))))
 (pss_one
 (ps_ret pe_bl))
 pss_nil)
 (pss_cons
 (ps_if (PW.pt (pw_or (pt_cmpR (op_eqO T.eo_Share (ok_Share_eq T) (hr.mono (by decide)) T.b_Share_eq pass0) (pc_kw T.mk_Share (ok_Share_init T) (hr.mono (by decide)) (by rfl) T.k_Share T.kb_Share_init_1_num_over (fun σ => atN σ) (pk_cons (pe_op op_add (pv 3) pe_int) (pk_cons (pv 4) pk_nil))) (pe_ix ix_list (pv 7) pe_int (fun _ _ => rfl)) (nomark _)) (pw_or1 (pt_cmpR (op_neO T.eo_Share (ok_Share_eq T) (hr.mono (by decide)) T.b_Share_eq pass0) (pc_pos T.mk_Share (ok_Share_init T) (hr.mono (by decide)) (by rfl) T.k_Share T.kb_Share_init_3 (fun σ => atN σ) (pa_cons (pv 3) (pa_cons (pv 4) pa_nil))) (pc_pos T.mk_Share (ok_Share_init T) (hr.mono (by decide)) (by rfl) T.k_Share T.kb_Share_init_3 (fun σ => atN σ) (pa_cons (pe_op op_mulW (pv 3) pe_int) (pa_cons (pe_op op_mulW (pv 4) pe_int) pa_nil))) (nomark _)))))
 (pss_one
 (ps_ret pe_bl))
 pss_nil)
 (pss_one
 (ps_for PassesOwn.never rfl (pi_range1 rfl T.z_range (pa_cons pe_int pa_nil)) (pg_name (i := 10) sc_law.nd rfl (Or.inl rfl))
 (pss_one
 (ps_if (pt_cmpR (op_neD hr.units) (pe_call (ok_law_refused T) (hr.mono (by decide)) (by rfl) T.g_law_refused T.F_law_refused.kp T.b_law_refused .nil pass0 (pa_cons (pv 3) (pa_cons (pv 10) pa_nil))) (pe_tup (pa_cons (pv 3) (pa_cons pe_int pa_nil))) (nomark _))
 (pss_one
 (ps_ret pe_bl))
 pss_nil)))))))))))))))
 (pss_one
 (ps_ret pe_bl))), ?_⟩
    refine ⟨.ref a, rfl, a, ns, rfl, hS, hlen, fun z => ?_⟩
    refine ⟨line_of (show 1 ≤ 1000 by decide), fun l1 n1 => ?_⟩
    have s1 : Same H (upd H l1 (.lst [V.int z])) := same_upd n1
    obtain ⟨ms, em, lm⟩ := cut_ints ns (some 1) (some 24)
    refine ⟨.ref a, rfl, 1, rfl, 24, rfl, a, _, rfl, s1.seq hS, fun l2 n2 => ?_⟩
    rw [em]
    have hl12 : l1 ≠ l2 := fun e => by rw [← e, upd_same] at n2; cases n2
    refine ⟨l1, l2, _, _, rfl, rfl, (by rw [upd_ne hl12, upd_same]), upd_same, ?_, fun l3 n3 => ?_⟩
    · rw [List.length_map]
      exact line_of (show 1 + ms.length ≤ 1000 by omega)
    have e3 : ([V.int z] ++ ms.map V.int) = (z :: ms).map V.int := rfl
    rw [e3]
    generalize hH0 : upd (upd (upd H l1 (.lst [V.int z])) l2 (.lst (ms.map V.int))) l3 (.lst ((z :: ms).map V.int)) = H0
    have h3 : H0 l3 = some (.lst ((z :: ms).map V.int)) := by rw [← hH0, upd_same]
    refine ⟨l3, rfl, ⟨_, .of h3⟩, for_list (K := K) (a := l3) (xs := (z :: ms).map V.int) (fun _ σ H' => FrL a σ ∧ Same H0 H') ⟨⟨none, none, none, none, none, none, none, none, none, none, rfl⟩, Same.refl _⟩ (fun _ _ _ _ h => .of (h.2 _ _ h3)) ?_ ?_⟩
    · rintro i x σ H1 hi ⟨⟨y1, y2, y3, y4, y5, y6, y7, y8, y9, y10, rfl⟩, s2⟩
      obtain ⟨n, _, rfl⟩ := item_map hi
      refine ⟨.int n, rfl, n, rfl, fun p x H2 np s3 hp hx => ?_⟩
      have np0 : H0 p = none := s2.free np
      have s4 : Same H0 H2 := s2.trans s3
      refine ⟨.ref p, rfl, p, x, 0, rfl, hp, hx, by decide, fun n1 x1 H3 bn1 t3 hp3 hx3 => ?_⟩
      refine ⟨.ref p, rfl, p, x1, _, rfl, hp3, hx3, by decide, fun n2 x2 H4 bn2 t4 hp4 hx4 => ?_⟩
      refine ⟨_, _, rfl, ?_⟩
      refine ⟨.int n2, rfl, rfl, _, rfl, ?_⟩
      show if decide (V.int n2 = V.int 0) = true then _ else _
      refine split_zero (fun m => [some (.ref a), some (.int n), some (.ref p), some (.int n1), some (.int m), y5, y6, y7, y8, y9, y10]) ?main bn2 rfl ?h1
      case h1 => exact fun h => h
      intro m hm bm
      have s5 : Same H0 H4 := But.ext s4 np0 (t3.trans t4)
      -- the part
      refine ⟨.ref p, rfl, 10, 30, rfl, rfl, ⟨by decide, by decide, by decide⟩, line_of (show 2 ≤ 1000 by decide), fun l4 nl4 => ?_⟩
      have hpl : p ≠ l4 := fun e => by rw [← e, hp4] at nl4; cases nl4
      refine ⟨.ref p, rfl, p, 2, x2, _, rfl, by rw [upd_ne hpl]; exact hp4, hx4, by decide, by decide, size_ok (by decide) (by decide), fun d x3 d0 d1 hx5 => ?_⟩
      obtain ⟨u, hu, u0, ub⟩ : ∃ u : Int, atI [V.int 3, V.int ((10 : Int) ^ (30 : Int).toNat)] d = some (.int u) ∧ 0 < u ∧ u.natAbs < 2 ^ 100 := by
        rcases (show d = 0 ∨ d = 1 by omega) with rfl | rfl
        · exact ⟨3, atI_nat (j := 0) rfl, by decide, by decide⟩
        · exact ⟨_, atI_nat (j := 1) rfl, by decide +kernel, by decide +kernel⟩
      refine ⟨l4, _, d, _, rfl, rfl, .of (by rw [upd_ne hpl.symm, upd_same]), hu, ?_⟩
      refine ⟨p, u, x3, _, rfl, upd_same, hx5, by decide, u0, Nat.lt_of_lt_of_le ub (Nat.pow_le_pow_right (by decide) (by decide)), fun f x4 f0 f1 hx6 => ?_⟩
      refine ⟨1, f, rfl, rfl, ?_⟩
      have e0 : 1 + f ≠ 0 := by omega
      have be : (1 + f).natAbs < 2 ^ 101 := Nat.lt_of_le_of_lt (show (1 + f).natAbs ≤ u.natAbs by omega) (Nat.lt_of_lt_of_le ub (Nat.pow_le_pow_right (by decide) (by decide)))
      dsimp only
      generalize hee : 1 + f = e at e0 be ⊢
      rw [upd_upd]
      have t5 : But p H2 (upd (upd H4 l4 (.lst [V.int 3, V.int ((10 : Int) ^ (30 : Int).toNat)])) p (.lst x4)) := ((t3.trans t4).new nl4 _).upd _
      have s6 := But.ext s4 np0 t5
      generalize hH5 : upd (upd H4 l4 (.lst [V.int 3, V.int ((10 : Int) ^ (30 : Int).toNat)])) p (.lst x4) = H5 at s6
      -- what is due
      refine ⟨.int n1, rfl, .int m, rfl, n1, m, 270, rfl, hm, bm, by decide, by decide, fun t nt => ?_⟩
      have red := low_red (a := n1) hm
      have br : Bd 270 (low n1 m) := bd_low hm bn1 bm
      have br4 : Bd 400 (low n1 m) := br.mono (by decide)
      have lo1 : low (n1 * e) (m * e) = low n1 m := low_scale hm e0
      have lo2 : low (0 - n1) (0 - m) = low n1 m := by
        have g := low_scale (a := n1) (k := -1) hm (by decide)
        rw [show n1 * -1 = 0 - n1 by omega, show m * -1 = 0 - m by omega] at g
        exact g
      have lo3 : low (n1 * 2) (m * 2) = low n1 m := low_scale hm (by decide)
      have lo4 : low (n1 + 1) m ≠ low n1 m := low_more hm
      have ht0 : PairAt (upd H5 t (.tup [.int (low n1 m).1, .int (low n1 m).2])) t (low n1 m) := upd_same
      have z0 := same_upd (o := HO.tup [.int (low n1 m).1, .int (low n1 m).2]) nt
      generalize hrr : low n1 m = r at red br br4 lo1 lo2 lo3 lo4 ht0 z0
      generalize hH6 : upd H5 t (.tup [.int r.1, .int r.2]) = H6 at ht0 z0
      -- three shares
      refine ⟨.int n1, rfl, .int m, rfl, rfl, rfl, fun a1 dx1 m1 m2 m3 => ⟨a1, dx1, n1, m, 270, rfl, upd_same, bm, by decide, by decide, fun z => absurd z hm, fun _ H7 b7 e7 => ⟨rfl, ?_⟩⟩⟩
      have z1 := made_same m1 m2 b7
      rw [hrr] at e7
      have bm' : (m * e).natAbs < 2 ^ 371 := mul_lt bm be
      refine ⟨.int n1, rfl, .int e, rfl, _, _, rfl, rfl, mulOk bn1 be (by decide), .int m, rfl, .int e, rfl, _, _, rfl, rfl, mulOk bm be (by decide), rfl, rfl, fun a2 dx2 m4 m5 m6 => ⟨a2, dx2, n1 * e, m * e, 371, rfl, upd_same, bm', by decide, by decide, fun z => absurd z (Int.mul_ne_zero hm e0), fun _ H8 b8 e8 => ⟨rfl, ?_⟩⟩⟩
      have z2 := made_same m4 m5 b8
      rw [lo1] at e8
      refine ⟨.int m, rfl, _, _, rfl, rfl, .int n1, rfl, _, _, rfl, rfl, rfl, rfl, fun a3 dx3 m7 m8 m9 => ⟨a3, dx3, 0 - n1, 0 - m, 270, rfl, upd_same, by rw [show (0 - m).natAbs = m.natAbs by omega]; exact bm, by decide, by decide, fun z => absurd z (by omega), fun _ H9 b9 e9 => ⟨rfl, ?_⟩⟩⟩
      have z3 := made_same m7 m8 b9
      rw [lo2] at e9
      refine ⟨line_of (show 3 ≤ 1000 by decide), fun ls nls => ?_⟩
      have z4 := same_upd (o := HO.lst [V.ref a1, V.ref a2, V.ref a3]) nls
      have hls : (upd H9 ls (.lst [V.ref a1, V.ref a2, V.ref a3])) ls = some (.lst [V.ref a1, V.ref a2, V.ref a3]) := upd_same
      have hsh : ∀ q ∈ [a1, a2, a3], ShAt T.C_Share (upd H9 ls (.lst [V.ref a1, V.ref a2, V.ref a3])) q r := by
        refine List.forall_mem_cons.mpr ⟨?_, List.forall_mem_cons.mpr ⟨?_, List.forall_mem_cons.mpr ⟨?_, fun _ h => (by cases h)⟩⟩⟩
        · exact ⟨dx1, z4 _ _ (z3 _ _ (z2 _ _ e7))⟩
        · exact ⟨dx2, z4 _ _ (z3 _ _ e8)⟩
        · exact ⟨dx3, z4 _ _ e9⟩
      have ht1 : PairAt (upd H9 ls (.lst [V.ref a1, V.ref a2, V.ref a3])) t r := (((ht0.same z1).same z2).same z3).same z4
      have s7 := s6.trans (z0.trans (z1.trans (z2.trans (z3.trans z4))))
      generalize hHH : upd H9 ls (.lst [V.ref a1, V.ref a2, V.ref a3]) = HH at z4 hls hsh ht1 s7
      have els : [V.ref a1, V.ref a2, V.ref a3] = [a1, a2, a3].map V.ref := rfl
      have f1 := hsh a1 List.mem_cons_self
      refine ⟨.ref ls, rfl, ls, rfl, ⟨_, .of hls⟩, for_list (K := K) (a := ls) (xs := [a1, a2, a3].map V.ref)
        (fun k σ H' => ∃ (x8 : Option V), σ = [some (.ref a), some (.int n), some (.ref p), some (.int n1), some (.int m), some (.int e), some (.ref t), some (.ref ls), x8, y9, y10] ∧ Same HH H')
        ⟨y8, rfl, Same.refl _⟩ (fun _ _ _ _ h => by obtain ⟨_, _, z⟩ := h; exact .of (z _ _ hls)) ?_ ?_⟩
      · rintro k v σ I0 hk ⟨x8, rfl, v0⟩
        obtain ⟨sq, hq, rfl⟩ := item_map hk
        have hq0 := (hsh sq (List.mem_of_getElem? hq)).same v0
        obtain ⟨dq, eq0⟩ := id hq0
        refine ⟨.ref sq, rfl, sq, T.C_Share, dq, _, .int r.1, rfl, eq0, T.cl_Share, T.n_Share_num, shF_num _, .ref sq, rfl, sq, T.C_Share, dq, _, .int r.2, rfl, eq0, T.cl_Share, T.n_Share_over, shF_over _, line_of (show 2 ≤ 1000 by decide), fun t1 nt1 => ?_⟩
        have v1 := same_upd (o := HO.tup [V.int r.1, V.int r.2]) nt1
        refine ⟨.ref t, rfl, pd r, pd r, dp_pair upd_same, dp_pair ((ht1.same v0).same v1), rfl, rfl, ?_⟩
        rw [eqv_same _ rfl]
        refine ⟨_, rfl, iteF ?_⟩
        refine ⟨.ref sq, rfl, sq, dq, _, rfl, v1 _ _ eq0, sq, r, rfl, hq0.same v1, br4, rpS r, rfl, .ref sq, rfl, sq, dq, _, rfl, v1 _ _ eq0, sq, r, rfl, hq0.same v1, br4, stS r, rfl, line_of (show 2 ≤ 1000 by decide), fun t2 nt2 => ?_⟩
        have v2 := same_upd (o := HO.tup [V.str (rpS r), V.str (stS r)]) nt2
        refine ⟨.ref t, rfl, t, r, rfl, ((ht1.same v0).same v1).same v2, red.1, br4, fun t3 nt3 => ?_⟩
        have v3 := same_upd (o := HO.tup [V.str (rpS r), V.str (stS r)]) nt3
        refine ⟨_, _, .tup (.of (v3 _ _ upd_same)) (.cons (.str _) (.cons (.str _) .nil)), .tup (.of upd_same) (.cons (.str _) (.cons (.str _) .nil)), shaped_two (ok_rpS r) (ok_stS r), shaped_two (ok_rpS r) (ok_stS r), ?_⟩
        rw [eqv_same _ (shaped_two (ok_rpS r) (ok_stS r))]
        refine ⟨_, rfl, iteF ?_⟩
        have v4 := v1.trans (v2.trans v3)
        have v5 := v0.trans v4
        obtain ⟨d1, e1⟩ := f1.same v5
        -- like the first one, like nothing else
        refine ⟨.ref sq, rfl, .ref ls, rfl, ls, _, 0, .ref a1, rfl, rfl, .of (v5 _ _ hls), atI_nat (j := 0) rfl, sq, dq, _, _, rfl, v4 _ _ eq0, tyx_ins e1 T.cl_Share T.is_Share, nf_own _, sq, .ref a1, r, rfl, hq0.same v4, .inl ⟨a1, r, rfl, ⟨d1, e1⟩, _, rfl, _, rfl, ?_⟩⟩
        rw [decide_eq_true rfl]
        refine iteF ?_
        refine ⟨.ref sq, rfl, .ref t, rfl, sq, dq, _, _, rfl, v4 _ _ eq0, .base (.tup (ht1.same v5)), T.nf_Share_tuple, sq, .ref t, r, rfl, hq0.same v4, .inr ⟨_, .base (.tup (ht1.same v5)), T.ki_Share_tuple, _, rfl, _, rfl, iteF ?_⟩⟩
        refine ⟨.ref sq, rfl, .ref sq, rfl, sq, dq, _, rfl, v4 _ _ eq0, sq, r, rfl, hq0.same v4, br4, stS r, rfl, sq, dq, _, _, rfl, v4 _ _ eq0, .base (.str _), T.nf_Share_str, sq, .str (stS r), r, rfl, hq0.same v4, .inr ⟨_, .base (.str _), T.ki_Share_str, _, rfl, _, rfl, iteF ?_⟩⟩
        refine ⟨.ref sq, rfl, .int n1, rfl, sq, dq, _, _, rfl, v4 _ _ eq0, .base (.int _), T.nf_Share_int, sq, .int n1, r, rfl, hq0.same v4, .inr ⟨_, .base (.int _), T.ki_Share_int, _, rfl, _, rfl, iteF (iteF ?_)⟩⟩
        exact ⟨_, rfl, v5⟩
      · rintro σ I0 ⟨x8, rfl, v0⟩
        -- the whole one
        refine ⟨.int n1, rfl, rfl, rfl, fun aw dw m1' m2' m3' => ⟨aw, dw, n1, 1, 1, rfl, upd_same, by decide, by decide, by decide, fun z => (by cases z), fun _ I1 bw ew => ⟨rfl, ?_⟩⟩⟩
        have v1 := made_same m1' m2' bw
        have ew' : low n1 1 = (n1, 1) := low_of_red (p := (n1, 1)) ⟨(by show (0 : Int) < 1; decide), by show Nat.gcd n1.natAbs 1 = 1; exact Nat.gcd_one_right _⟩
        rw [ew'] at ew
        refine ⟨.ref aw, rfl, aw, T.C_Share, dw, _, .int n1, rfl, ew, T.cl_Share, T.n_Share_num, shF_num _, .ref aw, rfl, aw, T.C_Share, dw, _, .int 1, rfl, ew, T.cl_Share, T.n_Share_over, shF_over _, line_of (show 2 ≤ 1000 by decide), fun t1 nt1 => ?_⟩
        have v2 := same_upd (o := HO.tup [V.int n1, V.int 1]) nt1
        refine ⟨.int n1, rfl, line_of (show 2 ≤ 1000 by decide), fun t2 nt2 => ?_⟩
        have v3 := same_upd (o := HO.tup [V.int n1, V.int 1]) nt2
        refine ⟨pd (n1, 1), pd (n1, 1), dp_pair (v3 _ _ upd_same), dp_pair upd_same, rfl, rfl, ?_⟩
        rw [eqv_same _ rfl]
        refine ⟨_, rfl, iteF ?_⟩
        have v4 := v0.trans (v1.trans (v2.trans v3))
        obtain ⟨d1, e1⟩ := f1.same v4
        have ew3 := v3 _ _ (v2 _ _ ew)
        refine ⟨.ref aw, rfl, .ref ls, rfl, ls, _, 0, .ref a1, rfl, rfl, .of (v4 _ _ hls), atI_nat (j := 0) rfl, aw, dw, _, _, rfl, ew3, tyx_ins e1 T.cl_Share T.is_Share, nf_own _, aw, .ref a1, (n1, 1), rfl, ⟨dw, ew3⟩, .inl ⟨a1, r, rfl, ⟨d1, e1⟩, _, rfl, ?_⟩⟩
        refine ⟨.ref t, rfl, .int n1, rfl, line_of (show 2 ≤ 1000 by decide), fun t3 nt3 => ?_⟩
        have v5 := same_upd (o := HO.tup [V.int n1, V.int 1]) nt3
        refine ⟨pd r, pd (n1, 1), dp_pair ((ht1.same v4).same v5), dp_pair upd_same, rfl, rfl, ?_⟩
        refine ⟨_, _, .bl _, .bl _, rfl, rfl, ?_⟩
        have hb : (!PyData.eqv (.bool (false ^^ decide ((n1, 1) = r))) (.bool (PyData.eqv (pd r) (pd (n1, 1))))) = false := by
          rw [eqv_pd]
          by_cases hc : (n1, 1) = r
          · rw [decide_eq_true hc, decide_eq_true hc.symm]
            rfl
          · rw [decide_eq_false hc, decide_eq_false (fun z => hc z.symm)]
            rfl
        rw [hb]
        refine ⟨_, rfl, iteF ?_⟩
        have v6 := v4.trans v5
        -- unlike, alike
        refine ⟨.int n1, rfl, _, _, rfl, rfl, .int m, rfl, rfl, rfl, fun a4 dx4 p1 p2 p3 => ⟨a4, dx4, n1 + 1, m, 270, rfl, upd_same, bm, by decide, by decide, fun z => absurd z hm, fun _ I2 b4 e4 => ⟨rfl, ?_⟩⟩⟩
        have v7 := v6.trans (made_same p1 p2 b4)
        obtain ⟨d1, e1⟩ := f1.same v7
        refine ⟨.ref ls, rfl, ls, _, 0, .ref a1, rfl, rfl, .of (v7 _ _ hls), atI_nat (j := 0) rfl, a4, dx4, _, _, rfl, e4, tyx_ins e1 T.cl_Share T.is_Share, nf_own _, a4, .ref a1, _, rfl, ⟨dx4, e4⟩, .inl ⟨a1, r, rfl, ⟨d1, e1⟩, _, rfl, _, rfl, ?_⟩⟩
        rw [decide_eq_false lo4]
        refine iteF ?_
        refine ⟨.int n1, rfl, .int m, rfl, rfl, rfl, fun a5 dx5 p4 p5 p6 => ⟨a5, dx5, n1, m, 270, rfl, upd_same, bm, by decide, by decide, fun z => absurd z hm, fun _ I3 b5 e5 => ⟨rfl, ?_⟩⟩⟩
        have v8 := v7.trans (made_same p4 p5 b5)
        rw [hrr] at e5
        have bm2 : (m * 2).natAbs < 2 ^ 272 := mul_lt (b := 2) bm (by decide)
        refine ⟨.int n1, rfl, _, _, rfl, rfl, mulOk (m := 2) bn1 (by decide) (by decide), .int m, rfl, _, _, rfl, rfl, mulOk (m := 2) bm (by decide) (by decide), rfl, rfl, fun a6 dx6 p7 p8 p9 => ⟨a6, dx6, n1 * 2, m * 2, 272, rfl, upd_same, bm2, by decide, by decide, fun z => absurd z (by omega), fun _ I4 b6 e6 => ⟨rfl, ?_⟩⟩⟩
        have v9' := made_same p7 p8 b6
        have v9 := v8.trans v9'
        rw [lo3] at e6
        have e5' := v9' _ _ e5
        refine ⟨a5, dx5, _, _, rfl, e5', tyx_ins e6 T.cl_Share T.is_Share, nf_own _, a5, .ref a6, r, rfl, ⟨dx5, e5'⟩, .inl ⟨a6, r, rfl, ⟨dx6, e6⟩, _, rfl, _, rfl, ?_⟩⟩
        rw [decide_eq_true rfl]
        refine iteF ?_
        -- over nought
        refine ⟨3, rfl, by decide, by decide, for_range (fun _ σ H' => ∃ (x10 : Option V), σ = [some (.ref a), some (.int n), some (.ref p), some (.int n1), some (.int m), some (.int e), some (.ref t), some (.ref ls), x8, some (.ref aw), x10] ∧ Same HH H')
          ⟨y10, rfl, v9⟩ ?_ ?_⟩
        · rintro k σ I5 hk ⟨x10, rfl, w0⟩
          refine ⟨.int n1, rfl, _, rfl, n1, _, rfl, fun t4 I6 w1 ht4 => ?_⟩
          refine ⟨.int n1, rfl, line_of (show 2 ≤ 1000 by decide), fun t5 nt5 => ?_⟩
          have w2 := same_upd (o := HO.tup [V.int n1, V.int 0]) nt5
          refine ⟨pd (n1, 0), pd (n1, 0), dp_pair (w2 _ _ ht4), dp_pair upd_same, rfl, rfl, ?_⟩
          rw [eqv_same _ rfl]
          exact ⟨_, rfl, iteF ⟨_, rfl, w0.trans (w1.trans w2)⟩⟩
        · rintro σ I5 ⟨x10, rfl, w0⟩
          exact ⟨⟨_, _, _, _, _, _, _, _, _, _, rfl⟩, s7.trans w0⟩
    · rintro σ H1 ⟨⟨y1, y2, y3, y4, y5, y6, y7, y8, y9, y10, rfl⟩, s2⟩
      exact q H1
end
theorem all_mk {l : PySem.W.OpenLaw} {w : World} {K : PySem.W.Frag} {h : Heap} {mg : Str → Option Value} {fa : Addr} (X : K.In h) (G : h.Ns mainGlobals mg) (hfa : mg "law" = some (.ref fa))
    {f_PollError_init : Addr} {od_PollError_init an_PollError_init : Option Addr} {sl_PollError_init : Array (Option Value)} {oc_PollError_init kV_PollError_init dc_PollError_init pm_PollError_init cd_PollError_init ct_PollError_init : Value}
    {T_PollError_init : Addr} {to_PollError_init : Value} {td_PollError_init : Option Addr} {tn_PollError_init : Nat} {tsl_PollError_init : Array (Option Value)} {tk0_PollError_init : Tok}
    (lt_PollError_init : K.lookup T_PollError_init = some ⟨to_PollError_init, td_PollError_init, .seq #[.str "" tk0_PollError_init] tn_PollError_init, tsl_PollError_init⟩)
    (l_PollError_init : K.lookup f_PollError_init = some ⟨oc_PollError_init, od_PollError_init, .func (PySem.W.fnOf "__init__" "PollError.__init__" (defArgs s_PollError_init) (defBody s_PollError_init) (defScope s_PollError_init) (.ref T_PollError_init) kV_PollError_init dc_PollError_init pm_PollError_init an_PollError_init cd_PollError_init ct_PollError_init), sl_PollError_init⟩)
    (c_PollError_init : PySem.W.codeIn K cd_PollError_init "PollError.__init__" = true) (k_PollError_init : PySem.W.keepIn K (.ref f_PollError_init) = true)
    {f_NoShare_init : Addr} {od_NoShare_init an_NoShare_init : Option Addr} {sl_NoShare_init : Array (Option Value)} {oc_NoShare_init kV_NoShare_init dc_NoShare_init pm_NoShare_init cd_NoShare_init ct_NoShare_init : Value}
    (l_NoShare_init : K.lookup f_NoShare_init = some ⟨oc_NoShare_init, od_NoShare_init, .func (PySem.W.fnOf "__init__" "NoShare.__init__" (defArgs s_NoShare_init) (defBody s_NoShare_init) (defScope s_NoShare_init) .none kV_NoShare_init dc_NoShare_init pm_NoShare_init an_NoShare_init cd_NoShare_init ct_NoShare_init), sl_NoShare_init⟩)
    (c_NoShare_init : PySem.W.codeIn K cd_NoShare_init "NoShare.__init__" = true) (k_NoShare_init : PySem.W.keepIn K (.ref f_NoShare_init) = true)
    {f_Share_init : Addr} {od_Share_init an_Share_init : Option Addr} {sl_Share_init : Array (Option Value)} {oc_Share_init kV_Share_init dc_Share_init pm_Share_init cd_Share_init ct_Share_init : Value}
    {T_Share_init : Addr} {to_Share_init : Value} {td_Share_init : Option Addr} {tn_Share_init : Nat} {tsl_Share_init : Array (Option Value)} {tk0_Share_init : Tok}
    (lt_Share_init : K.lookup T_Share_init = some ⟨to_Share_init, td_Share_init, .seq #[.int 1 tk0_Share_init] tn_Share_init, tsl_Share_init⟩)
    (l_Share_init : K.lookup f_Share_init = some ⟨oc_Share_init, od_Share_init, .func (PySem.W.fnOf "__init__" "Share.__init__" (defArgs s_Share_init) (defBody s_Share_init) (defScope s_Share_init) (.ref T_Share_init) kV_Share_init dc_Share_init pm_Share_init an_Share_init cd_Share_init ct_Share_init), sl_Share_init⟩)
    (c_Share_init : PySem.W.codeIn K cd_Share_init "Share.__init__" = true) (k_Share_init : PySem.W.keepIn K (.ref f_Share_init) = true)
    {f_Share_eq : Addr} {od_Share_eq an_Share_eq : Option Addr} {sl_Share_eq : Array (Option Value)} {oc_Share_eq kV_Share_eq dc_Share_eq pm_Share_eq cd_Share_eq ct_Share_eq : Value}
    (l_Share_eq : K.lookup f_Share_eq = some ⟨oc_Share_eq, od_Share_eq, .func (PySem.W.fnOf "__eq__" "Share.__eq__" (defArgs s_Share_eq) (defBody s_Share_eq) (defScope s_Share_eq) .none kV_Share_eq dc_Share_eq pm_Share_eq an_Share_eq cd_Share_eq ct_Share_eq), sl_Share_eq⟩)
    (c_Share_eq : PySem.W.codeIn K cd_Share_eq "Share.__eq__" = true) (k_Share_eq : PySem.W.keepIn K (.ref f_Share_eq) = true)
    {f_Share_repr : Addr} {od_Share_repr an_Share_repr : Option Addr} {sl_Share_repr : Array (Option Value)} {oc_Share_repr kV_Share_repr dc_Share_repr pm_Share_repr cd_Share_repr ct_Share_repr : Value}
    (l_Share_repr : K.lookup f_Share_repr = some ⟨oc_Share_repr, od_Share_repr, .func (PySem.W.fnOf "__repr__" "Share.__repr__" (defArgs s_Share_repr) (defBody s_Share_repr) (defScope s_Share_repr) .none kV_Share_repr dc_Share_repr pm_Share_repr an_Share_repr cd_Share_repr ct_Share_repr), sl_Share_repr⟩)
    (c_Share_repr : PySem.W.codeIn K cd_Share_repr "Share.__repr__" = true) (k_Share_repr : PySem.W.keepIn K (.ref f_Share_repr) = true)
    {f_Share_str : Addr} {od_Share_str an_Share_str : Option Addr} {sl_Share_str : Array (Option Value)} {oc_Share_str kV_Share_str dc_Share_str pm_Share_str cd_Share_str ct_Share_str : Value}
    (l_Share_str : K.lookup f_Share_str = some ⟨oc_Share_str, od_Share_str, .func (PySem.W.fnOf "__str__" "Share.__str__" (defArgs s_Share_str) (defBody s_Share_str) (defScope s_Share_str) .none kV_Share_str dc_Share_str pm_Share_str an_Share_str cd_Share_str ct_Share_str), sl_Share_str⟩)
    (c_Share_str : PySem.W.codeIn K cd_Share_str "Share.__str__" = true) (k_Share_str : PySem.W.keepIn K (.ref f_Share_str) = true)
    {f_law_cell_at : Addr} {od_law_cell_at an_law_cell_at : Option Addr} {sl_law_cell_at : Array (Option Value)} {oc_law_cell_at kV_law_cell_at dc_law_cell_at pm_law_cell_at cd_law_cell_at ct_law_cell_at : Value}
    (a_law_cell_at : PySem.W.nsIn K mainGlobals "_law_cell_at" = some (some (.ref f_law_cell_at)))
    (l_law_cell_at : K.lookup f_law_cell_at = some ⟨oc_law_cell_at, od_law_cell_at, .func (PySem.W.fnOf "_law_cell_at" "_law_cell_at" (defArgs s_law_cell_at) (defBody s_law_cell_at) (defScope s_law_cell_at) .none kV_law_cell_at dc_law_cell_at pm_law_cell_at an_law_cell_at cd_law_cell_at ct_law_cell_at), sl_law_cell_at⟩)
    (c_law_cell_at : PySem.W.codeIn K cd_law_cell_at "_law_cell_at" = true) (k_law_cell_at : PySem.W.keepIn K (.ref f_law_cell_at) = true)
    {f_law_well : Addr} {od_law_well an_law_well : Option Addr} {sl_law_well : Array (Option Value)} {oc_law_well kV_law_well dc_law_well pm_law_well cd_law_well ct_law_well : Value}
    (a_law_well : PySem.W.nsIn K mainGlobals "_law_well" = some (some (.ref f_law_well)))
    (l_law_well : K.lookup f_law_well = some ⟨oc_law_well, od_law_well, .func (PySem.W.fnOf "_law_well" "_law_well" (defArgs s_law_well) (defBody s_law_well) (defScope s_law_well) .none kV_law_well dc_law_well pm_law_well an_law_well cd_law_well ct_law_well), sl_law_well⟩)
    (c_law_well : PySem.W.codeIn K cd_law_well "_law_well" = true) (k_law_well : PySem.W.keepIn K (.ref f_law_well) = true)
    {f_law_draw : Addr} {od_law_draw an_law_draw : Option Addr} {sl_law_draw : Array (Option Value)} {oc_law_draw kV_law_draw dc_law_draw pm_law_draw cd_law_draw ct_law_draw : Value}
    (a_law_draw : PySem.W.nsIn K mainGlobals "_law_draw" = some (some (.ref f_law_draw)))
    (l_law_draw : K.lookup f_law_draw = some ⟨oc_law_draw, od_law_draw, .func (PySem.W.fnOf "_law_draw" "_law_draw" (defArgs s_law_draw) (defBody s_law_draw) (defScope s_law_draw) .none kV_law_draw dc_law_draw pm_law_draw an_law_draw cd_law_draw ct_law_draw), sl_law_draw⟩)
    (c_law_draw : PySem.W.codeIn K cd_law_draw "_law_draw" = true) (k_law_draw : PySem.W.keepIn K (.ref f_law_draw) = true)
    {f_law_one : Addr} {od_law_one an_law_one : Option Addr} {sl_law_one : Array (Option Value)} {oc_law_one kV_law_one dc_law_one pm_law_one cd_law_one ct_law_one : Value}
    (a_law_one : PySem.W.nsIn K mainGlobals "_law_one" = some (some (.ref f_law_one)))
    (l_law_one : K.lookup f_law_one = some ⟨oc_law_one, od_law_one, .func (PySem.W.fnOf "_law_one" "_law_one" (defArgs s_law_one) (defBody s_law_one) (defScope s_law_one) .none kV_law_one dc_law_one pm_law_one an_law_one cd_law_one ct_law_one), sl_law_one⟩)
    (c_law_one : PySem.W.codeIn K cd_law_one "_law_one" = true) (k_law_one : PySem.W.keepIn K (.ref f_law_one) = true)
    {f_law_lowest : Addr} {od_law_lowest an_law_lowest : Option Addr} {sl_law_lowest : Array (Option Value)} {oc_law_lowest kV_law_lowest dc_law_lowest pm_law_lowest cd_law_lowest ct_law_lowest : Value}
    (a_law_lowest : PySem.W.nsIn K mainGlobals "_law_lowest" = some (some (.ref f_law_lowest)))
    (l_law_lowest : K.lookup f_law_lowest = some ⟨oc_law_lowest, od_law_lowest, .func (PySem.W.fnOf "_law_lowest" "_law_lowest" (defArgs s_law_lowest) (defBody s_law_lowest) (defScope s_law_lowest) .none kV_law_lowest dc_law_lowest pm_law_lowest an_law_lowest cd_law_lowest ct_law_lowest), sl_law_lowest⟩)
    (c_law_lowest : PySem.W.codeIn K cd_law_lowest "_law_lowest" = true) (k_law_lowest : PySem.W.keepIn K (.ref f_law_lowest) = true)
    {f_law_number : Addr} {od_law_number an_law_number : Option Addr} {sl_law_number : Array (Option Value)} {oc_law_number kV_law_number dc_law_number pm_law_number cd_law_number ct_law_number : Value}
    (a_law_number : PySem.W.nsIn K mainGlobals "_law_number" = some (some (.ref f_law_number)))
    (l_law_number : K.lookup f_law_number = some ⟨oc_law_number, od_law_number, .func (PySem.W.fnOf "_law_number" "_law_number" (defArgs s_law_number) (defBody s_law_number) (defScope s_law_number) .none kV_law_number dc_law_number pm_law_number an_law_number cd_law_number ct_law_number), sl_law_number⟩)
    (c_law_number : PySem.W.codeIn K cd_law_number "_law_number" = true) (k_law_number : PySem.W.keepIn K (.ref f_law_number) = true)
    {f_law_refused : Addr} {od_law_refused an_law_refused : Option Addr} {sl_law_refused : Array (Option Value)} {oc_law_refused kV_law_refused dc_law_refused pm_law_refused cd_law_refused ct_law_refused : Value}
    (a_law_refused : PySem.W.nsIn K mainGlobals "_law_refused" = some (some (.ref f_law_refused)))
    (l_law_refused : K.lookup f_law_refused = some ⟨oc_law_refused, od_law_refused, .func (PySem.W.fnOf "_law_refused" "_law_refused" (defArgs s_law_refused) (defBody s_law_refused) (defScope s_law_refused) .none kV_law_refused dc_law_refused pm_law_refused an_law_refused cd_law_refused ct_law_refused), sl_law_refused⟩)
    (c_law_refused : PySem.W.codeIn K cd_law_refused "_law_refused" = true) (k_law_refused : PySem.W.keepIn K (.ref f_law_refused) = true)
    {f_law_shown : Addr} {od_law_shown an_law_shown : Option Addr} {sl_law_shown : Array (Option Value)} {oc_law_shown kV_law_shown dc_law_shown pm_law_shown cd_law_shown ct_law_shown : Value}
    (a_law_shown : PySem.W.nsIn K mainGlobals "_law_shown" = some (some (.ref f_law_shown)))
    (l_law_shown : K.lookup f_law_shown = some ⟨oc_law_shown, od_law_shown, .func (PySem.W.fnOf "_law_shown" "_law_shown" (defArgs s_law_shown) (defBody s_law_shown) (defScope s_law_shown) .none kV_law_shown dc_law_shown pm_law_shown an_law_shown cd_law_shown ct_law_shown), sl_law_shown⟩)
    (c_law_shown : PySem.W.codeIn K cd_law_shown "_law_shown" = true) (k_law_shown : PySem.W.keepIn K (.ref f_law_shown) = true)
    {f_law : Addr} {od_law an_law : Option Addr} {sl_law : Array (Option Value)} {oc_law kV_law dc_law pm_law cd_law ct_law : Value}
    (a_law : PySem.W.nsIn K mainGlobals "law" = some (some (.ref f_law)))
    (l_law : K.lookup f_law = some ⟨oc_law, od_law, .func (PySem.W.fnOf "law" "law" (defArgs s_law) (defBody s_law) (defScope s_law) .none kV_law dc_law pm_law an_law cd_law ct_law), sl_law⟩)
    (c_law : PySem.W.codeIn K cd_law "law" = true) (k_law : PySem.W.keepIn K (.ref f_law) = true)
    {C_PollError : Addr}
    (aC_PollError : PySem.W.nsIn K mainGlobals "PollError" = some (some (.ref C_PollError)))
    {nm_PollError q_PollError : Str} {N_PollError : Addr} {bs_PollError : List Value} {sn_PollError : List Str} {sub_PollError : List Value} {ab_PollError : Bool} {col_PollError : Option Bool} {dd_PollError : Option Addr} {m0_PollError m1_PollError m2_PollError m3_PollError m5_PollError : Option Value}
    (xL_PollError : K.lookup C_PollError = some (excClassObj nm_PollError q_PollError C_PollError N_PollError bs_PollError [.type "ValueError", .type "Exception", .type "BaseException", .type "object"] true sn_PollError sub_PollError ab_PollError col_PollError dd_PollError m0_PollError m1_PollError m2_PollError m3_PollError m5_PollError "ValueError.__new__"))
    (sa_PollError : PySem.W.findIn K (.ref C_PollError) "__setattr__" = some (some (.builtin "object.__setattr__")))
    (gt_PollError : PySem.W.findIn K (.ref C_PollError) "__getattribute__" = some (some (.builtin "BaseException.__getattribute__")))
    (gg_PollError : PySem.W.findIn K (.ref C_PollError) "__getattr__" = some none)
    (ai_PollError : PySem.W.findIn K (.ref C_PollError) "__init__" = some (some (.ref f_PollError_init)))
    (ti_PollError : PySem.W.typeIn K (.ref f_PollError_init) = some (.type "function"))
    (kC_PollError : PySem.W.keepIn K (.ref C_PollError) = true)
    (eC_PollError : PySem.W.subIn K (.ref C_PollError) (.type "BaseException") = some true)
    (tC_PollError : PySem.W.typeIn K (.ref C_PollError) = some (.type "type"))
    (hC_PollError : PySem.W.hasDictIn K C_PollError = true)
    (nf_PollError_why : PySem.W.findIn K (.ref C_PollError) "why" = some none)
    (rd_PollError : PySem.W.readsIn K C_PollError (.type "type") = true)
    (ga_PollError : PySem.W.specialIn K (.ref C_PollError) "__getattribute__" = some (some (.builtin "type.__getattribute__")))
    (fc_PollError_init : PySem.W.findCls K (.ref C_PollError) (.type "type") "__init__" = some (.val (.ref f_PollError_init)))
    {C_NoShare : Addr}
    (aC_NoShare : PySem.W.nsIn K mainGlobals "NoShare" = some (some (.ref C_NoShare)))
    {nm_NoShare q_NoShare : Str} {N_NoShare : Addr} {bs_NoShare : List Value} {sn_NoShare : List Str} {sub_NoShare : List Value} {ab_NoShare : Bool} {col_NoShare : Option Bool} {dd_NoShare : Option Addr} {m0_NoShare m1_NoShare m2_NoShare m3_NoShare m5_NoShare : Option Value}
    (xL_NoShare : K.lookup C_NoShare = some (excClassObj nm_NoShare q_NoShare C_NoShare N_NoShare bs_NoShare [.ref C_PollError, .type "ValueError", .type "Exception", .type "BaseException", .type "object"] true sn_NoShare sub_NoShare ab_NoShare col_NoShare dd_NoShare m0_NoShare m1_NoShare m2_NoShare m3_NoShare m5_NoShare "ValueError.__new__"))
    (sa_NoShare : PySem.W.findIn K (.ref C_NoShare) "__setattr__" = some (some (.builtin "object.__setattr__")))
    (gt_NoShare : PySem.W.findIn K (.ref C_NoShare) "__getattribute__" = some (some (.builtin "BaseException.__getattribute__")))
    (gg_NoShare : PySem.W.findIn K (.ref C_NoShare) "__getattr__" = some none)
    (ai_NoShare : PySem.W.findIn K (.ref C_NoShare) "__init__" = some (some (.ref f_NoShare_init)))
    (ti_NoShare : PySem.W.typeIn K (.ref f_NoShare_init) = some (.type "function"))
    (kC_NoShare : PySem.W.keepIn K (.ref C_NoShare) = true)
    (eC_NoShare : PySem.W.subIn K (.ref C_NoShare) (.type "BaseException") = some true)
    (tC_NoShare : PySem.W.typeIn K (.ref C_NoShare) = some (.type "type"))
    (hC_NoShare : PySem.W.hasDictIn K C_NoShare = true)
    (nf_NoShare_why : PySem.W.findIn K (.ref C_NoShare) "why" = some none)
    (nf_NoShare_num : PySem.W.findIn K (.ref C_NoShare) "num" = some none)
    (nf_NoShare_over : PySem.W.findIn K (.ref C_NoShare) "over" = some none)
    (ha_NoShare : PySem.W.findIn K (.ref C_NoShare) "__class__" = some (some (.builtin "object.__class__")))
    (hn_NoShare : PySem.W.specialIn K (.builtin "object.__class__") "__get__" = some (some (.builtin "getset_descriptor.__get__")))
    (ht_NoShare : PySem.W.takesIn K (.builtin "object.__class__") = some true)
    (ob_NoShare : PySem.W.mroIn K C_NoShare (.type "object") = some true)
    {C_Share : Addr}
    (aC_Share : PySem.W.nsIn K mainGlobals "Share" = some (some (.ref C_Share)))
    (pg_Share : PySem.W.plainGet K C_Share Str.empty = true)
    (hd_Share : PySem.W.hasDictIn K C_Share = true)
    (po_Share : PySem.W.plainOver K C_Share = true)
    (sa_Share : PySem.W.findIn K (.ref C_Share) "__setattr__" = some (some (.builtin "object.__setattr__")))
    (mk_Share : PySem.W.makesIn K C_Share = true)
    (kc_Share : PySem.W.keepIn K (.ref C_Share) = true)
    (ai_Share : PySem.W.findIn K (.ref C_Share) "__init__" = some (some (.ref f_Share_init)))
    (ii_Share : PySem.W.isFn K (.ref f_Share_init) = true)
    (n_Share_num : PySem.W.findIn K (.ref C_Share) "num" = some none)
    (n_Share_over : PySem.W.findIn K (.ref C_Share) "over" = some none)
    (ax_Share_repr : PySem.W.findIn K (.ref C_Share) "__repr__" = some (some (.ref f_Share_repr)))
    (ix_Share_repr : PySem.W.isFn K (.ref f_Share_repr) = true)
    (ax_Share_str : PySem.W.findIn K (.ref C_Share) "__str__" = some (some (.ref f_Share_str)))
    (ix_Share_str : PySem.W.isFn K (.ref f_Share_str) = true)
    (ae_Share : PySem.W.findIn K (.ref C_Share) "__eq__" = some (some (.ref f_Share_eq)))
    (ie_Share : PySem.W.isFn K (.ref f_Share_eq) = true)
    (ne_Share : PySem.W.findIn K (.ref C_Share) "__ne__" = some (some (.builtin "object.__ne__")))
    (ob_Share : PySem.W.mroIn K C_Share (.type "object") = some true)
    (ha_Share : PySem.W.findIn K (.ref C_Share) "__class__" = some (some (.builtin "object.__class__")))
    (hn_Share : PySem.W.specialIn K (.builtin "object.__class__") "__get__" = some (some (.builtin "getset_descriptor.__get__")))
    (ht_Share : PySem.W.takesIn K (.builtin "object.__class__") = some true)
    (ki_Share : PySem.W.kitOne K (.ref C_Share) (.ref C_Share) = some true)
    (nf_Share_tuple : PySem.W.notFirst K C_Share (.type "tuple") = true)
    (nf_Share_str : PySem.W.notFirst K C_Share (.type "str") = true)
    (nf_Share_int : PySem.W.notFirst K C_Share (.type "int") = true)
    (ki_Share_tuple : PySem.W.kitOne K (.type "tuple") (.ref C_Share) = some false)
    (ki_Share_str : PySem.W.kitOne K (.type "str") (.ref C_Share) = some false)
    (ki_Share_int : PySem.W.kitOne K (.type "int") (.ref C_Share) = some false)
    (sb_NoShare_PollError : PySem.W.subIn K (.ref C_NoShare) (.ref C_PollError) = some true)
    (kt_NoShare_NoShare : PySem.W.kitOne K (.ref C_NoShare) (.ref C_NoShare) = some true)
    (vV : PySem.W.findCls K (.type "ValueError") (.type "type") "__init__" = some (.val (.builtin "ValueError.__init__")))
    (gcd : PySem.W.nsIn K mainGlobals "gcd" = some (some (.builtin "math.gcd")))
    (z_ValueError : PySem.W.nsIn K mainGlobals "ValueError" = some none)
    (z_isinstance : PySem.W.nsIn K mainGlobals "isinstance" = some none)
    (z_str : PySem.W.nsIn K mainGlobals "str" = some none)
    (z_len : PySem.W.nsIn K mainGlobals "len" = some none)
    (z_int : PySem.W.nsIn K mainGlobals "int" = some none)
    (z_abs : PySem.W.nsIn K mainGlobals "abs" = some none)
    (z_repr : PySem.W.nsIn K mainGlobals "repr" = some none)
    (z_range : PySem.W.nsIn K mainGlobals "range" = some none)
    : ∃ fd : FuncData, (∀ (s : Shared) (v : Value), BindsTo s fd ⟨[v], []⟩ [("_law_script", v)]) ∧ ∀ base : Heap, K.In base → base.Ns mainGlobals mg → FnOk l.prog w K mg base CX0 7 fa fd ["_law_script"] (sp_law K) := by
  have e := hfa.symm.trans (PySem.W.mg_of X G a_law)
  cases e
  have F_PollError_init : FunD K "__init__" "PollError.__init__" (defArgs s_PollError_init) (defBody s_PollError_init) (defScope s_PollError_init) [V.str ""] [] f_PollError_init _ := ⟨⟨_, _, _, _, _, _, _, _, _, _, rfl, l_PollError_init, c_PollError_init, .inr ⟨by simp, _, _, [.str "" tk0_PollError_init], _, rfl, lt_PollError_init, rfl, (.cons ⟨_, rfl⟩ Paired.nil)⟩, .inl rfl⟩, k_PollError_init⟩
  obtain ⟨ikb_PollError_init_2, kb_PollError_init_2⟩ := F_PollError_init.kbindsD (ps := ["self", "why"]) 2 [] (fun us its ws => us) (by simp) (fun r1 r2 r3 => r1) (fun _ _ _ _ _ _ _ us its ws l1 l2 l3 => match us, its, ws, l1, l2, l3 with | [_, _], [_], [], _, _, _ => ⟨_, rfl, rfl⟩)
  have F_NoShare_init := fun_mk (st := s_NoShare_init) l_NoShare_init c_NoShare_init k_NoShare_init
  have kb_NoShare_init_2_over : KBn K (PySem.W.fnOf "__init__" "NoShare.__init__" (defArgs s_NoShare_init) (defBody s_NoShare_init) (defScope s_NoShare_init) .none kV_NoShare_init dc_NoShare_init pm_NoShare_init an_NoShare_init cd_NoShare_init ct_NoShare_init) ["self", "num", "over"] 2 ["over"] (fun us ws => us ++ ((ws.drop 0).take 1)) (fun vs zs => vs ++ ((zs.drop 0).take 1)) := ⟨fun s us ws _ l1 l2 => .of_eq (match us, ws, l1, l2 with | [_, _], [_], _, _ => rfl), fun r1 r3 => r1.append (((r3.drop 0).take 1))⟩
  have F_Share_init : FunD K "__init__" "Share.__init__" (defArgs s_Share_init) (defBody s_Share_init) (defScope s_Share_init) [V.int 1] [] f_Share_init _ := ⟨⟨_, _, _, _, _, _, _, _, _, _, rfl, l_Share_init, c_Share_init, .inr ⟨by simp, _, _, [.int 1 tk0_Share_init], _, rfl, lt_Share_init, rfl, (.cons ⟨_, rfl⟩ Paired.nil)⟩, .inl rfl⟩, k_Share_init⟩
  obtain ⟨ikb_Share_init_3, kb_Share_init_3⟩ := F_Share_init.kbindsD (ps := ["self", "num", "over"]) 3 [] (fun us its ws => us) (by simp) (fun r1 r2 r3 => r1) (fun _ _ _ _ _ _ _ us its ws l1 l2 l3 => match us, its, ws, l1, l2, l3 with | [_, _, _], [_], [], _, _, _ => ⟨_, rfl, rfl⟩)
  obtain ⟨ikb_Share_init_1_over_num, kb_Share_init_1_over_num⟩ := F_Share_init.kbindsD (ps := ["self", "num", "over"]) 1 ["over", "num"] (fun us its ws => us ++ ((ws.drop 1).take 1 ++ ((ws.drop 0).take 1))) (by simp) (fun r1 r2 r3 => r1.append (((r3.drop 1).take 1).append (((r3.drop 0).take 1)))) (fun _ _ _ _ _ _ _ us its ws l1 l2 l3 => match us, its, ws, l1, l2, l3 with | [_], [_], [_, _], _, _, _ => ⟨_, rfl, rfl⟩)
  obtain ⟨ikb_Share_init_1_num_over, kb_Share_init_1_num_over⟩ := F_Share_init.kbindsD (ps := ["self", "num", "over"]) 1 ["num", "over"] (fun us its ws => us ++ ((ws.drop 0).take 1 ++ ((ws.drop 1).take 1))) (by simp) (fun r1 r2 r3 => r1.append (((r3.drop 0).take 1).append (((r3.drop 1).take 1)))) (fun _ _ _ _ _ _ _ us its ws l1 l2 l3 => match us, its, ws, l1, l2, l3 with | [_], [_], [_, _], _, _, _ => ⟨_, rfl, rfl⟩)
  obtain ⟨ikb_Share_init_2, kb_Share_init_2⟩ := F_Share_init.kbindsD (ps := ["self", "num", "over"]) 2 [] (fun us its ws => us ++ ((its.drop 0).take 1)) (by simp) (fun r1 r2 r3 => r1.append (((r2.drop 0).take 1))) (fun _ _ _ _ _ _ _ us its ws l1 l2 l3 => match us, its, ws, l1, l2, l3 with | [_, _], [_], [], _, _, _ => ⟨_, rfl, rfl⟩)
  have F_Share_eq := fun_mk (st := s_Share_eq) l_Share_eq c_Share_eq k_Share_eq
  have b_Share_eq := F_Share_eq.binds (ps := ["self", "other"]) fun _ _ _ _ _ _ us hl => match us, hl with | [_, _], _ => rfl
  have F_Share_repr := fun_mk (st := s_Share_repr) l_Share_repr c_Share_repr k_Share_repr
  have b_Share_repr := F_Share_repr.binds (ps := ["self"]) fun _ _ _ _ _ _ us hl => match us, hl with | [_], _ => rfl
  have F_Share_str := fun_mk (st := s_Share_str) l_Share_str c_Share_str k_Share_str
  have b_Share_str := F_Share_str.binds (ps := ["self"]) fun _ _ _ _ _ _ us hl => match us, hl with | [_], _ => rfl
  have F_law_cell_at := fun_mk (st := s_law_cell_at) l_law_cell_at c_law_cell_at k_law_cell_at
  have b_law_cell_at := F_law_cell_at.binds (ps := ["_law_script", "_law_k"]) fun _ _ _ _ _ _ us hl => match us, hl with | [_, _], _ => rfl
  have F_law_well := fun_mk (st := s_law_well) l_law_well c_law_well k_law_well
  have b_law_well := F_law_well.binds (ps := ["_law_cell"]) fun _ _ _ _ _ _ us hl => match us, hl with | [_], _ => rfl
  have F_law_draw := fun_mk (st := s_law_draw) l_law_draw c_law_draw k_law_draw
  have b_law_draw := F_law_draw.binds (ps := ["_law_well_here", "_law_size"]) fun _ _ _ _ _ _ us hl => match us, hl with | [_, _], _ => rfl
  have F_law_one := fun_mk (st := s_law_one) l_law_one c_law_one k_law_one
  have b_law_one := F_law_one.binds (ps := ["_law_well_here", "_law_some"]) fun _ _ _ _ _ _ us hl => match us, hl with | [_, _], _ => rfl
  have F_law_lowest := fun_mk (st := s_law_lowest) l_law_lowest c_law_lowest k_law_lowest
  have b_law_lowest := F_law_lowest.binds (ps := ["_law_top", "_law_ground"]) fun _ _ _ _ _ _ us hl => match us, hl with | [_, _], _ => rfl
  have F_law_number := fun_mk (st := s_law_number) l_law_number c_law_number k_law_number
  have b_law_number := F_law_number.binds (ps := ["_law_well_here"]) fun _ _ _ _ _ _ us hl => match us, hl with | [_], _ => rfl
  have F_law_refused := fun_mk (st := s_law_refused) l_law_refused c_law_refused k_law_refused
  have b_law_refused := F_law_refused.binds (ps := ["_law_first", "_law_way"]) fun _ _ _ _ _ _ us hl => match us, hl with | [_, _], _ => rfl
  have F_law_shown := fun_mk (st := s_law_shown) l_law_shown c_law_shown k_law_shown
  have b_law_shown := F_law_shown.binds (ps := ["_law_due"]) fun _ _ _ _ _ _ us hl => match us, hl with | [_], _ => rfl
  have F_law := fun_mk (st := s_law) l_law c_law k_law
  have b_law := F_law.binds (ps := ["_law_script"]) fun _ _ _ _ _ _ us hl => match us, hl with | [_], _ => rfl
  let T : Txt K mg := {
    f_PollError_init := _, fd_PollError_init := _, F_PollError_init := F_PollError_init, gkb_PollError_init_2 := _, kb_PollError_init_2 := kb_PollError_init_2,
    f_NoShare_init := _, fd_NoShare_init := _, F_NoShare_init := F_NoShare_init, gkb_NoShare_init_2_over := _, kb_NoShare_init_2_over := kb_NoShare_init_2_over,
    f_Share_init := _, fd_Share_init := _, F_Share_init := F_Share_init, gkb_Share_init_3 := _, kb_Share_init_3 := kb_Share_init_3, gkb_Share_init_1_over_num := _, kb_Share_init_1_over_num := kb_Share_init_1_over_num, gkb_Share_init_1_num_over := _, kb_Share_init_1_num_over := kb_Share_init_1_num_over, gkb_Share_init_2 := _, kb_Share_init_2 := kb_Share_init_2,
    f_Share_eq := _, fd_Share_eq := _, F_Share_eq := F_Share_eq, b_Share_eq := b_Share_eq,
    f_Share_repr := _, fd_Share_repr := _, F_Share_repr := F_Share_repr, b_Share_repr := b_Share_repr,
    f_Share_str := _, fd_Share_str := _, F_Share_str := F_Share_str, b_Share_str := b_Share_str,
    f_law_cell_at := _, fd_law_cell_at := _, F_law_cell_at := F_law_cell_at, b_law_cell_at := b_law_cell_at, g_law_cell_at := PySem.W.mg_of X G a_law_cell_at,
    f_law_well := _, fd_law_well := _, F_law_well := F_law_well, b_law_well := b_law_well, g_law_well := PySem.W.mg_of X G a_law_well,
    f_law_draw := _, fd_law_draw := _, F_law_draw := F_law_draw, b_law_draw := b_law_draw, g_law_draw := PySem.W.mg_of X G a_law_draw,
    f_law_one := _, fd_law_one := _, F_law_one := F_law_one, b_law_one := b_law_one, g_law_one := PySem.W.mg_of X G a_law_one,
    f_law_lowest := _, fd_law_lowest := _, F_law_lowest := F_law_lowest, b_law_lowest := b_law_lowest, g_law_lowest := PySem.W.mg_of X G a_law_lowest,
    f_law_number := _, fd_law_number := _, F_law_number := F_law_number, b_law_number := b_law_number, g_law_number := PySem.W.mg_of X G a_law_number,
    f_law_refused := _, fd_law_refused := _, F_law_refused := F_law_refused, b_law_refused := b_law_refused, g_law_refused := PySem.W.mg_of X G a_law_refused,
    f_law_shown := _, fd_law_shown := _, F_law_shown := F_law_shown, b_law_shown := b_law_shown, g_law_shown := PySem.W.mg_of X G a_law_shown,
    f_law := _, fd_law := _, F_law := F_law, b_law := b_law, g_law := PySem.W.mg_of X G a_law,
    C_PollError := _, k_PollError := PySem.W.mg_of X G aC_PollError,
    ex_PollError := ⟨⟨⟨_, _, _, _, _, _, _, _, _, _, _, _, _, _, _, xL_PollError, rfl⟩, sa_PollError, eC_PollError, tC_PollError, kC_PollError⟩, ai_PollError, ti_PollError⟩,
    xf_PollError := ⟨gt_PollError, gg_PollError, eC_PollError, hC_PollError⟩,
    nf_PollError_why := nf_PollError_why,
    rd_PollError := rd_PollError, ga_PollError := ga_PollError, fc_PollError_init := fc_PollError_init,
    C_NoShare := _, k_NoShare := PySem.W.mg_of X G aC_NoShare,
    ex_NoShare := ⟨⟨⟨_, _, _, _, _, _, _, _, _, _, _, _, _, _, _, xL_NoShare, rfl⟩, sa_NoShare, eC_NoShare, tC_NoShare, kC_NoShare⟩, ai_NoShare, ti_NoShare⟩,
    xf_NoShare := ⟨gt_NoShare, gg_NoShare, eC_NoShare, hC_NoShare⟩,
    nf_NoShare_why := nf_NoShare_why,
    nf_NoShare_num := nf_NoShare_num,
    nf_NoShare_over := nf_NoShare_over,
    ic_NoShare := ⟨gt_NoShare, gg_NoShare, eC_NoShare, hC_NoShare, ha_NoShare, hn_NoShare, ht_NoShare, ob_NoShare⟩,
    C_Share := _, k_Share := PySem.W.mg_of X G aC_Share,
    cl_Share := ⟨pg_Share, hd_Share, po_Share, sa_Share⟩, mk_Share := ⟨mk_Share, ai_Share, ii_Share, kc_Share⟩,
    n_Share_num := n_Share_num,
    n_Share_over := n_Share_over,
    tx_Share_repr := ⟨ax_Share_repr, ix_Share_repr⟩,
    tx_Share_str := ⟨ax_Share_str, ix_Share_str⟩,
    eo_Share := ⟨ae_Share, ie_Share, ne_Share, ob_Share⟩,
    is_Share := ⟨ha_Share, hn_Share, ht_Share, ob_Share⟩, ki_Share := ki_Share,
    nf_Share_tuple := nf_Share_tuple,
    nf_Share_str := nf_Share_str,
    nf_Share_int := nf_Share_int,
    ki_Share_tuple := ki_Share_tuple,
    ki_Share_str := ki_Share_str,
    ki_Share_int := ki_Share_int,
    te_NoShare_PollError := PySem.W.exm_ref eC_PollError hC_PollError tC_PollError sb_NoShare_PollError,
    kt_NoShare_NoShare := kt_NoShare_NoShare,
    vV := vV,
    gcd := PySem.W.mg_of X G gcd,
    z_ValueError := PySem.W.mg_none_of X G z_ValueError,
    z_isinstance := PySem.W.mg_none_of X G z_isinstance,
    z_str := PySem.W.mg_none_of X G z_str,
    z_len := PySem.W.mg_none_of X G z_len,
    z_int := PySem.W.mg_none_of X G z_int,
    z_abs := PySem.W.mg_none_of X G z_abs,
    z_repr := PySem.W.mg_none_of X G z_repr,
    z_range := PySem.W.mg_none_of X G z_range }
  exact ⟨PySem.W.fnOf "law" "law" (defArgs s_law) (defBody s_law) (defScope s_law) .none kV_law dc_law pm_law an_law cd_law ct_law, fun s v => .of_eq rfl, fun base _ _ => ok_law T⟩
end Own
open PySem PySem.W PyProof.Rows
set_option maxHeartbeats 0 in
theorem PySem.Challenge.cw_voicefold_k03_shares_made_holds : PySem.Challenge.rw_voicefold_k03_shares_made.Holds := by
  w_on; o_law; k_head; (case hw => w_witness2)
  k_fill
  refine L2.walk_of (l := PySem.Challenge.rw_voicefold_k03_shares_made) (n := 63) (k := 7) (x := "_law_script") (CX := fun _ => L2.CX0) (sp := fun w => Own.sp_law _) rfl (by decide) rfl ⟨rfl, by decide, by decide⟩ (fun w h Y => PySem.W.kIn_of Y) ?F (fun _ _ a ns hl _ hS => ⟨a, ns, rfl, hS, hl, fun _ => rfl⟩) (fun _ _ _ _ _ h => h)
  case F =>
    intro w mg fa h KX G hmg
    refine' Own.all_mk KX G hmg ?lt_PollError_init ?l_PollError_init ?c_PollError_init ?k_PollError_init ?l_NoShare_init ?c_NoShare_init ?k_NoShare_init ?lt_Share_init ?l_Share_init ?c_Share_init ?k_Share_init ?l_Share_eq ?c_Share_eq ?k_Share_eq ?l_Share_repr ?c_Share_repr ?k_Share_repr ?l_Share_str ?c_Share_str ?k_Share_str ?a_law_cell_at ?l_law_cell_at ?c_law_cell_at ?k_law_cell_at ?a_law_well ?l_law_well ?c_law_well ?k_law_well ?a_law_draw ?l_law_draw ?c_law_draw ?k_law_draw ?a_law_one ?l_law_one ?c_law_one ?k_law_one ?a_law_lowest ?l_law_lowest ?c_law_lowest ?k_law_lowest ?a_law_number ?l_law_number ?c_law_number ?k_law_number ?a_law_refused ?l_law_refused ?c_law_refused ?k_law_refused ?a_law_shown ?l_law_shown ?c_law_shown ?k_law_shown ?a_law ?l_law ?c_law ?k_law ?aC_PollError ?xL_PollError ?sa_PollError ?gt_PollError ?gg_PollError ?ai_PollError ?ti_PollError ?kC_PollError ?eC_PollError ?tC_PollError ?hC_PollError ?nf_PollError_why ?rd_PollError ?ga_PollError ?fc_PollError_init ?aC_NoShare ?xL_NoShare ?sa_NoShare ?gt_NoShare ?gg_NoShare ?ai_NoShare ?ti_NoShare ?kC_NoShare ?eC_NoShare ?tC_NoShare ?hC_NoShare ?nf_NoShare_why ?nf_NoShare_num ?nf_NoShare_over ?ha_NoShare ?hn_NoShare ?ht_NoShare ?ob_NoShare ?aC_Share ?pg_Share ?hd_Share ?po_Share ?sa_Share ?mk_Share ?kc_Share ?ai_Share ?ii_Share ?n_Share_num ?n_Share_over ?ax_Share_repr ?ix_Share_repr ?ax_Share_str ?ix_Share_str ?ae_Share ?ie_Share ?ne_Share ?ob_Share ?ha_Share ?hn_Share ?ht_Share ?ki_Share ?nf_Share_tuple ?nf_Share_str ?nf_Share_int ?ki_Share_tuple ?ki_Share_str ?ki_Share_int ?sb_NoShare_PollError ?kt_NoShare_NoShare ?vV ?gcd ?z_ValueError ?z_isinstance ?z_str ?z_len ?z_int ?z_abs ?z_repr ?z_range
    (case a_law_cell_at => k_is); (case a_law_well => k_is); (case a_law_draw => k_is); (case a_law_one => k_is); (case a_law_lowest => k_is); (case a_law_number => k_is); (case a_law_refused => k_is); (case a_law_shown => k_is); (case a_law => k_is); (case aC_PollError => k_is); (case aC_NoShare => k_is); (case aC_Share => k_is); (case ai_PollError => k_is); (case ai_NoShare => k_is); (case ai_Share => k_is); (case ax_Share_repr => k_is); (case ax_Share_str => k_is); (case ae_Share => k_is); (case l_PollError_init => k_is); (case l_NoShare_init => k_is); (case l_Share_init => k_is); (case l_Share_eq => k_is); (case l_Share_repr => k_is); (case l_Share_str => k_is); (case l_law_cell_at => k_is); (case l_law_well => k_is); (case l_law_draw => k_is); (case l_law_one => k_is); (case l_law_lowest => k_is); (case l_law_number => k_is); (case l_law_refused => k_is); (case l_law_shown => k_is); (case l_law => k_is); (case xL_PollError => k_is); (case xL_NoShare => k_is); (case lt_PollError_init => k_is); (case lt_Share_init => k_is); (case c_PollError_init => k_is); (case k_PollError_init => k_is); (case c_NoShare_init => k_is); (case k_NoShare_init => k_is); (case c_Share_init => k_is); (case k_Share_init => k_is); (case c_Share_eq => k_is); (case k_Share_eq => k_is); (case c_Share_repr => k_is); (case k_Share_repr => k_is); (case c_Share_str => k_is); (case k_Share_str => k_is); (case c_law_cell_at => k_is); (case k_law_cell_at => k_is); (case c_law_well => k_is); (case k_law_well => k_is); (case c_law_draw => k_is); (case k_law_draw => k_is); (case c_law_one => k_is); (case k_law_one => k_is); (case c_law_lowest => k_is); (case k_law_lowest => k_is); (case c_law_number => k_is); (case k_law_number => k_is); (case c_law_refused => k_is); (case k_law_refused => k_is); (case c_law_shown => k_is); (case k_law_shown => k_is); (case c_law => k_is); (case k_law => k_is); (case sa_PollError => k_is); (case gt_PollError => k_is); (case gg_PollError => k_is); (case ti_PollError => k_is); (case kC_PollError => k_is); (case eC_PollError => k_is); (case tC_PollError => k_is); (case hC_PollError => k_is); (case nf_PollError_why => first | k_is | rfl | decide +kernel); (case rd_PollError => k_is); (case ga_PollError => k_is); (case fc_PollError_init => first | k_is | rfl | decide +kernel); (case sa_NoShare => k_is); (case gt_NoShare => k_is); (case gg_NoShare => k_is); (case ti_NoShare => k_is); (case kC_NoShare => k_is); (case eC_NoShare => k_is); (case tC_NoShare => k_is); (case hC_NoShare => k_is); (case nf_NoShare_why => first | k_is | rfl | decide +kernel); (case nf_NoShare_num => first | k_is | rfl | decide +kernel); (case nf_NoShare_over => first | k_is | rfl | decide +kernel); (case ha_NoShare => k_is); (case hn_NoShare => k_is); (case ht_NoShare => first | k_is | rfl | decide +kernel); (case ob_NoShare => k_is); (case pg_Share => k_is); (case hd_Share => k_is); (case po_Share => k_is); (case sa_Share => k_is); (case mk_Share => k_is); (case kc_Share => k_is); (case ii_Share => k_is); (case n_Share_num => k_is); (case n_Share_over => k_is); (case ix_Share_repr => k_is); (case ix_Share_str => k_is); (case ie_Share => k_is); (case ne_Share => k_is); (case ob_Share => k_is); (case ha_Share => k_is); (case hn_Share => k_is); (case ht_Share => first | k_is | rfl | decide +kernel); (case ki_Share => first | k_is | rfl | decide +kernel); (case nf_Share_tuple => first | k_is | rfl | decide +kernel); (case nf_Share_str => first | k_is | rfl | decide +kernel); (case nf_Share_int => first | k_is | rfl | decide +kernel); (case ki_Share_tuple => first | k_is | rfl | decide +kernel); (case ki_Share_str => first | k_is | rfl | decide +kernel); (case ki_Share_int => first | k_is | rfl | decide +kernel); (case sb_NoShare_PollError => first | k_is | rfl | decide +kernel); (case kt_NoShare_NoShare => first | k_is | rfl | decide +kernel); (case vV => first | k_is | rfl | decide +kernel); (case gcd => k_is); (case z_ValueError => k_is); (case z_isinstance => k_is); (case z_str => k_is); (case z_len => k_is); (case z_int => k_is); (case z_abs => k_is); (case z_repr => k_is); (case z_range => k_is)
