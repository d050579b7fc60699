import PyProof.Rows.All
import Wide.All
import OpenK.AllK
import Wide.FinOn
import HandS.ForMost
import HandS.Wide
import HandS.IsInst
import HandS.Style
import HandS.Walk
import HandS.LawCells
import HandS.TupAny
import HandS.Deep
import HandS.ForExc
import HandS.Defaults
import HandS.ExcInit
import HandS.CallSlots
import HandS.ExcIs
import HandS.ExcField
import HandS.MakeKw
import HandS.FStr
import HandS.RaiseMore
import HandS.Strs
import HandS.TupMul
import PyProof.ReprLen
import KE.KExcIs
import KE.KCallOwn
import PyProof.NeKinds
import PySem.Challenge.RW_voicefold_k11_ballots_checked
set_option Elab.async false
set_option linter.all false
set_option maxRecDepth 100000
set_option maxHeartbeats 4000000
/-! Own rules: exceptions of own classes made with keywords, in any place; calls with keywords that may raise. -/
namespace PySem
namespace OwnK
open PySem.W PySem.Calls PyProof.Rows PySem.HandSPX
section
variable {M : Model} {A : Around} {E : Value → Shared → Prop} {h : Heap} {g : Array GenState} {d : Drawn} {t : Nat} {os : OsState}
variable {nm q : Str} {C N : Addr} {bs bm bmB : List Value} {hd : Bool} {sn : List Str} {sub : List Value} {ab : Bool} {col : Option Bool} {dd : Option Addr} {k0 k1 k2 k3 k5 : Option Value} {B newId initId : String}
/-- the look ahead of the base's __new__, keywords or none -/
theorem newLook (F : ExcBaseFacts B newId initId bmB) (hT : bm.contains (.type B) = true ∧ bm.contains (.type "AttributeError") = false ∧ bm.contains (.type "NameError") = false) {rest : List Value} {kw : List (Str × Value)} {Q : Unit → Shared → Prop}
    (hC : h.get? C = some (excClassObj nm q C N bs bm hd sn sub ab col dd k0 k1 k2 k3 k5 newId)) (z : Q () ⟨h, g, d, t, os⟩) : wpAny M A (checkBuiltinCall newId ⟨.ref C :: rest, kw⟩) Q E ⟨h, g, d, t, os⟩ := by
  have hB : (Value.ref C :: bm).contains (.type B) = true := by
    rw [List.contains_cons, hT.1]
    exact Bool.or_true _
  have st := F.noStar
  simp only [checkBuiltinCall, F.newKind, F.newSplit, F.newRow]
  repeat (first
    | refine wpAny_loadPart_at hC ?_
    | (refine wpAny_isSubtype_exc hC ?_; rw [hB])
    | refine wpAny_staticBase_exc hC ?_
    | refine wpAny_madeBy_exc hC ?_
    | simp only [bne_self_eq_false, Bool.false_eq_true, if_false]
    | wp_step)
  exact z
end
section
variable {prog : Program} {w : World} {A : Around} {E : Value → Shared → Prop} {R : Result → Shared → Prop} {h : Heap} {g : Array GenState} {d : Drawn} {t : Nat} {os : OsState}
variable {nm q : Str} {C N : Addr} {bs bm bmB : List Value} {hd : Bool} {sn : List Str} {sub : List Value} {ab : Bool} {col : Option Bool} {dd : Option Addr} {k0 k1 k2 k3 k5 : Option Value} {B newId initId : String}
theorem newRun (F : ExcBaseFacts B newId initId bmB) (hT : bm.contains (.type B) = true ∧ bm.contains (.type "AttributeError") = false ∧ bm.contains (.type "NameError") = false) {rest : List Value} {kw : List (Str × Value)}
    (hC : h.get? C = some (excClassObj nm q C N bs bm hd sn sub ab col dd k0 k1 k2 k3 k5 newId))
    (z : R (.ok (.ret (.ref (h.objs.size + 1)))) ⟨(h.push (kdv_tup rest)).push (excO C h.objs.size), g, d, t, os⟩) (hr : rest.length ≤ sizeLine) :
    codeAny (model prog w) A (.builtin newId ⟨.ref C :: rest, kw⟩) R ⟨h, g, d, t, os⟩ := by
  have en := F.ends
  have hB : (Value.ref C :: bm).contains (.type B) = true := by
    rw [List.contains_cons, hT.1]
    exact Bool.or_true _
  have hA : (Value.ref C :: bm).contains (.type "AttributeError") = false := by
    rw [List.contains_cons, hT.2.1] <;> rfl
  have hN : (Value.ref C :: bm).contains (.type "NameError") = false := by
    rw [List.contains_cons, hT.2.2] <;> rfl
  refine codeAny_builtinAt F.entry ?_
  unfold Builtin.«BaseException.__new__»
  refine wpAt_bind ?_
  show wpAt _ _ _ (stack >>= _) _ _ _
  refine wpAt_bind (wpAt_stack fun p below => wpAt_of_wpAny ?_)
  wp_walk
  refine wpAt_of_wpAny ?_
  rw [F.owner]
  repeat (first
    | with_reducible refine wpAny_madeHere_exc F.canon hC ?_
    | with_reducible refine wpAny_loadPart_at hC ?_
    | (with_reducible refine wpAny_isSubtype_exc hC ?_; first | rw [hB] | rw [hA] | rw [hN])
    | wp_step)
  show R _ _
  rw [Heap.size_push]
  exact z
/-- the base's type.__call__, then the own __init__ -/
theorem typeCallRun (F : ExcBaseFacts B newId initId bmB) (hT : bm.contains (.type B) = true ∧ bm.contains (.type "AttributeError") = false ∧ bm.contains (.type "NameError") = false) {rest : List Value} {kw : List (Str × Value)} {fI : Addr} {Q : Fin → Shared → Prop}
    (hC : h.get? C = some (excClassObj nm q C N bs bm hd sn sub ab col dd k0 k1 k2 k3 k5 newId))
    (hi : Looks (model prog w) h (typeLookup (.ref C) "__init__") (some (.ref fI))) (hb : ∀ self, Looks (model prog w) h (bindSpecial (.ref fI) self) (.ref fI, [self])) (hr : rest.length ≤ sizeLine)
    (z : codeAny (model prog w) A (.call (.ref fI) ⟨.ref (h.objs.size + 1) :: rest, kw⟩)
      (fun r s' => match r with | .ok (.ret v) => v = .none ∧ Q (.done (.ret (.ref (h.objs.size + 1)))) s' | .ok _ => False | .error e => E e s')
      ⟨(h.push (kdv_tup rest)).push (excO C h.objs.size), g, d, t, os⟩) :
    wpAny (model prog w) A (Builtin.«type.__call__» ⟨.ref C :: rest, kw⟩) Q E ⟨h, g, d, t, os⟩ := by
  repeat (first
    | with_reducible refine wpAny_loadPart_at hC ?_
    | with_reducible refine wpAny_madeBy_exc hC ?_
    | wp_step)
  refine codeAny_call_builtin_code (Code.quiet_builtin _ F.quiet) (newLook F hT hC ?_)
  refine newRun F hT hC ?_ hr
  show wpAny _ _ _ _ _ _
  have kk : ∀ b o, h.get? b = some o → ((h.push (kdv_tup rest)).push (excO C h.objs.size)).get? b = some o := fun b o e => Heap.get?_push_of_some _ (Heap.get?_push_of_some _ e)
  have hC1 := kk _ _ hC
  have hx : ((h.push (kdv_tup rest)).push (excO C h.objs.size)).get? (h.objs.size + 1) = some (excO C h.objs.size) := by heap_get
  have hs : (Value.ref C :: bm).contains (.ref C) = true := by simp
  have i1 := hi.keeps kk
  have b1 := (hb (.ref (h.objs.size + 1))).keeps kk
  unfold isInstance
  repeat (first
    | with_reducible refine wpAny_loadPart_at hx ?_
    | (with_reducible refine wpAny_isSubtype_exc hC1 ?_; rw [hs])
    | wp_step)
  show wpAny _ _ (typeLookup (.ref C) _) _ _ _
  refine i1.at (wpAny_holding (wpAny_bind (b1.at ?_)))
  refine wpAny_bind (wpAny_call (codeAny_mono z fun r s' y => ?_))
  rcases r with e | fl
  · exact y
  cases fl with
  | ret v =>
    obtain ⟨rfl, y⟩ := y
    first
    | exact wpAny_pure (wpAny_pure y)
    | (wp_walk; exact y)
  | next => exact y.elim
  | brk => exact y.elim
  | cont => exact y.elim
theorem excCall (F : ExcBaseFacts B newId initId bmB) (hT : bm.contains (.type B) = true ∧ bm.contains (.type "AttributeError") = false ∧ bm.contains (.type "NameError") = false) {rest : List Value} {kw : List (Str × Value)} {fI : Addr}
    (hC : h.get? C = some (excClassObj nm q C N bs bm hd sn sub ab col dd k0 k1 k2 k3 k5 newId))
    (hi : Looks (model prog w) h (typeLookup (.ref C) "__init__") (some (.ref fI))) (hb : ∀ self, Looks (model prog w) h (bindSpecial (.ref fI) self) (.ref fI, [self])) (hr : rest.length ≤ sizeLine)
    (z : codeAny (model prog w) (A.under (.builtin "type.__call__" ⟨.ref C :: rest, kw⟩)) (.call (.ref fI) ⟨.ref (h.objs.size + 1) :: rest, kw⟩) (InitBack (h.objs.size + 1) R)
      ⟨(h.push (kdv_tup rest)).push (excO C h.objs.size), g, d, t, os⟩) :
    codeAny (model prog w) A (.call (.ref C) ⟨rest, kw⟩) R ⟨h, g, d, t, os⟩ := by
  have f1 := tc_lookup
  have f2 := tc_bind (.ref C)
  have ty : (⟨h, g, d, t, os⟩ : Shared).TypeIs (.ref C) "type" := ⟨_, hC, rfl⟩
  refine codeAny_of_tree ?_
  show wpAny _ _ (callAny (.ref C) _) _ _ _
  repeat (any_goals (first
    | assumption
    | with_reducible refine wpAny_loadPart_at hC ?_
    | wp_step))
  refine ⟨rfl, ?_⟩
  have look : ∀ {Q : Unit → Shared → Prop} {E : Value → Shared → Prop} {A : Around}, Q () ⟨h, g, d, t, os⟩ → wpAny (model prog w) A (checkBuiltinCall "type.__call__" ⟨.ref C :: rest, kw⟩) Q E ⟨h, g, d, t, os⟩ := by
    intro Q E A hq
    have f3 := tc_sub
    simp only [checkBuiltinCall, tc_kind, tc_split]
    repeat (any_goals (first
      | assumption
      | with_reducible refine wpAny_loadPart_at hC ?_
      | with_reducible refine wpAny_onRaise ?_
      | with_reducible refine wpAny_map ?_
      | wp_step))
  refine codeAny_call_builtin_at (Code.quiet_builtin _ (by decide +kernel)) entry_typeCall (look (typeCallRun F hT hC hi hb hr ?_))
  refine codeAny_mono z fun r s' y => ?_
  rcases r with e | (v | _ | _ | _) <;> exact y
end
end OwnK
end PySem

namespace Own
open PySem PySem.Spec PyProof.Rows L2
/-! ### calls of any form: positional values and keywords bound by KBn; what is raised is wished for at the caller's slots -/
theorem at0 {X : Cx} (σ : L2.St) : PassesAt CX0 X σ E0 := fun _ _ _ _ _ _ z => z.elim
theorem atE {X : Cx} {W : WX} (tk : Takes X W) (σ : L2.St) : PassesAt (L2.CX X.prog X.w) X σ (WE W σ) := passAt tk σ
theorem atN {X : Cx} (σ : L2.St) : PassesAt (L2.CX X.prog X.w) X σ E0 := fun _ _ _ _ _ _ z => by
  obtain ⟨_, _, _, _, _, _, _, _, _, _, _, _, y⟩ := z
  exact y.elim
section
variable {X : Cx} {CX : CXT} {k n : Nat} {f C : Addr} {fd : FuncData} {ps ks : List Str} {sp : Sp} {E : L2.St → XK} {E1 : XK} {x m : Str} {p pos apos : Pos} {e o : Expr} {es : List Expr} {kws : List Keyword} {t tk : TA} {to : TE}
variable {g : List Value → List Value → List Value} {gV : List V → List V → List V} {pins : List (Addr × Obj)} {σ : L2.St} {H : Hp} {s : Shared} {Q : VK} {us ws : List Value} {vs zs : List V}
theorem runF (F : FnOk X.prog X.w X.K X.mg X.base CX k f fd ps sp) (hr : Room k X.A) (hb : KBn X.K fd ps n ks g gV) (hx : PassesAt CX X σ E1) (I : Inv X pins σ H s) (r : Vals vs us) (rz : Vals zs ws) (l1 : vs.length = n) (l2 : zs.length = ks.length)
    (h : sp (gV vs zs) H Q E1) : wpAny (model X.prog X.w) X.A (call (.ref f) us (ks.zip ws)) (EP X pins σ Q) X.xe s := by
  have b := hb.to s us ws I.kIn (r.length.symm.trans l1) (rz.length.symm.trans l2)
  refine wpAny_call (codeAny_mono (F.run X.A X.stack s H _ (g us ws) (gV vs zs) Q E1 hr I.env0 b (hb.rel r rz) h) fun r s' y => ?_)
  cases r with
  | error e => exact hx pins H s e s' I y
  | ok fl =>
    cases fl with
    | ret u => exact I.after y
    | next => exact y.elim
    | brk => exact y.elim
    | cont => exact y.elim
theorem runM (M : Mk X.K C f) (F : FnOk X.prog X.w X.K X.mg X.base CX k f fd ps sp) (hr : Room (k + 1) X.A) (hb : KBn X.K fd ps (n + 1) ks g gV) (hx : PassesAt CX X σ E1) (I : Inv X pins σ H s) (r : Vals vs us) (rz : Vals zs ws) (l1 : vs.length = n) (l2 : zs.length = ks.length)
    (h : ∀ a dx, H a = none → H dx = none → dx ≠ a → sp (gV (.ref a :: vs) zs) (upd (upd H dx (.own a)) a (.ins C dx [])) (fun v H2 => v = .non ∧ Q (.ref a) H2) E1) :
    wpAny (model X.prog X.w) X.A (call (.ref C) us (ks.zip ws)) (EP X pins σ Q) X.xe s := by
  have hq := h (s.heap.objs.size + 1) s.heap.objs.size (I.hok.fresh (Nat.le_succ _)) (I.hok.fresh (Nat.le_refl _)) (Nat.ne_of_lt (Nat.lt_succ_self _))
  have J := Inv.made (C := C) I
  have r1 : Vals (V.ref (s.heap.objs.size + 1) :: vs) (Value.ref (s.heap.objs.size + 1) :: us) := .cons rfl r
  have n1 : (Value.ref (s.heap.objs.size + 1) :: us).length = n + 1 := r1.length.symm.trans (congrArg Nat.succ l1)
  have b := hb.to _ (Value.ref (s.heap.objs.size + 1) :: us) ws J.kIn n1 (rz.length.symm.trans l2)
  refine wpAny_call (make_map (f := f) I.kIn M.makes M.init (beq_iff_eq.mp M.fn) (codeAny_mono (F.run _ X.stack _ _ _ _ _ _ E1 (hr.make C us (ks.zip ws)) (J.env0.make C us (ks.zip ws)) b (hb.rel r1 rz) hq) fun r s' y => ?_))
  cases r with
  | error e => exact hx pins _ _ e s' J y
  | ok fl =>
    cases fl with
    | ret u =>
      obtain ⟨v, H', I3, rv, ev, q3⟩ := J.after y
      subst ev
      exact ⟨rv, ⟨V.ref (s.heap.objs.size + 1), H', I3, rfl, q3⟩⟩
    | next => exact y.elim
    | brk => exact y.elim
    | cont => exact y.elim
/-- f(e, .., k = v, ..) -/
def tFn (n m : Nat) (sp : Sp) (gV : List V → List V → List V) (E : L2.St → XK) (t tk : TA) : TE := fun σ H Q => t σ H fun vs H1 => tk σ H1 fun zs H2 => vs.length = n ∧ zs.length = m ∧ sp (gV vs zs) H2 Q (E σ)
theorem pf_pos (F : FnOk X.prog X.w X.K X.mg X.base CX k f fd ps sp) (hr : Room k X.A) (hg : Gl X x) (hm : X.mg x = some (.ref f)) (hk : PySem.W.keepIn X.K (.ref f) = true) (hb : KBn X.K fd ps n [] g gV) (hx : ∀ σ, PassesAt CX X σ (E σ)) (ha : PA X (e :: es) t)
    (hdb : (x == ("__debug__" : Str)) = false := by decide) (he : starEach (e :: es) X.env = (false, eval e X.env) :: starEach es X.env := by rfl) (hpl : (backTo pos (starEach es X.env)).any (·.1) = false := by rfl) :
    PE X (.Call (.Name x p) (e :: es) [] pos) (tFn n 0 sp gV E t tNil) := by
  refine ⟨fun pins s σ H Q I h => wpAny_Call_Name_kw (ld_glob I hg hm ?_ hdb)⟩
  exact PySem.W.callWith_K (h₀ := X.base) I.ok.mod.kin hk (thn (ha.run pos pins s σ H _ I h) fun us s1 ⟨vs, H1, I1, r, l1, l2, q⟩ => ⟨I1.kIn, runF (ks := []) F hr hb (hx σ) I1 r (.nil : Vals [] []) l1 rfl q⟩) he hpl
theorem pf_both (F : FnOk X.prog X.w X.K X.mg X.base CX k f fd ps sp) (hr : Room k X.A) (hg : Gl X x) (hm : X.mg x = some (.ref f)) (hk : PySem.W.keepIn X.K (.ref f) = true) (hb : KBn X.K fd ps n ks g gV) (hx : ∀ σ, PassesAt CX X σ (E σ)) (ha : PA X (e :: es) t) (hkw : PK X kws tk)
    (hall : (backToKw pos (keywordEach kws X.env)).all (·.1.isSome) = true := by rfl) (hks : (backToKw pos (keywordEach kws X.env)).filterMap (·.1) = ks := by rfl) (hdb : (x == ("__debug__" : Str)) = false := by decide)
    (he : starEach (e :: es) X.env = (false, eval e X.env) :: starEach es X.env := by rfl) (hpl : ((backTo pos (starEach (e :: es) X.env)).any (·.1) || (backToKw pos (keywordEach kws X.env)).any (·.1.isNone)) = false := by rfl) :
    PE X (.Call (.Name x p) (e :: es) kws pos) (tFn n ks.length sp gV E t tk) := by
  refine ⟨fun pins s σ H Q I h => wpAny_Call_Name_kw (ld_glob I hg hm ?_ hdb)⟩
  refine PySem.W.callWith_KW (h₀ := X.base) I.ok.mod.kin hk hall (thn (ha.run pos pins s σ H _ I h) fun us s1 ⟨vs, H1, I1, r, q⟩ => ?_) hpl he
  refine thn (hkw.run pos pins s1 σ H1 _ I1 q) fun ws s2 ⟨zs, H2, I2, rz, l1, l2, q2⟩ => ⟨I2.kIn, ?_⟩
  rw [hks]
  exact runF F hr hb (hx σ) I2 r rz l1 l2 q2
theorem pf_kw (F : FnOk X.prog X.w X.K X.mg X.base CX k f fd ps sp) (hr : Room k X.A) (hg : Gl X x) (hm : X.mg x = some (.ref f)) (hk : PySem.W.keepIn X.K (.ref f) = true) (hb : KBn X.K fd ps 0 ks g gV) (hx : ∀ σ, PassesAt CX X σ (E σ)) (hkw : PK X kws tk)
    (hall : (backToKw pos (keywordEach kws X.env)).all (·.1.isSome) = true := by rfl) (hks : (backToKw pos (keywordEach kws X.env)).filterMap (·.1) = ks := by rfl) (hdb : (x == ("__debug__" : Str)) = false := by decide)
    (hpl : ((backTo pos (starEach [] X.env)).any (·.1) || (backToKw pos (keywordEach kws X.env)).any (·.1.isNone)) = false := by rfl) :
    PE X (.Call (.Name x p) [] kws pos) (tFn 0 ks.length sp gV E tNil tk) := by
  refine ⟨fun pins s σ H Q I h => wpAny_Call_Name_kw (ld_glob I hg hm ?_ hdb)⟩
  refine PySem.W.callWith_KW0 (h₀ := X.base) I.ok.mod.kin hk hall ?_ hpl
  refine thn (hkw.run pos pins s σ H _ I h) fun ws s2 ⟨zs, H2, I2, rz, l1, l2, q2⟩ => ⟨I2.kIn, ?_⟩
  rw [hks]
  exact runF (us := []) (vs := []) F hr hb (hx σ) I2 .nil rz rfl l2 q2
/-- o.m(e, .., k = v, ..) -/
def tMt (C : Addr) (m : Str) (n j : Nat) (sp : Sp) (gV : List V → List V → List V) (E : L2.St → XK) (to : TE) (t tk : TA) : TE := fun σ H Q => to σ H fun x H0 => ∃ a dx fs, x = .ref a ∧ H0 a = some (.ins C dx fs) ∧ fs.lookup m = none ∧
  t σ H0 fun vs H1 => tk σ H1 fun zs H2 => vs.length = n ∧ zs.length = j ∧ sp (gV (.ref a :: vs) zs) H2 Q (E σ)
theorem pm_pos {pl : Sem Bool} (ho : PE X o to) (c : Cls X.K C) (hm : Meth X.K C m f) (F : FnOk X.prog X.w X.K X.mg X.base CX k f fd ps sp) (hr : Room k X.A) (hb : KBn X.K fd ps (n + 1) [] g gV) (hx : ∀ σ, PassesAt CX X σ (E σ)) (ha : PA X (e :: es) t)
    (hst : starEach (e :: es) X.env = (false, eval e X.env) :: starEach es X.env := by rfl) (hpl : (backTo pos (starEach es X.env)).any (·.1) = false := by rfl)
    (ht : eval (.Call (.Attribute o m apos) (e :: es) [] pos) X.env = (do
      let ov ← eval o X.env
      standAt apos.atName
      let (f, first) ← holding [ov] (getMethod ov m pl)
      callWith pos f first (backTo pos (starEach (e :: es) X.env)) (backToKw pos (keywordEach [] X.env))) := by rfl) :
    PE X (.Call (.Attribute o m apos) (e :: es) [] pos) (tMt C m n 0 sp gV E to t tNil) := by
  refine ⟨fun pins s σ H Q I h => ?_⟩
  refine PySem.W.methodCall_KW (pl := pl) (thn (ho.run pins s σ H _ I h) fun u s1 ⟨x, H1, I1, rx, a, dx, fs, ex, ea, l, q⟩ => ?_) ht
  subst ex
  obtain rfl : u = Value.ref a := rx
  refine getmeth_ok I1 ea c hm l ?_
  exact PySem.W.callWith_K (first := [.ref a]) (h₀ := X.base) I.ok.mod.kin hm.kp (thn (ha.run pos pins s1 σ H1 _ I1 q) fun us s2 ⟨vs, H2, I2, r, l1, l2, q2⟩ =>
    ⟨I2.kIn, runF (ks := []) (us := .ref a :: us) (vs := .ref a :: vs) F hr hb (hx σ) I2 (.cons rfl r) (.nil : Vals [] []) (congrArg Nat.succ l1) rfl q2⟩) hst hpl
theorem pm_kw {pl : Sem Bool} (ho : PE X o to) (c : Cls X.K C) (hm : Meth X.K C m f) (F : FnOk X.prog X.w X.K X.mg X.base CX k f fd ps sp) (hr : Room k X.A) (hb : KBn X.K fd ps 1 ks g gV) (hx : ∀ σ, PassesAt CX X σ (E σ)) (hkw : PK X kws tk)
    (hall : (backToKw pos (keywordEach kws X.env)).all (·.1.isSome) = true := by rfl) (hks : (backToKw pos (keywordEach kws X.env)).filterMap (·.1) = ks := by rfl)
    (hpl : ((backTo pos (starEach [] X.env)).any (·.1) || (backToKw pos (keywordEach kws X.env)).any (·.1.isNone)) = false := by rfl)
    (ht : eval (.Call (.Attribute o m apos) [] kws pos) X.env = (do
      let ov ← eval o X.env
      standAt apos.atName
      let (f, first) ← holding [ov] (getMethod ov m pl)
      callWith pos f first (backTo pos (starEach [] X.env)) (backToKw pos (keywordEach kws X.env))) := by rfl) :
    PE X (.Call (.Attribute o m apos) [] kws pos) (tMt C m 0 ks.length sp gV E to tNil tk) := by
  refine ⟨fun pins s σ H Q I h => ?_⟩
  refine PySem.W.methodCall_KW (pl := pl) (thn (ho.run pins s σ H _ I h) fun u s1 ⟨x, H1, I1, rx, a, dx, fs, ex, ea, l, q⟩ => ?_) ht
  subst ex
  obtain rfl : u = Value.ref a := rx
  refine getmeth_ok I1 ea c hm l ?_
  refine PySem.W.callWith_KW0 (first := [.ref a]) (h₀ := X.base) I.ok.mod.kin hm.kp hall ?_ hpl
  refine thn (hkw.run pos pins s1 σ H1 _ I1 q) fun ws s2 ⟨zs, H2, I2, rz, l1, l2, q2⟩ => ⟨I2.kIn, ?_⟩
  rw [hks]
  exact runF (us := [.ref a]) (vs := [.ref a]) F hr hb (hx σ) I2 (.cons rfl .nil) rz rfl l2 q2
/-- C(e, .., k = v, ..) -/
def tMk (C : Addr) (n m : Nat) (sp : Sp) (gV : List V → List V → List V) (E : L2.St → XK) (t tk : TA) : TE := fun σ H Q => t σ H fun vs H1 => tk σ H1 fun zs H2 => vs.length = n ∧ zs.length = m ∧ ∀ a dx, H2 a = none → H2 dx = none → dx ≠ a →
  sp (gV (.ref a :: vs) zs) (upd (upd H2 dx (.own a)) a (.ins C dx [])) (fun v H3 => v = .non ∧ Q (.ref a) H3) (E σ)
theorem pc_pos (M : Mk X.K C f) (F : FnOk X.prog X.w X.K X.mg X.base CX k f fd ps sp) (hr : Room (k + 1) X.A) (hg : Gl X x) (hm : X.mg x = some (.ref C)) (hb : KBn X.K fd ps (n + 1) [] g gV) (hx : ∀ σ, PassesAt CX X σ (E σ)) (ha : PA X (e :: es) t)
    (hdb : (x == ("__debug__" : Str)) = false := by decide) (he : starEach (e :: es) X.env = (false, eval e X.env) :: starEach es X.env := by rfl) (hpl : (backTo pos (starEach es X.env)).any (·.1) = false := by rfl) :
    PE X (.Call (.Name x p) (e :: es) [] pos) (tMk C n 0 sp gV E t tNil) := by
  refine ⟨fun pins s σ H Q I h => wpAny_Call_Name_kw (ld_glob I hg hm ?_ hdb)⟩
  exact PySem.W.callWith_K (h₀ := X.base) I.ok.mod.kin M.kp (thn (ha.run pos pins s σ H _ I h) fun us s1 ⟨vs, H1, I1, r, l1, l2, q⟩ =>
    ⟨I1.kIn, runM (ks := []) M F hr hb (hx σ) I1 r (.nil : Vals [] []) l1 rfl q⟩) he hpl
theorem pc_both (M : Mk X.K C f) (F : FnOk X.prog X.w X.K X.mg X.base CX k f fd ps sp) (hr : Room (k + 1) X.A) (hg : Gl X x) (hm : X.mg x = some (.ref C)) (hb : KBn X.K fd ps (n + 1) ks g gV) (hx : ∀ σ, PassesAt CX X σ (E σ)) (ha : PA X (e :: es) t) (hkw : PK X kws tk)
    (hall : (backToKw pos (keywordEach kws X.env)).all (·.1.isSome) = true := by rfl) (hks : (backToKw pos (keywordEach kws X.env)).filterMap (·.1) = ks := by rfl) (hdb : (x == ("__debug__" : Str)) = false := by decide)
    (he : starEach (e :: es) X.env = (false, eval e X.env) :: starEach es X.env := by rfl) (hpl : ((backTo pos (starEach (e :: es) X.env)).any (·.1) || (backToKw pos (keywordEach kws X.env)).any (·.1.isNone)) = false := by rfl) :
    PE X (.Call (.Name x p) (e :: es) kws pos) (tMk C n ks.length sp gV E t tk) := by
  refine ⟨fun pins s σ H Q I h => wpAny_Call_Name_kw (ld_glob I hg hm ?_ hdb)⟩
  refine PySem.W.callWith_KW (h₀ := X.base) I.ok.mod.kin M.kp hall (thn (ha.run pos pins s σ H _ I h) fun us s1 ⟨vs, H1, I1, r, q⟩ => ?_) hpl he
  refine thn (hkw.run pos pins s1 σ H1 _ I1 q) fun ws s2 ⟨zs, H2, I2, rz, l1, l2, q2⟩ => ⟨I2.kIn, ?_⟩
  rw [hks]
  exact runM M F hr hb (hx σ) I2 r rz l1 l2 q2
theorem pc_kw (M : Mk X.K C f) (F : FnOk X.prog X.w X.K X.mg X.base CX k f fd ps sp) (hr : Room (k + 1) X.A) (hg : Gl X x) (hm : X.mg x = some (.ref C)) (hb : KBn X.K fd ps 1 ks g gV) (hx : ∀ σ, PassesAt CX X σ (E σ)) (hkw : PK X kws tk)
    (hall : (backToKw pos (keywordEach kws X.env)).all (·.1.isSome) = true := by rfl) (hks : (backToKw pos (keywordEach kws X.env)).filterMap (·.1) = ks := by rfl) (hdb : (x == ("__debug__" : Str)) = false := by decide)
    (hpl : ((backTo pos (starEach [] X.env)).any (·.1) || (backToKw pos (keywordEach kws X.env)).any (·.1.isNone)) = false := by rfl) :
    PE X (.Call (.Name x p) [] kws pos) (tMk C 0 ks.length sp gV E tNil tk) := by
  refine ⟨fun pins s σ H Q I h => wpAny_Call_Name_kw (ld_glob I hg hm ?_ hdb)⟩
  refine PySem.W.callWith_KW0 (h₀ := X.base) I.ok.mod.kin M.kp hall ?_ hpl
  refine thn (hkw.run pos pins s σ H _ I h) fun ws s2 ⟨zs, H2, I2, rz, l1, l2, q2⟩ => ⟨I2.kIn, ?_⟩
  rw [hks]
  exact runM (n := 0) (us := []) (vs := []) M F hr hb (hx σ) I2 .nil rz rfl l2 q2
/-- C0.m(e, ..), the def read off an own class -/
theorem pcl_pos {C0 : Addr} {mc : Value} {pl : Sem Bool} (hg : Gl X x) (hm : X.mg x = some (.ref C0)) (rd : PySem.W.readsIn X.K C0 mc = true) (ga : PySem.W.specialIn X.K (.ref C0) "__getattribute__" = some (some (.builtin "type.__getattribute__")))
    (fc : PySem.W.findCls X.K (.ref C0) mc m = some (.val (.ref f))) (hk : PySem.W.keepIn X.K (.ref f) = true) (F : FnOk X.prog X.w X.K X.mg X.base CX k f fd ps sp) (hr : Room k X.A) (hb : KBn X.K fd ps n [] g gV) (hx : ∀ σ, PassesAt CX X σ (E σ)) (ha : PA X (e :: es) t)
    (hdb : (x == ("__debug__" : Str)) = false := by decide) (hst : starEach (e :: es) X.env = (false, eval e X.env) :: starEach es X.env := by rfl) (hpl : (backTo pos (starEach es X.env)).any (·.1) = false := by rfl)
    (ht : eval (.Call (.Attribute (.Name x p) m apos) (e :: es) [] pos) X.env = (do
      let ov ← eval (.Name x p) X.env
      standAt apos.atName
      let (f, first) ← holding [ov] (getMethod ov m pl)
      callWith pos f first (backTo pos (starEach (e :: es) X.env)) (backToKw pos (keywordEach [] X.env))) := by rfl) :
    PE X (.Call (.Attribute (.Name x p) m apos) (e :: es) [] pos) (tFn n 0 sp gV E t tNil) := by
  refine ⟨fun pins s σ H Q I h => ?_⟩
  refine PySem.W.methodCall_KW (pl := pl) (ld_glob I hg hm ?_ hdb) ht
  refine PySem.W.method_cls I.kIn ga (PySem.W.cls_value I.kIn rd fc rfl ?_)
  exact PySem.W.callWith_K (first := []) (h₀ := X.base) I.ok.mod.kin hk (thn (ha.run pos pins _ σ H _ (I.tok _) h) fun us s2 ⟨vs, H2, I2, r, l1, l2, q2⟩ => ⟨I2.kIn, runF (ks := []) F hr hb (hx σ) I2 r (.nil : Vals [] []) l1 rfl q2⟩) hst hpl
end

/-! ### raise C(..) of an own class over ValueError: positional values, keywords, none -/
section
variable {X : Cx} {CX : CXT} {k n : Nat} {fI C : Addr} {fd : FuncData} {ps ks : List Str} {sp : Sp} {x : Str} {p pos : Pos} {e : Expr} {es : List Expr} {kws : List Keyword} {t tk : TA}
variable {g : List Value → List Value → List Value} {gV : List V → List V → List V} {pins : List (Addr × Obj)} {σ : L2.St} {H : Hp} {s : Shared} {Q : XK} {us ws : List Value} {vs zs : List V}
abbrev NoE : XK := fun _ _ _ => False
/-- what the written part says of C and its __init__ -/
structure ExK (K : PySem.W.Frag) (C fI : Addr) : Prop where
  made : ∃ (B newId initId : String) (bmB : List Value) (nm q : Str) (N : Addr) (bs bm : List Value) (sn : List Str) (sub : List Value) (ab : Bool) (col : Option Bool) (dd : Option Addr) (k0 k1 k2 k3 k5 : Option Value),
    ExcBaseFacts B newId initId bmB ∧ K.lookup C = some (excClassObj nm q C N bs bm true sn sub ab col dd k0 k1 k2 k3 k5 newId) ∧
    (bm.contains (.type B) = true ∧ bm.contains (.type "AttributeError") = false ∧ bm.contains (.type "NameError") = false)
  exC : PySem.W.subIn K (.ref C) (.type "BaseException") = some true
  tyC : PySem.W.typeIn K (.ref C) = some (.type "type")
  kC : PySem.W.keepIn K (.ref C) = true
  init : PySem.W.findIn K (.ref C) "__init__" = some (some (.ref fI))
  fn : PySem.W.typeIn K (.ref fI) = some (.type "function")
theorem exK_ve {K : PySem.W.Frag} {C fI : Addr} (T : OexC K C) (i : PySem.W.findIn K (.ref C) "__init__" = some (some (.ref fI))) (f : PySem.W.typeIn K (.ref fI) = some (.type "function")) : ExK K C fI := by
  obtain ⟨nm, q, N, bs, bm, sn, sub, ab, col, dd, k0, k1, k2, k3, k5, hC, hbm⟩ := T.cls
  have F := PySem.F.excBase_ValueError
  have c := fun Y => PySem.HandSPX.refsVE_contains Y bm hbm
  exact ⟨⟨_, _, _, _, _, _, _, _, _, _, _, _, _, _, _, _, _, _, _, F, hC, (c _).trans F.hasB, (c _).trans F.noAttr, (c _).trans F.noName⟩, T.exC, T.tyC, T.kC, i, f⟩
def BackX (a C : Addr) (H2 : Hp) (Q : XK) : VK := fun v H3 => v = .non ∧ ∃ (d : Addr) (fs : List (Str × V)), H3 a = some (exo a C (some d)) ∧ H3 d = some (exd d fs) ∧ H2 d = none ∧ Q (.ref C) (some d) (upd (del H3 a) d (.xd fs))
theorem runX (T : ExK X.K C fI) (F : FnOk X.prog X.w X.K X.mg X.base CX k fI fd ps sp) (hr : Room (k + 1) X.A) (hb : KBn X.K fd ps (n + 1) ks g gV) (hx : PassesAt CX X σ NoE) (I : Inv X pins σ H s) (r : Vals vs us) (rz : Vals zs ws) (l1 : vs.length = n) (l2 : zs.length = ks.length) (hn : n ≤ 1000)
    (h : ∀ a, H a = none → sp (gV (.ref a :: vs) zs) (upd H a (exo a C none)) (BackX a C H Q) NoE) : wpAny (model X.prog X.w) X.A (call (.ref C) us (ks.zip ws)) (MkP X pins σ Q) X.xe s := by
  obtain ⟨B, newId, initId, bmB, nm, q, N, bs, bm, sn, sub, ab, col, dd, k0, k1, k2, k3, k5, F0, hC, hbm⟩ := T.made
  obtain ⟨hp, gs, dr, tk, os⟩ := s
  have sz : hp.objs.size ≤ hp.objs.size + 1 := Nat.le_succ _
  have hq := h (hp.objs.size + 1) (I.hok.fresh sz)
  have kk : ∀ b o, hp.get? b = some o → ((hp.push (PySem.W.kdv_tup us)).push (PySem.HandSPX.excO C hp.objs.size)).get? b = some o := fun b o e => Heap.get?_push_of_some _ (Heap.get?_push_of_some _ e)
  have hat : ((hp.push (PySem.W.kdv_tup us)).push (PySem.HandSPX.excO C hp.objs.size)).get? (hp.objs.size + 1) = some (PySem.HandSPX.excO C hp.objs.size) := by heap_get
  have J : Inv X pins σ (upd H (hp.objs.size + 1) (exo (hp.objs.size + 1) C none)) ⟨(hp.push (PySem.W.kdv_tup us)).push (PySem.HandSPX.excO C hp.objs.size), gs, dr, tk, os⟩ :=
    I.laid (t' := tk) (a := hp.objs.size + 1) (o := exo (hp.objs.size + 1) C none) kk sz (exo_ok hat)
  have r1 : Vals (V.ref (hp.objs.size + 1) :: vs) (Value.ref (hp.objs.size + 1) :: us) := .cons rfl r
  have b := hb.to _ (Value.ref (hp.objs.size + 1) :: us) ws J.kIn (r1.length.symm.trans (congrArg Nat.succ l1)) (rz.length.symm.trans l2)
  have hus : us.length ≤ sizeLine := by
    rw [← r.length, l1, sizeLine_eq]
    omega
  refine wpAny_call (PySem.OwnK.excCall F0 hbm (I.kIn _ _ hC) (PySem.W.looks_findIn I.kIn T.init) (fun self => PySem.W.bind_fn I.kIn self T.fn) hus
    (codeAny_mono (F.run _ X.stack _ _ _ _ _ _ NoE (hr.make C us (ks.zip ws)) (J.env0.make C us (ks.zip ws)) b (hb.rel r1 rz) hq) fun r s' y => ?_))
  cases r with
  | error er => exact hx pins _ _ er s' J y
  | ok fl =>
    cases fl with
    | ret u =>
      obtain ⟨v, H2, os2, bare2, un2, hok2, rv, ev, d, fs, ea, ed, hd1, q2⟩ := y
      subst ev
      obtain ⟨h2, g2, d2, t2, os'⟩ := s'
      exact ⟨rv, mk_end (raises_own T.exC T.tyC) I sz kk un2 hok2 os2 bare2 ea ed hd1 q2⟩
    | next => exact y.elim
    | brk => exact y.elim
    | cont => exact y.elim
def tRz (C : Addr) (n m : Nat) (sp : Sp) (gV : List V → List V → List V) (t tk : TA) : L2.St → Hp → XK → Prop := fun σ H Q => t σ H fun vs H1 => tk σ H1 fun zs H2 => vs.length = n ∧ zs.length = m ∧ n ≤ 1000 ∧
  ∀ a, H2 a = none → sp (gV (.ref a :: vs) zs) (upd H2 a (exo a C none)) (BackX a C H2 Q) NoE
theorem px_pos (T : ExK X.K C fI) (F : FnOk X.prog X.w X.K X.mg X.base CX k fI fd ps sp) (hr : Room (k + 1) X.A) (hg : Gl X x) (hm : X.mg x = some (.ref C)) (hb : KBn X.K fd ps (n + 1) [] g gV) (hx : ∀ σ, PassesAt CX X σ NoE) (ha : PA X (e :: es) t)
    (hdb : (x == ("__debug__" : Str)) = false := by decide) (he : starEach (e :: es) X.env = (false, eval e X.env) :: starEach es X.env := by rfl) (hpl : (backTo pos (starEach es X.env)).any (·.1) = false := by rfl) :
    PMk X (.Call (.Name x p) (e :: es) [] pos) (tRz C n 0 sp gV t tNil) := by
  intro pins s σ H Q I h
  refine wpAny_Call_Name_kw (ld_glob I hg hm ?_ hdb)
  exact PySem.W.callWith_K (h₀ := X.base) I.ok.mod.kin T.kC (thn (ha.run pos pins s σ H _ I h) fun us s1 ⟨vs, H1, I1, r, l1, l2, l3, q⟩ => ⟨I1.kIn, runX (ks := []) T F hr hb (hx σ) I1 r (.nil : Vals [] []) l1 rfl l3 q⟩) he hpl
theorem px_both (T : ExK X.K C fI) (F : FnOk X.prog X.w X.K X.mg X.base CX k fI fd ps sp) (hr : Room (k + 1) X.A) (hg : Gl X x) (hm : X.mg x = some (.ref C)) (hb : KBn X.K fd ps (n + 1) ks g gV) (hx : ∀ σ, PassesAt CX X σ NoE) (ha : PA X (e :: es) t) (hkw : PK X kws tk)
    (hall : (backToKw pos (keywordEach kws X.env)).all (·.1.isSome) = true := by rfl) (hks : (backToKw pos (keywordEach kws X.env)).filterMap (·.1) = ks := by rfl) (hdb : (x == ("__debug__" : Str)) = false := by decide)
    (he : starEach (e :: es) X.env = (false, eval e X.env) :: starEach es X.env := by rfl) (hpl : ((backTo pos (starEach (e :: es) X.env)).any (·.1) || (backToKw pos (keywordEach kws X.env)).any (·.1.isNone)) = false := by rfl) :
    PMk X (.Call (.Name x p) (e :: es) kws pos) (tRz C n ks.length sp gV t tk) := by
  intro pins s σ H Q I h
  refine wpAny_Call_Name_kw (ld_glob I hg hm ?_ hdb)
  refine PySem.W.callWith_KW (h₀ := X.base) I.ok.mod.kin T.kC hall (thn (ha.run pos pins s σ H _ I h) fun us s1 ⟨vs, H1, I1, r, q⟩ => ?_) hpl he
  refine thn (hkw.run pos pins s1 σ H1 _ I1 q) fun ws s2 ⟨zs, H2, I2, rz, l1, l2, l3, q2⟩ => ⟨I2.kIn, ?_⟩
  rw [hks]
  exact runX T F hr hb (hx σ) I2 r rz l1 l2 l3 q2
theorem px_kw (T : ExK X.K C fI) (F : FnOk X.prog X.w X.K X.mg X.base CX k fI fd ps sp) (hr : Room (k + 1) X.A) (hg : Gl X x) (hm : X.mg x = some (.ref C)) (hb : KBn X.K fd ps 1 ks g gV) (hx : ∀ σ, PassesAt CX X σ NoE) (hkw : PK X kws tk)
    (hall : (backToKw pos (keywordEach kws X.env)).all (·.1.isSome) = true := by rfl) (hks : (backToKw pos (keywordEach kws X.env)).filterMap (·.1) = ks := by rfl) (hdb : (x == ("__debug__" : Str)) = false := by decide)
    (hpl : ((backTo pos (starEach [] X.env)).any (·.1) || (backToKw pos (keywordEach kws X.env)).any (·.1.isNone)) = false := by rfl) :
    PMk X (.Call (.Name x p) [] kws pos) (tRz C 0 ks.length sp gV tNil tk) := by
  intro pins s σ H Q I h
  refine wpAny_Call_Name_kw (ld_glob I hg hm ?_ hdb)
  refine PySem.W.callWith_KW0 (h₀ := X.base) I.ok.mod.kin T.kC hall ?_ hpl
  refine thn (hkw.run pos pins s σ H _ I h) fun ws s2 ⟨zs, H2, I2, rz, l1, l2, l3, q2⟩ => ⟨I2.kIn, ?_⟩
  rw [hks]
  exact runX (n := 0) (us := []) (vs := []) T F hr hb (hx σ) I2 .nil rz rfl l2 l3 q2
theorem px_none (T : ExK X.K C fI) (F : FnOk X.prog X.w X.K X.mg X.base CX k fI fd ps sp) (hr : Room (k + 1) X.A) (hg : Gl X x) (hm : X.mg x = some (.ref C)) (hb : KBn X.K fd ps 1 [] g gV) (hx : ∀ σ, PassesAt CX X σ NoE)
    (hdb : (x == ("__debug__" : Str)) = false := by decide) : PMk X (.Call (.Name x p) [] [] pos) (tRz C 0 0 sp gV tNil tNil) := by
  intro pins s σ H Q I h
  refine wpAny_Call_Name_kw (ld_glob I hg hm ?_ hdb)
  obtain ⟨l1, l2, l3, q⟩ := h
  exact PySem.W.callWith_K0 I.kIn T.kC (runX (n := 0) (ks := []) (us := []) (vs := []) T F hr hb (hx σ) I .nil (.nil : Vals [] []) rfl rfl l3 q)
end
end Own

/-! Own rules: repr and str of an instance with own __repr__, __str__; a text times 0 or 1; isinstance of a caught own exception that has fields. -/
namespace Own
open PySem PySem.Spec PyProof.Rows L2
section
variable {X : Cx} {CX : CXT} {k : Nat} {C f : Addr} {fd : FuncData} {ps : List Str} {sp : Sp} {E : XK}
/-- what repr or str by an own def asks of the written part -/
structure TxtOwn (K : PySem.W.Frag) (C f : Addr) (nm : Str) : Prop where
  fd : PySem.W.findIn K (.ref C) nm = some (some (.ref f))
  fn : PySem.W.isFn K (.ref f) = true
def rTxO (C : Addr) (sp : Sp) (E : XK) : List V → Hp → VK → Prop := fun xs H Q => ∃ (a dx : Addr) (fs : List (Str × V)), xs = [.ref a] ∧ H a = some (.ins C dx fs) ∧
  sp [.ref a] H (fun v H' => ∃ y : Str, v = .str y ∧ Q (.str y) H') E
theorem call_reprO (T : TxtOwn X.K C f "__repr__") (F : FnOk X.prog X.w X.K X.mg X.base CX k f fd ps sp) (hr : Room (k + 1) X.A) (hb : Binds X.K fd ps []) (hx : Passes CX X E) : CallR X (.builtin "repr") (rTxO C sp E) := by
  intro pins s σ H xs us Q I r h
  obtain ⟨a, dx, fs, rfl, ha, q⟩ := h
  obtain ⟨mA, J, _⟩ := ins_get I.hok ha
  obtain ⟨od, J, _⟩ := J.look
  obtain ⟨m, hF⟩ := I.fr
  obtain ⟨u, rfl, ru⟩ := vals1 r
  cases ru
  have r2 : Vals [V.ref a] [Value.ref a] := .cons rfl .nil
  refine PySem.W.repr_K hr.in1.units0 hF I.ok.mod.kin J T.fd T.fn ?_
  have hl : ([Value.ref a] : List Value).length = ps.length := (Paired.length r2).symm.trans (F.len _ _ _ _ q)
  have b0 := hb s [.ref a] I.kIn (by simpa using hl)
  rw [List.append_nil] at b0
  refine wpAny_call (codeAny_mono (F.run X.A.in1 X.stack s H ⟨[.ref a], []⟩ [.ref a] [.ref a] _ E hr.in1 I.env0.in1 b0 r2 q) fun r s' z => ?_)
  cases r with
  | error e => exact hx pins σ H s e s' I z
  | ok fl =>
    cases fl with
    | ret w =>
      obtain ⟨v', H', I', rv, y, ev, q'⟩ := I.after z
      subst ev
      obtain ⟨t, rfl⟩ := rv
      exact ⟨.str y, H', I', ⟨t, rfl⟩, q'⟩
    | next => exact z.elim
    | brk => exact z.elim
    | cont => exact z.elim
theorem call_strO (T : TxtOwn X.K C f "__str__") (F : FnOk X.prog X.w X.K X.mg X.base CX k f fd ps sp) (hr : Room (k + 2) X.A) (hb : Binds X.K fd ps []) (hx : Passes CX X E) : CallR X (.type "str") (rTxO C sp E) := by
  intro pins s σ H xs us Q I r h
  obtain ⟨a, dx, fs, rfl, ha, q⟩ := h
  obtain ⟨mA, J, _⟩ := ins_get I.hok ha
  obtain ⟨od, J, _⟩ := J.look
  obtain ⟨u, rfl, ru⟩ := vals1 r
  cases ru
  have r2 : Vals [V.ref a] [Value.ref a] := .cons rfl .nil
  refine PySem.W.kso_call hr.in1.in1.units0 I.kIn J T.fd T.fn ?_
  have hl : ([Value.ref a] : List Value).length = ps.length := (Paired.length r2).symm.trans (F.len _ _ _ _ q)
  have b0 := hb s [.ref a] I.kIn (by simpa using hl)
  rw [List.append_nil] at b0
  refine wpAny_call (codeAny_mono (F.run X.A.in1.in1 X.stack s H ⟨[.ref a], []⟩ [.ref a] [.ref a] _ E hr.in1.in1 I.env0.in1.in1 b0 r2 q) fun r s' z => ?_)
  cases r with
  | error e => exact hx pins σ H s e s' I z
  | ok fl =>
    cases fl with
    | ret w =>
      obtain ⟨v', H', I', rv, y, ev, q'⟩ := I.after z
      subst ev
      obtain ⟨t, rfl⟩ := rv
      exact ⟨.str y, H', I', ⟨t, rfl⟩, q'⟩
    | next => exact z.elim
    | brk => exact z.elim
    | cont => exact z.elim
/-- a text times int(a truth) -/
theorem op_mul01 : OpR X (binaryOp .Mult) (fun x y H Q => ∃ (z : Str) (n : Int), x = .str z ∧ y = .int n ∧ (n = 0 ∨ n = 1) ∧ Q (.str (if n = 1 then z else Str.empty)) H) := by
  intro pins s σ H x y v u Q I rx ry h
  obtain ⟨z, n, rfl, rfl, hn, q⟩ := h
  obtain ⟨t, rfl⟩ := rx
  obtain ⟨t', rfl⟩ := ry
  rcases hn with rfl | rfl
  · exact PySem.P.mul_str_none (by decide) (by decide) ⟨.str Str.empty, H, I.tok _, ⟨_, rfl⟩, q⟩
  · exact PySem.P.mul_str (by decide) (fun _ h => by simp at h) (fun _ h => by simp at h) (by rw [if_neg (by decide), if_pos (by rfl)]; exact ⟨.str z, H, I, ⟨_, rfl⟩, q⟩)
end
/-- isinstance(e, c), e the caught exception, of the class D, with the dict d -/
def rIsX (K : PySem.W.Frag) (D a : Addr) (cls : Value) (d : Option Addr) : List V → Hp → VK → Prop := fun xs H Q => ∃ (c : V) (cv : Value) (b : Bool) (dd : Addr) (fs : List (Str × V)), xs = [.ref a, c] ∧ (∀ u, RelV c u → u = cv) ∧ cls = .ref D ∧ d = some dd ∧ H dd = some (.xd fs) ∧
  PySem.W.kitOne K (.ref D) cv = some b ∧ Q (.bl b) H
theorem suite_inst {X : Cx} {a D dd : Addr} {oe : Obj} {cls : Value} {d : Option Addr} {pn pins : List (Addr × Obj)} {σ : L2.St} {H : Hp} {s : Shared} {fs : List (Str × V)} (hz : Zc cls d oe) (hf : ∃ vs, oe.data = .fields vs) (I : Inv (X.suite a ((a, oe) :: pn)) pins σ H s)
    (ec : cls = .ref D) (ed : d = some dd) (ea : H dd = some (.xd fs)) : ∃ od, PySem.W.InstAt s.heap a oe D (some od) := by
  subst ec
  subst ed
  obtain ⟨hget, _⟩ := I.pin (a, oe) (List.mem_append_left _ List.mem_cons_self)
  obtain ⟨vs, hv⟩ := hf
  have hx : ObjOk X.prog X.w H s.heap dd (.xd fs) := I.hok dd _ ea
  obtain ⟨mA, hns, hr⟩ := hx
  obtain ⟨od, ho, hl⟩ := lookIn_ns hns
  exact ⟨od, hget, hz.1, by unfold PySem.W.notCls; rw [hv] <;> rfl, by rw [hz.2]; exact ho⟩
theorem excC_cls {K : PySem.W.Frag} {D : Addr} (C : ExcC K D) : (PySem.W.clsIn K D).isSome = true := by
  obtain ⟨cd, hc, _⟩ := PySem.W.any_some C.hd
  rw [hc]
  rfl
theorem call_isX {X : Cx} {a D : Addr} {oe : Obj} {cls : Value} {d : Option Addr} {pn : List (Addr × Obj)} (C : ExcC X.K D) (hz : Zc cls d oe) (hf : ∃ vs, oe.data = .fields vs) : CallR (X.suite a ((a, oe) :: pn)) (.builtin "isinstance") (rIsX X.K D a cls d) := by
  intro pins s σ H xs us Q I r h
  obtain ⟨c, cv, b, dd, fs, rfl, hcv, ec, ed, ea, e, q⟩ := h
  obtain ⟨u1, u2, rfl, rx, rt⟩ := vals2 r
  cases rx
  have e2 := hcv _ rt
  subst e2
  obtain ⟨od, J⟩ := suite_inst hz hf I ec ed ea
  exact PySem.W.kia_one (PySem.W.kitx_exc (excC_cls C) C.hg C.hk C.hs C.ha C.hn C.ht C.hm) I.kIn J e (fun z => nomatch z) fun tk => ⟨.bl b, H, I.kept (t' := tk) fun _ _ z => z, rfl, q⟩
/-- isinstance(e, (c1, c2, ..)), the tuple just laid -/
def rIsXT (K : PySem.W.Frag) (D a : Addr) (cls : Value) (d : Option Addr) : List V → Hp → VK → Prop := fun xs H Q => ∃ (tp : Addr) (cs : List V) (us : List Value) (b : Bool) (dd : Addr) (fs : List (Str × V)), xs = [.ref a, .ref tp] ∧ H tp = some (.tup cs) ∧ Paired ClsV cs us ∧ cls = .ref D ∧ d = some dd ∧ H dd = some (.xd fs) ∧
  PySem.W.kitAny K (.ref D) us = some b ∧ Q (.bl b) H
theorem call_isXT {X : Cx} {a D : Addr} {oe : Obj} {cls : Value} {d : Option Addr} {pn : List (Addr × Obj)} (C : ExcC X.K D) (hz : Zc cls d oe) (hf : ∃ vs, oe.data = .fields vs) : CallR (X.suite a ((a, oe) :: pn)) (.builtin "isinstance") (rIsXT X.K D a cls d) := by
  intro pins s σ H xs us Q I r h
  obtain ⟨tp, cs, ws, b, dd, fs, rfl, hT, k, ec, ed, ea, e, q⟩ := h
  obtain ⟨u1, u2, rfl, rx, rt⟩ := vals2 r
  cases rx
  cases (show u2 = Value.ref tp from rt)
  obtain ⟨od, J⟩ := suite_inst hz hf I ec ed ea
  have ht : ObjOk X.prog X.w H s.heap tp (.tup cs) := I.hok tp _ hT
  obtain ⟨_, its, rv, o, h1, h2, n, h3⟩ := ht
  have e3 := ClsV.all k rv
  subst e3
  obtain ⟨oc, odd, dt, sl⟩ := o
  dsimp only at h2 h3
  subst h2 h3
  exact PySem.W.kia_tup (PySem.W.kitx_exc (excC_cls C) C.hg C.hk C.hs C.ha C.hn C.ht C.hm) I.kIn J h1 e (fun z => nomatch z) fun tk => ⟨.bl b, H, I.kept (t' := tk) fun _ _ z => z, rfl, q⟩
end Own

/-! set(names) and len(set(names)), names a list or a tuple of texts, however many. -/
namespace Own
open PySem PySem.Spec PyProof.Rows L2
/-- one more text is met -/
def meet (acc : List Str) (x : Str) : List Str := if acc.contains x then acc else acc ++ [x]
/-- the unlike ones, each where it is met first -/
def met (xs : List Str) : List Str := xs.foldl meet []
theorem met_more (xs : List Str) (x : Str) : met (xs ++ [x]) = meet (met xs) x := by
  unfold met
  rw [List.foldl_append]
  rfl
theorem meet_mem (acc : List Str) (x k : Str) : k ∈ meet acc x ↔ k ∈ acc ∨ k = x := by
  unfold meet
  by_cases h : acc.contains x = true
  · rw [if_pos h]
    exact ⟨.inl, fun q => q.elim id fun e => by rw [e]; exact List.contains_iff_mem.mp h⟩
  · rw [if_neg h, List.mem_append, List.mem_singleton]
theorem meet_len (acc : List Str) (x : Str) : (meet acc x).length = if acc.contains x = true then acc.length else acc.length + 1 := by
  unfold meet
  split
  · rfl
  · rw [List.length_append] <;> rfl
theorem foldl_meet_mem (k : Str) : ∀ (xs acc : List Str), k ∈ xs.foldl meet acc ↔ k ∈ acc ∨ k ∈ xs
  | [], acc => by simp
  | x :: xs, acc => by
    rw [List.foldl_cons, foldl_meet_mem k xs, meet_mem, List.mem_cons, or_assoc]
theorem met_mem (k : Str) (xs : List Str) : k ∈ met xs ↔ k ∈ xs := by
  unfold met
  rw [foldl_meet_mem]
  simp
theorem foldl_meet_nodup : ∀ (xs acc : List Str), acc.Nodup → (xs.foldl meet acc).Nodup
  | [], _, h => h
  | x :: xs, acc, h => by
    refine foldl_meet_nodup xs _ ?_
    unfold meet
    by_cases c : acc.contains x = true
    · rw [if_pos c]
      exact h
    · rw [if_neg c]
      refine List.nodup_append.mpr ⟨h, by simp, fun a ha b hb e => ?_⟩
      rw [List.mem_singleton.mp hb] at e
      exact c (List.contains_iff_mem.mpr (e ▸ ha))
theorem met_nodup (xs : List Str) : (met xs).Nodup := foldl_meet_nodup xs [] List.nodup_nil
theorem foldl_meet_le : ∀ (xs acc : List Str), (xs.foldl meet acc).length ≤ acc.length + xs.length
  | [], _ => Nat.le_refl _
  | x :: xs, acc => by
    have h := foldl_meet_le xs (meet acc x)
    have g := meet_len acc x
    rw [List.foldl_cons, List.length_cons]
    split at g <;> omega
theorem met_le (xs : List Str) : (met xs).length ≤ xs.length := by
  have := foldl_meet_le xs []
  rw [List.length_nil, Nat.zero_add] at this
  exact this
theorem foldl_meet_all : ∀ (xs acc : List Str), (acc ++ xs).Nodup → xs.foldl meet acc = acc ++ xs
  | [], acc, _ => by simp
  | x :: xs, acc, h => by
    have hx : ¬ acc.contains x = true := fun c => by
      have := (List.nodup_append.mp h).2.2 x (List.contains_iff_mem.mp c) x List.mem_cons_self
      exact this rfl
    have e : meet acc x = acc ++ [x] := if_neg hx
    have e2 : acc ++ [x] ++ xs = acc ++ x :: xs := by rw [List.append_assoc] <;> rfl
    rw [List.foldl_cons, e, foldl_meet_all xs (acc ++ [x]) (by rw [e2]; exact h), e2]
theorem met_all {xs : List Str} (h : xs.Nodup) : met xs = xs := foldl_meet_all xs [] h
theorem foldl_meet_full : ∀ (xs acc : List Str), acc.Nodup → (xs.foldl meet acc).length = acc.length + xs.length → (acc ++ xs).Nodup
  | [], acc, h, _ => by rw [List.append_nil]; exact h
  | x :: xs, acc, h, e => by
    have g := foldl_meet_le xs (meet acc x)
    have l := meet_len acc x
    rw [List.foldl_cons, List.length_cons] at e
    by_cases c : acc.contains x = true
    · rw [if_pos c] at l
      omega
    · rw [if_neg c] at l
      have e1 : meet acc x = acc ++ [x] := if_neg c
      have n : (meet acc x).Nodup := foldl_meet_nodup [x] acc h
      have := foldl_meet_full xs (meet acc x) n (by omega)
      rw [e1, List.append_assoc] at this
      exact this
theorem met_full {xs : List Str} (h : (met xs).length = xs.length) : xs.Nodup := foldl_meet_full xs [] List.nodup_nil (by rw [List.length_nil, Nat.zero_add]; exact h)
theorem met_iff (xs : List Str) : decide ((met xs).length = xs.length) = decide xs.Nodup := decide_eq_decide.mpr ⟨met_full, fun h => by rw [met_all h]⟩
section
variable {prog : Program} {w : World} {A : Around} {R : Result → Shared → Prop} {it S : Addr} {fp wr : List Addr} {G : Array GenState → Array GenState → Prop} {n : Nat} {P : Nat → Value → Prop} {St : Nat → Shared → Prop} {xs : List Str}
/-- what the set holds behind i texts -/
abbrev Holds (prog : Program) (w : World) (S : Addr) (l : List Str) (h : Heap) : Prop := h.SetOf (PySem.strKind prog w) S (fun k => decide (k ∈ met l)) (met l).length
theorem Holds.moved {l : List Str} {s s' : Shared} (h : Holds prog w S l s.heap) (m : ∀ o, s.heap.get? S = some o → s'.heap.get? S = some o) : Holds prog w S l s'.heap := by
  obtain ⟨o, es, ep, t, ho, r⟩ := h
  exact ⟨o, es, ep, t, m _ ho, r⟩
theorem fill (W : WalksS prog w A.in1 it fp wr G n P St) (out : S ∉ fp) (hn : xs.length = n) (small : n < 1000) (val : ∀ i v, P i v → ∃ t, v = .str (xs.getD i Str.empty) t) :
    ∀ (k i : Nat) (s : Shared), n - i = k → i ≤ n → St i s → Holds prog w S (xs.take i) s.heap →
      (∀ s', Moved (S :: wr) G s s' → Holds prog w S xs s'.heap → R (.ok (.ret .none)) s') → codeAny (model prog w) A (.builtin "set.update.loop" ⟨[.ref S, .ref it], []⟩) R s := by
  have nw : S ∉ wr := fun h => out (W.sub _ h)
  have more : ∀ b ∈ wr, b ∈ S :: wr := fun b hb => List.mem_cons_of_mem _ hb
  intro k
  induction k with
  | zero =>
    intro i s hk hi st hS hR
    obtain rfl : i = n := by omega
    refine codeAny_builtin PyProof.Rows.F.entry_set_update_loop ?_
    rw [Around.under_plainId PyProof.Rows.F.plain_set_update_loop _]
    refine wpAny_bind (m := pyNext (.ref it)) (W.done s _ _ st fun s' m => ?_)
    have hS' := hS.moved (s' := s') fun o e => m.heap S o nw e
    rw [← hn, List.take_length] at hS'
    exact wpAny_pure (hR s' (m.mono more) hS')
  | succ k ih =>
    intro i s hk hi st hS hR
    have lt : i < n := by omega
    refine codeAny_builtin PyProof.Rows.F.entry_set_update_loop ?_
    rw [Around.under_plainId PyProof.Rows.F.plain_set_update_loop _]
    refine wpAny_bind (m := pyNext (.ref it)) (W.item i s _ _ lt st fun v s' pv st' m => ?_)
    obtain ⟨t, rfl⟩ := val i v pv
    have hS' := hS.moved (s' := s') fun o e => m.heap S o nw e
    generalize hx : xs.getD i Str.empty = x at *
    have gx : xs[i]? = some x := by
      have l : i < xs.length := by omega
      rw [← hx, List.getD_eq_getElem?_getD, List.getElem?_eq_getElem l] <;> rfl
    have tk : xs.take (i + 1) = xs.take i ++ [x] := by rw [List.take_add_one, gx] <;> rfl
    refine wpAny_bind (m := holding [Value.str x t] (setAdd S (.str x t))) (wpAny_holding ?_)
    unfold setAdd
    refine wpAny_holding (wpAny_bind ((PySem.strKind prog w).pyHash (k := x) (strKind_is _ _ _ _) ?_))
    have room : (met (xs.take i)).length + 1 < scanBound := by
      have := met_le (xs.take i)
      rw [List.length_take] at this
      show _ < 4096
      omega
    refine wpAny_setAddHashed_of (knd := PySem.strKind prog w) (s := { s' with toks := s'.toks + 1 }) (strKind_is _ _ _ _) rfl hS' room fun h' sb hS2 => ?_
    have next : Holds prog w S (xs.take (i + 1)) h' := by
      refine PyProof.Rows.SetOf_congr hS2 (fun j => ?_) ?_
      · rw [tk, met_more, ← Bool.decide_or]
        exact decide_eq_decide.mpr (meet_mem _ x j).symm
      · rw [tk, met_more, meet_len]
        by_cases a : x ∈ met (xs.take i)
        · rw [if_pos (decide_eq_true a), if_pos (List.contains_iff_mem.mpr a)]
        · rw [if_neg (fun z => a (of_decide_eq_true z)), if_neg (fun z => a (List.contains_iff_mem.mp z))]
    refine wpAny_pure ⟨plainId_quiet PyProof.Rows.F.plain_set_update_loop _, ih (i + 1) _ (by omega) lt (W.frame _ s' _ _ st' (Nat.le_succ _) fun b hb o e => ?_) next fun s2 m2 hS3 => ?_⟩
    · exact (sb.2 b (fun z => out (z ▸ hb))).trans e
    · exact hR s2 (Moved.trans W.gtrans ((m.mono more).then_heap (Nat.le_succ _) fun b o hb e => (sb.2 b fun z => hb (z ▸ List.mem_cons_self)).trans e) m2) hS3
end
section
variable {prog : Program} {w : World} {A : Around} {E : Value → Shared → Prop} {s : Shared}
set_option maxHeartbeats 3200000 in
theorem set_of_list {l : Addr} {its : Array Value} {xs : List Str} {Q : Value → Shared → Prop} (hh : A.handled = none) (hl : s.heap.IsList l its) (hi : PyProof.Rows.StrsAre its.toList xs) (small : xs.length < 1000)
    (h : ∀ (h' : Heap) (tk : Nat), Holds prog w s.heap.objs.size xs h' → (∀ b o, b < s.heap.objs.size → s.heap.get? b = some o → h'.get? b = some o) → Q (.ref s.heap.objs.size) { s with heap := h', toks := tk }) :
    wpAny (model prog w) A (call (.type "set") [.ref l]) Q E s := by
  obtain ⟨c, tl, hmro⟩ := PySem.F.called_set.mro
  have hmade := PySem.F.called_set.made
  have hsub := PySem.F.called_set.sub
  refine wpAny_call (codeAny_of_tree (wpAny_pure ⟨Code.quiet_builtin _ (by decide +kernel), codeAny_builtin PySem.F.entry_type_call ?_⟩))
  rw [Around.under_plain (weight_type_call_type "set" [.ref l] []) rfl]
  have g1 := PySem.F.called_set.notType
  have g2 := PySem.F.called_set.canCreate
  have g3 := PySem.F.typeCall_set_1 (.ref l)
  repeat (any_goals (first | assumption | wp_step))
  -- the empty set is made
  refine codeAny_mono (code_set_new_1 (.ref l) (E := E) (Q₁ := fun v s₁ => ∃ led : Bool, v = .ref s.heap.objs.size ∧ s₁ = { s with heap := s.heap.push { cls := .type "set", dict := none, data := .set #[] 0 (.fresh 0 0 led) } }) fun led => ⟨led, rfl, rfl⟩) ?_
  rintro (e | _ | _ | _ | v) s₁ z
  · exact z
  · exact z.elim
  · exact z.elim
  · exact z.elim
  · obtain ⟨led, rfl, rfl⟩ := z
    have at0 : (s.heap.push { cls := .type "set", dict := none, data := .set #[] 0 (.fresh 0 0 led) }).get? s.heap.objs.size = some { cls := .type "set", dict := none, data := .set #[] 0 (.fresh 0 0 led) } := Heap.get?_push_size _ rfl
    have ty : Shared.TypeIs { s with heap := s.heap.push { cls := .type "set", dict := none, data := .set #[] 0 (.fresh 0 0 led) } } (.ref s.heap.objs.size) "set" := ⟨_, at0, rfl⟩
    have g4 := PySem.F.called_set.init.lookup
    have g5 := PySem.F.called_set.init.bind (.ref s.heap.objs.size)
    repeat (any_goals (first | assumption | wp_step))
    -- and filled
    refine codeAny_mono (codeAny_call_builtin (R := wants (fun r s₂ => r = .none ∧ ∃ h' tk, s₂ = { s with heap := h', toks := tk } ∧ Holds prog w s.heap.objs.size xs h' ∧ (∀ b o, b < s.heap.objs.size → s.heap.get? b = some o → h'.get? b = some o)) E)
      PySem.F.called_set.init.plain PySem.F.entry_set_init (check_set_init_1 ty ?_)) ?_
    · obtain ⟨⟨cls, dd, dat, sl⟩, hol, hc, nl, hd⟩ := hl
      simp only at hc hd
      subst hc hd
      have old := Heap.lt_size hol
      have hol2 : (s.heap.push { cls := .type "set", dict := none, data := .set #[] 0 (.fresh 0 0 led) }).get? l = some { cls := .type "list", dict := dd, data := .seq its nl, slots := sl } := Heap.get?_push_of_some _ hol
      have hl2 : (s.heap.push { cls := .type "set", dict := none, data := .set #[] 0 (.fresh 0 0 led) }).IsList l its := ⟨_, hol2, rfl, nl, rfl⟩
      have f1 := PySem.F.sub_list_set
      have f2 := PySem.F.sub_list_frozenset
      have f3 : (Value.type "list" == Value.type "dict") = false := by decide
      unfold Builtin.«set.__init__» noKeywords Builtin.Frozenset.updateFrom
      generalize hit : pyIter = itf
      wp_walk
      subst hit
      refine wpAny_pyIter_list hl2 ?_
      refine wpAny_bind (wpAny_runValue ?_)
      have top : (s.heap.push { cls := .type "set", dict := none, data := .set #[] 0 (.fresh 0 0 led) }).objs.size = s.heap.objs.size + 1 := Heap.size_push ..
      have ne1 : l ≠ (s.heap.push { cls := .type "set", dict := none, data := .set #[] 0 (.fresh 0 0 led) }).objs.size := by rw [top]; exact Nat.ne_of_lt (Nat.lt_succ_of_lt old)
      have out : s.heap.objs.size ∉ [(s.heap.push { cls := .type "set", dict := none, data := .set #[] 0 (.fresh 0 0 led) }).objs.size, l] := by
        rw [top]
        intro m
        rcases List.mem_cons.mp m with e | m
        · exact absurd e (Nat.ne_of_lt (Nat.lt_succ_self _))
        · exact absurd (List.mem_singleton.mp m) (Nat.ne_of_gt old)
      have len : xs.length = its.size := by rw [← StrsAre.len_eq hi, Array.length_toList]
      have val : ∀ (i : Nat) (v : Value), its[i]? = some v → ∃ t, v = .str (xs.getD i Str.empty) t := fun i v hv => SS.strs_at hi i v (by rw [Array.getElem?_toList]; exact hv)
      refine fill ((Walks.list (show A.in1.in1.in1.handled = none by simp [hh]) _ l ne1 its).toS) out len (by rw [← len]; exact small) val (its.size - 0) 0 _ (by omega) (Nat.zero_le _) ⟨⟨_, Heap.get?_push_size _ rfl, rfl, rfl⟩, hl2.push _⟩ ?_ ?_
      · have z : ((s.heap.push { cls := .type "set", dict := none, data := .set #[] 0 (.fresh 0 0 led) }).push { cls := .type "list_iterator", data := .fields #[.ref l, .int 0 0] }).get? s.heap.objs.size = some { cls := .type "set", dict := none, data := .set #[] 0 (.fresh 0 0 led) } := Heap.get?_push_of_some _ at0
        exact PyProof.Rows.SetOf_congr ((PyProof.Rows.setObjOf_fresh (knd := PySem.strKind prog w) led).setOf z (by unfold scanBound; omega)) (fun k => rfl) rfl
      · rintro ⟨h', g', d', tk', os'⟩ m hS'
        obtain rfl : g' = s.gens := m.gens
        obtain rfl : d' = s.drawn := m.drawn
        obtain rfl : os' = s.os := m.os
        refine wpAny_pure (wpAny_pure ⟨rfl, h', tk', rfl, hS', fun b o hb e => ?_⟩)
        refine m.heap b o (fun mm => ?_) (Heap.get?_push_of_some _ (Heap.get?_push_of_some _ e))
        rcases List.mem_cons.mp mm with e1 | mm
        · exact absurd e1 (Nat.ne_of_lt hb)
        · have e2 : b = (s.heap.push { cls := .type "set", dict := none, data := .set #[] 0 (.fresh 0 0 led) }).objs.size := List.mem_singleton.mp mm
          rw [top] at e2
          omega
    · rintro (e | _ | _ | _ | v) s₂ z
      · exact z
      · exact z.elim
      · exact z.elim
      · exact z.elim
      · obtain ⟨rfl, h', tk, rfl, hS', kp⟩ := z
        repeat (any_goals (first | assumption | wp_step))
        exact h _ _ hS' kp
end
section
variable {prog : Program} {w : World} {A : Around} {E : Value → Shared → Prop} {s : Shared}
set_option maxHeartbeats 3200000 in
theorem set_of_tuple {l : Addr} {its : Array Value} {xs : List Str} {Q : Value → Shared → Prop} (hh : A.handled = none) (hl : s.heap.IsTuple l its) (hi : PyProof.Rows.StrsAre its.toList xs) (small : xs.length < 1000)
    (h : ∀ (h' : Heap) (tk : Nat), Holds prog w s.heap.objs.size xs h' → (∀ b o, b < s.heap.objs.size → s.heap.get? b = some o → h'.get? b = some o) → Q (.ref s.heap.objs.size) { s with heap := h', toks := tk }) :
    wpAny (model prog w) A (call (.type "set") [.ref l]) Q E s := by
  obtain ⟨c, tl, hmro⟩ := PySem.F.called_set.mro
  have hmade := PySem.F.called_set.made
  have hsub := PySem.F.called_set.sub
  refine wpAny_call (codeAny_of_tree (wpAny_pure ⟨Code.quiet_builtin _ (by decide +kernel), codeAny_builtin PySem.F.entry_type_call ?_⟩))
  rw [Around.under_plain (weight_type_call_type "set" [.ref l] []) rfl]
  have g1 := PySem.F.called_set.notType
  have g2 := PySem.F.called_set.canCreate
  have g3 := PySem.F.typeCall_set_1 (.ref l)
  repeat (any_goals (first | assumption | wp_step))
  -- the empty set is made
  refine codeAny_mono (code_set_new_1 (.ref l) (E := E) (Q₁ := fun v s₁ => ∃ led : Bool, v = .ref s.heap.objs.size ∧ s₁ = { s with heap := s.heap.push { cls := .type "set", dict := none, data := .set #[] 0 (.fresh 0 0 led) } }) fun led => ⟨led, rfl, rfl⟩) ?_
  rintro (e | _ | _ | _ | v) s₁ z
  · exact z
  · exact z.elim
  · exact z.elim
  · exact z.elim
  · obtain ⟨led, rfl, rfl⟩ := z
    have at0 : (s.heap.push { cls := .type "set", dict := none, data := .set #[] 0 (.fresh 0 0 led) }).get? s.heap.objs.size = some { cls := .type "set", dict := none, data := .set #[] 0 (.fresh 0 0 led) } := Heap.get?_push_size _ rfl
    have ty : Shared.TypeIs { s with heap := s.heap.push { cls := .type "set", dict := none, data := .set #[] 0 (.fresh 0 0 led) } } (.ref s.heap.objs.size) "set" := ⟨_, at0, rfl⟩
    have g4 := PySem.F.called_set.init.lookup
    have g5 := PySem.F.called_set.init.bind (.ref s.heap.objs.size)
    repeat (any_goals (first | assumption | wp_step))
    -- and filled
    refine codeAny_mono (codeAny_call_builtin (R := wants (fun r s₂ => r = .none ∧ ∃ h' tk, s₂ = { s with heap := h', toks := tk } ∧ Holds prog w s.heap.objs.size xs h' ∧ (∀ b o, b < s.heap.objs.size → s.heap.get? b = some o → h'.get? b = some o)) E)
      PySem.F.called_set.init.plain PySem.F.entry_set_init (check_set_init_1 ty ?_)) ?_
    · obtain ⟨⟨cls, dd, dat, sl⟩, hol, hc, nl, hd⟩ := hl
      simp only at hc hd
      subst hc hd
      have old := Heap.lt_size hol
      have hol2 : (s.heap.push { cls := .type "set", dict := none, data := .set #[] 0 (.fresh 0 0 led) }).get? l = some { cls := .type "tuple", dict := dd, data := .seq its nl, slots := sl } := Heap.get?_push_of_some _ hol
      have hl2 : (s.heap.push { cls := .type "set", dict := none, data := .set #[] 0 (.fresh 0 0 led) }).IsTuple l its := ⟨_, hol2, rfl, nl, rfl⟩
      have f1 := PySem.F.sub_tuple_set
      have f2 := PySem.F.sub_tuple_frozenset
      have f3 : (Value.type "tuple" == Value.type "dict") = false := by decide
      unfold Builtin.«set.__init__» noKeywords Builtin.Frozenset.updateFrom
      generalize hit : pyIter = itf
      wp_walk
      subst hit
      refine wpAny_pyIter_tuple hl2 ?_
      refine wpAny_bind (wpAny_runValue ?_)
      have top : (s.heap.push { cls := .type "set", dict := none, data := .set #[] 0 (.fresh 0 0 led) }).objs.size = s.heap.objs.size + 1 := Heap.size_push ..
      have ne1 : l ≠ (s.heap.push { cls := .type "set", dict := none, data := .set #[] 0 (.fresh 0 0 led) }).objs.size := by rw [top]; exact Nat.ne_of_lt (Nat.lt_succ_of_lt old)
      have out : s.heap.objs.size ∉ [(s.heap.push { cls := .type "set", dict := none, data := .set #[] 0 (.fresh 0 0 led) }).objs.size, l] := by
        rw [top]
        intro m
        rcases List.mem_cons.mp m with e | m
        · exact absurd e (Nat.ne_of_lt (Nat.lt_succ_self _))
        · exact absurd (List.mem_singleton.mp m) (Nat.ne_of_gt old)
      have len : xs.length = its.size := by rw [← StrsAre.len_eq hi, Array.length_toList]
      have val : ∀ (i : Nat) (v : Value), its[i]? = some v → ∃ t, v = .str (xs.getD i Str.empty) t := fun i v hv => SS.strs_at hi i v (by rw [Array.getElem?_toList]; exact hv)
      refine fill ((Walks.tuple (show A.in1.in1.in1.handled = none by simp [hh]) _ l ne1 its).toS) out len (by rw [← len]; exact small) val (its.size - 0) 0 _ (by omega) (Nat.zero_le _) ⟨⟨_, Heap.get?_push_size _ rfl, rfl, rfl⟩, hl2.push _⟩ ?_ ?_
      · have z : ((s.heap.push { cls := .type "set", dict := none, data := .set #[] 0 (.fresh 0 0 led) }).push { cls := .type "tuple_iterator", data := .fields #[.ref l, .int 0 0] }).get? s.heap.objs.size = some { cls := .type "set", dict := none, data := .set #[] 0 (.fresh 0 0 led) } := Heap.get?_push_of_some _ at0
        exact PyProof.Rows.SetOf_congr ((PyProof.Rows.setObjOf_fresh (knd := PySem.strKind prog w) led).setOf z (by unfold scanBound; omega)) (fun k => rfl) rfl
      · rintro ⟨h', g', d', tk', os'⟩ m hS'
        obtain rfl : g' = s.gens := m.gens
        obtain rfl : d' = s.drawn := m.drawn
        obtain rfl : os' = s.os := m.os
        refine wpAny_pure (wpAny_pure ⟨rfl, h', tk', rfl, hS', fun b o hb e => ?_⟩)
        refine m.heap b o (fun mm => ?_) (Heap.get?_push_of_some _ (Heap.get?_push_of_some _ e))
        rcases List.mem_cons.mp mm with e1 | mm
        · exact absurd e1 (Nat.ne_of_lt hb)
        · have e2 : b = (s.heap.push { cls := .type "set", dict := none, data := .set #[] 0 (.fresh 0 0 led) }).objs.size := List.mem_singleton.mp mm
          rw [top] at e2
          omega
    · rintro (e | _ | _ | _ | v) s₂ z
      · exact z
      · exact z.elim
      · exact z.elim
      · exact z.elim
      · obtain ⟨rfl, h', tk, rfl, hS', kp⟩ := z
        repeat (any_goals (first | assumption | wp_step))
        exact h _ _ hS' kp
end
end Own

/-! len(set(names)) as a rule; a loop over a list or a tuple. -/
namespace Own
open PySem PySem.Spec PyProof.Rows L2
section
variable {X : Cx}
def tUnlike (K : PySem.W.Frag) (ta : TE) : TE := fun σ H Q => ta σ H fun x H1 => ∃ (l : Addr) (xs : List Str), x = .ref l ∧ (SqL K H1 l (xs.map V.str) ∨ SqT K H1 l (xs.map V.str)) ∧ xs.length < 1000 ∧ Q (.int (met xs).length) H1
theorem pe_unlike {a : Expr} {ta : TE} {p p2 q pos : Pos} (hc : X.calm = true) (hg : Gl X "len") (hm : X.mg "len" = none) (hg2 : Gl X "set") (hm2 : X.mg "set" = none) (ha : PE X a ta)
    (na : starEach [a] X.env = (false, eval a X.env) :: starEach [] X.env := by rfl) : PE X (.Call (.Name "len" p) [.Call (.Name "set" p2) [a] [] q] [] pos) (tUnlike X.K ta) := by
  refine ⟨fun pins s σ H Q I h => ?_⟩
  refine Call_ (ld_blt I hg hm boot_len (PyProof.Rows.callWith_builtin1 (PyProof.Rows.args_cons ?_ rfl) rfl rfl))
  refine Call_ (ld_blt I hg2 hm2 boot_set (PyProof.Rows.callWith_type1 (PyProof.Rows.args_cons (thn (ha.run pins s σ H _ I h) fun v s1 ⟨x, H1, J, rx, z⟩ => PyProof.Rows.args_nil ?_) na) na rfl))
  obtain ⟨l, xs, rfl, seq, small, q⟩ := z
  cases rx
  have done : ∀ (h' : Heap) (tk : Nat), Holds X.prog X.w s1.heap.objs.size xs h' → (∀ b o, b < s1.heap.objs.size → s1.heap.get? b = some o → h'.get? b = some o) →
      wpAny (model X.prog X.w) X.A (spliced (backTo pos (starEach [] X.env))) (fun vs s₂ => wpAny (model X.prog X.w) X.A (call (.builtin "len") (Value.ref s1.heap.objs.size :: vs)) (EP X pins σ Q) X.xe s₂) X.xe { s1 with heap := h', toks := tk } := fun h' tk hS kp => by
    obtain ⟨o, es, ep, t, ho, ex, hd, _, _, _, fits, hn⟩ := hS
    have J2 : Inv X pins σ H1 { s1 with heap := h', toks := tk } := J.kept fun b o e => kp b o (Heap.lt_size e) e
    have le := met_le xs
    exact PyProof.Rows.args_nil (call_len_set ho ex hd fits (by rw [hn]; omega) ⟨.int (met xs).length, H1, J2.tok _, ⟨_, by rw [hn]⟩, q⟩)
  rcases seq with hq | hq
  · obtain ⟨its, r, pl, _⟩ := J.list hq
    exact set_of_list (J.ok.hd hc) pl.isList (by simpa using strsAre_of r) small done
  · obtain ⟨its, r, pl, _⟩ := J.tuple hq
    exact set_of_tuple (J.ok.hd hc) pl (by simpa using strsAre_of r) small done
/-- what is walked may be of two kinds -/
theorem pi_or {tg e : Expr} {w1 w2 : TI} (h1 : PI X tg e w1) (h2 : PI X tg e w2) : PI X tg e (fun σ H R => w1 σ H R ∨ w2 σ H R) := ⟨fun pins s σ H R I h => h.elim (h1.run pins s σ H R I) (h2.run pins s σ H R I)⟩
end
end Own

/-! The law's own def, as the judge calls it: there nothing is being shown, so repr of data is told in full. -/
namespace Own
open PySem PySem.Spec PyProof.Rows L2
/-- a promise of the law's def at that one call -/
def TopOk (P : Program) (w : World) (K : PySem.W.Frag) (mg : Str → Option Value) (base : Heap) (f : Addr) (fd : FuncData) (x : Str) (sp : Sp) : Prop :=
  ∀ (s : Shared) (H : Hp) (v : V) (u : Value) (Q : VK), Env0 P w K mg base callerA [] s H → BindsTo s fd ⟨[u], []⟩ [(x, u)] → RelV v u → sp [v] H Q E0 →
    codeAny (model P w) callerA (.call (.ref f) ⟨[u], []⟩) (CR CX0 [] P w H s Q E0) s
section
variable {P : Program} {w : World} {K : PySem.W.Frag} {mg : Str → Option Value} {base : Heap} {f : Addr} {fd : FuncData} {x name qual : Str} {st : Stmt} {N : List Str} {k : Nat} {sp : Sp}
theorem top_of (F : Fun K name qual st f fd) (S : FnScope N [x] (defScope st)) (hr : Room (k + 1) callerA)
    (body : ∀ (cdv : Value) (s : Shared) (H : Hp) (v : V) (Q : VK), Room k (callerA.deeper (envOfC qual (defScope st) s.heap.objs.size f cdv)) → (callerA.deeper (envOfC qual (defScope st) s.heap.objs.size f cdv)).guards = some [] → sp [v] H Q E0 →
      ∃ t, PSs (cxOf CX0 P w K mg base N qual (defScope st) f cdv callerA [] s H E0).nox (defBody st) t ∧ t { nx := fun _ H' => Q .non H', rt := Q } (L2.start N [v]) H) : TopOk P w K mg base f fd x sp := by
  intro s H v u Q e0 hb rv hsp
  obtain ⟨oc, od, kV, doc, pm, an, cdv, ct, osl, rfl, lk, hcd⟩ := F.ex
  have grow : ∀ b o, base.get? b = some o → s.heap.get? b = some o := fun b o e => (e0.bs b o e).1
  have inK : K.In s.heap := e0.mod.kin.keeps grow
  have kinds : ∀ y ∈ [(x, u)], (defScope st).names.lookup y.1 = some .local ∨ ((defScope st).names.lookup y.1 = some .cell ∧ ((cellsFrom (s.heap.objs.size + 1) (defScope st).names []).lookup y.1).isSome = true) := fun y hy => by
    rw [List.mem_singleton.mp hy]
    exact (S.par x List.mem_cons_self).imp id fun c => ⟨c, PySem.W.cellsFrom_some _ _ _ (.inl c)⟩
  refine codeAny_call_function hr.depth (inK _ _ lk) rfl S.co S.gen rfl (PySem.W.codeRec_of inK hcd) (hb _ _ _ _ (wpAny_newFunctionEnv_cells S.kind kinds ?_))
  rintro env rfl s1 made
  refine ⟨(e0.mod.nolimit.keeps grow).keeps made.toInCall.keep, codeAny_func ?_⟩
  obtain ⟨t, ht, hq⟩ := body cdv s H v Q (hr.deeper _) rfl hsp
  have J0 : Inv (cxOf CX0 P w K mg base N qual (defScope st) f cdv callerA [] s H E0) [] (L2.start N [v]) H s1 := inv_start S hr.hd e0 rfl (.cons rv .nil) made
  have back := ht.nox.run [] s1 (L2.start N [v]) H _ J0 hq
  refine wpAny_mono back ?_ fun _ _ z => z
  rintro (_ | _ | _ | r) s' z
  · obtain ⟨_, H', J, q⟩ := z
    exact ⟨.non, H', J.os, J.bare, J.base, J.hok, rfl, q⟩
  · obtain ⟨_, _, _, q⟩ := z
    exact q.elim
  · obtain ⟨_, _, _, q⟩ := z
    exact q.elim
  · obtain ⟨y, _, H', J, ry, q⟩ := z
    exact ⟨y, H', J.os, J.bare, J.base, J.hok, ry, q⟩
end
/-- the call, from an abstract heap that knows the script at most -/
theorem top_core {P : Program} {w : World} {K : PySem.W.Frag} {mg mb : Str → Option Value} {fa a : Addr} {fd : FuncData} {x : Str} {sp : Sp} {s₁ : Shared} {vs : List Value} {H : Hp}
    (KX : K.In s₁.heap) (hns : s₁.heap.Ns mainGlobals mg) (hb : s₁.heap.Ns builtinsNs mb) (hbb : ∀ x : Str, x ≠ "__name__" → mb x = bootBuiltins x) (hlim : s₁.heap.NoLimit) (hg : s₁.gens = #[])
    (ha : s₁.heap.get? a = some { cls := .type "list", data := .seq vs.toArray })
    (F : ∀ base : Heap, K.In base → base.Ns mainGlobals mg → TopOk P w K mg base fa fd x sp) (hbind : ∀ (s : Shared) (u : Value), BindsTo s fd ⟨[u], []⟩ [(x, u)])
    (only : Only H) (hok : HOk P w H s₁.heap) (own : ∀ b u, H b = some u → b = a ∧ K.lookup a = none) (hsp : sp [.ref a] H (fun v _ => v = .bl true) E0) :
    codeAny (model P w) callerA (.call (.ref fa) ⟨[.ref a], []⟩) (fun r s' => r = .ok (.ret (.bool true)) ∧ OldK s₁.heap s'.heap ∧ s'.os = s₁.os ∧ AllBare s'.gens) s₁ := by
  -- what is no list is not tracked
  have untr : ∀ {b : Addr} {o : Obj}, s₁.heap.get? b = some o → o.data ≠ .seq vs.toArray → H b = none := fun {b o} e ne => by
    cases g : H b with
    | none => rfl
    | some u =>
      obtain ⟨rfl, _⟩ := own b u g
      rw [ha] at e
      cases e
      exact absurd rfl ne
  have spaces : ∀ {b : Addr} {m : Str → Option Value}, s₁.heap.Ns b m → (hidT s₁.heap H).Ns b m := fun {b m} ⟨o, es, ep, e, dd, r⟩ =>
    ⟨o, es, ep, hidT_get e (untr e (by rw [dd]; intro z; cases z)), dd, r⟩
  have inK : K.In (hidT s₁.heap H) := fun b o e => hidT_get (KX b o e) (by
    cases g : H b with
    | none => rfl
    | some u =>
      obtain ⟨rfl, nk⟩ := own b u g
      rw [nk] at e
      cases e)
  have md : Mod K mg (hidT s₁.heap H) := ⟨inK, spaces hns, ⟨mb, spaces hb, hbb⟩, hlim.imp fun mc z => ⟨spaces z.1, z.2⟩⟩
  have e0 : Env0 P w K mg (hidT s₁.heap H) callerA [] s₁ H := ⟨rfl, md, fun b o e => of_hidT e, Nat.le_of_eq (hidT_size _ _), trivial, fun b z => (by cases z), hok, .of_eq hg⟩
  refine codeAny_mono (F _ inK (spaces hns) s₁ H (.ref a) (.ref a) _ e0 (hbind s₁ (.ref a)) rfl hsp) ?_
  rintro (e | _ | _ | _ | u) s' z
  · exact False.elim z
  · exact False.elim z
  · exact False.elim z
  · exact False.elim z
  · obtain ⟨v, H', os, bare, un, hok', rv, rfl⟩ := z
    cases rv
    refine ⟨rfl, OldK.of_keep fun b o e => ?_, os, bare⟩
    cases g : H b with
    | none => exact un.keep b o e g (fun z => by cases z) (fun z => by cases z)
    | some y =>
      rcases only b with z | ⟨ob, xs, z⟩
      · rw [g] at z
        cases z
      · have before := (hok b _ z).1
        have after := (hok' b _ (un.frzs b ob _ z)).1
        rw [e] at before
        cases before
        exact after
/-- from the call's heap: what is tracked there is the script, or nothing -/
theorem top_call {P : Program} {w : World} {K : PySem.W.Frag} {mg mb : Str → Option Value} {fa a : Addr} {fd : FuncData} {x : Str} {sp : Sp} {s₁ : Shared} {vs : List Value} {ns : List Int}
    (KX : K.In s₁.heap) (hns : s₁.heap.Ns mainGlobals mg) (hb : s₁.heap.Ns builtinsNs mb) (hbb : ∀ x : Str, x ≠ "__name__" → mb x = bootBuiltins x) (hlim : s₁.heap.NoLimit) (hg : s₁.gens = #[])
    (ha : s₁.heap.get? a = some { cls := .type "list", data := .seq vs.toArray }) (hi : IntsAre vs ns) (hl : ns.length ≤ sizeLine)
    (F : ∀ base : Heap, K.In base → base.Ns mainGlobals mg → TopOk P w K mg base fa fd x sp) (hbind : ∀ (s : Shared) (u : Value), BindsTo s fd ⟨[u], []⟩ [(x, u)])
    (hsp : ∀ H : Hp, Only H → SqL K H a (ns.map V.int) → sp [.ref a] H (fun v _ => v = .bl true) E0) :
    codeAny (model P w) callerA (.call (.ref fa) ⟨[.ref a], []⟩) (fun r s' => r = .ok (.ret (.bool true)) ∧ OldK s₁.heap s'.heap ∧ s'.os = s₁.os ∧ AllBare s'.gens) s₁ := by
  have rv := vals_ints hi
  have hlv : vs.length ≤ sizeLine := by rw [hi.length]; exact hl
  cases hk : K.lookup a with
  | some o =>
    have e := KX a o hk
    rw [ha] at e
    cases e
    have hS : SqL K (fun _ => none) a (ns.map V.int) := .inr ⟨_, vs.toArray, _, hk, rfl, rfl, rfl, by rw [List.size_toArray]; exact hlv, by simpa using rv⟩
    exact top_core KX hns hb hbb hlim hg ha F hbind (fun _ => .inl rfl) (fun _ _ z => by cases z) (fun _ _ z => by cases z) (hsp _ (fun _ => .inl rfl) hS)
  | none =>
    have at_ : ∀ {b : Addr} {u : HO}, (if b = a then some (HO.frz { cls := .type "list", data := .seq vs.toArray } (.lst (ns.map V.int))) else none) = some u → b = a ∧ u = .frz { cls := .type "list", data := .seq vs.toArray } (.lst (ns.map V.int)) := fun {b u} z => by
      by_cases q : b = a
      · rw [if_pos q] at z
        exact ⟨q, (Option.some.inj z).symm⟩
      · rw [if_neg q] at z
        cases z
    have hO : Only (fun b => if b = a then some (.frz { cls := .type "list", data := .seq vs.toArray } (.lst (ns.map V.int))) else none) := fun b => by
      by_cases q : b = a
      · exact .inr ⟨_, _, if_pos q⟩
      · exact .inl (if_neg q)
    refine top_core KX hns hb hbb hlim hg ha F hbind hO (fun b u z => ?_) (fun b u z => ⟨(at_ z).1, hk⟩) (hsp _ hO (.inl (.inr ⟨_, if_pos rfl⟩)))
    obtain ⟨rfl, rfl⟩ := at_ z
    exact ⟨ha, by rw [List.length_map]; exact hl, vs, _, rv, ha⟩
theorem top_walk {l : PySem.W.OpenLaw} {n : Nat} {q : Program} {loose : List Str} {XP : (Str → Option Value) → Heap → Prop} {YP : World → Heap → Prop} {d : DefRec} {K : Params → PySem.W.Frag} {sp : PySem.W.Frag → Sp} {x : Str}
    (hn : l.most = some n) (hn2 : n ≤ sizeLine) (hdf : d.params.defaults = []) (hY : ∀ (w : World) (h : Heap), YP w h → (K w.params).In h)
    (F : ∀ (w : World) (mg : Str → Option Value) (fa : Addr) (h : Heap), (K w.params).In h → h.Ns mainGlobals mg → mg d.name = some (.ref fa) →
      ∃ fd : FuncData, (∀ (s : Shared) (u : Value), BindsTo s fd ⟨[u], []⟩ [(x, u)]) ∧ ∀ base : Heap, (K w.params).In base → base.Ns mainGlobals mg → TopOk l.prog w (K w.params) mg base fa fd x (sp (K w.params)))
    (hsp : ∀ (K : PySem.W.Frag) (H : Hp) (a : Addr) (ns : List Int), ns.length ≤ n → SqL K H a (ns.map V.int) → sp K [.ref a] H (fun v _ => v = .bl true) E0) :
    PySem.W.WalkO q loose XP YP l.row.toRowW d [] (fun f vs => PySem.call f vs) := by
  refine Att.attach_call hn hdf fun w s₀ s₁ mg mb fa o pm cd doc a vs ns G Y ho hd hcd hmg hobj hints hlen hg => ?_
  have KX := hY w _ Y
  obtain ⟨fd, hb, hF⟩ := F w mg fa _ KX G.T.g hmg
  exact top_call KX G.T.g G.T.b G.T.builtins G.T.nolimit hg hobj hints (Nat.le_trans hlen hn2) hF hb fun H _ hS => hsp _ H a ns hlen hS
section
variable {X : Cx}
theorem call_reprD (hg : X.A.guards = some []) (hu : X.A.units + 66 < cLine) : CallR X (.builtin "repr") (fun xs H Q => ∃ (a : Addr) (d : PyData), xs = [.ref a] ∧ Dp X.K H (.ref a) d ∧ d.showable = true ∧ SeqAt.shaped d = true ∧ d.shown.length ≤ sizeLine ∧ Q (.str d.shown) H) := by
  intro pins s σ H xs us Q I r h
  obtain ⟨a, d, rfl, hd, hs, hf, hz, q⟩ := h
  obtain ⟨u, rfl, ru⟩ := vals1 r
  cases ru
  obtain ⟨as, rd⟩ := Dp.reads I d _ _ hd rfl
  have dep := SeqAt.depth_of_shaped hf
  exact repr_of_reads' rd hs (PyData.noDict_hsm (PyData.hasDict_of_canLay _ (SeqAt.canLay_of_shaped hf))) hg (by omega) (fun _ _ e => e) (fun h' u tk hk => ⟨.str _, H, I.kept (t' := tk) hk, ⟨u, rfl⟩, q⟩) hz
end
theorem hu65 {A : Around} {k : Nat} (hr : Room k A) : A.units + 65 < cLine := by
  have := hr.un
  omega
theorem hu66 {A : Around} {k : Nat} (hr : Room k A) : A.units + 66 < cLine := by
  have := hr.un
  omega
end Own

/-! Own rules: one reading for things of several kinds. -/
namespace Own
open PySem PySem.Spec PyProof.Rows L2
section
variable {X : Cx}
def orR (r1 r2 : R2) : R2 := fun x y H Q => r1 x y H Q ∨ r2 x y H Q
theorem ix_or {r1 r2 : R2} (h1 : IxR X r1) (h2 : IxR X r2) : IxR X (orR r1 r2) := by
  intro value slice pins s σ H x y v u Q I rx ry h hs
  rcases h with h | h
  · exact h1 _ _ _ _ _ _ _ _ _ _ _ I rx ry h hs
  · exact h2 _ _ _ _ _ _ _ _ _ _ _ I rx ry h hs
theorem op_or {op : Value → Value → Sem Value} {r1 r2 : R2} (h1 : OpR X op r1) (h2 : OpR X op r2) : OpR X op (orR r1 r2) := by
  intro pins s σ H x y v u Q I rx ry h
  rcases h with h | h
  · exact h1 _ _ _ _ _ _ _ _ _ I rx ry h
  · exact h2 _ _ _ _ _ _ _ _ _ I rx ry h
theorem call_or {f : Value} {r1 r2 : List V → Hp → VK → Prop} (h1 : CallR X f r1) (h2 : CallR X f r2) : CallR X f (fun xs H Q => r1 xs H Q ∨ r2 xs H Q) := by
  intro pins s σ H xs us Q I r h
  rcases h with h | h
  · exact h1 _ _ _ _ _ _ _ I r h
  · exact h2 _ _ _ _ _ _ _ I r h
end
end Own

/-! Tuples once more: one time a tuple is itself; a tuple beside the empty one. -/
namespace L2
open PySem PySem.Spec PyProof.Rows
theorem mul_once (l : Addr) (its : Array Value) (n : Nat) (dd : Option Addr) (sl : Array (Option Value)) (u : Tok) :
    Meets (Builtin.«tuple.__mul__» ⟨[.ref l, .int 1 u], []⟩) (fun _ R s => s.heap.get? l = some { cls := .type "tuple", dict := dd, data := .seq its n, slots := sl } ∧ R (.ok (.ret (Value.ref l))) s) :=
  .of_wp fun prog w A R s h => by
    obtain ⟨hp, g, d, tk, os⟩ := s
    obtain ⟨hl, h⟩ := h
    have f1 := AutoSeq1.idx_int
    have c1 : (its.isEmpty || (1 : Int) == 1) = true := by simp
    wp_walk using wpAny_loadPart' hl
    exact ⟨_, rfl, h⟩
/-- t * n, n from 1 on -/
def rMany (K : PySem.W.Frag) : R2 := fun x y H Q => ∃ (l : Addr) (k : Int) (xs : List V), x = .ref l ∧ y = .int k ∧ SqT K H l xs ∧ xs ≠ [] ∧ 1 ≤ k ∧ k ≤ 1000 ∧ xs.length ≤ 1000 ∧ (k = 1 → Q (.ref l) H) ∧ (2 ≤ k → ∀ p, H p = none → Q (.ref p) (upd H p (.tup (List.replicate k.toNat xs).flatten)))
section
variable {X : Cx}
theorem op_many : OpR X (binaryOp .Mult) (rMany X.K) := by
  intro pins s σ H x y v u Q I rx ry h
  obtain ⟨l, k, xs, rfl, rfl, hT, hne, h1, h2, hz, q1, q2⟩ := h
  by_cases hk : k = 1
  · subst hk
    cases rx
    obtain ⟨t, rfl⟩ := ry
    obtain ⟨its, r, ⟨⟨cls, dd, data, sl⟩, ho, hc, n, hd⟩, hs⟩ := I.tuple hT
    simp only at hc hd
    subst hc hd
    refine wpAny_binaryOp_repeat_ref (T := "tuple") (U := "int") (by decide) ⟨_, ho, rfl⟩ (fun s' => typeIs_int s' 1 t) noFill_tuple_mul F.fills_int_mul F.slot_int_rmul repeat_tuple F.slot_int_index.lookup
      (call_meets F.slot_int_rmul (typeIs_int s 1 t) F.entry_int_rmul (F.args_int_rmul_2 _ _) (int_rmul_tuple 1 t l its.toArray n dd sl)
        ⟨ho, rfl, ⟨_, ho, rfl⟩, call_meets F.slot_tuple_mul ⟨_, ho, rfl⟩ F.entry_tuple_mul (F.args_tuple_mul_2 _ _) (mul_once l its.toArray n dd sl t) ⟨ho, ?_⟩⟩)
    exact ⟨.ref l, _, I, rfl, q1 rfl⟩
  · exact op_repT pins s σ H _ _ v u Q I rx ry ⟨l, k, xs, rfl, rfl, hT, hne, by omega, h2, hz, q2 (by omega)⟩
/-- t != (), whatever stands in t -/
def rNeEmpty (K : PySem.W.Frag) : R2 := fun x y H Q => ∃ (a b : Addr) (xs : List V), x = .ref a ∧ y = .ref b ∧ SqT K H a xs ∧ SqT K H b [] ∧ Q (.bl (!xs.isEmpty)) H
theorem op_neE (hu : X.A.units + 64 < cLine) : OpR X (compareOp .NotEq) (rNeEmpty X.K) := by
  intro pins s σ H x y v u Q I rx ry h
  obtain ⟨a, b, xs, rfl, rfl, ha, hb, q⟩ := h
  cases rx
  cases ry
  obtain ⟨its, r, h1, _⟩ := I.tuple ha
  obtain ⟨jts, r2, h2, _⟩ := I.tuple hb
  cases r2
  have e : (!((List.range (min its.toArray.size ([] : List Value).toArray.size)).all (fun _ => true) && its.toArray.size == ([] : List Value).toArray.size)) = !xs.isEmpty := by
    have hl := r.length
    cases xs <;> cases its <;> simp_all
  refine (SeqAt.RcNeAt.tuples h1 h2 (by omega) (e := fun _ => true) fun j _ z => absurd z (Nat.not_lt_zero _)) _ _ _ _ ?_
  rw [e]
  exact ⟨.bl _, H, I, rfl, q⟩
end
end L2

/-! Law k11 over the landed ballots: by hand, over the layer. -/
namespace Own
open PySem PySem.Spec PyProof.Rows L2
/-! ### the text -/
/-- the k-th block of a statement -/
def blkOf (s : Stmt) (k : Nat) : List Stmt := match s with
  | .If _ a b _ => if k = 0 then a else b
  | .For _ _ a _ _ => a
  | .While _ a _ _ => a
  | .Try a hs _ _ _ => match k, hs with
    | 0, _ => a
    | j + 1, hs => match hs[j]? with
      | some (.ExceptHandler _ _ b _) => b
      | none => []
  | _ => []
abbrev noE : Expr := .Constant .none 0 ⟨0, 0, 0, 0⟩
/-- a statement's own expression; the k-th part of an expression -/
def rootE (s : Stmt) : Expr := match s with
  | .Assign _ v _ => v
  | .Return (some v) _ => v
  | .Expr v _ => v
  | .AugAssign _ _ v _ => v
  | .If t _ _ _ => t
  | .While t _ _ _ => t
  | .For _ i _ _ _ => i
  | _ => noE
def subE (e : Expr) (k : Nat) : Expr := match e with
  | .BinOp a _ b _ => if k = 0 then a else b
  | .BoolOp _ vs _ => vs.getD k noE
  | .UnaryOp _ a _ => a
  | .Compare a _ cs _ => (a :: cs).getD k noE
  | .Call f as kws _ => (f :: (as ++ kws.map (·.value))).getD k noE
  | .Attribute a _ _ => a
  | .Subscript a b _ => if k = 0 then a else b
  | .Tuple es _ _ => es.getD k noE
  | .List es _ => es.getD k noE
  | .IfExp c a b _ => [c, a, b].getD k noE
  | .Slice a b c _ => ([a, b, c].getD k none).getD noE
  | .ListComp a gs _ _ => match gs with
    | g :: _ => ([a, g.iter, g.target] ++ g.ifs).getD k noE
    | [] => noE
  | _ => noE
def lcScope (e : Expr) : Scope := match e with
  | .ListComp _ _ sc _ => sc
  | _ => { kind := .function, names := [], isGenerator := false, isCoroutine := false }
def lcG (e : Expr) (k : Nat) : Comprehension := match e with
  | .ListComp _ gs _ _ => gs.getD k ⟨noE, noE, [], 0⟩
  | _ => ⟨noE, noE, [], 0⟩
def lcIfs (e : Expr) : List Expr := match e with
  | .ListComp _ (g :: _) _ _ => g.ifs
  | _ => []
def topS (i : Nat) : Stmt := PySem.Challenge.pw_voicefold_k11_ballots_checked.main.body.getD i (.Pass ⟨0, 0, 0, 0⟩)
abbrev s_PollError_init : Stmt := inClass (topS 1) 0
theorem sc_PollError_init : FnScope ["self", "why"] ["self", "why"] (defScope s_PollError_init) := ⟨rfl, rfl, rfl, by decide +kernel, rfl, by decide +kernel, by decide +kernel⟩
abbrev s_is_whole : Stmt := topS 10
theorem sc_is_whole : FnScope ["thing"] ["thing"] (defScope s_is_whole) := ⟨rfl, rfl, rfl, by decide +kernel, rfl, by decide +kernel, by decide +kernel⟩
abbrev s_is_tuple_of : Stmt := topS 11
theorem sc_is_tuple_of : FnScope ["thing", "many"] ["thing", "many"] (defScope s_is_tuple_of) := ⟨rfl, rfl, rfl, by decide +kernel, rfl, by decide +kernel, by decide +kernel⟩
abbrev s_is_option : Stmt := topS 14
theorem sc_is_option : FnScope ["options", "thing"] ["options", "thing"] (defScope s_is_option) := ⟨rfl, rfl, rfl, by decide +kernel, rfl, by decide +kernel, by decide +kernel⟩
abbrev s_are_unlike_options : Stmt := topS 15
theorem sc_are_unlike_options : FnScope ["options", "names", "name"] ["options", "names"] (defScope s_are_unlike_options) := ⟨rfl, rfl, rfl, by decide +kernel, rfl, by decide +kernel, by decide +kernel⟩
abbrev s_is_mark : Stmt := topS 20
theorem sc_is_mark : FnScope ["thing"] ["thing"] (defScope s_is_mark) := ⟨rfl, rfl, rfl, by decide +kernel, rfl, by decide +kernel, by decide +kernel⟩
abbrev s_are_tiers : Stmt := topS 18
theorem sc_are_tiers : FnScope ["options", "told", "tier", "name"] ["options", "told"] (defScope s_are_tiers) := ⟨rfl, rfl, rfl, by decide +kernel, rfl, by decide +kernel, by decide +kernel⟩
abbrev s_are_marks : Stmt := topS 19
theorem sc_are_marks : FnScope ["options", "told", "pair"] ["options", "told"] (defScope s_are_marks) := ⟨rfl, rfl, rfl, by decide +kernel, rfl, by decide +kernel, by decide +kernel⟩
abbrev s_is_ballot : Stmt := topS 17
theorem sc_is_ballot : FnScope ["options", "thing", "form", "told"] ["options", "thing"] (defScope s_is_ballot) := ⟨rfl, rfl, rfl, by decide +kernel, rfl, by decide +kernel, by decide +kernel⟩
abbrev s_check_ballot : Stmt := topS 16
theorem sc_check_ballot : FnScope ["options", "ballot"] ["options", "ballot"] (defScope s_check_ballot) := ⟨rfl, rfl, rfl, by decide +kernel, rfl, by decide +kernel, by decide +kernel⟩
abbrev s_law_cell_at : Stmt := topS 22
theorem sc_law_cell_at : FnScope ["_law_script", "_law_k"] ["_law_script", "_law_k"] (defScope s_law_cell_at) := ⟨rfl, rfl, rfl, by decide +kernel, rfl, by decide +kernel, by decide +kernel⟩
abbrev s_law_well : Stmt := topS 23
theorem sc_law_well : FnScope ["_law_cell"] ["_law_cell"] (defScope s_law_well) := ⟨rfl, rfl, rfl, by decide +kernel, rfl, by decide +kernel, by decide +kernel⟩
abbrev s_law_draw : Stmt := topS 24
theorem sc_law_draw : FnScope ["_law_well_here", "_law_size", "_law_digit", "_law_mix"] ["_law_well_here", "_law_size"] (defScope s_law_draw) := ⟨rfl, rfl, rfl, by decide +kernel, rfl, by decide +kernel, by decide +kernel⟩
abbrev s_law_one : Stmt := topS 25
theorem sc_law_one : FnScope ["_law_well_here", "_law_some"] ["_law_well_here", "_law_some"] (defScope s_law_one) := ⟨rfl, rfl, rfl, by decide +kernel, rfl, by decide +kernel, by decide +kernel⟩
abbrev s_law_options : Stmt := topS 26
theorem sc_law_options : FnScope ["_law_well_here", "_law_size", "_law_letters", "_law_first", "_law_found", "_law_k", "_law_word", "_law_j"] ["_law_well_here", "_law_size"] (defScope s_law_options) := ⟨rfl, rfl, rfl, by decide +kernel, rfl, by decide +kernel, by decide +kernel⟩
abbrev s_law_shuffled : Stmt := topS 27
theorem sc_law_shuffled : FnScope ["_law_well_here", "_law_some", "_law_left", "_law_k"] ["_law_well_here", "_law_some"] (defScope s_law_shuffled) := ⟨rfl, rfl, rfl, by decide +kernel, rfl, by decide +kernel, by decide +kernel⟩
abbrev s_law_tiers_drawn : Stmt := topS 28
theorem sc_law_tiers_drawn : FnScope ["_law_well_here", "_law_some", "_law_found", "_law_word"] ["_law_well_here", "_law_some"] (defScope s_law_tiers_drawn) := ⟨rfl, rfl, rfl, by decide +kernel, rfl, by decide +kernel, by decide +kernel⟩
abbrev s_law_ballot : Stmt := topS 29
theorem sc_law_ballot : FnScope ["_law_well_here", "_law_choices", "_law_way", "_law_some", "_law_word"] ["_law_well_here", "_law_choices"] (defScope s_law_ballot) := ⟨rfl, rfl, rfl, by decide +kernel, rfl, by decide +kernel, by decide +kernel⟩
abbrev s_law_odd : Stmt := topS 30
theorem sc_law_odd : FnScope ["_law_well_here", "_law_choices", "_law_some"] ["_law_well_here", "_law_choices"] (defScope s_law_odd) := ⟨rfl, rfl, rfl, by decide +kernel, rfl, by decide +kernel, by decide +kernel⟩
abbrev s_law_bent : Stmt := topS 31
theorem sc_law_bent : FnScope ["_law_well_here", "_law_slip", "_law_choices", "_law_word", "_law_things", "_law_way", "_law_odd_here", "_law_some", "_law_at", "_law_piece", "_law_spot", "_law_mark"] ["_law_well_here", "_law_slip", "_law_choices"] (defScope s_law_bent) := ⟨rfl, rfl, rfl, by decide +kernel, rfl, by decide +kernel, by decide +kernel⟩
abbrev s_law_are_names : Stmt := topS 32
theorem sc_law_are_names : FnScope ["_law_some", "_law_choices", "_law_found", "_law_unlike", "_law_one_here", "_law_k"] ["_law_some", "_law_choices"] (defScope s_law_are_names) := ⟨rfl, rfl, rfl, by decide +kernel, rfl, by decide +kernel, by decide +kernel⟩
abbrev s_law_is_order : Stmt := topS 33
theorem sc_law_is_order : FnScope ["_law_things", "_law_choices", "_law_some", "_law_tier"] ["_law_things", "_law_choices"] (defScope s_law_is_order) := ⟨rfl, rfl, rfl, by decide +kernel, rfl, by decide +kernel, by decide +kernel⟩
abbrev s_law_are_marks : Stmt := topS 34
theorem sc_law_are_marks : FnScope ["_law_things", "_law_choices", "_law_pair", "_law_mark"] ["_law_things", "_law_choices"] (defScope s_law_are_marks) := ⟨rfl, rfl, rfl, by decide +kernel, rfl, by decide +kernel, by decide +kernel⟩
abbrev s_law_is_ballot : Stmt := topS 35
theorem sc_law_is_ballot : FnScope ["_law_thing", "_law_choices"] ["_law_thing", "_law_choices"] (defScope s_law_is_ballot) := ⟨rfl, rfl, rfl, by decide +kernel, rfl, by decide +kernel, by decide +kernel⟩
abbrev s_law_told : Stmt := topS 36
theorem sc_law_told : FnScope ["_law_choices", "_law_thing", "_law_told_here", "e", "_law_others"] ["_law_choices", "_law_thing"] (defScope s_law_told) := ⟨rfl, rfl, rfl, by decide +kernel, rfl, by decide +kernel, by decide +kernel⟩
abbrev s_law : Stmt := topS 37
theorem sc_law : FnScope ["_law_script", "_law_cell", "_law_well_here", "_law_choices", "_law_slip", "_law_turn", "_law_thing", "_law_shown", "_law_due"] ["_law_script"] (defScope s_law) := ⟨rfl, rfl, rfl, by decide +kernel, rfl, by decide +kernel, by decide +kernel⟩
structure Txt (K : PySem.W.Frag) (mg : Str → Option Value) where
  f_PollError_init : Addr
  fd_PollError_init : FuncData
  F_PollError_init : FunD K "__init__" "PollError.__init__" (defArgs s_PollError_init) (defBody s_PollError_init) (defScope s_PollError_init) [.str ""] [] f_PollError_init fd_PollError_init
  gkb_PollError_init_2 : List Value → List Value → List Value
  kb_PollError_init_2 : KBn K fd_PollError_init ["self", "why"] 2 [] gkb_PollError_init_2 (fun vs zs => vs)
  f_is_whole : Addr
  fd_is_whole : FuncData
  F_is_whole : Fun K "is_whole" "is_whole" s_is_whole f_is_whole fd_is_whole
  b_is_whole : Binds K fd_is_whole ["thing"] []
  g_is_whole : mg "is_whole" = some (.ref f_is_whole)
  f_is_tuple_of : Addr
  fd_is_tuple_of : FuncData
  F_is_tuple_of : Fun K "is_tuple_of" "is_tuple_of" s_is_tuple_of f_is_tuple_of fd_is_tuple_of
  b_is_tuple_of : Binds K fd_is_tuple_of ["thing", "many"] []
  g_is_tuple_of : mg "is_tuple_of" = some (.ref f_is_tuple_of)
  f_is_option : Addr
  fd_is_option : FuncData
  F_is_option : Fun K "is_option" "is_option" s_is_option f_is_option fd_is_option
  b_is_option : Binds K fd_is_option ["options", "thing"] []
  g_is_option : mg "is_option" = some (.ref f_is_option)
  f_are_unlike_options : Addr
  fd_are_unlike_options : FuncData
  F_are_unlike_options : Fun K "are_unlike_options" "are_unlike_options" s_are_unlike_options f_are_unlike_options fd_are_unlike_options
  b_are_unlike_options : Binds K fd_are_unlike_options ["options", "names"] []
  g_are_unlike_options : mg "are_unlike_options" = some (.ref f_are_unlike_options)
  f_is_mark : Addr
  fd_is_mark : FuncData
  F_is_mark : Fun K "is_mark" "is_mark" s_is_mark f_is_mark fd_is_mark
  b_is_mark : Binds K fd_is_mark ["thing"] []
  g_is_mark : mg "is_mark" = some (.ref f_is_mark)
  f_are_tiers : Addr
  fd_are_tiers : FuncData
  F_are_tiers : Fun K "are_tiers" "are_tiers" s_are_tiers f_are_tiers fd_are_tiers
  b_are_tiers : Binds K fd_are_tiers ["options", "told"] []
  g_are_tiers : mg "are_tiers" = some (.ref f_are_tiers)
  f_are_marks : Addr
  fd_are_marks : FuncData
  F_are_marks : Fun K "are_marks" "are_marks" s_are_marks f_are_marks fd_are_marks
  b_are_marks : Binds K fd_are_marks ["options", "told"] []
  g_are_marks : mg "are_marks" = some (.ref f_are_marks)
  f_is_ballot : Addr
  fd_is_ballot : FuncData
  F_is_ballot : Fun K "is_ballot" "is_ballot" s_is_ballot f_is_ballot fd_is_ballot
  b_is_ballot : Binds K fd_is_ballot ["options", "thing"] []
  g_is_ballot : mg "is_ballot" = some (.ref f_is_ballot)
  f_check_ballot : Addr
  fd_check_ballot : FuncData
  F_check_ballot : Fun K "check_ballot" "check_ballot" s_check_ballot f_check_ballot fd_check_ballot
  b_check_ballot : Binds K fd_check_ballot ["options", "ballot"] []
  g_check_ballot : mg "check_ballot" = some (.ref f_check_ballot)
  gkb_check_ballot_2 : List Value → List Value → List Value
  kb_check_ballot_2 : KBn K fd_check_ballot ["options", "ballot"] 2 [] gkb_check_ballot_2 (fun vs zs => vs)
  gkb_check_ballot_0_ballot_options : List Value → List Value → List Value
  kb_check_ballot_0_ballot_options : KBn K fd_check_ballot ["options", "ballot"] 0 ["ballot", "options"] gkb_check_ballot_0_ballot_options (fun vs zs => vs ++ ((zs.drop 1).take 1 ++ ((zs.drop 0).take 1)))
  f_law_cell_at : Addr
  fd_law_cell_at : FuncData
  F_law_cell_at : Fun K "_law_cell_at" "_law_cell_at" s_law_cell_at f_law_cell_at fd_law_cell_at
  b_law_cell_at : Binds K fd_law_cell_at ["_law_script", "_law_k"] []
  g_law_cell_at : mg "_law_cell_at" = some (.ref f_law_cell_at)
  f_law_well : Addr
  fd_law_well : FuncData
  F_law_well : Fun K "_law_well" "_law_well" s_law_well f_law_well fd_law_well
  b_law_well : Binds K fd_law_well ["_law_cell"] []
  g_law_well : mg "_law_well" = some (.ref f_law_well)
  f_law_draw : Addr
  fd_law_draw : FuncData
  F_law_draw : Fun K "_law_draw" "_law_draw" s_law_draw f_law_draw fd_law_draw
  b_law_draw : Binds K fd_law_draw ["_law_well_here", "_law_size"] []
  g_law_draw : mg "_law_draw" = some (.ref f_law_draw)
  f_law_one : Addr
  fd_law_one : FuncData
  F_law_one : Fun K "_law_one" "_law_one" s_law_one f_law_one fd_law_one
  b_law_one : Binds K fd_law_one ["_law_well_here", "_law_some"] []
  g_law_one : mg "_law_one" = some (.ref f_law_one)
  f_law_options : Addr
  fd_law_options : FuncData
  F_law_options : Fun K "_law_options" "_law_options" s_law_options f_law_options fd_law_options
  b_law_options : Binds K fd_law_options ["_law_well_here", "_law_size"] []
  g_law_options : mg "_law_options" = some (.ref f_law_options)
  f_law_shuffled : Addr
  fd_law_shuffled : FuncData
  F_law_shuffled : Fun K "_law_shuffled" "_law_shuffled" s_law_shuffled f_law_shuffled fd_law_shuffled
  b_law_shuffled : Binds K fd_law_shuffled ["_law_well_here", "_law_some"] []
  g_law_shuffled : mg "_law_shuffled" = some (.ref f_law_shuffled)
  f_law_tiers_drawn : Addr
  fd_law_tiers_drawn : FuncData
  F_law_tiers_drawn : Fun K "_law_tiers_drawn" "_law_tiers_drawn" s_law_tiers_drawn f_law_tiers_drawn fd_law_tiers_drawn
  b_law_tiers_drawn : Binds K fd_law_tiers_drawn ["_law_well_here", "_law_some"] []
  g_law_tiers_drawn : mg "_law_tiers_drawn" = some (.ref f_law_tiers_drawn)
  f_law_ballot : Addr
  fd_law_ballot : FuncData
  F_law_ballot : Fun K "_law_ballot" "_law_ballot" s_law_ballot f_law_ballot fd_law_ballot
  b_law_ballot : Binds K fd_law_ballot ["_law_well_here", "_law_choices"] []
  g_law_ballot : mg "_law_ballot" = some (.ref f_law_ballot)
  f_law_odd : Addr
  fd_law_odd : FuncData
  F_law_odd : Fun K "_law_odd" "_law_odd" s_law_odd f_law_odd fd_law_odd
  b_law_odd : Binds K fd_law_odd ["_law_well_here", "_law_choices"] []
  g_law_odd : mg "_law_odd" = some (.ref f_law_odd)
  f_law_bent : Addr
  fd_law_bent : FuncData
  F_law_bent : Fun K "_law_bent" "_law_bent" s_law_bent f_law_bent fd_law_bent
  b_law_bent : Binds K fd_law_bent ["_law_well_here", "_law_slip", "_law_choices"] []
  g_law_bent : mg "_law_bent" = some (.ref f_law_bent)
  f_law_are_names : Addr
  fd_law_are_names : FuncData
  F_law_are_names : Fun K "_law_are_names" "_law_are_names" s_law_are_names f_law_are_names fd_law_are_names
  b_law_are_names : Binds K fd_law_are_names ["_law_some", "_law_choices"] []
  g_law_are_names : mg "_law_are_names" = some (.ref f_law_are_names)
  f_law_is_order : Addr
  fd_law_is_order : FuncData
  F_law_is_order : Fun K "_law_is_order" "_law_is_order" s_law_is_order f_law_is_order fd_law_is_order
  b_law_is_order : Binds K fd_law_is_order ["_law_things", "_law_choices"] []
  g_law_is_order : mg "_law_is_order" = some (.ref f_law_is_order)
  f_law_are_marks : Addr
  fd_law_are_marks : FuncData
  F_law_are_marks : Fun K "_law_are_marks" "_law_are_marks" s_law_are_marks f_law_are_marks fd_law_are_marks
  b_law_are_marks : Binds K fd_law_are_marks ["_law_things", "_law_choices"] []
  g_law_are_marks : mg "_law_are_marks" = some (.ref f_law_are_marks)
  f_law_is_ballot : Addr
  fd_law_is_ballot : FuncData
  F_law_is_ballot : Fun K "_law_is_ballot" "_law_is_ballot" s_law_is_ballot f_law_is_ballot fd_law_is_ballot
  b_law_is_ballot : Binds K fd_law_is_ballot ["_law_thing", "_law_choices"] []
  g_law_is_ballot : mg "_law_is_ballot" = some (.ref f_law_is_ballot)
  f_law_told : Addr
  fd_law_told : FuncData
  F_law_told : Fun K "_law_told" "_law_told" s_law_told f_law_told fd_law_told
  b_law_told : Binds K fd_law_told ["_law_choices", "_law_thing"] []
  g_law_told : mg "_law_told" = some (.ref f_law_told)
  f_law : Addr
  fd_law : FuncData
  F_law : Fun K "law" "law" s_law f_law fd_law
  b_law : Binds K fd_law ["_law_script"] []
  g_law : mg "law" = some (.ref f_law)
  C_PollError : Addr
  k_PollError : mg "PollError" = some (.ref C_PollError)
  ex_PollError : ExK K C_PollError f_PollError_init
  ox_PollError : OexC K C_PollError
  xf_PollError : XfC K C_PollError
  nf_PollError_why : PySem.W.findIn K (.ref C_PollError) "why" = some none
  rd_PollError : PySem.W.readsIn K C_PollError (.type "type") = true
  ga_PollError : PySem.W.specialIn K (.ref C_PollError) "__getattribute__" = some (some (.builtin "type.__getattribute__"))
  fc_PollError_init : PySem.W.findCls K (.ref C_PollError) (.type "type") "__init__" = some (.val (.ref f_PollError_init))
  C_BadBallot : Addr
  k_BadBallot : mg "BadBallot" = some (.ref C_BadBallot)
  ex_BadBallot : ExK K C_BadBallot f_PollError_init
  ox_BadBallot : OexC K C_BadBallot
  xf_BadBallot : XfC K C_BadBallot
  nf_BadBallot_why : PySem.W.findIn K (.ref C_BadBallot) "why" = some none
  ic_BadBallot : ExcC K C_BadBallot
  C_BadClaim : Addr
  k_BadClaim : mg "BadClaim" = some (.ref C_BadClaim)
  ex_BadClaim : ExK K C_BadClaim f_PollError_init
  ox_BadClaim : OexC K C_BadClaim
  xf_BadClaim : XfC K C_BadClaim
  nf_BadClaim_why : PySem.W.findIn K (.ref C_BadClaim) "why" = some none
  C_BadMargins : Addr
  k_BadMargins : mg "BadMargins" = some (.ref C_BadMargins)
  ex_BadMargins : ExK K C_BadMargins f_PollError_init
  ox_BadMargins : OexC K C_BadMargins
  xf_BadMargins : XfC K C_BadMargins
  nf_BadMargins_why : PySem.W.findIn K (.ref C_BadMargins) "why" = some none
  C_BadOrder : Addr
  k_BadOrder : mg "BadOrder" = some (.ref C_BadOrder)
  ex_BadOrder : ExK K C_BadOrder f_PollError_init
  ox_BadOrder : OexC K C_BadOrder
  xf_BadOrder : XfC K C_BadOrder
  nf_BadOrder_why : PySem.W.findIn K (.ref C_BadOrder) "why" = some none
  C_BadPoll : Addr
  k_BadPoll : mg "BadPoll" = some (.ref C_BadPoll)
  ex_BadPoll : ExK K C_BadPoll f_PollError_init
  ox_BadPoll : OexC K C_BadPoll
  xf_BadPoll : XfC K C_BadPoll
  nf_BadPoll_why : PySem.W.findIn K (.ref C_BadPoll) "why" = some none
  C_BadRule : Addr
  k_BadRule : mg "BadRule" = some (.ref C_BadRule)
  ex_BadRule : ExK K C_BadRule f_PollError_init
  ox_BadRule : OexC K C_BadRule
  xf_BadRule : XfC K C_BadRule
  nf_BadRule_why : PySem.W.findIn K (.ref C_BadRule) "why" = some none
  C_BadSums : Addr
  k_BadSums : mg "BadSums" = some (.ref C_BadSums)
  ex_BadSums : ExK K C_BadSums f_PollError_init
  ox_BadSums : OexC K C_BadSums
  xf_BadSums : XfC K C_BadSums
  nf_BadSums_why : PySem.W.findIn K (.ref C_BadSums) "why" = some none
  te_BadBallot_PollError : PySem.W.exmOne K (.ref C_BadBallot) (.ref C_PollError) = some true
  kt_BadBallot_BadBallot : PySem.W.kitOne K (.ref C_BadBallot) (.ref C_BadBallot) = some true
  kt_BadBallot_BadClaim : PySem.W.kitOne K (.ref C_BadBallot) (.ref C_BadClaim) = some false
  kt_BadBallot_BadMargins : PySem.W.kitOne K (.ref C_BadBallot) (.ref C_BadMargins) = some false
  kt_BadBallot_BadOrder : PySem.W.kitOne K (.ref C_BadBallot) (.ref C_BadOrder) = some false
  kt_BadBallot_BadPoll : PySem.W.kitOne K (.ref C_BadBallot) (.ref C_BadPoll) = some false
  kt_BadBallot_BadRule : PySem.W.kitOne K (.ref C_BadBallot) (.ref C_BadRule) = some false
  kt_BadBallot_BadSums : PySem.W.kitOne K (.ref C_BadBallot) (.ref C_BadSums) = some false
  vV : PySem.W.findCls K (.type "ValueError") (.type "type") "__init__" = some (.val (.builtin "ValueError.__init__"))
  z_ValueError : mg "ValueError" = none
  z_isinstance : mg "isinstance" = none
  z_bool : mg "bool" = none
  z_int : mg "int" = none
  z_len : mg "len" = none
  z_tuple : mg "tuple" = none
  z_str : mg "str" = none
  z_all : mg "all" = none
  z_range : mg "range" = none
  z_list : mg "list" = none
  z_enumerate : mg "enumerate" = none
  z_repr : mg "repr" = none
  z_set : mg "set" = none
  t_GREATEST_MARK : Tok
  c_GREATEST_MARK : mg "GREATEST_MARK" = some (.int 9 t_GREATEST_MARK)
/-! ### wells -/
/-- a well's three numbers, k a bound of how often it was drawn from -/
def WellL (w : List V) (k : Nat) : Prop := ∃ a b c : Int, w = [.int a, .int b, .int c] ∧ 0 ≤ a ∧ 0 ≤ b ∧ b < 2147483629 ∧ 0 ≤ c ∧ c ≤ k
theorem WellL.mono {w : List V} {j k : Nat} (h : WellL w j) (hk : j ≤ k) : WellL w k := by
  obtain ⟨a, b, c, e, h1, h2, h3, h4, h5⟩ := h
  exact ⟨a, b, c, e, h1, h2, h3, h4, by omega⟩
theorem mix_mod (x m : Int) (h : 0 < m) : 0 ≤ x % m ∧ x % m < m := ⟨Int.emod_nonneg x (by omega), Int.emod_lt_of_pos x h⟩
theorem div_nn {a n : Int} (h : 0 ≤ a) (hn : 0 < n) : 0 ≤ a / n := Int.ediv_nonneg h (by omega)
theorem same_upd {H : Hp} {p : Addr} {o : HO} (h : H p = none) : Same H (upd H p o) := fun b x e => by
  rw [upd_ne (ne_of_none e h)]
  exact e
theorem same_mut {H H' : Hp} {p : Addr} {o : HO} (e : Same H H') (h : H p = none) : Same H (upd H' p o) := fun b x q => by
  rw [upd_ne (ne_of_none q h)]
  exact e b x q
theorem mulOk {a b : Int} {n m : Nat} (ha : a.natAbs < 2 ^ n) (hb : b.natAbs < 2 ^ m) (h : n + m + 1 ≤ 8000) : CMulW a b :=
  wide_mul (a := n + 1) (b := m + 1) (Nat.lt_of_lt_of_le ha (Nat.pow_le_pow_right (by decide) (by omega))) (Nat.lt_of_lt_of_le hb (Nat.pow_le_pow_right (by decide) (by omega))) (by omega) (by omega) (by omega)
theorem line_of {n : Nat} (h : n ≤ 1000) : n ≤ sizeLine := Nat.le_of_lt (small1000 h)
/-- what was tracked besides p stays -/
def But (p : Addr) (H H' : Hp) : Prop := ∀ b o, b ≠ p → H b = some o → H' b = some o
theorem But.refl (p : Addr) (H : Hp) : But p H H := fun _ _ _ h => h
theorem But.upd {p : Addr} {H H' : Hp} (e : But p H H') (o : HO) : But p H (upd H' p o) := fun b u hb q => by
  rw [upd_ne hb]
  exact e b u hb q
theorem But.new {p q : Addr} {H H' : Hp} (e : But p H H') (n : H' q = none) (o : HO) : But p H (L2.upd H' q o) := fun b u hb h => by
  have h2 := e b u hb h
  rw [upd_ne (ne_of_none h2 n)]
  exact h2
theorem But.same {p : Addr} {H H1 H2 : Hp} (e : But p H H1) (s : Same H1 H2) : But p H H2 := fun b u hb h => s b u (e b u hb h)
theorem But.trans {p : Addr} {H H1 H2 : Hp} (e : But p H H1) (f : But p H1 H2) : But p H H2 := fun b u hb h => f b u hb (e b u hb h)
/-- p new to H0 -/
theorem But.ext {p : Addr} {H0 H H' : Hp} (s : Same H0 H) (n : H0 p = none) (e : But p H H') : Same H0 H' := fun b u h => e b u (ne_of_none h n) (s b u h)
theorem size_ok {n : Int} (h0 : 0 ≤ n) (h : n ≤ 1000) : n.natAbs < 2 ^ 8000 := Nat.lt_of_le_of_lt (show n.natAbs ≤ 1000 by omega) (by decide +kernel)
theorem cut_ints (ns : List Int) (lo hi : Option Int) : ∃ ms : List Int, cutV (ns.map V.int) lo hi = ms.map V.int ∧ ms.length ≤ ns.length := by
  refine ⟨(ns.drop (HT.sIx (ns.map V.int).length 0 lo)).take (HT.sIx (ns.map V.int).length (ns.map V.int).length hi - HT.sIx (ns.map V.int).length 0 lo), ?_, ?_⟩
  · unfold cutV
    rw [← List.map_drop, ← List.map_take]
  · rw [List.length_take, List.length_drop]
    omega
theorem take_more {α : Type} : ∀ {l : List α} {i : Nat} {x : α}, l[i]? = some x → l.take (i + 1) = l.take i ++ [x]
  | [], i, x, h => by simp at h
  | a :: l, 0, x, h => by
    have e : a = x := Option.some.inj h
    subst e
    rfl
  | a :: l, i + 1, x, h => by
    have ih := take_more (l := l) (i := i) (x := x) h
    show a :: l.take (i + 1) = a :: l.take i ++ [x]
    rw [ih]
    rfl
section
variable {P : Program} {w : World} {K : PySem.W.Frag} {mg : Str → Option Value} {base : Heap}
/-! ### the law's own small defs -/
def sp_law_cell_at (K : PySem.W.Frag) : Sp := fun vs H Q _ => ∃ (a : Addr) (ns : List Int), vs = [.ref a, .int 0] ∧ SqL K H a (ns.map V.int) ∧ ns.length ≤ 63 ∧ ∀ z : Int, Q (.int z) H
theorem ok_law_cell_at (T : Txt K mg) : FnOk P w K mg base CX0 1 T.f_law_cell_at T.fd_law_cell_at ["_law_script", "_law_k"] (sp_law_cell_at K) := by
  refine T.F_law_cell_at.ok sc_law_cell_at (fun vs H Q E h => ?_) (fun cdv A outer s H vs Q E hr h => ?_)
  · obtain ⟨a, ns, rfl, _⟩ := h
    rfl
  · obtain ⟨a, ns, rfl, hS, hlen, q⟩ := h
    refine ⟨_, (pss_cons
 (ps_if (pt_cmpR op_lt (pv 1) (pe_callB call_len_seq (by rfl) T.z_len (by decide +kernel) (pa_cons (pv 0) pa_nil)) (nomark _))
 (pss_one
 (ps_ret (pe_ix ix_list (pv 0) (pv 1) (fun _ _ => rfl))))
 pss_nil)
 (pss_one
 (ps_ret pe_int))), ?_⟩
    refine ⟨.int 0, rfl, .ref a, rfl, a, ns.map V.int, rfl, .inl hS, 0, _, rfl, rfl, _, rfl, ite2 (fun e => ?_) (fun e => ?_)⟩
    · have e0 := of_decide_eq_true e
      cases ns with
      | nil => simp at e0
      | cons z r => exact ⟨.ref a, rfl, .int 0, rfl, a, _, 0, .int z, rfl, rfl, hS, atI_nat (j := 0) rfl, q z⟩
    · exact q 0
def sp_law_well : Sp := fun vs H Q _ => ∃ z : Int, vs = [.int z] ∧ ∀ (p : Addr) (x : List V) (H' : Hp), H p = none → Same H H' → H' p = some (.lst x) → WellL x 0 → Q (.ref p) H'
theorem ok_law_well (T : Txt K mg) : FnOk P w K mg base CX0 1 T.f_law_well T.fd_law_well ["_law_cell"] sp_law_well := by
  refine T.F_law_well.ok sc_law_well (fun vs H Q E h => ?_) (fun cdv A outer s H vs Q E hr h => ?_)
  · obtain ⟨z, rfl, _⟩ := h
    rfl
  · obtain ⟨z, rfl, q⟩ := h
    refine ⟨_, (pss_one
 (ps_ret (pe_lst (pa_cons (pe_ix ix_list (pe_lst (pa_cons pe_int (pa_cons (pv 0) pa_nil))) (pe_callTy call_int1 (by rfl) T.z_int (by decide +kernel) (pa_cons (pe_cmpR op_ge (pv 0) (pe_op op_pow pe_int pe_int) (nomark _)) pa_nil)) (fun _ _ => rfl)) (pa_cons (pe_op op_mod (pv 0) pe_int) (pa_cons pe_int pa_nil)))))), ?_⟩
    refine ⟨.int z, rfl, Nat.le_trans (by decide : 2 ≤ 1000) (Nat.le_of_lt (small1000 (by decide))), fun t nt => ?_⟩
    have ht : (upd H t (.lst [V.int 0, V.int z])) t = some (.lst [V.int 0, V.int z]) := upd_same
    refine ⟨.int z, rfl, 10, 18, rfl, rfl, ⟨by decide, by decide, by decide⟩, z, _, rfl, rfl, .inr ⟨_, rfl, ?_⟩⟩
    have fin : ∀ a : Int, 0 ≤ a → ∀ (p : Addr), (upd H t (.lst [V.int 0, V.int z])) p = none → Q (.ref p) (upd (upd H t (.lst [V.int 0, V.int z])) p (.lst [.int a, .int (z % 2147483629), .int 0])) := fun a ha p np => by
      have hb := mix_mod z 2147483629 (by decide)
      exact q p _ _ ((same_upd nt).free np) ((same_upd nt).trans (same_upd np)) upd_same ⟨a, _, 0, rfl, ha, hb.1, hb.2, by decide, by decide⟩
    by_cases hz : (10 : Int) ^ 18 ≤ z
    · refine ⟨t, _, 1, .int z, rfl, ?_, .of ht, rfl, .int z, rfl, z, _, rfl, rfl, (by show (0 : Int) < 2147483629; decide), Nat.le_trans (by decide : 3 ≤ 1000) (Nat.le_of_lt (small1000 (by decide))), fun p np => fin z (by omega) p np⟩
      rw [show decide ((10 : Int) ^ (18 : Int).toNat ≤ z) = true from decide_eq_true hz] <;> rfl
    · refine ⟨t, _, 0, .int 0, rfl, ?_, .of ht, rfl, .int z, rfl, z, _, rfl, rfl, (by show (0 : Int) < 2147483629; decide), Nat.le_trans (by decide : 3 ≤ 1000) (Nat.le_of_lt (small1000 (by decide))), fun p np => fin 0 (by omega) p np⟩
      rw [show decide ((10 : Int) ^ (18 : Int).toNat ≤ z) = false from decide_eq_false hz] <;> rfl
/-- drawing: a number below the size; the well holds three numbers again -/
def sp_law_draw : Sp := fun vs H Q _ => ∃ (p : Addr) (n : Int) (x : List V) (k : Nat), vs = [.ref p, .int n] ∧ H p = some (.lst x) ∧ WellL x k ∧ k ≤ 1000000 ∧ 0 < n ∧ n.natAbs < 2 ^ 8000 ∧
  ∀ (d : Int) (y : List V), 0 ≤ d → d < n → WellL y (k + 1) → Q (.int d) (upd H p (.lst y))
theorem ok_law_draw (T : Txt K mg) : FnOk P w K mg base CX0 1 T.f_law_draw T.fd_law_draw ["_law_well_here", "_law_size"] sp_law_draw := by
  refine T.F_law_draw.ok sc_law_draw (fun vs H Q E h => ?_) (fun cdv A outer s H vs Q E hr h => ?_)
  · obtain ⟨p, n, x, k, rfl, _⟩ := h
    rfl
  · obtain ⟨p, n, x, k, rfl, hp, ⟨a, b, c, rfl, ha, hb, hb2, hc, hck⟩, hk, hn, hn2, q⟩ := h
    refine ⟨_, (pss_cons
 (ps_if (pt_cmpR op_gt (pe_ix ix_list (pv 0) pe_int (fun _ _ => rfl)) pe_int (nomark _))
 (pss_cons
 (ps_set (i := 2) sc_law_draw.nd rfl (Or.inl rfl) (pe_op op_mod (pe_ix ix_list (pv 0) pe_int (fun _ _ => rfl)) (pv 1)))
 (pss_cons
 (ps_asg (pe_op op_fdivW (pe_ix ix_list (pv 0) pe_int (fun _ _ => rfl)) (pv 1)) (pg_sub (pv 0) pe_int set_list))
 (pss_one
 (ps_ret (pv 2)))))
 pss_nil)
 (pss_cons
 (ps_asg (pe_op op_add (pe_ix ix_list (pv 0) pe_int (fun _ _ => rfl)) pe_int) (pg_sub (pv 0) pe_int set_list))
 (pss_cons
 (ps_set (i := 3) sc_law_draw.nd rfl (Or.inl rfl) (pe_op op_mod (pe_op op_pow (pe_op op_add (pe_op op_add (pe_ix ix_list (pv 0) pe_int (fun _ _ => rfl)) (pe_op op_mul pe_int (pe_ix ix_list (pv 0) pe_int (fun _ _ => rfl)))) pe_int) pe_int) pe_int))
 (pss_cons
 (ps_set (i := 3) sc_law_draw.nd rfl (Or.inl rfl) (pe_op op_mod (pe_op op_mul (pv 3) (pe_op op_add (pe_op op_add (pe_op op_fdiv (pv 3) pe_int) pe_int) (pe_ix ix_list (pv 0) pe_int (fun _ _ => rfl)))) pe_int))
 (pss_one
 (ps_ret (pe_op op_mod (pe_op op_mod (pe_op op_mul (pv 3) (pe_op op_add (pe_op op_fdiv (pv 3) pe_int) pe_int)) pe_int) (pv 1)))))))), ?_⟩
    refine ⟨.ref p, rfl, p, _, 0, .int a, rfl, rfl, .of hp, rfl, a, 0, rfl, rfl, _, rfl, ite2 (fun e => ?_) (fun e => ?_)⟩
    · have hd := mix_mod a n hn
      have ha2 := div_nn ha hn
      refine ⟨.ref p, rfl, p, _, 0, .int a, rfl, rfl, .of hp, rfl, .int n, rfl, a, n, rfl, rfl, hn, ?_⟩
      refine ⟨.ref p, rfl, p, _, 0, .int a, rfl, rfl, .of hp, rfl, .int n, rfl, a, n, rfl, rfl, wide_div hn hn2 (by decide) (by decide), .ref p, rfl, p, _, 0, 0, rfl, rfl, hp, rfl, ?_⟩
      exact ⟨_, rfl, q (a % n) _ hd.1 hd.2 ⟨a / n, b, c, rfl, ha2, hb, hb2, hc, by omega⟩⟩
    · refine ⟨.ref p, rfl, p, _, 2, .int c, rfl, rfl, .of hp, rfl, c, 1, rfl, rfl, .ref p, rfl, p, _, 2, 2, rfl, rfl, hp, rfl, ?_⟩
      have h1 : (upd H p (.lst [V.int a, V.int b, V.int (c + 1)])) p = some (.lst [V.int a, V.int b, V.int (c + 1)]) := upd_same
      refine ⟨.ref p, rfl, p, _, 1, .int b, rfl, rfl, .of h1, rfl, .ref p, rfl, p, _, 2, .int (c + 1), rfl, rfl, .of h1, rfl, 7919, c + 1, rfl, rfl, .inl ⟨by decide, by decide⟩, b, _, rfl, rfl, _, 1, rfl, rfl, _, 5, rfl, rfl, ⟨by decide, by decide, by omega⟩, _, 2147483647, rfl, rfl, (by show (0 : Int) < 2147483647; decide), ?_⟩
      dsimp only
      generalize hg : (_ : Int) % 2147483647 = m
      have hm : 0 ≤ m ∧ m < 2147483647 := hg ▸ mix_mod _ _ (by decide)
      refine ⟨.int m, rfl, .int m, rfl, m, 1009, rfl, rfl, ⟨by decide, by decide⟩, _, 69621, rfl, rfl, .ref p, rfl, p, _, 2, .int (c + 1), rfl, rfl, .of h1, rfl, _, c + 1, rfl, rfl, m, _, rfl, rfl, .inl ⟨by omega, by omega⟩, _, 2147483629, rfl, rfl, (by show (0 : Int) < 2147483629; decide), ?_⟩
      dsimp only
      generalize hg2 : (_ : Int) % 2147483629 = m2
      have hm2 : 0 ≤ m2 ∧ m2 < 2147483629 := hg2 ▸ mix_mod _ _ (by decide)
      refine ⟨.int m2, rfl, .int m2, rfl, m2, 2003, rfl, rfl, ⟨by decide, by decide⟩, _, 40692, rfl, rfl, m2, _, rfl, rfl, .inl ⟨by omega, by omega⟩, _, 2147483399, rfl, rfl, (by show (0 : Int) < 2147483399; decide), .int n, rfl, _, n, rfl, rfl, hn, ?_⟩
      have hd := mix_mod (m2 * (m2 / 2003 + 40692) % 2147483399) n hn
      exact q _ _ hd.1 hd.2 ⟨a, b, c + 1, rfl, ha, hb, hb2, by omega, by omega⟩
end
/-! ### what stands apart from the well -/
/-- all that is tracked, but p -/
def hide (p : Addr) (H : Hp) : Hp := fun a => if a = p then none else H a
theorem hide_ne {p a : Addr} {H : Hp} (h : a ≠ p) : hide p H a = H a := if_neg h
theorem hide_at {p : Addr} {H : Hp} : hide p H p = none := if_pos rfl
theorem hide_sub (p : Addr) (H : Hp) : Same (hide p H) H := fun b o h => by
  by_cases e : b = p
  · rw [e, hide_at] at h
    cases h
  · rw [hide_ne e] at h
    exact h
theorem But.hid {p : Addr} {H H' : Hp} (b : But p H H') : Same (hide p H) (hide p H') := fun a o h => by
  by_cases e : a = p
  · rw [e, hide_at] at h
    cases h
  · rw [hide_ne e] at h ⊢
    exact b a o e h
theorem hid_but {p : Addr} {H H' : Hp} (s : Same (hide p H) (hide p H')) : But p H H' := fun a o e h => by
  have := s a o (by rw [hide_ne e]; exact h)
  rw [hide_ne e] at this
  exact this
theorem hide_upd {p : Addr} {H : Hp} {o : HO} : hide p (upd H p o) = hide p H := by
  funext a
  by_cases e : a = p
  · rw [e, hide_at, hide_at]
  · rw [hide_ne e, hide_ne e, upd_ne e]
theorem hid_same {p : Addr} {H H' : Hp} (s : Same H H') : Same (hide p H) (hide p H') := But.hid fun a o _ h => s a o h
theorem hid_new {p a : Addr} {H : Hp} {o u : HO} (hp : H p = some o) (n : H a = none) (h : H' a = some u) : hide p H' a = some u := by
  rw [hide_ne (fun e => by rw [e, hp] at n; cases n)]
  exact h
theorem hid_tup {p a : Addr} {H : Hp} {x : List V} {xs : List V} (hp : H p = some (.lst x)) (h : H a = some (.tup xs)) : hide p H a = some (.tup xs) := by
  rw [hide_ne (fun e => by rw [e, hp] at h; cases h)]
  exact h
theorem slX_of {K : PySem.W.Frag} {H : Hp} {a : Addr} {xs : List V} {lo hi : Option Int} {Q : VK} (h : H a = some (.tup xs)) (c : ∀ (s : Addr) (H' : Hp), H' s = some (.tup (cutV xs lo hi)) → Same H H' → Q (.ref s) H') : rSlA K (.ref a) lo hi H Q := by
  refine ⟨a, xs, rfl, .of h, fun e => c a H ?_ (Same.refl _), fun _ s ns => c s _ upd_same (same_upd ns)⟩
  have e2 : cutV xs lo hi = xs := by
    unfold cutV
    rw [e.1, e.2, List.drop_zero, Nat.sub_zero, List.take_length]
  rw [e2]
  exact h
theorem catA_of {K : PySem.W.Frag} {H : Hp} {a b : Addr} {xs ys : List V} {Q : VK} (ha : H a = some (.tup xs)) (hb : H b = some (.tup ys)) (hz : xs.length + ys.length ≤ 1000) (c : ∀ (s : Addr) (H' : Hp), H' s = some (.tup (xs ++ ys)) → Same H H' → Q (.ref s) H') : rCatA K (.ref a) (.ref b) H Q := by
  refine ⟨a, b, xs, ys, rfl, rfl, .of ha, .of hb, line_of hz, fun e => ?_, fun _ e => ?_, fun _ _ s ns => c s _ upd_same (same_upd ns)⟩
  · refine c b H ?_ (Same.refl _)
    rw [e]
    exact hb
  · refine c a H ?_ (Same.refl _)
    rw [e, List.append_nil]
    exact ha
theorem cut_from {xs : List V} {k : Nat} (h : k ≤ xs.length) : cutV xs (some (k : Int)) none = xs.drop k := by
  unfold cutV
  rw [HT.sIx_nat, HT.sIx_none, Nat.min_eq_left h, List.take_of_length_le (by rw [List.length_drop]; exact Nat.le_refl _)]
theorem cut_to {xs : List V} {k : Nat} (h : k ≤ xs.length) : cutV xs none (some (k : Int)) = xs.take k := by
  unfold cutV
  rw [HT.sIx_nat, HT.sIx_none, Nat.min_eq_left h, List.drop_zero, Nat.sub_zero]
/-- as H stood, but for the well p, which holds y -/
def On (p : Addr) (H : Hp) (y : List V) (Hc : Hp) : Prop := Same (hide p H) (hide p Hc) ∧ Hc p = some (.lst y)
theorem On.start {p : Addr} {H : Hp} {y : List V} (h : H p = some (.lst y)) : On p H y H := ⟨Same.refl _, h⟩
theorem On.same {p : Addr} {H Hc H' : Hp} {y : List V} (o : On p H y Hc) (s : Same Hc H') : On p H y H' := ⟨o.1.trans (hid_same s), s _ _ o.2⟩
theorem On.new {p q : Addr} {H Hc : Hp} {y : List V} {u : HO} (o : On p H y Hc) (n : Hc q = none) : On p H y (upd Hc q u) := o.same (same_upd n)
theorem On.put {p : Addr} {H Hc : Hp} {y z : List V} (o : On p H y Hc) : On p H z (upd Hc p (.lst z)) := ⟨by rw [hide_upd]; exact o.1, upd_same⟩
theorem On.trans {p : Addr} {H H1 H2 : Hp} {y z : List V} (o : On p H y H1) (c : On p H1 z H2) : On p H z H2 := ⟨o.1.trans c.1, c.2⟩
theorem On.hid {p q : Addr} {H Hc : Hp} {y : List V} {u : HO} (o : On p H y Hc) (n : Hc q = none) : hide p (upd Hc q u) q = some u := hid_new o.2 n upd_same
theorem On.free {p q : Addr} {H Hc : Hp} {y : List V} {u : HO} (o : On p H y Hc) (h : H p = some u) (n : Hc q = none) : H q = none := by
  have e : q ≠ p := fun z => by rw [z, o.2] at n; cases n
  cases g : H q with
  | none => rfl
  | some b =>
    have z := hide_sub p Hc q b (o.1 q b (by rw [hide_ne e]; exact g))
    rw [z] at n
    cases n
/-- a list made meanwhile is changed -/
theorem On.lstD {p D : Addr} {H Hc : Hp} {y : List V} {o : HO} (h : On p H y Hc) (n : H D = none) (d : D ≠ p) : On p H y (upd Hc D o) := by
  refine ⟨fun a u g => ?_, by rw [upd_ne d.symm]; exact h.2⟩
  have ap : a ≠ p := fun e => by rw [e, hide_at] at g; cases g
  have z := h.1 a u g
  rw [hide_ne ap] at z g ⊢
  rw [upd_ne (ne_of_none g n)]
  exact z
theorem hide_put {p q : Addr} {H : Hp} {o : HO} (h : q ≠ p) : hide p (upd H q o) = upd (hide p H) q o := by
  funext a
  by_cases e : a = p
  · rw [e, hide_at, upd_ne h.symm, hide_at]
  · rw [hide_ne e]
    by_cases e3 : a = q
    · rw [e3, upd_same, upd_same]
    · rw [upd_ne e3, upd_ne e3, hide_ne e]
theorem puts {p : Addr} {G Hc : Hp} {o : HO} (s : Same G (hide p Hc)) : Same G (hide p (upd Hc p o)) := by
  rw [hide_upd]
  exact s
theorem item_map {α : Type} {f : α → V} {l : List α} {i : Nat} {v : V} (h : (l.map f)[i]? = some v) : ∃ a, l[i]? = some a ∧ v = f a := by
  rw [List.getElem?_map] at h
  cases e : l[i]? with
  | none => rw [e] at h; cases h
  | some a => rw [e] at h; exact ⟨a, rfl, (Option.some.inj h).symm⟩
theorem cut_next {xs : List V} {k : Nat} (h : k + 1 ≤ xs.length) : cutV xs (some ((k : Int) + 1)) none = xs.drop (k + 1) := cut_from (k := k + 1) h
section
variable {P : Program} {w : World} {K : PySem.W.Frag} {mg : Str → Option Value} {base : Heap}
def sp_law_one : Sp := fun vs H Q _ => ∃ (p q : Addr) (x xs : List V) (k : Nat), vs = [.ref p, .ref q] ∧ H p = some (.lst x) ∧ hide p H q = some (.lst xs) ∧ xs ≠ [] ∧ xs.length ≤ 1000 ∧ WellL x k ∧ k ≤ 900000 ∧
  ∀ (i : Nat) (v : V) (y : List V), xs[i]? = some v → WellL y (k + 1) → Q v (upd H p (.lst y))
theorem ok_law_one (T : Txt K mg) : FnOk P w K mg base CX0 2 T.f_law_one T.fd_law_one ["_law_well_here", "_law_some"] sp_law_one := by
  refine T.F_law_one.ok sc_law_one (fun vs H Q E h => ?_) (fun cdv A outer s H vs Q E hr h => ?_)
  · obtain ⟨p, q, x, xs, k, rfl, _⟩ := h
    rfl
  · obtain ⟨p, q, x, xs, k, rfl, hp, hq, hne, hl, wx, hk, c⟩ := h
    refine ⟨_, (pss_one
 (ps_ret (pe_ix ix_list (pv 1) (pe_call (ok_law_draw T) (hr.mono (by decide)) (by rfl) T.g_law_draw T.F_law_draw.kp T.b_law_draw .nil pass0 (pa_cons (pv 0) (pa_cons (pe_callB call_len_seq (by rfl) T.z_len (by decide +kernel) (pa_cons (pv 1) pa_nil)) pa_nil))) (fun _ _ => rfl)))), ?_⟩
    have hq0 := hide_sub p H _ _ hq
    have qp : q ≠ p := fun e => by rw [e, hide_at] at hq; cases hq
    have pos : 0 < xs.length := List.length_pos_iff.mpr hne
    refine ⟨.ref q, rfl, .ref p, rfl, .ref q, rfl, q, _, rfl, .inl (.of hq0), p, _, x, k, rfl, hp, wx, by omega, by omega, size_ok (by omega) (by omega), fun d y d0 d1 wy => ?_⟩
    obtain ⟨j, rfl⟩ := Int.eq_ofNat_of_zero_le d0
    have hj : j < xs.length := by omega
    exact ⟨q, xs, _, xs[j], rfl, rfl, .of (by rw [upd_ne qp]; exact hq0), atI_nat (List.getElem?_eq_getElem hj), c j _ y (List.getElem?_eq_getElem hj) wy⟩
end
/-! ### [e for a in t for b in a], both tuples -/
section
variable {K : PySem.W.Frag} {σ : L2.St} {D : Addr} {vs vs1 : List Nat}
/-- the second for, over a tuple that stays -/
theorem inner_tup {b : Addr} {ys : List V} {g1 : TG} {tt1 : TT} {te : TE} {H4 : Hp} {Nx : Hp → Prop} (Pw : Nat → Hp → Prop) (h0 : Pw 0 H4) (hl : ∀ j H, Pw j H → SqT K H b ys)
    (hs : ∀ j y H, ys[j]? = some y → Pw j H → g1 y (wipe σ vs1) H fun σ3 H5 => wipe σ3 vs1 = wipe σ vs1 ∧ tt1 σ3 H5 fun c H6 => if c = true then te σ3 H6 fun z H7 => ∃ acc, H7 D = some (.lst acc) ∧ acc.length < sizeLine ∧ Pw (j + 1) (upd H7 D (.lst (acc ++ [z]))) else Pw (j + 1) H6)
    (hd : ∀ H, Pw ys.length H → Nx H) :
    ∃ W1 : Nat → Nat → Hp → Prop, (∃ m, W1 0 m H4) ∧ ∀ j k H, W1 j k H → ((Itt K b).stop j H ∧ Nx H) ∨ ((Itt K b).go j H ∧ ∃ Nx1 : Hp → Prop, (∀ H', Nx1 H' → ∃ k', k' < k ∧ W1 (j + 1) k' H') ∧
      ∀ x H', (Itt K b).yld j H x H' → g1 x (wipe σ vs1) H' fun σ3 H5 => wipe σ3 vs1 = wipe σ vs1 ∧ tt1 σ3 H5 fun c H6 => if c = true then te σ3 H6 fun z H7 => ∃ acc, H7 D = some (.lst acc) ∧ acc.length < sizeLine ∧ Nx1 (upd H7 D (.lst (acc ++ [z]))) else Nx1 H6) := by
  refine ⟨fun j k H => k + j = ys.length ∧ Pw j H, ⟨ys.length, rfl, h0⟩, ?_⟩
  rintro j k H ⟨hk, p⟩
  cases k with
  | zero =>
    have e : j = ys.length := by omega
    rw [e] at p ⊢
    exact .inl ⟨⟨ys, hl _ _ p, Nat.le_refl _⟩, hd H p⟩
  | succ k =>
    have lt : j < ys.length := by omega
    refine .inr ⟨⟨ys, ys[j], hl _ _ p, List.getElem?_eq_getElem lt⟩, Pw (j + 1), fun H' p' => ⟨k, Nat.lt_succ_self _, by omega, p'⟩, ?_⟩
    rintro x H' ⟨rfl, y⟩
    exact hs j x _ (y ys (hl _ _ p)) p
/-- the first for -/
theorem outer_tup {a : Addr} {xs : List V} {g g1 : TG} {tt tt1 : TT} {wi1 : TI} {te : TE} {H1 : Hp} {Qd : Hp → Prop} (Pv : Nat → Hp → Prop) (h0 : Pv 0 (upd H1 D (.lst []))) (hl : ∀ i H, Pv i H → SqT K H a xs)
    (hs : ∀ i x H, xs[i]? = some x → Pv i H → g x (wipe σ vs) H fun σ2 H2 => wipe σ2 vs = wipe σ vs ∧ tt σ2 H2 fun c H3 => if c = true then wi1 σ2 H3 fun J1 H4 => ∃ W1 : Nat → Nat → Hp → Prop, (∃ m, W1 0 m H4) ∧ ∀ j k H, W1 j k H → (J1.stop j H ∧ Pv (i + 1) H) ∨ (J1.go j H ∧ ∃ Nx1 : Hp → Prop, (∀ H', Nx1 H' → ∃ k', k' < k ∧ W1 (j + 1) k' H') ∧
      ∀ x H', J1.yld j H x H' → g1 x (wipe σ2 vs1) H' fun σ3 H5 => wipe σ3 vs1 = wipe σ2 vs1 ∧ tt1 σ3 H5 fun c H6 => if c = true then te σ3 H6 fun z H7 => ∃ acc, H7 D = some (.lst acc) ∧ acc.length < sizeLine ∧ Nx1 (upd H7 D (.lst (acc ++ [z]))) else Nx1 H6) else Pv (i + 1) H3)
    (hd : ∀ H, Pv xs.length H → Qd H) :
    ∃ W : Nat → Nat → Hp → Prop, (∃ m, W 0 m (upd H1 D (.lst []))) ∧ ∀ i m H, W i m H → ((Itt K a).stop i H ∧ Qd H) ∨ ((Itt K a).go i H ∧ ∃ Nx : Hp → Prop, (∀ H', Nx H' → ∃ m', m' < m ∧ W (i + 1) m' H') ∧
      ∀ x H', (Itt K a).yld i H x H' → g x (wipe σ vs) H' fun σ2 H2 => wipe σ2 vs = wipe σ vs ∧ tt σ2 H2 fun c H3 => if c = true then wi1 σ2 H3 fun J1 H4 => ∃ W1 : Nat → Nat → Hp → Prop, (∃ m, W1 0 m H4) ∧ ∀ j k H, W1 j k H → (J1.stop j H ∧ Nx H) ∨ (J1.go j H ∧ ∃ Nx1 : Hp → Prop, (∀ H', Nx1 H' → ∃ k', k' < k ∧ W1 (j + 1) k' H') ∧
        ∀ x H', J1.yld j H x H' → g1 x (wipe σ2 vs1) H' fun σ3 H5 => wipe σ3 vs1 = wipe σ2 vs1 ∧ tt1 σ3 H5 fun c H6 => if c = true then te σ3 H6 fun z H7 => ∃ acc, H7 D = some (.lst acc) ∧ acc.length < sizeLine ∧ Nx1 (upd H7 D (.lst (acc ++ [z]))) else Nx1 H6) else Nx H3) := by
  refine ⟨fun i k H => k + i = xs.length ∧ Pv i H, ⟨xs.length, rfl, h0⟩, ?_⟩
  rintro i k H ⟨hk, p⟩
  cases k with
  | zero =>
    have e : i = xs.length := by omega
    rw [e] at p ⊢
    exact .inl ⟨⟨xs, hl _ _ p, Nat.le_refl _⟩, hd H p⟩
  | succ k =>
    have lt : i < xs.length := by omega
    refine .inr ⟨⟨xs, xs[i], hl _ _ p, List.getElem?_eq_getElem lt⟩, Pv (i + 1), fun H' p' => ⟨k, Nat.lt_succ_self _, by omega, p'⟩, ?_⟩
    rintro x H' ⟨rfl, y⟩
    exact hs i x _ (y xs (hl _ _ p)) p
end
/-! ### data: None, truths, numbers, texts, lists and tuples of such -/
mutual
def DAt (H : Hp) : PyData → V → Prop
  | .none, v => v = .non
  | .bool b, v => v = .bl b
  | .int i, v => v = .int i
  | .str z, v => v = .str z
  | .list ds, v => ∃ p xs, v = .ref p ∧ H p = some (.lst xs) ∧ DAll H ds xs
  | .tuple ds, v => ∃ p xs, v = .ref p ∧ H p = some (.tup xs) ∧ DAll H ds xs
  | .dict _, _ => False
def DAll (H : Hp) : List PyData → List V → Prop
  | [], xs => xs = []
  | d :: ds, xs => ∃ v r, xs = v :: r ∧ DAt H d v ∧ DAll H ds r
end
mutual
theorem DAt.same {H H' : Hp} (s : Same H H') : ∀ (d : PyData) {v : V}, DAt H d v → DAt H' d v
  | .none, _, h => h
  | .bool _, _, h => h
  | .int _, _, h => h
  | .str _, _, h => h
  | .list ds, _, ⟨p, xs, e, h, g⟩ => ⟨p, xs, e, s _ _ h, DAll.same s ds g⟩
  | .tuple ds, _, ⟨p, xs, e, h, g⟩ => ⟨p, xs, e, s _ _ h, DAll.same s ds g⟩
  | .dict _, _, h => h
theorem DAll.same {H H' : Hp} (s : Same H H') : ∀ (ds : List PyData) {xs : List V}, DAll H ds xs → DAll H' ds xs
  | [], _, h => h
  | d :: ds, _, ⟨v, r, e, h, g⟩ => ⟨v, r, e, DAt.same s d h, DAll.same s ds g⟩
end
mutual
theorem DAt.dp {K : PySem.W.Frag} {H : Hp} : ∀ (d : PyData) {v : V}, DAt H d v → Dp K H v d
  | .none, _, h => by rw [show _ = V.non from h]; exact .non
  | .bool b, _, h => by rw [show _ = V.bl b from h]; exact .bl b
  | .int i, _, h => by rw [show _ = V.int i from h]; exact .int i
  | .str z, _, h => by rw [show _ = V.str z from h]; exact .str z
  | .list ds, _, ⟨p, xs, e, h, g⟩ => by rw [e]; exact .lst (.of h) (DAll.dp ds g)
  | .tuple ds, _, ⟨p, xs, e, h, g⟩ => by rw [e]; exact .tup (.of h) (DAll.dp ds g)
  | .dict _, _, h => h.elim
theorem DAll.dp {K : PySem.W.Frag} {H : Hp} : ∀ (ds : List PyData) {xs : List V}, DAll H ds xs → DpAll K H xs ds
  | [], _, h => by rw [show _ = ([] : List V) from h]; exact .nil
  | d :: ds, _, ⟨v, r, e, h, g⟩ => by rw [e]; exact .cons (DAt.dp d h) (DAll.dp ds g)
end
theorem DAll.len {H : Hp} : ∀ {l : List PyData} {xs : List V}, DAll H l xs → xs.length = l.length
  | [], _, h => by rw [show _ = [] from h]; rfl
  | k :: l, _, ⟨v, r, e, h, g⟩ => by rw [e]; exact congrArg Nat.succ (DAll.len g)
theorem DAll.get {H : Hp} : ∀ {l : List PyData} {xs : List V}, DAll H l xs → ∀ {i : Nat} {v : V}, xs[i]? = some v → ∃ k, l[i]? = some k ∧ DAt H k v
  | [], _, h, i, v, e => by
    rw [show _ = [] from h] at e
    simp at e
  | k :: l, _, ⟨v, r, e, h, g⟩, 0, u, q => by
    rw [e] at q
    cases q
    exact ⟨k, rfl, h⟩
  | k :: l, _, ⟨v, r, e, h, g⟩, i + 1, u, q => by
    rw [e] at q
    exact DAll.get g (i := i) q
theorem DAll.append {H : Hp} : ∀ {l m : List PyData} {xs ys : List V}, DAll H l xs → DAll H m ys → DAll H (l ++ m) (xs ++ ys)
  | [], _, _, _, h, g => by rw [show _ = [] from h]; exact g
  | k :: l, _, _, _, ⟨v, r, e, h, g⟩, q => by rw [e]; exact ⟨v, _, rfl, h, DAll.append g q⟩
theorem DAll.take {H : Hp} : ∀ (n : Nat) {l : List PyData} {xs : List V}, DAll H l xs → DAll H (l.take n) (xs.take n)
  | 0, _, _, _ => by rw [List.take_zero, List.take_zero]; rfl
  | n + 1, [], _, h => by rw [show _ = [] from h]; rfl
  | n + 1, k :: l, _, ⟨v, r, e, h, g⟩ => by rw [e]; exact ⟨v, _, rfl, h, DAll.take n g⟩
theorem DAll.drop {H : Hp} : ∀ (n : Nat) {l : List PyData} {xs : List V}, DAll H l xs → DAll H (l.drop n) (xs.drop n)
  | 0, _, _, h => h
  | n + 1, [], _, h => by rw [show _ = [] from h]; rfl
  | n + 1, k :: l, _, ⟨v, r, e, h, g⟩ => by rw [e]; exact DAll.drop n g
theorem DAll.strs {H : Hp} : ∀ (zs : List Str), DAll H (zs.map PyData.str) (zs.map V.str)
  | [] => rfl
  | z :: zs => ⟨.str z, _, rfl, rfl, DAll.strs zs⟩
theorem da0 {H : Hp} : DAll H [] [] := rfl
theorem da1 {H : Hp} {k : PyData} {v : V} {l : List PyData} {xs : List V} (a : DAt H k v) (b : DAll H l xs) : DAll H (k :: l) (v :: xs) := ⟨v, xs, rfl, a, b⟩
def dT : PyData → Bool
  | .tuple _ => true
  | _ => false
def dS : PyData → Bool
  | .str _ => true
  | _ => false
def dI : PyData → Bool
  | .int _ => true
  | .bool _ => true
  | _ => false
def dB : PyData → Bool
  | .bool _ => true
  | _ => false
theorem DAt.ty {K : PySem.W.Frag} {H : Hp} : ∀ {d : PyData} {v : V}, DAt H d v → ∃ t, TyX K H v t ∧ PySem.W.kitOne K t (.type "tuple") = some (dT d) ∧ PySem.W.kitOne K t (.type "str") = some (dS d) ∧ PySem.W.kitOne K t (.type "int") = some (dI d) ∧ PySem.W.kitOne K t (.type "bool") = some (dB d)
  | .none, _, h => by
    rw [show _ = V.non from h]
    exact ⟨_, .base .non, kit_ty (show kitB "NoneType" "tuple" = some false by decide +kernel), kit_ty (show kitB "NoneType" "str" = some false by decide +kernel), kit_ty (show kitB "NoneType" "int" = some false by decide +kernel), kit_ty (show kitB "NoneType" "bool" = some false by decide +kernel)⟩
  | .bool b, _, h => by
    rw [show _ = V.bl b from h]
    exact ⟨_, .base (.bl b), kit_ty (show kitB "bool" "tuple" = some false by decide +kernel), kit_ty (show kitB "bool" "str" = some false by decide +kernel), kit_ty (show kitB "bool" "int" = some true by decide +kernel), kit_ty (show kitB "bool" "bool" = some true by decide +kernel)⟩
  | .int i, _, h => by
    rw [show _ = V.int i from h]
    exact ⟨_, .base (.int i), kit_ty (show kitB "int" "tuple" = some false by decide +kernel), kit_ty (show kitB "int" "str" = some false by decide +kernel), kit_ty (show kitB "int" "int" = some true by decide +kernel), kit_ty (show kitB "int" "bool" = some false by decide +kernel)⟩
  | .str z, _, h => by
    rw [show _ = V.str z from h]
    exact ⟨_, .base (.str z), kit_ty (show kitB "str" "tuple" = some false by decide +kernel), kit_ty (show kitB "str" "str" = some true by decide +kernel), kit_ty (show kitB "str" "int" = some false by decide +kernel), kit_ty (show kitB "str" "bool" = some false by decide +kernel)⟩
  | .list ds, _, ⟨p, xs, e, h, g⟩ => by
    rw [e]
    exact ⟨_, .base (.lst h), kit_ty (show kitB "list" "tuple" = some false by decide +kernel), kit_ty (show kitB "list" "str" = some false by decide +kernel), kit_ty (show kitB "list" "int" = some false by decide +kernel), kit_ty (show kitB "list" "bool" = some false by decide +kernel)⟩
  | .tuple ds, _, ⟨p, xs, e, h, g⟩ => by
    rw [e]
    exact ⟨_, .base (.tup h), kit_ty (show kitB "tuple" "tuple" = some true by decide +kernel), kit_ty (show kitB "tuple" "str" = some false by decide +kernel), kit_ty (show kitB "tuple" "int" = some false by decide +kernel), kit_ty (show kitB "tuple" "bool" = some false by decide +kernel)⟩
  | .dict _, _, h => h.elim
/-- data that can be laid, of some depth and weight, told in short texts -/
structure Ok (n m : Nat) (d : PyData) : Prop where
  lay : d.canLay0 = true
  dep : d.depth ≤ n
  sho : d.showable = true
  lea : d.leavesShort 40 = true
  wei : d.weight ≤ m
structure OkA (n m : Nat) (ds : List PyData) : Prop where
  lay : PyData.canLayAll0 ds = true
  dep : PyData.depthAll ds ≤ n
  sho : PyData.showableAll ds = true
  lea : PyData.leavesShortAll 40 ds = true
  wei : PyData.weightAll ds ≤ m
theorem OkA.nil {n m : Nat} : OkA n m [] := ⟨rfl, Nat.zero_le _, rfl, rfl, Nat.zero_le _⟩
theorem Ok.mono {n m n' m' : Nat} {d : PyData} (h : Ok n m d) (a : n ≤ n') (b : m ≤ m') : Ok n' m' d := ⟨h.lay, Nat.le_trans h.dep a, h.sho, h.lea, Nat.le_trans h.wei b⟩
theorem OkA.mono {n m n' m' : Nat} {d : List PyData} (h : OkA n m d) (a : n ≤ n') (b : m ≤ m') : OkA n' m' d := ⟨h.lay, Nat.le_trans h.dep a, h.sho, h.lea, Nat.le_trans h.wei b⟩
theorem OkA.cons {n m k : Nat} {d : PyData} {ds : List PyData} (a : Ok n m d) (b : OkA n k ds) : OkA n (m + 1 + k) (d :: ds) := by
  refine ⟨?_, ?_, ?_, ?_, ?_⟩
  · rw [PyData.canLayAll0, a.lay, b.lay] <;> rfl
  · rw [PyData.depthAll]
    exact Nat.max_le.mpr ⟨a.dep, b.dep⟩
  · rw [PyData.showableAll, a.sho, b.sho] <;> rfl
  · rw [PyData.leavesShortAll, a.lea, b.lea] <;> rfl
  · rw [PyData.weightAll]
    have := a.wei
    have := b.wei
    omega
theorem OkA.head {n m : Nat} {d : PyData} {ds : List PyData} (h : OkA n m (d :: ds)) : Ok n m d := by
  have h1 := h.lay
  have h2 := h.dep
  have h3 := h.sho
  have h4 := h.lea
  have h5 := h.wei
  rw [PyData.canLayAll0, Bool.and_eq_true] at h1
  rw [PyData.depthAll] at h2
  rw [PyData.showableAll, Bool.and_eq_true] at h3
  rw [PyData.leavesShortAll, Bool.and_eq_true] at h4
  rw [PyData.weightAll] at h5
  exact ⟨h1.1, (Nat.max_le.mp h2).1, h3.1, h4.1, by omega⟩
theorem OkA.tail {n m : Nat} {d : PyData} {ds : List PyData} (h : OkA n m (d :: ds)) : OkA n m ds := by
  have h1 := h.lay
  have h2 := h.dep
  have h3 := h.sho
  have h4 := h.lea
  have h5 := h.wei
  rw [PyData.canLayAll0, Bool.and_eq_true] at h1
  rw [PyData.depthAll] at h2
  rw [PyData.showableAll, Bool.and_eq_true] at h3
  rw [PyData.leavesShortAll, Bool.and_eq_true] at h4
  rw [PyData.weightAll] at h5
  exact ⟨h1.2, (Nat.max_le.mp h2).2, h3.2, h4.2, by omega⟩
theorem OkA.get {n m : Nat} : ∀ {ds : List PyData}, OkA n m ds → ∀ d ∈ ds, Ok n m d
  | [], _, _, h => by cases h
  | a :: ds, h, d, hd => by
    rcases List.mem_cons.mp hd with e | hd
    · rw [e]
      exact h.head
    · exact h.tail.get d hd
theorem OkA.append {n m k : Nat} : ∀ {a b : List PyData}, OkA n m a → OkA n k b → OkA n (m + k) (a ++ b)
  | [], b, h, g => g.mono (Nat.le_refl _) (by omega)
  | d :: a, b, h, g => by
    have e := h.wei
    rw [PyData.weightAll] at e
    have hd : Ok n d.weight d := ⟨h.head.lay, h.head.dep, h.head.sho, h.head.lea, Nat.le_refl _⟩
    have ha : OkA n (PyData.weightAll a) a := ⟨h.tail.lay, h.tail.dep, h.tail.sho, h.tail.lea, Nat.le_refl _⟩
    exact (OkA.cons hd (OkA.append ha g)).mono (Nat.le_refl _) (by omega)
theorem OkA.take {n m : Nat} : ∀ (k : Nat) {a : List PyData}, OkA n m a → OkA n m (a.take k)
  | 0, _, _ => OkA.nil
  | _ + 1, [], _ => OkA.nil
  | k + 1, d :: a, h => by
    have e := h.wei
    rw [PyData.weightAll] at e
    have hd : Ok n d.weight d := ⟨h.head.lay, h.head.dep, h.head.sho, h.head.lea, Nat.le_refl _⟩
    have ha : OkA n (PyData.weightAll a) a := ⟨h.tail.lay, h.tail.dep, h.tail.sho, h.tail.lea, Nat.le_refl _⟩
    exact (OkA.cons hd (ha.take k)).mono (Nat.le_refl _) (by omega)
theorem OkA.drop {n m : Nat} : ∀ (k : Nat) {a : List PyData}, OkA n m a → OkA n m (a.drop k)
  | 0, _, h => h
  | _ + 1, [], _ => OkA.nil
  | k + 1, _ :: _, h => h.tail.drop k
theorem OkA.tuple {n m : Nat} {ds : List PyData} (h : OkA n m ds) : Ok (n + 1) m (.tuple ds) := by
  refine ⟨?_, ?_, ?_, ?_, ?_⟩
  · rw [PyData.canLay0]; exact h.lay
  · have := h.dep
    rw [PyData.depth]
    omega
  · rw [PyData.showable]; exact h.sho
  · rw [PyData.leavesShort]; exact h.lea
  · rw [PyData.weight]; exact h.wei
theorem OkA.list {n m : Nat} {ds : List PyData} (h : OkA n m ds) : Ok (n + 1) m (.list ds) := by
  refine ⟨?_, ?_, ?_, ?_, ?_⟩
  · rw [PyData.canLay0]; exact h.lay
  · have := h.dep
    rw [PyData.depth]
    omega
  · rw [PyData.showable]; exact h.sho
  · rw [PyData.leavesShort]; exact h.lea
  · rw [PyData.weight]; exact h.wei
theorem Ok.shaped {n m : Nat} {d : PyData} (h : Ok n m d) (hn : n ≤ 64) : SeqAt.shaped d = true := by
  unfold SeqAt.shaped
  rw [h.lay, Bool.true_and]
  exact decide_eq_true (Nat.le_trans h.dep hn)
theorem Ok.fits {n m : Nat} {d : PyData} (h : Ok n m d) (hm : m ≤ 100000) : d.shown.length ≤ sizeLine := by
  have := PyData.shown_le 40 (by decide) d h.lea
  have := h.wei
  show _ ≤ 16777216
  omega
theorem ok_none {n m : Nat} : Ok n m .none := ⟨rfl, Nat.zero_le _, rfl, rfl, Nat.zero_le _⟩
theorem ok_bool {n m : Nat} (b : Bool) : Ok n m (.bool b) := ⟨rfl, Nat.zero_le _, rfl, rfl, Nat.zero_le _⟩
theorem ok_str {n m : Nat} {z : Str} (h : PyData.strOk z = true) (g : z.length ≤ m) : Ok n m (.str z) := by
  refine ⟨by rw [PyData.canLay0]; exact h, Nat.zero_le _, by rw [PyData.showable], ?_, by rw [PyData.weight]; exact g⟩
  rw [PyData.leavesShort, List.all_eq_true]
  intro c hc
  unfold PyData.strOk at h
  rw [← Array.all_toList, List.all_eq_true] at h
  have := of_decide_eq_true (h c hc)
  exact decide_eq_true (Nat.lt_trans this (by decide))
theorem But.mut {p q : Addr} {H H' : Hp} {o : HO} (e : But p H H') (n : H q = none) : But p H (L2.upd H' q o) := fun b u hb h => by
  have hq : b ≠ q := fun z => by rw [z, n] at h; cases h
  rw [upd_ne hq]
  exact e b u hb h
theorem But.free {p q : Addr} {H H' : Hp} {o : HO} (e : But p H H') (hp : H' p = some o) (n : H' q = none) : H q = none := by
  have hq : q ≠ p := fun z => by rw [z, hp] at n; cases n
  cases h : H q with
  | none => rfl
  | some u => rw [e q u hq h] at n; cases n
theorem pick_perm {α : Type} : ∀ (l : List α) (n : Nat) (h : n < l.length), (l[n] :: l.eraseIdx n).Perm l
  | [], _, h => absurd h (Nat.not_lt_zero _)
  | a :: l, 0, _ => List.Perm.refl _
  | a :: l, n + 1, h => (List.Perm.swap a (l[n]'(Nat.lt_of_succ_lt_succ h)) (l.eraseIdx n)).trans ((pick_perm l n (Nat.lt_of_succ_lt_succ h)).cons a)
abbrev abc : Str := "abcdefghijklmnopqrstuvwxyz"
theorem abc_len : abc.length = 26 := by decide +kernel
theorem abc_all : ∀ j : Fin 26, abc.cps.toList[j.val]? = some (97 + j.val) := by decide +kernel
theorem abc_at {d : Int} (h0 : 0 ≤ d) (h1 : d < 26) : atI abc.cps.toList d = some (97 + d.toNat) := by
  obtain ⟨j, rfl⟩ := Int.eq_ofNat_of_zero_le h0
  exact atI_nat (abc_all ⟨j, by omega⟩)
def Small (z : Str) : Prop := ∀ c ∈ z.cps.toList, 97 ≤ c ∧ c ≤ 122
def NameOk (z : Str) : Prop := 1 ≤ z.length ∧ z.length ≤ 8 ∧ Small z
def lastc (z : Str) : Nat := z.cps.toList.getLastD 0
theorem cps_more (z : Str) (c : Nat) : (z ++ ⟨#[c]⟩ : Str).cps.toList = z.cps.toList ++ [c] := by
  rw [Str.cps_append, Array.toList_append]
theorem len_more (z : Str) (c : Nat) : (z ++ ⟨#[c]⟩ : Str).length = z.length + 1 := by
  rw [Str.length_append]
  rfl
theorem small_more {z : Str} {d : Int} (h : Small z) (h0 : 0 ≤ d) (h1 : d < 26) : Small (z ++ ⟨#[97 + d.toNat]⟩) := fun c hc => by
  rw [cps_more] at hc
  rcases List.mem_append.mp hc with hc | hc
  · exact h c hc
  · rw [List.mem_singleton.mp hc]
    omega
theorem last_more (z : Str) (c : Nat) : lastc (z ++ ⟨#[c]⟩) = c := by
  unfold lastc
  rw [cps_more, List.getLastD_concat]
theorem steps_nodup (a : Int) {n : Nat} (hn : n ≤ 6) : ((List.range n).map fun j : Nat => 97 + ((a + 3 * (j : Int)) % 26).toNat).Nodup := by
  refine List.pairwise_map.mpr (List.Pairwise.imp_of_mem (fun {i j} hi hj h => ?_) (List.pairwise_lt_range (n := n)))
  have h1 := List.mem_range.mp hi
  have h2 := List.mem_range.mp hj
  intro e
  omega
def tyD (t : List Str) : PyData := .tuple (t.map PyData.str)
theorem lay_strs : ∀ t : List Str, (∀ z ∈ t, PyData.strOk z = true) → PyData.canLayAll0 (t.map PyData.str) = true ∧ PyData.depthAll (t.map PyData.str) ≤ 0
  | [], _ => ⟨rfl, by decide⟩
  | a :: l, h => by
    obtain ⟨h1, h2⟩ := lay_strs l fun z hz => h z (List.mem_cons_of_mem _ hz)
    constructor
    · rw [List.map_cons, PyData.canLayAll0, h1]
      simp [PyData.canLay0, h a List.mem_cons_self]
    · rw [List.map_cons, PyData.depthAll]
      have : PyData.depth (.str a) = 0 := rfl
      omega
theorem lay_tiers : ∀ ts : List (List Str), (∀ t ∈ ts, ∀ z ∈ t, PyData.strOk z = true) → PyData.canLayAll0 (ts.map tyD) = true ∧ PyData.depthAll (ts.map tyD) ≤ 1
  | [], _ => ⟨rfl, by decide⟩
  | a :: l, h => by
    obtain ⟨h1, h2⟩ := lay_tiers l fun t ht => h t (List.mem_cons_of_mem _ ht)
    obtain ⟨g1, g2⟩ := lay_strs a (h a List.mem_cons_self)
    constructor
    · rw [List.map_cons, PyData.canLayAll0, h1]
      simp [tyD, PyData.canLay0, g1]
    · rw [List.map_cons, PyData.depthAll]
      have : PyData.depth (tyD a) ≤ 1 := by
        show PyData.depth (.tuple (a.map PyData.str)) ≤ 1
        rw [PyData.depth]
        omega
      omega
theorem shaped_tiers {ts : List (List Str)} (h : ∀ t ∈ ts, ∀ z ∈ t, PyData.strOk z = true) : SeqAt.shaped (.list (ts.map tyD)) = true := by
  obtain ⟨h1, h2⟩ := lay_tiers ts h
  unfold SeqAt.shaped
  rw [PyData.canLay0, h1, PyData.depth]
  simp only [Bool.true_and, decide_eq_true_eq]
  omega
theorem dp_strs {K : PySem.W.Frag} {H : Hp} : ∀ t : List Str, DpAll K H (t.map V.str) (t.map PyData.str)
  | [] => .nil
  | a :: l => .cons (.str a) (dp_strs l)
def Tiers (H : Hp) (bs : List (Addr × List Str)) : Prop := ∀ b ∈ bs, H b.1 = some (.tup (b.2.map V.str)) ∧ b.2 ≠ []
theorem dp_tiers {K : PySem.W.Frag} {H : Hp} : ∀ bs : List (Addr × List Str), Tiers H bs → DpAll K H (bs.map fun b => V.ref b.1) ((bs.map (·.2)).map tyD)
  | [], _ => .nil
  | b :: l, h => .cons (.tup (.of (h b List.mem_cons_self).1) (dp_strs b.2)) (dp_tiers l fun c hc => h c (List.mem_cons_of_mem _ hc))
theorem small_ok {z : Str} (h : Small z) : PyData.strOk z = true := by
  unfold PyData.strOk
  rw [← Array.all_toList, List.all_eq_true]
  exact fun c hc => decide_eq_true (by have := (h c hc).2; omega)
theorem cut_strs (ws : List Str) (lo hi : Option Int) : ∃ ms : List Str, cutV (ws.map V.str) lo hi = ms.map V.str ∧ ms.Sublist ws := by
  refine ⟨(ws.drop (HT.sIx (ws.map V.str).length 0 lo)).take (HT.sIx (ws.map V.str).length (ws.map V.str).length hi - HT.sIx (ws.map V.str).length 0 lo), ?_, (List.take_sublist _ _).trans (List.drop_sublist _ _)⟩
  unfold cutV
  rw [← List.map_drop, ← List.map_take]
theorem perm_strs {ys : List V} {zs : List Str} (h : ys.Perm (zs.map V.str)) : ∃ ws : List Str, ys = ws.map V.str ∧ ws.Perm zs := by
  let g : V → Str := fun v => match v with | .str s => s | _ => Str.empty
  have e : ∀ l : List Str, (l.map V.str).map g = l := fun l => by
    rw [List.map_map]
    exact List.map_id l
  refine ⟨ys.map g, ?_, by have := h.map g; rw [e] at this; exact this⟩
  rw [List.map_map]
  refine (List.map_id ys).symm.trans (List.map_congr_left fun v hv => ?_)
  obtain ⟨z, _, rfl⟩ := List.mem_map.mp (h.mem_iff.mp hv)
  rfl
theorem ix_last (n : Nat) : ixN (n + 1) (-1) = some n := by
  unfold ixN
  rw [if_neg (by decide)]
  simp
  omega
theorem set_last {α : Type} : ∀ (l : List α) (a b : α), (l ++ [a]).set l.length b = l ++ [b]
  | [], _, _ => rfl
  | c :: l, a, b => congrArg (c :: ·) (set_last l a b)
theorem at_last {α : Type} (l : List α) (a : α) : atI (l ++ [a]) (-1) = some a := by
  unfold atI
  rw [List.length_append, List.length_singleton, ix_last]
  show (l ++ [a])[l.length]? = some a
  rw [List.getElem?_append_right (Nat.le_refl _), Nat.sub_self]
  rfl
/-- a ballot, as the document tells them -/
inductive Bal where
  | order (ts : List (List Str))
  | lets (ns : List Str)
  | marks (ms : List (Str × Int))
def Bal.Ok (zs : List Str) : Bal → Prop
  | .order ts => ts.flatten.Nodup ∧ (∀ z ∈ ts.flatten, z ∈ zs) ∧ ∀ t ∈ ts, t ≠ []
  | .lets ns => ns.Nodup ∧ ∀ z ∈ ns, z ∈ zs
  | .marks ms => (ms.map (·.1)).Nodup ∧ (∀ m ∈ ms, m.1 ∈ zs) ∧ ∀ m ∈ ms, 0 ≤ m.2 ∧ m.2 ≤ 9
def BalAt (H : Hp) (t : Addr) : Bal → Prop
  | .order ts => ∃ (u : Addr) (bs : List (Addr × List Str)), H t = some (.tup [.str "order", .ref u]) ∧ H u = some (.tup (bs.map fun b => V.ref b.1)) ∧ Tiers H bs ∧ bs.map (·.2) = ts
  | .lets ns => ∃ u : Addr, H t = some (.tup [.str "lets", .ref u]) ∧ H u = some (.tup (ns.map V.str))
  | .marks ms => ∃ (u : Addr) (bs : List (Addr × (Str × Int))), H t = some (.tup [.str "marks", .ref u]) ∧ H u = some (.tup (bs.map fun b => V.ref b.1)) ∧ (∀ b ∈ bs, H b.1 = some (.tup [.str b.2.1, .int b.2.2])) ∧ bs.map (·.2) = ms
theorem BalAt.keep {H H' : Hp} {t : Addr} : ∀ {b : Bal}, (∀ a xs, H a = some (.tup xs) → H' a = some (.tup xs)) → BalAt H t b → BalAt H' t b
  | .order _, k, ⟨u, bs, h1, h2, h3, h4⟩ => ⟨u, bs, k _ _ h1, k _ _ h2, fun b hb => ⟨k _ _ (h3 b hb).1, (h3 b hb).2⟩, h4⟩
  | .lets _, k, ⟨u, h1, h2⟩ => ⟨u, k _ _ h1, k _ _ h2⟩
  | .marks _, k, ⟨u, bs, h1, h2, h3, h4⟩ => ⟨u, bs, k _ _ h1, k _ _ h2, fun b hb => k _ _ (h3 b hb), h4⟩
theorem But.tups {p : Addr} {H H' : Hp} {x : List V} (b : But p H H') (hp : H p = some (.lst x)) : ∀ a xs, H a = some (.tup xs) → H' a = some (.tup xs) := fun a xs h => b a _ (fun e => by rw [e, hp] at h; cases h) h
/-- tuples stay -/
def TK (H H' : Hp) : Prop := ∀ a xs, H a = some (.tup xs) → H' a = some (.tup xs)
theorem TK.trans {H H1 H2 : Hp} (a : TK H H1) (b : TK H1 H2) : TK H H2 := fun c xs h => b c xs (a c xs h)
theorem TK.new {H : Hp} {q : Addr} {o : HO} (n : H q = none) : TK H (upd H q o) := fun c xs h => (upd_ne (ne_of_none h n)).trans h
theorem TK.lst {H : Hp} {q : Addr} {x : List V} {o : HO} (n : H q = some (.lst x)) : TK H (upd H q o) := fun c xs h => (upd_ne (fun e => by rw [e, n] at h; cases h)).trans h
def RowsAt (H : Hp) (u : Addr) (rows : List (Bal × Int)) : Prop := ∃ as : List (Addr × Addr × (Bal × Int)), H u = some (.tup (as.map fun a => V.ref a.1)) ∧ (∀ a ∈ as, H a.1 = some (.tup [.ref a.2.1, .int a.2.2.2]) ∧ BalAt H a.2.1 a.2.2.1) ∧ as.map (·.2.2) = rows
theorem RowsAt.keep {H H' : Hp} {u : Addr} {rows : List (Bal × Int)} (k : TK H H') (h : RowsAt H u rows) : RowsAt H' u rows := by
  obtain ⟨as, h1, h2, h3⟩ := h
  exact ⟨as, k _ _ h1, fun a ha => ⟨k _ _ (h2 a ha).1, (h2 a ha).2.keep k⟩, h3⟩
def RowsOk (zs : List Str) (n : Nat) (rows : List (Bal × Int)) : Prop := rows.length ≤ n ∧ ∀ r ∈ rows, r.1.Ok zs ∧ 1 ≤ r.2 ∧ r.2 ≤ 1000000
theorem two_of (a b : V) (c : Bool) : atI [a, b] (if c = true then 1 else 0) = some (if c = true then b else a) := by
  cases c with
  | true => exact atI_nat (j := 1) rfl
  | false => exact atI_nat (j := 0) rfl
theorem mill : (10 : Int) ^ (6 : Int).toNat = 1000000 := by decide +kernel
section
variable {P : Program} {w : World} {K : PySem.W.Frag} {mg : Str → Option Value} {base : Heap}
/-! ### drawn names -/
def sp_law_options : Sp := fun vs H Q _ => ∃ (p : Addr) (n : Int) (x : List V) (k : Nat), vs = [.ref p, .int n] ∧ H p = some (.lst x) ∧ WellL x k ∧ k ≤ 900000 ∧ 0 ≤ n ∧ n ≤ 6 ∧
  ∀ (t : Addr) (zs : List Str) (y : List V) (H' : Hp), zs.length = n.toNat → zs.Nodup → (∀ z ∈ zs, NameOk z) → But p H H' → H t = none → H' t = some (.tup (zs.map V.str)) → H' p = some (.lst y) → WellL y (k + 60) → Q (.ref t) H'
theorem ok_law_options (T : Txt K mg) : FnOk P w K mg base CX0 2 T.f_law_options T.fd_law_options ["_law_well_here", "_law_size"] sp_law_options := by
  refine T.F_law_options.ok sc_law_options (fun vs H Q E h => ?_) (fun cdv A outer s H vs Q E hr h => ?_)
  · obtain ⟨p, n, x, k, rfl, _⟩ := h
    rfl
  · obtain ⟨p, n, x, k, rfl, hp, hx, hk, n0, n6, q⟩ := h
    refine ⟨_, (pss_cons
 (ps_set (i := 2) sc_law_options.nd rfl (Or.inl rfl) pe_str)
 (pss_cons
 (ps_set (i := 3) sc_law_options.nd rfl (Or.inl rfl) (pe_call (ok_law_draw T) (hr.mono (by decide)) (by rfl) T.g_law_draw T.F_law_draw.kp T.b_law_draw .nil pass0 (pa_cons (pv 0) (pa_cons pe_int pa_nil))))
 (pss_cons
 (ps_set (i := 4) sc_law_options.nd rfl (Or.inl rfl) (pe_lst pa_nil))
 (pss_cons
 (ps_for PassesOwn.never rfl (pi_range1 rfl T.z_range (pa_cons (pv 1) pa_nil)) (pg_name (i := 5) sc_law_options.nd rfl (Or.inl rfl))
 (pss_cons
 (ps_set (i := 6) sc_law_options.nd rfl (Or.inl rfl) pe_str)
 (pss_cons
 (ps_for PassesOwn.never rfl (pi_range1 rfl T.z_range (pa_cons (pe_call (ok_law_draw T) (hr.mono (by decide)) (by rfl) T.g_law_draw T.F_law_draw.kp T.b_law_draw .nil pass0 (pa_cons (pv 0) (pa_cons pe_int pa_nil))) pa_nil)) (pg_name (i := 7) sc_law_options.nd rfl (Or.inl rfl))
 (pss_one
 (ps_set (i := 6) sc_law_options.nd rfl (Or.inl rfl) (pe_op op_add_str (pv 6) (pe_ix ix_str (pv 2) (pe_call (ok_law_draw T) (hr.mono (by decide)) (by rfl) T.g_law_draw T.F_law_draw.kp T.b_law_draw .nil pass0 (pa_cons (pv 0) (pa_cons pe_int pa_nil))) (fun _ _ => rfl))))))
 (pss_one
 (ps_expr (pe_bm PySem.F.plainAttrs_list PySem.F.slot_list_append PySem.F.type_list_append mt_append (pv 4) (pa_cons (pe_op op_add_str (pv 6) (pe_ix ix_str (pv 2) (pe_op op_mod (pe_op op_add (pv 3) (pe_op op_mulW pe_int (pv 5))) pe_int) (fun _ _ => rfl))) pa_nil)))))))
 (pss_one
 (ps_ret (pe_callTy call_tuple_of (by rfl) T.z_tuple (by decide +kernel) (pa_cons (pv 4) pa_nil)))))))), ?_⟩
    have lenL : abc.length ≤ sizeLine := line_of (by rw [abc_len]; decide)
    refine ⟨.ref p, rfl, p, 26, x, k, rfl, hp, hx, by omega, by decide, size_ok (by decide) (by decide), fun a x1 a0 a1 w1 => ?_⟩
    refine ⟨line_of (show 0 ≤ 1000 by decide), fun l nl => ?_⟩
    have hpl : p ≠ l := fun e => by rw [← e, upd_same] at nl; cases nl
    have nlH : H l = none := by rw [upd_ne hpl.symm] at nl; exact nl
    refine ⟨.int n, rfl, n, rfl, by omega, by omega, for_range (fun i σ H' => ∃ (x5 x6 x7 : Option V) (zs : List Str) (y : List V), σ = [some (.ref p), some (.int n), some (.str abc), some (.int a), some (.ref l), x5, x6, x7] ∧ H' l = some (.lst (zs.map V.str)) ∧
        zs.map lastc = ((List.range i).map fun j : Nat => 97 + ((a + 3 * (j : Int)) % 26).toNat) ∧ (∀ z ∈ zs, NameOk z) ∧ But p H H' ∧ H' p = some (.lst y) ∧ WellL y (k + 1 + 9 * i))
      ⟨none, none, none, [], x1, rfl, upd_same, rfl, fun _ h => (by cases h), ((But.refl p H).upd _).mut nlH, by rw [upd_ne hpl, upd_same], w1⟩ ?_ ?_⟩
    · rintro i σ H1 hi ⟨x5, x6, x7, zs, y, rfl, hl, hm, hz, hb, hp1, hw⟩
      have lz : zs.length = i := by
        have := congrArg List.length hm
        rw [List.length_map, List.length_map, List.length_range] at this
        exact this
      have hi6 : i < 6 := by omega
      refine ⟨.ref p, rfl, p, 8, y, _, rfl, hp1, hw, by omega, by decide, size_ok (by decide) (by decide), fun d y2 d0 d1 hw2 => ?_⟩
      refine ⟨d, rfl, by omega, by omega, for_range (fun j σ H' => ∃ (x7 : Option V) (wd : Str) (y : List V), σ = [some (.ref p), some (.int n), some (.str abc), some (.int a), some (.ref l), some (.int (0 + (i : Nat))), some (.str wd), x7] ∧ wd.length = j ∧ Small wd ∧
          H' l = some (.lst (zs.map V.str)) ∧ But p H H' ∧ H' p = some (.lst y) ∧ WellL y (k + 2 + 9 * i + j))
        ⟨x7, Str.empty, y2, rfl, rfl, fun c h => (by cases h), by rw [upd_ne hpl.symm]; exact hl, hb.upd _, upd_same, hw2.mono (by omega)⟩ ?_ ?_⟩
      · rintro j σ H2 hj ⟨x7, wd, y3, rfl, lw, sw, hl2, hb2, hp2, hw3⟩
        refine ⟨.str wd, rfl, .str abc, rfl, .ref p, rfl, p, 26, y3, _, rfl, hp2, hw3, by omega, by decide, size_ok (by decide) (by decide), fun c y4 c0 c1 hw4 => ?_⟩
        refine ⟨abc, c, _, rfl, rfl, lenL, abc_at c0 c1, wd, _, rfl, rfl, line_of (show wd.length + 1 ≤ 1000 by omega), ?_⟩
        refine ⟨_, _, y4, rfl, (len_more _ _).trans (by omega), small_more sw c0 c1, by rw [upd_ne hpl.symm]; exact hl2, hb2.upd _, upd_same, hw4.mono (by omega)⟩
      · rintro σ H2 ⟨x7, wd, y3, rfl, lw, sw, hl2, hb2, hp2, hw3⟩
        have m0 : 0 ≤ (a + 3 * (0 + (i : Int))) % 26 ∧ (a + 3 * (0 + (i : Int))) % 26 < 26 := mix_mod _ _ (by decide)
        refine ⟨.ref l, rfl, .inl ⟨rfl, _, .of hl2⟩, .str wd, rfl, .str abc, rfl, .int a, rfl, .int (0 + (i : Int)), rfl, _, _, rfl, rfl, mulOk (n := 2) (m := 3) (by decide) (by omega) (by decide), _, _, rfl, rfl, _, _, rfl, rfl, (by show (0 : Int) < 26; decide), ?_⟩
        refine ⟨abc, _, _, rfl, rfl, lenL, abc_at m0.1 m0.2, wd, _, rfl, rfl, line_of (show wd.length + 1 ≤ 1000 by omega), ?_⟩
        refine ⟨l, _, _, rfl, rfl, hl2, small1000 (by rw [List.length_map]; omega), ?_⟩
        refine ⟨_, _, _, zs ++ [wd ++ ⟨#[97 + ((a + 3 * (0 + (i : Int))) % 26).toNat]⟩], y3, rfl, ?_, ?_, ?_, hb2.mut nlH, by rw [upd_ne hpl]; exact hp2, hw3.mono (by omega)⟩
        · rw [upd_same, List.map_append]
          rfl
        · rw [List.map_append, hm, List.range_succ, List.map_append]
          refine congrArg _ ?_
          show [lastc _] = [_]
          rw [last_more, Int.zero_add]
        · intro z hz'
          rcases List.mem_append.mp hz' with h | h
          · exact hz z h
          · rw [List.mem_singleton.mp h]
            exact ⟨by rw [len_more]; omega, by rw [len_more]; omega, small_more sw m0.1 m0.2⟩
    · rintro σ H1 ⟨x5, x6, x7, zs, y, rfl, hl, hm, hz, hb, hp1, hw⟩
      refine ⟨.ref l, rfl, l, _, rfl, .inl ⟨.of hl, fun t nt => ?_⟩⟩
      have hpt : p ≠ t := fun e => by rw [← e, hp1] at nt; cases nt
      have lz : zs.length = n.toNat := by
        have := congrArg List.length hm
        rw [List.length_map, List.length_map, List.length_range] at this
        exact this
      refine q t zs y _ lz ?_ hz (hb.mut (hb.free hp1 nt)) (hb.free hp1 nt) upd_same (by rw [upd_ne hpt]; exact hp1) (hw.mono (by omega))
      have nd := steps_nodup a (n := n.toNat) (by omega)
      rw [← hm] at nd
      exact (List.pairwise_map.mp nd).imp fun h e => h (congrArg lastc e)
end
section
variable {P : Program} {w : World} {K : PySem.W.Frag} {mg : Str → Option Value} {base : Heap}
/-! ### any order -/
def sp_law_shuffled (K : PySem.W.Frag) : Sp := fun vs H Q _ => ∃ (p t : Addr) (xs x : List V) (k : Nat), vs = [.ref p, .ref t] ∧ H p = some (.lst x) ∧ SqT K H t xs ∧ xs.length ≤ 6 ∧ WellL x k ∧ k ≤ 900000 ∧
  ∀ (l : Addr) (ys y : List V) (H' : Hp), ys.Perm xs → But p H H' → H l = none → H' l = some (.lst ys) → H' p = some (.lst y) → WellL y (k + 6) → Q (.ref l) H'
theorem ok_law_shuffled (T : Txt K mg) : FnOk P w K mg base CX0 2 T.f_law_shuffled T.fd_law_shuffled ["_law_well_here", "_law_some"] (sp_law_shuffled K) := by
  refine T.F_law_shuffled.ok sc_law_shuffled (fun vs H Q E h => ?_) (fun cdv A outer s H vs Q E hr h => ?_)
  · obtain ⟨p, t, xs, x, k, rfl, _⟩ := h
    rfl
  · obtain ⟨p, t, xs, x, k, rfl, hp, ht, hn, hx, hk, q⟩ := h
    refine ⟨_, (pss_cons
 (ps_set (i := 2) sc_law_shuffled.nd rfl (Or.inr rfl) (pe_callTy call_list_of (by rfl) T.z_list (by decide +kernel) (pa_cons (pv 1) pa_nil)))
 (pss_one
 (ps_ret (pe_lc (own := [("_law_k", 3)]) (g := gName 3) (tt := tYes) rfl sc_law_shuffled.nd (pi_range1 rfl T.z_range (pa_cons (pe_callB call_len_seq (by rfl) T.z_len (by decide +kernel) (pa_cons (pv 2) pa_nil)) pa_nil)) (blkOk_by (own := [("_law_k", 3)]) (N := ["_law_well_here", "_law_some", "_law_left", "_law_k"]) (sc := defScope s_law_shuffled) (by decide +kernel)) (fun _ _ _ _ _ => pg_name (i := 3) sc_law_shuffled.nd rfl (Or.inl rfl)) (fun _ _ _ _ _ => pts_nil) (fun s0 H0 C0 cl0 fp0 => (by have h := ((pe_bm PySem.F.plainAttrs_list PySem.F.slot_list_pop PySem.F.type_list_pop mt_popAt (pv 2) (pa_cons (pe_call (ok_law_draw T) (hr.mono (by decide)) (by rfl) T.g_law_draw T.F_law_draw.kp T.b_law_draw .nil pass0 (pa_cons (pv 0) (pa_cons (pe_callB call_len_seq (by rfl) T.z_len (by decide +kernel) (pa_cons (pv 2) pa_nil)) pa_nil))) pa_nil)) : PE ((cxOf CX0 P w K mg base ["_law_well_here", "_law_some", "_law_left", "_law_k"] "_law_shuffled" (defScope s_law_shuffled) T.f_law_shuffled cdv A outer s H E).nox.blk s0 H0 (lcScope (rootE ((defBody s_law_shuffled).getD 1 (.Pass ⟨0, 0, 0, 0⟩)))) (compEnvC (lcScope (rootE ((defBody s_law_shuffled).getD 1 (.Pass ⟨0, 0, 0, 0⟩)))) cl0 C0 (cxOf CX0 P w K mg base ["_law_well_here", "_law_some", "_law_left", "_law_k"] "_law_shuffled" (defScope s_law_shuffled) T.f_law_shuffled cdv A outer s H E).nox.env) fp0) (subE (rootE ((defBody s_law_shuffled).getD 1 (.Pass ⟨0, 0, 0, 0⟩))) 0) _); dsimp only [Cx.blk, Cx.tr, Cx.suite, Cx.nox, Cx.wish, cxOf] at h; exact h)))))), ?_⟩
    refine ⟨.ref t, rfl, t, xs, rfl, .inr ht, fun l nl => ?_⟩
    have hpl : p ≠ l := fun e => by rw [← e, hp] at nl; cases nl
    refine ⟨.ref l, rfl, l, _, rfl, .inl (.of upd_same), _, rfl, by omega, by omega, fun D nD => ?_⟩
    have hlD : l ≠ D := fun e => by rw [← e, upd_same] at nD; cases nD
    have nDH : H D = none := by rw [upd_ne hlD.symm] at nD; exact nD
    have hpD : p ≠ D := fun e => by rw [← e, hp] at nDH; cases nDH
    refine lc_range (fun i H' => ∃ left done y : List V, H' l = some (.lst left) ∧ H' D = some (.lst done) ∧ (done ++ left).Perm xs ∧ done.length = i ∧ But p H H' ∧ H' p = some (.lst y) ∧ WellL y (k + i))
      ⟨xs, [], x, by rw [upd_ne hlD, upd_same], upd_same, List.Perm.refl _, rfl, ((But.refl p H).mut nl).mut nDH, by rw [upd_ne hpD, upd_ne hpl]; exact hp, hx⟩ ?_ ?_
    · rintro i H1 hi ⟨left, done, y, hl, hD, pm, ld, hb, hp1, hw⟩
      have len := pm.length_eq
      rw [List.length_append] at len
      have hi' : i < xs.length := by omega
      refine ⟨rfl, .ref l, rfl, .inl ⟨rfl, _, .of hl⟩, .ref p, rfl, .ref l, rfl, l, _, rfl, .inl (.of hl), p, _, y, _, rfl, hp1, hw, by omega, by omega, size_ok (by omega) (by omega), fun d y2 d0 d1 hw2 => ?_⟩
      have hd : d.toNat < left.length := by omega
      refine ⟨l, left, d, d.toNat, left[d.toNat], rfl, rfl, by rw [upd_ne hpl.symm]; exact hl, by omega, by omega, seqIndex_of d0 d1, List.getElem?_eq_getElem hd, done, by rw [upd_ne hlD.symm, upd_ne hpD.symm]; exact hD, small1000 (by omega), ?_⟩
      refine ⟨left.eraseIdx d.toNat, done ++ [left[d.toNat]], y2, by rw [upd_ne hlD, upd_same], upd_same, ?_, by rw [List.length_append, ld]; rfl, ((hb.upd _).mut nl).mut nDH, by rw [upd_ne hpD, upd_ne hpl, upd_same], hw2.mono (by omega)⟩
      rw [List.append_assoc]
      exact ((pick_perm left d.toNat hd).append_left done).trans pm
    · rintro H1 ⟨left, done, y, hl, hD, pm, ld, hb, hp1, hw⟩
      have len := pm.length_eq
      rw [List.length_append] at len
      have e : left = [] := List.eq_nil_of_length_eq_zero (by omega)
      rw [e, List.append_nil] at pm
      exact q D done y H1 pm hb nDH hD hp1 (hw.mono (by omega))
end
section
variable {P : Program} {w : World} {K : PySem.W.Frag} {mg : Str → Option Value} {base : Heap}
/-! ### tiers drawn -/
def sp_law_tiers_drawn : Sp := fun vs H Q _ => ∃ (p t : Addr) (zs : List Str) (x : List V) (k : Nat), vs = [.ref p, .ref t] ∧ H p = some (.lst x) ∧ H t = some (.tup (zs.map V.str)) ∧ zs.length ≤ 6 ∧ zs.Nodup ∧ (∀ z ∈ zs, NameOk z) ∧ WellL x k ∧ k ≤ 800000 ∧
  ∀ (u : Addr) (bs : List (Addr × List Str)) (y : List V) (H' : Hp), Tiers H' bs → (bs.map (·.2)).flatten.Nodup → (∀ z ∈ (bs.map (·.2)).flatten, z ∈ zs) → But p H H' → H u = none → H' u = some (.tup (bs.map fun b => V.ref b.1)) → H' p = some (.lst y) → WellL y (k + 20) → Q (.ref u) H'
theorem ok_law_tiers_drawn (T : Txt K mg) : FnOk P w K mg base CX0 3 T.f_law_tiers_drawn T.fd_law_tiers_drawn ["_law_well_here", "_law_some"] (sp_law_tiers_drawn) := by
  refine T.F_law_tiers_drawn.ok sc_law_tiers_drawn (fun vs H Q E h => ?_) (fun cdv A outer s H vs Q E hr h => ?_)
  · obtain ⟨p, t, zs, x, k, rfl, _⟩ := h
    rfl
  · obtain ⟨p, t, zs, x, k, rfl, hp, ht, hn, nd, ok, hx, hk, q⟩ := h
    refine ⟨_, (pss_cons
 (ps_set (i := 2) sc_law_tiers_drawn.nd rfl (Or.inl rfl) (pe_lst pa_nil))
 (pss_cons
 (ps_for PassesOwn.never rfl (pi_list (pe_slice sl_list (pe_call (ok_law_shuffled T) (hr.mono (by decide)) (by rfl) T.g_law_shuffled T.F_law_shuffled.kp T.b_law_shuffled .nil pass0 (pa_cons (pv 0) (pa_cons (pv 1) pa_nil))) po_none (po_some (pe_op op_sub (pe_callB call_len_seq (by rfl) T.z_len (by decide +kernel) (pa_cons (pv 1) pa_nil)) (pe_op op_mod (pe_ix ix_list (pe_lst (pa_cons pe_int (pa_cons pe_int (pa_cons pe_int (pa_cons pe_int (pa_cons pe_int pa_nil)))))) (pe_call (ok_law_draw T) (hr.mono (by decide)) (by rfl) T.g_law_draw T.F_law_draw.kp T.b_law_draw .nil pass0 (pa_cons (pv 0) (pa_cons pe_int pa_nil))) (fun _ _ => rfl)) (pe_op op_add (pe_callB call_len_seq (by rfl) T.z_len (by decide +kernel) (pa_cons (pv 1) pa_nil)) pe_int)))))) (pg_name (i := 3) sc_law_tiers_drawn.nd rfl (Or.inl rfl))
 (pss_one
 (ps_if (PW.pt (pw_and (pt_cmpR (op_neD hr.units) (pv 2) (pe_lst pa_nil) (nomark _)) (pw_and1 (pt_cmpR op_eq (pe_call (ok_law_draw T) (hr.mono (by decide)) (by rfl) T.g_law_draw T.F_law_draw.kp T.b_law_draw .nil pass0 (pa_cons (pv 0) (pa_cons pe_int pa_nil))) pe_int (nomark _)))))
 (pss_one
 (ps_asg (pe_op op_catT (pe_ix ix_list (pv 2) (pe_un un_neg pe_int) (fun _ _ => rfl)) (pe_tup (pa_cons (pv 3) pa_nil))) (pg_sub (pv 2) (pe_un un_neg pe_int) set_list)))
 (pss_one
 (ps_expr (pe_bm PySem.F.plainAttrs_list PySem.F.slot_list_append PySem.F.type_list_append mt_append (pv 2) (pa_cons (pe_tup (pa_cons (pv 3) pa_nil)) pa_nil)))))))
 (pss_one
 (ps_ret (pe_callTy call_tuple_of (by rfl) T.z_tuple (by decide +kernel) (pa_cons (pv 2) pa_nil)))))), ?_⟩
    refine ⟨line_of (show 0 ≤ 1000 by decide), fun l nl => ?_⟩
    have hpl : p ≠ l := ne_of_none hp nl
    have htl : t ≠ l := ne_of_none ht nl
    have htp : t ≠ p := fun e => by rw [e, hp] at ht; cases ht
    refine ⟨.ref p, rfl, .ref t, rfl, p, t, zs.map V.str, x, k, rfl, by rw [upd_ne hpl]; exact hp, .of (by rw [upd_ne htl]; exact ht), by rw [List.length_map]; exact hn, hx, by omega, fun l1 ys y1 H1 pm b1 n1 hl1 hp1 w1 => ?_⟩
    obtain ⟨ws, rfl, pw⟩ := perm_strs pm
    have e0 : H1 l = some (.lst []) := b1 l _ hpl.symm upd_same
    have ht1 : H1 t = some (.tup (zs.map V.str)) := b1 t _ htp (by rw [upd_ne htl]; exact ht)
    have bH1 : But p H H1 := fun b o hb ho => b1 b o hb (by rw [upd_ne (ne_of_none ho nl)]; exact ho)
    have l1l : l1 ≠ l := fun e => by rw [e, upd_same] at n1; cases n1
    have l1p : l1 ≠ p := fun e => by rw [e, upd_ne hpl, hp] at n1; cases n1
    refine ⟨.ref t, rfl, t, _, rfl, .inr (.of ht1), line_of (show 5 ≤ 1000 by decide), fun l2 n2 => ?_⟩
    have pl2 : p ≠ l2 := ne_of_none hp1 n2
    have ll2 : l ≠ l2 := ne_of_none e0 n2
    have tl2 : t ≠ l2 := ne_of_none ht1 n2
    have l12 : l1 ≠ l2 := ne_of_none hl1 n2
    refine ⟨.ref p, rfl, p, 5, y1, _, rfl, by rw [upd_ne pl2]; exact hp1, w1, by omega, by decide, size_ok (by decide) (by decide), fun d y2 d0 d1 w2 => ?_⟩
    obtain ⟨v, hv⟩ : ∃ v : Int, atI [V.int 0, V.int 0, V.int 0, V.int 1, V.int 2] d = some (.int v) := by
      rcases (show d = 0 ∨ d = 1 ∨ d = 2 ∨ d = 3 ∨ d = 4 by omega) with rfl | rfl | rfl | rfl | rfl
      · exact ⟨_, atI_nat (j := 0) rfl⟩
      · exact ⟨_, atI_nat (j := 1) rfl⟩
      · exact ⟨_, atI_nat (j := 2) rfl⟩
      · exact ⟨_, atI_nat (j := 3) rfl⟩
      · exact ⟨_, atI_nat (j := 4) rfl⟩
    refine ⟨l2, _, d, _, rfl, rfl, .of (by rw [upd_ne pl2.symm, upd_same]), hv, .ref t, rfl, t, _, rfl, .inr (.of (by rw [upd_ne htp, upd_ne tl2]; exact ht1)), _, _, rfl, rfl, _, _, rfl, rfl, (by show (0 : Int) < _ + 1; omega), _, _, rfl, rfl, _, rfl, l1, _, rfl, .of (by rw [upd_ne l1p, upd_ne l12]; exact hl1), fun l3 n3 => ?_⟩
    obtain ⟨ms, em, sub⟩ := cut_strs ws none (some ((((zs.map V.str).length : Nat) : Int) - v % ((((zs.map V.str).length : Nat) : Int) + 1)))
    rw [em]
    have bH2 : But p H (upd (upd H1 l2 (.lst [V.int 0, V.int 0, V.int 0, V.int 1, V.int 2])) p (.lst y2)) := (bH1.mut (bH1.free hp1 n2)).upd _
    have hp3 : (upd (upd H1 l2 (.lst [V.int 0, V.int 0, V.int 0, V.int 1, V.int 2])) p (.lst y2)) p = some (.lst y2) := upd_same
    have hl3 : (upd (upd H1 l2 (.lst [V.int 0, V.int 0, V.int 0, V.int 1, V.int 2])) p (.lst y2)) l = some (.lst []) := by rw [upd_ne hpl.symm, upd_ne ll2]; exact e0
    generalize hH2 : upd (upd H1 l2 (.lst [V.int 0, V.int 0, V.int 0, V.int 1, V.int 2])) p (.lst y2) = H2 at n3 bH2 hp3 hl3
    have nl3 : l ≠ l3 := ne_of_none hl3 n3
    have np3 : p ≠ l3 := ne_of_none hp3 n3
    have hms : ∀ z ∈ ms, NameOk z := fun z hz => ok z (pw.mem_iff.mp (sub.subset hz))
    have lms : ms.length ≤ 6 := by
      have := sub.length_le
      have := pw.length_eq
      omega
    refine ⟨l3, rfl, ⟨_, .of upd_same⟩, for_list (K := K) (a := l3) (xs := ms.map V.str)
      (fun i σ H' => ∃ (x3 : Option V) (fb : List (Addr × List Str)) (y : List V), σ = [some (.ref p), some (.ref t), some (.ref l), x3] ∧ H' l = some (.lst (fb.map fun b => V.ref b.1)) ∧ Tiers H' fb ∧ (fb.map (·.2)).flatten = ms.take i ∧
        H' l3 = some (.lst (ms.map V.str)) ∧ But p H H' ∧ H' p = some (.lst y) ∧ WellL y (k + 8 + i))
      ⟨none, [], y2, rfl, by rw [upd_ne nl3]; exact hl3, fun _ h => (by cases h), rfl, upd_same, bH2.mut (bH2.free hp3 n3), by rw [upd_ne np3]; exact hp3, w2.mono (by omega)⟩
      (fun _ _ _ _ h => by obtain ⟨_, _, _, _, _, _, _, z, _⟩ := h; exact .of z) ?_ ?_⟩
    · rintro i v9 σ H3 hi ⟨x3, fb, y, rfl, hl2, hfb, hflat, h3, hb, hp2, hw⟩
      obtain ⟨wd, hwd, rfl⟩ : ∃ wd, ms[i]? = some wd ∧ v9 = V.str wd := by
        rw [List.getElem?_map] at hi
        cases e : ms[i]? with
        | none => rw [e] at hi; cases hi
        | some b => rw [e] at hi; exact ⟨b, rfl, (Option.some.inj hi).symm⟩
      have il : i < ms.length := (List.getElem?_eq_some_iff.mp hwd).1
      have lfb : fb.length ≤ i := by
        have h1 : ∀ l : List (Addr × List Str), (∀ b ∈ l, b.2 ≠ []) → l.length ≤ (l.map (·.2)).flatten.length := fun l => by
          induction l with
          | nil => intro _; exact Nat.le_refl _
          | cons b r ih =>
            intro hne
            have := ih fun c hc => hne c (List.mem_cons_of_mem _ hc)
            have := List.length_pos_iff.mpr (hne b List.mem_cons_self)
            rw [List.map_cons, List.flatten_cons, List.length_append, List.length_cons]
            omega
        have := h1 fb fun b hb' => (hfb b hb').2
        rw [hflat, List.length_take] at this
        omega
      have sok : ∀ tr ∈ fb.map (·.2), ∀ z ∈ tr, PyData.strOk z = true := fun tr htr z hz => by
        have : z ∈ ms.take i := by
          rw [← hflat]
          exact List.mem_flatten.mpr ⟨tr, htr, hz⟩
        exact small_ok (hms z (List.mem_of_mem_take this)).2.2
      refine ⟨.ref l, rfl, line_of (show 0 ≤ 1000 by decide), fun le nle => ?_⟩
      have lle : l ≠ le := ne_of_none hl2 nle
      have l3e : l3 ≠ le := ne_of_none h3 nle
      have ple : p ≠ le := ne_of_none hp2 nle
      have hfe : Tiers (upd H3 le (.lst [])) fb := fun b hb' => ⟨by rw [upd_ne (ne_of_none (hfb b hb').1 nle)]; exact (hfb b hb').1, (hfb b hb').2⟩
      have hbe := hb.mut (o := HO.lst []) (hb.free hp2 nle)
      have hl2e : (upd H3 le (.lst [])) l = some (.lst (fb.map fun b => V.ref b.1)) := by rw [upd_ne lle]; exact hl2
      have h3e : (upd H3 le (.lst [])) l3 = some (.lst (ms.map V.str)) := by rw [upd_ne l3e]; exact h3
      have hp2e : (upd H3 le (.lst [])) p = some (.lst y) := by rw [upd_ne ple]; exact hp2
      refine ⟨.list ((fb.map (·.2)).map tyD), .list [], .lst (.of hl2e) (dp_tiers fb hfe), .lst (.of upd_same) .nil, shaped_tiers sok, rfl, ?_⟩
      have hke : le = le := rfl
      generalize upd H3 le (.lst []) = H4 at hfe hbe hl2e h3e hp2e
      have nlH : H l = none := nl
      clear hl2 h3 hp2 hb hfb
      have hl2 := hl2e
      have h3 := h3e
      have hp2 := hp2e
      have hb := hbe
      have hfb := hfe
      by_cases hfb0 : fb = []
      · have hc : (!PyData.eqv (.list ((fb.map (·.2)).map tyD)) (.list [])) = false := by rw [hfb0]; rfl
        rw [hc]
        refine ⟨_, rfl, iteF (iteF ?_)⟩
        refine ⟨.ref l, rfl, .inl ⟨rfl, _, .of hl2⟩, .str wd, rfl, line_of (show 1 ≤ 1000 by decide), fun b nb => ?_⟩
        have nbl : l ≠ b := ne_of_none hl2 nb
        have nb3 : l3 ≠ b := ne_of_none h3 nb
        have nbp : p ≠ b := ne_of_none hp2 nb
        refine ⟨l, _, _, rfl, rfl, by rw [upd_ne nbl]; exact hl2, small1000 (by rw [List.length_map]; omega), _, fb ++ [(b, [wd])], _, rfl, ?_, ?_, ?_, ?_, ?_, ?_, hw.mono (by omega)⟩
        · rw [upd_same, List.map_append]
          rfl
        · intro c hc
          rcases List.mem_append.mp hc with hc | hc
          · obtain ⟨g1, g2⟩ := hfb c hc
            have c1 : c.1 ≠ l := fun e => by rw [e, hl2] at g1; cases g1
            have c2 : c.1 ≠ p := fun e => by rw [e, hp2] at g1; cases g1
            refine ⟨?_, g2⟩
            rw [upd_ne c1]
            exact (upd_ne (ne_of_none (g1) nb)).trans (g1)
          · rw [List.mem_singleton.mp hc]
            exact ⟨by rw [upd_ne nbl.symm, upd_same]; rfl, List.cons_ne_nil _ _⟩
        · rw [List.map_append, List.flatten_append, hflat, take_more hwd]
          rfl
        · rw [upd_ne nl3.symm, upd_ne nb3]
          exact h3
        · exact (hb.mut (hb.free hp2 nb)).mut nlH
        · rw [upd_ne hpl, upd_ne nbp]
          exact hp2
      · obtain ⟨fi, bl, rfl⟩ : ∃ fi bl, fb = fi ++ [bl] := ⟨fb.dropLast, fb.getLast hfb0, (List.dropLast_concat_getLast hfb0).symm⟩
        have hc : (!PyData.eqv (.list (((fi ++ [bl]).map (·.2)).map tyD)) (.list [])) = true := by
          cases fi with
          | nil => rfl
          | cons a r => rfl
        rw [hc]
        refine ⟨_, rfl, iteT ?_⟩
        refine ⟨.ref p, rfl, p, 4, y, _, rfl, hp2, hw, by omega, by decide, size_ok (by decide) (by decide), fun dd yy dd0 dd1 ww => ?_⟩
        have tp : ∀ b ∈ fi ++ [bl], b.1 ≠ p := fun b hb' e => by have := (hfb b hb').1; rw [e, hp2] at this; cases this
        have hfp : Tiers (upd H4 p (.lst yy)) (fi ++ [bl]) := fun b hb' => ⟨by rw [upd_ne (tp b hb')]; exact (hfb b hb').1, (hfb b hb').2⟩
        have hbp := hb.upd (.lst yy)
        have hl2p : (upd H4 p (.lst yy)) l = some (.lst ((fi ++ [bl]).map fun b => V.ref b.1)) := by rw [upd_ne hpl.symm]; exact hl2
        have h3p : (upd H4 p (.lst yy)) l3 = some (.lst (ms.map V.str)) := by rw [upd_ne np3.symm]; exact h3
        have hp2p : (upd H4 p (.lst yy)) p = some (.lst yy) := upd_same
        generalize upd H4 p (.lst yy) = H5 at hfp hbp hl2p h3p hp2p
        clear hl2 h3 hp2 hb hfb
        have hl2 := hl2p
        have h3 := h3p
        have hp2 := hp2p
        have hb := hbp
        have hfb := hfp
        refine ⟨rfl, _, rfl, ?_⟩
        cases decide (V.int dd = V.int 0) with
        | false =>
          refine iteF ?_
          refine ⟨.ref l, rfl, .inl ⟨rfl, _, .of hl2⟩, .str wd, rfl, line_of (show 1 ≤ 1000 by decide), fun b nb => ?_⟩
          have nbl : l ≠ b := ne_of_none hl2 nb
          have nb3 : l3 ≠ b := ne_of_none h3 nb
          have nbp : p ≠ b := ne_of_none hp2 nb
          refine ⟨l, _, _, rfl, rfl, by rw [upd_ne nbl]; exact hl2, small1000 (by rw [List.length_map]; omega), _, (fi ++ [bl]) ++ [(b, [wd])], _, rfl, ?_, ?_, ?_, ?_, ?_, ?_, ww.mono (by omega)⟩
          · rw [upd_same]
            simp
          · intro c hc
            rcases List.mem_append.mp hc with hc | hc
            · obtain ⟨g1, g2⟩ := hfb c hc
              have c1 : c.1 ≠ l := fun e => by rw [e, hl2] at g1; cases g1
              have c2 : c.1 ≠ p := fun e => by rw [e, hp2] at g1; cases g1
              refine ⟨?_, g2⟩
              rw [upd_ne c1]
              exact (upd_ne (ne_of_none (g1) nb)).trans (g1)
            · rw [List.mem_singleton.mp hc]
              exact ⟨by rw [upd_ne nbl.symm, upd_same]; rfl, List.cons_ne_nil _ _⟩
          · rw [List.map_append, List.flatten_append, hflat, take_more hwd]
            rfl
          · rw [upd_ne nl3.symm, upd_ne nb3]
            exact h3
          · exact (hb.mut (hb.free hp2 nb)).mut nlH
          · rw [upd_ne hpl, upd_ne nbp]
            exact hp2
        | true =>
          rw [List.map_append] at hl2
          refine iteT ⟨.ref l, rfl, 1, rfl, l, _, _, .ref bl.1, rfl, rfl, .of hl2, at_last _ _, .str wd, rfl, line_of (show 1 ≤ 1000 by decide), fun b nb => ?_⟩
          obtain ⟨gb, nbe⟩ := hfb bl (List.mem_append_right _ List.mem_cons_self)
          have sb := same_upd (o := HO.tup [V.str wd]) nb
          have lb2 : bl.2.length ≤ 6 := by
            have h1 : ((fi ++ [bl]).map (·.2)).flatten.length = (ms.take i).length := congrArg List.length hflat
            rw [List.map_append, List.flatten_append, List.length_append, List.length_take] at h1
            have h2 : (([bl].map (·.2)).flatten).length = bl.2.length := by simp
            omega
          refine ⟨bl.1, b, bl.2.map V.str, [V.str wd], rfl, rfl, .of (sb _ _ gb), .of upd_same, by simpa using nbe, line_of (by rw [List.length_map]; show bl.2.length + 1 ≤ 1000; omega), fun h => absurd h (List.cons_ne_nil _ _), fun _ b2 nb2 => ?_⟩
          have sb2 := sb.trans (same_upd (o := HO.tup (bl.2.map V.str ++ [V.str wd])) nb2)
          have hq2 : (upd (upd H5 b (.tup [V.str wd])) b2 (.tup (bl.2.map V.str ++ [V.str wd]))) b2 = some (.tup (bl.2.map V.str ++ [V.str wd])) := upd_same
          have hbb : But p H (upd (upd H5 b (.tup [V.str wd])) b2 (.tup (bl.2.map V.str ++ [V.str wd]))) := fun c o hc ho => sb2 c o (hb c o hc ho)
          have hl5 := sb2 _ _ hl2
          have h35 := sb2 _ _ h3
          have hp5 := sb2 _ _ hp2
          have hf5 : ∀ c ∈ fi, (upd (upd H5 b (.tup [V.str wd])) b2 (.tup (bl.2.map V.str ++ [V.str wd]))) c.1 = some (.tup (c.2.map V.str)) ∧ c.2 ≠ [] := fun c hc => ⟨sb2 _ _ (hfb c (List.mem_append_left _ hc)).1, (hfb c (List.mem_append_left _ hc)).2⟩
          generalize upd (upd H5 b (.tup [V.str wd])) b2 (.tup (bl.2.map V.str ++ [V.str wd])) = H6 at hq2 hbb hl5 h35 hp5 hf5
          refine ⟨.ref l, rfl, 1, rfl, l, _, _, fi.length, rfl, rfl, hl5, by rw [List.length_append, List.length_map]; exact ix_last _, ?_⟩
          have cl : ∀ {c : Addr} {xs : List V}, H6 c = some (.tup xs) → c ≠ l := fun h e => by rw [e, hl5] at h; cases h
          refine ⟨_, fi ++ [(b2, bl.2 ++ [wd])], yy, rfl, ?_, ?_, ?_, by rw [upd_ne nl3.symm]; exact h35, hbb.mut nlH, by rw [upd_ne hpl]; exact hp5, ww.mono (by omega)⟩
          · rw [upd_same, List.map_append]
            have e := set_last (fi.map fun b => V.ref b.1) (V.ref bl.1) (V.ref b2)
            rw [List.length_map] at e
            exact congrArg (fun l => some (HO.lst l)) e
          · intro c hc
            rcases List.mem_append.mp hc with hc | hc
            · obtain ⟨g1, g2⟩ := hf5 c hc
              exact ⟨by rw [upd_ne (cl g1)]; exact g1, g2⟩
            · rw [List.mem_singleton.mp hc]
              refine ⟨?_, by simp⟩
              rw [upd_ne (cl hq2), List.map_append]
              exact hq2
          · rw [take_more hwd, ← hflat, List.map_append, List.map_append, List.flatten_append, List.flatten_append]
            simp
    · rintro σ H3 ⟨x3, fb, y, rfl, hl2, hfb, hflat, h3, hb, hp2, hw⟩
      rw [List.length_map, List.take_length] at hflat
      refine ⟨.ref l, rfl, l, _, rfl, .inl ⟨.of hl2, fun u nu => ?_⟩⟩
      have npu : p ≠ u := ne_of_none hp2 nu
      refine q u fb y _ (fun b hb' => ⟨by rw [upd_ne (ne_of_none (hfb b hb').1 nu)]; exact (hfb b hb').1, (hfb b hb').2⟩) ?_ ?_ (hb.mut (hb.free hp2 nu)) (hb.free hp2 nu) upd_same (by rw [upd_ne npu]; exact hp2) (hw.mono (by rw [List.length_map]; omega))
      · rw [hflat]
        exact ((pw.nodup_iff).mpr nd).sublist sub
      · rw [hflat]
        exact fun z hz => pw.mem_iff.mp (sub.subset hz)
end
section
variable {P : Program} {w : World} {K : PySem.W.Frag} {mg : Str → Option Value} {base : Heap}
/-! ### a ballot drawn -/
def sp_law_ballot : Sp := fun vs H Q _ => ∃ (p t : Addr) (zs : List Str) (x : List V) (k : Nat), vs = [.ref p, .ref t] ∧ H p = some (.lst x) ∧ H t = some (.tup (zs.map V.str)) ∧ zs.length ≤ 6 ∧ zs.Nodup ∧ (∀ z ∈ zs, NameOk z) ∧ WellL x k ∧ k ≤ 700000 ∧
  ∀ (u : Addr) (b : Bal) (y : List V) (H' : Hp), BalAt H' u b → b.Ok zs → But p H H' → H u = none → H' p = some (.lst y) → WellL y (k + 40) → Q (.ref u) H'
theorem ok_law_ballot (T : Txt K mg) : FnOk P w K mg base CX0 4 T.f_law_ballot T.fd_law_ballot ["_law_well_here", "_law_choices"] (sp_law_ballot) := by
  refine T.F_law_ballot.ok sc_law_ballot (fun vs H Q E h => ?_) (fun cdv A outer s H vs Q E hr h => ?_)
  · obtain ⟨p, t, zs, x, k, rfl, _⟩ := h
    rfl
  · obtain ⟨p, t, zs, x, k, rfl, hp, ht, hn, nd, ok, hx, hk, q⟩ := h
    refine ⟨_, (pss_cons
 (ps_set (i := 2) sc_law_ballot.nd rfl (Or.inl rfl) (pe_call (ok_law_draw T) (hr.mono (by decide)) (by rfl) T.g_law_draw T.F_law_draw.kp T.b_law_draw .nil pass0 (pa_cons (pv 0) (pa_cons pe_int pa_nil))))
 (pss_cons
 (ps_set (i := 3) sc_law_ballot.nd rfl (Or.inl rfl) (pe_slice sl_list (pe_call (ok_law_shuffled T) (hr.mono (by decide)) (by rfl) T.g_law_shuffled T.F_law_shuffled.kp T.b_law_shuffled .nil pass0 (pa_cons (pv 0) (pa_cons (pv 1) pa_nil))) po_none (po_some (pe_call (ok_law_draw T) (hr.mono (by decide)) (by rfl) T.g_law_draw T.F_law_draw.kp T.b_law_draw .nil pass0 (pa_cons (pv 0) (pa_cons (pe_op op_add (pe_callB call_len_seq (by rfl) T.z_len (by decide +kernel) (pa_cons (pv 1) pa_nil)) pe_int) pa_nil))))))
 (pss_cons
 (ps_if (pt_cmpR op_eq (pv 2) pe_int (nomark _))
 (pss_one
 (ps_ret (pe_tup (pa_cons pe_str (pa_cons (pe_callTy call_tuple_of (by rfl) T.z_tuple (by decide +kernel) (pa_cons (pv 3) pa_nil)) pa_nil)))))
 pss_nil)
 (pss_cons
 (ps_if (pt_cmpR op_eq (pv 2) pe_int (nomark _))
 (pss_one
 (ps_ret (pe_tup (pa_cons pe_str (pa_cons (pe_callTy call_tuple_of (by rfl) T.z_tuple (by decide +kernel) (pa_cons (pe_lc (own := [("_law_word", 4)]) (g := gName 4) (tt := tYes) rfl sc_law_ballot.nd (pi_list (pv 3)) (blkOk_by (own := [("_law_word", 4)]) (N := ["_law_well_here", "_law_choices", "_law_way", "_law_some", "_law_word"]) (sc := defScope s_law_ballot) (by decide +kernel)) (fun _ _ _ _ _ => pg_name (i := 4) sc_law_ballot.nd rfl (Or.inl rfl)) (fun _ _ _ _ _ => pts_nil) (fun _ _ _ _ _ => (pe_tup (pa_cons (pv 4) (pa_cons (pe_call (ok_law_draw T) (hr.mono (by decide)) (by rfl) T.g_law_draw T.F_law_draw.kp T.b_law_draw .nil pass0 (pa_cons (pv 0) (pa_cons pe_int pa_nil))) pa_nil))))) pa_nil)) pa_nil)))))
 pss_nil)
 (pss_one
 (ps_ret (pe_tup (pa_cons pe_str (pa_cons (pe_call (ok_law_tiers_drawn T) (hr.mono (by decide)) (by rfl) T.g_law_tiers_drawn T.F_law_tiers_drawn.kp T.b_law_tiers_drawn .nil pass0 (pa_cons (pv 0) (pa_cons (pv 1) pa_nil))) pa_nil))))))))), ?_⟩
    have htp : t ≠ p := fun e => by rw [e, hp] at ht; cases ht
    refine ⟨.ref p, rfl, p, 6, x, k, rfl, hp, hx, by omega, by decide, size_ok (by decide) (by decide), fun way x1 a0 a1 w1 => ?_⟩
    have ht1 : (upd H p (.lst x1)) t = some (.tup (zs.map V.str)) := by rw [upd_ne htp]; exact ht
    refine ⟨.ref p, rfl, .ref t, rfl, p, t, zs.map V.str, x1, _, rfl, upd_same, .of ht1, by rw [List.length_map]; exact hn, w1, by omega, fun l1 ys y1 H1 pm b1 n1 hl1 hp1 w2 => ?_⟩
    obtain ⟨ws, rfl, pw⟩ := perm_strs pm
    have ht2 : H1 t = some (.tup (zs.map V.str)) := b1 t _ htp ht1
    have bH1 : But p H H1 := ((But.refl p H).upd _).trans b1
    refine ⟨.ref p, rfl, .ref t, rfl, t, _, rfl, .inr (.of ht2), _, _, rfl, rfl, p, _, y1, _, rfl, hp1, w2, by omega, by rw [List.length_map]; omega, size_ok (by rw [List.length_map]; omega) (by rw [List.length_map]; omega), fun e y2 e0 e1 w3 => ?_⟩
    have l1p : l1 ≠ p := fun e => by rw [e, upd_same] at n1; cases n1
    refine ⟨e, rfl, l1, _, rfl, .of (by rw [upd_ne l1p]; exact hl1), fun l2 n2 => ?_⟩
    obtain ⟨ms, em, sub⟩ := cut_strs ws none (some e)
    rw [em]
    have msub : ∀ z ∈ ms, z ∈ zs := fun z hz => pw.mem_iff.mp (sub.subset hz)
    have mnd : ms.Nodup := ((pw.nodup_iff).mpr nd).sublist sub
    have lms : ms.length ≤ 6 := by
      have := sub.length_le
      have := pw.length_eq
      omega
    have hpm : (upd H1 p (.lst y2)) p = some (.lst y2) := upd_same
    have p2 : p ≠ l2 := ne_of_none hpm n2
    have htm : (upd H1 p (.lst y2)) t = some (.tup (zs.map V.str)) := by rw [upd_ne htp]; exact ht2
    have t2 : t ≠ l2 := ne_of_none htm n2
    have bH2 : But p H (upd (upd H1 p (.lst y2)) l2 (.lst (ms.map V.str))) := (bH1.upd _).mut ((bH1.upd _).free hpm n2)
    have hp2 : (upd (upd H1 p (.lst y2)) l2 (.lst (ms.map V.str))) p = some (.lst y2) := by rw [upd_ne p2]; exact hpm
    have ht3 : (upd (upd H1 p (.lst y2)) l2 (.lst (ms.map V.str))) t = some (.tup (zs.map V.str)) := by rw [upd_ne t2]; exact htm
    have hl2 : (upd (upd H1 p (.lst y2)) l2 (.lst (ms.map V.str))) l2 = some (.lst (ms.map V.str)) := upd_same
    generalize upd (upd H1 p (.lst y2)) l2 (.lst (ms.map V.str)) = H2 at bH2 hp2 ht3 hl2
    refine ⟨.int way, rfl, rfl, _, rfl, ?_⟩
    cases decide (V.int way = V.int 4) with
    | true =>
      refine iteT ⟨.ref l2, rfl, l2, _, rfl, .inl ⟨.of hl2, fun u nu => ⟨line_of (show 2 ≤ 1000 by decide), fun v nv => ?_⟩⟩⟩
      have pu := ne_of_none hp2 nu
      have bu := bH2.mut (o := HO.tup (ms.map V.str)) (bH2.free hp2 nu)
      have hpu : (upd H2 u (.tup (ms.map V.str))) p = some (.lst y2) := by rw [upd_ne pu]; exact hp2
      refine q v (.lets ms) y2 _ ⟨u, upd_same, ?_⟩ ⟨mnd, msub⟩ (bu.mut (bu.free hpu nv)) (bu.free hpu nv) (by rw [upd_ne (ne_of_none hpu nv)]; exact hpu) (w3.mono (by omega))
      rw [upd_ne (ne_of_none upd_same nv), upd_same]
    | false =>
      refine iteF ⟨.int way, rfl, rfl, _, rfl, ?_⟩
      cases decide (V.int way = V.int 5) with
      | true =>
        refine iteT ⟨.ref l2, rfl, l2, rfl, ⟨_, .of hl2⟩, fun D nD => ?_⟩
        have pD := ne_of_none hp2 nD
        have l2D := ne_of_none hl2 nD
        have nDH := bH2.free hp2 nD
        refine lc_list (K := K) (a := l2) (xs := ms.map V.str) (fun i H' => ∃ (bs : List (Addr × (Str × Int))) (y : List V), H' D = some (.lst (bs.map fun b => V.ref b.1)) ∧ (∀ b ∈ bs, H' b.1 = some (.tup [.str b.2.1, .int b.2.2])) ∧
            bs.map (·.2.1) = ms.take i ∧ (∀ b ∈ bs, 0 ≤ b.2.2 ∧ b.2.2 ≤ 9) ∧ But p H H' ∧ H' p = some (.lst y) ∧ WellL y (k + 20 + i) ∧ H' l2 = some (.lst (ms.map V.str)))
          ⟨[], y2, upd_same, fun _ h => (by cases h), rfl, fun _ h => (by cases h), bH2.mut nDH, by rw [upd_ne pD]; exact hp2, w3.mono (by omega), by rw [upd_ne l2D]; exact hl2⟩ (fun _ _ _ h => by obtain ⟨_, _, _, _, _, _, _, _, _, z⟩ := h; exact .of z) ?_ ?_
        · rintro i v9 H3 hi ⟨bs, y, hD, hbs, hm, hr9, hb, hp3, hw, hl3⟩
          obtain ⟨wd, hwd, rfl⟩ : ∃ wd, ms[i]? = some wd ∧ v9 = V.str wd := by
            rw [List.getElem?_map] at hi
            cases e : ms[i]? with
            | none => rw [e] at hi; cases hi
            | some b => rw [e] at hi; exact ⟨b, rfl, (Option.some.inj hi).symm⟩
          have il : i < ms.length := (List.getElem?_eq_some_iff.mp hwd).1
          have lbs : bs.length ≤ i := by
            have := congrArg List.length hm
            rw [List.length_map, List.length_take] at this
            omega
          refine ⟨rfl, .str wd, rfl, .ref p, rfl, p, 10, y, _, rfl, hp3, hw, by omega, by decide, size_ok (by decide) (by decide), fun d y4 d0 d1 hw4 => ⟨line_of (show 2 ≤ 1000 by decide), fun b nb => ?_⟩⟩
          have tp : ∀ c ∈ bs, c.1 ≠ p := fun c hc e => by have := hbs c hc; rw [e, hp3] at this; cases this
          have tD : ∀ c ∈ bs, c.1 ≠ D := fun c hc e => by have := hbs c hc; rw [e, hD] at this; cases this
          have hbs4 : ∀ c ∈ bs, (upd H3 p (.lst y4)) c.1 = some (.tup [.str c.2.1, .int c.2.2]) := fun c hc => by rw [upd_ne (tp c hc)]; exact hbs c hc
          have hD4 : (upd H3 p (.lst y4)) D = some (.lst (bs.map fun b => V.ref b.1)) := by rw [upd_ne pD.symm]; exact hD
          have hp4 : (upd H3 p (.lst y4)) p = some (.lst y4) := upd_same
          have hl4 : (upd H3 p (.lst y4)) l2 = some (.lst (ms.map V.str)) := by rw [upd_ne p2.symm]; exact hl3
          have hb4 := hb.upd (.lst y4)
          generalize upd H3 p (.lst y4) = H4 at nb hbs4 hD4 hp4 hl4 hb4
          have Db := ne_of_none hD4 nb
          refine ⟨bs.map fun b => V.ref b.1, by rw [upd_ne Db]; exact hD4, small1000 (by rw [List.length_map]; omega), bs ++ [(b, (wd, d))], y4, ?_, ?_, ?_, ?_, (hb4.mut (hb4.free hp4 nb)).mut nDH, by rw [upd_ne pD, upd_ne (ne_of_none hp4 nb)]; exact hp4, hw4.mono (by omega), by rw [upd_ne l2D, upd_ne (ne_of_none hl4 nb)]; exact hl4⟩
          · rw [upd_same, List.map_append]
            rfl
          · intro c hc
            rcases List.mem_append.mp hc with hc | hc
            · rw [upd_ne (tD c hc), upd_ne (ne_of_none (hbs4 c hc) nb)]
              exact hbs4 c hc
            · rw [List.mem_singleton.mp hc, upd_ne Db.symm, upd_same]
          · rw [List.map_append, hm, take_more hwd]
            rfl
          · intro c hc
            rcases List.mem_append.mp hc with hc | hc
            · exact hr9 c hc
            · rw [List.mem_singleton.mp hc]
              exact ⟨d0, by show d ≤ 9; omega⟩
        · rintro H3 ⟨bs, y, hD, hbs, hm, hr9, hb, hp3, hw, hl3⟩
          rw [List.length_map, List.take_length] at hm
          refine ⟨D, _, rfl, .inl ⟨.of hD, fun u nu => ⟨line_of (show 2 ≤ 1000 by decide), fun v nv => ?_⟩⟩⟩
          have pu := ne_of_none hp3 nu
          have bu := hb.mut (o := HO.tup (bs.map fun b => V.ref b.1)) (hb.free hp3 nu)
          have hpu : (upd H3 u (.tup (bs.map fun b => V.ref b.1))) p = some (.lst y) := by rw [upd_ne pu]; exact hp3
          have hbu : ∀ c ∈ bs, (upd H3 u (.tup (bs.map fun b => V.ref b.1))) c.1 = some (.tup [.str c.2.1, .int c.2.2]) := fun c hc => by rw [upd_ne (ne_of_none (hbs c hc) nu)]; exact hbs c hc
          have hm2 : (bs.map (·.2)).map (·.1) = ms := by rw [List.map_map]; exact hm
          refine q v (.marks (bs.map (·.2))) y _ ⟨u, bs, upd_same, by rw [upd_ne (ne_of_none upd_same nv), upd_same], fun c hc => by rw [upd_ne (ne_of_none (hbu c hc) nv)]; exact hbu c hc, rfl⟩ ⟨by rw [hm2]; exact mnd, ?_, ?_⟩ (bu.mut (bu.free hpu nv)) (bu.free hpu nv) (by rw [upd_ne (ne_of_none hpu nv)]; exact hpu) (hw.mono (by rw [List.length_map]; omega))
          · intro m hm'
            exact msub _ (by rw [← hm2]; exact List.mem_map.mpr ⟨m, hm', rfl⟩)
          · intro m hm'
            obtain ⟨c, hc, rfl⟩ := List.mem_map.mp hm'
            exact hr9 c hc
      | false =>
        refine iteF ⟨.ref p, rfl, .ref t, rfl, p, t, zs, y2, _, rfl, hp2, ht3, hn, nd, ok, w3, by omega, fun u bs y5 H5 tb bnd bsub b5 nu hu hp5 w5 => ⟨line_of (show 2 ≤ 1000 by decide), fun v nv => ?_⟩⟩
        have bu : But p H H5 := bH2.trans b5
        refine q v (.order (bs.map (·.2))) y5 _ ⟨u, bs, upd_same, by rw [upd_ne (ne_of_none hu nv)]; exact hu, fun c hc => ⟨by rw [upd_ne (ne_of_none (tb c hc).1 nv)]; exact (tb c hc).1, (tb c hc).2⟩, rfl⟩ ⟨bnd, bsub, ?_⟩ (bu.mut (bu.free hp5 nv)) (bu.free hp5 nv) (by rw [upd_ne (ne_of_none hp5 nv)]; exact hp5) (w5.mono (by omega))
        intro t ht'
        obtain ⟨c, hc, rfl⟩ := List.mem_map.mp ht'
        exact (tb c hc).2
end
/-! ### what the program's own looks tell of data -/
def wholeD : PyData → Bool
  | .int _ => true
  | _ => false
def tupD : PyData → Nat → Bool
  | .tuple l, n => decide (l.length = n)
  | _, _ => false
def optD (zs : List Str) : PyData → Bool
  | .str z => decide (z ∈ zs)
  | _ => false
def unS : PyData → Option Str
  | .str z => some z
  | _ => none
def unlikeD (zs : List Str) (ds : List PyData) : Bool := ds.all (optD zs) && decide (ds.filterMap unS).Nodup
def markD : PyData → Bool
  | .int i => decide (0 ≤ i) && decide (i ≤ 9)
  | _ => false
def parts : PyData → List PyData
  | .tuple l => l
  | _ => []
def tierD : PyData → Bool
  | .tuple l => decide (0 < l.length)
  | _ => false
def pairD : PyData → Bool
  | .tuple [_, m] => markD m
  | _ => false
def firstD : PyData → PyData
  | .tuple (a :: _) => a
  | _ => .none
def tiersD (zs : List Str) (ds : List PyData) : Bool := ds.all tierD && unlikeD zs (ds.flatMap parts)
def marksD (zs : List Str) (ds : List PyData) : Bool := ds.all pairD && unlikeD zs (ds.map firstD)
def ballotD (zs : List Str) : PyData → Bool
  | .tuple [.str f, .tuple l] => if f = "order" then tiersD zs l else if f = "lets" then unlikeD zs l else if f = "marks" then marksD zs l else false
  | _ => false
theorem inV_str (z : Str) : ∀ zs : List Str, inV (.str z) (zs.map V.str) = decide (z ∈ zs)
  | [] => rfl
  | a :: l => by
    have ih := inV_str z l
    unfold inV at ih ⊢
    rw [List.map_cons, List.any_cons, ih]
    show ((a == z) || decide (z ∈ l)) = decide (z ∈ a :: l)
    by_cases h : a = z
    · rw [h]
      simp
    · have : (a == z) = false := beq_eq_false_iff_ne.mpr h
      rw [this, Bool.false_or]
      exact decide_eq_decide.mpr ⟨fun m => List.mem_cons_of_mem _ m, fun m => (List.mem_cons.mp m).elim (fun e => absurd e.symm h) id⟩
theorem flat_strs (zs : List Str) : (zs.map V.str).all flatV = true := by
  rw [List.all_map, List.all_eq_true]
  exact fun _ _ => rfl
theorem opt_strs {zs : List Str} : ∀ {ds : List PyData}, ds.all (optD zs) = true → ds = (ds.filterMap unS).map PyData.str
  | [], _ => rfl
  | d :: ds, h => by
    rw [List.all_cons, Bool.and_eq_true] at h
    cases d with
    | str z => exact congrArg (PyData.str z :: ·) (opt_strs h.2)
    | _ => cases h.1
theorem DAll.of_strs {H : Hp} : ∀ {zs : List Str} {xs : List V}, DAll H (zs.map PyData.str) xs → xs = zs.map V.str
  | [], _, h => h
  | z :: zs, _, ⟨v, r, e, h, g⟩ => by
    rw [e, show v = V.str z from h, DAll.of_strs g] <;> rfl
section
variable {P : Program} {w : World} {K : PySem.W.Frag} {mg : Str → Option Value} {base : Heap}
def sp_is_whole : Sp := fun vs H Q _ => ∃ (v : V) (d : PyData), vs = [v] ∧ DAt H d v ∧ Q (.bl (wholeD d)) H
theorem ok_is_whole (T : Txt K mg) : FnOk P w K mg base CX0 1 T.f_is_whole T.fd_is_whole ["thing"] sp_is_whole := by
  refine T.F_is_whole.ok sc_is_whole (fun vs H Q E h => ?_) (fun cdv A outer s H vs Q E hr h => ?_)
  · obtain ⟨v, d, rfl, _⟩ := h
    rfl
  · obtain ⟨v, d, rfl, hd, q⟩ := h
    refine ⟨_, (pss_one
 (ps_ret (pe_and (pe_callB call_isi (by rfl) T.z_isinstance (by decide +kernel) (pa_cons (pv 0) (pa_cons (pe_bltn (v := .ty "int") (u := .type "int") rfl T.z_int (by decide +kernel) rfl) pa_nil))) (pe_one (pe_not (pe_callB call_isi (by rfl) T.z_isinstance (by decide +kernel) (pa_cons (pv 0) (pa_cons (pe_bltn (v := .ty "bool") (u := .type "bool") rfl T.z_bool (by decide +kernel) rfl) pa_nil)))))))), ?_⟩
    obtain ⟨t, ht, _, _, k3, k4⟩ := hd.ty (K := K)
    refine ⟨v, rfl, v, _, t, _, dI d, rfl, .ty _, ht, k3, dI d, rfl, ?_⟩
    have e : (if dI d = true then !dB d else false) = wholeD d := by cases d <;> rfl
    rw [← e] at q
    cases h1 : dI d with
    | false =>
      rw [h1] at q
      exact iteF q
    | true =>
      rw [h1] at q
      exact iteT ⟨v, rfl, v, _, t, _, dB d, rfl, .ty _, ht, k4, dB d, rfl, q⟩
def sp_is_tuple_of : Sp := fun vs H Q _ => ∃ (v : V) (n : Nat) (d : PyData), vs = [v, .int n] ∧ DAt H d v ∧ Q (.bl (tupD d n)) H
theorem ok_is_tuple_of (T : Txt K mg) : FnOk P w K mg base CX0 1 T.f_is_tuple_of T.fd_is_tuple_of ["thing", "many"] sp_is_tuple_of := by
  refine T.F_is_tuple_of.ok sc_is_tuple_of (fun vs H Q E h => ?_) (fun cdv A outer s H vs Q E hr h => ?_)
  · obtain ⟨v, n, d, rfl, _⟩ := h
    rfl
  · obtain ⟨v, n, d, rfl, hd, q⟩ := h
    refine ⟨_, (pss_one
 (ps_ret (pe_and (pe_callB call_isi (by rfl) T.z_isinstance (by decide +kernel) (pa_cons (pv 0) (pa_cons (pe_bltn (v := .ty "tuple") (u := .type "tuple") rfl T.z_tuple (by decide +kernel) rfl) pa_nil))) (pe_one (pe_cmpR op_eq (pe_callB call_len_seq (by rfl) T.z_len (by decide +kernel) (pa_cons (pv 0) pa_nil)) (pv 1) (nomark _)))))), ?_⟩
    obtain ⟨t, ht, k1, _⟩ := hd.ty (K := K)
    refine ⟨v, rfl, v, _, t, _, dT d, rfl, .ty _, ht, k1, dT d, rfl, ?_⟩
    cases d with
    | tuple l =>
      obtain ⟨p, xs, rfl, hp, ha⟩ := hd
      refine iteT ⟨.ref p, rfl, p, _, rfl, .inr (.of hp), .int n, rfl, rfl, ?_⟩
      rw [ha.len]
      have e : decide (V.int (l.length : Int) = V.int (n : Int)) = decide (l.length = n) := decide_eq_decide.mpr ⟨fun h => by have := V.int.inj h; omega, fun h => by rw [h]⟩
      rw [e]
      exact q
    | _ => exact iteF q
def sp_is_option : Sp := fun vs H Q _ => ∃ (o : Addr) (zs : List Str) (v : V) (d : PyData), vs = [.ref o, v] ∧ H o = some (.tup (zs.map V.str)) ∧ DAt H d v ∧ Q (.bl (optD zs d)) H
theorem ok_is_option (T : Txt K mg) : FnOk P w K mg base CX0 1 T.f_is_option T.fd_is_option ["options", "thing"] sp_is_option := by
  refine T.F_is_option.ok sc_is_option (fun vs H Q E h => ?_) (fun cdv A outer s H vs Q E hr h => ?_)
  · obtain ⟨o, zs, v, d, rfl, _⟩ := h
    rfl
  · obtain ⟨o, zs, v, d, rfl, ho, hd, q⟩ := h
    refine ⟨_, (pss_one
 (ps_ret (pe_and (pe_callB call_isi (by rfl) T.z_isinstance (by decide +kernel) (pa_cons (pv 1) (pa_cons (pe_bltn (v := .ty "str") (u := .type "str") rfl T.z_str (by decide +kernel) rfl) pa_nil))) (pe_one (pe_cmpR op_in_seq (pv 1) (pv 0) rfl))))), ?_⟩
    obtain ⟨t, ht, _, k2, _⟩ := hd.ty (K := K)
    refine ⟨v, rfl, v, _, t, _, dS d, rfl, .ty _, ht, k2, dS d, rfl, ?_⟩
    cases d with
    | str z =>
      rw [show v = V.str z from hd]
      refine iteT ⟨.str z, rfl, .ref o, rfl, o, _, rfl, .inr (.of ho), rfl, flat_strs zs, ?_⟩
      show Q (.bl (inV (.str z) (zs.map V.str))) H
      rw [inV_str]
      exact q
    | _ => exact iteF q
def sp_are_unlike_options : Sp := fun vs H Q _ => ∃ (o p : Addr) (zs : List Str) (xs : List V) (ds : List PyData), vs = [.ref o, .ref p] ∧ H o = some (.tup (zs.map V.str)) ∧ (H p = some (.lst xs) ∨ H p = some (.tup xs)) ∧ DAll H ds xs ∧ ds.length ≤ 500 ∧ ∀ H', Same H H' → Q (.bl (unlikeD zs ds)) H'
theorem ok_are_unlike_options (T : Txt K mg) : FnOk P w K mg base CX0 2 T.f_are_unlike_options T.fd_are_unlike_options ["options", "names"] sp_are_unlike_options := by
  refine T.F_are_unlike_options.ok sc_are_unlike_options (fun vs H Q E h => ?_) (fun cdv A outer s H vs Q E hr h => ?_)
  · obtain ⟨o, p, zs, xs, ds, rfl, _⟩ := h
    rfl
  · obtain ⟨o, p, zs, xs, ds, rfl, ho, hp, ha, hl, q⟩ := h
    refine ⟨_, (pss_one
 (ps_ret (pe_and (pe_callB (cr_all rfl) (by rfl) T.z_all (by decide +kernel) (pa_cons (pe_lc (own := [("name", 2)]) (g := gName 2) (tt := tYes) rfl sc_are_unlike_options.nd (pi_or (pi_list (pv 1)) (pi_tup (pv 1))) (blkOk_by (own := [("name", 2)]) (N := ["options", "names", "name"]) (sc := defScope s_are_unlike_options) (by decide +kernel)) (fun _ _ _ _ _ => pg_name (i := 2) sc_are_unlike_options.nd rfl (Or.inl rfl)) (fun _ _ _ _ _ => pts_nil) (fun _ _ _ _ _ => (pe_call (ok_is_option T) (hr.mono (by decide)) (by rfl) T.g_is_option T.F_is_option.kp T.b_is_option .nil pass0 (pa_cons (pv 0) (pa_cons (pv 2) pa_nil))))) pa_nil)) (pe_one (pe_cmpR op_eq (pe_unlike rfl (by rfl) T.z_len (by rfl) T.z_set (pv 1)) (pe_callB call_len_seq (by rfl) T.z_len (by decide +kernel) (pa_cons (pv 1) pa_nil)) (nomark _)))))), ?_⟩
    have lx : xs.length = ds.length := ha.len
    -- behind the comprehension
    have go : ∀ (H1 : Hp), Same H H1 → ∀ (R : VK), (∀ b H', Same H H' → b = unlikeD zs ds → R (.bl b) H') →
        (ds.all (optD zs) = false → R (.bl false) H1) ∧ (ds.all (optD zs) = true → ∀ b, b = decide (V.int ((met (ds.filterMap unS)).length : Int) = V.int (xs.length : Int)) → R (.bl b) H1) := by
      intro H1 s1 R c
      refine ⟨fun e => c _ _ s1 ?_, fun e b hb => c _ _ s1 ?_⟩
      · unfold unlikeD
        rw [e] <;> rfl
      · have es := opt_strs e
        have el : (ds.filterMap unS).length = ds.length := by
          have := congrArg List.length es
          rw [List.length_map] at this
          exact this.symm
        unfold unlikeD
        rw [e, Bool.true_and, ← met_iff, hb]
        exact decide_eq_decide.mpr ⟨fun h => by have := V.int.inj h; omega, fun h => by rw [h, el, ← lx]⟩
    have turn : ∀ (D : Addr) (nD : H D = none) (i : Nat) (x : V) (H1 : Hp), xs[i]? = some x → (Same H H1 ∧ H1 D = some (.lst (((ds.take i).map (optD zs)).map V.bl))) → ∃ kk, ds[i]? = some kk ∧ DAt H1 kk x ∧ H1 o = some (.tup (zs.map V.str)) ∧
        H1 D = some (.lst (((ds.take i).map (optD zs)).map V.bl)) ∧ (((ds.take i).map (optD zs)).map V.bl).length < sizeLine ∧ Same H (upd H1 D (.lst (((ds.take i).map (optD zs)).map V.bl ++ [V.bl (optD zs kk)]))) ∧
        (upd H1 D (.lst (((ds.take i).map (optD zs)).map V.bl ++ [V.bl (optD zs kk)]))) D = some (.lst (((ds.take (i + 1)).map (optD zs)).map V.bl)) := by
      rintro D nD i x H1 hi ⟨s1, e1⟩
      obtain ⟨kk, hkk, hx⟩ := ha.get hi
      refine ⟨kk, hkk, DAt.same s1 _ hx, s1 _ _ ho, e1, ?_, same_mut s1 nD, ?_⟩
      · rw [List.length_map, List.length_map, List.length_take]
        exact small1000 (by omega)
      · rw [upd_same, take_more hkk, List.map_append, List.map_append]
        rfl
    rcases hp with hp | hp
    · refine .inl ⟨.ref p, rfl, p, rfl, ⟨_, .of hp⟩, fun D nD => ?_⟩
      refine lc_list (K := K) (a := p) (xs := xs) (fun i H' => Same H H' ∧ H' D = some (.lst (((ds.take i).map (optD zs)).map V.bl))) ⟨same_upd nD, upd_same⟩ (fun _ _ _ h => .of (h.1 _ _ hp)) ?_ ?_
      · intro i x H1 hi h
        obtain ⟨kk, hkk, hx, ho1, e1, z1, z2, z3⟩ := turn D nD i x H1 hi h
        exact ⟨rfl, .ref o, rfl, x, rfl, o, zs, x, kk, rfl, ho1, hx, _, e1, z1, z2, z3⟩
      · rintro H1 ⟨s1, e1⟩
        rw [lx, List.take_length] at e1
        refine ⟨D, _, rfl, .of e1, _, rfl, ?_⟩
        have ea : (ds.map (optD zs)).all id = ds.all (optD zs) := by rw [List.all_map]; rfl
        rw [ea]
        obtain ⟨g1, g2⟩ := go H1 s1 Q (fun b H' s e => by rw [e]; exact q _ s)
        cases hs : ds.all (optD zs) with
        | false => exact iteF (g1 hs)
        | true =>
          have es := opt_strs hs
          have ex : xs = (ds.filterMap unS).map V.str := by rw [es] at ha; exact ha.of_strs
          have lw : (ds.filterMap unS).length ≤ 500 := Nat.le_trans (List.length_filterMap_le _ _) hl
          exact iteT ⟨.ref p, rfl, p, ds.filterMap unS, rfl, .inl (.of (by rw [← ex]; exact s1 _ _ hp)), by omega, .ref p, rfl, p, _, rfl, .inl (.of (s1 _ _ hp)), rfl, g2 hs _ rfl⟩
    · refine .inr ⟨.ref p, rfl, p, rfl, ⟨_, .of hp⟩, fun D nD => ?_⟩
      refine lc_tup (K := K) (a := p) (xs := xs) (fun i H' => Same H H' ∧ H' D = some (.lst (((ds.take i).map (optD zs)).map V.bl))) ⟨same_upd nD, upd_same⟩ (fun _ _ _ h => .of (h.1 _ _ hp)) ?_ ?_
      · intro i x H1 hi h
        obtain ⟨kk, hkk, hx, ho1, e1, z1, z2, z3⟩ := turn D nD i x H1 hi h
        exact ⟨rfl, .ref o, rfl, x, rfl, o, zs, x, kk, rfl, ho1, hx, _, e1, z1, z2, z3⟩
      · rintro H1 ⟨s1, e1⟩
        rw [lx, List.take_length] at e1
        refine ⟨D, _, rfl, .of e1, _, rfl, ?_⟩
        have ea : (ds.map (optD zs)).all id = ds.all (optD zs) := by rw [List.all_map]; rfl
        rw [ea]
        obtain ⟨g1, g2⟩ := go H1 s1 Q (fun b H' s e => by rw [e]; exact q _ s)
        cases hs : ds.all (optD zs) with
        | false => exact iteF (g1 hs)
        | true =>
          have es := opt_strs hs
          have ex : xs = (ds.filterMap unS).map V.str := by rw [es] at ha; exact ha.of_strs
          have lw : (ds.filterMap unS).length ≤ 500 := Nat.le_trans (List.length_filterMap_le _ _) hl
          exact iteT ⟨.ref p, rfl, p, ds.filterMap unS, rfl, .inr (.of (by rw [← ex]; exact s1 _ _ hp)), by omega, .ref p, rfl, p, _, rfl, .inr (.of (s1 _ _ hp)), rfl, g2 hs _ rfl⟩
end
section
variable {P : Program} {w : World} {K : PySem.W.Frag} {mg : Str → Option Value} {base : Heap}
def sp_is_mark : Sp := fun vs H Q _ => ∃ (v : V) (d : PyData), vs = [v] ∧ DAt H d v ∧ Q (.bl (markD d)) H
theorem ok_is_mark (T : Txt K mg) : FnOk P w K mg base CX0 2 T.f_is_mark T.fd_is_mark ["thing"] sp_is_mark := by
  refine T.F_is_mark.ok sc_is_mark (fun vs H Q E h => ?_) (fun cdv A outer s H vs Q E hr h => ?_)
  · obtain ⟨v, d, rfl, _⟩ := h
    rfl
  · obtain ⟨v, d, rfl, hd, q⟩ := h
    refine ⟨_, (pss_one
 (ps_ret (pe_and (pe_call (ok_is_whole T) (hr.mono (by decide)) (by rfl) T.g_is_whole T.F_is_whole.kp T.b_is_whole .nil pass0 (pa_cons (pv 0) pa_nil)) (pe_one (pe_chain op_le op_le pe_int (pv 0) (pe_glob (v := .int 9) rfl T.c_GREATEST_MARK ⟨_, rfl⟩)))))), ?_⟩
    refine ⟨v, rfl, v, d, rfl, hd, wholeD d, rfl, ?_⟩
    cases d with
    | int i =>
      rw [show v = V.int i from hd]
      have e : markD (.int i) = if decide (0 ≤ i) = true then decide (i ≤ 9) else false := by
        show (decide (0 ≤ i) && decide (i ≤ 9)) = _
        by_cases h : 0 ≤ i <;> simp [h]
      rw [e] at q
      refine iteT ⟨.int i, rfl, _, _, rfl, rfl, _, rfl, ?_⟩
      by_cases h : 0 ≤ i
      · rw [decide_eq_true h] at q ⊢
        exact iteT ⟨_, _, rfl, rfl, q⟩
      · rw [decide_eq_false h] at q ⊢
        exact iteF q
    | _ => exact iteF q
/-- a tuple of which no part is long -/
def Wide (ds : List PyData) : Prop := ds.length ≤ 20 ∧ ∀ d ∈ ds, (parts d).length ≤ 20
def sp_are_tiers : Sp := fun vs H Q _ => ∃ (o t : Addr) (zs : List Str) (xs : List V) (ds : List PyData), vs = [.ref o, .ref t] ∧ H o = some (.tup (zs.map V.str)) ∧ H t = some (.tup xs) ∧ DAll H ds xs ∧ Wide ds ∧ ∀ H', Same H H' → Q (.bl (tiersD zs ds)) H'
theorem flat_le {ds : List PyData} (h : Wide ds) : (ds.flatMap parts).length ≤ 400 := by
  obtain ⟨h1, h2⟩ := h
  have : ∀ l : List PyData, (∀ d ∈ l, (parts d).length ≤ 20) → (l.flatMap parts).length ≤ 20 * l.length := by
    intro l
    induction l with
    | nil => intro _; exact Nat.le_refl _
    | cons a l ih =>
      intro g
      have a1 := g a List.mem_cons_self
      have a2 := ih fun d hd => g d (List.mem_cons_of_mem _ hd)
      rw [List.flatMap_cons, List.length_append, List.length_cons]
      omega
  have := this ds h2
  omega
theorem ok_are_tiers (T : Txt K mg) : FnOk P w K mg base CX0 3 T.f_are_tiers T.fd_are_tiers ["options", "told"] sp_are_tiers := by
  refine T.F_are_tiers.ok sc_are_tiers (fun vs H Q E h => ?_) (fun cdv A outer s H vs Q E hr h => ?_)
  · obtain ⟨o, t, zs, xs, ds, rfl, _⟩ := h
    rfl
  · obtain ⟨o, t, zs, xs, ds, rfl, ho, ht, ha, hw, q⟩ := h
    refine ⟨_, (pss_cons
 (ps_if (pt_not (pt_val (pe_callB (cr_all rfl) (by rfl) T.z_all (by decide +kernel) (pa_cons (pe_lc (own := [("tier", 2)]) (g := gName 2) (tt := tYes) rfl sc_are_tiers.nd (pi_tup (pv 1)) (blkOk_by (own := [("tier", 2)]) (N := ["options", "told", "tier", "name"]) (sc := defScope s_are_tiers) (by decide +kernel)) (fun _ _ _ _ _ => pg_name (i := 2) sc_are_tiers.nd rfl (Or.inl rfl)) (fun _ _ _ _ _ => pts_nil) (fun s0 H0 C0 cl0 fp0 => (by have h := ((pe_and (pe_callB call_isi (by rfl) T.z_isinstance (by decide +kernel) (pa_cons (pv 2) (pa_cons (pe_bltn (v := .ty "tuple") (u := .type "tuple") rfl T.z_tuple (by decide +kernel) rfl) pa_nil))) (pe_one (pe_cmpR op_gt (pe_callB call_len_seq (by rfl) T.z_len (by decide +kernel) (pa_cons (pv 2) pa_nil)) pe_int (nomark _)))) : PE ((cxOf CX0 P w K mg base ["options", "told", "tier", "name"] "are_tiers" (defScope s_are_tiers) T.f_are_tiers cdv A outer s H E).nox.blk s0 H0 (lcScope (subE (subE (rootE ((defBody s_are_tiers).getD 0 (.Pass ⟨0, 0, 0, 0⟩))) 0) 1)) (compEnvC (lcScope (subE (subE (rootE ((defBody s_are_tiers).getD 0 (.Pass ⟨0, 0, 0, 0⟩))) 0) 1)) cl0 C0 (cxOf CX0 P w K mg base ["options", "told", "tier", "name"] "are_tiers" (defScope s_are_tiers) T.f_are_tiers cdv A outer s H E).nox.env) fp0) (subE (subE (subE (rootE ((defBody s_are_tiers).getD 0 (.Pass ⟨0, 0, 0, 0⟩))) 0) 1) 0) _); dsimp only [Cx.blk, Cx.tr, Cx.suite, Cx.nox, Cx.wish, cxOf] at h; exact h))) pa_nil))))
 (pss_one
 (ps_ret pe_bl))
 pss_nil)
 (pss_one
 (ps_ret (pe_call (ok_are_unlike_options T) (hr.mono (by decide)) (by rfl) T.g_are_unlike_options T.F_are_unlike_options.kp T.b_are_unlike_options .nil pass0 (pa_cons (pv 0) (pa_cons (pe_lc2 (own := [("tier", 2), ("name", 3)]) (vs1 := [3]) (g := gName 2) (g1 := gName 3) (tt := tYes) (tt1 := tYes) rfl sc_are_tiers.nd (pi_tup (pv 1)) (blkOk_by (own := [("tier", 2), ("name", 3)]) (N := ["options", "told", "tier", "name"]) (sc := defScope s_are_tiers) (by decide +kernel)) (by decide) (fun _ _ _ _ _ => pg_name (i := 2) sc_are_tiers.nd rfl (Or.inl rfl)) (fun _ _ _ _ _ => pts_nil) (fun s0 H0 C0 cl0 fp0 => (by have h := ((pi_tup (pv 2)) : PI ((cxOf CX0 P w K mg base ["options", "told", "tier", "name"] "are_tiers" (defScope s_are_tiers) T.f_are_tiers cdv A outer s H E).nox.blk s0 H0 (lcScope (subE (rootE ((defBody s_are_tiers).getD 1 (.Pass ⟨0, 0, 0, 0⟩))) 2)) (compEnvC (lcScope (subE (rootE ((defBody s_are_tiers).getD 1 (.Pass ⟨0, 0, 0, 0⟩))) 2)) cl0 C0 (cxOf CX0 P w K mg base ["options", "told", "tier", "name"] "are_tiers" (defScope s_are_tiers) T.f_are_tiers cdv A outer s H E).nox.env) fp0) (lcG (subE (rootE ((defBody s_are_tiers).getD 1 (.Pass ⟨0, 0, 0, 0⟩))) 2) 1).target (lcG (subE (rootE ((defBody s_are_tiers).getD 1 (.Pass ⟨0, 0, 0, 0⟩))) 2) 1).iter _); dsimp only [Cx.blk, Cx.tr, Cx.suite, Cx.nox, Cx.wish, cxOf] at h; exact h)) (fun _ _ _ _ _ => pg_name (i := 3) sc_are_tiers.nd rfl (Or.inl rfl)) (fun _ _ _ _ _ => pts_nil) (fun _ _ _ _ _ => (pv 3))) pa_nil)))))), ?_⟩
    have lx : xs.length = ds.length := ha.len
    have l20 := hw.1
    refine ⟨.ref t, rfl, t, rfl, ⟨_, .of ht⟩, fun D nD => ?_⟩
    refine lc_tup (K := K) (a := t) (xs := xs) (fun i H' => Same H H' ∧ H' D = some (.lst (((ds.take i).map tierD).map V.bl))) ⟨same_upd nD, upd_same⟩ (fun _ _ _ h => .of (h.1 _ _ ht)) ?_ ?_
    · rintro i x H1 hi ⟨s1, e1⟩
      obtain ⟨kk, hkk, hx⟩ := ha.get hi
      have hx := DAt.same s1 _ hx
      obtain ⟨ty, hty, k1, _⟩ := hx.ty (K := K)
      have fin : ∀ b, b = tierD kk → ∃ acc, H1 D = some (.lst acc) ∧ acc.length < sizeLine ∧ Same H (upd H1 D (.lst (acc ++ [V.bl b]))) ∧ (upd H1 D (.lst (acc ++ [V.bl b]))) D = some (.lst (((ds.take (i + 1)).map tierD).map V.bl)) := fun b e => by
        refine ⟨_, e1, ?_, same_mut s1 nD, ?_⟩
        · rw [List.length_map, List.length_map, List.length_take]
          exact small1000 (by omega)
        · rw [upd_same, take_more hkk, List.map_append, List.map_append, e]
          rfl
      refine ⟨rfl, x, rfl, x, _, ty, _, dT kk, rfl, .ty _, hty, k1, dT kk, rfl, ?_⟩
      cases kk with
      | tuple l =>
        obtain ⟨a1, ys, rfl, h1, h2⟩ := hx
        refine iteT ⟨.ref a1, rfl, a1, _, rfl, .inr (.of h1), _, _, rfl, rfl, fin _ ?_⟩
        rw [h2.len]
        exact decide_eq_decide.mpr ⟨fun h => by omega, fun h => by omega⟩
      | _ => exact iteF (fin _ rfl)
    · rintro H1 ⟨s1, e1⟩
      rw [lx, List.take_length] at e1
      refine ⟨D, _, rfl, .of e1, _, rfl, ?_⟩
      have ea : (ds.map tierD).all id = ds.all tierD := by rw [List.all_map]; rfl
      rw [ea]
      cases hs : ds.all tierD with
      | false =>
        refine iteT ?_
        have := q H1 s1
        unfold tiersD at this
        rw [hs] at this
        exact this
      | true =>
        have q : ∀ H', Same H H' → Q (.bl (unlikeD zs (ds.flatMap parts))) H' := fun H' s' => by
          have := q H' s'
          unfold tiersD at this
          rw [hs] at this
          exact this
        refine iteF ⟨.ref o, rfl, .ref t, rfl, t, rfl, ⟨_, .of (s1 _ _ ht)⟩, fun D2 nD2 => ?_⟩
        have every : ∀ {i : Nat} {k : PyData}, ds[i]? = some k → ∃ l, k = .tuple l := fun {i k} h => by
          have := List.all_eq_true.mp hs _ (List.mem_of_getElem? h)
          cases k with
          | tuple l => exact ⟨l, rfl⟩
          | _ => cases this
        refine outer_tup (K := K) (a := t) (xs := xs) (fun i H' => ∃ ys, Same H1 H' ∧ H' D2 = some (.lst ys) ∧ DAll H1 ((ds.take i).flatMap parts) ys) ⟨[], same_upd nD2, upd_same, rfl⟩ (fun _ _ ⟨_, h, _⟩ => .of (h _ _ (s1 _ _ ht))) ?_ ?_
        · rintro i x H2 hi ⟨ys, s2, e2, d2⟩
          obtain ⟨kk, hkk, hx⟩ := ha.get hi
          obtain ⟨l, rfl⟩ := every hkk
          obtain ⟨a1, us, rfl, h1, h2⟩ := hx
          have h1 := s1 _ _ h1
          have h2 := DAll.same s1 _ h2
          have lu : us.length = l.length := h2.len
          refine ⟨rfl, .ref a1, rfl, a1, rfl, ⟨_, .of (s2 _ _ h1)⟩, inner_tup (K := K) (b := a1) (ys := us) (fun j H' => ∃ zs', Same H1 H' ∧ H' D2 = some (.lst (ys ++ zs')) ∧ DAll H1 (l.take j) zs') ⟨[], s2, by rw [List.append_nil]; exact e2, rfl⟩ (fun _ _ ⟨_, h, _⟩ => .of (h _ _ h1)) ?_ ?_⟩
          · rintro j u H3 hj ⟨zs', s3, e3, d3⟩
            obtain ⟨ku, hku, hu⟩ := h2.get hj
            refine ⟨rfl, u, rfl, _, e3, ?_, zs' ++ [u], same_mut s3 nD2, by rw [upd_same, List.append_assoc], ?_⟩
            · have z1 := d2.len
              have z2 := d3.len
              have z3 : ((ds.take i).flatMap parts).length ≤ 400 := flat_le ⟨by rw [List.length_take]; omega, fun d hd => hw.2 d (List.mem_of_mem_take hd)⟩
              have z4 := hw.2 _ (List.mem_of_getElem? hkk)
              have z5 : (parts (.tuple l)).length = l.length := rfl
              rw [List.length_take] at z2
              rw [List.length_append]
              exact small1000 (by omega)
            · rw [take_more hku]
              exact d3.append (da1 hu da0)
          · rintro H3 ⟨zs', s3, e3, d3⟩
            rw [lu, List.take_length] at d3
            refine ⟨_, s3, e3, ?_⟩
            rw [take_more hkk, List.flatMap_append]
            exact d2.append (by simpa [parts] using d3)
        · rintro H2 ⟨ys, s2, e2, d2⟩
          rw [lx, List.take_length] at d2
          exact ⟨o, D2, zs, ys, _, rfl, s2 _ _ (s1 _ _ ho), .inl e2, DAll.same s2 _ d2, by have := flat_le hw; omega, fun H3 s3 => q H3 (s1.trans (s2.trans s3))⟩
end
section
variable {P : Program} {w : World} {K : PySem.W.Frag} {mg : Str → Option Value} {base : Heap}
theorem tupD_two : ∀ {d : PyData}, tupD d 2 = true → ∃ a b, d = .tuple [a, b]
  | .tuple [a, b], _ => ⟨a, b, rfl⟩
  | .tuple [], h => (by cases h)
  | .tuple [_], h => (by cases h)
  | .tuple (_ :: _ :: _ :: _), h => (by simp [tupD] at h)
  | .none, h => (by cases h)
  | .bool _, h => (by cases h)
  | .int _, h => (by cases h)
  | .str _, h => (by cases h)
  | .list _, h => (by cases h)
  | .dict _, h => (by cases h)
theorem pairD_two {d : PyData} (h : tupD d 2 = false) : pairD d = false := by
  unfold pairD
  split
  · simp [tupD] at h
  · rfl
theorem ballotD_two {zs : List Str} {d : PyData} (h : tupD d 2 = false) : ballotD zs d = false := by
  unfold ballotD
  split
  · simp [tupD] at h
  · rfl
def sp_are_marks : Sp := fun vs H Q _ => ∃ (o t : Addr) (zs : List Str) (xs : List V) (ds : List PyData), vs = [.ref o, .ref t] ∧ H o = some (.tup (zs.map V.str)) ∧ H t = some (.tup xs) ∧ DAll H ds xs ∧ ds.length ≤ 20 ∧ ∀ H', Same H H' → Q (.bl (marksD zs ds)) H'
theorem ok_are_marks (T : Txt K mg) : FnOk P w K mg base CX0 3 T.f_are_marks T.fd_are_marks ["options", "told"] sp_are_marks := by
  refine T.F_are_marks.ok sc_are_marks (fun vs H Q E h => ?_) (fun cdv A outer s H vs Q E hr h => ?_)
  · obtain ⟨o, t, zs, xs, ds, rfl, _⟩ := h
    rfl
  · obtain ⟨o, t, zs, xs, ds, rfl, ho, ht, ha, l20, q⟩ := h
    refine ⟨_, (pss_cons
 (ps_if (pt_not (pt_val (pe_callB (cr_all rfl) (by rfl) T.z_all (by decide +kernel) (pa_cons (pe_lc (own := [("pair", 2)]) (g := gName 2) (tt := tYes) rfl sc_are_marks.nd (pi_tup (pv 1)) (blkOk_by (own := [("pair", 2)]) (N := ["options", "told", "pair"]) (sc := defScope s_are_marks) (by decide +kernel)) (fun _ _ _ _ _ => pg_name (i := 2) sc_are_marks.nd rfl (Or.inl rfl)) (fun _ _ _ _ _ => pts_nil) (fun s0 H0 C0 cl0 fp0 => (by have h := ((pe_and (pe_call (ok_is_tuple_of T) (hr.mono (by decide)) (by rfl) T.g_is_tuple_of T.F_is_tuple_of.kp T.b_is_tuple_of .nil pass0 (pa_cons (pv 2) (pa_cons pe_int pa_nil))) (pe_one (pe_call (ok_is_mark T) (hr.mono (by decide)) (by rfl) T.g_is_mark T.F_is_mark.kp T.b_is_mark .nil pass0 (pa_cons (pe_ix ix_tup (pv 2) pe_int (fun _ _ => rfl)) pa_nil)))) : PE ((cxOf CX0 P w K mg base ["options", "told", "pair"] "are_marks" (defScope s_are_marks) T.f_are_marks cdv A outer s H E).nox.blk s0 H0 (lcScope (subE (subE (rootE ((defBody s_are_marks).getD 0 (.Pass ⟨0, 0, 0, 0⟩))) 0) 1)) (compEnvC (lcScope (subE (subE (rootE ((defBody s_are_marks).getD 0 (.Pass ⟨0, 0, 0, 0⟩))) 0) 1)) cl0 C0 (cxOf CX0 P w K mg base ["options", "told", "pair"] "are_marks" (defScope s_are_marks) T.f_are_marks cdv A outer s H E).nox.env) fp0) (subE (subE (subE (rootE ((defBody s_are_marks).getD 0 (.Pass ⟨0, 0, 0, 0⟩))) 0) 1) 0) _); dsimp only [Cx.blk, Cx.tr, Cx.suite, Cx.nox, Cx.wish, cxOf] at h; exact h))) pa_nil))))
 (pss_one
 (ps_ret pe_bl))
 pss_nil)
 (pss_one
 (ps_ret (pe_call (ok_are_unlike_options T) (hr.mono (by decide)) (by rfl) T.g_are_unlike_options T.F_are_unlike_options.kp T.b_are_unlike_options .nil pass0 (pa_cons (pv 0) (pa_cons (pe_lc (own := [("pair", 2)]) (g := gName 2) (tt := tYes) rfl sc_are_marks.nd (pi_tup (pv 1)) (blkOk_by (own := [("pair", 2)]) (N := ["options", "told", "pair"]) (sc := defScope s_are_marks) (by decide +kernel)) (fun _ _ _ _ _ => pg_name (i := 2) sc_are_marks.nd rfl (Or.inl rfl)) (fun _ _ _ _ _ => pts_nil) (fun s0 H0 C0 cl0 fp0 => (by have h := ((pe_ix ix_tup (pv 2) pe_int (fun _ _ => rfl)) : PE ((cxOf CX0 P w K mg base ["options", "told", "pair"] "are_marks" (defScope s_are_marks) T.f_are_marks cdv A outer s H E).nox.blk s0 H0 (lcScope (subE (rootE ((defBody s_are_marks).getD 1 (.Pass ⟨0, 0, 0, 0⟩))) 2)) (compEnvC (lcScope (subE (rootE ((defBody s_are_marks).getD 1 (.Pass ⟨0, 0, 0, 0⟩))) 2)) cl0 C0 (cxOf CX0 P w K mg base ["options", "told", "pair"] "are_marks" (defScope s_are_marks) T.f_are_marks cdv A outer s H E).nox.env) fp0) (subE (subE (rootE ((defBody s_are_marks).getD 1 (.Pass ⟨0, 0, 0, 0⟩))) 2) 0) _); dsimp only [Cx.blk, Cx.tr, Cx.suite, Cx.nox, Cx.wish, cxOf] at h; exact h))) pa_nil)))))), ?_⟩
    have lx : xs.length = ds.length := ha.len
    refine ⟨.ref t, rfl, t, rfl, ⟨_, .of ht⟩, fun D nD => ?_⟩
    refine lc_tup (K := K) (a := t) (xs := xs) (fun i H' => Same H H' ∧ H' D = some (.lst (((ds.take i).map pairD).map V.bl))) ⟨same_upd nD, upd_same⟩ (fun _ _ _ h => .of (h.1 _ _ ht)) ?_ ?_
    · rintro i x H1 hi ⟨s1, e1⟩
      obtain ⟨kk, hkk, hx⟩ := ha.get hi
      have hx := DAt.same s1 _ hx
      have fin : ∀ b, b = pairD kk → ∃ acc, H1 D = some (.lst acc) ∧ acc.length < sizeLine ∧ Same H (upd H1 D (.lst (acc ++ [V.bl b]))) ∧ (upd H1 D (.lst (acc ++ [V.bl b]))) D = some (.lst (((ds.take (i + 1)).map pairD).map V.bl)) := fun b e => by
        refine ⟨_, e1, ?_, same_mut s1 nD, ?_⟩
        · rw [List.length_map, List.length_map, List.length_take]
          exact small1000 (by omega)
        · rw [upd_same, take_more hkk, List.map_append, List.map_append, e]
          rfl
      refine ⟨rfl, x, rfl, x, 2, kk, rfl, hx, tupD kk 2, rfl, ?_⟩
      cases h2 : tupD kk 2 with
      | false => exact iteF (fin _ (pairD_two h2).symm)
      | true =>
        obtain ⟨a, b, rfl⟩ := tupD_two h2
        obtain ⟨a1, ys, rfl, h1, v0, r, rfl, _, v1, r2, rfl, hb, rfl⟩ := hx
        exact iteT ⟨.ref a1, rfl, a1, _, 1, v1, rfl, rfl, .of h1, atI_nat (j := 1) rfl, v1, b, rfl, hb, fin _ rfl⟩
    · rintro H1 ⟨s1, e1⟩
      rw [lx, List.take_length] at e1
      refine ⟨D, _, rfl, .of e1, _, rfl, ?_⟩
      have ea : (ds.map pairD).all id = ds.all pairD := by rw [List.all_map]; rfl
      rw [ea]
      cases hs : ds.all pairD with
      | false =>
        refine iteT ?_
        have := q H1 s1
        unfold marksD at this
        rw [hs] at this
        exact this
      | true =>
        have q : ∀ H', Same H H' → Q (.bl (unlikeD zs (ds.map firstD))) H' := fun H' s' => by
          have := q H' s'
          unfold marksD at this
          rw [hs] at this
          exact this
        refine iteF ⟨.ref o, rfl, .ref t, rfl, t, rfl, ⟨_, .of (s1 _ _ ht)⟩, fun D2 nD2 => ?_⟩
        refine lc_tup (K := K) (a := t) (xs := xs) (fun i H' => ∃ ys, Same H1 H' ∧ H' D2 = some (.lst ys) ∧ DAll H1 ((ds.take i).map firstD) ys) ⟨[], same_upd nD2, upd_same, rfl⟩ (fun _ _ _ ⟨_, h, _⟩ => .of (h _ _ (s1 _ _ ht))) ?_ ?_
        · rintro i x H2 hi ⟨ys, s2, e2, d2⟩
          obtain ⟨kk, hkk, hx⟩ := ha.get hi
          have hp := List.all_eq_true.mp hs _ (List.mem_of_getElem? hkk)
          have h2 : tupD kk 2 = true := by
            cases h : tupD kk 2 with
            | true => rfl
            | false => rw [pairD_two h] at hp; cases hp
          obtain ⟨a, b, rfl⟩ := tupD_two h2
          obtain ⟨a1, us, rfl, h1, v0, r, rfl, hv, v1, r2, rfl, _, rfl⟩ := hx
          refine ⟨rfl, .ref a1, rfl, a1, _, 0, v0, rfl, rfl, .of ((s1.trans s2) _ _ h1), atI_nat (j := 0) rfl, _, e2, ?_, ys ++ [v0], same_mut s2 nD2, upd_same, ?_⟩
          · rw [d2.len, List.length_map, List.length_take]
            exact small1000 (by omega)
          · rw [take_more hkk, List.map_append]
            exact d2.append (da1 (DAt.same s1 _ hv) da0)
        · rintro H2 ⟨ys, s2, e2, d2⟩
          rw [lx, List.take_length] at d2
          exact ⟨o, D2, zs, ys, _, rfl, s2 _ _ (s1 _ _ ho), .inl e2, DAll.same s2 _ d2, by rw [List.length_map]; omega, fun H3 s3 => q H3 (s1.trans (s2.trans s3))⟩
/-- no part too long: what a ballot's second half may be -/
def Fit : PyData → Prop
  | .tuple [_, .tuple l] => Wide l
  | _ => True
def sp_is_ballot : Sp := fun vs H Q _ => ∃ (o : Addr) (zs : List Str) (v : V) (d : PyData), vs = [.ref o, v] ∧ H o = some (.tup (zs.map V.str)) ∧ DAt H d v ∧ Fit d ∧ ∀ H', Same H H' → Q (.bl (ballotD zs d)) H'
theorem ok_is_ballot (T : Txt K mg) : FnOk P w K mg base CX0 4 T.f_is_ballot T.fd_is_ballot ["options", "thing"] sp_is_ballot := by
  refine T.F_is_ballot.ok sc_is_ballot (fun vs H Q E h => ?_) (fun cdv A outer s H vs Q E hr h => ?_)
  · obtain ⟨o, zs, v, d, rfl, _⟩ := h
    rfl
  · obtain ⟨o, zs, v, d, rfl, ho, hd, hf, q⟩ := h
    refine ⟨_, (pss_cons
 (ps_if (PW.pt (pw_or (pt_not (pt_val (pe_call (ok_is_tuple_of T) (hr.mono (by decide)) (by rfl) T.g_is_tuple_of T.F_is_tuple_of.kp T.b_is_tuple_of .nil pass0 (pa_cons (pv 1) (pa_cons pe_int pa_nil))))) (pw_or (pt_not (pt_val (pe_callB call_isi (by rfl) T.z_isinstance (by decide +kernel) (pa_cons (pe_ix ix_tup (pv 1) pe_int (fun _ _ => rfl)) (pa_cons (pe_bltn (v := .ty "str") (u := .type "str") rfl T.z_str (by decide +kernel) rfl) pa_nil))))) (pw_or1 (pt_not (pt_val (pe_callB call_isi (by rfl) T.z_isinstance (by decide +kernel) (pa_cons (pe_ix ix_tup (pv 1) pe_int (fun _ _ => rfl)) (pa_cons (pe_bltn (v := .ty "tuple") (u := .type "tuple") rfl T.z_tuple (by decide +kernel) rfl) pa_nil)))))))))
 (pss_one
 (ps_ret pe_bl))
 pss_nil)
 (pss_cons
 (ps_asg (pv 1) (pg_tup rfl (pgs_cons (pg_name (i := 2) sc_is_ballot.nd rfl (Or.inl rfl)) (pgs_cons (pg_name (i := 3) sc_is_ballot.nd rfl (Or.inl rfl)) pgs_nil))))
 (pss_cons
 (ps_if (pt_cmpR op_eq (pv 2) pe_str (nomark _))
 (pss_one
 (ps_ret (pe_call (ok_are_tiers T) (hr.mono (by decide)) (by rfl) T.g_are_tiers T.F_are_tiers.kp T.b_are_tiers .nil pass0 (pa_cons (pv 0) (pa_cons (pv 3) pa_nil)))))
 pss_nil)
 (pss_cons
 (ps_if (pt_cmpR op_eq (pv 2) pe_str (nomark _))
 (pss_one
 (ps_ret (pe_call (ok_are_unlike_options T) (hr.mono (by decide)) (by rfl) T.g_are_unlike_options T.F_are_unlike_options.kp T.b_are_unlike_options .nil pass0 (pa_cons (pv 0) (pa_cons (pv 3) pa_nil)))))
 pss_nil)
 (pss_cons
 (ps_if (pt_cmpR op_eq (pv 2) pe_str (nomark _))
 (pss_one
 (ps_ret (pe_call (ok_are_marks T) (hr.mono (by decide)) (by rfl) T.g_are_marks T.F_are_marks.kp T.b_are_marks .nil pass0 (pa_cons (pv 0) (pa_cons (pv 3) pa_nil)))))
 pss_nil)
 (pss_one
 (ps_ret pe_bl))))))), ?_⟩
    have q0 := q H (Same.refl H)
    refine ⟨v, rfl, v, 2, d, rfl, hd, tupD d 2, rfl, ?_⟩
    cases h2 : tupD d 2 with
    | false =>
      rw [ballotD_two h2] at q0
      exact iteT q0
    | true =>
      obtain ⟨a, b, rfl⟩ := tupD_two h2
      obtain ⟨p, xs, rfl, hp, v0, r, rfl, ha, v1, r2, rfl, hb, rfl⟩ := hd
      obtain ⟨t0, ht0, _, k0, _⟩ := ha.ty (K := K)
      refine iteF ⟨.ref p, rfl, p, _, 0, v0, rfl, rfl, .of hp, atI_nat (j := 0) rfl, v0, _, t0, _, dS a, rfl, .ty _, ht0, k0, dS a, rfl, ?_⟩
      cases a with
      | str f =>
        obtain ⟨t1, ht1, k1, _⟩ := hb.ty (K := K)
        refine iteF ⟨.ref p, rfl, p, _, 1, v1, rfl, rfl, .of hp, atI_nat (j := 1) rfl, v1, _, t1, _, dT b, rfl, .ty _, ht1, k1, dT b, rfl, ?_⟩
        cases b with
        | tuple l =>
          obtain ⟨pt, us, rfl, hpt, hl⟩ := hb
          rw [show v0 = V.str f from ha] at hp
          have wl : Wide l := hf
          refine iteF ⟨.ref p, rfl, p, _, rfl, .of hp, rfl, _, _, rfl, _, _, rfl, rfl, ?_⟩
          have es : ∀ z : Str, decide (V.str f = V.str z) = decide (f = z) := fun z => decide_eq_decide.mpr ⟨fun h => V.str.inj h, fun h => by rw [h]⟩
          have eq : ballotD zs (.tuple [.str f, .tuple l]) = if f = "order" then tiersD zs l else if f = "lets" then unlikeD zs l else if f = "marks" then marksD zs l else false := rfl
          rw [eq] at q q0
          refine ⟨.str f, rfl, rfl, _, rfl, ?_⟩
          rw [es]
          by_cases e1 : f = "order"
          · rw [decide_eq_true e1]
            rw [if_pos e1] at q
            exact iteT ⟨.ref o, rfl, .ref pt, rfl, o, pt, zs, us, l, rfl, ho, hpt, hl, wl, q⟩
          · rw [decide_eq_false e1]
            rw [if_neg e1] at q q0
            refine iteF ⟨.str f, rfl, rfl, _, rfl, ?_⟩
            rw [es]
            by_cases e2 : f = "lets"
            · rw [decide_eq_true e2]
              rw [if_pos e2] at q
              exact iteT ⟨.ref o, rfl, .ref pt, rfl, o, pt, zs, us, l, rfl, ho, .inr hpt, hl, by have := wl.1; omega, q⟩
            · rw [decide_eq_false e2]
              rw [if_neg e2] at q q0
              refine iteF ⟨.str f, rfl, rfl, _, rfl, ?_⟩
              rw [es]
              by_cases e3 : f = "marks"
              · rw [decide_eq_true e3]
                rw [if_pos e3] at q
                exact iteT ⟨.ref o, rfl, .ref pt, rfl, o, pt, zs, us, l, rfl, ho, hpt, hl, wl.1, q⟩
              · rw [decide_eq_false e3]
                rw [if_neg e3] at q0
                exact iteF q0
        | none => exact iteT q0
        | bool _ => exact iteT q0
        | int _ => exact iteT q0
        | str _ => exact iteT q0
        | list _ => exact iteT q0
        | dict _ => exact iteT q0
      | none => exact iteT q0
      | bool _ => exact iteT q0
      | int _ => exact iteT q0
      | tuple _ => exact iteT q0
      | list _ => exact iteT q0
      | dict _ => exact iteT q0
def BadE (C : Addr) (H : Hp) (E : XK) : Prop := ∀ (d : Addr) (fs : List (Str × V)) (H' : Hp), Same H H' → H d = none → H' d = some (.xd fs) → E (.ref C) (some d) H'
def sp_PollError_init (K : PySem.W.Frag) : Sp := fun vs H Q _ => ∃ (a C : Addr) (z : Str), vs = [.ref a, .str z] ∧ H a = some (exo a C none) ∧ OexC K C ∧ PySem.W.findIn K (.ref C) "why" = some none ∧
  ∀ dx, H dx = none → dx ≠ a → Q .non (upd (upd H dx (exd dx [("why", .str z)])) a (exo a C (some dx)))
theorem ok_PollError_init (T : Txt K mg) : FnOk P w K mg base CX0 1 T.f_PollError_init T.fd_PollError_init ["self", "why"] (sp_PollError_init K) := by
  refine T.F_PollError_init.ok (CX := CX0) sc_PollError_init (fun vs H Q E h => ?_) (fun cdv A outer s H vs Q E hr h => ?_)
  · obtain ⟨a, C, z, rfl, _⟩ := h
    rfl
  · obtain ⟨a, C, z, rfl, ha, hT, hno, q⟩ := h
    refine ⟨_, (pss_cons
 (ps_expr (pe_veinit (by rfl) T.z_ValueError T.vV (pa_cons (pv 0) (pa_cons (pv 1) pa_nil))))
 (pss_one
 (ps_ost (pv 0) (pv 1)))), ?_⟩
    refine ⟨.ref a, rfl, .str z, rfl, a, C, [.str z], rfl, (by show 1 ≤ 1000; decide), hT, ha, ?_⟩
    exact ⟨.str z, rfl, .ref a, rfl, a, C, rfl, hT, hno, .inl ⟨ha, fun dx n1 n2 => q dx n1 n2⟩⟩
def sp_check_ballot (CB : Addr) : Sp := fun vs H Q E => ∃ (o : Addr) (zs : List Str) (v : V) (d : PyData), vs = [.ref o, v] ∧ H o = some (.tup (zs.map V.str)) ∧ DAt H d v ∧ Fit d ∧ (ballotD zs d = true → ∀ H', Same H H' → Q .non H') ∧ (ballotD zs d = false → BadE CB H E)
theorem ok_check_ballot (T : Txt K mg) : FnOk P w K mg base (L2.CX P w) 5 T.f_check_ballot T.fd_check_ballot ["options", "ballot"] (sp_check_ballot T.C_BadBallot) := by
  refine T.F_check_ballot.okX sc_check_ballot (fun vs H Q E h => ?_) (fun cdv A outer s H vs Q E hr h => ?_)
  · obtain ⟨o, zs, v, d, rfl, _⟩ := h
    rfl
  · obtain ⟨o, zs, v, d, rfl, ho, hd, hf, qt, qf⟩ := h
    refine ⟨_, (pss_one
 (ps_if (pt_not (pt_val (pe_call (ok_is_ballot T) (hr.mono (by decide)) (by rfl) T.g_is_ballot T.F_is_ballot.kp T.b_is_ballot .nil pass0 (pa_cons (pv 0) (pa_cons (pv 1) pa_nil)))))
 (pss_one
 (ps_raise rfl (takes_of rfl rfl rfl rfl) (px_pos T.ex_BadBallot (ok_PollError_init T) (hr.mono (by decide)) (by rfl) T.k_BadBallot T.kb_PollError_init_2 (fun σ => at0 σ) (pa_cons pe_str pa_nil))))
 pss_nil)), ?_⟩
    refine ⟨.ref o, rfl, v, rfl, o, zs, v, d, rfl, ho, hd, hf, fun H1 s1 => ⟨_, rfl, ?_⟩⟩
    cases hb : ballotD zs d with
    | true => exact iteF (qt hb _ s1)
    | false =>
      refine iteT ⟨rfl, rfl, by decide, fun x nx => ⟨x, T.C_BadBallot, _, rfl, upd_same, T.ox_BadBallot, T.nf_BadBallot_why, fun dx n1 n2 => ⟨rfl, dx, _, upd_same, by rw [upd_ne n2, upd_same], ?_, ?_⟩⟩⟩
      · rw [upd_ne n2] at n1
        exact n1
      · rw [upd_ne n2] at n1
        refine qf hb dx _ _ (s1.trans fun y o ho => ?_) (s1.free n1) upd_same
        have y1 : y ≠ dx := ne_of_none ho n1
        have y2 : y ≠ x := ne_of_none ho nx
        rw [upd_ne y1, del_ne y2, upd_ne y2, upd_ne y1, upd_ne y2]
        exact ho
end
/-! ### the law's own look at a ballot -/
/-- how many of the first i are met for the first time -/
def dup (ds : List PyData) (i : Nat) : Bool := (ds.take i).any fun z => PyData.eqv z (ds.getD i .none)
def kept (ds : List PyData) : Nat → Nat
  | 0 => 0
  | i + 1 => kept ds i + if dup ds i = true then 0 else 1
theorem kept_le (ds : List PyData) : ∀ i, kept ds i ≤ i
  | 0 => Nat.le_refl _
  | i + 1 => by
    have := kept_le ds i
    unfold kept
    split <;> omega
theorem kept_full (ds : List PyData) : ∀ i, kept ds i = i ↔ ∀ j, j < i → dup ds j = false
  | 0 => ⟨fun _ _ h => absurd h (Nat.not_lt_zero _), fun _ => rfl⟩
  | i + 1 => by
    have ih := kept_full ds i
    have le := kept_le ds i
    unfold kept
    constructor
    · intro h j hj
      by_cases hd : dup ds i = true
      · rw [if_pos hd] at h
        omega
      · rw [if_neg hd] at h
        rcases Nat.lt_succ_iff_lt_or_eq.mp hj with h1 | h1
        · exact ih.mp (by omega) j h1
        · rw [h1]
          simpa using hd
    · intro h
      have h1 := ih.mpr fun j hj => h j (Nat.lt_succ_of_lt hj)
      have h2 := h i (Nat.lt_succ_self _)
      rw [h2, if_neg Bool.false_ne_true, h1]
theorem dup_str (ws : List Str) (i : Nat) (h : i < ws.length) : dup (ws.map PyData.str) i = decide (ws[i] ∈ ws.take i) := by
  unfold dup
  have e : (ws.map PyData.str).getD i .none = .str ws[i] := by
    rw [List.getD_eq_getElem?_getD, List.getElem?_map, List.getElem?_eq_getElem h] <;> rfl
  rw [e, ← List.map_take, List.any_map]
  generalize ws[i] = z
  generalize ws.take i = l
  induction l with
  | nil => rfl
  | cons a l ih =>
    rw [List.any_cons, ih]
    show ((a == z) || decide (z ∈ l)) = decide (z ∈ a :: l)
    by_cases q : a = z
    · rw [q]
      simp
    · have : (a == z) = false := beq_eq_false_iff_ne.mpr q
      rw [this, Bool.false_or]
      exact decide_eq_decide.mpr ⟨fun m => List.mem_cons_of_mem _ m, fun m => (List.mem_cons.mp m).elim (fun e => absurd e.symm q) id⟩
theorem kept_str (ws : List Str) : kept (ws.map PyData.str) ws.length = ws.length ↔ ws.Nodup := by
  rw [kept_full]
  have step : (∀ j, j < ws.length → dup (ws.map PyData.str) j = false) ↔ ∀ j (h : j < ws.length), ws[j] ∉ ws.take j := by
    refine forall_congr' fun j => forall_congr' fun h => ?_
    rw [dup_str ws j h]
    exact ⟨fun e => of_decide_eq_false e, fun e => decide_eq_false e⟩
  rw [step]
  unfold List.Nodup
  rw [List.pairwise_iff_getElem]
  constructor
  · intro h i j hi hj ij e
    refine h j hj ?_
    rw [← e]
    exact List.mem_take_iff_getElem.mpr ⟨i, by omega, rfl⟩
  · intro h j hj m
    obtain ⟨i, hi, e⟩ := List.mem_take_iff_getElem.mp m
    exact h i j (by omega) hj (by omega) e
theorem OkA.filter {n m : Nat} (f : PyData → Bool) : ∀ {ds : List PyData}, OkA n m ds → OkA n m (ds.filter f)
  | [], _ => OkA.nil
  | d :: ds, h => by
    have e := h.wei
    rw [PyData.weightAll] at e
    have hd : Ok n d.weight d := ⟨h.head.lay, h.head.dep, h.head.sho, h.head.lea, Nat.le_refl _⟩
    have ha : OkA n (PyData.weightAll ds) ds := ⟨h.tail.lay, h.tail.dep, h.tail.sho, h.tail.lea, Nat.le_refl _⟩
    by_cases c : f d = true
    · rw [List.filter_cons_of_pos c]
      exact (OkA.cons hd (ha.filter f)).mono (Nat.le_refl _) (by omega)
    · rw [List.filter_cons_of_neg c]
      exact (ha.filter f).mono (Nat.le_refl _) (by omega)
section
variable {P : Program} {w : World} {K : PySem.W.Frag} {mg : Str → Option Value} {base : Heap}
def sp_law_are_names : Sp := fun vs H Q _ => ∃ (l o : Addr) (zs : List Str) (xs : List V) (ds : List PyData) (m : Nat), vs = [.ref l, .ref o] ∧ H l = some (.lst xs) ∧ H o = some (.tup (zs.map V.str)) ∧ DAll H ds xs ∧ ds.length ≤ 500 ∧ OkA 20 m ds ∧ ∀ H', Same H H' → Q (.bl (unlikeD zs ds)) H'
theorem ok_law_are_names (T : Txt K mg) : FnOk P w K mg base CX0 1 T.f_law_are_names T.fd_law_are_names ["_law_some", "_law_choices"] sp_law_are_names := by
  refine T.F_law_are_names.ok sc_law_are_names (fun vs H Q E h => ?_) (fun cdv A outer s H vs Q E hr h => ?_)
  · obtain ⟨l, o, zs, xs, ds, m, rfl, _⟩ := h
    rfl
  · obtain ⟨l, o, zs, xs, ds, m, rfl, hl, ho, ha, l500, ok, q⟩ := h
    refine ⟨_, (pss_cons
 (ps_setLc (i := 2) (own := [("_law_one_here", 4)]) (g := gName 4) rfl sc_law_are_names.nd rfl rfl (sw_true rfl rfl rfl (by decide +kernel)) (pi_list (pv 0)) (blkOk_by (own := [("_law_one_here", 4)]) (N := ["_law_some", "_law_choices", "_law_found", "_law_unlike", "_law_one_here", "_law_k"]) (sc := defScope s_law_are_names) (by decide +kernel)) (fun _ _ _ _ _ => pg_name (i := 4) sc_law_are_names.nd rfl (Or.inl rfl)) (fun s0 H0 C0 cl0 fp0 => (by have h := ((pts_one (PW.pt (pw_or (pt_not (pt_val (pe_callB call_isi (by rfl) T.z_isinstance (by decide +kernel) (pa_cons (pv 4) (pa_cons (pe_bltn (v := .ty "str") (u := .type "str") rfl T.z_str (by decide +kernel) rfl) pa_nil))))) (pw_or1 (pt_cmpR op_notIn_seq (pv 4) (pv 1) rfl))))) : PTs ((cxOf CX0 P w K mg base ["_law_some", "_law_choices", "_law_found", "_law_unlike", "_law_one_here", "_law_k"] "_law_are_names" (defScope s_law_are_names) T.f_law_are_names cdv A outer s H E).nox.blk s0 H0 (lcScope (rootE ((defBody s_law_are_names).getD 0 (.Pass ⟨0, 0, 0, 0⟩)))) (compEnvC (lcScope (rootE ((defBody s_law_are_names).getD 0 (.Pass ⟨0, 0, 0, 0⟩)))) cl0 C0 (cxOf CX0 P w K mg base ["_law_some", "_law_choices", "_law_found", "_law_unlike", "_law_one_here", "_law_k"] "_law_are_names" (defScope s_law_are_names) T.f_law_are_names cdv A outer s H E).nox.env) fp0) (lcIfs (rootE ((defBody s_law_are_names).getD 0 (.Pass ⟨0, 0, 0, 0⟩)))) _); dsimp only [Cx.blk, Cx.tr, Cx.suite, Cx.nox, Cx.wish, cxOf] at h; exact h)) (fun _ _ _ _ _ => (pv 4)))
 (pss_cons
 (ps_setLc (i := 3) (own := [("_law_k", 5), ("_law_one_here", 4)]) rfl sc_law_are_names.nd rfl rfl (sw_true rfl rfl rfl (by decide +kernel)) (pi_enum (by rfl) T.z_enumerate (pa_cons (pv 0) pa_nil)) (blkOk_by (own := [("_law_k", 5), ("_law_one_here", 4)]) (N := ["_law_some", "_law_choices", "_law_found", "_law_unlike", "_law_one_here", "_law_k"]) (sc := defScope s_law_are_names) (by decide +kernel)) (fun s0 H0 C0 cl0 fp0 => (by have h := (pg_tup (n := 2) rfl (pgs_cons (pg_name (i := 5) sc_law_are_names.nd rfl (Or.inl rfl)) (pgs_cons (pg_name (i := 4) sc_law_are_names.nd rfl (Or.inl rfl)) pgs_nil)) : PG ((cxOf CX0 P w K mg base ["_law_some", "_law_choices", "_law_found", "_law_unlike", "_law_one_here", "_law_k"] "_law_are_names" (defScope s_law_are_names) T.f_law_are_names cdv A outer s H E).nox.blk s0 H0 (lcScope (rootE ((defBody s_law_are_names).getD 1 (.Pass ⟨0, 0, 0, 0⟩)))) (compEnvC (lcScope (rootE ((defBody s_law_are_names).getD 1 (.Pass ⟨0, 0, 0, 0⟩)))) cl0 C0 (cxOf CX0 P w K mg base ["_law_some", "_law_choices", "_law_found", "_law_unlike", "_law_one_here", "_law_k"] "_law_are_names" (defScope s_law_are_names) T.f_law_are_names cdv A outer s H E).nox.env) fp0) (subE (rootE ((defBody s_law_are_names).getD 1 (.Pass ⟨0, 0, 0, 0⟩))) 2) _); dsimp only [Cx.blk, Cx.tr, Cx.suite, Cx.nox, Cx.wish, cxOf] at h; exact h)) (fun s0 H0 C0 cl0 fp0 => (by have h := ((pts_one (pt_cmpR (op_notInD (hu65 hr)) (pv 4) (pe_slice sl_list (pv 0) po_none (po_some (pv 5))) rfl)) : PTs ((cxOf CX0 P w K mg base ["_law_some", "_law_choices", "_law_found", "_law_unlike", "_law_one_here", "_law_k"] "_law_are_names" (defScope s_law_are_names) T.f_law_are_names cdv A outer s H E).nox.blk s0 H0 (lcScope (rootE ((defBody s_law_are_names).getD 1 (.Pass ⟨0, 0, 0, 0⟩)))) (compEnvC (lcScope (rootE ((defBody s_law_are_names).getD 1 (.Pass ⟨0, 0, 0, 0⟩)))) cl0 C0 (cxOf CX0 P w K mg base ["_law_some", "_law_choices", "_law_found", "_law_unlike", "_law_one_here", "_law_k"] "_law_are_names" (defScope s_law_are_names) T.f_law_are_names cdv A outer s H E).nox.env) fp0) (lcIfs (rootE ((defBody s_law_are_names).getD 1 (.Pass ⟨0, 0, 0, 0⟩)))) _); dsimp only [Cx.blk, Cx.tr, Cx.suite, Cx.nox, Cx.wish, cxOf] at h; exact h)) (fun _ _ _ _ _ => (pv 4)))
 (pss_one
 (ps_ret (pe_and (pe_cmpR (op_eqD hr.units) (pv 2) (pe_lst pa_nil) (nomark _)) (pe_one (pe_cmpR op_eq (pe_callB call_len_seq (by rfl) T.z_len (by decide +kernel) (pa_cons (pv 0) pa_nil)) (pe_callB call_len_seq (by rfl) T.z_len (by decide +kernel) (pa_cons (pv 3) pa_nil)) (nomark _)))))))), ?_⟩
    have lx : xs.length = ds.length := ha.len
    -- those that are none of the names
    refine ⟨.ref l, rfl, l, rfl, ⟨_, .of hl⟩, fun D nD => ?_⟩
    refine lc_list (K := K) (a := l) (xs := xs) (fun i H' => ∃ ys, Same H H' ∧ H' D = some (.lst ys) ∧ DAll H ((ds.take i).filter fun d => !optD zs d) ys) ⟨[], same_upd nD, upd_same, rfl⟩ (fun _ _ _ ⟨_, h, _⟩ => .of (h _ _ hl)) ?_ ?_
    · rintro i x H1 hi ⟨ys, s1, e1, d1⟩
      obtain ⟨kk, hkk, hx0⟩ := ha.get hi
      have hx := DAt.same s1 _ hx0
      obtain ⟨t, ht, _, k2, _⟩ := hx.ty (K := K)
      have ly : ys.length ≤ i := by
        rw [d1.len]
        refine Nat.le_trans (List.length_filter_le _ _) ?_
        rw [List.length_take]
        omega
      have yes : optD zs kk = false → x = x → ∃ acc, H1 D = some (.lst acc) ∧ acc.length < sizeLine ∧ ∃ ys', Same H (upd H1 D (.lst (acc ++ [x]))) ∧ (upd H1 D (.lst (acc ++ [x]))) D = some (.lst ys') ∧ DAll H ((ds.take (i + 1)).filter fun d => !optD zs d) ys' := fun e _ => by
        have il := (List.getElem?_eq_some_iff.mp hi).1
        refine ⟨_, e1, small1000 (by omega), _, same_mut s1 nD, upd_same, ?_⟩
        rw [take_more hkk, List.filter_append]
        refine d1.append ?_
        rw [List.filter_cons_of_pos (by rw [e]; rfl)]
        exact da1 hx0 da0
      have no : optD zs kk = true → ∃ ys, Same H H1 ∧ H1 D = some (.lst ys) ∧ DAll H ((ds.take (i + 1)).filter fun d => !optD zs d) ys := fun e => by
        refine ⟨ys, s1, e1, ?_⟩
        rw [take_more hkk, List.filter_append, List.filter_cons_of_neg (by rw [e]; exact Bool.false_ne_true), List.filter_nil, List.append_nil]
        exact d1
      refine ⟨rfl, x, rfl, x, _, t, _, dS kk, rfl, .ty _, ht, k2, dS kk, rfl, ?_⟩
      cases kk with
      | str z =>
        rw [show x = V.str z from hx] at yes ⊢
        refine iteF ⟨.str z, rfl, .ref o, rfl, o, _, rfl, .inr (.of (s1 _ _ ho)), rfl, flat_strs zs, _, rfl, ?_⟩
        show if (!inV (.str z) (zs.map V.str)) = true then _ else _
        rw [inV_str]
        cases hz : decide (z ∈ zs) with
        | true => exact iteF (no hz)
        | false => exact iteT ⟨_, rfl, yes hz rfl⟩
      | _ => exact iteT ⟨x, rfl, yes rfl rfl⟩
    · rintro H1 ⟨ys, s1, e1, d1⟩
      rw [lx, List.take_length] at d1
      -- those that are met for the first time
      refine ⟨.ref l, rfl, l, xs, rfl, .of (s1 _ _ hl), fun D2 nD2 => ?_⟩
      have hl1 := s1 _ _ hl
      refine lc_it (walk_enum (K := K) (a := l) (xs := xs)) (fun i H' => ∃ us, Same H1 H' ∧ H' D2 = some (.lst us) ∧ us.length = kept ds i) ⟨[], same_upd nD2, upd_same, rfl⟩ (fun _ _ _ ⟨_, h, _⟩ => .of (h _ _ hl1)) ?_ ?_
      · rintro i x H2 H3 hi ⟨us, s2, e2, lu⟩ ⟨T1, y, z, rfl, nT, rfl, hy, hz⟩
        cases hy
        obtain ⟨kk, hkk, hx0⟩ := ha.get hz
        have s3 := s2.trans (same_upd (o := HO.tup [V.int (i : Nat), z]) nT)
        have e3 := same_upd (o := HO.tup [V.int (i : Nat), z]) nT _ _ e2
        refine ⟨T1, _, rfl, .of upd_same, rfl, _, _, rfl, _, _, rfl, rfl, rfl, ?_⟩
        refine ⟨z, rfl, .ref l, rfl, .int (i : Nat), rfl, _, rfl, l, xs, rfl, .of (s3 _ _ hl1), fun p np => ?_⟩
        rw [cut_to (k := i) (by omega)]
        have s4 := s3.trans (same_upd (o := HO.lst (xs.take i)) np)
        have e4 := same_upd (o := HO.lst (xs.take i)) np _ _ e3
        have okk := ok.get _ (List.mem_of_getElem? hkk)
        refine ⟨kk, ds.take i, (DAt.same (s1.trans s4) _ hx0).dp, DAt.dp (.list (ds.take i)) ⟨p, _, rfl, upd_same, DAll.take i (DAll.same (s1.trans s4) _ ha)⟩, okk.shaped (by decide), (ok.take i).list.shaped (by decide), _, rfl, ?_⟩
        have ed : ((ds.take i).any fun z => PyData.eqv z kk) = dup ds i := by
          unfold dup
          rw [List.getD_eq_getElem?_getD, hkk] <;> rfl
        rw [ed]
        cases hd : dup ds i with
        | true =>
          refine iteF ⟨us, s4, e4, ?_⟩
          unfold kept
          rw [hd, lu] <;> rfl
        | false =>
          have := kept_le ds i
          refine iteT ⟨z, rfl, us, e4, small1000 (by omega), _, same_mut s4 nD2, upd_same, ?_⟩
          unfold kept
          rw [hd, List.length_append, lu] <;> rfl
      · rintro H2 ⟨us, s2, e2, lu⟩
        rw [lx] at lu
        refine ⟨.ref D, rfl, line_of (show 0 ≤ 1000 by decide), fun le nle => ?_⟩
        have s3 := s2.trans (same_upd (o := HO.lst []) nle)
        refine ⟨.list (ds.filter fun d => !optD zs d), .list [], DAt.dp (.list (ds.filter fun d => !optD zs d)) ⟨D, ys, rfl, s3 _ _ e1, DAll.same (s1.trans s3) _ d1⟩, DAt.dp (.list []) ⟨le, [], rfl, upd_same, rfl⟩, (ok.filter _).list.shaped (by decide), rfl, ?_⟩
        have ee : PyData.eqv (.list (ds.filter fun d => !optD zs d)) (.list []) = ds.all (optD zs) := by
          have h1 : ∀ l : List PyData, PyData.eqv (.list l) (.list []) = l.isEmpty := fun l => by cases l <;> simp [PyData.eqv, PyData.eqvAll]
          rw [h1]
          cases hb : ds.all (optD zs) with
          | true =>
            have : ds.filter (fun d => !optD zs d) = [] := List.filter_eq_nil_iff.mpr fun d hd => by rw [List.all_eq_true.mp hb d hd]; exact Bool.false_ne_true
            rw [this] <;> rfl
          | false =>
            obtain ⟨d, hd, he⟩ : ∃ d ∈ ds, optD zs d = false := by
              apply Classical.byContradiction
              intro hn
              have : ds.all (optD zs) = true := List.all_eq_true.mpr fun d hd => by
                cases hc : optD zs d with
                | true => rfl
                | false => exact absurd ⟨d, hd, hc⟩ hn
              rw [this] at hb
              cases hb
            have mem : d ∈ ds.filter fun d => !optD zs d := List.mem_filter.mpr ⟨hd, by rw [he]; rfl⟩
            cases hq : ds.filter fun d => !optD zs d with
            | nil => rw [hq] at mem; cases mem
            | cons a b => rfl
        rw [ee]
        have fin := q _ (s1.trans s3)
        refine ⟨_, rfl, ?_⟩
        unfold unlikeD at fin
        cases hb : ds.all (optD zs) with
        | false =>
          rw [hb] at fin
          exact iteF fin
        | true =>
          rw [hb, Bool.true_and] at fin
          refine iteT ⟨.ref l, rfl, l, _, rfl, .inl (.of (s3 _ _ hl1)), .ref D2, rfl, D2, _, rfl, .inl (.of (same_upd nle _ _ e2)), rfl, ?_⟩
          have es := opt_strs hb
          generalize hw : ds.filterMap unS = ws at es fin
          have lw : ds.length = ws.length := by rw [es, List.length_map]
          have ek : decide (V.int (xs.length : Int) = V.int (us.length : Int)) = decide ws.Nodup := by
            refine decide_eq_decide.mpr ?_
            rw [← kept_str, lx, lu, lw, es]
            exact ⟨fun h => by have := V.int.inj h; omega, fun h => by rw [h]⟩
          rw [ek]
          exact fin
end
theorem Ok.parts {n m : Nat} : ∀ {d : PyData}, Ok n m d → OkA n m (parts d)
  | .tuple l, h => by
    have h1 := h.lay
    have h2 := h.dep
    have h3 := h.sho
    have h4 := h.lea
    have h5 := h.wei
    rw [PyData.canLay0] at h1
    rw [PyData.depth] at h2
    rw [PyData.showable] at h3
    rw [PyData.leavesShort] at h4
    rw [PyData.weight] at h5
    exact ⟨h1, by show PyData.depthAll l ≤ n; omega, h3, h4, h5⟩
  | .none, _ => OkA.nil
  | .bool _, _ => OkA.nil
  | .int _, _ => OkA.nil
  | .str _, _ => OkA.nil
  | .list _, _ => OkA.nil
  | .dict _, _ => OkA.nil
theorem OkA.flat {n m : Nat} : ∀ {ds : List PyData}, OkA n m ds → OkA n m (ds.flatMap parts)
  | [], _ => OkA.nil
  | d :: ds, h => by
    have e := h.wei
    rw [PyData.weightAll] at e
    have hd : Ok n d.weight d := ⟨h.head.lay, h.head.dep, h.head.sho, h.head.lea, Nat.le_refl _⟩
    have ha : OkA n (PyData.weightAll ds) ds := ⟨h.tail.lay, h.tail.dep, h.tail.sho, h.tail.lea, Nat.le_refl _⟩
    rw [List.flatMap_cons]
    exact (hd.parts.append ha.flat).mono (Nat.le_refl _) (by omega)
theorem Ok.first {n m : Nat} {d : PyData} (h : Ok n m d) : Ok n m (firstD d) := by
  cases d with
  | tuple l =>
    cases l with
    | nil => exact ok_none
    | cons a l => exact (h.parts.head).mono (Nat.le_refl _) (Nat.le_refl _)
  | _ => exact ok_none
theorem OkA.firsts {n m : Nat} : ∀ {ds : List PyData}, OkA n m ds → OkA n m (ds.map firstD)
  | [], _ => OkA.nil
  | d :: ds, h => by
    have e := h.wei
    rw [PyData.weightAll] at e
    have hd : Ok n d.weight d := ⟨h.head.lay, h.head.dep, h.head.sho, h.head.lea, Nat.le_refl _⟩
    have ha : OkA n (PyData.weightAll ds) ds := ⟨h.tail.lay, h.tail.dep, h.tail.sho, h.tail.lea, Nat.le_refl _⟩
    rw [List.map_cons]
    exact (OkA.cons hd.first ha.firsts).mono (Nat.le_refl _) (by omega)
theorem all_more {f : PyData → Bool} {ds : List PyData} {i : Nat} {k : PyData} (hk : ds[i]? = some k) (h : (ds.take i).all f = true) (e : f k = true) : (ds.take (i + 1)).all f = true := by
  rw [take_more hk, List.all_append, h]
  simp [e]
theorem all_less {f : PyData → Bool} {ds : List PyData} {i : Nat} {k : PyData} (hk : ds[i]? = some k) (e : f k = false) : ds.all f = false := by
  rw [Bool.eq_false_iff]
  intro h
  have := List.all_eq_true.mp h k (List.mem_of_getElem? hk)
  rw [e] at this
  cases this
section
variable {P : Program} {w : World} {K : PySem.W.Frag} {mg : Str → Option Value} {base : Heap}
def sp_law_is_order : Sp := fun vs H Q _ => ∃ (t o : Addr) (zs : List Str) (xs : List V) (ds : List PyData) (m : Nat), vs = [.ref t, .ref o] ∧ H t = some (.tup xs) ∧ H o = some (.tup (zs.map V.str)) ∧ DAll H ds xs ∧ Wide ds ∧ OkA 20 m ds ∧ ∀ H', Same H H' → Q (.bl (tiersD zs ds)) H'
theorem ok_law_is_order (T : Txt K mg) : FnOk P w K mg base CX0 2 T.f_law_is_order T.fd_law_is_order ["_law_things", "_law_choices"] sp_law_is_order := by
  refine T.F_law_is_order.ok sc_law_is_order (fun vs H Q E h => ?_) (fun cdv A outer s H vs Q E hr h => ?_)
  · obtain ⟨t, o, zs, xs, ds, m, rfl, _⟩ := h
    rfl
  · obtain ⟨t, o, zs, xs, ds, m, rfl, ht, ho, ha, hw, ok, q⟩ := h
    refine ⟨_, (pss_cons
 (ps_set (i := 2) sc_law_is_order.nd rfl (Or.inl rfl) (pe_lst pa_nil))
 (pss_cons
 (ps_for PassesOwn.never rfl (pi_tup (pv 0)) (pg_name (i := 3) sc_law_is_order.nd rfl (Or.inl rfl))
 (pss_cons
 (ps_if (PW.pt (pw_or (pt_not (pt_val (pe_callB call_isi (by rfl) T.z_isinstance (by decide +kernel) (pa_cons (pv 3) (pa_cons (pe_bltn (v := .ty "tuple") (u := .type "tuple") rfl T.z_tuple (by decide +kernel) rfl) pa_nil))))) (pw_or1 (pt_cmpR (op_eqD hr.units) (pv 3) (pe_tup pa_nil) (nomark _)))))
 (pss_one
 (ps_ret pe_bl))
 pss_nil)
 (pss_one
 (ps_set (i := 2) sc_law_is_order.nd rfl (Or.inl rfl) (pe_op op_cat (pv 2) (pe_callTy call_list_of (by rfl) T.z_list (by decide +kernel) (pa_cons (pv 3) pa_nil)))))))
 (pss_one
 (ps_ret (pe_call (ok_law_are_names T) (hr.mono (by decide)) (by rfl) T.g_law_are_names T.F_law_are_names.kp T.b_law_are_names .nil pass0 (pa_cons (pv 2) (pa_cons (pv 1) pa_nil))))))), ?_⟩
    have lx : xs.length = ds.length := ha.len
    refine ⟨line_of (show 0 ≤ 1000 by decide), fun l nl => ?_⟩
    refine ⟨.ref t, rfl, t, rfl, ⟨_, .of (same_upd nl _ _ ht)⟩, for_tup (K := K) (a := t) (xs := xs) (fun i σ H' => ∃ (l' : Addr) (ys : List V) (y3 : Option V), σ = [some (.ref t), some (.ref o), some (.ref l'), y3] ∧ Same H H' ∧ H' l' = some (.lst ys) ∧ DAll H ((ds.take i).flatMap parts) ys ∧ (ds.take i).all tierD = true)
      ⟨l, [], none, rfl, same_upd nl, upd_same, rfl, rfl⟩ (fun _ _ _ _ ⟨_, _, _, _, h, _⟩ => .of (h _ _ ht)) ?_ ?_⟩
    · rintro i x σ H1 hi ⟨l', ys, y3, rfl, s1, e1, d1, a1⟩
      obtain ⟨kk, hkk, hx0⟩ := ha.get hi
      have hx := DAt.same s1 _ hx0
      obtain ⟨ty, hty, k1, _⟩ := hx.ty (K := K)
      have no : tierD kk = false → ∀ H', Same H H' → Q (.bl false) H' := fun e H' s' => by
        have := q H' s'
        unfold tiersD at this
        rw [all_less hkk e] at this
        exact this
      refine ⟨x, rfl, x, _, ty, _, dT kk, rfl, .ty _, hty, k1, dT kk, rfl, ?_⟩
      cases kk with
      | tuple l0 =>
        obtain ⟨a2, us, rfl, h1, h2⟩ := hx
        have okk := ok.get _ (List.mem_of_getElem? hkk)
        refine iteF ⟨.ref a2, rfl, line_of (show 0 ≤ 1000 by decide), fun t0 nt0 => ?_⟩
        have s2 := s1.trans (same_upd (o := HO.tup []) nt0)
        have h1' := same_upd (o := HO.tup []) nt0 _ _ h1
        refine ⟨.tuple l0, .tuple [], DAt.dp (.tuple l0) ⟨a2, us, rfl, h1', DAll.same (same_upd nt0) _ h2⟩, DAt.dp (.tuple []) ⟨t0, [], rfl, upd_same, rfl⟩, okk.shaped (by decide), rfl, _, rfl, ?_⟩
        have ee : PyData.eqv (.tuple l0) (.tuple []) = l0.isEmpty := by cases l0 <;> simp [PyData.eqv, PyData.eqvAll]
        rw [ee]
        cases l0 with
        | nil => exact iteT (no rfl _ s2)
        | cons b0 l1 =>
          generalize hl1 : b0 :: l1 = l0 at *
          have eL : l0.isEmpty = false := by rw [← hl1] <;> rfl
          have eT : tierD (.tuple l0) = true := by rw [← hl1]; exact decide_eq_true (Nat.succ_pos l1.length)
          rw [eL]
          refine iteF ⟨.ref l', rfl, .ref a2, rfl, a2, _, rfl, .inr (.of h1'), fun p np => ?_⟩
          have s3 := s2.trans (same_upd (o := HO.lst us) np)
          have wy := d1.len
          have wf : ((ds.take i).flatMap parts).length ≤ 400 := flat_le ⟨by have := hw.1; rw [List.length_take]; omega, fun d hd => hw.2 d (List.mem_of_mem_take hd)⟩
          have wu : us.length ≤ 20 := by rw [h2.len]; exact hw.2 _ (List.mem_of_getElem? hkk)
          have e1' := same_upd (o := HO.lst us) np _ _ (same_upd (o := HO.tup []) nt0 _ _ e1)
          refine ⟨l', p, ys, us, rfl, rfl, e1', upd_same, line_of (by omega), fun r nr => ?_⟩
          refine ⟨r, ys ++ us, _, rfl, s3.trans (same_upd nr), upd_same, ?_, all_more hkk a1 eT⟩
          rw [take_more hkk, List.flatMap_append]
          obtain ⟨a3, us', e3, _, h3⟩ := hx0
          cases e3
          have eu : us' = us := by
            have z := s1 _ _ (show H a2 = some (.tup us') by assumption)
            rw [h1] at z
            exact (HO.tup.inj (Option.some.inj z)).symm
          rw [eu] at h3
          exact d1.append (by simpa [parts] using h3)
      | _ => exact iteT (no rfl _ s1)
    · rintro σ H1 ⟨l', ys, y3, rfl, s1, e1, d1, a1⟩
      rw [lx, List.take_length] at d1 a1
      have q' : ∀ H', Same H1 H' → Q (.bl (unlikeD zs (ds.flatMap parts))) H' := fun H' s' => by
        have := q H' (s1.trans s')
        unfold tiersD at this
        rw [a1] at this
        exact this
      exact ⟨.ref l', rfl, .ref o, rfl, l', o, zs, ys, _, m, rfl, e1, s1 _ _ ho, DAll.same s1 _ d1, by have := flat_le hw; omega, ok.flat, q'⟩
def sp_law_are_marks : Sp := fun vs H Q _ => ∃ (t o : Addr) (zs : List Str) (xs : List V) (ds : List PyData) (m : Nat), vs = [.ref t, .ref o] ∧ H t = some (.tup xs) ∧ H o = some (.tup (zs.map V.str)) ∧ DAll H ds xs ∧ ds.length ≤ 20 ∧ OkA 20 m ds ∧ ∀ H', Same H H' → Q (.bl (marksD zs ds)) H'
theorem ok_law_are_marks (T : Txt K mg) : FnOk P w K mg base CX0 2 T.f_law_are_marks T.fd_law_are_marks ["_law_things", "_law_choices"] sp_law_are_marks := by
  refine T.F_law_are_marks.ok sc_law_are_marks (fun vs H Q E h => ?_) (fun cdv A outer s H vs Q E hr h => ?_)
  · obtain ⟨t, o, zs, xs, ds, m, rfl, _⟩ := h
    rfl
  · obtain ⟨t, o, zs, xs, ds, m, rfl, ht, ho, ha, l20, ok, q⟩ := h
    refine ⟨_, (pss_cons
 (ps_for PassesOwn.never rfl (pi_tup (pv 0)) (pg_name (i := 2) sc_law_are_marks.nd rfl (Or.inl rfl))
 (pss_cons
 (ps_if (PW.pt (pw_or (pt_not (pt_val (pe_callB call_isi (by rfl) T.z_isinstance (by decide +kernel) (pa_cons (pv 2) (pa_cons (pe_bltn (v := .ty "tuple") (u := .type "tuple") rfl T.z_tuple (by decide +kernel) rfl) pa_nil))))) (pw_or1 (pt_cmpR op_ne (pe_callB call_len_seq (by rfl) T.z_len (by decide +kernel) (pa_cons (pv 2) pa_nil)) pe_int (nomark _)))))
 (pss_one
 (ps_ret pe_bl))
 pss_nil)
 (pss_cons
 (ps_set (i := 3) sc_law_are_marks.nd rfl (Or.inl rfl) (pe_ix ix_tup (pv 2) pe_int (fun _ _ => rfl)))
 (pss_one
 (ps_if (PW.pt (pw_or (pt_not (pt_val (pe_callB call_isi (by rfl) T.z_isinstance (by decide +kernel) (pa_cons (pv 3) (pa_cons (pe_bltn (v := .ty "int") (u := .type "int") rfl T.z_int (by decide +kernel) rfl) pa_nil))))) (pw_or (pt_val (pe_callB call_isi (by rfl) T.z_isinstance (by decide +kernel) (pa_cons (pv 3) (pa_cons (pe_bltn (v := .ty "bool") (u := .type "bool") rfl T.z_bool (by decide +kernel) rfl) pa_nil)))) (pw_or1 (pt_not (pt_chain op_le op_le pe_int (pv 3) pe_int))))))
 (pss_one
 (ps_ret pe_bl))
 pss_nil)))))
 (pss_one
 (ps_ret (pe_call (ok_law_are_names T) (hr.mono (by decide)) (by rfl) T.g_law_are_names T.F_law_are_names.kp T.b_law_are_names .nil pass0 (pa_cons (pe_lc (own := [("_law_pair", 2)]) (g := gName 2) (tt := tYes) rfl sc_law_are_marks.nd (pi_tup (pv 0)) (blkOk_by (own := [("_law_pair", 2)]) (N := ["_law_things", "_law_choices", "_law_pair", "_law_mark"]) (sc := defScope s_law_are_marks) (by decide +kernel)) (fun _ _ _ _ _ => pg_name (i := 2) sc_law_are_marks.nd rfl (Or.inl rfl)) (fun _ _ _ _ _ => pts_nil) (fun s0 H0 C0 cl0 fp0 => (by have h := ((pe_ix ix_tup (pv 2) pe_int (fun _ _ => rfl)) : PE ((cxOf CX0 P w K mg base ["_law_things", "_law_choices", "_law_pair", "_law_mark"] "_law_are_marks" (defScope s_law_are_marks) T.f_law_are_marks cdv A outer s H E).nox.blk s0 H0 (lcScope (subE (rootE ((defBody s_law_are_marks).getD 1 (.Pass ⟨0, 0, 0, 0⟩))) 1)) (compEnvC (lcScope (subE (rootE ((defBody s_law_are_marks).getD 1 (.Pass ⟨0, 0, 0, 0⟩))) 1)) cl0 C0 (cxOf CX0 P w K mg base ["_law_things", "_law_choices", "_law_pair", "_law_mark"] "_law_are_marks" (defScope s_law_are_marks) T.f_law_are_marks cdv A outer s H E).nox.env) fp0) (subE (subE (rootE ((defBody s_law_are_marks).getD 1 (.Pass ⟨0, 0, 0, 0⟩))) 1) 0) _); dsimp only [Cx.blk, Cx.tr, Cx.suite, Cx.nox, Cx.wish, cxOf] at h; exact h))) (pa_cons (pv 1) pa_nil)))))), ?_⟩
    have lx : xs.length = ds.length := ha.len
    refine ⟨.ref t, rfl, t, rfl, ⟨_, .of ht⟩, for_tup (K := K) (a := t) (xs := xs) (fun i σ H' => ∃ (y2 y3 : Option V), σ = [some (.ref t), some (.ref o), y2, y3] ∧ Same H H' ∧ (ds.take i).all pairD = true)
      ⟨none, none, rfl, Same.refl _, rfl⟩ (fun _ _ _ _ ⟨_, _, _, h, _⟩ => .of (h _ _ ht)) ?_ ?_⟩
    · rintro i x σ H1 hi ⟨y2, y3, rfl, s1, a1⟩
      obtain ⟨kk, hkk, hx0⟩ := ha.get hi
      have hx := DAt.same s1 _ hx0
      obtain ⟨ty, hty, k1, _⟩ := hx.ty (K := K)
      have no : pairD kk = false → ∀ H', Same H H' → Q (.bl false) H' := fun e H' s' => by
        have := q H' s'
        unfold marksD at this
        rw [all_less hkk e] at this
        exact this
      refine ⟨x, rfl, x, _, ty, _, dT kk, rfl, .ty _, hty, k1, dT kk, rfl, ?_⟩
      cases kk with
      | tuple l0 =>
        have hx' := hx
        obtain ⟨a2, us, rfl, h1, h2⟩ := hx
        refine iteF ⟨.ref a2, rfl, a2, _, rfl, .inr (.of h1), rfl, _, rfl, ?_⟩
        have lu := h2.len
        by_cases e2 : us.length = 2
        · rw [e2]
          have t2 : tupD (.tuple l0) 2 = true := decide_eq_true (by omega)
          obtain ⟨a, b, e3⟩ := tupD_two t2
          cases e3
          obtain ⟨v0, r, rfl, hv0, v1, r2, rfl, hb, rfl⟩ := h2
          refine iteF ⟨.ref a2, rfl, a2, _, 1, v1, rfl, rfl, .of h1, atI_nat (j := 1) rfl, ?_⟩
          obtain ⟨t1, ht1, _, _, k3, k4⟩ := hb.ty (K := K)
          refine ⟨v1, rfl, v1, _, t1, _, dI b, rfl, .ty _, ht1, k3, dI b, rfl, ?_⟩
          cases b with
          | int j =>
            rw [show v1 = V.int j from hb] at ht1 ⊢
            refine iteF ⟨.int j, rfl, .int j, _, t1, _, false, rfl, .ty _, ht1, k4, false, rfl, iteF ?_⟩
            refine ⟨.int j, rfl, _, _, rfl, rfl, _, rfl, ?_⟩
            have eP : pairD (.tuple [a, .int j]) = (decide (0 ≤ j) && decide (j ≤ 9)) := rfl
            rw [eP] at no
            cases c1 : decide ((0 : Int) ≤ j) with
            | false =>
              rw [c1] at no
              exact iteF ⟨false, rfl, iteT (no rfl _ s1)⟩
            | true =>
              rw [c1] at no eP
              refine iteT ⟨_, _, rfl, rfl, _, rfl, ?_⟩
              cases c2 : decide (j ≤ (9 : Int)) with
              | false =>
                rw [c2] at no
                exact iteT (no rfl _ s1)
              | true =>
                rw [c2] at eP
                exact iteF ⟨_, _, rfl, s1, all_more hkk a1 eP⟩
          | bool j =>
            rw [show v1 = V.bl j from hb] at ht1 ⊢
            exact iteF ⟨.bl j, rfl, .bl j, _, t1, _, true, rfl, .ty _, ht1, k4, true, rfl, iteT (no rfl _ s1)⟩
          | none => exact iteT (no rfl _ s1)
          | str _ => exact iteT (no rfl _ s1)
          | list _ => exact iteT (no rfl _ s1)
          | tuple _ => exact iteT (no rfl _ s1)
          | dict _ => exact hb.elim
        · have t2 : tupD (.tuple l0) 2 = false := decide_eq_false (by omega)
          rw [decide_eq_false (fun z => e2 (by have := V.int.inj z; omega))]
          exact iteT (no (pairD_two t2) _ s1)
      | _ => exact iteT (no rfl _ s1)
    · rintro σ H1 ⟨y2, y3, rfl, s1, a1⟩
      rw [lx, List.take_length] at a1
      have q' : ∀ H', Same H1 H' → Q (.bl (unlikeD zs (ds.map firstD))) H' := fun H' s' => by
        have := q H' (s1.trans s')
        unfold marksD at this
        rw [a1] at this
        exact this
      refine ⟨.ref t, rfl, t, rfl, ⟨_, .of (s1 _ _ ht)⟩, fun D2 nD2 => ?_⟩
      refine lc_tup (K := K) (a := t) (xs := xs) (fun i H' => ∃ ys, Same H1 H' ∧ H' D2 = some (.lst ys) ∧ DAll H1 ((ds.take i).map firstD) ys) ⟨[], same_upd nD2, upd_same, rfl⟩ (fun _ _ _ ⟨_, h, _⟩ => .of (h _ _ (s1 _ _ ht))) ?_ ?_
      · rintro i x H2 hi ⟨ys, s2, e2, d2⟩
        obtain ⟨kk, hkk, hx⟩ := ha.get hi
        have hp := List.all_eq_true.mp a1 _ (List.mem_of_getElem? hkk)
        have h2 : tupD kk 2 = true := by
          cases h : tupD kk 2 with
          | true => rfl
          | false => rw [pairD_two h] at hp; cases hp
        obtain ⟨a, b, rfl⟩ := tupD_two h2
        obtain ⟨a1', us, rfl, h1, v0, r, rfl, hv, v1, r2, rfl, _, rfl⟩ := hx
        refine ⟨rfl, .ref a1', rfl, a1', _, 0, v0, rfl, rfl, .of ((s1.trans s2) _ _ h1), atI_nat (j := 0) rfl, _, e2, ?_, ys ++ [v0], same_mut s2 nD2, upd_same, ?_⟩
        · rw [d2.len, List.length_map, List.length_take]
          exact small1000 (by omega)
        · rw [take_more hkk, List.map_append]
          exact d2.append (da1 (DAt.same s1 _ hv) da0)
      · rintro H2 ⟨ys, s2, e2, d2⟩
        rw [lx, List.take_length] at d2
        exact ⟨.ref o, rfl, D2, o, zs, ys, _, m, rfl, e2, s2 _ _ (s1 _ _ ho), DAll.same s2 _ d2, by rw [List.length_map]; omega, ok.firsts, fun H3 s3 => q' H3 (s2.trans s3)⟩
end
section
variable {P : Program} {w : World} {K : PySem.W.Frag} {mg : Str → Option Value} {base : Heap}
theorem Ok.second {n m : Nat} {a : PyData} {l : List PyData} (h : Ok n m (.tuple [a, .tuple l])) : OkA n m l :=
  (h.parts.get (.tuple l) (List.mem_cons_of_mem _ List.mem_cons_self)).parts
def sp_law_is_ballot : Sp := fun vs H Q _ => ∃ (o : Addr) (zs : List Str) (v : V) (d : PyData) (m : Nat), vs = [v, .ref o] ∧ H o = some (.tup (zs.map V.str)) ∧ DAt H d v ∧ Fit d ∧ Ok 20 m d ∧ ∀ H', Same H H' → Q (.bl (ballotD zs d)) H'
theorem ok_law_is_ballot (T : Txt K mg) : FnOk P w K mg base CX0 3 T.f_law_is_ballot T.fd_law_is_ballot ["_law_thing", "_law_choices"] sp_law_is_ballot := by
  refine T.F_law_is_ballot.ok sc_law_is_ballot (fun vs H Q E h => ?_) (fun cdv A outer s H vs Q E hr h => ?_)
  · obtain ⟨o, zs, v, d, m, rfl, _⟩ := h
    rfl
  · obtain ⟨o, zs, v, d, m, rfl, ho, hd, hf, ok, q⟩ := h
    refine ⟨_, (pss_cons
 (ps_if (PW.pt (pw_or (pt_not (pt_val (pe_callB call_isi (by rfl) T.z_isinstance (by decide +kernel) (pa_cons (pv 0) (pa_cons (pe_bltn (v := .ty "tuple") (u := .type "tuple") rfl T.z_tuple (by decide +kernel) rfl) pa_nil))))) (pw_or1 (pt_cmpR op_ne (pe_callB call_len_seq (by rfl) T.z_len (by decide +kernel) (pa_cons (pv 0) pa_nil)) pe_int (nomark _)))))
 (pss_one
 (ps_ret pe_bl))
 pss_nil)
 (pss_cons
 (ps_if (PW.pt (pw_or (pt_not (pt_val (pe_callB call_isi (by rfl) T.z_isinstance (by decide +kernel) (pa_cons (pe_ix ix_tup (pv 0) pe_int (fun _ _ => rfl)) (pa_cons (pe_bltn (v := .ty "str") (u := .type "str") rfl T.z_str (by decide +kernel) rfl) pa_nil))))) (pw_or1 (pt_not (pt_val (pe_callB call_isi (by rfl) T.z_isinstance (by decide +kernel) (pa_cons (pe_ix ix_tup (pv 0) pe_int (fun _ _ => rfl)) (pa_cons (pe_bltn (v := .ty "tuple") (u := .type "tuple") rfl T.z_tuple (by decide +kernel) rfl) pa_nil))))))))
 (pss_one
 (ps_ret pe_bl))
 pss_nil)
 (pss_cons
 (ps_if (pt_cmpR op_notIn_seq (pe_ix ix_tup (pv 0) pe_int (fun _ _ => rfl)) (pe_tup (pa_cons pe_str (pa_cons pe_str (pa_cons pe_str pa_nil)))) rfl)
 (pss_one
 (ps_ret pe_bl))
 pss_nil)
 (pss_cons
 (ps_if (pt_cmpR op_eq (pe_ix ix_tup (pv 0) pe_int (fun _ _ => rfl)) pe_str (nomark _))
 (pss_one
 (ps_ret (pe_call (ok_law_is_order T) (hr.mono (by decide)) (by rfl) T.g_law_is_order T.F_law_is_order.kp T.b_law_is_order .nil pass0 (pa_cons (pe_ix ix_tup (pv 0) pe_int (fun _ _ => rfl)) (pa_cons (pv 1) pa_nil)))))
 pss_nil)
 (pss_cons
 (ps_if (pt_cmpR op_eq (pe_ix ix_tup (pv 0) pe_int (fun _ _ => rfl)) pe_str (nomark _))
 (pss_one
 (ps_ret (pe_call (ok_law_are_names T) (hr.mono (by decide)) (by rfl) T.g_law_are_names T.F_law_are_names.kp T.b_law_are_names .nil pass0 (pa_cons (pe_callTy call_list_of (by rfl) T.z_list (by decide +kernel) (pa_cons (pe_ix ix_tup (pv 0) pe_int (fun _ _ => rfl)) pa_nil)) (pa_cons (pv 1) pa_nil)))))
 pss_nil)
 (pss_one
 (ps_ret (pe_call (ok_law_are_marks T) (hr.mono (by decide)) (by rfl) T.g_law_are_marks T.F_law_are_marks.kp T.b_law_are_marks .nil pass0 (pa_cons (pe_ix ix_tup (pv 0) pe_int (fun _ _ => rfl)) (pa_cons (pv 1) pa_nil)))))))))), ?_⟩
    have q0 := q H (Same.refl H)
    obtain ⟨ty, hty, k0, _⟩ := hd.ty (K := K)
    refine ⟨v, rfl, v, _, ty, _, dT d, rfl, .ty _, hty, k0, dT d, rfl, ?_⟩
    cases d with
    | tuple l0 =>
      obtain ⟨p, xs, rfl, hp, hl0⟩ := hd
      have lu := hl0.len
      refine iteF ⟨.ref p, rfl, p, _, rfl, .inr (.of hp), rfl, _, rfl, ?_⟩
      by_cases e2 : l0.length = 2
      · have t2 : tupD (.tuple l0) 2 = true := decide_eq_true e2
        obtain ⟨a, b, e3⟩ := tupD_two t2
        cases e3
        obtain ⟨v0, r, rfl, ha, v1, r2, rfl, hb, rfl⟩ := hl0
        refine iteF ?_
        obtain ⟨t0, ht0, _, k0, _⟩ := ha.ty (K := K)
        refine ⟨.ref p, rfl, p, _, 0, v0, rfl, rfl, .of hp, atI_nat (j := 0) rfl, v0, _, t0, _, dS a, rfl, .ty _, ht0, k0, dS a, rfl, ?_⟩
        cases a with
        | str f =>
          obtain ⟨t1, ht1, k1, _⟩ := hb.ty (K := K)
          refine iteF ⟨.ref p, rfl, p, _, 1, v1, rfl, rfl, .of hp, atI_nat (j := 1) rfl, v1, _, t1, _, dT b, rfl, .ty _, ht1, k1, dT b, rfl, ?_⟩
          cases b with
          | tuple l =>
            obtain ⟨pt, us, rfl, hpt, hl⟩ := hb
            rw [show v0 = V.str f from ha] at hp
            have wl : Wide l := hf
            have ol := ok.second
            have es : ∀ z : Str, decide (V.str f = V.str z) = decide (f = z) := fun z => decide_eq_decide.mpr ⟨fun h => V.str.inj h, fun h => by rw [h]⟩
            have eq : ballotD zs (.tuple [.str f, .tuple l]) = if f = "order" then tiersD zs l else if f = "lets" then unlikeD zs l else if f = "marks" then marksD zs l else false := rfl
            rw [eq] at q q0
            refine iteF ⟨.ref p, rfl, p, _, 0, .str f, rfl, rfl, .of hp, atI_nat (j := 0) rfl, line_of (show 3 ≤ 1000 by decide), fun tt ntt => ?_⟩
            have s1 := same_upd (o := HO.tup [V.str "order", V.str "lets", V.str "marks"]) ntt
            refine ⟨tt, _, rfl, .inr (.of upd_same), rfl, flat_strs ["order", "lets", "marks"], ?_⟩
            have ei : inV (.str f) [V.str "order", V.str "lets", V.str "marks"] = decide (f ∈ (["order", "lets", "marks"] : List Str)) := inV_str f ["order", "lets", "marks"]
            dsimp only [Bool.true_bne]
            refine ⟨_, rfl, ?_⟩
            rw [ei]
            have hp1 := s1 _ _ hp
            have hpt1 := s1 _ _ hpt
            have ho1 := s1 _ _ ho
            have hl1 := DAll.same s1 _ hl
            generalize upd H tt _ = H1 at s1 hp1 hpt1 ho1 hl1 ⊢
            have q1 := fun H' (s : Same H1 H') => q H' (s1.trans s)
            have q0' := q1 H1 (Same.refl _)
            cases hm : decide (f ∈ (["order", "lets", "marks"] : List Str)) with
            | false =>
              have hm := of_decide_eq_false hm
              rw [if_neg (fun z => hm (by rw [z]; decide)), if_neg (fun z => hm (by rw [z]; decide)), if_neg (fun z => hm (by rw [z]; decide))] at q0'
              exact iteT q0'
            | true =>
              have hm := of_decide_eq_true hm
              refine iteF ⟨.ref p, rfl, p, _, 0, .str f, rfl, rfl, .of hp1, atI_nat (j := 0) rfl, rfl, _, rfl, ?_⟩
              rw [es]
              by_cases e1 : f = "order"
              · rw [decide_eq_true e1]
                rw [if_pos e1] at q1
                exact iteT ⟨.ref p, rfl, p, _, 1, .ref pt, rfl, rfl, .of hp1, atI_nat (j := 1) rfl, .ref o, rfl, pt, o, zs, us, l, m, rfl, hpt1, ho1, hl1, wl, ol, q1⟩
              · rw [decide_eq_false e1]
                rw [if_neg e1] at q1
                refine iteF ⟨.ref p, rfl, p, _, 0, .str f, rfl, rfl, .of hp1, atI_nat (j := 0) rfl, rfl, _, rfl, ?_⟩
                rw [es]
                by_cases e2 : f = "lets"
                · rw [decide_eq_true e2]
                  rw [if_pos e2] at q1
                  refine iteT ⟨.ref p, rfl, p, _, 1, .ref pt, rfl, rfl, .of hp1, atI_nat (j := 1) rfl, pt, us, rfl, .inr (.of hpt1), fun D nD => ?_⟩
                  have s2 := same_upd (o := HO.lst us) nD
                  exact ⟨.ref o, rfl, D, o, zs, us, l, m, rfl, upd_same, s2 _ _ ho1, DAll.same s2 _ hl1, by have := wl.1; omega, ol, fun H' s3 => q1 H' (s2.trans s3)⟩
                · rw [decide_eq_false e2]
                  rw [if_neg e2, if_pos (by simp only [List.mem_cons, List.not_mem_nil, or_false] at hm; rcases hm with h | h | h; exact absurd h e1; exact absurd h e2; exact h)] at q1
                  exact iteF ⟨.ref p, rfl, p, _, 1, .ref pt, rfl, rfl, .of hp1, atI_nat (j := 1) rfl, .ref o, rfl, pt, o, zs, us, l, m, rfl, hpt1, ho1, hl1, wl.1, ol, q1⟩
          | none => exact iteT q0
          | bool _ => exact iteT q0
          | int _ => exact iteT q0
          | str _ => exact iteT q0
          | list _ => exact iteT q0
          | dict _ => exact iteT q0
        | none => exact iteT q0
        | bool _ => exact iteT q0
        | int _ => exact iteT q0
        | tuple _ => exact iteT q0
        | list _ => exact iteT q0
        | dict _ => exact iteT q0
      · have t2 : tupD (.tuple l0) 2 = false := decide_eq_false e2
        rw [ballotD_two t2] at q0
        rw [decide_eq_false (fun z => e2 (by have := V.int.inj z; omega))]
        exact iteT q0
    | none => exact iteT q0
    | bool _ => exact iteT q0
    | int _ => exact iteT q0
    | str _ => exact iteT q0
    | list _ => exact iteT q0
    | dict _ => exact iteT q0
theorem kit_none (T : Txt K mg) : PySem.W.kitAny K (.ref T.C_BadBallot) [.ref T.C_BadClaim, .ref T.C_BadMargins, .ref T.C_BadOrder, .ref T.C_BadPoll, .ref T.C_BadRule, .ref T.C_BadSums] = some false :=
  kitAny_cons T.kt_BadBallot_BadClaim (fun _ => kitAny_cons T.kt_BadBallot_BadMargins (fun _ => kitAny_cons T.kt_BadBallot_BadOrder (fun _ => kitAny_cons T.kt_BadBallot_BadPoll (fun _ => kitAny_cons T.kt_BadBallot_BadRule (fun _ =>
    kitAny_cons T.kt_BadBallot_BadSums (fun _ => kitAny_nil) (fun z => (by cases z))) (fun z => (by cases z))) (fun z => (by cases z))) (fun z => (by cases z))) (fun z => (by cases z))) (fun z => (by cases z))
def sp_law_told : Sp := fun vs H Q _ => ∃ (o : Addr) (zs : List Str) (v : V) (d : PyData), vs = [.ref o, v] ∧ H o = some (.tup (zs.map V.str)) ∧ DAt H d v ∧ Fit d ∧ ∀ H', Same H H' → Q (.str (if ballotD zs d = true then "fine" else "refused")) H'
theorem ok_law_told (T : Txt K mg) : FnOk P w K mg base CX0 6 T.f_law_told T.fd_law_told ["_law_choices", "_law_thing"] sp_law_told := by
  refine T.F_law_told.ok sc_law_told (fun vs H Q E h => ?_) (fun cdv A outer s H vs Q E hr h => ?_)
  · obtain ⟨o, zs, v, d, rfl, _⟩ := h
    rfl
  · obtain ⟨o, zs, v, d, rfl, ho, hd, hf, q⟩ := h
    refine ⟨_, (pss_cons
 (ps_set (i := 2) sc_law_told.nd rfl (Or.inl rfl) pe_str)
 (pss_cons
 (ps_try_as (i := 3) rfl rfl sc_law_told.nd rfl rfl ⟨rfl, by decide, Or.inl T.k_PollError⟩ takes0
 (fun W pn xe tk _ => (by have h := ((pss_one
 (ps_if (pt_cmpR op_notN (pf_pos (ok_check_ballot T) (hr.mono (by decide)) (by rfl) T.g_check_ballot T.F_check_ballot.kp T.kb_check_ballot_2 (fun σ => atE tk σ) (pa_cons (pv 0) (pa_cons (pv 1) pa_nil))) pe_non (nomark _))
 (pss_one
 (ps_set (i := 2) sc_law_told.nd rfl (Or.inl rfl) pe_str))
 pss_nil)) : PSs ((cxOf CX0 P w K mg base ["_law_choices", "_law_thing", "_law_told_here", "e", "_law_others"] "_law_told" (defScope s_law_told) T.f_law_told cdv A outer s H E).nox.tr pn xe) (blkOf ((defBody s_law_told).getD 1 (.Pass ⟨0, 0, 0, 0⟩)) 0) _); dsimp only [Cx.tr, Cx.suite, Cx.nox, Cx.wish, cxOf] at h; exact h))
 (fun a oe cls d pn hz hf => (by have h := ((pss_cons
 (ps_set (i := 4) sc_law_told.nd rfl (Or.inl rfl) (pe_callB (call_isXT T.ic_BadBallot hz hf) (by rfl) T.z_isinstance (by decide +kernel) (pa_cons (pv 3) (pa_cons (pe_tup (pa_cons (pe_glob (v := .ref T.C_BadClaim) rfl T.k_BadClaim rfl) (pa_cons (pe_glob (v := .ref T.C_BadMargins) rfl T.k_BadMargins rfl) (pa_cons (pe_glob (v := .ref T.C_BadOrder) rfl T.k_BadOrder rfl) (pa_cons (pe_glob (v := .ref T.C_BadPoll) rfl T.k_BadPoll rfl) (pa_cons (pe_glob (v := .ref T.C_BadRule) rfl T.k_BadRule rfl) (pa_cons (pe_glob (v := .ref T.C_BadSums) rfl T.k_BadSums rfl) pa_nil))))))) pa_nil))))
 (pss_one
 (ps_set (i := 2) sc_law_told.nd rfl (Or.inl rfl) (pe_ix ix_list (pe_lst (pa_cons pe_str (pa_cons pe_str pa_nil))) (pe_callTy call_int1 (by rfl) T.z_int (by decide +kernel) (pa_cons (pe_and (pe_callB (call_isX T.ic_BadBallot hz hf) (by rfl) T.z_isinstance (by decide +kernel) (pa_cons (pv 3) (pa_cons (pe_glob (v := .ref T.C_BadBallot) rfl T.k_BadBallot rfl) pa_nil))) (pe_one (pe_not (pv 4)))) pa_nil)) (fun _ _ => rfl))))) : PSs ((cxOf CX0 P w K mg base ["_law_choices", "_law_thing", "_law_told_here", "e", "_law_others"] "_law_told" (defScope s_law_told) T.f_law_told cdv A outer s H E).nox.suite a ((a, oe) :: pn)) (blkOf ((defBody s_law_told).getD 1 (.Pass ⟨0, 0, 0, 0⟩)) 1) _); dsimp only [Cx.tr, Cx.suite, Cx.nox, Cx.wish, cxOf] at h; exact h)))
 (pss_one
 (ps_ret (pv 2))))), ?_⟩
    refine ⟨.ref o, rfl, v, rfl, rfl, rfl, o, zs, v, d, rfl, ho, hd, hf, fun hb H1 s1 => ⟨rfl, _, rfl, iteNS rfl ⟨_, rfl, ?_⟩⟩, fun hb => ?_⟩
    · have := q H1 s1
      rw [hb, if_pos rfl] at this
      exact this
    · rw [hb, if_neg Bool.false_ne_true] at q
      refine fun dd fs H' s1 nd hd => ?_
      refine ⟨true, T.te_BadBallot_PollError, fun _ x _ => ⟨.ref x, rfl, line_of (show 6 ≤ 1000 by decide), fun tp ntp => ⟨tp, _, _, false, dd, fs, rfl, upd_same, .cons (.own _) (.cons (.own _) (.cons (.own _) (.cons (.own _) (.cons (.own _) (.cons (.own _) .nil))))), rfl, rfl, same_upd ntp _ _ hd, kit_none T,
        line_of (show 2 ≤ 1000 by decide), fun l nl => ⟨.ref x, rfl, _, _, true, dd, fs, rfl, fun _ h => h, rfl, rfl, same_upd nl _ _ (same_upd ntp _ _ hd), T.kt_BadBallot_BadBallot, true, rfl, iteT ⟨_, rfl, _, rfl, .inr ⟨_, rfl, l, _, 1, _, rfl, rfl, .of upd_same, atI_nat (j := 1) rfl, _, rfl, q _ (s1.trans ((same_upd ntp).trans (same_upd nl)))⟩⟩⟩⟩⟩, fun q => Bool.noConfusion q⟩
end
/-! ### data at hand, one after another: what stands is kept as one list -/
theorem DAll.nth {H : Hp} : ∀ {l : List PyData} {xs : List V}, DAll H l xs → ∀ (i : Nat) {d : PyData} {v : V}, l[i]? = some d → xs[i]? = some v → DAt H d v
  | [], _, _, i, _, _, h, _ => by cases h
  | _ :: _, _, ⟨v, r, e, a, b⟩, 0, _, _, h, g => by
    cases e
    cases h
    cases g
    exact a
  | _ :: _, _, ⟨v, r, e, a, b⟩, i + 1, _, _, h, g => by
    cases e
    exact DAll.nth b i h g
theorem DAt.puts {p : Addr} {Hc : Hp} {o : HO} {d : PyData} {v : V} (s : DAt (hide p Hc) d v) : DAt (hide p (upd Hc p o)) d v := by
  rw [hide_upd]
  exact s
theorem DAll.puts {p : Addr} {Hc : Hp} {o : HO} {d : List PyData} {v : List V} (s : DAll (hide p Hc) d v) : DAll (hide p (upd Hc p o)) d v := by
  rw [hide_upd]
  exact s
theorem pushT {p t : Addr} {H Hc : Hp} {y xs V0 : List V} {l L : List PyData} (c : On p H y Hc) (n : Hc t = none) (a : DAll (hide p Hc) l xs) (A : DAll (hide p Hc) L V0) :
    On p H y (upd Hc t (.tup xs)) ∧ DAll (hide p (upd Hc t (.tup xs))) (.tuple l :: L) (.ref t :: V0) :=
  have s := hid_same (p := p) (same_upd (o := HO.tup xs) n)
  ⟨c.new n, da1 ⟨t, xs, rfl, c.hid n, DAll.same s _ a⟩ (DAll.same s _ A)⟩
theorem pushL {p t : Addr} {H Hc : Hp} {y xs V0 : List V} {l L : List PyData} (c : On p H y Hc) (n : Hc t = none) (a : DAll (hide p Hc) l xs) (A : DAll (hide p Hc) L V0) :
    On p H y (upd Hc t (.lst xs)) ∧ DAll (hide p (upd Hc t (.lst xs))) (.list l :: L) (.ref t :: V0) :=
  have s := hid_same (p := p) (same_upd (o := HO.lst xs) n)
  ⟨c.new n, da1 ⟨t, xs, rfl, c.hid n, DAll.same s _ a⟩ (DAll.same s _ A)⟩
theorem slD {K : PySem.W.Frag} {p t : Addr} {H Hc : Hp} {y V0 : List V} {l m L : List PyData} {lo hi : Option Int} {Q : VK} (c : On p H y Hc) (a : DAt (hide p Hc) (.tuple l) (.ref t)) (A : DAll (hide p Hc) L V0)
    (hc : ∀ us : List V, us.length = l.length → ∀ G, DAll G l us → DAll G m (cutV us lo hi))
    (k : ∀ (s : Addr) (H' : Hp), On p H y H' → DAll (hide p H') (.tuple m :: L) (.ref s :: V0) → Q (.ref s) H') : rSlA K (.ref t) lo hi Hc Q := by
  obtain ⟨t', us, e, ht, ha⟩ := a
  cases e
  refine slX_of (hide_sub _ _ _ _ ht) fun s H' e s1 => ?_
  have o1 := c.same s1
  have s2 := hid_same (p := p) s1
  exact k s H' o1 (da1 ⟨s, _, rfl, hid_tup o1.2 e, hc us ha.len _ (DAll.same s2 _ ha)⟩ (DAll.same s2 _ A))
theorem cut_toD {l : List PyData} {i : Nat} (h : i ≤ l.length) : ∀ us : List V, us.length = l.length → ∀ G, DAll G l us → DAll G (l.take i) (cutV us none (some (i : Int))) := fun us e G a => by
  rw [cut_to (by omega)]
  exact a.take i
theorem cut_fromD {l : List PyData} {i : Nat} {j : Int} (e : j = (i : Int)) (h : i ≤ l.length) : ∀ us : List V, us.length = l.length → ∀ G, DAll G l us → DAll G (l.drop i) (cutV us (some j) none) := fun us e1 G a => by
  rw [e, cut_from (by omega)]
  exact a.drop i
theorem cut_oneD {l : List PyData} {i : Nat} (h : i < l.length) : ∀ us : List V, us.length = l.length → ∀ G, DAll G l us → DAll G ((l.drop i).take 1) (cutV us (some (i : Int)) (some ((i : Int) + 1))) := fun us e1 G a => by
  have e : cutV us (some (i : Int)) (some ((i : Int) + 1)) = (us.drop i).take 1 := by
    have e2 : HT.sIx us.length 0 (some (i : Int)) = i := by
      show (if (i : Int) < 0 then ((i : Int) + (us.length : Int)).toNat else min (i : Int).toNat us.length) = i
      rw [if_neg (by omega)]
      omega
    have e3 : HT.sIx us.length us.length (some ((i : Int) + 1)) = i + 1 := by
      show (if (i : Int) + 1 < 0 then ((i : Int) + 1 + (us.length : Int)).toNat else min ((i : Int) + 1).toNat us.length) = i + 1
      rw [if_neg (by omega)]
      omega
    unfold cutV
    rw [e2, e3, show i + 1 - i = 1 by omega]
  rw [e]
  exact (a.drop i).take 1
theorem catD {K : PySem.W.Frag} {p q r : Addr} {H Hc : Hp} {y V0 : List V} {l m L : List PyData} {Q : VK} (c : On p H y Hc) (a : DAt (hide p Hc) (.tuple l) (.ref q)) (b : DAt (hide p Hc) (.tuple m) (.ref r)) (A : DAll (hide p Hc) L V0)
    (hz : l.length + m.length ≤ 1000) (k : ∀ (s : Addr) (H' : Hp), On p H y H' → DAll (hide p H') (.tuple (l ++ m) :: L) (.ref s :: V0) → Q (.ref s) H') : rCatA K (.ref q) (.ref r) Hc Q := by
  obtain ⟨_, us, e, ht, ha⟩ := a
  cases e
  obtain ⟨_, ws, e, hr, hb⟩ := b
  cases e
  refine catA_of (hide_sub _ _ _ _ ht) (hide_sub _ _ _ _ hr) (by rw [ha.len, hb.len]; exact hz) fun s H' e s1 => ?_
  have o1 := c.same s1
  have s2 := hid_same (p := p) s1
  exact k s H' o1 (da1 ⟨s, _, rfl, hid_tup o1.2 e, (DAll.same s2 _ ha).append (DAll.same s2 _ hb)⟩ (DAll.same s2 _ A))
theorem oneD {p q : Addr} {H Hc : Hp} {y V0 : List V} {l L : List PyData} (c : On p H y Hc) (a : DAt (hide p Hc) (.list l) (.ref q)) (A : DAll (hide p Hc) L V0) (h1 : l ≠ []) (h2 : l.length ≤ 1000) :
    ∃ xs : List V, hide p Hc q = some (.lst xs) ∧ xs ≠ [] ∧ xs.length ≤ 1000 ∧ ∀ (i : Nat) (v : V) (y' : List V), xs[i]? = some v → ∃ d, d ∈ l ∧ On p H y' (upd Hc p (.lst y')) ∧ DAll (hide p (upd Hc p (.lst y'))) (d :: L) (v :: V0) := by
  obtain ⟨_, us, e, ht, ha⟩ := a
  cases e
  have le := ha.len
  refine ⟨us, ht, (fun z => h1 (List.length_eq_zero_iff.mp (by rw [← le, z]; rfl))), by omega, fun i v y' hi => ?_⟩
  obtain ⟨d, hd, ad⟩ := ha.get hi
  exact ⟨d, List.mem_of_getElem? hd, c.put, da1 ad.puts A.puts⟩
theorem tupQ {p t : Addr} {H Hc : Hp} {y xs : List V} {l : List PyData} (c : On p H y Hc) (n : Hc t = none) (a : DAll (hide p Hc) l xs) :
    On p H y (upd Hc t (.tup xs)) ∧ Same (hide p Hc) (hide p (upd Hc t (.tup xs))) ∧ DAt (hide p (upd Hc t (.tup xs))) (.tuple l) (.ref t) :=
  have s := hid_same (p := p) (same_upd (o := HO.tup xs) n)
  ⟨c.new n, s, t, xs, rfl, c.hid n, DAll.same s _ a⟩
theorem lstQ {p t : Addr} {H Hc : Hp} {y xs : List V} {l : List PyData} (c : On p H y Hc) (n : Hc t = none) (a : DAll (hide p Hc) l xs) :
    On p H y (upd Hc t (.lst xs)) ∧ Same (hide p Hc) (hide p (upd Hc t (.lst xs))) ∧ DAt (hide p (upd Hc t (.lst xs))) (.list l) (.ref t) :=
  have s := hid_same (p := p) (same_upd (o := HO.lst xs) n)
  ⟨c.new n, s, t, xs, rfl, c.hid n, DAll.same s _ a⟩
theorem ok_int {n m : Nat} {i : Int} (h : PyData.leavesShort 40 (.int i) = true) (g : (PyData.int i).weight ≤ m) (f : (PyData.int i).showable = true) : Ok n m (.int i) := ⟨rfl, Nat.zero_le _, f, h, g⟩
theorem ok_small {z : Str} (h : NameOk z) : Ok 0 8 (.str z) := ok_str (small_ok h.2.2) h.2.1
theorem atI_last {xs : List V} {v : V} (h : xs.getLast? = some v) : atI xs (-1) = some v := by
  have hn : xs ≠ [] := fun e => by rw [e] at h; cases h
  have hp : 0 < xs.length := List.length_pos_iff.mpr hn
  unfold atI ixN
  rw [if_neg (by omega), if_pos (by omega)]
  show xs[(-1 + (xs.length : Int)).toNat]? = some v
  rw [show (-1 + (xs.length : Int)).toNat = xs.length - 1 by omega, ← List.getLast?_eq_getElem?]
  exact h
def oddsD (a b : Str) : List PyData := [.str "zzzzzzzz", .str "", .str "A", .str "abcdefghi", .none, .int 0, .bool true, .tuple [], .tuple [.str "a"], .list [], .str a, .str b, .tuple [.str a], .int 9]
theorem odds_ok {a b : Str} (ha : NameOk a) (hb : NameOk b) : ∀ d ∈ oddsD a b, Ok 2 40 d ∧ (parts d).length ≤ 1 := by
  intro d hd
  have ka : Ok 2 40 (.str a) := (ok_small ha).mono (by decide) (by decide)
  have kb : Ok 2 40 (.str b) := (ok_small hb).mono (by decide) (by decide)
  unfold oddsD at hd
  simp only [List.mem_cons, List.not_mem_nil, or_false] at hd
  rcases hd with rfl | rfl | rfl | rfl | rfl | rfl | rfl | rfl | rfl | rfl | rfl | rfl | rfl | rfl
  · exact ⟨ok_str (by decide +kernel) (by decide +kernel), by decide⟩
  · exact ⟨ok_str (by decide +kernel) (by decide +kernel), by decide⟩
  · exact ⟨ok_str (by decide +kernel) (by decide +kernel), by decide⟩
  · exact ⟨ok_str (by decide +kernel) (by decide +kernel), by decide⟩
  · exact ⟨ok_none, by decide⟩
  · exact ⟨ok_int (by decide +kernel) (by decide +kernel) (by decide +kernel), by decide⟩
  · exact ⟨ok_bool _, by decide⟩
  · exact ⟨OkA.nil.tuple (n := 1), by decide⟩
  · exact ⟨(OkA.tuple (n := 1) (m := 40) ((OkA.cons (n := 1) (m := 1) (k := 0) (ok_str (by decide +kernel) (by decide +kernel)) OkA.nil).mono (by decide) (by decide))), by decide⟩
  · exact ⟨OkA.nil.list (n := 1), by decide⟩
  · exact ⟨ka, Nat.zero_le _⟩
  · exact ⟨kb, Nat.zero_le _⟩
  · exact ⟨(OkA.tuple (n := 1) (m := 40) ((OkA.cons (n := 0) (m := 8) (k := 0) (ok_small ha) OkA.nil).mono (by decide) (by decide))), Nat.le_refl 1⟩
  · exact ⟨ok_int (by decide +kernel) (by decide +kernel) (by decide +kernel), by decide⟩
section
variable {P : Program} {w : World} {K : PySem.W.Frag} {mg : Str → Option Value} {base : Heap}
def sp_law_odd : Sp := fun vs H Q _ => ∃ (p o : Addr) (zs : List Str) (x : List V) (k : Nat), vs = [.ref p, .ref o] ∧ H p = some (.lst x) ∧ hide p H o = some (.tup (zs.map V.str)) ∧ zs ≠ [] ∧ (∀ z ∈ zs, NameOk z) ∧ WellL x k ∧ k ≤ 800000 ∧
  ∀ (v : V) (d : PyData) (y : List V) (H' : Hp), On p H y H' → WellL y (k + 1) → DAt (hide p H') d v → Ok 2 40 d → (parts d).length ≤ 1 → Q v H'
theorem ok_law_odd (T : Txt K mg) : FnOk P w K mg base CX0 3 T.f_law_odd T.fd_law_odd ["_law_well_here", "_law_choices"] sp_law_odd := by
  refine T.F_law_odd.ok sc_law_odd (fun vs H Q E h => ?_) (fun cdv A outer s H vs Q E hr h => ?_)
  · obtain ⟨p, o, zs, x, k, rfl, _⟩ := h
    rfl
  · obtain ⟨p, o, zs, x, k, rfl, hp, ho, hne, hz, wx, hk, c⟩ := h
    refine ⟨_, (pss_cons
 (ps_set (i := 2) sc_law_odd.nd rfl (Or.inl rfl) (pe_lst (pa_cons pe_str (pa_cons pe_str (pa_cons pe_str (pa_cons pe_str (pa_cons pe_non (pa_cons pe_int (pa_cons pe_bl (pa_cons (pe_tup pa_nil) (pa_cons (pe_tup (pa_cons pe_str pa_nil)) (pa_cons (pe_lst pa_nil) (pa_cons (pe_ix ix_tup (pv 1) pe_int (fun _ _ => rfl)) (pa_cons (pe_ix ix_tup (pv 1) (pe_un un_neg pe_int) (fun _ _ => rfl)) (pa_cons (pe_tup (pa_cons (pe_ix ix_tup (pv 1) pe_int (fun _ _ => rfl)) pa_nil)) (pa_cons pe_int pa_nil))))))))))))))))
 (pss_one
 (ps_ret (pe_call (ok_law_one T) (hr.mono (by decide)) (by rfl) T.g_law_one T.F_law_one.kp T.b_law_one .nil pass0 (pa_cons (pv 0) (pa_cons (pv 2) pa_nil)))))), ?_⟩
    obtain ⟨z0, r0, ez⟩ : ∃ a l, zs = a :: l := by cases zs with | nil => exact absurd rfl hne | cons a l => exact ⟨a, l, rfl⟩
    have k0 : NameOk z0 := hz z0 (by rw [ez]; exact List.mem_cons_self)
    have e0 : (zs.map V.str)[0]? = some (V.str z0) := by rw [ez]; rfl
    have hl : zs.getLast? = some (zs.getLast hne) := List.getLast?_eq_some_getLast hne
    have kl := hz _ (List.getLast_mem hne)
    generalize zs.getLast hne = zl at hl kl
    have el : (zs.map V.str).getLast? = some (V.str zl) := by rw [List.getLast?_map, hl]; rfl
    have oo : ∀ {Hc : Hp} {y : List V}, On p H y Hc → Hc o = some (.tup (zs.map V.str)) := fun c => hide_sub _ _ _ _ (c.1 _ _ ho)
    refine ⟨line_of (show 0 ≤ 1000 by decide), fun t1 nt1 => ?_⟩
    obtain ⟨o1, s1, d1⟩ := tupQ (On.start hp) nt1 da0
    refine ⟨line_of (show 1 ≤ 1000 by decide), fun t2 nt2 => ?_⟩
    obtain ⟨o2, s2, d2⟩ := tupQ (l := [.str "a"]) o1 nt2 (da1 rfl da0)
    refine ⟨line_of (show 0 ≤ 1000 by decide), fun t3 nt3 => ?_⟩
    obtain ⟨o3, s3, d3⟩ := lstQ o2 nt3 da0
    refine ⟨.ref o, rfl, o, _, 0, _, rfl, rfl, .of (oo o3), atI_nat (j := 0) e0, ?_⟩
    refine ⟨.ref o, rfl, 1, rfl, o, _, -1, _, rfl, rfl, .of (oo o3), atI_last el, ?_⟩
    refine ⟨.ref o, rfl, o, _, 0, _, rfl, rfl, .of (oo o3), atI_nat (j := 0) e0, line_of (show 1 ≤ 1000 by decide), fun t4 nt4 => ?_⟩
    obtain ⟨o4, s4, d4⟩ := tupQ (l := [.str z0]) o3 nt4 (da1 rfl da0)
    refine ⟨line_of (show 14 ≤ 1000 by decide), fun t5 nt5 => ?_⟩
    have s24 := s2.trans (s3.trans s4)
    have s34 := s3.trans s4
    obtain ⟨o5, s5, t5', xs, e5, h5, a5⟩ := lstQ (l := oddsD z0 zl) o4 nt5 (da1 rfl (da1 rfl (da1 rfl (da1 rfl (da1 rfl (da1 rfl (da1 rfl (da1 (DAt.same s24 _ d1) (da1 (DAt.same s34 _ d2) (da1 (DAt.same s4 _ d3) (da1 rfl (da1 rfl (da1 d4 (da1 rfl da0))))))))))))))
    cases e5
    have n5 : xs.length = 14 := a5.len
    refine ⟨.ref p, rfl, .ref t5, rfl, p, t5, x, _, k, rfl, o5.2, h5, (fun z => by rw [z] at n5; cases n5), by omega, wx, by omega, fun i v y hi wy => ?_⟩
    obtain ⟨d, hd, a6⟩ := a5.get hi
    obtain ⟨g1, g2⟩ := odds_ok k0 kl d (List.mem_of_getElem? hd)
    exact c v d y _ o5.put wy a6.puts g1 g2
end
/-- what may stand behind the word of a good ballot -/
def PieceD (wd : Str) (d : PyData) : Prop := (parts d).length ≤ 6 ∧ (((∃ z, d = .str z) ∧ wd ≠ "marks") ∨ ∃ a l, d = .tuple (a :: l))
theorem wide_mix {ds mid : List PyData} (h6 : ds.length ≤ 6) (hp : ∀ d ∈ ds, (parts d).length ≤ 6) (hm : mid.length ≤ 2) (hq : ∀ d ∈ mid, (parts d).length ≤ 20) (i j : Nat) : Wide (ds.take i ++ mid ++ ds.drop j) := by
  refine ⟨?_, fun d hd => ?_⟩
  · rw [List.length_append, List.length_append, List.length_take, List.length_drop]
    omega
  · rcases List.mem_append.mp hd with hd | hd
    · rcases List.mem_append.mp hd with hd | hd
      · have := hp d (List.mem_of_mem_take hd)
        omega
      · exact hq d hd
    · have := hp d (List.mem_of_mem_drop hd)
      omega
theorem ok_mix {ds mid : List PyData} {n : Nat} (ok : OkA 4 1000 ds) (om : OkA 10 n mid) (i j : Nat) : OkA 10 (2000 + n) (ds.take i ++ mid ++ ds.drop j) :=
  ((((ok.take i).mono (by decide) (Nat.le_refl _)).append om).append ((ok.drop j).mono (by decide) (Nat.le_refl _))).mono (Nat.le_refl _) (by omega)
theorem ok_mid {pl : List PyData} {od : PyData} (ok : OkA 4 1000 pl) (oo : Ok 2 40 od) (i j : Nat) : Ok 10 3000 (.tuple (pl.take i ++ [od] ++ pl.drop j)) :=
  ((((ok.take i).append (OkA.cons (n := 4) (k := 0) (oo.mono (by decide) (Nat.le_refl _)) OkA.nil)).append (ok.drop j)).tuple).mono (by decide) (by decide)
theorem ok_two {wd : Str} {l : List PyData} {n : Nat} (kw : Ok 0 8 (.str wd)) (ol : OkA 10 n l) (hn : n ≤ 9000) : Ok 20 10000 (.tuple [.str wd, .tuple l]) :=
  ((OkA.cons (kw.mono (Nat.zero_le _) (Nat.le_refl _)) (OkA.cons (k := 0) (ol.tuple) OkA.nil)).tuple).mono (by decide) (by omega)
section
variable {P : Program} {w : World} {K : PySem.W.Frag} {mg : Str → Option Value} {base : Heap}
def sp_law_bent : Sp := fun vs H Q _ => ∃ (p q o t : Addr) (zs : List Str) (us : List V) (ds : List PyData) (wd : Str) (x : List V) (k : Nat), vs = [.ref p, .ref q, .ref o] ∧ H p = some (.lst x) ∧ hide p H q = some (.tup [.str wd, .ref t]) ∧ hide p H o = some (.tup (zs.map V.str)) ∧
  hide p H t = some (.tup us) ∧ DAll (hide p H) ds us ∧ ds.length ≤ 6 ∧ (∀ d ∈ ds, PieceD wd d) ∧ OkA 4 1000 ds ∧ Ok 0 8 (.str wd) ∧ zs ≠ [] ∧ (∀ z ∈ zs, NameOk z) ∧ WellL x k ∧ k ≤ 700000 ∧
  ∀ (v : V) (d : PyData) (y : List V) (H' : Hp), On p H y H' → WellL y (k + 5) → DAt (hide p H') d v → Ok 20 10000 d → Fit d → Q v H'
theorem ok_law_bent (T : Txt K mg) : FnOk P w K mg base CX0 4 T.f_law_bent T.fd_law_bent ["_law_well_here", "_law_slip", "_law_choices"] sp_law_bent := by
  refine T.F_law_bent.ok sc_law_bent (fun vs H Q E h => ?_) (fun cdv A outer s H vs Q E hr h => ?_)
  · obtain ⟨p, q, o, t, zs, us, ds, wd, x, k, rfl, _⟩ := h
    rfl
  · obtain ⟨p, q, o, t, zs, us, ds, wd, x, k, rfl, hp, hq, ho, ht, ha, n6, hpc, okd, okw, hne, hz, wx, hk, c⟩ := h
    refine ⟨_, (pss_cons
 (ps_asg (pv 1) (pg_tup rfl (pgs_cons (pg_name (i := 3) sc_law_bent.nd rfl (Or.inl rfl)) (pgs_cons (pg_name (i := 4) sc_law_bent.nd rfl (Or.inl rfl)) pgs_nil))))
 (pss_cons
 (ps_set (i := 5) sc_law_bent.nd rfl (Or.inl rfl) (pe_call (ok_law_draw T) (hr.mono (by decide)) (by rfl) T.g_law_draw T.F_law_draw.kp T.b_law_draw .nil pass0 (pa_cons (pv 0) (pa_cons pe_int pa_nil))))
 (pss_cons
 (ps_set (i := 6) sc_law_bent.nd rfl (Or.inl rfl) (pe_call (ok_law_odd T) (hr.mono (by decide)) (by rfl) T.g_law_odd T.F_law_odd.kp T.b_law_odd .nil pass0 (pa_cons (pv 0) (pa_cons (pv 2) pa_nil))))
 (pss_cons
 (ps_if (pt_cmpR op_eq (pv 5) pe_int (nomark _))
 (pss_cons
 (ps_set (i := 7) sc_law_bent.nd rfl (Or.inl rfl) (pe_lst (pa_cons pe_non (pa_cons pe_str (pa_cons (pe_tup (pa_cons (pv 3) pa_nil)) (pa_cons (pe_tup (pa_cons (pv 3) (pa_cons (pv 4) (pa_cons (pe_tup pa_nil) pa_nil)))) (pa_cons (pe_lst (pa_cons (pv 3) (pa_cons (pv 4) pa_nil))) (pa_cons (pe_tup pa_nil) (pa_cons (pe_tup (pa_cons (pv 4) (pa_cons (pv 3) pa_nil))) (pa_cons (pv 3) pa_nil))))))))))
 (pss_one
 (ps_ret (pe_call (ok_law_one T) (hr.mono (by decide)) (by rfl) T.g_law_one T.F_law_one.kp T.b_law_one .nil pass0 (pa_cons (pv 0) (pa_cons (pe_op op_cat (pv 7) (pe_lst (pa_cons (pe_tup (pa_cons (pv 3) (pa_cons (pe_callTy call_list_of (by rfl) T.z_list (by decide +kernel) (pa_cons (pv 4) pa_nil)) pa_nil))) pa_nil))) pa_nil))))))
 pss_nil)
 (pss_cons
 (ps_if (pt_cmpR op_eq (pv 5) pe_int (nomark _))
 (pss_one
 (ps_ret (pe_tup (pa_cons (pe_call (ok_law_one T) (hr.mono (by decide)) (by rfl) T.g_law_one T.F_law_one.kp T.b_law_one .nil pass0 (pa_cons (pv 0) (pa_cons (pe_lst (pa_cons pe_str (pa_cons pe_str (pa_cons pe_str (pa_cons pe_str (pa_cons pe_str (pa_cons pe_non (pa_cons pe_str (pa_cons (pe_tup (pa_cons pe_str pa_nil)) pa_nil))))))))) pa_nil))) (pa_cons (pv 4) pa_nil)))))
 pss_nil)
 (pss_cons
 (ps_if (PW.pt (pw_or (pt_cmpR (op_eqD hr.units) (pv 4) (pe_tup pa_nil) (nomark _)) (pw_or1 (pt_cmpR op_eq (pv 5) pe_int (nomark _)))))
 (pss_cons
 (ps_set (i := 8) sc_law_bent.nd rfl (Or.inl rfl) (pe_call (ok_law_draw T) (hr.mono (by decide)) (by rfl) T.g_law_draw T.F_law_draw.kp T.b_law_draw .nil pass0 (pa_cons (pv 0) (pa_cons (pe_op op_add (pe_callB call_len_seq (by rfl) T.z_len (by decide +kernel) (pa_cons (pv 4) pa_nil)) pe_int) pa_nil))))
 (pss_one
 (ps_ret (pe_tup (pa_cons (pv 3) (pa_cons (pe_op op_catA (pe_op op_catA (pe_slice sl_tupA (pv 4) po_none (po_some (pv 8))) (pe_tup (pa_cons (pv 6) pa_nil))) (pe_slice sl_tupA (pv 4) (po_some (pv 8)) po_none)) pa_nil))))))
 pss_nil)
 (pss_cons
 (ps_set (i := 8) sc_law_bent.nd rfl (Or.inl rfl) (pe_call (ok_law_draw T) (hr.mono (by decide)) (by rfl) T.g_law_draw T.F_law_draw.kp T.b_law_draw .nil pass0 (pa_cons (pv 0) (pa_cons (pe_callB call_len_seq (by rfl) T.z_len (by decide +kernel) (pa_cons (pv 4) pa_nil)) pa_nil))))
 (pss_cons
 (ps_set (i := 9) sc_law_bent.nd rfl (Or.inl rfl) (pe_ix ix_tup (pv 4) (pv 8) (fun _ _ => rfl)))
 (pss_cons
 (ps_if (pt_cmpR op_eq (pv 5) pe_int (nomark _))
 (pss_one
 (ps_ret (pe_tup (pa_cons (pv 3) (pa_cons (pe_op op_catA (pe_op op_catA (pe_slice sl_tupA (pv 4) po_none (po_some (pv 8))) (pe_op op_many (pe_slice sl_tupA (pv 4) (po_some (pv 8)) (po_some (pe_op op_add (pv 8) pe_int))) pe_int)) (pe_slice sl_tupA (pv 4) (po_some (pe_op op_add (pv 8) pe_int)) po_none)) pa_nil)))))
 pss_nil)
 (pss_cons
 (ps_if (PW.pt (pw_and (pt_cmpR op_eq (pv 5) pe_int (nomark _)) (pw_and1 (pt_val (pe_callB call_isi (by rfl) T.z_isinstance (by decide +kernel) (pa_cons (pv 9) (pa_cons (pe_bltn (v := .ty "tuple") (u := .type "tuple") rfl T.z_tuple (by decide +kernel) rfl) pa_nil)))))))
 (pss_cons
 (ps_set (i := 10) sc_law_bent.nd rfl (Or.inl rfl) (pe_call (ok_law_draw T) (hr.mono (by decide)) (by rfl) T.g_law_draw T.F_law_draw.kp T.b_law_draw .nil pass0 (pa_cons (pv 0) (pa_cons (pe_callB call_len_seq (by rfl) T.z_len (by decide +kernel) (pa_cons (pv 9) pa_nil)) pa_nil))))
 (pss_one
 (ps_ret (pe_tup (pa_cons (pv 3) (pa_cons (pe_op op_catA (pe_op op_catA (pe_slice sl_tupA (pv 4) po_none (po_some (pv 8))) (pe_tup (pa_cons (pe_op op_catA (pe_op op_catA (pe_slice sl_tupA (pv 9) po_none (po_some (pv 10))) (pe_tup (pa_cons (pv 6) pa_nil))) (pe_slice sl_tupA (pv 9) (po_some (pe_op op_add (pv 10) pe_int)) po_none)) pa_nil))) (pe_slice sl_tupA (pv 4) (po_some (pe_op op_add (pv 8) pe_int)) po_none)) pa_nil))))))
 pss_nil)
 (pss_cons
 (ps_if (PW.pt (pw_and (pt_cmpR op_eq (pv 5) pe_int (nomark _)) (pw_and1 (pt_val (pe_callB call_isi (by rfl) T.z_isinstance (by decide +kernel) (pa_cons (pv 9) (pa_cons (pe_bltn (v := .ty "tuple") (u := .type "tuple") rfl T.z_tuple (by decide +kernel) rfl) pa_nil)))))))
 (pss_cons
 (ps_set (i := 9) sc_law_bent.nd rfl (Or.inl rfl) (pe_call (ok_law_one T) (hr.mono (by decide)) (by rfl) T.g_law_one T.F_law_one.kp T.b_law_one .nil pass0 (pa_cons (pv 0) (pa_cons (pe_lst (pa_cons (pe_op op_catA (pv 9) (pe_tup (pa_cons (pv 6) pa_nil))) (pa_cons (pe_slice sl_tupA (pv 9) (po_some pe_int) po_none) (pa_cons (pe_callTy call_list_of (by rfl) T.z_list (by decide +kernel) (pa_cons (pv 9) pa_nil)) (pa_cons (pe_op op_catA (pv 9) (pv 9)) (pa_cons (pe_tup pa_nil) pa_nil)))))) pa_nil))))
 (pss_one
 (ps_ret (pe_tup (pa_cons (pv 3) (pa_cons (pe_op op_catA (pe_op op_catA (pe_slice sl_tupA (pv 4) po_none (po_some (pv 8))) (pe_tup (pa_cons (pv 9) pa_nil))) (pe_slice sl_tupA (pv 4) (po_some (pe_op op_add (pv 8) pe_int)) po_none)) pa_nil))))))
 pss_nil)
 (pss_cons
 (ps_if (PW.pt (pw_and (pt_cmpR op_eq (pv 5) pe_int (nomark _)) (pw_and1 (pt_cmpR op_eq (pv 3) pe_str (nomark _)))))
 (pss_cons
 (ps_set (i := 11) sc_law_bent.nd rfl (Or.inl rfl) (pe_call (ok_law_one T) (hr.mono (by decide)) (by rfl) T.g_law_one T.F_law_one.kp T.b_law_one .nil pass0 (pa_cons (pv 0) (pa_cons (pe_lst (pa_cons pe_int (pa_cons (pe_un un_neg pe_int) (pa_cons pe_bl (pa_cons pe_str (pa_cons pe_non (pa_cons pe_int (pa_cons pe_int (pa_cons (pe_op op_pow pe_int pe_int) (pa_cons (pe_tup (pa_cons pe_int pa_nil)) pa_nil)))))))))) pa_nil))))
 (pss_one
 (ps_ret (pe_tup (pa_cons (pv 3) (pa_cons (pe_op op_catA (pe_op op_catA (pe_slice sl_tupA (pv 4) po_none (po_some (pv 8))) (pe_tup (pa_cons (pe_tup (pa_cons (pe_ix ix_tup (pv 9) pe_int (fun _ _ => rfl)) (pa_cons (pv 11) pa_nil))) pa_nil))) (pe_slice sl_tupA (pv 4) (po_some (pe_op op_add (pv 8) pe_int)) po_none)) pa_nil))))))
 pss_nil)
 (pss_one
 (ps_ret (pe_tup (pa_cons (pv 3) (pa_cons (pe_op op_catA (pe_op op_catA (pe_slice sl_tupA (pv 4) po_none (po_some (pv 8))) (pe_tup (pa_cons (pv 6) pa_nil))) (pe_slice sl_tupA (pv 4) (po_some (pe_op op_add (pv 8) pe_int)) po_none)) pa_nil))))))))))))))))), ?_⟩
    have hpp : ∀ d ∈ ds, (parts d).length ≤ 6 := fun d hd => (hpc d hd).1
    refine ⟨.ref q, rfl, q, _, rfl, .of (hide_sub _ _ _ _ hq), rfl, _, _, rfl, _, _, rfl, rfl, ?_⟩
    refine ⟨.ref p, rfl, p, 8, x, _, rfl, hp, wx, by omega, by decide, size_ok (by decide) (by decide), fun m y1 c0 c1 w1 => ?_⟩
    have o1 : On p H y1 (upd H p (.lst y1)) := (On.start hp).put
    generalize upd H p (HO.lst y1) = H1 at o1 ⊢
    refine ⟨.ref p, rfl, .ref o, rfl, p, o, zs, y1, _, rfl, o1.2, o1.1 _ _ ho, hne, hz, w1, by omega, fun vo od y2 H2 o12 w2 ad okO pO => ?_⟩
    have o2 := o1.trans o12
    have A : DAll (hide p H2) [.tuple ds, od] [.ref t, vo] := da1 ⟨t, us, rfl, o2.1 _ _ ht, DAll.same o2.1 _ ha⟩ (da1 ad da0)
    clear o1 w1 o12 ad ht ha us hq
    refine ⟨.int m, rfl, rfl, _, rfl, ?_⟩
    cases decide (V.int m = V.int 0) with
    | true =>
      refine iteT ⟨.str wd, rfl, line_of (show 1 ≤ 1000 by decide), fun t1 n1 => ?_⟩
      obtain ⟨o3, A⟩ := pushT (l := [.str wd]) o2 n1 (da1 rfl da0) A
      refine ⟨.str wd, rfl, .ref t, rfl, line_of (show 0 ≤ 1000 by decide), fun t2 n2 => ?_⟩
      obtain ⟨o4, A⟩ := pushT (l := []) o3 n2 da0 A
      refine ⟨line_of (show 3 ≤ 1000 by decide), fun t3 n3 => ?_⟩
      obtain ⟨o5, A⟩ := pushT (l := [.str wd, .tuple ds, .tuple []]) o4 n3 (da1 rfl (da1 (A.nth 2 rfl rfl) (da1 (A.nth 0 rfl rfl) da0))) A
      refine ⟨.str wd, rfl, .ref t, rfl, line_of (show 2 ≤ 1000 by decide), fun t4 n4 => ?_⟩
      obtain ⟨o6, A⟩ := pushL (l := [.str wd, .tuple ds]) o5 n4 (da1 rfl (da1 (A.nth 3 rfl rfl) da0)) A
      refine ⟨line_of (show 0 ≤ 1000 by decide), fun t5 n5 => ?_⟩
      obtain ⟨o7, A⟩ := pushT (l := []) o6 n5 da0 A
      refine ⟨.ref t, rfl, .str wd, rfl, line_of (show 2 ≤ 1000 by decide), fun t6 n6' => ?_⟩
      obtain ⟨o8, A⟩ := pushT (l := [.tuple ds, .str wd]) o7 n6' (da1 (A.nth 5 rfl rfl) (da1 rfl da0)) A
      refine ⟨.str wd, rfl, line_of (show 8 ≤ 1000 by decide), fun t7 n7 => ?_⟩
      obtain ⟨o9, A⟩ := pushL (l := [.none, .str "order", .tuple [.str wd], .tuple [.str wd, .tuple ds, .tuple []], .list [.str wd, .tuple ds], .tuple [], .tuple [.tuple ds, .str wd], .str wd]) o8 n7
        (da1 rfl (da1 rfl (da1 (A.nth 5 rfl rfl) (da1 (A.nth 3 rfl rfl) (da1 (A.nth 2 rfl rfl) (da1 (A.nth 1 rfl rfl) (da1 (A.nth 0 rfl rfl) (da1 rfl da0)))))))) A
      obtain ⟨_, ws, et, ht, ha⟩ := A.nth 7 rfl rfl
      cases et
      refine ⟨.ref p, rfl, .ref t7, rfl, .str wd, rfl, .ref t, rfl, t, ws, rfl, .inr (.of (hide_sub _ _ _ _ ht)), fun t8 n8 => ?_⟩
      obtain ⟨o10, A⟩ := pushL o9 n8 ha A
      refine ⟨line_of (show 2 ≤ 1000 by decide), fun t9 n9 => ?_⟩
      obtain ⟨o11, A⟩ := pushT (l := [.str wd, .list ds]) o10 n9 (da1 rfl (da1 (A.nth 0 rfl rfl) da0)) A
      refine ⟨line_of (show 1 ≤ 1000 by decide), fun t10 n10 => ?_⟩
      obtain ⟨o12, A⟩ := pushL (l := [.tuple [.str wd, .list ds]]) o11 n10 (da1 (A.nth 0 rfl rfl) da0) A
      obtain ⟨_, xs1, e1, h1, a1⟩ := A.nth 0 rfl rfl
      cases e1
      obtain ⟨_, xs2, e2, h2, a2⟩ := A.nth 3 rfl rfl
      cases e2
      have l1 : xs1.length = 1 := a1.len
      have l2 : xs2.length = 8 := a2.len
      refine ⟨t7, t10, xs2, xs1, rfl, rfl, hide_sub _ _ _ _ h2, hide_sub _ _ _ _ h1, line_of (by rw [l1, l2]; decide), fun t11 n11 => ?_⟩
      obtain ⟨o13, A⟩ := pushL o12 n11 (a2.append a1) A
      obtain ⟨xs, g1, g2, g3, g4⟩ := oneD o13 (A.nth 0 rfl rfl) da0 (List.cons_ne_nil _ _) (by show 9 ≤ 1000; decide)
      refine ⟨p, t11, y2, xs, _, rfl, o13.2, g1, g2, g3, w2, by omega, fun i v y' hi w3 => ?_⟩
      obtain ⟨d, hd, o14, A⟩ := g4 i v y' hi
      have okd' : OkA 10 1000 ds := okd.mono (by decide) (Nat.le_refl _)
      have kw : ∀ n, Ok n 8 (.str wd) := fun n => okw.mono (Nat.zero_le _) (Nat.le_refl _)
      have nn : ∀ n, OkA n 0 [] := fun n => OkA.nil
      refine c v d y' _ o14 (w3.mono (by omega)) (A.nth 0 rfl rfl) ?_ ?_
      · simp only [List.cons_append, List.nil_append, List.mem_cons, List.not_mem_nil, or_false] at hd
        rcases hd with rfl | rfl | rfl | rfl | rfl | rfl | rfl | rfl | rfl
        · exact ok_none
        · exact ok_str (by decide +kernel) (by decide +kernel)
        · exact ((OkA.cons (kw 10) (nn 10)).tuple).mono (by decide) (by decide)
        · exact ((OkA.cons (kw 11) (OkA.cons okd'.tuple (OkA.cons ((nn 10).tuple) (nn 11)))).tuple).mono (by decide) (by decide)
        · exact ((OkA.cons (kw 11) (OkA.cons okd'.tuple (nn 11))).list).mono (by decide) (by decide)
        · exact ((nn 10).tuple).mono (by decide) (by decide)
        · exact ((OkA.cons okd'.tuple (OkA.cons (kw 11) (nn 11))).tuple).mono (by decide) (by decide)
        · exact (kw 20).mono (by decide) (by decide)
        · exact ((OkA.cons (kw 11) (OkA.cons okd'.list (nn 11))).tuple).mono (by decide) (by decide)
      · simp only [List.cons_append, List.nil_append, List.mem_cons, List.not_mem_nil, or_false] at hd
        rcases hd with rfl | rfl | rfl | rfl | rfl | rfl | rfl | rfl | rfl <;> exact trivial
    | false =>
      refine iteF ⟨.int m, rfl, rfl, _, rfl, ?_⟩
      have wds : Wide ds := ⟨by omega, fun d hd => Nat.le_trans (hpp d hd) (by decide)⟩
      have okd' : OkA 10 2000 ds := okd.mono (by decide) (by decide)
      cases decide (V.int m = V.int 1) with
      | true =>
        refine iteT ⟨.ref p, rfl, line_of (show 1 ≤ 1000 by decide), fun t1 n1 => ?_⟩
        obtain ⟨o3, A⟩ := pushT (l := [.str "order"]) o2 n1 (da1 rfl da0) A
        refine ⟨line_of (show 8 ≤ 1000 by decide), fun t2 n2 => ?_⟩
        obtain ⟨o4, A⟩ := pushL (l := [.str "order", .str "lets", .str "marks", .str "Order", .str "", .none, .str "ranks", .tuple [.str "order"]]) o3 n2
          (da1 rfl (da1 rfl (da1 rfl (da1 rfl (da1 rfl (da1 rfl (da1 rfl (da1 (A.nth 0 rfl rfl) da0)))))))) A
        obtain ⟨xs, g1, g2, g3, g4⟩ := oneD o4 (A.nth 0 rfl rfl) A (List.cons_ne_nil _ _) (by show 8 ≤ 1000; decide)
        refine ⟨p, t2, y2, xs, _, rfl, o4.2, g1, g2, g3, w2, by omega, fun i v y' hi w3 => ?_⟩
        obtain ⟨d, hd, o5, A⟩ := g4 i v y' hi
        generalize upd _ p (HO.lst y') = H5 at o5 A ⊢
        refine ⟨.ref t, rfl, line_of (show 2 ≤ 1000 by decide), fun t3 n3 => ?_⟩
        obtain ⟨o6, A⟩ := pushT (l := [d, .tuple ds]) o5 n3 (da1 (A.nth 0 rfl rfl) (da1 (A.nth 3 rfl rfl) da0)) A
        refine c _ _ y' _ o6 (w3.mono (by omega)) (A.nth 0 rfl rfl) ?_ wds
        have kd : Ok 11 10 d := by
          simp only [List.mem_cons, List.not_mem_nil, or_false] at hd
          have ks : ∀ {z : Str}, PyData.strOk z = true → z.length ≤ 5 → Ok 11 10 (.str z) := fun a b => ok_str a (Nat.le_trans b (by decide))
          rcases hd with rfl | rfl | rfl | rfl | rfl | rfl | rfl | rfl
          · exact ks (by decide +kernel) (by decide +kernel)
          · exact ks (by decide +kernel) (by decide +kernel)
          · exact ks (by decide +kernel) (by decide +kernel)
          · exact ks (by decide +kernel) (by decide +kernel)
          · exact ks (by decide +kernel) (by decide +kernel)
          · exact ok_none
          · exact ks (by decide +kernel) (by decide +kernel)
          · exact ((OkA.cons (n := 10) (m := 5) (k := 0) (ok_str (by decide +kernel) (by decide +kernel)) OkA.nil).tuple).mono (by decide) (by decide)
        exact ((OkA.cons kd (OkA.cons (k := 0) okd'.tuple OkA.nil)).tuple).mono (by decide) (by decide)
      | false =>
        -- the rest
        refine iteF ⟨.ref t, rfl, line_of (show 0 ≤ 1000 by decide), fun t1 n1 => ?_⟩
        obtain ⟨o, A⟩ := pushT (l := []) o2 n1 da0 A
        obtain ⟨_, ws, et, ht2, hw2⟩ := A.nth 1 rfl rfl
        cases et
        have lw := hw2.len
        have sub := hide_sub p (upd H2 t1 (.tup []))
        refine ⟨.tuple ds, .tuple [], DAt.dp _ (DAt.same sub _ (A.nth 1 rfl rfl)), DAt.dp _ (DAt.same sub _ (A.nth 0 rfl rfl)), okd.tuple.shaped (by decide), rfl, _, rfl, ?_⟩
        have ee : PyData.eqv (.tuple ds) (.tuple []) = ds.isEmpty := by cases ds <;> simp [PyData.eqv, PyData.eqvAll]
        rw [ee]
        cases he : ds.isEmpty with
        | true =>
          refine iteT ?_
          refine ⟨.ref p, rfl, .ref t, rfl, t, _, rfl, .inr (.of (hide_sub _ _ _ _ ht2)), _, _, rfl, rfl, p, _, _, _, rfl, o.2, w2, by omega, by omega, size_ok (by omega) (by omega), fun a0 y3 b0 b1 w3 => ?_⟩
          obtain ⟨a, rfl⟩ := Int.eq_ofNat_of_zero_le b0
          replace o := o.put (z := y3)
          replace A := A.puts (o := .lst y3)
          generalize upd _ p (HO.lst y3) = H3 at o A ⊢
          have al : a ≤ ds.length := by omega
          refine ⟨.str wd, rfl, ?_⟩
          refine ⟨.ref t, rfl, _, rfl, _, rfl, slD o (A.nth 1 rfl rfl) A (cut_toD (l := ds) (i := a) (by omega)) fun _ _ o A => ?_⟩
          refine ⟨vo, rfl, line_of (show 1 ≤ 1000 by decide), fun tx nx => ?_⟩
          obtain ⟨o, A⟩ := pushT (l := [od]) o nx (da1 (A.nth 3 rfl rfl) da0) A
          refine catD o (A.nth 1 rfl rfl) (A.nth 0 rfl rfl) A (by rw [List.length_take]; show _ + 1 ≤ 1000; omega) fun _ _ o A => ?_
          refine ⟨.ref t, rfl, _, rfl, _, rfl, ?_⟩
          dsimp only [tNoPart]
          refine slD o (A.nth 4 rfl rfl) A (cut_fromD (l := ds) (i := a) rfl (by omega)) fun _ _ o A => ?_
          refine catD o (A.nth 1 rfl rfl) (A.nth 0 rfl rfl) A (by rw [List.length_append, List.length_take, List.length_drop]; show _ + 1 + _ ≤ 1000; omega) fun _ _ o A => ?_
          refine ⟨line_of (show 2 ≤ 1000 by decide), fun tr nr => ?_⟩
          obtain ⟨o, A⟩ := pushT (l := [.str wd, .tuple (ds.take a ++ [od] ++ ds.drop (a))]) o nr (da1 rfl (da1 (A.nth 0 rfl rfl) da0)) A
          refine c _ _ _ _ o (WellL.mono (by assumption) (by omega)) (A.nth 0 rfl rfl) (ok_two okw (ok_mix okd (OkA.cons (n := 10) (k := 0) (okO.mono (by decide) (Nat.le_refl _)) OkA.nil) a (a)) (by omega)) (wide_mix n6 hpp (by show 1 ≤ 2; decide) ?_ a (a))
          intro d hd
          rw [List.mem_singleton] at hd
          rw [hd]
          omega
        | false =>
          refine iteF ⟨.int m, rfl, rfl, _, rfl, ?_⟩
          cases decide (V.int m = V.int 2) with
          | true =>
            refine iteT ?_
            refine ⟨.ref p, rfl, .ref t, rfl, t, _, rfl, .inr (.of (hide_sub _ _ _ _ ht2)), _, _, rfl, rfl, p, _, _, _, rfl, o.2, w2, by omega, by omega, size_ok (by omega) (by omega), fun a0 y3 b0 b1 w3 => ?_⟩
            obtain ⟨a, rfl⟩ := Int.eq_ofNat_of_zero_le b0
            replace o := o.put (z := y3)
            replace A := A.puts (o := .lst y3)
            generalize upd _ p (HO.lst y3) = H3 at o A ⊢
            have al : a ≤ ds.length := by omega
            refine ⟨.str wd, rfl, ?_⟩
            refine ⟨.ref t, rfl, _, rfl, _, rfl, slD o (A.nth 1 rfl rfl) A (cut_toD (l := ds) (i := a) (by omega)) fun _ _ o A => ?_⟩
            refine ⟨vo, rfl, line_of (show 1 ≤ 1000 by decide), fun tx nx => ?_⟩
            obtain ⟨o, A⟩ := pushT (l := [od]) o nx (da1 (A.nth 3 rfl rfl) da0) A
            refine catD o (A.nth 1 rfl rfl) (A.nth 0 rfl rfl) A (by rw [List.length_take]; show _ + 1 ≤ 1000; omega) fun _ _ o A => ?_
            refine ⟨.ref t, rfl, _, rfl, _, rfl, ?_⟩
            dsimp only [tNoPart]
            refine slD o (A.nth 4 rfl rfl) A (cut_fromD (l := ds) (i := a) rfl (by omega)) fun _ _ o A => ?_
            refine catD o (A.nth 1 rfl rfl) (A.nth 0 rfl rfl) A (by rw [List.length_append, List.length_take, List.length_drop]; show _ + 1 + _ ≤ 1000; omega) fun _ _ o A => ?_
            refine ⟨line_of (show 2 ≤ 1000 by decide), fun tr nr => ?_⟩
            obtain ⟨o, A⟩ := pushT (l := [.str wd, .tuple (ds.take a ++ [od] ++ ds.drop (a))]) o nr (da1 rfl (da1 (A.nth 0 rfl rfl) da0)) A
            refine c _ _ _ _ o (WellL.mono (by assumption) (by omega)) (A.nth 0 rfl rfl) (ok_two okw (ok_mix okd (OkA.cons (n := 10) (k := 0) (okO.mono (by decide) (Nat.le_refl _)) OkA.nil) a (a)) (by omega)) (wide_mix n6 hpp (by show 1 ≤ 2; decide) ?_ a (a))
            intro d hd
            rw [List.mem_singleton] at hd
            rw [hd]
            omega
          | false =>
            refine iteF ?_
            have pos : 0 < ds.length := by
              cases ds with
              | nil => cases he
              | cons _ _ => exact Nat.succ_pos _
            refine ⟨.ref p, rfl, .ref t, rfl, t, _, rfl, .inr (.of (hide_sub _ _ _ _ ht2)), p, _, _, _, rfl, o.2, w2, by omega, by omega, size_ok (by omega) (by omega), fun a0 y3 b0 b1 w3 => ?_⟩
            obtain ⟨a, rfl⟩ := Int.eq_ofNat_of_zero_le b0
            replace o := o.put (z := y3)
            replace A := A.puts (o := .lst y3)
            generalize upd _ p (HO.lst y3) = H3 at o A ⊢
            have al : a < ds.length := by omega
            obtain ⟨_, us, et, ht3, hu⟩ := A.nth 1 rfl rfl
            cases et
            have lu := hu.len
            obtain ⟨pv, hpv⟩ : ∃ pv, us[a]? = some pv := ⟨us[a]'(by omega), List.getElem?_eq_getElem (by omega)⟩
            obtain ⟨dp, hdp, adp⟩ := hu.get hpv
            replace A := da1 adp A
            have okp := okd.get dp (List.mem_of_getElem? hdp)
            obtain ⟨pp, ppc⟩ := hpc dp (List.mem_of_getElem? hdp)
            have ho1 : (ds.drop a).take 1 = [dp] := by
              have e1 : ds[a] = dp := by
                have := List.getElem?_eq_getElem al
                rw [hdp] at this
                exact (Option.some.inj this).symm
              rw [List.drop_eq_getElem_cons al, e1]
              rfl
            refine ⟨.ref t, rfl, .int (a : Int), rfl, t, us, _, pv, rfl, rfl, .of (hide_sub _ _ _ _ ht3), atI_nat hpv, ?_⟩
            refine ⟨.int m, rfl, rfl, _, rfl, ?_⟩
            cases decide (V.int m = V.int 3) with
            | true =>
              refine iteT ⟨.str wd, rfl, ?_⟩
              refine ⟨.ref t, rfl, _, rfl, _, rfl, slD o (A.nth 2 rfl rfl) A (cut_toD (l := ds) (i := a) (by omega)) fun _ _ o A => ?_⟩
              refine ⟨.ref t, rfl, _, rfl, _, rfl, .int (a : Int), rfl, _, _, rfl, rfl, _, rfl, slD o (A.nth 3 rfl rfl) A (cut_oneD (l := ds) (i := a) al) fun s1 _ o A => ?_⟩
              obtain ⟨_, xs1, e1, hs1, as1⟩ := A.nth 0 rfl rfl
              cases e1
              rw [ho1] at as1
              have l1 : xs1.length = 1 := as1.len
              refine ⟨s1, 2, xs1, rfl, rfl, .of (hide_sub _ _ _ _ hs1), (fun z => by rw [z] at l1; cases l1), by decide, by decide, by omega, fun z => absurd z (by decide), fun _ tm nm => ?_⟩
              obtain ⟨o, A⟩ := pushT (l := [dp, dp]) o nm (by show DAll _ _ (xs1 ++ (xs1 ++ [])); rw [List.append_nil]; exact as1.append as1) A
              refine catD o (A.nth 2 rfl rfl) (A.nth 0 rfl rfl) A (by rw [List.length_take]; show _ + 2 ≤ 1000; omega) fun _ _ o A => ?_
              refine ⟨.ref t, rfl, .int (a : Int), rfl, _, _, rfl, rfl, _, rfl, ?_⟩
              dsimp only [tNoPart]
              refine slD o (A.nth 6 rfl rfl) A (cut_fromD (l := ds) (i := a + 1) rfl (by omega)) fun _ _ o A => ?_
              refine catD o (A.nth 1 rfl rfl) (A.nth 0 rfl rfl) A (by rw [List.length_append, List.length_take, List.length_drop]; show _ + 2 + _ ≤ 1000; omega) fun _ _ o A => ?_
              refine ⟨line_of (show 2 ≤ 1000 by decide), fun tr nr => ?_⟩
              obtain ⟨o, A⟩ := pushT (l := [.str wd, .tuple (ds.take a ++ [dp, dp] ++ ds.drop (a + 1))]) o nr (da1 rfl (da1 (A.nth 0 rfl rfl) da0)) A
              refine c _ _ _ _ o (WellL.mono (by assumption) (by omega)) (A.nth 0 rfl rfl) (ok_two okw (ok_mix okd (OkA.cons (n := 10) (k := 1001) (okp.mono (by decide) (Nat.le_refl _)) (OkA.cons (n := 10) (k := 0) (okp.mono (by decide) (Nat.le_refl _)) OkA.nil)) a (a + 1)) (by omega)) (wide_mix n6 hpp (by show 2 ≤ 2; decide) ?_ a (a + 1))
              intro d hd
              simp only [List.mem_cons, List.not_mem_nil, or_false, or_self] at hd
              rw [hd]
              omega
            | false =>
              have dec : ∀ n : Int, decide (V.int m = V.int n) = decide (m = n) := fun n => decide_eq_decide.mpr ⟨fun h => V.int.inj h, fun h => by rw [h]⟩
              obtain ⟨ty, hty, kT, _⟩ := (DAt.same (hide_sub p H3) _ adp).ty (K := K)
              refine iteF ⟨.int m, rfl, rfl, _, rfl, ?_⟩
              cases hT : dT dp with
              | false =>
                have wm : wd ≠ "marks" := by
                  rcases ppc with ⟨_, h⟩ | ⟨_, _, rfl⟩
                  · exact h
                  · cases hT
                by_cases h4 : m = 4
                · rw [dec, decide_eq_true h4]
                  refine iteT ⟨pv, rfl, pv, _, ty, _, dT dp, rfl, .ty _, hty, kT, dT dp, rfl, ?_⟩
                  rw [hT]
                  refine iteF ⟨.int m, rfl, rfl, _, rfl, ?_⟩
                  rw [dec, decide_eq_false (by omega)]
                  refine iteF (iteF ⟨.int m, rfl, rfl, _, rfl, ?_⟩)
                  rw [dec, decide_eq_false (by omega)]
                  refine iteF (iteF ?_)
                  refine ⟨.str wd, rfl, ?_⟩
                  refine ⟨.ref t, rfl, _, rfl, _, rfl, slD o (A.nth 2 rfl rfl) A (cut_toD (l := ds) (i := a) (by omega)) fun _ _ o A => ?_⟩
                  refine ⟨vo, rfl, line_of (show 1 ≤ 1000 by decide), fun tx nx => ?_⟩
                  obtain ⟨o, A⟩ := pushT (l := [od]) o nx (da1 (A.nth 4 rfl rfl) da0) A
                  refine catD o (A.nth 1 rfl rfl) (A.nth 0 rfl rfl) A (by rw [List.length_take]; show _ + 1 ≤ 1000; omega) fun _ _ o A => ?_
                  refine ⟨.ref t, rfl, .int (a : Int), rfl, _, _, rfl, rfl, _, rfl, ?_⟩
                  dsimp only [tNoPart]
                  refine slD o (A.nth 5 rfl rfl) A (cut_fromD (l := ds) (i := a + 1) rfl (by omega)) fun _ _ o A => ?_
                  refine catD o (A.nth 1 rfl rfl) (A.nth 0 rfl rfl) A (by rw [List.length_append, List.length_take, List.length_drop]; show _ + 1 + _ ≤ 1000; omega) fun _ _ o A => ?_
                  refine ⟨line_of (show 2 ≤ 1000 by decide), fun tr nr => ?_⟩
                  obtain ⟨o, A⟩ := pushT (l := [.str wd, .tuple (ds.take a ++ [od] ++ ds.drop (a + 1))]) o nr (da1 rfl (da1 (A.nth 0 rfl rfl) da0)) A
                  refine c _ _ _ _ o (WellL.mono (by assumption) (by omega)) (A.nth 0 rfl rfl) (ok_two okw (ok_mix okd (OkA.cons (n := 10) (k := 0) (okO.mono (by decide) (Nat.le_refl _)) OkA.nil) a (a + 1)) (by omega)) (wide_mix n6 hpp (by show 1 ≤ 2; decide) ?_ a (a + 1))
                  intro d hd
                  rw [List.mem_singleton] at hd
                  rw [hd]
                  omega
                · rw [dec, decide_eq_false h4]
                  refine iteF (iteF ⟨.int m, rfl, rfl, _, rfl, ?_⟩)
                  by_cases h5 : m = 5
                  · rw [dec, decide_eq_true h5]
                    refine iteT ⟨pv, rfl, pv, _, ty, _, dT dp, rfl, .ty _, hty, kT, dT dp, rfl, ?_⟩
                    rw [hT]
                    refine iteF ⟨.int m, rfl, rfl, _, rfl, ?_⟩
                    rw [dec, decide_eq_false (by omega)]
                    refine iteF (iteF ?_)
                    refine ⟨.str wd, rfl, ?_⟩
                    refine ⟨.ref t, rfl, _, rfl, _, rfl, slD o (A.nth 2 rfl rfl) A (cut_toD (l := ds) (i := a) (by omega)) fun _ _ o A => ?_⟩
                    refine ⟨vo, rfl, line_of (show 1 ≤ 1000 by decide), fun tx nx => ?_⟩
                    obtain ⟨o, A⟩ := pushT (l := [od]) o nx (da1 (A.nth 4 rfl rfl) da0) A
                    refine catD o (A.nth 1 rfl rfl) (A.nth 0 rfl rfl) A (by rw [List.length_take]; show _ + 1 ≤ 1000; omega) fun _ _ o A => ?_
                    refine ⟨.ref t, rfl, .int (a : Int), rfl, _, _, rfl, rfl, _, rfl, ?_⟩
                    dsimp only [tNoPart]
                    refine slD o (A.nth 5 rfl rfl) A (cut_fromD (l := ds) (i := a + 1) rfl (by omega)) fun _ _ o A => ?_
                    refine catD o (A.nth 1 rfl rfl) (A.nth 0 rfl rfl) A (by rw [List.length_append, List.length_take, List.length_drop]; show _ + 1 + _ ≤ 1000; omega) fun _ _ o A => ?_
                    refine ⟨line_of (show 2 ≤ 1000 by decide), fun tr nr => ?_⟩
                    obtain ⟨o, A⟩ := pushT (l := [.str wd, .tuple (ds.take a ++ [od] ++ ds.drop (a + 1))]) o nr (da1 rfl (da1 (A.nth 0 rfl rfl) da0)) A
                    refine c _ _ _ _ o (WellL.mono (by assumption) (by omega)) (A.nth 0 rfl rfl) (ok_two okw (ok_mix okd (OkA.cons (n := 10) (k := 0) (okO.mono (by decide) (Nat.le_refl _)) OkA.nil) a (a + 1)) (by omega)) (wide_mix n6 hpp (by show 1 ≤ 2; decide) ?_ a (a + 1))
                    intro d hd
                    rw [List.mem_singleton] at hd
                    rw [hd]
                    omega
                  · rw [dec, decide_eq_false h5]
                    refine iteF (iteF ⟨.int m, rfl, rfl, _, rfl, ?_⟩)
                    by_cases h6 : m = 6
                    · rw [dec, decide_eq_true h6]
                      refine iteT ⟨.str wd, rfl, rfl, _, rfl, ?_⟩
                      rw [decide_eq_false (fun z => wm (V.str.inj z))]
                      refine iteF ?_
                      refine ⟨.str wd, rfl, ?_⟩
                      refine ⟨.ref t, rfl, _, rfl, _, rfl, slD o (A.nth 2 rfl rfl) A (cut_toD (l := ds) (i := a) (by omega)) fun _ _ o A => ?_⟩
                      refine ⟨vo, rfl, line_of (show 1 ≤ 1000 by decide), fun tx nx => ?_⟩
                      obtain ⟨o, A⟩ := pushT (l := [od]) o nx (da1 (A.nth 4 rfl rfl) da0) A
                      refine catD o (A.nth 1 rfl rfl) (A.nth 0 rfl rfl) A (by rw [List.length_take]; show _ + 1 ≤ 1000; omega) fun _ _ o A => ?_
                      refine ⟨.ref t, rfl, .int (a : Int), rfl, _, _, rfl, rfl, _, rfl, ?_⟩
                      dsimp only [tNoPart]
                      refine slD o (A.nth 5 rfl rfl) A (cut_fromD (l := ds) (i := a + 1) rfl (by omega)) fun _ _ o A => ?_
                      refine catD o (A.nth 1 rfl rfl) (A.nth 0 rfl rfl) A (by rw [List.length_append, List.length_take, List.length_drop]; show _ + 1 + _ ≤ 1000; omega) fun _ _ o A => ?_
                      refine ⟨line_of (show 2 ≤ 1000 by decide), fun tr nr => ?_⟩
                      obtain ⟨o, A⟩ := pushT (l := [.str wd, .tuple (ds.take a ++ [od] ++ ds.drop (a + 1))]) o nr (da1 rfl (da1 (A.nth 0 rfl rfl) da0)) A
                      refine c _ _ _ _ o (WellL.mono (by assumption) (by omega)) (A.nth 0 rfl rfl) (ok_two okw (ok_mix okd (OkA.cons (n := 10) (k := 0) (okO.mono (by decide) (Nat.le_refl _)) OkA.nil) a (a + 1)) (by omega)) (wide_mix n6 hpp (by show 1 ≤ 2; decide) ?_ a (a + 1))
                      intro d hd
                      rw [List.mem_singleton] at hd
                      rw [hd]
                      omega
                    · rw [dec, decide_eq_false h6]
                      refine iteF (iteF ?_)
                      refine ⟨.str wd, rfl, ?_⟩
                      refine ⟨.ref t, rfl, _, rfl, _, rfl, slD o (A.nth 2 rfl rfl) A (cut_toD (l := ds) (i := a) (by omega)) fun _ _ o A => ?_⟩
                      refine ⟨vo, rfl, line_of (show 1 ≤ 1000 by decide), fun tx nx => ?_⟩
                      obtain ⟨o, A⟩ := pushT (l := [od]) o nx (da1 (A.nth 4 rfl rfl) da0) A
                      refine catD o (A.nth 1 rfl rfl) (A.nth 0 rfl rfl) A (by rw [List.length_take]; show _ + 1 ≤ 1000; omega) fun _ _ o A => ?_
                      refine ⟨.ref t, rfl, .int (a : Int), rfl, _, _, rfl, rfl, _, rfl, ?_⟩
                      dsimp only [tNoPart]
                      refine slD o (A.nth 5 rfl rfl) A (cut_fromD (l := ds) (i := a + 1) rfl (by omega)) fun _ _ o A => ?_
                      refine catD o (A.nth 1 rfl rfl) (A.nth 0 rfl rfl) A (by rw [List.length_append, List.length_take, List.length_drop]; show _ + 1 + _ ≤ 1000; omega) fun _ _ o A => ?_
                      refine ⟨line_of (show 2 ≤ 1000 by decide), fun tr nr => ?_⟩
                      obtain ⟨o, A⟩ := pushT (l := [.str wd, .tuple (ds.take a ++ [od] ++ ds.drop (a + 1))]) o nr (da1 rfl (da1 (A.nth 0 rfl rfl) da0)) A
                      refine c _ _ _ _ o (WellL.mono (by assumption) (by omega)) (A.nth 0 rfl rfl) (ok_two okw (ok_mix okd (OkA.cons (n := 10) (k := 0) (okO.mono (by decide) (Nat.le_refl _)) OkA.nil) a (a + 1)) (by omega)) (wide_mix n6 hpp (by show 1 ≤ 2; decide) ?_ a (a + 1))
                      intro d hd
                      rw [List.mem_singleton] at hd
                      rw [hd]
                      omega
              | true =>
                obtain ⟨pa, pr, rfl⟩ : ∃ pa pr, dp = .tuple (pa :: pr) := by
                  rcases ppc with ⟨⟨z, rfl⟩, _⟩ | h
                  · cases hT
                  · exact h
                obtain ⟨pe, ps, rfl, _, _⟩ := adp
                have okq : OkA 4 1000 (pa :: pr) := okp.parts
                have np : (pa :: pr).length ≤ 6 := pp
                generalize hpl : pa :: pr = pl at A okq np okp hdp
                obtain ⟨_, ps2, e2, hpe2, hps2⟩ := A.nth 0 rfl rfl
                cases e2
                have lp2 := hps2.len
                have pl1 : 1 ≤ pl.length := by rw [← hpl]; exact Nat.succ_pos _
                by_cases h4 : m = 4
                · rw [dec, decide_eq_true h4]
                  refine iteT ⟨.ref pe, rfl, .ref pe, _, ty, _, dT (.tuple (pa :: pr)), rfl, .ty _, hty, kT, true, rfl, ?_⟩
                  refine iteT ?_
                  refine ⟨.ref p, rfl, .ref pe, rfl, pe, _, rfl, .inr (.of (hide_sub _ _ _ _ hpe2)), p, _, _, _, rfl, o.2, w3, by omega, by omega, size_ok (by omega) (by omega), fun a0 y4 b0 b1 w4 => ?_⟩
                  obtain ⟨e, rfl⟩ := Int.eq_ofNat_of_zero_le b0
                  replace o := o.put (z := y4)
                  replace A := A.puts (o := .lst y4)
                  generalize upd _ p (HO.lst y4) = H4 at o A ⊢
                  have el : e < pl.length := by omega
                  refine ⟨.str wd, rfl, ?_⟩
                  refine ⟨.ref t, rfl, _, rfl, _, rfl, slD o (A.nth 2 rfl rfl) A (cut_toD (l := ds) (i := a) (by omega)) fun _ _ o A => ?_⟩
                  refine ⟨.ref pe, rfl, _, rfl, _, rfl, slD o (A.nth 1 rfl rfl) A (cut_toD (l := pl) (i := e) (by omega)) fun _ _ o A => ?_⟩
                  refine ⟨vo, rfl, line_of (show 1 ≤ 1000 by decide), fun tx nx => ?_⟩
                  obtain ⟨o, A⟩ := pushT (l := [od]) o nx (da1 (A.nth 5 rfl rfl) da0) A
                  refine catD o (A.nth 1 rfl rfl) (A.nth 0 rfl rfl) A (by rw [List.length_take]; show _ + 1 ≤ 1000; omega) fun _ _ o A => ?_
                  refine ⟨.ref pe, rfl, .int (e : Int), rfl, _, _, rfl, rfl, _, rfl, ?_⟩
                  dsimp only [tNoPart]
                  refine slD o (A.nth 4 rfl rfl) A (cut_fromD (l := pl) (i := e + 1) rfl (by omega)) fun _ _ o A => ?_
                  refine catD o (A.nth 1 rfl rfl) (A.nth 0 rfl rfl) A (by rw [List.length_append, List.length_take, List.length_drop]; show _ + 1 + _ ≤ 1000; omega) fun _ _ o A => ?_
                  refine ⟨line_of (show 1 ≤ 1000 by decide), fun tz nz => ?_⟩
                  obtain ⟨o, A⟩ := pushT (l := [.tuple (pl.take e ++ [od] ++ pl.drop (e + 1))]) o nz (da1 (A.nth 0 rfl rfl) da0) A
                  refine catD o (A.nth 6 rfl rfl) (A.nth 0 rfl rfl) A (by rw [List.length_take]; show _ + 1 ≤ 1000; omega) fun _ _ o A => ?_
                  refine ⟨.ref t, rfl, .int (a : Int), rfl, _, _, rfl, rfl, _, rfl, ?_⟩
                  dsimp only [tNoPart]
                  refine slD o (A.nth 10 rfl rfl) A (cut_fromD (l := ds) (i := a + 1) rfl (by omega)) fun _ _ o A => ?_
                  refine catD o (A.nth 1 rfl rfl) (A.nth 0 rfl rfl) A (by rw [List.length_append, List.length_take, List.length_drop]; show _ + 1 + _ ≤ 1000; omega) fun _ _ o A => ?_
                  refine ⟨line_of (show 2 ≤ 1000 by decide), fun tr nr => ?_⟩
                  obtain ⟨o, A⟩ := pushT (l := [.str wd, .tuple (ds.take a ++ [.tuple (pl.take e ++ [od] ++ pl.drop (e + 1))] ++ ds.drop (a + 1))]) o nr (da1 rfl (da1 (A.nth 0 rfl rfl) da0)) A
                  refine c _ _ _ _ o (WellL.mono (by assumption) (by omega)) (A.nth 0 rfl rfl) (ok_two okw (ok_mix okd (OkA.cons (n := 10) (k := 0) (ok_mid okq okO e (e + 1)) OkA.nil) a (a + 1)) (by omega)) (wide_mix n6 hpp (by show 1 ≤ 2; decide) ?_ a (a + 1))
                  intro d hd
                  rw [List.mem_singleton] at hd
                  rw [hd]
                  show (pl.take e ++ [od] ++ pl.drop (e + 1)).length ≤ 20
                  rw [List.length_append, List.length_append, List.length_take, List.length_drop]
                  show _ + 1 + _ ≤ 20
                  omega
                · rw [dec, decide_eq_false h4]
                  refine iteF (iteF ⟨.int m, rfl, rfl, _, rfl, ?_⟩)
                  by_cases h5 : m = 5
                  · rw [dec, decide_eq_true h5]
                    refine iteT ⟨.ref pe, rfl, .ref pe, _, ty, _, dT (.tuple (pa :: pr)), rfl, .ty _, hty, kT, true, rfl, ?_⟩
                    refine iteT ⟨.ref p, rfl, .ref pe, rfl, vo, rfl, line_of (show 1 ≤ 1000 by decide), fun tx nx => ?_⟩
                    obtain ⟨o, A⟩ := pushT (l := [od]) o nx (da1 (A.nth 3 rfl rfl) da0) A
                    refine catD o (A.nth 1 rfl rfl) (A.nth 0 rfl rfl) A (by show _ + 1 ≤ 1000; omega) fun _ _ o A => ?_
                    refine ⟨.ref pe, rfl, 1, rfl, ?_⟩
                    dsimp only [tNoPart]
                    refine slD o (A.nth 2 rfl rfl) A (cut_fromD (l := pl) (i := 1) rfl (by omega)) fun _ _ o A => ?_
                    obtain ⟨_, ps3, e3, hpe3, hps3⟩ := A.nth 3 rfl rfl
                    cases e3
                    refine ⟨.ref pe, rfl, pe, ps3, rfl, .inr (.of (hide_sub _ _ _ _ hpe3)), fun tl nl => ?_⟩
                    obtain ⟨o, A⟩ := pushL o nl hps3 A
                    refine ⟨.ref pe, rfl, .ref pe, rfl, catD o (A.nth 4 rfl rfl) (A.nth 4 rfl rfl) A (by omega) fun _ _ o A => ?_⟩
                    refine ⟨line_of (show 0 ≤ 1000 by decide), fun t0 n0 => ?_⟩
                    obtain ⟨o, A⟩ := pushT (l := []) o n0 da0 A
                    refine ⟨line_of (show 5 ≤ 1000 by decide), fun t5 n5 => ?_⟩
                    obtain ⟨o, A⟩ := pushL (l := [.tuple (pl ++ [od]), .tuple (pl.drop 1), .list pl, .tuple (pl ++ pl), .tuple []]) o n5 (da1 (A.nth 4 rfl rfl) (da1 (A.nth 3 rfl rfl) (da1 (A.nth 2 rfl rfl) (da1 (A.nth 1 rfl rfl) (da1 (A.nth 0 rfl rfl) da0))))) A
                    obtain ⟨xs, g1, g2, g3, g4⟩ := oneD o (A.nth 0 rfl rfl) A (List.cons_ne_nil _ _) (by show 5 ≤ 1000; decide)
                    refine ⟨p, t5, y3, xs, _, rfl, o.2, g1, g2, g3, w3, by omega, fun i v y5 hi w5 => ?_⟩
                    obtain ⟨d, hd, o5, A⟩ := g4 i v y5 hi
                    replace o := o5
                    generalize upd _ p (HO.lst y5) = H5 at o A ⊢
                    have kd : Ok 10 2000 d ∧ (parts d).length ≤ 20 := by
                      simp only [List.mem_cons, List.not_mem_nil, or_false] at hd
                      rcases hd with rfl | rfl | rfl | rfl | rfl
                      · exact ⟨((okq.append (OkA.cons (n := 4) (k := 0) (okO.mono (by decide) (Nat.le_refl _)) OkA.nil)).tuple).mono (by decide) (by decide), by show (pl ++ [od]).length ≤ 20; rw [List.length_append]; show _ + 1 ≤ 20; omega⟩
                      · exact ⟨((okq.drop 1).tuple).mono (by decide) (by decide), by show (pl.drop 1).length ≤ 20; rw [List.length_drop]; omega⟩
                      · exact ⟨okq.list.mono (by decide) (by decide), Nat.zero_le _⟩
                      · exact ⟨((okq.append okq).tuple).mono (by decide) (by decide), by show (pl ++ pl).length ≤ 20; rw [List.length_append]; omega⟩
                      · exact ⟨(OkA.nil.tuple (n := 1)).mono (by decide) (Nat.zero_le _), Nat.zero_le _⟩
                    refine ⟨.str wd, rfl, ?_⟩
                    refine ⟨.ref t, rfl, _, rfl, _, rfl, slD o (A.nth 10 rfl rfl) A (cut_toD (l := ds) (i := a) (by omega)) fun _ _ o A => ?_⟩
                    refine ⟨v, rfl, line_of (show 1 ≤ 1000 by decide), fun tx nx => ?_⟩
                    obtain ⟨o, A⟩ := pushT (l := [d]) o nx (da1 (A.nth 1 rfl rfl) da0) A
                    refine catD o (A.nth 1 rfl rfl) (A.nth 0 rfl rfl) A (by rw [List.length_take]; show _ + 1 ≤ 1000; omega) fun _ _ o A => ?_
                    refine ⟨.ref t, rfl, .int (a : Int), rfl, _, _, rfl, rfl, _, rfl, ?_⟩
                    dsimp only [tNoPart]
                    refine slD o (A.nth 13 rfl rfl) A (cut_fromD (l := ds) (i := a + 1) rfl (by omega)) fun _ _ o A => ?_
                    refine catD o (A.nth 1 rfl rfl) (A.nth 0 rfl rfl) A (by rw [List.length_append, List.length_take, List.length_drop]; show _ + 1 + _ ≤ 1000; omega) fun _ _ o A => ?_
                    refine ⟨line_of (show 2 ≤ 1000 by decide), fun tr nr => ?_⟩
                    obtain ⟨o, A⟩ := pushT (l := [.str wd, .tuple (ds.take a ++ [d] ++ ds.drop (a + 1))]) o nr (da1 rfl (da1 (A.nth 0 rfl rfl) da0)) A
                    refine c _ _ _ _ o (WellL.mono (by assumption) (by omega)) (A.nth 0 rfl rfl) (ok_two okw (ok_mix okd (OkA.cons (n := 10) (k := 0) kd.1 OkA.nil) a (a + 1)) (by omega)) (wide_mix n6 hpp (by show 1 ≤ 2; decide) ?_ a (a + 1))
                    intro d' hd'
                    rw [List.mem_singleton] at hd'
                    rw [hd']
                    exact kd.2
                  · rw [dec, decide_eq_false h5]
                    refine iteF (iteF ⟨.int m, rfl, rfl, _, rfl, ?_⟩)
                    by_cases h6 : m = 6
                    · rw [dec, decide_eq_true h6]
                      refine iteT ⟨.str wd, rfl, rfl, _, rfl, ?_⟩
                      cases decide (V.str wd = V.str "marks") with
                      | true =>
                        refine iteT ⟨.ref p, rfl, 1, rfl, 10, 30, rfl, rfl, ⟨by decide, by decide, by decide⟩, line_of (show 1 ≤ 1000 by decide), fun tx nx => ?_⟩
                        obtain ⟨o, A⟩ := pushT (l := [.int 3]) o nx (da1 rfl da0) A
                        refine ⟨line_of (show 9 ≤ 1000 by decide), fun t9 n9 => ?_⟩
                        obtain ⟨o, A⟩ := pushL (l := [.int 10, .int (-1), .bool true, .str "3", .none, .int 9, .int 0, .int (10 ^ 30), .tuple [.int 3]]) o n9 (da1 rfl (da1 rfl (da1 rfl (da1 rfl (da1 rfl (da1 rfl (da1 rfl (da1 rfl (da1 (A.nth 0 rfl rfl) da0))))))))) A
                        obtain ⟨xs, g1, g2, g3, g4⟩ := oneD o (A.nth 0 rfl rfl) A (List.cons_ne_nil _ _) (by show 9 ≤ 1000; decide)
                        refine ⟨p, t9, y3, xs, _, rfl, o.2, g1, g2, g3, w3, by omega, fun i v y5 hi w5 => ?_⟩
                        obtain ⟨d, hd, o5, A⟩ := g4 i v y5 hi
                        replace o := o5
                        have kd : Ok 9 200 d := by
                          simp only [List.mem_cons, List.not_mem_nil, or_false] at hd
                          rcases hd with rfl | rfl | rfl | rfl | rfl | rfl | rfl | rfl | rfl
                          · exact ok_int (by decide +kernel) (by decide +kernel) (by decide +kernel)
                          · exact ok_int (by decide +kernel) (by decide +kernel) (by decide +kernel)
                          · exact ok_bool _
                          · exact ok_str (by decide +kernel) (by decide +kernel)
                          · exact ok_none
                          · exact ok_int (by decide +kernel) (by decide +kernel) (by decide +kernel)
                          · exact ok_int (by decide +kernel) (by decide +kernel) (by decide +kernel)
                          · exact ok_int (by decide +kernel) (by decide +kernel) (by decide +kernel)
                          · exact ((OkA.cons (n := 4) (m := 100) (k := 0) (ok_int (by decide +kernel) (by decide +kernel) (by decide +kernel)) OkA.nil).tuple).mono (by decide) (by decide)
                        refine ⟨.str wd, rfl, ?_⟩
                        refine ⟨.ref t, rfl, _, rfl, _, rfl, slD o (A.nth 5 rfl rfl) A (cut_toD (l := ds) (i := a) (by omega)) fun _ _ o A => ?_⟩
                        obtain ⟨_, ps4, e4, hpe4, hps4⟩ := A.nth 4 rfl rfl
                        cases e4
                        rw [← hpl] at hps4
                        obtain ⟨v0, r4, e5, a40, _⟩ := hps4
                        refine ⟨.ref pe, rfl, pe, ps4, 0, v0, rfl, rfl, .of (hide_sub _ _ _ _ hpe4), atI_nat (j := 0) (by rw [e5]; rfl), v, rfl, line_of (show 2 ≤ 1000 by decide), fun tx nx => ?_⟩
                        obtain ⟨o, A⟩ := pushT (l := [pa, d]) o nx (da1 a40 (da1 (A.nth 1 rfl rfl) da0)) A
                        refine ⟨line_of (show 1 ≤ 1000 by decide), fun tz nz => ?_⟩
                        obtain ⟨o, A⟩ := pushT (l := [.tuple [pa, d]]) o nz (da1 (A.nth 0 rfl rfl) da0) A
                        refine catD o (A.nth 2 rfl rfl) (A.nth 0 rfl rfl) A (by rw [List.length_take]; show _ + 1 ≤ 1000; omega) fun _ _ o A => ?_
                        refine ⟨.ref t, rfl, .int (a : Int), rfl, _, _, rfl, rfl, _, rfl, ?_⟩
                        dsimp only [tNoPart]
                        refine slD o (A.nth 9 rfl rfl) A (cut_fromD (l := ds) (i := a + 1) rfl (by omega)) fun _ _ o A => ?_
                        refine catD o (A.nth 1 rfl rfl) (A.nth 0 rfl rfl) A (by rw [List.length_append, List.length_take, List.length_drop]; show _ + 1 + _ ≤ 1000; omega) fun _ _ o A => ?_
                        refine ⟨line_of (show 2 ≤ 1000 by decide), fun tr nr => ?_⟩
                        obtain ⟨o, A⟩ := pushT (l := [.str wd, .tuple (ds.take a ++ [.tuple [pa, d]] ++ ds.drop (a + 1))]) o nr (da1 rfl (da1 (A.nth 0 rfl rfl) da0)) A
                        refine c _ _ _ _ o (WellL.mono (by assumption) (by omega)) (A.nth 0 rfl rfl) (ok_two okw (ok_mix okd (OkA.cons (n := 10) (k := 0) ((OkA.cons (n := 9) ((okq.get pa (by rw [← hpl]; exact List.mem_cons_self)).mono (by decide) (Nat.le_refl _)) (OkA.cons (k := 0) kd OkA.nil)).tuple) OkA.nil) a (a + 1)) (by omega)) (wide_mix n6 hpp (by show 1 ≤ 2; decide) ?_ a (a + 1))
                        intro d' hd'
                        rw [List.mem_singleton] at hd'
                        rw [hd']
                        show 2 ≤ 20
                        decide
                      | false =>
                        refine iteF ?_
                        refine ⟨.str wd, rfl, ?_⟩
                        refine ⟨.ref t, rfl, _, rfl, _, rfl, slD o (A.nth 2 rfl rfl) A (cut_toD (l := ds) (i := a) (by omega)) fun _ _ o A => ?_⟩
                        refine ⟨vo, rfl, line_of (show 1 ≤ 1000 by decide), fun tx nx => ?_⟩
                        obtain ⟨o, A⟩ := pushT (l := [od]) o nx (da1 (A.nth 4 rfl rfl) da0) A
                        refine catD o (A.nth 1 rfl rfl) (A.nth 0 rfl rfl) A (by rw [List.length_take]; show _ + 1 ≤ 1000; omega) fun _ _ o A => ?_
                        refine ⟨.ref t, rfl, .int (a : Int), rfl, _, _, rfl, rfl, _, rfl, ?_⟩
                        dsimp only [tNoPart]
                        refine slD o (A.nth 5 rfl rfl) A (cut_fromD (l := ds) (i := a + 1) rfl (by omega)) fun _ _ o A => ?_
                        refine catD o (A.nth 1 rfl rfl) (A.nth 0 rfl rfl) A (by rw [List.length_append, List.length_take, List.length_drop]; show _ + 1 + _ ≤ 1000; omega) fun _ _ o A => ?_
                        refine ⟨line_of (show 2 ≤ 1000 by decide), fun tr nr => ?_⟩
                        obtain ⟨o, A⟩ := pushT (l := [.str wd, .tuple (ds.take a ++ [od] ++ ds.drop (a + 1))]) o nr (da1 rfl (da1 (A.nth 0 rfl rfl) da0)) A
                        refine c _ _ _ _ o (WellL.mono (by assumption) (by omega)) (A.nth 0 rfl rfl) (ok_two okw (ok_mix okd (OkA.cons (n := 10) (k := 0) (okO.mono (by decide) (Nat.le_refl _)) OkA.nil) a (a + 1)) (by omega)) (wide_mix n6 hpp (by show 1 ≤ 2; decide) ?_ a (a + 1))
                        intro d hd
                        rw [List.mem_singleton] at hd
                        rw [hd]
                        omega
                    · rw [dec, decide_eq_false h6]
                      refine iteF (iteF ?_)
                      refine ⟨.str wd, rfl, ?_⟩
                      refine ⟨.ref t, rfl, _, rfl, _, rfl, slD o (A.nth 2 rfl rfl) A (cut_toD (l := ds) (i := a) (by omega)) fun _ _ o A => ?_⟩
                      refine ⟨vo, rfl, line_of (show 1 ≤ 1000 by decide), fun tx nx => ?_⟩
                      obtain ⟨o, A⟩ := pushT (l := [od]) o nx (da1 (A.nth 4 rfl rfl) da0) A
                      refine catD o (A.nth 1 rfl rfl) (A.nth 0 rfl rfl) A (by rw [List.length_take]; show _ + 1 ≤ 1000; omega) fun _ _ o A => ?_
                      refine ⟨.ref t, rfl, .int (a : Int), rfl, _, _, rfl, rfl, _, rfl, ?_⟩
                      dsimp only [tNoPart]
                      refine slD o (A.nth 5 rfl rfl) A (cut_fromD (l := ds) (i := a + 1) rfl (by omega)) fun _ _ o A => ?_
                      refine catD o (A.nth 1 rfl rfl) (A.nth 0 rfl rfl) A (by rw [List.length_append, List.length_take, List.length_drop]; show _ + 1 + _ ≤ 1000; omega) fun _ _ o A => ?_
                      refine ⟨line_of (show 2 ≤ 1000 by decide), fun tr nr => ?_⟩
                      obtain ⟨o, A⟩ := pushT (l := [.str wd, .tuple (ds.take a ++ [od] ++ ds.drop (a + 1))]) o nr (da1 rfl (da1 (A.nth 0 rfl rfl) da0)) A
                      refine c _ _ _ _ o (WellL.mono (by assumption) (by omega)) (A.nth 0 rfl rfl) (ok_two okw (ok_mix okd (OkA.cons (n := 10) (k := 0) (okO.mono (by decide) (Nat.le_refl _)) OkA.nil) a (a + 1)) (by omega)) (wide_mix n6 hpp (by show 1 ≤ 2; decide) ?_ a (a + 1))
                      intro d hd
                      rw [List.mem_singleton] at hd
                      rw [hd]
                      omega
end
/-! ### good ballots as data -/
def tyT (t : List Str) : PyData := .tuple (t.map PyData.str)
def mkT (m : Str × Int) : PyData := .tuple [.str m.1, .int m.2]
def Bal.word : Bal → Str
  | .order _ => "order"
  | .lets _ => "lets"
  | .marks _ => "marks"
def Bal.things : Bal → List PyData
  | .order ts => ts.map tyT
  | .lets ns => ns.map PyData.str
  | .marks ms => ms.map mkT
def Bal.data (b : Bal) : PyData := .tuple [.str b.word, .tuple b.things]
theorem DAll.of_map {α : Type} {H : Hp} {f : α → PyData} {g : α → V} : ∀ {l : List α}, (∀ a ∈ l, DAt H (f a) (g a)) → DAll H (l.map f) (l.map g)
  | [], _ => rfl
  | a :: l, h => ⟨_, _, rfl, h a List.mem_cons_self, DAll.of_map fun b hb => h b (List.mem_cons_of_mem _ hb)⟩
theorem BalAt.things {H : Hp} {t : Addr} : ∀ {b : Bal}, BalAt H t b → ∃ (u : Addr) (xs : List V), H t = some (.tup [.str b.word, .ref u]) ∧ H u = some (.tup xs) ∧ DAll H b.things xs
  | .order ts, ⟨u, bs, h1, h2, h3, h4⟩ => by
    refine ⟨u, _, h1, h2, ?_⟩
    show DAll H (ts.map tyT) _
    rw [← h4, List.map_map]
    exact DAll.of_map fun b hb => ⟨b.1, _, rfl, (h3 b hb).1, DAll.strs b.2⟩
  | .lets ns, ⟨u, h1, h2⟩ => ⟨u, _, h1, h2, DAll.strs ns⟩
  | .marks ms, ⟨u, bs, h1, h2, h3, h4⟩ => by
    refine ⟨u, _, h1, h2, ?_⟩
    show DAll H (ms.map mkT) _
    rw [← h4, List.map_map]
    exact DAll.of_map fun b hb => ⟨b.1, _, rfl, h3 b hb, da1 rfl (da1 rfl da0)⟩
theorem BalAt.data {H : Hp} {t : Addr} {b : Bal} (h : BalAt H t b) : DAt H b.data (.ref t) := by
  obtain ⟨u, xs, h1, h2, a⟩ := h.things
  exact ⟨t, _, rfl, h1, da1 rfl (da1 ⟨u, xs, rfl, h2, a⟩ da0)⟩
theorem flat_strsD : ∀ ts : List (List Str), (ts.map tyT).flatMap parts = ts.flatten.map PyData.str
  | [] => rfl
  | t :: ts => by
    rw [List.map_cons, List.flatMap_cons, flat_strsD ts, List.flatten_cons, List.map_append]
    rfl
theorem unS_strs : ∀ ws : List Str, (ws.map PyData.str).filterMap unS = ws
  | [] => rfl
  | a :: ws => by
    rw [List.map_cons, List.filterMap_cons]
    show a :: (ws.map PyData.str).filterMap unS = a :: ws
    rw [unS_strs ws]
theorem unlike_strs {zs ws : List Str} (h : ws.Nodup) (g : ∀ z ∈ ws, z ∈ zs) : unlikeD zs (ws.map PyData.str) = true := by
  unfold unlikeD
  rw [unS_strs, decide_eq_true h, Bool.and_true, List.all_eq_true]
  intro d hd
  obtain ⟨z, hz, rfl⟩ := List.mem_map.mp hd
  exact decide_eq_true (g z hz)
theorem firsts_marks : ∀ ms : List (Str × Int), (ms.map mkT).map firstD = (ms.map (·.1)).map PyData.str
  | [] => rfl
  | m :: ms => by
    rw [List.map_cons, List.map_cons, firsts_marks ms]
    rfl
theorem Bal.Ok.good {zs : List Str} : ∀ {b : Bal}, b.Ok zs → ballotD zs b.data = true
  | .order ts, h => by
    obtain ⟨h1, h2, h3⟩ := h
    show tiersD zs (ts.map tyT) = true
    unfold tiersD
    rw [flat_strsD, unlike_strs h1 h2, Bool.and_true, List.all_eq_true]
    intro d hd
    obtain ⟨t, ht, rfl⟩ := List.mem_map.mp hd
    cases t with
    | nil => exact absurd rfl (h3 _ ht)
    | cons a l => exact decide_eq_true (Nat.succ_pos (l.map PyData.str).length)
  | .lets ns, h => unlike_strs h.1 h.2
  | .marks ms, h => by
    obtain ⟨h1, h2, h3⟩ := h
    show marksD zs (ms.map mkT) = true
    unfold marksD
    rw [firsts_marks, unlike_strs h1 (fun z hz => by obtain ⟨m, hm, rfl⟩ := List.mem_map.mp hz; exact h2 m hm), Bool.and_true, List.all_eq_true]
    intro d hd
    obtain ⟨m, hm, rfl⟩ := List.mem_map.mp hd
    show (decide ((0 : Int) ≤ m.2) && decide (m.2 ≤ 9)) = true
    rw [decide_eq_true (h3 m hm).1, decide_eq_true (h3 m hm).2]
    rfl
theorem few {zs ws : List Str} (n : zs.length ≤ 6) (h : ws.Nodup) (g : ∀ z ∈ ws, z ∈ zs) : ws.length ≤ 6 := Nat.le_trans (h.length_le_of_subset g) n
theorem flat_few : ∀ {ts : List (List Str)}, (∀ t ∈ ts, t ≠ []) → ts.length ≤ ts.flatten.length
  | [], _ => Nat.le_refl _
  | t :: ts, h => by
    rw [List.flatten_cons, List.length_append, List.length_cons]
    have := flat_few fun u hu => h u (List.mem_cons_of_mem _ hu)
    have := List.length_pos_iff.mpr (h t List.mem_cons_self)
    omega
theorem part_few {t : List Str} : ∀ {ts : List (List Str)}, t ∈ ts → t.length ≤ ts.flatten.length
  | u :: ts, h => by
    rw [List.flatten_cons, List.length_append]
    rcases List.mem_cons.mp h with rfl | h
    · omega
    · have := part_few h
      omega
theorem Bal.Ok.few {zs : List Str} (n : zs.length ≤ 6) : ∀ {b : Bal}, b.Ok zs → b.things.length ≤ 6 ∧ ∀ d ∈ b.things, PieceD b.word d
  | .order ts, h => by
    obtain ⟨h1, h2, h3⟩ := h
    have f := Own.few n h1 h2
    refine ⟨by show (ts.map tyT).length ≤ 6; rw [List.length_map]; exact Nat.le_trans (flat_few h3) f, fun d hd => ?_⟩
    obtain ⟨t, ht, rfl⟩ := List.mem_map.mp hd
    refine ⟨by show (t.map PyData.str).length ≤ 6; rw [List.length_map]; exact Nat.le_trans (part_few ht) f, .inr ?_⟩
    cases t with
    | nil => exact absurd rfl (h3 _ ht)
    | cons a l => exact ⟨_, _, rfl⟩
  | .lets ns, h => by
    refine ⟨by show (ns.map PyData.str).length ≤ 6; rw [List.length_map]; exact Own.few n h.1 h.2, fun d hd => ?_⟩
    obtain ⟨z, hz, rfl⟩ := List.mem_map.mp hd
    exact ⟨Nat.zero_le _, .inl ⟨⟨z, rfl⟩, by show ("lets" : Str) ≠ "marks"; decide⟩⟩
  | .marks ms, h => by
    obtain ⟨h1, h2, h3⟩ := h
    have f := Own.few n h1 (fun z hz => by obtain ⟨m, hm, rfl⟩ := List.mem_map.mp hz; exact h2 m hm)
    rw [List.length_map] at f
    refine ⟨by show (ms.map mkT).length ≤ 6; rw [List.length_map]; exact f, fun d hd => ?_⟩
    obtain ⟨m, hm, rfl⟩ := List.mem_map.mp hd
    exact ⟨by show 2 ≤ 6; decide, .inr ⟨_, _, rfl⟩⟩
theorem OkA.of {n m : Nat} : ∀ {l : List PyData}, (∀ d ∈ l, Ok n m d) → OkA n (l.length * (m + 1)) l
  | [], _ => OkA.nil
  | d :: l, h => by
    refine ((OkA.cons (h d List.mem_cons_self) (OkA.of fun e he => h e (List.mem_cons_of_mem _ he)))).mono (Nat.le_refl _) ?_
    rw [List.length_cons, Nat.succ_mul]
    omega
theorem ok_mark {n : Nat} {i : Int} (h0 : 0 ≤ i) (h9 : i ≤ 9) : Ok n 8 (.int i) := by
  have : i = 0 ∨ i = 1 ∨ i = 2 ∨ i = 3 ∨ i = 4 ∨ i = 5 ∨ i = 6 ∨ i = 7 ∨ i = 8 ∨ i = 9 := by omega
  rcases this with rfl | rfl | rfl | rfl | rfl | rfl | rfl | rfl | rfl | rfl <;> exact ok_int (by decide +kernel) (by decide +kernel) (by decide +kernel)
theorem ok_names {t : List Str} (h : ∀ z ∈ t, NameOk z) (g : t.length ≤ 6) : Ok 1 54 (tyT t) := by
  have := OkA.of (n := 0) (m := 8) (l := t.map PyData.str) fun d hd => by
    obtain ⟨z, hz, rfl⟩ := List.mem_map.mp hd
    exact ok_small (h z hz)
  rw [List.length_map] at this
  exact (this.mono (Nat.le_refl _) (show t.length * 9 ≤ 54 by omega)).tuple
theorem Bal.Ok.okA {zs : List Str} (n : zs.length ≤ 6) (hz : ∀ z ∈ zs, NameOk z) : ∀ {b : Bal}, b.Ok zs → OkA 4 1000 b.things
  | .order ts, h => by
    have f := Bal.Ok.few n h
    obtain ⟨h1, h2, h3⟩ := h
    have f6 := Own.few n h1 h2
    have := OkA.of (n := 1) (m := 54) (l := ts.map tyT) fun d hd => by
      obtain ⟨t, ht, rfl⟩ := List.mem_map.mp hd
      exact ok_names (fun z h => hz z (h2 z (List.mem_flatten.mpr ⟨t, ht, h⟩))) (Nat.le_trans (part_few ht) f6)
    have l6 : (ts.map tyT).length ≤ 6 := f.1
    exact this.mono (by decide) (by omega)
  | .lets ns, h => by
    have l6 : (ns.map PyData.str).length ≤ 6 := (Bal.Ok.few (b := .lets ns) n h).1
    have := OkA.of (n := 0) (m := 8) (l := ns.map PyData.str) fun d hd => by
      obtain ⟨z, hz', rfl⟩ := List.mem_map.mp hd
      exact ok_small (hz z (h.2 z hz'))
    exact this.mono (by decide) (by omega)
  | .marks ms, h => by
    have l6 : (ms.map mkT).length ≤ 6 := (Bal.Ok.few (b := .marks ms) n h).1
    obtain ⟨h1, h2, h3⟩ := h
    have := OkA.of (n := 1) (m := 20) (l := ms.map mkT) fun d hd => by
      obtain ⟨m, hm, rfl⟩ := List.mem_map.mp hd
      exact ((OkA.cons (n := 0) (ok_small (hz _ (h2 m hm))) (OkA.cons (k := 0) (ok_mark (h3 m hm).1 (h3 m hm).2) OkA.nil)).mono (Nat.le_refl _) (by decide)).tuple
    exact this.mono (by decide) (by omega)
theorem Bal.wordOk : ∀ b : Bal, Own.Ok 0 8 (.str b.word)
  | .order _ => (ok_str (by decide +kernel) (by decide +kernel) : Own.Ok 0 8 (.str "order"))
  | .lets _ => (ok_str (by decide +kernel) (by decide +kernel) : Own.Ok 0 8 (.str "lets"))
  | .marks _ => (ok_str (by decide +kernel) (by decide +kernel) : Own.Ok 0 8 (.str "marks"))
theorem Bal.Ok.fit {zs : List Str} {b : Bal} (n : zs.length ≤ 6) (h : b.Ok zs) : Fit b.data := by
  obtain ⟨f1, f2⟩ := h.few n
  exact (⟨by omega, fun d hd => by have := (f2 d hd).1; omega⟩ : Wide b.things)
theorem BalAt.hid {p u : Addr} {H : Hp} {y : List V} {b : Bal} (hp : H p = some (.lst y)) (h : BalAt H u b) : BalAt (hide p H) u b := h.keep fun _ _ e => hid_tup hp e
section
variable {P : Program} {w : World} {K : PySem.W.Frag} {mg : Str → Option Value} {base : Heap}
def FrL (a : Addr) (σ : L2.St) : Prop := ∃ y1 y2 y3 y4 y5 y6 y7 y8 : Option V, σ = [some (.ref a), y1, y2, y3, y4, y5, y6, y7, y8]
def sp_law (K : PySem.W.Frag) : Sp := fun vs H Q _ => ∃ (a : Addr) (ns : List Int), vs = [.ref a] ∧ SqL K H a (ns.map V.int) ∧ ns.length ≤ 63 ∧ ∀ H', Q (.bl true) H'
theorem ok_law (T : Txt K mg) : TopOk P w K mg base T.f_law T.fd_law "_law_script" (sp_law K) := by
  refine top_of (k := 7) T.F_law sc_law ⟨by decide, by decide, by decide⟩ (fun cdv s H v Q hr hg h => ?_)
  obtain ⟨a, ns, e, hS, hlen, q⟩ := h
  cases e
  refine ⟨_, (pss_cons
 (ps_for PassesOwn.never rfl (pi_list (pe_op op_cat (pe_lst (pa_cons (pe_call (ok_law_cell_at T) (hr.mono (by decide)) (by rfl) T.g_law_cell_at T.F_law_cell_at.kp T.b_law_cell_at .nil pass0 (pa_cons (pv 0) (pa_cons pe_int pa_nil))) pa_nil)) (pe_slice sl_list (pv 0) (po_some pe_int) (po_some pe_int)))) (pg_name (i := 1) sc_law.nd rfl (Or.inl rfl))
 (pss_cons
 (ps_set (i := 2) sc_law.nd rfl (Or.inl rfl) (pe_call (ok_law_well T) (hr.mono (by decide)) (by rfl) T.g_law_well T.F_law_well.kp T.b_law_well .nil pass0 (pa_cons (pv 1) pa_nil)))
 (pss_cons
 (ps_set (i := 3) sc_law.nd rfl (Or.inl rfl) (pe_call (ok_law_options T) (hr.mono (by decide)) (by rfl) T.g_law_options T.F_law_options.kp T.b_law_options .nil pass0 (pa_cons (pv 2) (pa_cons (pe_op op_add pe_int (pe_call (ok_law_draw T) (hr.mono (by decide)) (by rfl) T.g_law_draw T.F_law_draw.kp T.b_law_draw .nil pass0 (pa_cons (pv 2) (pa_cons pe_int pa_nil)))) pa_nil))))
 (pss_cons
 (ps_set (i := 4) sc_law.nd rfl (Or.inl rfl) (pe_call (ok_law_ballot T) (hr.mono (by decide)) (by rfl) T.g_law_ballot T.F_law_ballot.kp T.b_law_ballot .nil pass0 (pa_cons (pv 2) (pa_cons (pv 3) pa_nil))))
 (pss_cons
 (ps_if (PW.pt (pw_or (pt_cmpR op_ne (pe_call (ok_law_told T) (hr.mono (by decide)) (by rfl) T.g_law_told T.F_law_told.kp T.b_law_told .nil pass0 (pa_cons (pv 3) (pa_cons (pv 4) pa_nil))) pe_str (nomark _)) (pw_or1 (pt_cmpR op_notN (pf_kw (ok_check_ballot T) (hr.mono (by decide)) (by rfl) T.g_check_ballot T.F_check_ballot.kp T.kb_check_ballot_0_ballot_options (fun σ => atN σ) (pk_cons (pv 4) (pk_cons (pv 3) pk_nil))) pe_non (nomark _)))))
 (pss_one
 (ps_ret pe_bl))
 pss_nil)
 (pss_one
 (ps_for PassesOwn.never rfl (pi_range1 rfl T.z_range (pa_cons pe_int pa_nil)) (pg_name (i := 5) sc_law.nd rfl (Or.inl rfl))
 (pss_cons
 (ps_set (i := 6) sc_law.nd rfl (Or.inl rfl) (pe_call (ok_law_bent T) (hr.mono (by decide)) (by rfl) T.g_law_bent T.F_law_bent.kp T.b_law_bent .nil pass0 (pa_cons (pv 2) (pa_cons (pv 4) (pa_cons (pv 3) pa_nil)))))
 (pss_cons
 (ps_set (i := 7) sc_law.nd rfl (Or.inl rfl) (pe_callB (call_reprD hg (hu66 hr)) (by rfl) T.z_repr (by decide +kernel) (pa_cons (pe_tup (pa_cons (pv 3) (pa_cons (pv 6) pa_nil))) pa_nil)))
 (pss_cons
 (ps_set (i := 8) sc_law.nd rfl (Or.inl rfl) (pe_ix ix_list (pe_lst (pa_cons pe_str (pa_cons pe_str pa_nil))) (pe_callTy call_int1 (by rfl) T.z_int (by decide +kernel) (pa_cons (pe_call (ok_law_is_ballot T) (hr.mono (by decide)) (by rfl) T.g_law_is_ballot T.F_law_is_ballot.kp T.b_law_is_ballot .nil pass0 (pa_cons (pv 6) (pa_cons (pv 3) pa_nil))) pa_nil)) (fun _ _ => rfl)))
 (pss_one
 (ps_if (PW.pt (pw_or (pt_cmpR op_ne (pe_call (ok_law_told T) (hr.mono (by decide)) (by rfl) T.g_law_told T.F_law_told.kp T.b_law_told .nil pass0 (pa_cons (pv 3) (pa_cons (pv 6) pa_nil))) (pv 8) (nomark _)) (pw_or1 (pt_cmpR op_ne (pe_callB (call_reprD hg (hu66 hr)) (by rfl) T.z_repr (by decide +kernel) (pa_cons (pe_tup (pa_cons (pv 3) (pa_cons (pv 6) pa_nil))) pa_nil)) (pv 7) (nomark _)))))
 (pss_one
 (ps_ret pe_bl))
 pss_nil))))))))))))
 (pss_one
 (ps_ret pe_bl))), ?_⟩
  refine ⟨.ref a, rfl, a, ns, rfl, hS, hlen, fun z => ?_⟩
  refine ⟨line_of (show 1 ≤ 1000 by decide), fun l1 n1 => ?_⟩
  have s1 : Same H (upd H l1 (.lst [V.int z])) := same_upd n1
  obtain ⟨ms, em, lm⟩ := cut_ints ns (some 1) (some 16)
  refine ⟨.ref a, rfl, 1, rfl, 16, rfl, a, _, rfl, s1.seq hS, fun l2 n2 => ?_⟩
  rw [em]
  have hl12 : l1 ≠ l2 := fun e => by rw [← e, upd_same] at n2; cases n2
  refine ⟨l1, l2, _, _, rfl, rfl, (by rw [upd_ne hl12, upd_same]), upd_same, ?_, fun l3 n3 => ?_⟩
  · rw [List.length_map]
    exact line_of (show 1 + ms.length ≤ 1000 by omega)
  have e3 : ([V.int z] ++ ms.map V.int) = (z :: ms).map V.int := rfl
  rw [e3]
  generalize hH0 : upd (upd (upd H l1 (.lst [V.int z])) l2 (.lst (ms.map V.int))) l3 (.lst ((z :: ms).map V.int)) = H0
  have h3 : H0 l3 = some (.lst ((z :: ms).map V.int)) := by rw [← hH0, upd_same]
  refine ⟨l3, rfl, ⟨_, .of h3⟩, for_list (K := K) (a := l3) (xs := (z :: ms).map V.int) (fun _ σ H' => FrL a σ ∧ Same H0 H') ⟨⟨none, none, none, none, none, none, none, none, rfl⟩, Same.refl _⟩ (fun _ _ _ _ h => .of (h.2 _ _ h3)) ?_ ?_⟩
  · rintro i x σ H1 hi ⟨⟨y1, y2, y3, y4, y5, y6, y7, y8, rfl⟩, s2⟩
    obtain ⟨nn, _, rfl⟩ := item_map hi
    refine ⟨.int nn, rfl, nn, rfl, fun p x H2 np s3 hp hx => ?_⟩
    have np0 : H0 p = none := s2.free np
    have s4 : Same H0 H2 := s2.trans s3
    refine ⟨.ref p, rfl, .ref p, rfl, p, 6, x, 0, rfl, hp, hx, by decide, by decide, size_ok (by decide) (by decide), fun sz x1 b0 b1 w1 => ?_⟩
    have o1 : On p H2 x1 (upd H2 p (.lst x1)) := (On.start hp).put
    generalize upd H2 p (HO.lst x1) = H3 at o1 ⊢
    refine ⟨1, sz, rfl, rfl, p, 1 + sz, x1, _, rfl, o1.2, w1, by omega, by omega, by omega, fun t zs x2 H4 lz nd okz but nt ht hp4 w2 => ?_⟩
    have o2 : On p H2 x2 H4 := o1.trans ⟨But.hid but, hp4⟩
    have n6 : zs.length ≤ 6 := by omega
    have hne : zs ≠ [] := fun e => by rw [e] at lz; simp at lz; omega
    refine ⟨.ref p, rfl, .ref t, rfl, p, t, zs, x2, _, rfl, hp4, ht, n6, nd, okz, w2, by omega, fun u b x3 H5 bal bok but2 nu hp5 w3 => ?_⟩
    have o3 : On p H2 x3 H5 := o2.trans ⟨But.hid but2, hp5⟩
    have ht5 : hide p H5 t = some (.tup (zs.map V.str)) := But.hid but2 _ _ (hid_tup hp4 ht)
    have bal5 := bal.hid hp5
    obtain ⟨ut, us, hu, hut, das⟩ := bal5.things
    have bd := bal5.data
    have few := bok.few n6
    have good := bok.good
    have fits := bok.fit n6
    have sub5 := hide_sub p H5
    have go : ∀ {H' : Hp}, Same H5 H' → On p H2 x3 H' := fun s => o3.same s
    refine ⟨.ref t, rfl, .ref u, rfl, t, zs, .ref u, b.data, rfl, sub5 _ _ ht5, DAt.same sub5 _ bd, fits, fun H6 s6 => ?_⟩
    rw [good, if_pos rfl]
    refine ⟨rfl, _, rfl, iteNS rfl ⟨.ref u, rfl, .ref t, rfl, rfl, rfl, t, zs, .ref u, b.data, rfl, s6 _ _ (sub5 _ _ ht5), DAt.same s6 _ (DAt.same sub5 _ bd), fits, fun _ H7 s7 => ?_, fun z => by rw [good] at z; cases z⟩⟩
    have o4 := (o3.same s6).same s7
    have s57 := hid_same (p := p) (s6.trans s7)
    refine ⟨rfl, _, rfl, iteNS rfl ?_⟩
    refine ⟨3, rfl, by decide, by decide, for_range (fun i σ H' => ∃ (t5 t6 t7 t8 : Option V) (yy : List V), σ = [some (.ref a), some (.int nn), some (.ref p), some (.ref t), some (.ref u), t5, t6, t7, t8] ∧ On p H7 yy H' ∧ WellL yy (200 + 10 * i))
      ⟨y5, y6, y7, y8, x3, rfl, On.start o4.2, w3.mono (by omega)⟩ ?_ ?_⟩
    · rintro i σ H8 hi8 ⟨t5, t6, t7, t8, yy, rfl, o6, w6⟩
      have s58 := s57.trans o6.1
      refine ⟨.ref p, rfl, .ref u, rfl, .ref t, rfl, p, u, t, ut, zs, us, b.things, b.word, yy, _, rfl, o6.2, s58 _ _ hu, s58 _ _ ht5, s58 _ _ hut, DAll.same s58 _ das, few.1, few.2, bok.okA n6 okz, b.wordOk, hne, okz, w6, by omega, fun v d y9 H9 o69 w9 ad okd fit => ?_⟩
      have o7 := o6.trans o69
      have ht9 : H9 t = some (.tup (zs.map V.str)) := hide_sub _ _ _ _ (o69.1 _ _ (s58 _ _ ht5))
      have ad9 := DAt.same (hide_sub p H9) _ ad
      refine ⟨.ref t, rfl, v, rfl, line_of (show 2 ≤ 1000 by decide), fun tt nt => ?_⟩
      have ok0 : Own.Ok 21 20000 (.tuple [tyT zs, d]) := ((OkA.cons ((ok_names okz n6).mono (by decide) (Nat.le_refl _)) (OkA.cons (n := 20) (k := 0) okd OkA.nil)).tuple).mono (Nat.le_refl _) (by decide)
      have dat : ∀ {Hc : Hp} {tt : Addr}, Same H9 Hc → Hc tt = none → DAt (upd Hc tt (.tup [V.ref t, v])) (.tuple [tyT zs, d]) (.ref tt) := fun s n =>
        ⟨_, _, rfl, upd_same, da1 ⟨t, _, rfl, same_upd n _ _ (s _ _ ht9), DAll.strs zs⟩ (da1 (DAt.same (same_upd n) _ (DAt.same s _ ad9)) da0)⟩
      refine ⟨tt, .tuple [tyT zs, d], rfl, DAt.dp _ (dat (Same.refl _) nt), ok0.sho, ok0.shaped (by decide), ok0.fits (by decide), ?_⟩
      have s10 := same_upd (o := HO.tup [V.ref t, v]) nt
      generalize upd H9 tt _ = H10 at s10 ⊢
      refine ⟨line_of (show 2 ≤ 1000 by decide), fun l nl => ?_⟩
      have s11 := s10.trans (same_upd (o := HO.lst [V.str "refused", V.str "fine"]) nl)
      refine ⟨v, rfl, .ref t, rfl, t, zs, v, d, _, rfl, s11 _ _ ht9, DAt.same s11 _ ad9, fit, okd, fun H12 s12 => ?_⟩
      have hl12 := s12 _ _ (upd_same (H := H10) (a := l) (o := HO.lst [V.str "refused", V.str "fine"]))
      have s9 := s11.trans s12
      cases hb : ballotD zs d with
      | true =>
        refine .inr ⟨_, rfl, l, _, 1, _, rfl, rfl, .of hl12, atI_nat (j := 1) rfl, ?_⟩
        refine ⟨.ref t, rfl, v, rfl, t, zs, v, d, rfl, s9 _ _ ht9, DAt.same s9 _ ad9, fit, fun H13 s13 => ?_⟩
        rw [hb, if_pos rfl]
        refine ⟨_, rfl, rfl, _, rfl, iteNS rfl ?_⟩
        have s93 := s9.trans s13
        refine ⟨.ref t, rfl, v, rfl, line_of (show 2 ≤ 1000 by decide), fun t2 n2 => ⟨t2, .tuple [tyT zs, d], rfl, DAt.dp _ (dat s93 n2), ok0.sho, ok0.shaped (by decide), ok0.fits (by decide), ?_⟩⟩
        refine ⟨_, rfl, rfl, _, rfl, ?_⟩
        refine iteNS rfl ?_
        exact ⟨_, _, _, _, y9, rfl, o7.same (s93.trans (same_upd n2)), w9.mono (by omega)⟩
      | false =>
        refine .inr ⟨_, rfl, l, _, 0, _, rfl, rfl, .of hl12, atI_nat (j := 0) rfl, ?_⟩
        refine ⟨.ref t, rfl, v, rfl, t, zs, v, d, rfl, s9 _ _ ht9, DAt.same s9 _ ad9, fit, fun H13 s13 => ?_⟩
        rw [hb, if_neg Bool.false_ne_true]
        refine ⟨_, rfl, rfl, _, rfl, iteNS rfl ?_⟩
        have s93 := s9.trans s13
        refine ⟨.ref t, rfl, v, rfl, line_of (show 2 ≤ 1000 by decide), fun t2 n2 => ⟨t2, .tuple [tyT zs, d], rfl, DAt.dp _ (dat s93 n2), ok0.sho, ok0.shaped (by decide), ok0.fits (by decide), ?_⟩⟩
        refine ⟨_, rfl, rfl, _, rfl, ?_⟩
        refine iteNS rfl ?_
        exact ⟨_, _, _, _, y9, rfl, o7.same (s93.trans (same_upd n2)), w9.mono (by omega)⟩
    · rintro σ H8 ⟨t5, t6, t7, t8, yy, rfl, o6, w6⟩
      have o8 := o4.trans o6
      exact ⟨⟨_, _, _, _, _, _, _, _, rfl⟩, But.ext s4 np0 (hid_but o8.1)⟩
  · rintro σ H1 ⟨_, _⟩
    exact q _
end
theorem all_mk {l : PySem.W.OpenLaw} {w : World} {K : PySem.W.Frag} {h : Heap} {mg : Str → Option Value} {fa : Addr} (X : K.In h) (G : h.Ns mainGlobals mg) (hfa : mg "law" = some (.ref fa))
    {f_PollError_init : Addr} {od_PollError_init an_PollError_init : Option Addr} {sl_PollError_init : Array (Option Value)} {oc_PollError_init kV_PollError_init dc_PollError_init pm_PollError_init cd_PollError_init ct_PollError_init : Value}
    {T_PollError_init : Addr} {to_PollError_init : Value} {td_PollError_init : Option Addr} {tn_PollError_init : Nat} {tsl_PollError_init : Array (Option Value)} {tk0_PollError_init : Tok}
    (lt_PollError_init : K.lookup T_PollError_init = some ⟨to_PollError_init, td_PollError_init, .seq #[.str "" tk0_PollError_init] tn_PollError_init, tsl_PollError_init⟩)
    (l_PollError_init : K.lookup f_PollError_init = some ⟨oc_PollError_init, od_PollError_init, .func (PySem.W.fnOf "__init__" "PollError.__init__" (defArgs s_PollError_init) (defBody s_PollError_init) (defScope s_PollError_init) (.ref T_PollError_init) kV_PollError_init dc_PollError_init pm_PollError_init an_PollError_init cd_PollError_init ct_PollError_init), sl_PollError_init⟩)
    (c_PollError_init : PySem.W.codeIn K cd_PollError_init "PollError.__init__" = true) (k_PollError_init : PySem.W.keepIn K (.ref f_PollError_init) = true)
    {f_is_whole : Addr} {od_is_whole an_is_whole : Option Addr} {sl_is_whole : Array (Option Value)} {oc_is_whole kV_is_whole dc_is_whole pm_is_whole cd_is_whole ct_is_whole : Value}
    (a_is_whole : PySem.W.nsIn K mainGlobals "is_whole" = some (some (.ref f_is_whole)))
    (l_is_whole : K.lookup f_is_whole = some ⟨oc_is_whole, od_is_whole, .func (PySem.W.fnOf "is_whole" "is_whole" (defArgs s_is_whole) (defBody s_is_whole) (defScope s_is_whole) .none kV_is_whole dc_is_whole pm_is_whole an_is_whole cd_is_whole ct_is_whole), sl_is_whole⟩)
    (c_is_whole : PySem.W.codeIn K cd_is_whole "is_whole" = true) (k_is_whole : PySem.W.keepIn K (.ref f_is_whole) = true)
    {f_is_tuple_of : Addr} {od_is_tuple_of an_is_tuple_of : Option Addr} {sl_is_tuple_of : Array (Option Value)} {oc_is_tuple_of kV_is_tuple_of dc_is_tuple_of pm_is_tuple_of cd_is_tuple_of ct_is_tuple_of : Value}
    (a_is_tuple_of : PySem.W.nsIn K mainGlobals "is_tuple_of" = some (some (.ref f_is_tuple_of)))
    (l_is_tuple_of : K.lookup f_is_tuple_of = some ⟨oc_is_tuple_of, od_is_tuple_of, .func (PySem.W.fnOf "is_tuple_of" "is_tuple_of" (defArgs s_is_tuple_of) (defBody s_is_tuple_of) (defScope s_is_tuple_of) .none kV_is_tuple_of dc_is_tuple_of pm_is_tuple_of an_is_tuple_of cd_is_tuple_of ct_is_tuple_of), sl_is_tuple_of⟩)
    (c_is_tuple_of : PySem.W.codeIn K cd_is_tuple_of "is_tuple_of" = true) (k_is_tuple_of : PySem.W.keepIn K (.ref f_is_tuple_of) = true)
    {f_is_option : Addr} {od_is_option an_is_option : Option Addr} {sl_is_option : Array (Option Value)} {oc_is_option kV_is_option dc_is_option pm_is_option cd_is_option ct_is_option : Value}
    (a_is_option : PySem.W.nsIn K mainGlobals "is_option" = some (some (.ref f_is_option)))
    (l_is_option : K.lookup f_is_option = some ⟨oc_is_option, od_is_option, .func (PySem.W.fnOf "is_option" "is_option" (defArgs s_is_option) (defBody s_is_option) (defScope s_is_option) .none kV_is_option dc_is_option pm_is_option an_is_option cd_is_option ct_is_option), sl_is_option⟩)
    (c_is_option : PySem.W.codeIn K cd_is_option "is_option" = true) (k_is_option : PySem.W.keepIn K (.ref f_is_option) = true)
    {f_are_unlike_options : Addr} {od_are_unlike_options an_are_unlike_options : Option Addr} {sl_are_unlike_options : Array (Option Value)} {oc_are_unlike_options kV_are_unlike_options dc_are_unlike_options pm_are_unlike_options cd_are_unlike_options ct_are_unlike_options : Value}
    (a_are_unlike_options : PySem.W.nsIn K mainGlobals "are_unlike_options" = some (some (.ref f_are_unlike_options)))
    (l_are_unlike_options : K.lookup f_are_unlike_options = some ⟨oc_are_unlike_options, od_are_unlike_options, .func (PySem.W.fnOf "are_unlike_options" "are_unlike_options" (defArgs s_are_unlike_options) (defBody s_are_unlike_options) (defScope s_are_unlike_options) .none kV_are_unlike_options dc_are_unlike_options pm_are_unlike_options an_are_unlike_options cd_are_unlike_options ct_are_unlike_options), sl_are_unlike_options⟩)
    (c_are_unlike_options : PySem.W.codeIn K cd_are_unlike_options "are_unlike_options" = true) (k_are_unlike_options : PySem.W.keepIn K (.ref f_are_unlike_options) = true)
    {f_is_mark : Addr} {od_is_mark an_is_mark : Option Addr} {sl_is_mark : Array (Option Value)} {oc_is_mark kV_is_mark dc_is_mark pm_is_mark cd_is_mark ct_is_mark : Value}
    (a_is_mark : PySem.W.nsIn K mainGlobals "is_mark" = some (some (.ref f_is_mark)))
    (l_is_mark : K.lookup f_is_mark = some ⟨oc_is_mark, od_is_mark, .func (PySem.W.fnOf "is_mark" "is_mark" (defArgs s_is_mark) (defBody s_is_mark) (defScope s_is_mark) .none kV_is_mark dc_is_mark pm_is_mark an_is_mark cd_is_mark ct_is_mark), sl_is_mark⟩)
    (c_is_mark : PySem.W.codeIn K cd_is_mark "is_mark" = true) (k_is_mark : PySem.W.keepIn K (.ref f_is_mark) = true)
    {f_are_tiers : Addr} {od_are_tiers an_are_tiers : Option Addr} {sl_are_tiers : Array (Option Value)} {oc_are_tiers kV_are_tiers dc_are_tiers pm_are_tiers cd_are_tiers ct_are_tiers : Value}
    (a_are_tiers : PySem.W.nsIn K mainGlobals "are_tiers" = some (some (.ref f_are_tiers)))
    (l_are_tiers : K.lookup f_are_tiers = some ⟨oc_are_tiers, od_are_tiers, .func (PySem.W.fnOf "are_tiers" "are_tiers" (defArgs s_are_tiers) (defBody s_are_tiers) (defScope s_are_tiers) .none kV_are_tiers dc_are_tiers pm_are_tiers an_are_tiers cd_are_tiers ct_are_tiers), sl_are_tiers⟩)
    (c_are_tiers : PySem.W.codeIn K cd_are_tiers "are_tiers" = true) (k_are_tiers : PySem.W.keepIn K (.ref f_are_tiers) = true)
    {f_are_marks : Addr} {od_are_marks an_are_marks : Option Addr} {sl_are_marks : Array (Option Value)} {oc_are_marks kV_are_marks dc_are_marks pm_are_marks cd_are_marks ct_are_marks : Value}
    (a_are_marks : PySem.W.nsIn K mainGlobals "are_marks" = some (some (.ref f_are_marks)))
    (l_are_marks : K.lookup f_are_marks = some ⟨oc_are_marks, od_are_marks, .func (PySem.W.fnOf "are_marks" "are_marks" (defArgs s_are_marks) (defBody s_are_marks) (defScope s_are_marks) .none kV_are_marks dc_are_marks pm_are_marks an_are_marks cd_are_marks ct_are_marks), sl_are_marks⟩)
    (c_are_marks : PySem.W.codeIn K cd_are_marks "are_marks" = true) (k_are_marks : PySem.W.keepIn K (.ref f_are_marks) = true)
    {f_is_ballot : Addr} {od_is_ballot an_is_ballot : Option Addr} {sl_is_ballot : Array (Option Value)} {oc_is_ballot kV_is_ballot dc_is_ballot pm_is_ballot cd_is_ballot ct_is_ballot : Value}
    (a_is_ballot : PySem.W.nsIn K mainGlobals "is_ballot" = some (some (.ref f_is_ballot)))
    (l_is_ballot : K.lookup f_is_ballot = some ⟨oc_is_ballot, od_is_ballot, .func (PySem.W.fnOf "is_ballot" "is_ballot" (defArgs s_is_ballot) (defBody s_is_ballot) (defScope s_is_ballot) .none kV_is_ballot dc_is_ballot pm_is_ballot an_is_ballot cd_is_ballot ct_is_ballot), sl_is_ballot⟩)
    (c_is_ballot : PySem.W.codeIn K cd_is_ballot "is_ballot" = true) (k_is_ballot : PySem.W.keepIn K (.ref f_is_ballot) = true)
    {f_check_ballot : Addr} {od_check_ballot an_check_ballot : Option Addr} {sl_check_ballot : Array (Option Value)} {oc_check_ballot kV_check_ballot dc_check_ballot pm_check_ballot cd_check_ballot ct_check_ballot : Value}
    (a_check_ballot : PySem.W.nsIn K mainGlobals "check_ballot" = some (some (.ref f_check_ballot)))
    (l_check_ballot : K.lookup f_check_ballot = some ⟨oc_check_ballot, od_check_ballot, .func (PySem.W.fnOf "check_ballot" "check_ballot" (defArgs s_check_ballot) (defBody s_check_ballot) (defScope s_check_ballot) .none kV_check_ballot dc_check_ballot pm_check_ballot an_check_ballot cd_check_ballot ct_check_ballot), sl_check_ballot⟩)
    (c_check_ballot : PySem.W.codeIn K cd_check_ballot "check_ballot" = true) (k_check_ballot : PySem.W.keepIn K (.ref f_check_ballot) = true)
    {f_law_cell_at : Addr} {od_law_cell_at an_law_cell_at : Option Addr} {sl_law_cell_at : Array (Option Value)} {oc_law_cell_at kV_law_cell_at dc_law_cell_at pm_law_cell_at cd_law_cell_at ct_law_cell_at : Value}
    (a_law_cell_at : PySem.W.nsIn K mainGlobals "_law_cell_at" = some (some (.ref f_law_cell_at)))
    (l_law_cell_at : K.lookup f_law_cell_at = some ⟨oc_law_cell_at, od_law_cell_at, .func (PySem.W.fnOf "_law_cell_at" "_law_cell_at" (defArgs s_law_cell_at) (defBody s_law_cell_at) (defScope s_law_cell_at) .none kV_law_cell_at dc_law_cell_at pm_law_cell_at an_law_cell_at cd_law_cell_at ct_law_cell_at), sl_law_cell_at⟩)
    (c_law_cell_at : PySem.W.codeIn K cd_law_cell_at "_law_cell_at" = true) (k_law_cell_at : PySem.W.keepIn K (.ref f_law_cell_at) = true)
    {f_law_well : Addr} {od_law_well an_law_well : Option Addr} {sl_law_well : Array (Option Value)} {oc_law_well kV_law_well dc_law_well pm_law_well cd_law_well ct_law_well : Value}
    (a_law_well : PySem.W.nsIn K mainGlobals "_law_well" = some (some (.ref f_law_well)))
    (l_law_well : K.lookup f_law_well = some ⟨oc_law_well, od_law_well, .func (PySem.W.fnOf "_law_well" "_law_well" (defArgs s_law_well) (defBody s_law_well) (defScope s_law_well) .none kV_law_well dc_law_well pm_law_well an_law_well cd_law_well ct_law_well), sl_law_well⟩)
    (c_law_well : PySem.W.codeIn K cd_law_well "_law_well" = true) (k_law_well : PySem.W.keepIn K (.ref f_law_well) = true)
    {f_law_draw : Addr} {od_law_draw an_law_draw : Option Addr} {sl_law_draw : Array (Option Value)} {oc_law_draw kV_law_draw dc_law_draw pm_law_draw cd_law_draw ct_law_draw : Value}
    (a_law_draw : PySem.W.nsIn K mainGlobals "_law_draw" = some (some (.ref f_law_draw)))
    (l_law_draw : K.lookup f_law_draw = some ⟨oc_law_draw, od_law_draw, .func (PySem.W.fnOf "_law_draw" "_law_draw" (defArgs s_law_draw) (defBody s_law_draw) (defScope s_law_draw) .none kV_law_draw dc_law_draw pm_law_draw an_law_draw cd_law_draw ct_law_draw), sl_law_draw⟩)
    (c_law_draw : PySem.W.codeIn K cd_law_draw "_law_draw" = true) (k_law_draw : PySem.W.keepIn K (.ref f_law_draw) = true)
    {f_law_one : Addr} {od_law_one an_law_one : Option Addr} {sl_law_one : Array (Option Value)} {oc_law_one kV_law_one dc_law_one pm_law_one cd_law_one ct_law_one : Value}
    (a_law_one : PySem.W.nsIn K mainGlobals "_law_one" = some (some (.ref f_law_one)))
    (l_law_one : K.lookup f_law_one = some ⟨oc_law_one, od_law_one, .func (PySem.W.fnOf "_law_one" "_law_one" (defArgs s_law_one) (defBody s_law_one) (defScope s_law_one) .none kV_law_one dc_law_one pm_law_one an_law_one cd_law_one ct_law_one), sl_law_one⟩)
    (c_law_one : PySem.W.codeIn K cd_law_one "_law_one" = true) (k_law_one : PySem.W.keepIn K (.ref f_law_one) = true)
    {f_law_options : Addr} {od_law_options an_law_options : Option Addr} {sl_law_options : Array (Option Value)} {oc_law_options kV_law_options dc_law_options pm_law_options cd_law_options ct_law_options : Value}
    (a_law_options : PySem.W.nsIn K mainGlobals "_law_options" = some (some (.ref f_law_options)))
    (l_law_options : K.lookup f_law_options = some ⟨oc_law_options, od_law_options, .func (PySem.W.fnOf "_law_options" "_law_options" (defArgs s_law_options) (defBody s_law_options) (defScope s_law_options) .none kV_law_options dc_law_options pm_law_options an_law_options cd_law_options ct_law_options), sl_law_options⟩)
    (c_law_options : PySem.W.codeIn K cd_law_options "_law_options" = true) (k_law_options : PySem.W.keepIn K (.ref f_law_options) = true)
    {f_law_shuffled : Addr} {od_law_shuffled an_law_shuffled : Option Addr} {sl_law_shuffled : Array (Option Value)} {oc_law_shuffled kV_law_shuffled dc_law_shuffled pm_law_shuffled cd_law_shuffled ct_law_shuffled : Value}
    (a_law_shuffled : PySem.W.nsIn K mainGlobals "_law_shuffled" = some (some (.ref f_law_shuffled)))
    (l_law_shuffled : K.lookup f_law_shuffled = some ⟨oc_law_shuffled, od_law_shuffled, .func (PySem.W.fnOf "_law_shuffled" "_law_shuffled" (defArgs s_law_shuffled) (defBody s_law_shuffled) (defScope s_law_shuffled) .none kV_law_shuffled dc_law_shuffled pm_law_shuffled an_law_shuffled cd_law_shuffled ct_law_shuffled), sl_law_shuffled⟩)
    (c_law_shuffled : PySem.W.codeIn K cd_law_shuffled "_law_shuffled" = true) (k_law_shuffled : PySem.W.keepIn K (.ref f_law_shuffled) = true)
    {f_law_tiers_drawn : Addr} {od_law_tiers_drawn an_law_tiers_drawn : Option Addr} {sl_law_tiers_drawn : Array (Option Value)} {oc_law_tiers_drawn kV_law_tiers_drawn dc_law_tiers_drawn pm_law_tiers_drawn cd_law_tiers_drawn ct_law_tiers_drawn : Value}
    (a_law_tiers_drawn : PySem.W.nsIn K mainGlobals "_law_tiers_drawn" = some (some (.ref f_law_tiers_drawn)))
    (l_law_tiers_drawn : K.lookup f_law_tiers_drawn = some ⟨oc_law_tiers_drawn, od_law_tiers_drawn, .func (PySem.W.fnOf "_law_tiers_drawn" "_law_tiers_drawn" (defArgs s_law_tiers_drawn) (defBody s_law_tiers_drawn) (defScope s_law_tiers_drawn) .none kV_law_tiers_drawn dc_law_tiers_drawn pm_law_tiers_drawn an_law_tiers_drawn cd_law_tiers_drawn ct_law_tiers_drawn), sl_law_tiers_drawn⟩)
    (c_law_tiers_drawn : PySem.W.codeIn K cd_law_tiers_drawn "_law_tiers_drawn" = true) (k_law_tiers_drawn : PySem.W.keepIn K (.ref f_law_tiers_drawn) = true)
    {f_law_ballot : Addr} {od_law_ballot an_law_ballot : Option Addr} {sl_law_ballot : Array (Option Value)} {oc_law_ballot kV_law_ballot dc_law_ballot pm_law_ballot cd_law_ballot ct_law_ballot : Value}
    (a_law_ballot : PySem.W.nsIn K mainGlobals "_law_ballot" = some (some (.ref f_law_ballot)))
    (l_law_ballot : K.lookup f_law_ballot = some ⟨oc_law_ballot, od_law_ballot, .func (PySem.W.fnOf "_law_ballot" "_law_ballot" (defArgs s_law_ballot) (defBody s_law_ballot) (defScope s_law_ballot) .none kV_law_ballot dc_law_ballot pm_law_ballot an_law_ballot cd_law_ballot ct_law_ballot), sl_law_ballot⟩)
    (c_law_ballot : PySem.W.codeIn K cd_law_ballot "_law_ballot" = true) (k_law_ballot : PySem.W.keepIn K (.ref f_law_ballot) = true)
    {f_law_odd : Addr} {od_law_odd an_law_odd : Option Addr} {sl_law_odd : Array (Option Value)} {oc_law_odd kV_law_odd dc_law_odd pm_law_odd cd_law_odd ct_law_odd : Value}
    (a_law_odd : PySem.W.nsIn K mainGlobals "_law_odd" = some (some (.ref f_law_odd)))
    (l_law_odd : K.lookup f_law_odd = some ⟨oc_law_odd, od_law_odd, .func (PySem.W.fnOf "_law_odd" "_law_odd" (defArgs s_law_odd) (defBody s_law_odd) (defScope s_law_odd) .none kV_law_odd dc_law_odd pm_law_odd an_law_odd cd_law_odd ct_law_odd), sl_law_odd⟩)
    (c_law_odd : PySem.W.codeIn K cd_law_odd "_law_odd" = true) (k_law_odd : PySem.W.keepIn K (.ref f_law_odd) = true)
    {f_law_bent : Addr} {od_law_bent an_law_bent : Option Addr} {sl_law_bent : Array (Option Value)} {oc_law_bent kV_law_bent dc_law_bent pm_law_bent cd_law_bent ct_law_bent : Value}
    (a_law_bent : PySem.W.nsIn K mainGlobals "_law_bent" = some (some (.ref f_law_bent)))
    (l_law_bent : K.lookup f_law_bent = some ⟨oc_law_bent, od_law_bent, .func (PySem.W.fnOf "_law_bent" "_law_bent" (defArgs s_law_bent) (defBody s_law_bent) (defScope s_law_bent) .none kV_law_bent dc_law_bent pm_law_bent an_law_bent cd_law_bent ct_law_bent), sl_law_bent⟩)
    (c_law_bent : PySem.W.codeIn K cd_law_bent "_law_bent" = true) (k_law_bent : PySem.W.keepIn K (.ref f_law_bent) = true)
    {f_law_are_names : Addr} {od_law_are_names an_law_are_names : Option Addr} {sl_law_are_names : Array (Option Value)} {oc_law_are_names kV_law_are_names dc_law_are_names pm_law_are_names cd_law_are_names ct_law_are_names : Value}
    (a_law_are_names : PySem.W.nsIn K mainGlobals "_law_are_names" = some (some (.ref f_law_are_names)))
    (l_law_are_names : K.lookup f_law_are_names = some ⟨oc_law_are_names, od_law_are_names, .func (PySem.W.fnOf "_law_are_names" "_law_are_names" (defArgs s_law_are_names) (defBody s_law_are_names) (defScope s_law_are_names) .none kV_law_are_names dc_law_are_names pm_law_are_names an_law_are_names cd_law_are_names ct_law_are_names), sl_law_are_names⟩)
    (c_law_are_names : PySem.W.codeIn K cd_law_are_names "_law_are_names" = true) (k_law_are_names : PySem.W.keepIn K (.ref f_law_are_names) = true)
    {f_law_is_order : Addr} {od_law_is_order an_law_is_order : Option Addr} {sl_law_is_order : Array (Option Value)} {oc_law_is_order kV_law_is_order dc_law_is_order pm_law_is_order cd_law_is_order ct_law_is_order : Value}
    (a_law_is_order : PySem.W.nsIn K mainGlobals "_law_is_order" = some (some (.ref f_law_is_order)))
    (l_law_is_order : K.lookup f_law_is_order = some ⟨oc_law_is_order, od_law_is_order, .func (PySem.W.fnOf "_law_is_order" "_law_is_order" (defArgs s_law_is_order) (defBody s_law_is_order) (defScope s_law_is_order) .none kV_law_is_order dc_law_is_order pm_law_is_order an_law_is_order cd_law_is_order ct_law_is_order), sl_law_is_order⟩)
    (c_law_is_order : PySem.W.codeIn K cd_law_is_order "_law_is_order" = true) (k_law_is_order : PySem.W.keepIn K (.ref f_law_is_order) = true)
    {f_law_are_marks : Addr} {od_law_are_marks an_law_are_marks : Option Addr} {sl_law_are_marks : Array (Option Value)} {oc_law_are_marks kV_law_are_marks dc_law_are_marks pm_law_are_marks cd_law_are_marks ct_law_are_marks : Value}
    (a_law_are_marks : PySem.W.nsIn K mainGlobals "_law_are_marks" = some (some (.ref f_law_are_marks)))
    (l_law_are_marks : K.lookup f_law_are_marks = some ⟨oc_law_are_marks, od_law_are_marks, .func (PySem.W.fnOf "_law_are_marks" "_law_are_marks" (defArgs s_law_are_marks) (defBody s_law_are_marks) (defScope s_law_are_marks) .none kV_law_are_marks dc_law_are_marks pm_law_are_marks an_law_are_marks cd_law_are_marks ct_law_are_marks), sl_law_are_marks⟩)
    (c_law_are_marks : PySem.W.codeIn K cd_law_are_marks "_law_are_marks" = true) (k_law_are_marks : PySem.W.keepIn K (.ref f_law_are_marks) = true)
    {f_law_is_ballot : Addr} {od_law_is_ballot an_law_is_ballot : Option Addr} {sl_law_is_ballot : Array (Option Value)} {oc_law_is_ballot kV_law_is_ballot dc_law_is_ballot pm_law_is_ballot cd_law_is_ballot ct_law_is_ballot : Value}
    (a_law_is_ballot : PySem.W.nsIn K mainGlobals "_law_is_ballot" = some (some (.ref f_law_is_ballot)))
    (l_law_is_ballot : K.lookup f_law_is_ballot = some ⟨oc_law_is_ballot, od_law_is_ballot, .func (PySem.W.fnOf "_law_is_ballot" "_law_is_ballot" (defArgs s_law_is_ballot) (defBody s_law_is_ballot) (defScope s_law_is_ballot) .none kV_law_is_ballot dc_law_is_ballot pm_law_is_ballot an_law_is_ballot cd_law_is_ballot ct_law_is_ballot), sl_law_is_ballot⟩)
    (c_law_is_ballot : PySem.W.codeIn K cd_law_is_ballot "_law_is_ballot" = true) (k_law_is_ballot : PySem.W.keepIn K (.ref f_law_is_ballot) = true)
    {f_law_told : Addr} {od_law_told an_law_told : Option Addr} {sl_law_told : Array (Option Value)} {oc_law_told kV_law_told dc_law_told pm_law_told cd_law_told ct_law_told : Value}
    (a_law_told : PySem.W.nsIn K mainGlobals "_law_told" = some (some (.ref f_law_told)))
    (l_law_told : K.lookup f_law_told = some ⟨oc_law_told, od_law_told, .func (PySem.W.fnOf "_law_told" "_law_told" (defArgs s_law_told) (defBody s_law_told) (defScope s_law_told) .none kV_law_told dc_law_told pm_law_told an_law_told cd_law_told ct_law_told), sl_law_told⟩)
    (c_law_told : PySem.W.codeIn K cd_law_told "_law_told" = true) (k_law_told : PySem.W.keepIn K (.ref f_law_told) = true)
    {f_law : Addr} {od_law an_law : Option Addr} {sl_law : Array (Option Value)} {oc_law kV_law dc_law pm_law cd_law ct_law : Value}
    (a_law : PySem.W.nsIn K mainGlobals "law" = some (some (.ref f_law)))
    (l_law : K.lookup f_law = some ⟨oc_law, od_law, .func (PySem.W.fnOf "law" "law" (defArgs s_law) (defBody s_law) (defScope s_law) .none kV_law dc_law pm_law an_law cd_law ct_law), sl_law⟩)
    (c_law : PySem.W.codeIn K cd_law "law" = true) (k_law : PySem.W.keepIn K (.ref f_law) = true)
    {C_PollError : Addr}
    (aC_PollError : PySem.W.nsIn K mainGlobals "PollError" = some (some (.ref C_PollError)))
    {nm_PollError q_PollError : Str} {N_PollError : Addr} {bs_PollError : List Value} {sn_PollError : List Str} {sub_PollError : List Value} {ab_PollError : Bool} {col_PollError : Option Bool} {dd_PollError : Option Addr} {m0_PollError m1_PollError m2_PollError m3_PollError m5_PollError : Option Value}
    (xL_PollError : K.lookup C_PollError = some (excClassObj nm_PollError q_PollError C_PollError N_PollError bs_PollError [.type "ValueError", .type "Exception", .type "BaseException", .type "object"] true sn_PollError sub_PollError ab_PollError col_PollError dd_PollError m0_PollError m1_PollError m2_PollError m3_PollError m5_PollError "ValueError.__new__"))
    (sa_PollError : PySem.W.findIn K (.ref C_PollError) "__setattr__" = some (some (.builtin "object.__setattr__")))
    (gt_PollError : PySem.W.findIn K (.ref C_PollError) "__getattribute__" = some (some (.builtin "BaseException.__getattribute__")))
    (gg_PollError : PySem.W.findIn K (.ref C_PollError) "__getattr__" = some none)
    (ai_PollError : PySem.W.findIn K (.ref C_PollError) "__init__" = some (some (.ref f_PollError_init)))
    (ti_PollError : PySem.W.typeIn K (.ref f_PollError_init) = some (.type "function"))
    (kC_PollError : PySem.W.keepIn K (.ref C_PollError) = true)
    (eC_PollError : PySem.W.subIn K (.ref C_PollError) (.type "BaseException") = some true)
    (tC_PollError : PySem.W.typeIn K (.ref C_PollError) = some (.type "type"))
    (hC_PollError : PySem.W.hasDictIn K C_PollError = true)
    (nf_PollError_why : PySem.W.findIn K (.ref C_PollError) "why" = some none)
    (rd_PollError : PySem.W.readsIn K C_PollError (.type "type") = true)
    (ga_PollError : PySem.W.specialIn K (.ref C_PollError) "__getattribute__" = some (some (.builtin "type.__getattribute__")))
    (fc_PollError_init : PySem.W.findCls K (.ref C_PollError) (.type "type") "__init__" = some (.val (.ref f_PollError_init)))
    {C_BadBallot : Addr}
    (aC_BadBallot : PySem.W.nsIn K mainGlobals "BadBallot" = some (some (.ref C_BadBallot)))
    {nm_BadBallot q_BadBallot : Str} {N_BadBallot : Addr} {bs_BadBallot : List Value} {sn_BadBallot : List Str} {sub_BadBallot : List Value} {ab_BadBallot : Bool} {col_BadBallot : Option Bool} {dd_BadBallot : Option Addr} {m0_BadBallot m1_BadBallot m2_BadBallot m3_BadBallot m5_BadBallot : Option Value}
    (xL_BadBallot : K.lookup C_BadBallot = some (excClassObj nm_BadBallot q_BadBallot C_BadBallot N_BadBallot bs_BadBallot [.ref C_PollError, .type "ValueError", .type "Exception", .type "BaseException", .type "object"] true sn_BadBallot sub_BadBallot ab_BadBallot col_BadBallot dd_BadBallot m0_BadBallot m1_BadBallot m2_BadBallot m3_BadBallot m5_BadBallot "ValueError.__new__"))
    (sa_BadBallot : PySem.W.findIn K (.ref C_BadBallot) "__setattr__" = some (some (.builtin "object.__setattr__")))
    (gt_BadBallot : PySem.W.findIn K (.ref C_BadBallot) "__getattribute__" = some (some (.builtin "BaseException.__getattribute__")))
    (gg_BadBallot : PySem.W.findIn K (.ref C_BadBallot) "__getattr__" = some none)
    (ai_BadBallot : PySem.W.findIn K (.ref C_BadBallot) "__init__" = some (some (.ref f_PollError_init)))
    (ti_BadBallot : PySem.W.typeIn K (.ref f_PollError_init) = some (.type "function"))
    (kC_BadBallot : PySem.W.keepIn K (.ref C_BadBallot) = true)
    (eC_BadBallot : PySem.W.subIn K (.ref C_BadBallot) (.type "BaseException") = some true)
    (tC_BadBallot : PySem.W.typeIn K (.ref C_BadBallot) = some (.type "type"))
    (hC_BadBallot : PySem.W.hasDictIn K C_BadBallot = true)
    (nf_BadBallot_why : PySem.W.findIn K (.ref C_BadBallot) "why" = some none)
    (ha_BadBallot : PySem.W.findIn K (.ref C_BadBallot) "__class__" = some (some (.builtin "object.__class__")))
    (hn_BadBallot : PySem.W.specialIn K (.builtin "object.__class__") "__get__" = some (some (.builtin "getset_descriptor.__get__")))
    (ht_BadBallot : PySem.W.takesIn K (.builtin "object.__class__") = some true)
    (ob_BadBallot : PySem.W.mroIn K C_BadBallot (.type "object") = some true)
    {C_BadClaim : Addr}
    (aC_BadClaim : PySem.W.nsIn K mainGlobals "BadClaim" = some (some (.ref C_BadClaim)))
    {nm_BadClaim q_BadClaim : Str} {N_BadClaim : Addr} {bs_BadClaim : List Value} {sn_BadClaim : List Str} {sub_BadClaim : List Value} {ab_BadClaim : Bool} {col_BadClaim : Option Bool} {dd_BadClaim : Option Addr} {m0_BadClaim m1_BadClaim m2_BadClaim m3_BadClaim m5_BadClaim : Option Value}
    (xL_BadClaim : K.lookup C_BadClaim = some (excClassObj nm_BadClaim q_BadClaim C_BadClaim N_BadClaim bs_BadClaim [.ref C_PollError, .type "ValueError", .type "Exception", .type "BaseException", .type "object"] true sn_BadClaim sub_BadClaim ab_BadClaim col_BadClaim dd_BadClaim m0_BadClaim m1_BadClaim m2_BadClaim m3_BadClaim m5_BadClaim "ValueError.__new__"))
    (sa_BadClaim : PySem.W.findIn K (.ref C_BadClaim) "__setattr__" = some (some (.builtin "object.__setattr__")))
    (gt_BadClaim : PySem.W.findIn K (.ref C_BadClaim) "__getattribute__" = some (some (.builtin "BaseException.__getattribute__")))
    (gg_BadClaim : PySem.W.findIn K (.ref C_BadClaim) "__getattr__" = some none)
    (ai_BadClaim : PySem.W.findIn K (.ref C_BadClaim) "__init__" = some (some (.ref f_PollError_init)))
    (ti_BadClaim : PySem.W.typeIn K (.ref f_PollError_init) = some (.type "function"))
    (kC_BadClaim : PySem.W.keepIn K (.ref C_BadClaim) = true)
    (eC_BadClaim : PySem.W.subIn K (.ref C_BadClaim) (.type "BaseException") = some true)
    (tC_BadClaim : PySem.W.typeIn K (.ref C_BadClaim) = some (.type "type"))
    (hC_BadClaim : PySem.W.hasDictIn K C_BadClaim = true)
    (nf_BadClaim_why : PySem.W.findIn K (.ref C_BadClaim) "why" = some none)
    {C_BadMargins : Addr}
    (aC_BadMargins : PySem.W.nsIn K mainGlobals "BadMargins" = some (some (.ref C_BadMargins)))
    {nm_BadMargins q_BadMargins : Str} {N_BadMargins : Addr} {bs_BadMargins : List Value} {sn_BadMargins : List Str} {sub_BadMargins : List Value} {ab_BadMargins : Bool} {col_BadMargins : Option Bool} {dd_BadMargins : Option Addr} {m0_BadMargins m1_BadMargins m2_BadMargins m3_BadMargins m5_BadMargins : Option Value}
    (xL_BadMargins : K.lookup C_BadMargins = some (excClassObj nm_BadMargins q_BadMargins C_BadMargins N_BadMargins bs_BadMargins [.ref C_PollError, .type "ValueError", .type "Exception", .type "BaseException", .type "object"] true sn_BadMargins sub_BadMargins ab_BadMargins col_BadMargins dd_BadMargins m0_BadMargins m1_BadMargins m2_BadMargins m3_BadMargins m5_BadMargins "ValueError.__new__"))
    (sa_BadMargins : PySem.W.findIn K (.ref C_BadMargins) "__setattr__" = some (some (.builtin "object.__setattr__")))
    (gt_BadMargins : PySem.W.findIn K (.ref C_BadMargins) "__getattribute__" = some (some (.builtin "BaseException.__getattribute__")))
    (gg_BadMargins : PySem.W.findIn K (.ref C_BadMargins) "__getattr__" = some none)
    (ai_BadMargins : PySem.W.findIn K (.ref C_BadMargins) "__init__" = some (some (.ref f_PollError_init)))
    (ti_BadMargins : PySem.W.typeIn K (.ref f_PollError_init) = some (.type "function"))
    (kC_BadMargins : PySem.W.keepIn K (.ref C_BadMargins) = true)
    (eC_BadMargins : PySem.W.subIn K (.ref C_BadMargins) (.type "BaseException") = some true)
    (tC_BadMargins : PySem.W.typeIn K (.ref C_BadMargins) = some (.type "type"))
    (hC_BadMargins : PySem.W.hasDictIn K C_BadMargins = true)
    (nf_BadMargins_why : PySem.W.findIn K (.ref C_BadMargins) "why" = some none)
    {C_BadOrder : Addr}
    (aC_BadOrder : PySem.W.nsIn K mainGlobals "BadOrder" = some (some (.ref C_BadOrder)))
    {nm_BadOrder q_BadOrder : Str} {N_BadOrder : Addr} {bs_BadOrder : List Value} {sn_BadOrder : List Str} {sub_BadOrder : List Value} {ab_BadOrder : Bool} {col_BadOrder : Option Bool} {dd_BadOrder : Option Addr} {m0_BadOrder m1_BadOrder m2_BadOrder m3_BadOrder m5_BadOrder : Option Value}
    (xL_BadOrder : K.lookup C_BadOrder = some (excClassObj nm_BadOrder q_BadOrder C_BadOrder N_BadOrder bs_BadOrder [.ref C_PollError, .type "ValueError", .type "Exception", .type "BaseException", .type "object"] true sn_BadOrder sub_BadOrder ab_BadOrder col_BadOrder dd_BadOrder m0_BadOrder m1_BadOrder m2_BadOrder m3_BadOrder m5_BadOrder "ValueError.__new__"))
    (sa_BadOrder : PySem.W.findIn K (.ref C_BadOrder) "__setattr__" = some (some (.builtin "object.__setattr__")))
    (gt_BadOrder : PySem.W.findIn K (.ref C_BadOrder) "__getattribute__" = some (some (.builtin "BaseException.__getattribute__")))
    (gg_BadOrder : PySem.W.findIn K (.ref C_BadOrder) "__getattr__" = some none)
    (ai_BadOrder : PySem.W.findIn K (.ref C_BadOrder) "__init__" = some (some (.ref f_PollError_init)))
    (ti_BadOrder : PySem.W.typeIn K (.ref f_PollError_init) = some (.type "function"))
    (kC_BadOrder : PySem.W.keepIn K (.ref C_BadOrder) = true)
    (eC_BadOrder : PySem.W.subIn K (.ref C_BadOrder) (.type "BaseException") = some true)
    (tC_BadOrder : PySem.W.typeIn K (.ref C_BadOrder) = some (.type "type"))
    (hC_BadOrder : PySem.W.hasDictIn K C_BadOrder = true)
    (nf_BadOrder_why : PySem.W.findIn K (.ref C_BadOrder) "why" = some none)
    {C_BadPoll : Addr}
    (aC_BadPoll : PySem.W.nsIn K mainGlobals "BadPoll" = some (some (.ref C_BadPoll)))
    {nm_BadPoll q_BadPoll : Str} {N_BadPoll : Addr} {bs_BadPoll : List Value} {sn_BadPoll : List Str} {sub_BadPoll : List Value} {ab_BadPoll : Bool} {col_BadPoll : Option Bool} {dd_BadPoll : Option Addr} {m0_BadPoll m1_BadPoll m2_BadPoll m3_BadPoll m5_BadPoll : Option Value}
    (xL_BadPoll : K.lookup C_BadPoll = some (excClassObj nm_BadPoll q_BadPoll C_BadPoll N_BadPoll bs_BadPoll [.ref C_PollError, .type "ValueError", .type "Exception", .type "BaseException", .type "object"] true sn_BadPoll sub_BadPoll ab_BadPoll col_BadPoll dd_BadPoll m0_BadPoll m1_BadPoll m2_BadPoll m3_BadPoll m5_BadPoll "ValueError.__new__"))
    (sa_BadPoll : PySem.W.findIn K (.ref C_BadPoll) "__setattr__" = some (some (.builtin "object.__setattr__")))
    (gt_BadPoll : PySem.W.findIn K (.ref C_BadPoll) "__getattribute__" = some (some (.builtin "BaseException.__getattribute__")))
    (gg_BadPoll : PySem.W.findIn K (.ref C_BadPoll) "__getattr__" = some none)
    (ai_BadPoll : PySem.W.findIn K (.ref C_BadPoll) "__init__" = some (some (.ref f_PollError_init)))
    (ti_BadPoll : PySem.W.typeIn K (.ref f_PollError_init) = some (.type "function"))
    (kC_BadPoll : PySem.W.keepIn K (.ref C_BadPoll) = true)
    (eC_BadPoll : PySem.W.subIn K (.ref C_BadPoll) (.type "BaseException") = some true)
    (tC_BadPoll : PySem.W.typeIn K (.ref C_BadPoll) = some (.type "type"))
    (hC_BadPoll : PySem.W.hasDictIn K C_BadPoll = true)
    (nf_BadPoll_why : PySem.W.findIn K (.ref C_BadPoll) "why" = some none)
    {C_BadRule : Addr}
    (aC_BadRule : PySem.W.nsIn K mainGlobals "BadRule" = some (some (.ref C_BadRule)))
    {nm_BadRule q_BadRule : Str} {N_BadRule : Addr} {bs_BadRule : List Value} {sn_BadRule : List Str} {sub_BadRule : List Value} {ab_BadRule : Bool} {col_BadRule : Option Bool} {dd_BadRule : Option Addr} {m0_BadRule m1_BadRule m2_BadRule m3_BadRule m5_BadRule : Option Value}
    (xL_BadRule : K.lookup C_BadRule = some (excClassObj nm_BadRule q_BadRule C_BadRule N_BadRule bs_BadRule [.ref C_PollError, .type "ValueError", .type "Exception", .type "BaseException", .type "object"] true sn_BadRule sub_BadRule ab_BadRule col_BadRule dd_BadRule m0_BadRule m1_BadRule m2_BadRule m3_BadRule m5_BadRule "ValueError.__new__"))
    (sa_BadRule : PySem.W.findIn K (.ref C_BadRule) "__setattr__" = some (some (.builtin "object.__setattr__")))
    (gt_BadRule : PySem.W.findIn K (.ref C_BadRule) "__getattribute__" = some (some (.builtin "BaseException.__getattribute__")))
    (gg_BadRule : PySem.W.findIn K (.ref C_BadRule) "__getattr__" = some none)
    (ai_BadRule : PySem.W.findIn K (.ref C_BadRule) "__init__" = some (some (.ref f_PollError_init)))
    (ti_BadRule : PySem.W.typeIn K (.ref f_PollError_init) = some (.type "function"))
    (kC_BadRule : PySem.W.keepIn K (.ref C_BadRule) = true)
    (eC_BadRule : PySem.W.subIn K (.ref C_BadRule) (.type "BaseException") = some true)
    (tC_BadRule : PySem.W.typeIn K (.ref C_BadRule) = some (.type "type"))
    (hC_BadRule : PySem.W.hasDictIn K C_BadRule = true)
    (nf_BadRule_why : PySem.W.findIn K (.ref C_BadRule) "why" = some none)
    {C_BadSums : Addr}
    (aC_BadSums : PySem.W.nsIn K mainGlobals "BadSums" = some (some (.ref C_BadSums)))
    {nm_BadSums q_BadSums : Str} {N_BadSums : Addr} {bs_BadSums : List Value} {sn_BadSums : List Str} {sub_BadSums : List Value} {ab_BadSums : Bool} {col_BadSums : Option Bool} {dd_BadSums : Option Addr} {m0_BadSums m1_BadSums m2_BadSums m3_BadSums m5_BadSums : Option Value}
    (xL_BadSums : K.lookup C_BadSums = some (excClassObj nm_BadSums q_BadSums C_BadSums N_BadSums bs_BadSums [.ref C_PollError, .type "ValueError", .type "Exception", .type "BaseException", .type "object"] true sn_BadSums sub_BadSums ab_BadSums col_BadSums dd_BadSums m0_BadSums m1_BadSums m2_BadSums m3_BadSums m5_BadSums "ValueError.__new__"))
    (sa_BadSums : PySem.W.findIn K (.ref C_BadSums) "__setattr__" = some (some (.builtin "object.__setattr__")))
    (gt_BadSums : PySem.W.findIn K (.ref C_BadSums) "__getattribute__" = some (some (.builtin "BaseException.__getattribute__")))
    (gg_BadSums : PySem.W.findIn K (.ref C_BadSums) "__getattr__" = some none)
    (ai_BadSums : PySem.W.findIn K (.ref C_BadSums) "__init__" = some (some (.ref f_PollError_init)))
    (ti_BadSums : PySem.W.typeIn K (.ref f_PollError_init) = some (.type "function"))
    (kC_BadSums : PySem.W.keepIn K (.ref C_BadSums) = true)
    (eC_BadSums : PySem.W.subIn K (.ref C_BadSums) (.type "BaseException") = some true)
    (tC_BadSums : PySem.W.typeIn K (.ref C_BadSums) = some (.type "type"))
    (hC_BadSums : PySem.W.hasDictIn K C_BadSums = true)
    (nf_BadSums_why : PySem.W.findIn K (.ref C_BadSums) "why" = some none)
    (sb_BadBallot_PollError : PySem.W.subIn K (.ref C_BadBallot) (.ref C_PollError) = some true)
    (kt_BadBallot_BadBallot : PySem.W.kitOne K (.ref C_BadBallot) (.ref C_BadBallot) = some true)
    (kt_BadBallot_BadClaim : PySem.W.kitOne K (.ref C_BadBallot) (.ref C_BadClaim) = some false)
    (kt_BadBallot_BadMargins : PySem.W.kitOne K (.ref C_BadBallot) (.ref C_BadMargins) = some false)
    (kt_BadBallot_BadOrder : PySem.W.kitOne K (.ref C_BadBallot) (.ref C_BadOrder) = some false)
    (kt_BadBallot_BadPoll : PySem.W.kitOne K (.ref C_BadBallot) (.ref C_BadPoll) = some false)
    (kt_BadBallot_BadRule : PySem.W.kitOne K (.ref C_BadBallot) (.ref C_BadRule) = some false)
    (kt_BadBallot_BadSums : PySem.W.kitOne K (.ref C_BadBallot) (.ref C_BadSums) = some false)
    (vV : PySem.W.findCls K (.type "ValueError") (.type "type") "__init__" = some (.val (.builtin "ValueError.__init__")))
    (z_ValueError : PySem.W.nsIn K mainGlobals "ValueError" = some none)
    (z_isinstance : PySem.W.nsIn K mainGlobals "isinstance" = some none)
    (z_bool : PySem.W.nsIn K mainGlobals "bool" = some none)
    (z_int : PySem.W.nsIn K mainGlobals "int" = some none)
    (z_len : PySem.W.nsIn K mainGlobals "len" = some none)
    (z_tuple : PySem.W.nsIn K mainGlobals "tuple" = some none)
    (z_str : PySem.W.nsIn K mainGlobals "str" = some none)
    (z_all : PySem.W.nsIn K mainGlobals "all" = some none)
    (z_range : PySem.W.nsIn K mainGlobals "range" = some none)
    (z_list : PySem.W.nsIn K mainGlobals "list" = some none)
    (z_enumerate : PySem.W.nsIn K mainGlobals "enumerate" = some none)
    (z_repr : PySem.W.nsIn K mainGlobals "repr" = some none)
    (z_set : PySem.W.nsIn K mainGlobals "set" = some none)
    {t_GREATEST_MARK : Tok} (cc_GREATEST_MARK : PySem.W.nsIn K mainGlobals "GREATEST_MARK" = some (some (.int 9 t_GREATEST_MARK)))
    : ∃ fd : FuncData, (∀ (s : Shared) (v : Value), BindsTo s fd ⟨[v], []⟩ [("_law_script", v)]) ∧ ∀ base : Heap, K.In base → base.Ns mainGlobals mg → TopOk l.prog w K mg base fa fd "_law_script" (sp_law K) := by
  have e := hfa.symm.trans (PySem.W.mg_of X G a_law)
  cases e
  have F_PollError_init : FunD K "__init__" "PollError.__init__" (defArgs s_PollError_init) (defBody s_PollError_init) (defScope s_PollError_init) [V.str ""] [] f_PollError_init _ := ⟨⟨_, _, _, _, _, _, _, _, _, _, rfl, l_PollError_init, c_PollError_init, .inr ⟨by simp, _, _, [.str "" tk0_PollError_init], _, rfl, lt_PollError_init, rfl, (.cons ⟨_, rfl⟩ Paired.nil)⟩, .inl rfl⟩, k_PollError_init⟩
  obtain ⟨ikb_PollError_init_2, kb_PollError_init_2⟩ := F_PollError_init.kbindsD (ps := ["self", "why"]) 2 [] (fun us its ws => us) (by simp) (fun r1 r2 r3 => r1) (fun _ _ _ _ _ _ _ us its ws l1 l2 l3 => match us, its, ws, l1, l2, l3 with | [_, _], [_], [], _, _, _ => ⟨_, rfl, rfl⟩)
  have F_is_whole := fun_mk (st := s_is_whole) l_is_whole c_is_whole k_is_whole
  have b_is_whole := F_is_whole.binds (ps := ["thing"]) fun _ _ _ _ _ _ us hl => match us, hl with | [_], _ => rfl
  have F_is_tuple_of := fun_mk (st := s_is_tuple_of) l_is_tuple_of c_is_tuple_of k_is_tuple_of
  have b_is_tuple_of := F_is_tuple_of.binds (ps := ["thing", "many"]) fun _ _ _ _ _ _ us hl => match us, hl with | [_, _], _ => rfl
  have F_is_option := fun_mk (st := s_is_option) l_is_option c_is_option k_is_option
  have b_is_option := F_is_option.binds (ps := ["options", "thing"]) fun _ _ _ _ _ _ us hl => match us, hl with | [_, _], _ => rfl
  have F_are_unlike_options := fun_mk (st := s_are_unlike_options) l_are_unlike_options c_are_unlike_options k_are_unlike_options
  have b_are_unlike_options := F_are_unlike_options.binds (ps := ["options", "names"]) fun _ _ _ _ _ _ us hl => match us, hl with | [_, _], _ => rfl
  have F_is_mark := fun_mk (st := s_is_mark) l_is_mark c_is_mark k_is_mark
  have b_is_mark := F_is_mark.binds (ps := ["thing"]) fun _ _ _ _ _ _ us hl => match us, hl with | [_], _ => rfl
  have F_are_tiers := fun_mk (st := s_are_tiers) l_are_tiers c_are_tiers k_are_tiers
  have b_are_tiers := F_are_tiers.binds (ps := ["options", "told"]) fun _ _ _ _ _ _ us hl => match us, hl with | [_, _], _ => rfl
  have F_are_marks := fun_mk (st := s_are_marks) l_are_marks c_are_marks k_are_marks
  have b_are_marks := F_are_marks.binds (ps := ["options", "told"]) fun _ _ _ _ _ _ us hl => match us, hl with | [_, _], _ => rfl
  have F_is_ballot := fun_mk (st := s_is_ballot) l_is_ballot c_is_ballot k_is_ballot
  have b_is_ballot := F_is_ballot.binds (ps := ["options", "thing"]) fun _ _ _ _ _ _ us hl => match us, hl with | [_, _], _ => rfl
  have F_check_ballot := fun_mk (st := s_check_ballot) l_check_ballot c_check_ballot k_check_ballot
  have b_check_ballot := F_check_ballot.binds (ps := ["options", "ballot"]) fun _ _ _ _ _ _ us hl => match us, hl with | [_, _], _ => rfl
  have kb_check_ballot_2 : KBn K (PySem.W.fnOf "check_ballot" "check_ballot" (defArgs s_check_ballot) (defBody s_check_ballot) (defScope s_check_ballot) .none kV_check_ballot dc_check_ballot pm_check_ballot an_check_ballot cd_check_ballot ct_check_ballot) ["options", "ballot"] 2 [] (fun us ws => us) (fun vs zs => vs) := ⟨fun s us ws _ l1 l2 => .of_eq (match us, ws, l1, l2 with | [_, _], [], _, _ => rfl), fun r1 r3 => r1⟩
  have kb_check_ballot_0_ballot_options : KBn K (PySem.W.fnOf "check_ballot" "check_ballot" (defArgs s_check_ballot) (defBody s_check_ballot) (defScope s_check_ballot) .none kV_check_ballot dc_check_ballot pm_check_ballot an_check_ballot cd_check_ballot ct_check_ballot) ["options", "ballot"] 0 ["ballot", "options"] (fun us ws => us ++ ((ws.drop 1).take 1 ++ ((ws.drop 0).take 1))) (fun vs zs => vs ++ ((zs.drop 1).take 1 ++ ((zs.drop 0).take 1))) := ⟨fun s us ws _ l1 l2 => .of_eq (match us, ws, l1, l2 with | [], [_, _], _, _ => rfl), fun r1 r3 => r1.append (((r3.drop 1).take 1).append (((r3.drop 0).take 1)))⟩
  have F_law_cell_at := fun_mk (st := s_law_cell_at) l_law_cell_at c_law_cell_at k_law_cell_at
  have b_law_cell_at := F_law_cell_at.binds (ps := ["_law_script", "_law_k"]) fun _ _ _ _ _ _ us hl => match us, hl with | [_, _], _ => rfl
  have F_law_well := fun_mk (st := s_law_well) l_law_well c_law_well k_law_well
  have b_law_well := F_law_well.binds (ps := ["_law_cell"]) fun _ _ _ _ _ _ us hl => match us, hl with | [_], _ => rfl
  have F_law_draw := fun_mk (st := s_law_draw) l_law_draw c_law_draw k_law_draw
  have b_law_draw := F_law_draw.binds (ps := ["_law_well_here", "_law_size"]) fun _ _ _ _ _ _ us hl => match us, hl with | [_, _], _ => rfl
  have F_law_one := fun_mk (st := s_law_one) l_law_one c_law_one k_law_one
  have b_law_one := F_law_one.binds (ps := ["_law_well_here", "_law_some"]) fun _ _ _ _ _ _ us hl => match us, hl with | [_, _], _ => rfl
  have F_law_options := fun_mk (st := s_law_options) l_law_options c_law_options k_law_options
  have b_law_options := F_law_options.binds (ps := ["_law_well_here", "_law_size"]) fun _ _ _ _ _ _ us hl => match us, hl with | [_, _], _ => rfl
  have F_law_shuffled := fun_mk (st := s_law_shuffled) l_law_shuffled c_law_shuffled k_law_shuffled
  have b_law_shuffled := F_law_shuffled.binds (ps := ["_law_well_here", "_law_some"]) fun _ _ _ _ _ _ us hl => match us, hl with | [_, _], _ => rfl
  have F_law_tiers_drawn := fun_mk (st := s_law_tiers_drawn) l_law_tiers_drawn c_law_tiers_drawn k_law_tiers_drawn
  have b_law_tiers_drawn := F_law_tiers_drawn.binds (ps := ["_law_well_here", "_law_some"]) fun _ _ _ _ _ _ us hl => match us, hl with | [_, _], _ => rfl
  have F_law_ballot := fun_mk (st := s_law_ballot) l_law_ballot c_law_ballot k_law_ballot
  have b_law_ballot := F_law_ballot.binds (ps := ["_law_well_here", "_law_choices"]) fun _ _ _ _ _ _ us hl => match us, hl with | [_, _], _ => rfl
  have F_law_odd := fun_mk (st := s_law_odd) l_law_odd c_law_odd k_law_odd
  have b_law_odd := F_law_odd.binds (ps := ["_law_well_here", "_law_choices"]) fun _ _ _ _ _ _ us hl => match us, hl with | [_, _], _ => rfl
  have F_law_bent := fun_mk (st := s_law_bent) l_law_bent c_law_bent k_law_bent
  have b_law_bent := F_law_bent.binds (ps := ["_law_well_here", "_law_slip", "_law_choices"]) fun _ _ _ _ _ _ us hl => match us, hl with | [_, _, _], _ => rfl
  have F_law_are_names := fun_mk (st := s_law_are_names) l_law_are_names c_law_are_names k_law_are_names
  have b_law_are_names := F_law_are_names.binds (ps := ["_law_some", "_law_choices"]) fun _ _ _ _ _ _ us hl => match us, hl with | [_, _], _ => rfl
  have F_law_is_order := fun_mk (st := s_law_is_order) l_law_is_order c_law_is_order k_law_is_order
  have b_law_is_order := F_law_is_order.binds (ps := ["_law_things", "_law_choices"]) fun _ _ _ _ _ _ us hl => match us, hl with | [_, _], _ => rfl
  have F_law_are_marks := fun_mk (st := s_law_are_marks) l_law_are_marks c_law_are_marks k_law_are_marks
  have b_law_are_marks := F_law_are_marks.binds (ps := ["_law_things", "_law_choices"]) fun _ _ _ _ _ _ us hl => match us, hl with | [_, _], _ => rfl
  have F_law_is_ballot := fun_mk (st := s_law_is_ballot) l_law_is_ballot c_law_is_ballot k_law_is_ballot
  have b_law_is_ballot := F_law_is_ballot.binds (ps := ["_law_thing", "_law_choices"]) fun _ _ _ _ _ _ us hl => match us, hl with | [_, _], _ => rfl
  have F_law_told := fun_mk (st := s_law_told) l_law_told c_law_told k_law_told
  have b_law_told := F_law_told.binds (ps := ["_law_choices", "_law_thing"]) fun _ _ _ _ _ _ us hl => match us, hl with | [_, _], _ => rfl
  have F_law := fun_mk (st := s_law) l_law c_law k_law
  have b_law := F_law.binds (ps := ["_law_script"]) fun _ _ _ _ _ _ us hl => match us, hl with | [_], _ => rfl
  have ox_PollError : OexC K C_PollError := ⟨⟨_, _, _, _, _, _, _, _, _, _, _, _, _, _, _, xL_PollError, rfl⟩, sa_PollError, eC_PollError, tC_PollError, kC_PollError⟩
  have ox_BadBallot : OexC K C_BadBallot := ⟨⟨_, _, _, _, _, _, _, _, _, _, _, _, _, _, _, xL_BadBallot, rfl⟩, sa_BadBallot, eC_BadBallot, tC_BadBallot, kC_BadBallot⟩
  have ox_BadClaim : OexC K C_BadClaim := ⟨⟨_, _, _, _, _, _, _, _, _, _, _, _, _, _, _, xL_BadClaim, rfl⟩, sa_BadClaim, eC_BadClaim, tC_BadClaim, kC_BadClaim⟩
  have ox_BadMargins : OexC K C_BadMargins := ⟨⟨_, _, _, _, _, _, _, _, _, _, _, _, _, _, _, xL_BadMargins, rfl⟩, sa_BadMargins, eC_BadMargins, tC_BadMargins, kC_BadMargins⟩
  have ox_BadOrder : OexC K C_BadOrder := ⟨⟨_, _, _, _, _, _, _, _, _, _, _, _, _, _, _, xL_BadOrder, rfl⟩, sa_BadOrder, eC_BadOrder, tC_BadOrder, kC_BadOrder⟩
  have ox_BadPoll : OexC K C_BadPoll := ⟨⟨_, _, _, _, _, _, _, _, _, _, _, _, _, _, _, xL_BadPoll, rfl⟩, sa_BadPoll, eC_BadPoll, tC_BadPoll, kC_BadPoll⟩
  have ox_BadRule : OexC K C_BadRule := ⟨⟨_, _, _, _, _, _, _, _, _, _, _, _, _, _, _, xL_BadRule, rfl⟩, sa_BadRule, eC_BadRule, tC_BadRule, kC_BadRule⟩
  have ox_BadSums : OexC K C_BadSums := ⟨⟨_, _, _, _, _, _, _, _, _, _, _, _, _, _, _, xL_BadSums, rfl⟩, sa_BadSums, eC_BadSums, tC_BadSums, kC_BadSums⟩
  let T : Txt K mg := {
    f_PollError_init := _, fd_PollError_init := _, F_PollError_init := F_PollError_init, gkb_PollError_init_2 := _, kb_PollError_init_2 := kb_PollError_init_2,
    f_is_whole := _, fd_is_whole := _, F_is_whole := F_is_whole, b_is_whole := b_is_whole, g_is_whole := PySem.W.mg_of X G a_is_whole,
    f_is_tuple_of := _, fd_is_tuple_of := _, F_is_tuple_of := F_is_tuple_of, b_is_tuple_of := b_is_tuple_of, g_is_tuple_of := PySem.W.mg_of X G a_is_tuple_of,
    f_is_option := _, fd_is_option := _, F_is_option := F_is_option, b_is_option := b_is_option, g_is_option := PySem.W.mg_of X G a_is_option,
    f_are_unlike_options := _, fd_are_unlike_options := _, F_are_unlike_options := F_are_unlike_options, b_are_unlike_options := b_are_unlike_options, g_are_unlike_options := PySem.W.mg_of X G a_are_unlike_options,
    f_is_mark := _, fd_is_mark := _, F_is_mark := F_is_mark, b_is_mark := b_is_mark, g_is_mark := PySem.W.mg_of X G a_is_mark,
    f_are_tiers := _, fd_are_tiers := _, F_are_tiers := F_are_tiers, b_are_tiers := b_are_tiers, g_are_tiers := PySem.W.mg_of X G a_are_tiers,
    f_are_marks := _, fd_are_marks := _, F_are_marks := F_are_marks, b_are_marks := b_are_marks, g_are_marks := PySem.W.mg_of X G a_are_marks,
    f_is_ballot := _, fd_is_ballot := _, F_is_ballot := F_is_ballot, b_is_ballot := b_is_ballot, g_is_ballot := PySem.W.mg_of X G a_is_ballot,
    f_check_ballot := _, fd_check_ballot := _, F_check_ballot := F_check_ballot, b_check_ballot := b_check_ballot, gkb_check_ballot_2 := _, kb_check_ballot_2 := kb_check_ballot_2, gkb_check_ballot_0_ballot_options := _, kb_check_ballot_0_ballot_options := kb_check_ballot_0_ballot_options, g_check_ballot := PySem.W.mg_of X G a_check_ballot,
    f_law_cell_at := _, fd_law_cell_at := _, F_law_cell_at := F_law_cell_at, b_law_cell_at := b_law_cell_at, g_law_cell_at := PySem.W.mg_of X G a_law_cell_at,
    f_law_well := _, fd_law_well := _, F_law_well := F_law_well, b_law_well := b_law_well, g_law_well := PySem.W.mg_of X G a_law_well,
    f_law_draw := _, fd_law_draw := _, F_law_draw := F_law_draw, b_law_draw := b_law_draw, g_law_draw := PySem.W.mg_of X G a_law_draw,
    f_law_one := _, fd_law_one := _, F_law_one := F_law_one, b_law_one := b_law_one, g_law_one := PySem.W.mg_of X G a_law_one,
    f_law_options := _, fd_law_options := _, F_law_options := F_law_options, b_law_options := b_law_options, g_law_options := PySem.W.mg_of X G a_law_options,
    f_law_shuffled := _, fd_law_shuffled := _, F_law_shuffled := F_law_shuffled, b_law_shuffled := b_law_shuffled, g_law_shuffled := PySem.W.mg_of X G a_law_shuffled,
    f_law_tiers_drawn := _, fd_law_tiers_drawn := _, F_law_tiers_drawn := F_law_tiers_drawn, b_law_tiers_drawn := b_law_tiers_drawn, g_law_tiers_drawn := PySem.W.mg_of X G a_law_tiers_drawn,
    f_law_ballot := _, fd_law_ballot := _, F_law_ballot := F_law_ballot, b_law_ballot := b_law_ballot, g_law_ballot := PySem.W.mg_of X G a_law_ballot,
    f_law_odd := _, fd_law_odd := _, F_law_odd := F_law_odd, b_law_odd := b_law_odd, g_law_odd := PySem.W.mg_of X G a_law_odd,
    f_law_bent := _, fd_law_bent := _, F_law_bent := F_law_bent, b_law_bent := b_law_bent, g_law_bent := PySem.W.mg_of X G a_law_bent,
    f_law_are_names := _, fd_law_are_names := _, F_law_are_names := F_law_are_names, b_law_are_names := b_law_are_names, g_law_are_names := PySem.W.mg_of X G a_law_are_names,
    f_law_is_order := _, fd_law_is_order := _, F_law_is_order := F_law_is_order, b_law_is_order := b_law_is_order, g_law_is_order := PySem.W.mg_of X G a_law_is_order,
    f_law_are_marks := _, fd_law_are_marks := _, F_law_are_marks := F_law_are_marks, b_law_are_marks := b_law_are_marks, g_law_are_marks := PySem.W.mg_of X G a_law_are_marks,
    f_law_is_ballot := _, fd_law_is_ballot := _, F_law_is_ballot := F_law_is_ballot, b_law_is_ballot := b_law_is_ballot, g_law_is_ballot := PySem.W.mg_of X G a_law_is_ballot,
    f_law_told := _, fd_law_told := _, F_law_told := F_law_told, b_law_told := b_law_told, g_law_told := PySem.W.mg_of X G a_law_told,
    f_law := _, fd_law := _, F_law := F_law, b_law := b_law, g_law := PySem.W.mg_of X G a_law,
    C_PollError := _, k_PollError := PySem.W.mg_of X G aC_PollError,
    ox_PollError := ox_PollError, ex_PollError := exK_ve ox_PollError ai_PollError ti_PollError,
    xf_PollError := ⟨gt_PollError, gg_PollError, eC_PollError, hC_PollError⟩,
    nf_PollError_why := nf_PollError_why,
    rd_PollError := rd_PollError, ga_PollError := ga_PollError, fc_PollError_init := fc_PollError_init,
    C_BadBallot := _, k_BadBallot := PySem.W.mg_of X G aC_BadBallot,
    ox_BadBallot := ox_BadBallot, ex_BadBallot := exK_ve ox_BadBallot ai_BadBallot ti_BadBallot,
    xf_BadBallot := ⟨gt_BadBallot, gg_BadBallot, eC_BadBallot, hC_BadBallot⟩,
    nf_BadBallot_why := nf_BadBallot_why,
    ic_BadBallot := ⟨gt_BadBallot, gg_BadBallot, eC_BadBallot, hC_BadBallot, ha_BadBallot, hn_BadBallot, ht_BadBallot, ob_BadBallot⟩,
    C_BadClaim := _, k_BadClaim := PySem.W.mg_of X G aC_BadClaim,
    ox_BadClaim := ox_BadClaim, ex_BadClaim := exK_ve ox_BadClaim ai_BadClaim ti_BadClaim,
    xf_BadClaim := ⟨gt_BadClaim, gg_BadClaim, eC_BadClaim, hC_BadClaim⟩,
    nf_BadClaim_why := nf_BadClaim_why,
    C_BadMargins := _, k_BadMargins := PySem.W.mg_of X G aC_BadMargins,
    ox_BadMargins := ox_BadMargins, ex_BadMargins := exK_ve ox_BadMargins ai_BadMargins ti_BadMargins,
    xf_BadMargins := ⟨gt_BadMargins, gg_BadMargins, eC_BadMargins, hC_BadMargins⟩,
    nf_BadMargins_why := nf_BadMargins_why,
    C_BadOrder := _, k_BadOrder := PySem.W.mg_of X G aC_BadOrder,
    ox_BadOrder := ox_BadOrder, ex_BadOrder := exK_ve ox_BadOrder ai_BadOrder ti_BadOrder,
    xf_BadOrder := ⟨gt_BadOrder, gg_BadOrder, eC_BadOrder, hC_BadOrder⟩,
    nf_BadOrder_why := nf_BadOrder_why,
    C_BadPoll := _, k_BadPoll := PySem.W.mg_of X G aC_BadPoll,
    ox_BadPoll := ox_BadPoll, ex_BadPoll := exK_ve ox_BadPoll ai_BadPoll ti_BadPoll,
    xf_BadPoll := ⟨gt_BadPoll, gg_BadPoll, eC_BadPoll, hC_BadPoll⟩,
    nf_BadPoll_why := nf_BadPoll_why,
    C_BadRule := _, k_BadRule := PySem.W.mg_of X G aC_BadRule,
    ox_BadRule := ox_BadRule, ex_BadRule := exK_ve ox_BadRule ai_BadRule ti_BadRule,
    xf_BadRule := ⟨gt_BadRule, gg_BadRule, eC_BadRule, hC_BadRule⟩,
    nf_BadRule_why := nf_BadRule_why,
    C_BadSums := _, k_BadSums := PySem.W.mg_of X G aC_BadSums,
    ox_BadSums := ox_BadSums, ex_BadSums := exK_ve ox_BadSums ai_BadSums ti_BadSums,
    xf_BadSums := ⟨gt_BadSums, gg_BadSums, eC_BadSums, hC_BadSums⟩,
    nf_BadSums_why := nf_BadSums_why,
    te_BadBallot_PollError := PySem.W.exm_ref eC_PollError hC_PollError tC_PollError sb_BadBallot_PollError,
    kt_BadBallot_BadBallot := kt_BadBallot_BadBallot,
    kt_BadBallot_BadClaim := kt_BadBallot_BadClaim,
    kt_BadBallot_BadMargins := kt_BadBallot_BadMargins,
    kt_BadBallot_BadOrder := kt_BadBallot_BadOrder,
    kt_BadBallot_BadPoll := kt_BadBallot_BadPoll,
    kt_BadBallot_BadRule := kt_BadBallot_BadRule,
    kt_BadBallot_BadSums := kt_BadBallot_BadSums,
    vV := vV,
    z_ValueError := PySem.W.mg_none_of X G z_ValueError,
    z_isinstance := PySem.W.mg_none_of X G z_isinstance,
    z_bool := PySem.W.mg_none_of X G z_bool,
    z_int := PySem.W.mg_none_of X G z_int,
    z_len := PySem.W.mg_none_of X G z_len,
    z_tuple := PySem.W.mg_none_of X G z_tuple,
    z_str := PySem.W.mg_none_of X G z_str,
    z_all := PySem.W.mg_none_of X G z_all,
    z_range := PySem.W.mg_none_of X G z_range,
    z_list := PySem.W.mg_none_of X G z_list,
    z_enumerate := PySem.W.mg_none_of X G z_enumerate,
    z_repr := PySem.W.mg_none_of X G z_repr,
    z_set := PySem.W.mg_none_of X G z_set,
    t_GREATEST_MARK := t_GREATEST_MARK, c_GREATEST_MARK := PySem.W.mg_of X G cc_GREATEST_MARK }
  exact ⟨PySem.W.fnOf "law" "law" (defArgs s_law) (defBody s_law) (defScope s_law) .none kV_law dc_law pm_law an_law cd_law ct_law, fun s v => .of_eq rfl, fun base _ _ => ok_law T⟩
end Own
open PySem PySem.W PyProof.Rows
set_option maxHeartbeats 0 in
theorem PySem.Challenge.cw_voicefold_k11_ballots_checked_holds : PySem.Challenge.rw_voicefold_k11_ballots_checked.Holds := by
  w_on; o_law; k_head; (case hw => w_witness2)
  k_fill
  refine Own.top_walk (l := PySem.Challenge.rw_voicefold_k11_ballots_checked) (n := 63) (x := "_law_script") (sp := Own.sp_law) rfl (by decide) rfl (fun w h Y => PySem.W.kIn_of Y) ?F (fun _ _ a ns hl hS => ⟨a, ns, rfl, hS, hl, fun _ => rfl⟩)
  case F =>
    intro w mg fa h KX G hmg
    refine' Own.all_mk KX G hmg ?lt_PollError_init ?l_PollError_init ?c_PollError_init ?k_PollError_init ?a_is_whole ?l_is_whole ?c_is_whole ?k_is_whole ?a_is_tuple_of ?l_is_tuple_of ?c_is_tuple_of ?k_is_tuple_of ?a_is_option ?l_is_option ?c_is_option ?k_is_option ?a_are_unlike_options ?l_are_unlike_options ?c_are_unlike_options ?k_are_unlike_options ?a_is_mark ?l_is_mark ?c_is_mark ?k_is_mark ?a_are_tiers ?l_are_tiers ?c_are_tiers ?k_are_tiers ?a_are_marks ?l_are_marks ?c_are_marks ?k_are_marks ?a_is_ballot ?l_is_ballot ?c_is_ballot ?k_is_ballot ?a_check_ballot ?l_check_ballot ?c_check_ballot ?k_check_ballot ?a_law_cell_at ?l_law_cell_at ?c_law_cell_at ?k_law_cell_at ?a_law_well ?l_law_well ?c_law_well ?k_law_well ?a_law_draw ?l_law_draw ?c_law_draw ?k_law_draw ?a_law_one ?l_law_one ?c_law_one ?k_law_one ?a_law_options ?l_law_options ?c_law_options ?k_law_options ?a_law_shuffled ?l_law_shuffled ?c_law_shuffled ?k_law_shuffled ?a_law_tiers_drawn ?l_law_tiers_drawn ?c_law_tiers_drawn ?k_law_tiers_drawn ?a_law_ballot ?l_law_ballot ?c_law_ballot ?k_law_ballot ?a_law_odd ?l_law_odd ?c_law_odd ?k_law_odd ?a_law_bent ?l_law_bent ?c_law_bent ?k_law_bent ?a_law_are_names ?l_law_are_names ?c_law_are_names ?k_law_are_names ?a_law_is_order ?l_law_is_order ?c_law_is_order ?k_law_is_order ?a_law_are_marks ?l_law_are_marks ?c_law_are_marks ?k_law_are_marks ?a_law_is_ballot ?l_law_is_ballot ?c_law_is_ballot ?k_law_is_ballot ?a_law_told ?l_law_told ?c_law_told ?k_law_told ?a_law ?l_law ?c_law ?k_law ?aC_PollError ?xL_PollError ?sa_PollError ?gt_PollError ?gg_PollError ?ai_PollError ?ti_PollError ?kC_PollError ?eC_PollError ?tC_PollError ?hC_PollError ?nf_PollError_why ?rd_PollError ?ga_PollError ?fc_PollError_init ?aC_BadBallot ?xL_BadBallot ?sa_BadBallot ?gt_BadBallot ?gg_BadBallot ?ai_BadBallot ?ti_BadBallot ?kC_BadBallot ?eC_BadBallot ?tC_BadBallot ?hC_BadBallot ?nf_BadBallot_why ?ha_BadBallot ?hn_BadBallot ?ht_BadBallot ?ob_BadBallot ?aC_BadClaim ?xL_BadClaim ?sa_BadClaim ?gt_BadClaim ?gg_BadClaim ?ai_BadClaim ?ti_BadClaim ?kC_BadClaim ?eC_BadClaim ?tC_BadClaim ?hC_BadClaim ?nf_BadClaim_why ?aC_BadMargins ?xL_BadMargins ?sa_BadMargins ?gt_BadMargins ?gg_BadMargins ?ai_BadMargins ?ti_BadMargins ?kC_BadMargins ?eC_BadMargins ?tC_BadMargins ?hC_BadMargins ?nf_BadMargins_why ?aC_BadOrder ?xL_BadOrder ?sa_BadOrder ?gt_BadOrder ?gg_BadOrder ?ai_BadOrder ?ti_BadOrder ?kC_BadOrder ?eC_BadOrder ?tC_BadOrder ?hC_BadOrder ?nf_BadOrder_why ?aC_BadPoll ?xL_BadPoll ?sa_BadPoll ?gt_BadPoll ?gg_BadPoll ?ai_BadPoll ?ti_BadPoll ?kC_BadPoll ?eC_BadPoll ?tC_BadPoll ?hC_BadPoll ?nf_BadPoll_why ?aC_BadRule ?xL_BadRule ?sa_BadRule ?gt_BadRule ?gg_BadRule ?ai_BadRule ?ti_BadRule ?kC_BadRule ?eC_BadRule ?tC_BadRule ?hC_BadRule ?nf_BadRule_why ?aC_BadSums ?xL_BadSums ?sa_BadSums ?gt_BadSums ?gg_BadSums ?ai_BadSums ?ti_BadSums ?kC_BadSums ?eC_BadSums ?tC_BadSums ?hC_BadSums ?nf_BadSums_why ?sb_BadBallot_PollError ?kt_BadBallot_BadBallot ?kt_BadBallot_BadClaim ?kt_BadBallot_BadMargins ?kt_BadBallot_BadOrder ?kt_BadBallot_BadPoll ?kt_BadBallot_BadRule ?kt_BadBallot_BadSums ?vV ?z_ValueError ?z_isinstance ?z_bool ?z_int ?z_len ?z_tuple ?z_str ?z_all ?z_range ?z_list ?z_enumerate ?z_repr ?z_set ?cc_GREATEST_MARK
    (case a_is_whole => k_is); (case a_is_tuple_of => k_is); (case a_is_option => k_is); (case a_are_unlike_options => k_is); (case a_is_mark => k_is); (case a_are_tiers => k_is); (case a_are_marks => k_is); (case a_is_ballot => k_is); (case a_check_ballot => k_is); (case a_law_cell_at => k_is); (case a_law_well => k_is); (case a_law_draw => k_is); (case a_law_one => k_is); (case a_law_options => k_is); (case a_law_shuffled => k_is); (case a_law_tiers_drawn => k_is); (case a_law_ballot => k_is); (case a_law_odd => k_is); (case a_law_bent => k_is); (case a_law_are_names => k_is); (case a_law_is_order => k_is); (case a_law_are_marks => k_is); (case a_law_is_ballot => k_is); (case a_law_told => k_is); (case a_law => k_is); (case aC_PollError => k_is); (case aC_BadBallot => k_is); (case aC_BadClaim => k_is); (case aC_BadMargins => k_is); (case aC_BadOrder => k_is); (case aC_BadPoll => k_is); (case aC_BadRule => k_is); (case aC_BadSums => k_is); (case ai_PollError => k_is); (case ai_BadBallot => k_is); (case ai_BadClaim => k_is); (case ai_BadMargins => k_is); (case ai_BadOrder => k_is); (case ai_BadPoll => k_is); (case ai_BadRule => k_is); (case ai_BadSums => k_is); (case l_PollError_init => k_is); (case l_is_whole => k_is); (case l_is_tuple_of => k_is); (case l_is_option => k_is); (case l_are_unlike_options => k_is); (case l_is_mark => k_is); (case l_are_tiers => k_is); (case l_are_marks => k_is); (case l_is_ballot => k_is); (case l_check_ballot => k_is); (case l_law_cell_at => k_is); (case l_law_well => k_is); (case l_law_draw => k_is); (case l_law_one => k_is); (case l_law_options => k_is); (case l_law_shuffled => k_is); (case l_law_tiers_drawn => k_is); (case l_law_ballot => k_is); (case l_law_odd => k_is); (case l_law_bent => k_is); (case l_law_are_names => k_is); (case l_law_is_order => k_is); (case l_law_are_marks => k_is); (case l_law_is_ballot => k_is); (case l_law_told => k_is); (case l_law => k_is); (case xL_PollError => k_is); (case xL_BadBallot => k_is); (case xL_BadClaim => k_is); (case xL_BadMargins => k_is); (case xL_BadOrder => k_is); (case xL_BadPoll => k_is); (case xL_BadRule => k_is); (case xL_BadSums => k_is); (case lt_PollError_init => k_is); (case c_PollError_init => k_is); (case k_PollError_init => k_is); (case c_is_whole => k_is); (case k_is_whole => k_is); (case c_is_tuple_of => k_is); (case k_is_tuple_of => k_is); (case c_is_option => k_is); (case k_is_option => k_is); (case c_are_unlike_options => k_is); (case k_are_unlike_options => k_is); (case c_is_mark => k_is); (case k_is_mark => k_is); (case c_are_tiers => k_is); (case k_are_tiers => k_is); (case c_are_marks => k_is); (case k_are_marks => k_is); (case c_is_ballot => k_is); (case k_is_ballot => k_is); (case c_check_ballot => k_is); (case k_check_ballot => k_is); (case c_law_cell_at => k_is); (case k_law_cell_at => k_is); (case c_law_well => k_is); (case k_law_well => k_is); (case c_law_draw => k_is); (case k_law_draw => k_is); (case c_law_one => k_is); (case k_law_one => k_is); (case c_law_options => k_is); (case k_law_options => k_is); (case c_law_shuffled => k_is); (case k_law_shuffled => k_is); (case c_law_tiers_drawn => k_is); (case k_law_tiers_drawn => k_is); (case c_law_ballot => k_is); (case k_law_ballot => k_is); (case c_law_odd => k_is); (case k_law_odd => k_is); (case c_law_bent => k_is); (case k_law_bent => k_is); (case c_law_are_names => k_is); (case k_law_are_names => k_is); (case c_law_is_order => k_is); (case k_law_is_order => k_is); (case c_law_are_marks => k_is); (case k_law_are_marks => k_is); (case c_law_is_ballot => k_is); (case k_law_is_ballot => k_is); (case c_law_told => k_is); (case k_law_told => k_is); (case c_law => k_is); (case k_law => k_is); (case sa_PollError => k_is); (case gt_PollError => k_is); (case gg_PollError => k_is); (case ti_PollError => k_is); (case kC_PollError => k_is); (case eC_PollError => k_is); (case tC_PollError => k_is); (case hC_PollError => k_is); (case nf_PollError_why => first | k_is | rfl | decide +kernel); (case rd_PollError => k_is); (case ga_PollError => k_is); (case fc_PollError_init => first | k_is | rfl | decide +kernel); (case sa_BadBallot => k_is); (case gt_BadBallot => k_is); (case gg_BadBallot => k_is); (case ti_BadBallot => k_is); (case kC_BadBallot => k_is); (case eC_BadBallot => k_is); (case tC_BadBallot => k_is); (case hC_BadBallot => k_is); (case nf_BadBallot_why => first | k_is | rfl | decide +kernel); (case ha_BadBallot => k_is); (case hn_BadBallot => k_is); (case ht_BadBallot => first | k_is | rfl | decide +kernel); (case ob_BadBallot => k_is); (case sa_BadClaim => k_is); (case gt_BadClaim => k_is); (case gg_BadClaim => k_is); (case ti_BadClaim => k_is); (case kC_BadClaim => k_is); (case eC_BadClaim => k_is); (case tC_BadClaim => k_is); (case hC_BadClaim => k_is); (case nf_BadClaim_why => first | k_is | rfl | decide +kernel); (case sa_BadMargins => k_is); (case gt_BadMargins => k_is); (case gg_BadMargins => k_is); (case ti_BadMargins => k_is); (case kC_BadMargins => k_is); (case eC_BadMargins => k_is); (case tC_BadMargins => k_is); (case hC_BadMargins => k_is); (case nf_BadMargins_why => first | k_is | rfl | decide +kernel); (case sa_BadOrder => k_is); (case gt_BadOrder => k_is); (case gg_BadOrder => k_is); (case ti_BadOrder => k_is); (case kC_BadOrder => k_is); (case eC_BadOrder => k_is); (case tC_BadOrder => k_is); (case hC_BadOrder => k_is); (case nf_BadOrder_why => first | k_is | rfl | decide +kernel); (case sa_BadPoll => k_is); (case gt_BadPoll => k_is); (case gg_BadPoll => k_is); (case ti_BadPoll => k_is); (case kC_BadPoll => k_is); (case eC_BadPoll => k_is); (case tC_BadPoll => k_is); (case hC_BadPoll => k_is); (case nf_BadPoll_why => first | k_is | rfl | decide +kernel); (case sa_BadRule => k_is); (case gt_BadRule => k_is); (case gg_BadRule => k_is); (case ti_BadRule => k_is); (case kC_BadRule => k_is); (case eC_BadRule => k_is); (case tC_BadRule => k_is); (case hC_BadRule => k_is); (case nf_BadRule_why => first | k_is | rfl | decide +kernel); (case sa_BadSums => k_is); (case gt_BadSums => k_is); (case gg_BadSums => k_is); (case ti_BadSums => k_is); (case kC_BadSums => k_is); (case eC_BadSums => k_is); (case tC_BadSums => k_is); (case hC_BadSums => k_is); (case nf_BadSums_why => first | k_is | rfl | decide +kernel); (case sb_BadBallot_PollError => first | k_is | rfl | decide +kernel); (case kt_BadBallot_BadBallot => first | k_is | rfl | decide +kernel); (case kt_BadBallot_BadClaim => first | k_is | rfl | decide +kernel); (case kt_BadBallot_BadMargins => first | k_is | rfl | decide +kernel); (case kt_BadBallot_BadOrder => first | k_is | rfl | decide +kernel); (case kt_BadBallot_BadPoll => first | k_is | rfl | decide +kernel); (case kt_BadBallot_BadRule => first | k_is | rfl | decide +kernel); (case kt_BadBallot_BadSums => first | k_is | rfl | decide +kernel); (case vV => first | k_is | rfl | decide +kernel); (case z_ValueError => k_is); (case z_isinstance => k_is); (case z_bool => k_is); (case z_int => k_is); (case z_len => k_is); (case z_tuple => k_is); (case z_str => k_is); (case z_all => k_is); (case z_range => k_is); (case z_list => k_is); (case z_enumerate => k_is); (case z_repr => k_is); (case z_set => k_is); (case cc_GREATEST_MARK => k_is)
