import PyProof.Rows.All
import Wide.All
import OpenK.AllK
import Wide.FinOn
import HandS.ForMost
import HandS.Wide
import HandS.IsInst
import HandS.Style
import HandS.Walk
import HandS.LawCells
import HandS.TupAny
import HandS.Deep
import HandS.Strs
import HandS.DictComp
import HandS.ListItems
import HandS.DictTup
import HandS.Lambda
import HandS.EndBits
import HandS.EndTab
import HandS.Zip
import HandS.Finally
import HandS.Gcd
import HandS.ForExc
import HandS.Defaults
import HandS.ExcInit
import HandS.CallSlots
import HandS.ExcIs
import HandS.ExcField
import HandS.MakeKw
import HandS.FStr
import HandS.RaiseMore
import HandS.SetFor
import HandS.Base
import HandS.Dict
import HandS.TupMul
import PyProof.ReprLen
import KE.KExcIs
import KE.KCallOwn
import KE.KDictList
import PyProof.NeKinds
import KE.KTupSum
import PySem.Challenge.RW_voicefold_k22_weights_and_shares
set_option Elab.async false
set_option linter.all false
set_option maxRecDepth 100000
set_option maxHeartbeats 4000000
/-! Own rules: exceptions of own classes made with keywords, in any place; calls with keywords that may raise. -/
namespace PySem
namespace OwnK
open PySem.W PySem.Calls PyProof.Rows PySem.HandSPX
section
variable {M : Model} {A : Around} {E : Value → Shared → Prop} {h : Heap} {g : Array GenState} {d : Drawn} {t : Nat} {os : OsState}
variable {nm q : Str} {C N : Addr} {bs bm bmB : List Value} {hd : Bool} {sn : List Str} {sub : List Value} {ab : Bool} {col : Option Bool} {dd : Option Addr} {k0 k1 k2 k3 k5 : Option Value} {B newId initId : String}
/-- the look ahead of the base's __new__, keywords or none -/
theorem newLook (F : ExcBaseFacts B newId initId bmB) (hT : bm.contains (.type B) = true ∧ bm.contains (.type "AttributeError") = false ∧ bm.contains (.type "NameError") = false) {rest : List Value} {kw : List (Str × Value)} {Q : Unit → Shared → Prop}
    (hC : h.get? C = some (excClassObj nm q C N bs bm hd sn sub ab col dd k0 k1 k2 k3 k5 newId)) (z : Q () ⟨h, g, d, t, os⟩) : wpAny M A (checkBuiltinCall newId ⟨.ref C :: rest, kw⟩) Q E ⟨h, g, d, t, os⟩ := by
  have hB : (Value.ref C :: bm).contains (.type B) = true := by
    rw [List.contains_cons, hT.1]
    exact Bool.or_true _
  have st := F.noStar
  simp only [checkBuiltinCall, F.newKind, F.newSplit, F.newRow]
  repeat (first
    | refine wpAny_loadPart_at hC ?_
    | (refine wpAny_isSubtype_exc hC ?_; rw [hB])
    | refine wpAny_staticBase_exc hC ?_
    | refine wpAny_madeBy_exc hC ?_
    | simp only [bne_self_eq_false, Bool.false_eq_true, if_false]
    | wp_step)
  exact z
end
section
variable {prog : Program} {w : World} {A : Around} {E : Value → Shared → Prop} {R : Result → Shared → Prop} {h : Heap} {g : Array GenState} {d : Drawn} {t : Nat} {os : OsState}
variable {nm q : Str} {C N : Addr} {bs bm bmB : List Value} {hd : Bool} {sn : List Str} {sub : List Value} {ab : Bool} {col : Option Bool} {dd : Option Addr} {k0 k1 k2 k3 k5 : Option Value} {B newId initId : String}
theorem newRun (F : ExcBaseFacts B newId initId bmB) (hT : bm.contains (.type B) = true ∧ bm.contains (.type "AttributeError") = false ∧ bm.contains (.type "NameError") = false) {rest : List Value} {kw : List (Str × Value)}
    (hC : h.get? C = some (excClassObj nm q C N bs bm hd sn sub ab col dd k0 k1 k2 k3 k5 newId))
    (z : R (.ok (.ret (.ref (h.objs.size + 1)))) ⟨(h.push (kdv_tup rest)).push (excO C h.objs.size), g, d, t, os⟩) (hr : rest.length ≤ sizeLine) :
    codeAny (model prog w) A (.builtin newId ⟨.ref C :: rest, kw⟩) R ⟨h, g, d, t, os⟩ := by
  have en := F.ends
  have hB : (Value.ref C :: bm).contains (.type B) = true := by
    rw [List.contains_cons, hT.1]
    exact Bool.or_true _
  have hA : (Value.ref C :: bm).contains (.type "AttributeError") = false := by
    rw [List.contains_cons, hT.2.1] <;> rfl
  have hN : (Value.ref C :: bm).contains (.type "NameError") = false := by
    rw [List.contains_cons, hT.2.2] <;> rfl
  refine codeAny_builtinAt F.entry ?_
  unfold Builtin.«BaseException.__new__»
  refine wpAt_bind ?_
  show wpAt _ _ _ (stack >>= _) _ _ _
  refine wpAt_bind (wpAt_stack fun p below => wpAt_of_wpAny ?_)
  wp_walk
  refine wpAt_of_wpAny ?_
  rw [F.owner]
  repeat (first
    | with_reducible refine wpAny_madeHere_exc F.canon hC ?_
    | with_reducible refine wpAny_loadPart_at hC ?_
    | (with_reducible refine wpAny_isSubtype_exc hC ?_; first | rw [hB] | rw [hA] | rw [hN])
    | wp_step)
  show R _ _
  rw [Heap.size_push]
  exact z
/-- the base's type.__call__, then the own __init__ -/
theorem typeCallRun (F : ExcBaseFacts B newId initId bmB) (hT : bm.contains (.type B) = true ∧ bm.contains (.type "AttributeError") = false ∧ bm.contains (.type "NameError") = false) {rest : List Value} {kw : List (Str × Value)} {fI : Addr} {Q : Fin → Shared → Prop}
    (hC : h.get? C = some (excClassObj nm q C N bs bm hd sn sub ab col dd k0 k1 k2 k3 k5 newId))
    (hi : Looks (model prog w) h (typeLookup (.ref C) "__init__") (some (.ref fI))) (hb : ∀ self, Looks (model prog w) h (bindSpecial (.ref fI) self) (.ref fI, [self])) (hr : rest.length ≤ sizeLine)
    (z : codeAny (model prog w) A (.call (.ref fI) ⟨.ref (h.objs.size + 1) :: rest, kw⟩)
      (fun r s' => match r with | .ok (.ret v) => v = .none ∧ Q (.done (.ret (.ref (h.objs.size + 1)))) s' | .ok _ => False | .error e => E e s')
      ⟨(h.push (kdv_tup rest)).push (excO C h.objs.size), g, d, t, os⟩) :
    wpAny (model prog w) A (Builtin.«type.__call__» ⟨.ref C :: rest, kw⟩) Q E ⟨h, g, d, t, os⟩ := by
  repeat (first
    | with_reducible refine wpAny_loadPart_at hC ?_
    | with_reducible refine wpAny_madeBy_exc hC ?_
    | wp_step)
  refine codeAny_call_builtin_code (Code.quiet_builtin _ F.quiet) (newLook F hT hC ?_)
  refine newRun F hT hC ?_ hr
  show wpAny _ _ _ _ _ _
  have kk : ∀ b o, h.get? b = some o → ((h.push (kdv_tup rest)).push (excO C h.objs.size)).get? b = some o := fun b o e => Heap.get?_push_of_some _ (Heap.get?_push_of_some _ e)
  have hC1 := kk _ _ hC
  have hx : ((h.push (kdv_tup rest)).push (excO C h.objs.size)).get? (h.objs.size + 1) = some (excO C h.objs.size) := by heap_get
  have hs : (Value.ref C :: bm).contains (.ref C) = true := by simp
  have i1 := hi.keeps kk
  have b1 := (hb (.ref (h.objs.size + 1))).keeps kk
  unfold isInstance
  repeat (first
    | with_reducible refine wpAny_loadPart_at hx ?_
    | (with_reducible refine wpAny_isSubtype_exc hC1 ?_; rw [hs])
    | wp_step)
  show wpAny _ _ (typeLookup (.ref C) _) _ _ _
  refine i1.at (wpAny_holding (wpAny_bind (b1.at ?_)))
  refine wpAny_bind (wpAny_call (codeAny_mono z fun r s' y => ?_))
  rcases r with e | fl
  · exact y
  cases fl with
  | ret v =>
    obtain ⟨rfl, y⟩ := y
    first
    | exact wpAny_pure (wpAny_pure y)
    | (wp_walk; exact y)
  | next => exact y.elim
  | brk => exact y.elim
  | cont => exact y.elim
theorem excCall (F : ExcBaseFacts B newId initId bmB) (hT : bm.contains (.type B) = true ∧ bm.contains (.type "AttributeError") = false ∧ bm.contains (.type "NameError") = false) {rest : List Value} {kw : List (Str × Value)} {fI : Addr}
    (hC : h.get? C = some (excClassObj nm q C N bs bm hd sn sub ab col dd k0 k1 k2 k3 k5 newId))
    (hi : Looks (model prog w) h (typeLookup (.ref C) "__init__") (some (.ref fI))) (hb : ∀ self, Looks (model prog w) h (bindSpecial (.ref fI) self) (.ref fI, [self])) (hr : rest.length ≤ sizeLine)
    (z : codeAny (model prog w) (A.under (.builtin "type.__call__" ⟨.ref C :: rest, kw⟩)) (.call (.ref fI) ⟨.ref (h.objs.size + 1) :: rest, kw⟩) (InitBack (h.objs.size + 1) R)
      ⟨(h.push (kdv_tup rest)).push (excO C h.objs.size), g, d, t, os⟩) :
    codeAny (model prog w) A (.call (.ref C) ⟨rest, kw⟩) R ⟨h, g, d, t, os⟩ := by
  have f1 := tc_lookup
  have f2 := tc_bind (.ref C)
  have ty : (⟨h, g, d, t, os⟩ : Shared).TypeIs (.ref C) "type" := ⟨_, hC, rfl⟩
  refine codeAny_of_tree ?_
  show wpAny _ _ (callAny (.ref C) _) _ _ _
  repeat (any_goals (first
    | assumption
    | with_reducible refine wpAny_loadPart_at hC ?_
    | wp_step))
  refine ⟨rfl, ?_⟩
  have look : ∀ {Q : Unit → Shared → Prop} {E : Value → Shared → Prop} {A : Around}, Q () ⟨h, g, d, t, os⟩ → wpAny (model prog w) A (checkBuiltinCall "type.__call__" ⟨.ref C :: rest, kw⟩) Q E ⟨h, g, d, t, os⟩ := by
    intro Q E A hq
    have f3 := tc_sub
    simp only [checkBuiltinCall, tc_kind, tc_split]
    repeat (any_goals (first
      | assumption
      | with_reducible refine wpAny_loadPart_at hC ?_
      | with_reducible refine wpAny_onRaise ?_
      | with_reducible refine wpAny_map ?_
      | wp_step))
  refine codeAny_call_builtin_at (Code.quiet_builtin _ (by decide +kernel)) entry_typeCall (look (typeCallRun F hT hC hi hb hr ?_))
  refine codeAny_mono z fun r s' y => ?_
  rcases r with e | (v | _ | _ | _) <;> exact y
end
end OwnK
end PySem

namespace Own
open PySem PySem.Spec PyProof.Rows L2
/-! ### calls of any form: positional values and keywords bound by KBn; what is raised is wished for at the caller's slots -/
theorem at0 {X : Cx} (σ : L2.St) : PassesAt CX0 X σ E0 := fun _ _ _ _ _ _ z => z.elim
theorem atE {X : Cx} {W : WX} (tk : Takes X W) (σ : L2.St) : PassesAt (L2.CX X.prog X.w) X σ (WE W σ) := passAt tk σ
theorem atN {X : Cx} (σ : L2.St) : PassesAt (L2.CX X.prog X.w) X σ E0 := fun _ _ _ _ _ _ z => by
  obtain ⟨_, _, _, _, _, _, _, _, _, _, _, _, y⟩ := z
  exact y.elim
section
variable {X : Cx} {CX : CXT} {k n : Nat} {f C : Addr} {fd : FuncData} {ps ks : List Str} {sp : Sp} {E : L2.St → XK} {E1 : XK} {x m : Str} {p pos apos : Pos} {e o : Expr} {es : List Expr} {kws : List Keyword} {t tk : TA} {to : TE}
variable {g : List Value → List Value → List Value} {gV : List V → List V → List V} {pins : List (Addr × Obj)} {σ : L2.St} {H : Hp} {s : Shared} {Q : VK} {us ws : List Value} {vs zs : List V}
theorem runF (F : FnOk X.prog X.w X.K X.mg X.base CX k f fd ps sp) (hr : Room k X.A) (hb : KBn X.K fd ps n ks g gV) (hx : PassesAt CX X σ E1) (I : Inv X pins σ H s) (r : Vals vs us) (rz : Vals zs ws) (l1 : vs.length = n) (l2 : zs.length = ks.length)
    (h : sp (gV vs zs) H Q E1) : wpAny (model X.prog X.w) X.A (call (.ref f) us (ks.zip ws)) (EP X pins σ Q) X.xe s := by
  have b := hb.to s us ws I.kIn (r.length.symm.trans l1) (rz.length.symm.trans l2)
  refine wpAny_call (codeAny_mono (F.run X.A X.stack s H _ (g us ws) (gV vs zs) Q E1 hr I.env0 b (hb.rel r rz) h) fun r s' y => ?_)
  cases r with
  | error e => exact hx pins H s e s' I y
  | ok fl =>
    cases fl with
    | ret u => exact I.after y
    | next => exact y.elim
    | brk => exact y.elim
    | cont => exact y.elim
theorem runM (M : Mk X.K C f) (F : FnOk X.prog X.w X.K X.mg X.base CX k f fd ps sp) (hr : Room (k + 1) X.A) (hb : KBn X.K fd ps (n + 1) ks g gV) (hx : PassesAt CX X σ E1) (I : Inv X pins σ H s) (r : Vals vs us) (rz : Vals zs ws) (l1 : vs.length = n) (l2 : zs.length = ks.length)
    (h : ∀ a dx, H a = none → H dx = none → dx ≠ a → sp (gV (.ref a :: vs) zs) (upd (upd H dx (.own a)) a (.ins C dx [])) (fun v H2 => v = .non ∧ Q (.ref a) H2) E1) :
    wpAny (model X.prog X.w) X.A (call (.ref C) us (ks.zip ws)) (EP X pins σ Q) X.xe s := by
  have hq := h (s.heap.objs.size + 1) s.heap.objs.size (I.hok.fresh (Nat.le_succ _)) (I.hok.fresh (Nat.le_refl _)) (Nat.ne_of_lt (Nat.lt_succ_self _))
  have J := Inv.made (C := C) I
  have r1 : Vals (V.ref (s.heap.objs.size + 1) :: vs) (Value.ref (s.heap.objs.size + 1) :: us) := .cons rfl r
  have n1 : (Value.ref (s.heap.objs.size + 1) :: us).length = n + 1 := r1.length.symm.trans (congrArg Nat.succ l1)
  have b := hb.to _ (Value.ref (s.heap.objs.size + 1) :: us) ws J.kIn n1 (rz.length.symm.trans l2)
  refine wpAny_call (make_map (f := f) I.kIn M.makes M.init (beq_iff_eq.mp M.fn) (codeAny_mono (F.run _ X.stack _ _ _ _ _ _ E1 (hr.make C us (ks.zip ws)) (J.env0.make C us (ks.zip ws)) b (hb.rel r1 rz) hq) fun r s' y => ?_))
  cases r with
  | error e => exact hx pins _ _ e s' J y
  | ok fl =>
    cases fl with
    | ret u =>
      obtain ⟨v, H', I3, rv, ev, q3⟩ := J.after y
      subst ev
      exact ⟨rv, ⟨V.ref (s.heap.objs.size + 1), H', I3, rfl, q3⟩⟩
    | next => exact y.elim
    | brk => exact y.elim
    | cont => exact y.elim
/-- f(e, .., k = v, ..) -/
def tFn (n m : Nat) (sp : Sp) (gV : List V → List V → List V) (E : L2.St → XK) (t tk : TA) : TE := fun σ H Q => t σ H fun vs H1 => tk σ H1 fun zs H2 => vs.length = n ∧ zs.length = m ∧ sp (gV vs zs) H2 Q (E σ)
theorem pf_pos (F : FnOk X.prog X.w X.K X.mg X.base CX k f fd ps sp) (hr : Room k X.A) (hg : Gl X x) (hm : X.mg x = some (.ref f)) (hk : PySem.W.keepIn X.K (.ref f) = true) (hb : KBn X.K fd ps n [] g gV) (hx : ∀ σ, PassesAt CX X σ (E σ)) (ha : PA X (e :: es) t)
    (hdb : (x == ("__debug__" : Str)) = false := by decide) (he : starEach (e :: es) X.env = (false, eval e X.env) :: starEach es X.env := by rfl) (hpl : (backTo pos (starEach es X.env)).any (·.1) = false := by rfl) :
    PE X (.Call (.Name x p) (e :: es) [] pos) (tFn n 0 sp gV E t tNil) := by
  refine ⟨fun pins s σ H Q I h => wpAny_Call_Name_kw (ld_glob I hg hm ?_ hdb)⟩
  exact PySem.W.callWith_K (h₀ := X.base) I.ok.mod.kin hk (thn (ha.run pos pins s σ H _ I h) fun us s1 ⟨vs, H1, I1, r, l1, l2, q⟩ => ⟨I1.kIn, runF (ks := []) F hr hb (hx σ) I1 r (.nil : Vals [] []) l1 rfl q⟩) he hpl
theorem pf_both (F : FnOk X.prog X.w X.K X.mg X.base CX k f fd ps sp) (hr : Room k X.A) (hg : Gl X x) (hm : X.mg x = some (.ref f)) (hk : PySem.W.keepIn X.K (.ref f) = true) (hb : KBn X.K fd ps n ks g gV) (hx : ∀ σ, PassesAt CX X σ (E σ)) (ha : PA X (e :: es) t) (hkw : PK X kws tk)
    (hall : (backToKw pos (keywordEach kws X.env)).all (·.1.isSome) = true := by rfl) (hks : (backToKw pos (keywordEach kws X.env)).filterMap (·.1) = ks := by rfl) (hdb : (x == ("__debug__" : Str)) = false := by decide)
    (he : starEach (e :: es) X.env = (false, eval e X.env) :: starEach es X.env := by rfl) (hpl : ((backTo pos (starEach (e :: es) X.env)).any (·.1) || (backToKw pos (keywordEach kws X.env)).any (·.1.isNone)) = false := by rfl) :
    PE X (.Call (.Name x p) (e :: es) kws pos) (tFn n ks.length sp gV E t tk) := by
  refine ⟨fun pins s σ H Q I h => wpAny_Call_Name_kw (ld_glob I hg hm ?_ hdb)⟩
  refine PySem.W.callWith_KW (h₀ := X.base) I.ok.mod.kin hk hall (thn (ha.run pos pins s σ H _ I h) fun us s1 ⟨vs, H1, I1, r, q⟩ => ?_) hpl he
  refine thn (hkw.run pos pins s1 σ H1 _ I1 q) fun ws s2 ⟨zs, H2, I2, rz, l1, l2, q2⟩ => ⟨I2.kIn, ?_⟩
  rw [hks]
  exact runF F hr hb (hx σ) I2 r rz l1 l2 q2
theorem pf_kw (F : FnOk X.prog X.w X.K X.mg X.base CX k f fd ps sp) (hr : Room k X.A) (hg : Gl X x) (hm : X.mg x = some (.ref f)) (hk : PySem.W.keepIn X.K (.ref f) = true) (hb : KBn X.K fd ps 0 ks g gV) (hx : ∀ σ, PassesAt CX X σ (E σ)) (hkw : PK X kws tk)
    (hall : (backToKw pos (keywordEach kws X.env)).all (·.1.isSome) = true := by rfl) (hks : (backToKw pos (keywordEach kws X.env)).filterMap (·.1) = ks := by rfl) (hdb : (x == ("__debug__" : Str)) = false := by decide)
    (hpl : ((backTo pos (starEach [] X.env)).any (·.1) || (backToKw pos (keywordEach kws X.env)).any (·.1.isNone)) = false := by rfl) :
    PE X (.Call (.Name x p) [] kws pos) (tFn 0 ks.length sp gV E tNil tk) := by
  refine ⟨fun pins s σ H Q I h => wpAny_Call_Name_kw (ld_glob I hg hm ?_ hdb)⟩
  refine PySem.W.callWith_KW0 (h₀ := X.base) I.ok.mod.kin hk hall ?_ hpl
  refine thn (hkw.run pos pins s σ H _ I h) fun ws s2 ⟨zs, H2, I2, rz, l1, l2, q2⟩ => ⟨I2.kIn, ?_⟩
  rw [hks]
  exact runF (us := []) (vs := []) F hr hb (hx σ) I2 .nil rz rfl l2 q2
/-- o.m(e, .., k = v, ..) -/
def tMt (C : Addr) (m : Str) (n j : Nat) (sp : Sp) (gV : List V → List V → List V) (E : L2.St → XK) (to : TE) (t tk : TA) : TE := fun σ H Q => to σ H fun x H0 => ∃ a dx fs, x = .ref a ∧ H0 a = some (.ins C dx fs) ∧ fs.lookup m = none ∧
  t σ H0 fun vs H1 => tk σ H1 fun zs H2 => vs.length = n ∧ zs.length = j ∧ sp (gV (.ref a :: vs) zs) H2 Q (E σ)
theorem pm_pos {pl : Sem Bool} (ho : PE X o to) (c : Cls X.K C) (hm : Meth X.K C m f) (F : FnOk X.prog X.w X.K X.mg X.base CX k f fd ps sp) (hr : Room k X.A) (hb : KBn X.K fd ps (n + 1) [] g gV) (hx : ∀ σ, PassesAt CX X σ (E σ)) (ha : PA X (e :: es) t)
    (hst : starEach (e :: es) X.env = (false, eval e X.env) :: starEach es X.env := by rfl) (hpl : (backTo pos (starEach es X.env)).any (·.1) = false := by rfl)
    (ht : eval (.Call (.Attribute o m apos) (e :: es) [] pos) X.env = (do
      let ov ← eval o X.env
      standAt apos.atName
      let (f, first) ← holding [ov] (getMethod ov m pl)
      callWith pos f first (backTo pos (starEach (e :: es) X.env)) (backToKw pos (keywordEach [] X.env))) := by rfl) :
    PE X (.Call (.Attribute o m apos) (e :: es) [] pos) (tMt C m n 0 sp gV E to t tNil) := by
  refine ⟨fun pins s σ H Q I h => ?_⟩
  refine PySem.W.methodCall_KW (pl := pl) (thn (ho.run pins s σ H _ I h) fun u s1 ⟨x, H1, I1, rx, a, dx, fs, ex, ea, l, q⟩ => ?_) ht
  subst ex
  obtain rfl : u = Value.ref a := rx
  refine getmeth_ok I1 ea c hm l ?_
  exact PySem.W.callWith_K (first := [.ref a]) (h₀ := X.base) I.ok.mod.kin hm.kp (thn (ha.run pos pins s1 σ H1 _ I1 q) fun us s2 ⟨vs, H2, I2, r, l1, l2, q2⟩ =>
    ⟨I2.kIn, runF (ks := []) (us := .ref a :: us) (vs := .ref a :: vs) F hr hb (hx σ) I2 (.cons rfl r) (.nil : Vals [] []) (congrArg Nat.succ l1) rfl q2⟩) hst hpl
theorem pm_kw {pl : Sem Bool} (ho : PE X o to) (c : Cls X.K C) (hm : Meth X.K C m f) (F : FnOk X.prog X.w X.K X.mg X.base CX k f fd ps sp) (hr : Room k X.A) (hb : KBn X.K fd ps 1 ks g gV) (hx : ∀ σ, PassesAt CX X σ (E σ)) (hkw : PK X kws tk)
    (hall : (backToKw pos (keywordEach kws X.env)).all (·.1.isSome) = true := by rfl) (hks : (backToKw pos (keywordEach kws X.env)).filterMap (·.1) = ks := by rfl)
    (hpl : ((backTo pos (starEach [] X.env)).any (·.1) || (backToKw pos (keywordEach kws X.env)).any (·.1.isNone)) = false := by rfl)
    (ht : eval (.Call (.Attribute o m apos) [] kws pos) X.env = (do
      let ov ← eval o X.env
      standAt apos.atName
      let (f, first) ← holding [ov] (getMethod ov m pl)
      callWith pos f first (backTo pos (starEach [] X.env)) (backToKw pos (keywordEach kws X.env))) := by rfl) :
    PE X (.Call (.Attribute o m apos) [] kws pos) (tMt C m 0 ks.length sp gV E to tNil tk) := by
  refine ⟨fun pins s σ H Q I h => ?_⟩
  refine PySem.W.methodCall_KW (pl := pl) (thn (ho.run pins s σ H _ I h) fun u s1 ⟨x, H1, I1, rx, a, dx, fs, ex, ea, l, q⟩ => ?_) ht
  subst ex
  obtain rfl : u = Value.ref a := rx
  refine getmeth_ok I1 ea c hm l ?_
  refine PySem.W.callWith_KW0 (first := [.ref a]) (h₀ := X.base) I.ok.mod.kin hm.kp hall ?_ hpl
  refine thn (hkw.run pos pins s1 σ H1 _ I1 q) fun ws s2 ⟨zs, H2, I2, rz, l1, l2, q2⟩ => ⟨I2.kIn, ?_⟩
  rw [hks]
  exact runF (us := [.ref a]) (vs := [.ref a]) F hr hb (hx σ) I2 (.cons rfl .nil) rz rfl l2 q2
/-- C(e, .., k = v, ..) -/
def tMk (C : Addr) (n m : Nat) (sp : Sp) (gV : List V → List V → List V) (E : L2.St → XK) (t tk : TA) : TE := fun σ H Q => t σ H fun vs H1 => tk σ H1 fun zs H2 => vs.length = n ∧ zs.length = m ∧ ∀ a dx, H2 a = none → H2 dx = none → dx ≠ a →
  sp (gV (.ref a :: vs) zs) (upd (upd H2 dx (.own a)) a (.ins C dx [])) (fun v H3 => v = .non ∧ Q (.ref a) H3) (E σ)
theorem pc_pos (M : Mk X.K C f) (F : FnOk X.prog X.w X.K X.mg X.base CX k f fd ps sp) (hr : Room (k + 1) X.A) (hg : Gl X x) (hm : X.mg x = some (.ref C)) (hb : KBn X.K fd ps (n + 1) [] g gV) (hx : ∀ σ, PassesAt CX X σ (E σ)) (ha : PA X (e :: es) t)
    (hdb : (x == ("__debug__" : Str)) = false := by decide) (he : starEach (e :: es) X.env = (false, eval e X.env) :: starEach es X.env := by rfl) (hpl : (backTo pos (starEach es X.env)).any (·.1) = false := by rfl) :
    PE X (.Call (.Name x p) (e :: es) [] pos) (tMk C n 0 sp gV E t tNil) := by
  refine ⟨fun pins s σ H Q I h => wpAny_Call_Name_kw (ld_glob I hg hm ?_ hdb)⟩
  exact PySem.W.callWith_K (h₀ := X.base) I.ok.mod.kin M.kp (thn (ha.run pos pins s σ H _ I h) fun us s1 ⟨vs, H1, I1, r, l1, l2, q⟩ =>
    ⟨I1.kIn, runM (ks := []) M F hr hb (hx σ) I1 r (.nil : Vals [] []) l1 rfl q⟩) he hpl
theorem pc_both (M : Mk X.K C f) (F : FnOk X.prog X.w X.K X.mg X.base CX k f fd ps sp) (hr : Room (k + 1) X.A) (hg : Gl X x) (hm : X.mg x = some (.ref C)) (hb : KBn X.K fd ps (n + 1) ks g gV) (hx : ∀ σ, PassesAt CX X σ (E σ)) (ha : PA X (e :: es) t) (hkw : PK X kws tk)
    (hall : (backToKw pos (keywordEach kws X.env)).all (·.1.isSome) = true := by rfl) (hks : (backToKw pos (keywordEach kws X.env)).filterMap (·.1) = ks := by rfl) (hdb : (x == ("__debug__" : Str)) = false := by decide)
    (he : starEach (e :: es) X.env = (false, eval e X.env) :: starEach es X.env := by rfl) (hpl : ((backTo pos (starEach (e :: es) X.env)).any (·.1) || (backToKw pos (keywordEach kws X.env)).any (·.1.isNone)) = false := by rfl) :
    PE X (.Call (.Name x p) (e :: es) kws pos) (tMk C n ks.length sp gV E t tk) := by
  refine ⟨fun pins s σ H Q I h => wpAny_Call_Name_kw (ld_glob I hg hm ?_ hdb)⟩
  refine PySem.W.callWith_KW (h₀ := X.base) I.ok.mod.kin M.kp hall (thn (ha.run pos pins s σ H _ I h) fun us s1 ⟨vs, H1, I1, r, q⟩ => ?_) hpl he
  refine thn (hkw.run pos pins s1 σ H1 _ I1 q) fun ws s2 ⟨zs, H2, I2, rz, l1, l2, q2⟩ => ⟨I2.kIn, ?_⟩
  rw [hks]
  exact runM M F hr hb (hx σ) I2 r rz l1 l2 q2
theorem pc_kw (M : Mk X.K C f) (F : FnOk X.prog X.w X.K X.mg X.base CX k f fd ps sp) (hr : Room (k + 1) X.A) (hg : Gl X x) (hm : X.mg x = some (.ref C)) (hb : KBn X.K fd ps 1 ks g gV) (hx : ∀ σ, PassesAt CX X σ (E σ)) (hkw : PK X kws tk)
    (hall : (backToKw pos (keywordEach kws X.env)).all (·.1.isSome) = true := by rfl) (hks : (backToKw pos (keywordEach kws X.env)).filterMap (·.1) = ks := by rfl) (hdb : (x == ("__debug__" : Str)) = false := by decide)
    (hpl : ((backTo pos (starEach [] X.env)).any (·.1) || (backToKw pos (keywordEach kws X.env)).any (·.1.isNone)) = false := by rfl) :
    PE X (.Call (.Name x p) [] kws pos) (tMk C 0 ks.length sp gV E tNil tk) := by
  refine ⟨fun pins s σ H Q I h => wpAny_Call_Name_kw (ld_glob I hg hm ?_ hdb)⟩
  refine PySem.W.callWith_KW0 (h₀ := X.base) I.ok.mod.kin M.kp hall ?_ hpl
  refine thn (hkw.run pos pins s σ H _ I h) fun ws s2 ⟨zs, H2, I2, rz, l1, l2, q2⟩ => ⟨I2.kIn, ?_⟩
  rw [hks]
  exact runM (n := 0) (us := []) (vs := []) M F hr hb (hx σ) I2 .nil rz rfl l2 q2
/-- C0.m(e, ..), the def read off an own class -/
theorem pcl_pos {C0 : Addr} {mc : Value} {pl : Sem Bool} (hg : Gl X x) (hm : X.mg x = some (.ref C0)) (rd : PySem.W.readsIn X.K C0 mc = true) (ga : PySem.W.specialIn X.K (.ref C0) "__getattribute__" = some (some (.builtin "type.__getattribute__")))
    (fc : PySem.W.findCls X.K (.ref C0) mc m = some (.val (.ref f))) (hk : PySem.W.keepIn X.K (.ref f) = true) (F : FnOk X.prog X.w X.K X.mg X.base CX k f fd ps sp) (hr : Room k X.A) (hb : KBn X.K fd ps n [] g gV) (hx : ∀ σ, PassesAt CX X σ (E σ)) (ha : PA X (e :: es) t)
    (hdb : (x == ("__debug__" : Str)) = false := by decide) (hst : starEach (e :: es) X.env = (false, eval e X.env) :: starEach es X.env := by rfl) (hpl : (backTo pos (starEach es X.env)).any (·.1) = false := by rfl)
    (ht : eval (.Call (.Attribute (.Name x p) m apos) (e :: es) [] pos) X.env = (do
      let ov ← eval (.Name x p) X.env
      standAt apos.atName
      let (f, first) ← holding [ov] (getMethod ov m pl)
      callWith pos f first (backTo pos (starEach (e :: es) X.env)) (backToKw pos (keywordEach [] X.env))) := by rfl) :
    PE X (.Call (.Attribute (.Name x p) m apos) (e :: es) [] pos) (tFn n 0 sp gV E t tNil) := by
  refine ⟨fun pins s σ H Q I h => ?_⟩
  refine PySem.W.methodCall_KW (pl := pl) (ld_glob I hg hm ?_ hdb) ht
  refine PySem.W.method_cls I.kIn ga (PySem.W.cls_value I.kIn rd fc rfl ?_)
  exact PySem.W.callWith_K (first := []) (h₀ := X.base) I.ok.mod.kin hk (thn (ha.run pos pins _ σ H _ (I.tok _) h) fun us s2 ⟨vs, H2, I2, r, l1, l2, q2⟩ => ⟨I2.kIn, runF (ks := []) F hr hb (hx σ) I2 r (.nil : Vals [] []) l1 rfl q2⟩) hst hpl
end

/-! ### raise C(..) of an own class over ValueError: positional values, keywords, none -/
section
variable {X : Cx} {CX : CXT} {k n : Nat} {fI C : Addr} {fd : FuncData} {ps ks : List Str} {sp : Sp} {x : Str} {p pos : Pos} {e : Expr} {es : List Expr} {kws : List Keyword} {t tk : TA}
variable {g : List Value → List Value → List Value} {gV : List V → List V → List V} {pins : List (Addr × Obj)} {σ : L2.St} {H : Hp} {s : Shared} {Q : XK} {us ws : List Value} {vs zs : List V}
abbrev NoE : XK := fun _ _ _ => False
/-- what the written part says of C and its __init__ -/
structure ExK (K : PySem.W.Frag) (C fI : Addr) : Prop where
  made : ∃ (B newId initId : String) (bmB : List Value) (nm q : Str) (N : Addr) (bs bm : List Value) (sn : List Str) (sub : List Value) (ab : Bool) (col : Option Bool) (dd : Option Addr) (k0 k1 k2 k3 k5 : Option Value),
    ExcBaseFacts B newId initId bmB ∧ K.lookup C = some (excClassObj nm q C N bs bm true sn sub ab col dd k0 k1 k2 k3 k5 newId) ∧
    (bm.contains (.type B) = true ∧ bm.contains (.type "AttributeError") = false ∧ bm.contains (.type "NameError") = false)
  exC : PySem.W.subIn K (.ref C) (.type "BaseException") = some true
  tyC : PySem.W.typeIn K (.ref C) = some (.type "type")
  kC : PySem.W.keepIn K (.ref C) = true
  init : PySem.W.findIn K (.ref C) "__init__" = some (some (.ref fI))
  fn : PySem.W.typeIn K (.ref fI) = some (.type "function")
theorem exK_ve {K : PySem.W.Frag} {C fI : Addr} (T : OexC K C) (i : PySem.W.findIn K (.ref C) "__init__" = some (some (.ref fI))) (f : PySem.W.typeIn K (.ref fI) = some (.type "function")) : ExK K C fI := by
  obtain ⟨nm, q, N, bs, bm, sn, sub, ab, col, dd, k0, k1, k2, k3, k5, hC, hbm⟩ := T.cls
  have F := PySem.F.excBase_ValueError
  have c := fun Y => PySem.HandSPX.refsVE_contains Y bm hbm
  exact ⟨⟨_, _, _, _, _, _, _, _, _, _, _, _, _, _, _, _, _, _, _, F, hC, (c _).trans F.hasB, (c _).trans F.noAttr, (c _).trans F.noName⟩, T.exC, T.tyC, T.kC, i, f⟩
def BackX (a C : Addr) (H2 : Hp) (Q : XK) : VK := fun v H3 => v = .non ∧ ∃ (d : Addr) (fs : List (Str × V)), H3 a = some (exo a C (some d)) ∧ H3 d = some (exd d fs) ∧ H2 d = none ∧ Q (.ref C) (some d) (upd (del H3 a) d (.xd fs))
theorem runX (T : ExK X.K C fI) (F : FnOk X.prog X.w X.K X.mg X.base CX k fI fd ps sp) (hr : Room (k + 1) X.A) (hb : KBn X.K fd ps (n + 1) ks g gV) (hx : PassesAt CX X σ NoE) (I : Inv X pins σ H s) (r : Vals vs us) (rz : Vals zs ws) (l1 : vs.length = n) (l2 : zs.length = ks.length) (hn : n ≤ 1000)
    (h : ∀ a, H a = none → sp (gV (.ref a :: vs) zs) (upd H a (exo a C none)) (BackX a C H Q) NoE) : wpAny (model X.prog X.w) X.A (call (.ref C) us (ks.zip ws)) (MkP X pins σ Q) X.xe s := by
  obtain ⟨B, newId, initId, bmB, nm, q, N, bs, bm, sn, sub, ab, col, dd, k0, k1, k2, k3, k5, F0, hC, hbm⟩ := T.made
  obtain ⟨hp, gs, dr, tk, os⟩ := s
  have sz : hp.objs.size ≤ hp.objs.size + 1 := Nat.le_succ _
  have hq := h (hp.objs.size + 1) (I.hok.fresh sz)
  have kk : ∀ b o, hp.get? b = some o → ((hp.push (PySem.W.kdv_tup us)).push (PySem.HandSPX.excO C hp.objs.size)).get? b = some o := fun b o e => Heap.get?_push_of_some _ (Heap.get?_push_of_some _ e)
  have hat : ((hp.push (PySem.W.kdv_tup us)).push (PySem.HandSPX.excO C hp.objs.size)).get? (hp.objs.size + 1) = some (PySem.HandSPX.excO C hp.objs.size) := by heap_get
  have J : Inv X pins σ (upd H (hp.objs.size + 1) (exo (hp.objs.size + 1) C none)) ⟨(hp.push (PySem.W.kdv_tup us)).push (PySem.HandSPX.excO C hp.objs.size), gs, dr, tk, os⟩ :=
    I.laid (t' := tk) (a := hp.objs.size + 1) (o := exo (hp.objs.size + 1) C none) kk sz (exo_ok hat)
  have r1 : Vals (V.ref (hp.objs.size + 1) :: vs) (Value.ref (hp.objs.size + 1) :: us) := .cons rfl r
  have b := hb.to _ (Value.ref (hp.objs.size + 1) :: us) ws J.kIn (r1.length.symm.trans (congrArg Nat.succ l1)) (rz.length.symm.trans l2)
  have hus : us.length ≤ sizeLine := by
    rw [← r.length, l1, sizeLine_eq]
    omega
  refine wpAny_call (PySem.OwnK.excCall F0 hbm (I.kIn _ _ hC) (PySem.W.looks_findIn I.kIn T.init) (fun self => PySem.W.bind_fn I.kIn self T.fn) hus
    (codeAny_mono (F.run _ X.stack _ _ _ _ _ _ NoE (hr.make C us (ks.zip ws)) (J.env0.make C us (ks.zip ws)) b (hb.rel r1 rz) hq) fun r s' y => ?_))
  cases r with
  | error er => exact hx pins _ _ er s' J y
  | ok fl =>
    cases fl with
    | ret u =>
      obtain ⟨v, H2, os2, bare2, un2, hok2, rv, ev, d, fs, ea, ed, hd1, q2⟩ := y
      subst ev
      obtain ⟨h2, g2, d2, t2, os'⟩ := s'
      exact ⟨rv, mk_end (raises_own T.exC T.tyC) I sz kk un2 hok2 os2 bare2 ea ed hd1 q2⟩
    | next => exact y.elim
    | brk => exact y.elim
    | cont => exact y.elim
def tRz (C : Addr) (n m : Nat) (sp : Sp) (gV : List V → List V → List V) (t tk : TA) : L2.St → Hp → XK → Prop := fun σ H Q => t σ H fun vs H1 => tk σ H1 fun zs H2 => vs.length = n ∧ zs.length = m ∧ n ≤ 1000 ∧
  ∀ a, H2 a = none → sp (gV (.ref a :: vs) zs) (upd H2 a (exo a C none)) (BackX a C H2 Q) NoE
theorem px_pos (T : ExK X.K C fI) (F : FnOk X.prog X.w X.K X.mg X.base CX k fI fd ps sp) (hr : Room (k + 1) X.A) (hg : Gl X x) (hm : X.mg x = some (.ref C)) (hb : KBn X.K fd ps (n + 1) [] g gV) (hx : ∀ σ, PassesAt CX X σ NoE) (ha : PA X (e :: es) t)
    (hdb : (x == ("__debug__" : Str)) = false := by decide) (he : starEach (e :: es) X.env = (false, eval e X.env) :: starEach es X.env := by rfl) (hpl : (backTo pos (starEach es X.env)).any (·.1) = false := by rfl) :
    PMk X (.Call (.Name x p) (e :: es) [] pos) (tRz C n 0 sp gV t tNil) := by
  intro pins s σ H Q I h
  refine wpAny_Call_Name_kw (ld_glob I hg hm ?_ hdb)
  exact PySem.W.callWith_K (h₀ := X.base) I.ok.mod.kin T.kC (thn (ha.run pos pins s σ H _ I h) fun us s1 ⟨vs, H1, I1, r, l1, l2, l3, q⟩ => ⟨I1.kIn, runX (ks := []) T F hr hb (hx σ) I1 r (.nil : Vals [] []) l1 rfl l3 q⟩) he hpl
theorem px_both (T : ExK X.K C fI) (F : FnOk X.prog X.w X.K X.mg X.base CX k fI fd ps sp) (hr : Room (k + 1) X.A) (hg : Gl X x) (hm : X.mg x = some (.ref C)) (hb : KBn X.K fd ps (n + 1) ks g gV) (hx : ∀ σ, PassesAt CX X σ NoE) (ha : PA X (e :: es) t) (hkw : PK X kws tk)
    (hall : (backToKw pos (keywordEach kws X.env)).all (·.1.isSome) = true := by rfl) (hks : (backToKw pos (keywordEach kws X.env)).filterMap (·.1) = ks := by rfl) (hdb : (x == ("__debug__" : Str)) = false := by decide)
    (he : starEach (e :: es) X.env = (false, eval e X.env) :: starEach es X.env := by rfl) (hpl : ((backTo pos (starEach (e :: es) X.env)).any (·.1) || (backToKw pos (keywordEach kws X.env)).any (·.1.isNone)) = false := by rfl) :
    PMk X (.Call (.Name x p) (e :: es) kws pos) (tRz C n ks.length sp gV t tk) := by
  intro pins s σ H Q I h
  refine wpAny_Call_Name_kw (ld_glob I hg hm ?_ hdb)
  refine PySem.W.callWith_KW (h₀ := X.base) I.ok.mod.kin T.kC hall (thn (ha.run pos pins s σ H _ I h) fun us s1 ⟨vs, H1, I1, r, q⟩ => ?_) hpl he
  refine thn (hkw.run pos pins s1 σ H1 _ I1 q) fun ws s2 ⟨zs, H2, I2, rz, l1, l2, l3, q2⟩ => ⟨I2.kIn, ?_⟩
  rw [hks]
  exact runX T F hr hb (hx σ) I2 r rz l1 l2 l3 q2
theorem px_kw (T : ExK X.K C fI) (F : FnOk X.prog X.w X.K X.mg X.base CX k fI fd ps sp) (hr : Room (k + 1) X.A) (hg : Gl X x) (hm : X.mg x = some (.ref C)) (hb : KBn X.K fd ps 1 ks g gV) (hx : ∀ σ, PassesAt CX X σ NoE) (hkw : PK X kws tk)
    (hall : (backToKw pos (keywordEach kws X.env)).all (·.1.isSome) = true := by rfl) (hks : (backToKw pos (keywordEach kws X.env)).filterMap (·.1) = ks := by rfl) (hdb : (x == ("__debug__" : Str)) = false := by decide)
    (hpl : ((backTo pos (starEach [] X.env)).any (·.1) || (backToKw pos (keywordEach kws X.env)).any (·.1.isNone)) = false := by rfl) :
    PMk X (.Call (.Name x p) [] kws pos) (tRz C 0 ks.length sp gV tNil tk) := by
  intro pins s σ H Q I h
  refine wpAny_Call_Name_kw (ld_glob I hg hm ?_ hdb)
  refine PySem.W.callWith_KW0 (h₀ := X.base) I.ok.mod.kin T.kC hall ?_ hpl
  refine thn (hkw.run pos pins s σ H _ I h) fun ws s2 ⟨zs, H2, I2, rz, l1, l2, l3, q2⟩ => ⟨I2.kIn, ?_⟩
  rw [hks]
  exact runX (n := 0) (us := []) (vs := []) T F hr hb (hx σ) I2 .nil rz rfl l2 l3 q2
theorem px_none (T : ExK X.K C fI) (F : FnOk X.prog X.w X.K X.mg X.base CX k fI fd ps sp) (hr : Room (k + 1) X.A) (hg : Gl X x) (hm : X.mg x = some (.ref C)) (hb : KBn X.K fd ps 1 [] g gV) (hx : ∀ σ, PassesAt CX X σ NoE)
    (hdb : (x == ("__debug__" : Str)) = false := by decide) : PMk X (.Call (.Name x p) [] [] pos) (tRz C 0 0 sp gV tNil tNil) := by
  intro pins s σ H Q I h
  refine wpAny_Call_Name_kw (ld_glob I hg hm ?_ hdb)
  obtain ⟨l1, l2, l3, q⟩ := h
  exact PySem.W.callWith_K0 I.kIn T.kC (runX (n := 0) (ks := []) (us := []) (vs := []) T F hr hb (hx σ) I .nil (.nil : Vals [] []) rfl rfl l3 q)
end
end Own

/-! Own rules: an own exception straight under KeyError, whose __init__ stores one field and calls no base. -/
namespace PySem
namespace OwnKy
open PySem.W PyProof.Rows Builtin Builtin.ObjectAttr HandSPX
abbrev kyTail : List Value := [.type "KeyError", .type "LookupError", .type "Exception", .type "BaseException", .type "object"]
theorem ky_pass (C : Addr) (self : Value) : refuseLoop self "__setattr__" (.ref C :: kyTail) = pure () := by
  rw [refuseLoop_ref]
  kernel_rfl
section
variable {prog : Program} {w : World} {A : Around} {R : Result → Shared → Prop} {h0 : Heap} {g : Array GenState} {d : Drawn} {t : Nat} {os : OsState} {K : Frag} {f : Str} {tk : Tok} {y : Value} {a C : Addr} {fv : Array Value} {cd : ClassData}
/-- the first field of an exception without a dict, whatever built-in classes stand above its own one -/
theorem first_field (X : K.In h0) (ea : h0.get? a = some { cls := .ref C, data := .fields fv }) (ec : clsIn K C = some cd) (pass : ∀ self, refuseLoop self "__setattr__" cd.mro = pure ()) (ob : cd.mro.contains (.type "object") = true) (ne : cd.mro.isEmpty = false)
    (dict : cd.hasDict = true) (no : findIn K (.ref C) f = some none)
    (k : ∀ h1 tk1 dx, (∀ b o, b ≠ a → h0.get? b = some o → h1.get? b = some o) → h0.objs.size ≤ dx → dx ≠ a → h1.get? a = some { cls := .ref C, dict := some dx, data := .fields fv } →
      h1.Ns1 dx (fun z => if z = f then some y else none) → R (.ok (.ret .none)) ⟨h1, g, d, tk1, os⟩) :
    codeAny (model prog w) A (.call (.builtin "object.__setattr__") ⟨[.ref a, .str f tk, y], []⟩) R ⟨h0, g, d, t, os⟩ := by
  have J : InstAt h0 a { cls := .ref C, data := .fields fv } C none := ⟨ea, rfl, rfl, trivial⟩
  have nea : h0.objs.size ≠ a := (Nat.ne_of_lt (Heap.lt_size ea)).symm
  have G := F.store_object
  have isO : Looks (model prog w) h0 (isInstance (.ref a) (.type "object")) true := J.type.andThen (looks_mroIn X (by unfold mroIn; rw [ec, Option.bind_some, if_neg (by rw [ne]; exact Bool.false_ne_true), ob]))
  have order : Looks (model prog w) h0 (mroOf (.ref C)) cd.mro := (looks_clsIn X ec).andThen .now
  have data : Looks (model prog w) h0 (classData C) cd := looks_clsIn X ec
  have nobody : Looks (model prog w) h0 (storeTaker? none) none := .now
  refine codeAny_call_builtin G.slot.plain G.entry (@check_slot (model prog w) _ _ ⟨h0, g, d, t, os⟩ "object.__setattr__" "object" "__setattr__" (.ref a) [.str f tk, y] [] _ G.kind G.split isO (G.args _ _ _) ?_)
  rw [osa_eq, refuse_eq]
  refine wpAny_bind (wpAny_bind (J.type.at (wpAny_bind (order.at ?_))))
  rw [pass]
  refine wpAny_pure (wpAny_bind (J.type.at (wpAny_bind ((looks_findIn X no).at (wpAny_bind (nobody.at ?_))))))
  show wpAny _ _ (storeInOwnDict (.ref a) (.ref C) (.str f tk) f y false) _ _ _
  obtain ⟨cnm, cbs, cmro, cns, cqn, chd, csn, csb, cab, ccol, cdel⟩ := cd
  obtain rfl : chd = true := dict
  unfold storeInOwnDict ownDictForStores
  repeat (first | with_reducible refine store_in_new ?_ ?_ | with_reducible refine wpAny_loadPart_at ea ?_ | with_reducible refine data.at ?_ | wp_step)
  · exact ⟨_, #[], _, (Heap.get?_update_ne _ _ _ _ nea).trans (Heap.get?_push_at rfl rfl), rfl, fun e he => absurd he (by simp), fun _ => rfl⟩
  · intro h1 tk1 hn sb
    have ea1 : (h0.push { cls := .type "dict", data := .dict #[] }).get? a = some { cls := .ref C, data := .fields fv } := Heap.get?_push_of_some _ ea
    exact k h1 tk1 h0.objs.size (fun b o hb ho => (sb.2 b (Nat.ne_of_lt (Heap.lt_size ho))).trans ((Heap.get?_update_ne _ _ _ _ hb).trans (Heap.get?_push_of_some _ ho))) (Nat.le_refl _) nea
      ((sb.2 a nea.symm).trans (Heap.get?_update_self _ ea1 rfl)) hn
end
end OwnKy
end PySem
namespace Own
open PySem PySem.Spec PyProof.Rows L2
/-- what the written part says of a class straight under KeyError -/
structure OkyC (K : PySem.W.Frag) (C : Addr) : Prop where
  cls : ∃ (nm q : Str) (N : Addr) (bs : List Value) (sn : List Str) (sub : List Value) (ab : Bool) (col : Option Bool) (dd : Option Addr) (k0 k1 k2 k3 k5 : Option Value),
    K.lookup C = some (excClassObj nm q C N bs PySem.OwnKy.kyTail true sn sub ab col dd k0 k1 k2 k3 k5 "LookupError.__new__")
  sa : PySem.W.findIn K (.ref C) "__setattr__" = some (some (.builtin "object.__setattr__"))
  exC : PySem.W.subIn K (.ref C) (.type "BaseException") = some true
  tyC : PySem.W.typeIn K (.ref C) = some (.type "type")
  kC : PySem.W.keepIn K (.ref C) = true
theorem exK_ky {K : PySem.W.Frag} {C fI : Addr} (T : OkyC K C) (i : PySem.W.findIn K (.ref C) "__init__" = some (some (.ref fI))) (f : PySem.W.typeIn K (.ref fI) = some (.type "function")) : ExK K C fI := by
  obtain ⟨nm, q, N, bs, sn, sub, ab, col, dd, k0, k1, k2, k3, k5, hC⟩ := T.cls
  exact ⟨⟨_, _, _, _, _, _, _, _, _, _, _, _, _, _, _, _, _, _, _, PySem.F.excBase_LookupError, hC, by decide +kernel, by decide +kernel, by decide +kernel⟩, T.exC, T.tyC, T.kC, i, f⟩
section
variable {X : Cx} {pins : List (Addr × Obj)} {σ : L2.St} {H : Hp} {s : Shared} {a C : Addr} {f : Str} {y : V} {u : Value} {Q : Unit → Shared → Prop} {E : Value → Shared → Prop} {A : Around}
theorem ky_first (T : OkyC X.K C) (I : Inv X pins σ H s) (e : H a = some (exo a C none)) (no : PySem.W.findIn X.K (.ref C) f = some none) (ry : RelV y u)
    (z : ∀ dx s', H dx = none → dx ≠ a → Inv X pins σ (upd (upd H dx (exd dx [(f, y)])) a (exo a C (some dx))) s' → Q () s') : wpAny (model X.prog X.w) A (setAttr (.ref a) f u) Q E s := by
  obtain ⟨nm, q, N, bs, sn, sub, ab, col, dd, k0, k1, k2, k3, k5, hC⟩ := T.cls
  have cl : PySem.W.clsIn X.K C = some { name := nm, bases := bs, mro := .ref C :: PySem.OwnKy.kyTail, ns := N, qualname := q, hasDict := true, slotNames := sn, subclasses := sub, abstract := ab, collection := col, hasDel := false } := by
    unfold PySem.W.clsIn
    rw [hC] <;> rfl
  obtain ⟨t1, ea⟩ := exo_at I.hok e
  obtain ⟨h0, g0, d0, t0, os0⟩ := s
  refine PySem.W.set_plain I.kIn (ox := ⟨.ref C, none, .fields #[.ref t1, .none, .none, .none, .bool false, .none], _⟩) (od := none) ⟨ea, rfl, rfl, trivial⟩ T.sa ?_
  refine PySem.OwnKy.first_field I.kIn ea cl (fun self => PySem.OwnKy.ky_pass C self) rfl rfl rfl no fun h1 tk1 dx k dn dne hx hn => ?_
  have fresh : H dx = none := I.hok.fresh dn
  have older : ∀ {b : Addr} {o : Obj}, h0.get? b = some o → b ≠ dx := fun ho => Nat.ne_of_lt (Nat.lt_of_lt_of_le (Heap.lt_size ho) dn)
  have other : ∀ {b : Addr}, H b = none → b ≠ a := fun hb z => by rw [z, e] at hb; cases hb
  have two : ∀ {b : Addr} {o : HO}, H b = some o → exo a C none ≠ o → (upd (upd H dx (exd dx [(f, y)])) a (exo a C (some dx))) b = some o := fun hb ne => by
    rw [upd_ne (at_ne e hb ne), upd_ne (ne_of_none hb fresh)]
    exact hb
  refine z dx ⟨h1, g0, d0, tk1, os0⟩ fresh dne (I.un (t' := tk1) ?_ fun b o hb => ?_)
  · exact ⟨fun b o ho hb _ _ => k b o (other hb) ho, fun b o ho hb _ _ => ⟨o.slots, k b o (other hb) ho⟩, fun b o ho hb _ => by rw [upd_ne (other hb), upd_ne (older ho)]; exact hb,
      fun b o ho _ => if h : b = a then ⟨_, (congrArg h1.get? h).trans hx⟩ else ⟨o, k b o h ho⟩, fun b xs hb => two hb exo_tup, fun b o v hb => two hb exo_frz, fun b ps hb => ⟨#[], by rw [two hb exo_tbl]; simp⟩⟩
  · by_cases ha : b = a
    · rw [ha, upd_same] at hb
      cases hb
      rw [ha]
      exact exo_ok hx
    · rw [upd_ne ha] at hb
      by_cases hd : b = dx
      · rw [hd, upd_same] at hb
        cases hb
        rw [hd]
        exact exd_ok hn (relO_put (fs := []) ry fun _ => True.intro)
      · rw [upd_ne hd] at hb
        exact (I.hok b o hb).stay (fun c v hc w => k c v (hc.elim (fun q => by rw [q]; exact ha) fun q => at_ne e q exo_own) w) (fun c hc => two hc exo_own) (fun c xs hc => two hc exo_tup)
end
/-- self.f = e, the first field of an exception straight under KeyError -/
def tKst (K : PySem.W.Frag) (f : Str) (to te : TE) : TS := fun D σ H => te σ H fun y H1 => to σ H1 fun x H2 => ∃ a C : Addr, x = .ref a ∧ OkyC K C ∧ PySem.W.findIn K (.ref C) f = some none ∧ H2 a = some (exo a C none) ∧
  ∀ dx, H2 dx = none → dx ≠ a → D.nx σ (upd (upd H2 dx (exd dx [(f, y)])) a (exo a C (some dx)))
theorem ps_kst {X : Cx} {o e : Expr} {to te : TE} {f : Str} {p' pos : Pos} (ho : PE X o to) (he : PE X e te) (hs : swapsWith e (some (.Attribute o f p')) pos.line X.env = pure false := by rfl) : PS X (.Assign [.Attribute o f p'] e pos) (tKst X.K f to te) := by
  refine ⟨fun pins s σ H D I h => plainObj_wpAny_Assign_Attribute (thn (he.run pins s σ H _ I h) fun v s1 ⟨y, H1, I1, r1, q1⟩ => thn (ho.run pins s1 σ H1 _ I1 q1) fun u s2 ⟨x, H2, I2, r2, q2⟩ => ?_) hs⟩
  obtain ⟨a, C, rfl, T, no, ea, q⟩ := q2
  cases r2
  exact ky_first T I2 ea no r1 fun dx s' n ne J => ⟨σ, _, J, q dx n ne⟩
end Own

/-! Own rules: repr and str of an instance with own __repr__, __str__; a text times 0 or 1; isinstance of a caught own exception that has fields. -/
namespace Own
open PySem PySem.Spec PyProof.Rows L2
section
variable {X : Cx} {CX : CXT} {k : Nat} {C f : Addr} {fd : FuncData} {ps : List Str} {sp : Sp} {E : XK}
/-- what repr or str by an own def asks of the written part -/
structure TxtOwn (K : PySem.W.Frag) (C f : Addr) (nm : Str) : Prop where
  fd : PySem.W.findIn K (.ref C) nm = some (some (.ref f))
  fn : PySem.W.isFn K (.ref f) = true
def rTxO (C : Addr) (sp : Sp) (E : XK) : List V → Hp → VK → Prop := fun xs H Q => ∃ (a dx : Addr) (fs : List (Str × V)), xs = [.ref a] ∧ H a = some (.ins C dx fs) ∧
  sp [.ref a] H (fun v H' => ∃ y : Str, v = .str y ∧ Q (.str y) H') E
theorem call_reprO (T : TxtOwn X.K C f "__repr__") (F : FnOk X.prog X.w X.K X.mg X.base CX k f fd ps sp) (hr : Room (k + 1) X.A) (hb : Binds X.K fd ps []) (hx : Passes CX X E) : CallR X (.builtin "repr") (rTxO C sp E) := by
  intro pins s σ H xs us Q I r h
  obtain ⟨a, dx, fs, rfl, ha, q⟩ := h
  obtain ⟨mA, J, _⟩ := ins_get I.hok ha
  obtain ⟨od, J, _⟩ := J.look
  obtain ⟨m, hF⟩ := I.fr
  obtain ⟨u, rfl, ru⟩ := vals1 r
  cases ru
  have r2 : Vals [V.ref a] [Value.ref a] := .cons rfl .nil
  refine PySem.W.repr_K hr.in1.units0 hF I.ok.mod.kin J T.fd T.fn ?_
  have hl : ([Value.ref a] : List Value).length = ps.length := (Paired.length r2).symm.trans (F.len _ _ _ _ q)
  have b0 := hb s [.ref a] I.kIn (by simpa using hl)
  rw [List.append_nil] at b0
  refine wpAny_call (codeAny_mono (F.run X.A.in1 X.stack s H ⟨[.ref a], []⟩ [.ref a] [.ref a] _ E hr.in1 I.env0.in1 b0 r2 q) fun r s' z => ?_)
  cases r with
  | error e => exact hx pins σ H s e s' I z
  | ok fl =>
    cases fl with
    | ret w =>
      obtain ⟨v', H', I', rv, y, ev, q'⟩ := I.after z
      subst ev
      obtain ⟨t, rfl⟩ := rv
      exact ⟨.str y, H', I', ⟨t, rfl⟩, q'⟩
    | next => exact z.elim
    | brk => exact z.elim
    | cont => exact z.elim
theorem call_strO (T : TxtOwn X.K C f "__str__") (F : FnOk X.prog X.w X.K X.mg X.base CX k f fd ps sp) (hr : Room (k + 2) X.A) (hb : Binds X.K fd ps []) (hx : Passes CX X E) : CallR X (.type "str") (rTxO C sp E) := by
  intro pins s σ H xs us Q I r h
  obtain ⟨a, dx, fs, rfl, ha, q⟩ := h
  obtain ⟨mA, J, _⟩ := ins_get I.hok ha
  obtain ⟨od, J, _⟩ := J.look
  obtain ⟨u, rfl, ru⟩ := vals1 r
  cases ru
  have r2 : Vals [V.ref a] [Value.ref a] := .cons rfl .nil
  refine PySem.W.kso_call hr.in1.in1.units0 I.kIn J T.fd T.fn ?_
  have hl : ([Value.ref a] : List Value).length = ps.length := (Paired.length r2).symm.trans (F.len _ _ _ _ q)
  have b0 := hb s [.ref a] I.kIn (by simpa using hl)
  rw [List.append_nil] at b0
  refine wpAny_call (codeAny_mono (F.run X.A.in1.in1 X.stack s H ⟨[.ref a], []⟩ [.ref a] [.ref a] _ E hr.in1.in1 I.env0.in1.in1 b0 r2 q) fun r s' z => ?_)
  cases r with
  | error e => exact hx pins σ H s e s' I z
  | ok fl =>
    cases fl with
    | ret w =>
      obtain ⟨v', H', I', rv, y, ev, q'⟩ := I.after z
      subst ev
      obtain ⟨t, rfl⟩ := rv
      exact ⟨.str y, H', I', ⟨t, rfl⟩, q'⟩
    | next => exact z.elim
    | brk => exact z.elim
    | cont => exact z.elim
/-- a text times int(a truth) -/
theorem op_mul01 : OpR X (binaryOp .Mult) (fun x y H Q => ∃ (z : Str) (n : Int), x = .str z ∧ y = .int n ∧ (n = 0 ∨ n = 1) ∧ Q (.str (if n = 1 then z else Str.empty)) H) := by
  intro pins s σ H x y v u Q I rx ry h
  obtain ⟨z, n, rfl, rfl, hn, q⟩ := h
  obtain ⟨t, rfl⟩ := rx
  obtain ⟨t', rfl⟩ := ry
  rcases hn with rfl | rfl
  · exact PySem.P.mul_str_none (by decide) (by decide) ⟨.str Str.empty, H, I.tok _, ⟨_, rfl⟩, q⟩
  · exact PySem.P.mul_str (by decide) (fun _ h => by simp at h) (fun _ h => by simp at h) (by rw [if_neg (by decide), if_pos (by rfl)]; exact ⟨.str z, H, I, ⟨_, rfl⟩, q⟩)
end
/-- isinstance(e, c), e the caught exception, of the class D, with the dict d -/
def rIsX (K : PySem.W.Frag) (D a : Addr) (cls : Value) (d : Option Addr) : List V → Hp → VK → Prop := fun xs H Q => ∃ (c : V) (cv : Value) (b : Bool) (dd : Addr) (fs : List (Str × V)), xs = [.ref a, c] ∧ (∀ u, RelV c u → u = cv) ∧ cls = .ref D ∧ d = some dd ∧ H dd = some (.xd fs) ∧
  PySem.W.kitOne K (.ref D) cv = some b ∧ Q (.bl b) H
theorem suite_inst {X : Cx} {a D dd : Addr} {oe : Obj} {cls : Value} {d : Option Addr} {pn pins : List (Addr × Obj)} {σ : L2.St} {H : Hp} {s : Shared} {fs : List (Str × V)} (hz : Zc cls d oe) (hf : ∃ vs, oe.data = .fields vs) (I : Inv (X.suite a ((a, oe) :: pn)) pins σ H s)
    (ec : cls = .ref D) (ed : d = some dd) (ea : H dd = some (.xd fs)) : ∃ od, PySem.W.InstAt s.heap a oe D (some od) := by
  subst ec
  subst ed
  obtain ⟨hget, _⟩ := I.pin (a, oe) (List.mem_append_left _ List.mem_cons_self)
  obtain ⟨vs, hv⟩ := hf
  have hx : ObjOk X.prog X.w H s.heap dd (.xd fs) := I.hok dd _ ea
  obtain ⟨mA, hns, hr⟩ := hx
  obtain ⟨od, ho, hl⟩ := lookIn_ns hns
  exact ⟨od, hget, hz.1, by unfold PySem.W.notCls; rw [hv] <;> rfl, by rw [hz.2]; exact ho⟩
theorem excC_cls {K : PySem.W.Frag} {D : Addr} (C : ExcC K D) : (PySem.W.clsIn K D).isSome = true := by
  obtain ⟨cd, hc, _⟩ := PySem.W.any_some C.hd
  rw [hc]
  rfl
theorem call_isX {X : Cx} {a D : Addr} {oe : Obj} {cls : Value} {d : Option Addr} {pn : List (Addr × Obj)} (C : ExcC X.K D) (hz : Zc cls d oe) (hf : ∃ vs, oe.data = .fields vs) : CallR (X.suite a ((a, oe) :: pn)) (.builtin "isinstance") (rIsX X.K D a cls d) := by
  intro pins s σ H xs us Q I r h
  obtain ⟨c, cv, b, dd, fs, rfl, hcv, ec, ed, ea, e, q⟩ := h
  obtain ⟨u1, u2, rfl, rx, rt⟩ := vals2 r
  cases rx
  have e2 := hcv _ rt
  subst e2
  obtain ⟨od, J⟩ := suite_inst hz hf I ec ed ea
  exact PySem.W.kia_one (PySem.W.kitx_exc (excC_cls C) C.hg C.hk C.hs C.ha C.hn C.ht C.hm) I.kIn J e (fun z => nomatch z) fun tk => ⟨.bl b, H, I.kept (t' := tk) fun _ _ z => z, rfl, q⟩
/-- isinstance(e, (c1, c2, ..)), the tuple just laid -/
def rIsXT (K : PySem.W.Frag) (D a : Addr) (cls : Value) (d : Option Addr) : List V → Hp → VK → Prop := fun xs H Q => ∃ (tp : Addr) (cs : List V) (us : List Value) (b : Bool) (dd : Addr) (fs : List (Str × V)), xs = [.ref a, .ref tp] ∧ H tp = some (.tup cs) ∧ Paired ClsV cs us ∧ cls = .ref D ∧ d = some dd ∧ H dd = some (.xd fs) ∧
  PySem.W.kitAny K (.ref D) us = some b ∧ Q (.bl b) H
theorem call_isXT {X : Cx} {a D : Addr} {oe : Obj} {cls : Value} {d : Option Addr} {pn : List (Addr × Obj)} (C : ExcC X.K D) (hz : Zc cls d oe) (hf : ∃ vs, oe.data = .fields vs) : CallR (X.suite a ((a, oe) :: pn)) (.builtin "isinstance") (rIsXT X.K D a cls d) := by
  intro pins s σ H xs us Q I r h
  obtain ⟨tp, cs, ws, b, dd, fs, rfl, hT, k, ec, ed, ea, e, q⟩ := h
  obtain ⟨u1, u2, rfl, rx, rt⟩ := vals2 r
  cases rx
  cases (show u2 = Value.ref tp from rt)
  obtain ⟨od, J⟩ := suite_inst hz hf I ec ed ea
  have ht : ObjOk X.prog X.w H s.heap tp (.tup cs) := I.hok tp _ hT
  obtain ⟨_, its, rv, o, h1, h2, n, h3⟩ := ht
  have e3 := ClsV.all k rv
  subst e3
  obtain ⟨oc, odd, dt, sl⟩ := o
  dsimp only at h2 h3
  subst h2 h3
  exact PySem.W.kia_tup (PySem.W.kitx_exc (excC_cls C) C.hg C.hk C.hs C.ha C.hn C.ht C.hm) I.kIn J h1 e (fun z => nomatch z) fun tk => ⟨.bl b, H, I.kept (t' := tk) fun _ _ z => z, rfl, q⟩
end Own

/-! Own rules: one reading for things of several kinds. -/
namespace Own
open PySem PySem.Spec PyProof.Rows L2
section
variable {X : Cx}
def orR (r1 r2 : R2) : R2 := fun x y H Q => r1 x y H Q ∨ r2 x y H Q
theorem ix_or {r1 r2 : R2} (h1 : IxR X r1) (h2 : IxR X r2) : IxR X (orR r1 r2) := by
  intro value slice pins s σ H x y v u Q I rx ry h hs
  rcases h with h | h
  · exact h1 _ _ _ _ _ _ _ _ _ _ _ I rx ry h hs
  · exact h2 _ _ _ _ _ _ _ _ _ _ _ I rx ry h hs
theorem op_or {op : Value → Value → Sem Value} {r1 r2 : R2} (h1 : OpR X op r1) (h2 : OpR X op r2) : OpR X op (orR r1 r2) := by
  intro pins s σ H x y v u Q I rx ry h
  rcases h with h | h
  · exact h1 _ _ _ _ _ _ _ _ _ I rx ry h
  · exact h2 _ _ _ _ _ _ _ _ _ I rx ry h
theorem call_or {f : Value} {r1 r2 : List V → Hp → VK → Prop} (h1 : CallR X f r1) (h2 : CallR X f r2) : CallR X f (fun xs H Q => r1 xs H Q ∨ r2 xs H Q) := by
  intro pins s σ H xs us Q I r h
  rcases h with h | h
  · exact h1 _ _ _ _ _ _ _ I r h
  · exact h2 _ _ _ _ _ _ _ I r h
end
end Own

/-! set(names) and len(set(names)), names a list or a tuple of texts, however many. -/
namespace Own
open PySem PySem.Spec PyProof.Rows L2
/-- one more text is met -/
def meet (acc : List Str) (x : Str) : List Str := if acc.contains x then acc else acc ++ [x]
/-- the unlike ones, each where it is met first -/
def met (xs : List Str) : List Str := xs.foldl meet []
theorem met_more (xs : List Str) (x : Str) : met (xs ++ [x]) = meet (met xs) x := by
  unfold met
  rw [List.foldl_append]
  rfl
theorem meet_mem (acc : List Str) (x k : Str) : k ∈ meet acc x ↔ k ∈ acc ∨ k = x := by
  unfold meet
  by_cases h : acc.contains x = true
  · rw [if_pos h]
    exact ⟨.inl, fun q => q.elim id fun e => by rw [e]; exact List.contains_iff_mem.mp h⟩
  · rw [if_neg h, List.mem_append, List.mem_singleton]
theorem meet_len (acc : List Str) (x : Str) : (meet acc x).length = if acc.contains x = true then acc.length else acc.length + 1 := by
  unfold meet
  split
  · rfl
  · rw [List.length_append] <;> rfl
theorem foldl_meet_mem (k : Str) : ∀ (xs acc : List Str), k ∈ xs.foldl meet acc ↔ k ∈ acc ∨ k ∈ xs
  | [], acc => by simp
  | x :: xs, acc => by
    rw [List.foldl_cons, foldl_meet_mem k xs, meet_mem, List.mem_cons, or_assoc]
theorem met_mem (k : Str) (xs : List Str) : k ∈ met xs ↔ k ∈ xs := by
  unfold met
  rw [foldl_meet_mem]
  simp
theorem foldl_meet_nodup : ∀ (xs acc : List Str), acc.Nodup → (xs.foldl meet acc).Nodup
  | [], _, h => h
  | x :: xs, acc, h => by
    refine foldl_meet_nodup xs _ ?_
    unfold meet
    by_cases c : acc.contains x = true
    · rw [if_pos c]
      exact h
    · rw [if_neg c]
      refine List.nodup_append.mpr ⟨h, by simp, fun a ha b hb e => ?_⟩
      rw [List.mem_singleton.mp hb] at e
      exact c (List.contains_iff_mem.mpr (e ▸ ha))
theorem met_nodup (xs : List Str) : (met xs).Nodup := foldl_meet_nodup xs [] List.nodup_nil
theorem foldl_meet_le : ∀ (xs acc : List Str), (xs.foldl meet acc).length ≤ acc.length + xs.length
  | [], _ => Nat.le_refl _
  | x :: xs, acc => by
    have h := foldl_meet_le xs (meet acc x)
    have g := meet_len acc x
    rw [List.foldl_cons, List.length_cons]
    split at g <;> omega
theorem met_le (xs : List Str) : (met xs).length ≤ xs.length := by
  have := foldl_meet_le xs []
  rw [List.length_nil, Nat.zero_add] at this
  exact this
theorem foldl_meet_all : ∀ (xs acc : List Str), (acc ++ xs).Nodup → xs.foldl meet acc = acc ++ xs
  | [], acc, _ => by simp
  | x :: xs, acc, h => by
    have hx : ¬ acc.contains x = true := fun c => by
      have := (List.nodup_append.mp h).2.2 x (List.contains_iff_mem.mp c) x List.mem_cons_self
      exact this rfl
    have e : meet acc x = acc ++ [x] := if_neg hx
    have e2 : acc ++ [x] ++ xs = acc ++ x :: xs := by rw [List.append_assoc] <;> rfl
    rw [List.foldl_cons, e, foldl_meet_all xs (acc ++ [x]) (by rw [e2]; exact h), e2]
theorem met_all {xs : List Str} (h : xs.Nodup) : met xs = xs := foldl_meet_all xs [] h
theorem foldl_meet_full : ∀ (xs acc : List Str), acc.Nodup → (xs.foldl meet acc).length = acc.length + xs.length → (acc ++ xs).Nodup
  | [], acc, h, _ => by rw [List.append_nil]; exact h
  | x :: xs, acc, h, e => by
    have g := foldl_meet_le xs (meet acc x)
    have l := meet_len acc x
    rw [List.foldl_cons, List.length_cons] at e
    by_cases c : acc.contains x = true
    · rw [if_pos c] at l
      omega
    · rw [if_neg c] at l
      have e1 : meet acc x = acc ++ [x] := if_neg c
      have n : (meet acc x).Nodup := foldl_meet_nodup [x] acc h
      have := foldl_meet_full xs (meet acc x) n (by omega)
      rw [e1, List.append_assoc] at this
      exact this
theorem met_full {xs : List Str} (h : (met xs).length = xs.length) : xs.Nodup := foldl_meet_full xs [] List.nodup_nil (by rw [List.length_nil, Nat.zero_add]; exact h)
theorem met_iff (xs : List Str) : decide ((met xs).length = xs.length) = decide xs.Nodup := decide_eq_decide.mpr ⟨met_full, fun h => by rw [met_all h]⟩
section
variable {prog : Program} {w : World} {A : Around} {R : Result → Shared → Prop} {it S : Addr} {fp wr : List Addr} {G : Array GenState → Array GenState → Prop} {n : Nat} {P : Nat → Value → Prop} {St : Nat → Shared → Prop} {xs : List Str}
/-- what the set holds behind i texts -/
abbrev Holds (prog : Program) (w : World) (S : Addr) (l : List Str) (h : Heap) : Prop := h.SetOf (PySem.strKind prog w) S (fun k => decide (k ∈ met l)) (met l).length
theorem Holds.moved {l : List Str} {s s' : Shared} (h : Holds prog w S l s.heap) (m : ∀ o, s.heap.get? S = some o → s'.heap.get? S = some o) : Holds prog w S l s'.heap := by
  obtain ⟨o, es, ep, t, ho, r⟩ := h
  exact ⟨o, es, ep, t, m _ ho, r⟩
theorem fill (W : WalksS prog w A.in1 it fp wr G n P St) (out : S ∉ fp) (hn : xs.length = n) (small : n < 1000) (val : ∀ i v, P i v → ∃ t, v = .str (xs.getD i Str.empty) t) :
    ∀ (k i : Nat) (s : Shared), n - i = k → i ≤ n → St i s → Holds prog w S (xs.take i) s.heap →
      (∀ s', Moved (S :: wr) G s s' → Holds prog w S xs s'.heap → R (.ok (.ret .none)) s') → codeAny (model prog w) A (.builtin "set.update.loop" ⟨[.ref S, .ref it], []⟩) R s := by
  have nw : S ∉ wr := fun h => out (W.sub _ h)
  have more : ∀ b ∈ wr, b ∈ S :: wr := fun b hb => List.mem_cons_of_mem _ hb
  intro k
  induction k with
  | zero =>
    intro i s hk hi st hS hR
    obtain rfl : i = n := by omega
    refine codeAny_builtin PyProof.Rows.F.entry_set_update_loop ?_
    rw [Around.under_plainId PyProof.Rows.F.plain_set_update_loop _]
    refine wpAny_bind (m := pyNext (.ref it)) (W.done s _ _ st fun s' m => ?_)
    have hS' := hS.moved (s' := s') fun o e => m.heap S o nw e
    rw [← hn, List.take_length] at hS'
    exact wpAny_pure (hR s' (m.mono more) hS')
  | succ k ih =>
    intro i s hk hi st hS hR
    have lt : i < n := by omega
    refine codeAny_builtin PyProof.Rows.F.entry_set_update_loop ?_
    rw [Around.under_plainId PyProof.Rows.F.plain_set_update_loop _]
    refine wpAny_bind (m := pyNext (.ref it)) (W.item i s _ _ lt st fun v s' pv st' m => ?_)
    obtain ⟨t, rfl⟩ := val i v pv
    have hS' := hS.moved (s' := s') fun o e => m.heap S o nw e
    generalize hx : xs.getD i Str.empty = x at *
    have gx : xs[i]? = some x := by
      have l : i < xs.length := by omega
      rw [← hx, List.getD_eq_getElem?_getD, List.getElem?_eq_getElem l] <;> rfl
    have tk : xs.take (i + 1) = xs.take i ++ [x] := by rw [List.take_add_one, gx] <;> rfl
    refine wpAny_bind (m := holding [Value.str x t] (setAdd S (.str x t))) (wpAny_holding ?_)
    unfold setAdd
    refine wpAny_holding (wpAny_bind ((PySem.strKind prog w).pyHash (k := x) (strKind_is _ _ _ _) ?_))
    have room : (met (xs.take i)).length + 1 < scanBound := by
      have := met_le (xs.take i)
      rw [List.length_take] at this
      show _ < 4096
      omega
    refine wpAny_setAddHashed_of (knd := PySem.strKind prog w) (s := { s' with toks := s'.toks + 1 }) (strKind_is _ _ _ _) rfl hS' room fun h' sb hS2 => ?_
    have next : Holds prog w S (xs.take (i + 1)) h' := by
      refine PyProof.Rows.SetOf_congr hS2 (fun j => ?_) ?_
      · rw [tk, met_more, ← Bool.decide_or]
        exact decide_eq_decide.mpr (meet_mem _ x j).symm
      · rw [tk, met_more, meet_len]
        by_cases a : x ∈ met (xs.take i)
        · rw [if_pos (decide_eq_true a), if_pos (List.contains_iff_mem.mpr a)]
        · rw [if_neg (fun z => a (of_decide_eq_true z)), if_neg (fun z => a (List.contains_iff_mem.mp z))]
    refine wpAny_pure ⟨plainId_quiet PyProof.Rows.F.plain_set_update_loop _, ih (i + 1) _ (by omega) lt (W.frame _ s' _ _ st' (Nat.le_succ _) fun b hb o e => ?_) next fun s2 m2 hS3 => ?_⟩
    · exact (sb.2 b (fun z => out (z ▸ hb))).trans e
    · exact hR s2 (Moved.trans W.gtrans ((m.mono more).then_heap (Nat.le_succ _) fun b o hb e => (sb.2 b fun z => hb (z ▸ List.mem_cons_self)).trans e) m2) hS3
end
section
variable {prog : Program} {w : World} {A : Around} {E : Value → Shared → Prop} {s : Shared}
set_option maxHeartbeats 3200000 in
theorem set_of_list {l : Addr} {its : Array Value} {xs : List Str} {Q : Value → Shared → Prop} (hh : A.handled = none) (hl : s.heap.IsList l its) (hi : PyProof.Rows.StrsAre its.toList xs) (small : xs.length < 1000)
    (h : ∀ (h' : Heap) (tk : Nat), Holds prog w s.heap.objs.size xs h' → (∀ b o, b < s.heap.objs.size → s.heap.get? b = some o → h'.get? b = some o) → Q (.ref s.heap.objs.size) { s with heap := h', toks := tk }) :
    wpAny (model prog w) A (call (.type "set") [.ref l]) Q E s := by
  obtain ⟨c, tl, hmro⟩ := PySem.F.called_set.mro
  have hmade := PySem.F.called_set.made
  have hsub := PySem.F.called_set.sub
  refine wpAny_call (codeAny_of_tree (wpAny_pure ⟨Code.quiet_builtin _ (by decide +kernel), codeAny_builtin PySem.F.entry_type_call ?_⟩))
  rw [Around.under_plain (weight_type_call_type "set" [.ref l] []) rfl]
  have g1 := PySem.F.called_set.notType
  have g2 := PySem.F.called_set.canCreate
  have g3 := PySem.F.typeCall_set_1 (.ref l)
  repeat (any_goals (first | assumption | wp_step))
  -- the empty set is made
  refine codeAny_mono (code_set_new_1 (.ref l) (E := E) (Q₁ := fun v s₁ => ∃ led : Bool, v = .ref s.heap.objs.size ∧ s₁ = { s with heap := s.heap.push { cls := .type "set", dict := none, data := .set #[] 0 (.fresh 0 0 led) } }) fun led => ⟨led, rfl, rfl⟩) ?_
  rintro (e | _ | _ | _ | v) s₁ z
  · exact z
  · exact z.elim
  · exact z.elim
  · exact z.elim
  · obtain ⟨led, rfl, rfl⟩ := z
    have at0 : (s.heap.push { cls := .type "set", dict := none, data := .set #[] 0 (.fresh 0 0 led) }).get? s.heap.objs.size = some { cls := .type "set", dict := none, data := .set #[] 0 (.fresh 0 0 led) } := Heap.get?_push_size _ rfl
    have ty : Shared.TypeIs { s with heap := s.heap.push { cls := .type "set", dict := none, data := .set #[] 0 (.fresh 0 0 led) } } (.ref s.heap.objs.size) "set" := ⟨_, at0, rfl⟩
    have g4 := PySem.F.called_set.init.lookup
    have g5 := PySem.F.called_set.init.bind (.ref s.heap.objs.size)
    repeat (any_goals (first | assumption | wp_step))
    -- and filled
    refine codeAny_mono (codeAny_call_builtin (R := wants (fun r s₂ => r = .none ∧ ∃ h' tk, s₂ = { s with heap := h', toks := tk } ∧ Holds prog w s.heap.objs.size xs h' ∧ (∀ b o, b < s.heap.objs.size → s.heap.get? b = some o → h'.get? b = some o)) E)
      PySem.F.called_set.init.plain PySem.F.entry_set_init (check_set_init_1 ty ?_)) ?_
    · obtain ⟨⟨cls, dd, dat, sl⟩, hol, hc, nl, hd⟩ := hl
      simp only at hc hd
      subst hc hd
      have old := Heap.lt_size hol
      have hol2 : (s.heap.push { cls := .type "set", dict := none, data := .set #[] 0 (.fresh 0 0 led) }).get? l = some { cls := .type "list", dict := dd, data := .seq its nl, slots := sl } := Heap.get?_push_of_some _ hol
      have hl2 : (s.heap.push { cls := .type "set", dict := none, data := .set #[] 0 (.fresh 0 0 led) }).IsList l its := ⟨_, hol2, rfl, nl, rfl⟩
      have f1 := PySem.F.sub_list_set
      have f2 := PySem.F.sub_list_frozenset
      have f3 : (Value.type "list" == Value.type "dict") = false := by decide
      unfold Builtin.«set.__init__» noKeywords Builtin.Frozenset.updateFrom
      generalize hit : pyIter = itf
      wp_walk
      subst hit
      refine wpAny_pyIter_list hl2 ?_
      refine wpAny_bind (wpAny_runValue ?_)
      have top : (s.heap.push { cls := .type "set", dict := none, data := .set #[] 0 (.fresh 0 0 led) }).objs.size = s.heap.objs.size + 1 := Heap.size_push ..
      have ne1 : l ≠ (s.heap.push { cls := .type "set", dict := none, data := .set #[] 0 (.fresh 0 0 led) }).objs.size := by rw [top]; exact Nat.ne_of_lt (Nat.lt_succ_of_lt old)
      have out : s.heap.objs.size ∉ [(s.heap.push { cls := .type "set", dict := none, data := .set #[] 0 (.fresh 0 0 led) }).objs.size, l] := by
        rw [top]
        intro m
        rcases List.mem_cons.mp m with e | m
        · exact absurd e (Nat.ne_of_lt (Nat.lt_succ_self _))
        · exact absurd (List.mem_singleton.mp m) (Nat.ne_of_gt old)
      have len : xs.length = its.size := by rw [← StrsAre.len_eq hi, Array.length_toList]
      have val : ∀ (i : Nat) (v : Value), its[i]? = some v → ∃ t, v = .str (xs.getD i Str.empty) t := fun i v hv => SS.strs_at hi i v (by rw [Array.getElem?_toList]; exact hv)
      refine fill ((Walks.list (show A.in1.in1.in1.handled = none by simp [hh]) _ l ne1 its).toS) out len (by rw [← len]; exact small) val (its.size - 0) 0 _ (by omega) (Nat.zero_le _) ⟨⟨_, Heap.get?_push_size _ rfl, rfl, rfl⟩, hl2.push _⟩ ?_ ?_
      · have z : ((s.heap.push { cls := .type "set", dict := none, data := .set #[] 0 (.fresh 0 0 led) }).push { cls := .type "list_iterator", data := .fields #[.ref l, .int 0 0] }).get? s.heap.objs.size = some { cls := .type "set", dict := none, data := .set #[] 0 (.fresh 0 0 led) } := Heap.get?_push_of_some _ at0
        exact PyProof.Rows.SetOf_congr ((PyProof.Rows.setObjOf_fresh (knd := PySem.strKind prog w) led).setOf z (by unfold scanBound; omega)) (fun k => rfl) rfl
      · rintro ⟨h', g', d', tk', os'⟩ m hS'
        obtain rfl : g' = s.gens := m.gens
        obtain rfl : d' = s.drawn := m.drawn
        obtain rfl : os' = s.os := m.os
        refine wpAny_pure (wpAny_pure ⟨rfl, h', tk', rfl, hS', fun b o hb e => ?_⟩)
        refine m.heap b o (fun mm => ?_) (Heap.get?_push_of_some _ (Heap.get?_push_of_some _ e))
        rcases List.mem_cons.mp mm with e1 | mm
        · exact absurd e1 (Nat.ne_of_lt hb)
        · have e2 : b = (s.heap.push { cls := .type "set", dict := none, data := .set #[] 0 (.fresh 0 0 led) }).objs.size := List.mem_singleton.mp mm
          rw [top] at e2
          omega
    · rintro (e | _ | _ | _ | v) s₂ z
      · exact z
      · exact z.elim
      · exact z.elim
      · exact z.elim
      · obtain ⟨rfl, h', tk, rfl, hS', kp⟩ := z
        repeat (any_goals (first | assumption | wp_step))
        exact h _ _ hS' kp
end
section
variable {prog : Program} {w : World} {A : Around} {E : Value → Shared → Prop} {s : Shared}
set_option maxHeartbeats 3200000 in
theorem set_of_tuple {l : Addr} {its : Array Value} {xs : List Str} {Q : Value → Shared → Prop} (hh : A.handled = none) (hl : s.heap.IsTuple l its) (hi : PyProof.Rows.StrsAre its.toList xs) (small : xs.length < 1000)
    (h : ∀ (h' : Heap) (tk : Nat), Holds prog w s.heap.objs.size xs h' → (∀ b o, b < s.heap.objs.size → s.heap.get? b = some o → h'.get? b = some o) → Q (.ref s.heap.objs.size) { s with heap := h', toks := tk }) :
    wpAny (model prog w) A (call (.type "set") [.ref l]) Q E s := by
  obtain ⟨c, tl, hmro⟩ := PySem.F.called_set.mro
  have hmade := PySem.F.called_set.made
  have hsub := PySem.F.called_set.sub
  refine wpAny_call (codeAny_of_tree (wpAny_pure ⟨Code.quiet_builtin _ (by decide +kernel), codeAny_builtin PySem.F.entry_type_call ?_⟩))
  rw [Around.under_plain (weight_type_call_type "set" [.ref l] []) rfl]
  have g1 := PySem.F.called_set.notType
  have g2 := PySem.F.called_set.canCreate
  have g3 := PySem.F.typeCall_set_1 (.ref l)
  repeat (any_goals (first | assumption | wp_step))
  -- the empty set is made
  refine codeAny_mono (code_set_new_1 (.ref l) (E := E) (Q₁ := fun v s₁ => ∃ led : Bool, v = .ref s.heap.objs.size ∧ s₁ = { s with heap := s.heap.push { cls := .type "set", dict := none, data := .set #[] 0 (.fresh 0 0 led) } }) fun led => ⟨led, rfl, rfl⟩) ?_
  rintro (e | _ | _ | _ | v) s₁ z
  · exact z
  · exact z.elim
  · exact z.elim
  · exact z.elim
  · obtain ⟨led, rfl, rfl⟩ := z
    have at0 : (s.heap.push { cls := .type "set", dict := none, data := .set #[] 0 (.fresh 0 0 led) }).get? s.heap.objs.size = some { cls := .type "set", dict := none, data := .set #[] 0 (.fresh 0 0 led) } := Heap.get?_push_size _ rfl
    have ty : Shared.TypeIs { s with heap := s.heap.push { cls := .type "set", dict := none, data := .set #[] 0 (.fresh 0 0 led) } } (.ref s.heap.objs.size) "set" := ⟨_, at0, rfl⟩
    have g4 := PySem.F.called_set.init.lookup
    have g5 := PySem.F.called_set.init.bind (.ref s.heap.objs.size)
    repeat (any_goals (first | assumption | wp_step))
    -- and filled
    refine codeAny_mono (codeAny_call_builtin (R := wants (fun r s₂ => r = .none ∧ ∃ h' tk, s₂ = { s with heap := h', toks := tk } ∧ Holds prog w s.heap.objs.size xs h' ∧ (∀ b o, b < s.heap.objs.size → s.heap.get? b = some o → h'.get? b = some o)) E)
      PySem.F.called_set.init.plain PySem.F.entry_set_init (check_set_init_1 ty ?_)) ?_
    · obtain ⟨⟨cls, dd, dat, sl⟩, hol, hc, nl, hd⟩ := hl
      simp only at hc hd
      subst hc hd
      have old := Heap.lt_size hol
      have hol2 : (s.heap.push { cls := .type "set", dict := none, data := .set #[] 0 (.fresh 0 0 led) }).get? l = some { cls := .type "tuple", dict := dd, data := .seq its nl, slots := sl } := Heap.get?_push_of_some _ hol
      have hl2 : (s.heap.push { cls := .type "set", dict := none, data := .set #[] 0 (.fresh 0 0 led) }).IsTuple l its := ⟨_, hol2, rfl, nl, rfl⟩
      have f1 := PySem.F.sub_tuple_set
      have f2 := PySem.F.sub_tuple_frozenset
      have f3 : (Value.type "tuple" == Value.type "dict") = false := by decide
      unfold Builtin.«set.__init__» noKeywords Builtin.Frozenset.updateFrom
      generalize hit : pyIter = itf
      wp_walk
      subst hit
      refine wpAny_pyIter_tuple hl2 ?_
      refine wpAny_bind (wpAny_runValue ?_)
      have top : (s.heap.push { cls := .type "set", dict := none, data := .set #[] 0 (.fresh 0 0 led) }).objs.size = s.heap.objs.size + 1 := Heap.size_push ..
      have ne1 : l ≠ (s.heap.push { cls := .type "set", dict := none, data := .set #[] 0 (.fresh 0 0 led) }).objs.size := by rw [top]; exact Nat.ne_of_lt (Nat.lt_succ_of_lt old)
      have out : s.heap.objs.size ∉ [(s.heap.push { cls := .type "set", dict := none, data := .set #[] 0 (.fresh 0 0 led) }).objs.size, l] := by
        rw [top]
        intro m
        rcases List.mem_cons.mp m with e | m
        · exact absurd e (Nat.ne_of_lt (Nat.lt_succ_self _))
        · exact absurd (List.mem_singleton.mp m) (Nat.ne_of_gt old)
      have len : xs.length = its.size := by rw [← StrsAre.len_eq hi, Array.length_toList]
      have val : ∀ (i : Nat) (v : Value), its[i]? = some v → ∃ t, v = .str (xs.getD i Str.empty) t := fun i v hv => SS.strs_at hi i v (by rw [Array.getElem?_toList]; exact hv)
      refine fill ((Walks.tuple (show A.in1.in1.in1.handled = none by simp [hh]) _ l ne1 its).toS) out len (by rw [← len]; exact small) val (its.size - 0) 0 _ (by omega) (Nat.zero_le _) ⟨⟨_, Heap.get?_push_size _ rfl, rfl, rfl⟩, hl2.push _⟩ ?_ ?_
      · have z : ((s.heap.push { cls := .type "set", dict := none, data := .set #[] 0 (.fresh 0 0 led) }).push { cls := .type "tuple_iterator", data := .fields #[.ref l, .int 0 0] }).get? s.heap.objs.size = some { cls := .type "set", dict := none, data := .set #[] 0 (.fresh 0 0 led) } := Heap.get?_push_of_some _ at0
        exact PyProof.Rows.SetOf_congr ((PyProof.Rows.setObjOf_fresh (knd := PySem.strKind prog w) led).setOf z (by unfold scanBound; omega)) (fun k => rfl) rfl
      · rintro ⟨h', g', d', tk', os'⟩ m hS'
        obtain rfl : g' = s.gens := m.gens
        obtain rfl : d' = s.drawn := m.drawn
        obtain rfl : os' = s.os := m.os
        refine wpAny_pure (wpAny_pure ⟨rfl, h', tk', rfl, hS', fun b o hb e => ?_⟩)
        refine m.heap b o (fun mm => ?_) (Heap.get?_push_of_some _ (Heap.get?_push_of_some _ e))
        rcases List.mem_cons.mp mm with e1 | mm
        · exact absurd e1 (Nat.ne_of_lt hb)
        · have e2 : b = (s.heap.push { cls := .type "set", dict := none, data := .set #[] 0 (.fresh 0 0 led) }).objs.size := List.mem_singleton.mp mm
          rw [top] at e2
          omega
    · rintro (e | _ | _ | _ | v) s₂ z
      · exact z
      · exact z.elim
      · exact z.elim
      · exact z.elim
      · obtain ⟨rfl, h', tk, rfl, hS', kp⟩ := z
        repeat (any_goals (first | assumption | wp_step))
        exact h _ _ hS' kp
end
end Own

/-! len(set(names)) as a rule; a loop over a list or a tuple. -/
namespace Own
open PySem PySem.Spec PyProof.Rows L2
section
variable {X : Cx}
def tUnlike (K : PySem.W.Frag) (ta : TE) : TE := fun σ H Q => ta σ H fun x H1 => ∃ (l : Addr) (xs : List Str), x = .ref l ∧ (SqL K H1 l (xs.map V.str) ∨ SqT K H1 l (xs.map V.str)) ∧ xs.length < 1000 ∧ Q (.int (met xs).length) H1
theorem pe_unlike {a : Expr} {ta : TE} {p p2 q pos : Pos} (hc : X.calm = true) (hg : Gl X "len") (hm : X.mg "len" = none) (hg2 : Gl X "set") (hm2 : X.mg "set" = none) (ha : PE X a ta)
    (na : starEach [a] X.env = (false, eval a X.env) :: starEach [] X.env := by rfl) : PE X (.Call (.Name "len" p) [.Call (.Name "set" p2) [a] [] q] [] pos) (tUnlike X.K ta) := by
  refine ⟨fun pins s σ H Q I h => ?_⟩
  refine Call_ (ld_blt I hg hm boot_len (PyProof.Rows.callWith_builtin1 (PyProof.Rows.args_cons ?_ rfl) rfl rfl))
  refine Call_ (ld_blt I hg2 hm2 boot_set (PyProof.Rows.callWith_type1 (PyProof.Rows.args_cons (thn (ha.run pins s σ H _ I h) fun v s1 ⟨x, H1, J, rx, z⟩ => PyProof.Rows.args_nil ?_) na) na rfl))
  obtain ⟨l, xs, rfl, seq, small, q⟩ := z
  cases rx
  have done : ∀ (h' : Heap) (tk : Nat), Holds X.prog X.w s1.heap.objs.size xs h' → (∀ b o, b < s1.heap.objs.size → s1.heap.get? b = some o → h'.get? b = some o) →
      wpAny (model X.prog X.w) X.A (spliced (backTo pos (starEach [] X.env))) (fun vs s₂ => wpAny (model X.prog X.w) X.A (call (.builtin "len") (Value.ref s1.heap.objs.size :: vs)) (EP X pins σ Q) X.xe s₂) X.xe { s1 with heap := h', toks := tk } := fun h' tk hS kp => by
    obtain ⟨o, es, ep, t, ho, ex, hd, _, _, _, fits, hn⟩ := hS
    have J2 : Inv X pins σ H1 { s1 with heap := h', toks := tk } := J.kept fun b o e => kp b o (Heap.lt_size e) e
    have le := met_le xs
    exact PyProof.Rows.args_nil (call_len_set ho ex hd fits (by rw [hn]; omega) ⟨.int (met xs).length, H1, J2.tok _, ⟨_, by rw [hn]⟩, q⟩)
  rcases seq with hq | hq
  · obtain ⟨its, r, pl, _⟩ := J.list hq
    exact set_of_list (J.ok.hd hc) pl.isList (by simpa using strsAre_of r) small done
  · obtain ⟨its, r, pl, _⟩ := J.tuple hq
    exact set_of_tuple (J.ok.hd hc) pl (by simpa using strsAre_of r) small done
/-- what is walked may be of two kinds -/
theorem pi_or {tg e : Expr} {w1 w2 : TI} (h1 : PI X tg e w1) (h2 : PI X tg e w2) : PI X tg e (fun σ H R => w1 σ H R ∨ w2 σ H R) := ⟨fun pins s σ H R I h => h.elim (h1.run pins s σ H R I) (h2.run pins s σ H R I)⟩
end
end Own

/-! The law's own def, as the judge calls it: there nothing is being shown, so repr of data is told in full. -/
namespace Own
open PySem PySem.Spec PyProof.Rows L2
/-- a promise of the law's def at that one call -/
def TopOk (P : Program) (w : World) (K : PySem.W.Frag) (mg : Str → Option Value) (base : Heap) (f : Addr) (fd : FuncData) (x : Str) (sp : Sp) : Prop :=
  ∀ (s : Shared) (H : Hp) (v : V) (u : Value) (Q : VK), Env0 P w K mg base callerA [] s H → BindsTo s fd ⟨[u], []⟩ [(x, u)] → RelV v u → sp [v] H Q E0 →
    codeAny (model P w) callerA (.call (.ref f) ⟨[u], []⟩) (CR CX0 [] P w H s Q E0) s
section
variable {P : Program} {w : World} {K : PySem.W.Frag} {mg : Str → Option Value} {base : Heap} {f : Addr} {fd : FuncData} {x name qual : Str} {st : Stmt} {N : List Str} {k : Nat} {sp : Sp}
theorem top_of (F : Fun K name qual st f fd) (S : FnScope N [x] (defScope st)) (hr : Room (k + 1) callerA)
    (body : ∀ (cdv : Value) (s : Shared) (H : Hp) (v : V) (Q : VK), Room k (callerA.deeper (envOfC qual (defScope st) s.heap.objs.size f cdv)) → (callerA.deeper (envOfC qual (defScope st) s.heap.objs.size f cdv)).guards = some [] → sp [v] H Q E0 →
      ∃ t, PSs (cxOf CX0 P w K mg base N qual (defScope st) f cdv callerA [] s H E0).nox (defBody st) t ∧ t { nx := fun _ H' => Q .non H', rt := Q } (L2.start N [v]) H) : TopOk P w K mg base f fd x sp := by
  intro s H v u Q e0 hb rv hsp
  obtain ⟨oc, od, kV, doc, pm, an, cdv, ct, osl, rfl, lk, hcd⟩ := F.ex
  have grow : ∀ b o, base.get? b = some o → s.heap.get? b = some o := fun b o e => (e0.bs b o e).1
  have inK : K.In s.heap := e0.mod.kin.keeps grow
  have kinds : ∀ y ∈ [(x, u)], (defScope st).names.lookup y.1 = some .local ∨ ((defScope st).names.lookup y.1 = some .cell ∧ ((cellsFrom (s.heap.objs.size + 1) (defScope st).names []).lookup y.1).isSome = true) := fun y hy => by
    rw [List.mem_singleton.mp hy]
    exact (S.par x List.mem_cons_self).imp id fun c => ⟨c, PySem.W.cellsFrom_some _ _ _ (.inl c)⟩
  refine codeAny_call_function hr.depth (inK _ _ lk) rfl S.co S.gen rfl (PySem.W.codeRec_of inK hcd) (hb _ _ _ _ (wpAny_newFunctionEnv_cells S.kind kinds ?_))
  rintro env rfl s1 made
  refine ⟨(e0.mod.nolimit.keeps grow).keeps made.toInCall.keep, codeAny_func ?_⟩
  obtain ⟨t, ht, hq⟩ := body cdv s H v Q (hr.deeper _) rfl hsp
  have J0 : Inv (cxOf CX0 P w K mg base N qual (defScope st) f cdv callerA [] s H E0) [] (L2.start N [v]) H s1 := inv_start S hr.hd e0 rfl (.cons rv .nil) made
  have back := ht.nox.run [] s1 (L2.start N [v]) H _ J0 hq
  refine wpAny_mono back ?_ fun _ _ z => z
  rintro (_ | _ | _ | r) s' z
  · obtain ⟨_, H', J, q⟩ := z
    exact ⟨.non, H', J.os, J.bare, J.base, J.hok, rfl, q⟩
  · obtain ⟨_, _, _, q⟩ := z
    exact q.elim
  · obtain ⟨_, _, _, q⟩ := z
    exact q.elim
  · obtain ⟨y, _, H', J, ry, q⟩ := z
    exact ⟨y, H', J.os, J.bare, J.base, J.hok, ry, q⟩
end
/-- the call, from an abstract heap that knows the script at most -/
theorem top_core {P : Program} {w : World} {K : PySem.W.Frag} {mg mb : Str → Option Value} {fa a : Addr} {fd : FuncData} {x : Str} {sp : Sp} {s₁ : Shared} {vs : List Value} {H : Hp}
    (KX : K.In s₁.heap) (hns : s₁.heap.Ns mainGlobals mg) (hb : s₁.heap.Ns builtinsNs mb) (hbb : ∀ x : Str, x ≠ "__name__" → mb x = bootBuiltins x) (hlim : s₁.heap.NoLimit) (hg : s₁.gens = #[])
    (ha : s₁.heap.get? a = some { cls := .type "list", data := .seq vs.toArray })
    (F : ∀ base : Heap, K.In base → base.Ns mainGlobals mg → TopOk P w K mg base fa fd x sp) (hbind : ∀ (s : Shared) (u : Value), BindsTo s fd ⟨[u], []⟩ [(x, u)])
    (only : Only H) (hok : HOk P w H s₁.heap) (own : ∀ b u, H b = some u → b = a ∧ K.lookup a = none) (hsp : sp [.ref a] H (fun v _ => v = .bl true) E0) :
    codeAny (model P w) callerA (.call (.ref fa) ⟨[.ref a], []⟩) (fun r s' => r = .ok (.ret (.bool true)) ∧ OldK s₁.heap s'.heap ∧ s'.os = s₁.os ∧ AllBare s'.gens) s₁ := by
  -- what is no list is not tracked
  have untr : ∀ {b : Addr} {o : Obj}, s₁.heap.get? b = some o → o.data ≠ .seq vs.toArray → H b = none := fun {b o} e ne => by
    cases g : H b with
    | none => rfl
    | some u =>
      obtain ⟨rfl, _⟩ := own b u g
      rw [ha] at e
      cases e
      exact absurd rfl ne
  have spaces : ∀ {b : Addr} {m : Str → Option Value}, s₁.heap.Ns b m → (hidT s₁.heap H).Ns b m := fun {b m} ⟨o, es, ep, e, dd, r⟩ =>
    ⟨o, es, ep, hidT_get e (untr e (by rw [dd]; intro z; cases z)), dd, r⟩
  have inK : K.In (hidT s₁.heap H) := fun b o e => hidT_get (KX b o e) (by
    cases g : H b with
    | none => rfl
    | some u =>
      obtain ⟨rfl, nk⟩ := own b u g
      rw [nk] at e
      cases e)
  have md : Mod K mg (hidT s₁.heap H) := ⟨inK, spaces hns, ⟨mb, spaces hb, hbb⟩, hlim.imp fun mc z => ⟨spaces z.1, z.2⟩⟩
  have e0 : Env0 P w K mg (hidT s₁.heap H) callerA [] s₁ H := ⟨rfl, md, fun b o e => of_hidT e, Nat.le_of_eq (hidT_size _ _), trivial, fun b z => (by cases z), hok, .of_eq hg⟩
  refine codeAny_mono (F _ inK (spaces hns) s₁ H (.ref a) (.ref a) _ e0 (hbind s₁ (.ref a)) rfl hsp) ?_
  rintro (e | _ | _ | _ | u) s' z
  · exact False.elim z
  · exact False.elim z
  · exact False.elim z
  · exact False.elim z
  · obtain ⟨v, H', os, bare, un, hok', rv, rfl⟩ := z
    cases rv
    refine ⟨rfl, OldK.of_keep fun b o e => ?_, os, bare⟩
    cases g : H b with
    | none => exact un.keep b o e g (fun z => by cases z) (fun z => by cases z)
    | some y =>
      rcases only b with z | ⟨ob, xs, z⟩
      · rw [g] at z
        cases z
      · have before := (hok b _ z).1
        have after := (hok' b _ (un.frzs b ob _ z)).1
        rw [e] at before
        cases before
        exact after
/-- from the call's heap: what is tracked there is the script, or nothing -/
theorem top_call {P : Program} {w : World} {K : PySem.W.Frag} {mg mb : Str → Option Value} {fa a : Addr} {fd : FuncData} {x : Str} {sp : Sp} {s₁ : Shared} {vs : List Value} {ns : List Int}
    (KX : K.In s₁.heap) (hns : s₁.heap.Ns mainGlobals mg) (hb : s₁.heap.Ns builtinsNs mb) (hbb : ∀ x : Str, x ≠ "__name__" → mb x = bootBuiltins x) (hlim : s₁.heap.NoLimit) (hg : s₁.gens = #[])
    (ha : s₁.heap.get? a = some { cls := .type "list", data := .seq vs.toArray }) (hi : IntsAre vs ns) (hl : ns.length ≤ sizeLine)
    (F : ∀ base : Heap, K.In base → base.Ns mainGlobals mg → TopOk P w K mg base fa fd x sp) (hbind : ∀ (s : Shared) (u : Value), BindsTo s fd ⟨[u], []⟩ [(x, u)])
    (hsp : ∀ H : Hp, Only H → SqL K H a (ns.map V.int) → sp [.ref a] H (fun v _ => v = .bl true) E0) :
    codeAny (model P w) callerA (.call (.ref fa) ⟨[.ref a], []⟩) (fun r s' => r = .ok (.ret (.bool true)) ∧ OldK s₁.heap s'.heap ∧ s'.os = s₁.os ∧ AllBare s'.gens) s₁ := by
  have rv := vals_ints hi
  have hlv : vs.length ≤ sizeLine := by rw [hi.length]; exact hl
  cases hk : K.lookup a with
  | some o =>
    have e := KX a o hk
    rw [ha] at e
    cases e
    have hS : SqL K (fun _ => none) a (ns.map V.int) := .inr ⟨_, vs.toArray, _, hk, rfl, rfl, rfl, by rw [List.size_toArray]; exact hlv, by simpa using rv⟩
    exact top_core KX hns hb hbb hlim hg ha F hbind (fun _ => .inl rfl) (fun _ _ z => by cases z) (fun _ _ z => by cases z) (hsp _ (fun _ => .inl rfl) hS)
  | none =>
    have at_ : ∀ {b : Addr} {u : HO}, (if b = a then some (HO.frz { cls := .type "list", data := .seq vs.toArray } (.lst (ns.map V.int))) else none) = some u → b = a ∧ u = .frz { cls := .type "list", data := .seq vs.toArray } (.lst (ns.map V.int)) := fun {b u} z => by
      by_cases q : b = a
      · rw [if_pos q] at z
        exact ⟨q, (Option.some.inj z).symm⟩
      · rw [if_neg q] at z
        cases z
    have hO : Only (fun b => if b = a then some (.frz { cls := .type "list", data := .seq vs.toArray } (.lst (ns.map V.int))) else none) := fun b => by
      by_cases q : b = a
      · exact .inr ⟨_, _, if_pos q⟩
      · exact .inl (if_neg q)
    refine top_core KX hns hb hbb hlim hg ha F hbind hO (fun b u z => ?_) (fun b u z => ⟨(at_ z).1, hk⟩) (hsp _ hO (.inl (.inr ⟨_, if_pos rfl⟩)))
    obtain ⟨rfl, rfl⟩ := at_ z
    exact ⟨ha, by rw [List.length_map]; exact hl, vs, _, rv, ha⟩
theorem top_walk {l : PySem.W.OpenLaw} {n : Nat} {q : Program} {loose : List Str} {XP : (Str → Option Value) → Heap → Prop} {YP : World → Heap → Prop} {d : DefRec} {K : Params → PySem.W.Frag} {sp : PySem.W.Frag → Sp} {x : Str}
    (hn : l.most = some n) (hn2 : n ≤ sizeLine) (hdf : d.params.defaults = []) (hY : ∀ (w : World) (h : Heap), YP w h → (K w.params).In h)
    (F : ∀ (w : World) (mg : Str → Option Value) (fa : Addr) (h : Heap), (K w.params).In h → h.Ns mainGlobals mg → mg d.name = some (.ref fa) →
      ∃ fd : FuncData, (∀ (s : Shared) (u : Value), BindsTo s fd ⟨[u], []⟩ [(x, u)]) ∧ ∀ base : Heap, (K w.params).In base → base.Ns mainGlobals mg → TopOk l.prog w (K w.params) mg base fa fd x (sp (K w.params)))
    (hsp : ∀ (K : PySem.W.Frag) (H : Hp) (a : Addr) (ns : List Int), ns.length ≤ n → SqL K H a (ns.map V.int) → sp K [.ref a] H (fun v _ => v = .bl true) E0) :
    PySem.W.WalkO q loose XP YP l.row.toRowW d [] (fun f vs => PySem.call f vs) := by
  refine Att.attach_call hn hdf fun w s₀ s₁ mg mb fa o pm cd doc a vs ns G Y ho hd hcd hmg hobj hints hlen hg => ?_
  have KX := hY w _ Y
  obtain ⟨fd, hb, hF⟩ := F w mg fa _ KX G.T.g hmg
  exact top_call KX G.T.g G.T.b G.T.builtins G.T.nolimit hg hobj hints (Nat.le_trans hlen hn2) hF hb fun H _ hS => hsp _ H a ns hlen hS
section
variable {X : Cx}
theorem call_reprD (hg : X.A.guards = some []) (hu : X.A.units + 66 < cLine) : CallR X (.builtin "repr") (fun xs H Q => ∃ (a : Addr) (d : PyData), xs = [.ref a] ∧ Dp X.K H (.ref a) d ∧ d.showable = true ∧ SeqAt.shaped d = true ∧ d.shown.length ≤ sizeLine ∧ Q (.str d.shown) H) := by
  intro pins s σ H xs us Q I r h
  obtain ⟨a, d, rfl, hd, hs, hf, hz, q⟩ := h
  obtain ⟨u, rfl, ru⟩ := vals1 r
  cases ru
  obtain ⟨as, rd⟩ := Dp.reads I d _ _ hd rfl
  have dep := SeqAt.depth_of_shaped hf
  exact repr_of_reads' rd hs (PyData.noDict_hsm (PyData.hasDict_of_canLay _ (SeqAt.canLay_of_shaped hf))) hg (by omega) (fun _ _ e => e) (fun h' u tk hk => ⟨.str _, H, I.kept (t' := tk) hk, ⟨u, rfl⟩, q⟩) hz
end
theorem hu65 {A : Around} {k : Nat} (hr : Room k A) : A.units + 65 < cLine := by
  have := hr.un
  omega
theorem hu66 {A : Around} {k : Nat} (hr : Room k A) : A.units + 66 < cLine := by
  have := hr.un
  omega
end Own

/-! enumerate over a tuple: its making, its turns, the rule for a loop or a comprehension (pi_enumT). -/
namespace L2
open PySem PySem.Spec PyProof.Rows
theorem enum_newT (l : Addr) (items : Array Value) :
    Meets (Builtin.«enumerate.__new__» ⟨[.type "enumerate", .ref l], []⟩) (fun _ R s => s.heap.IsTuple l items ∧ R (.ok (.ret (.ref (s.heap.push { cls := .type "tuple_iterator", data := .fields #[.ref l, .int 0 0] }).objs.size)))
      { s with heap := (s.heap.push { cls := .type "tuple_iterator", data := .fields #[.ref l, .int 0 0] }).push { cls := .type "enumerate", data := .fields #[.none, .bool false, .ref s.heap.objs.size, rawInt 0, .none, .none] } }) :=
  .of_wp fun prog w A R s h => by
    obtain ⟨hp, g, d, tk, os⟩ := s
    obtain ⟨ht, h⟩ := h
    have f1 := sub_enumerate
    wp_walk using wpAny_pyIter_tuple ht
    refine wpAny_stack_any fun st => ?_
    wp_walk
    split
    · wp_walk
      split
      · wp_walk using wpAny_pyIter_tuple ht
        exact ⟨_, rfl, h⟩
      · wp_walk using wpAny_pyIter_tuple ht
        exact ⟨_, rfl, h⟩
    · wp_walk using wpAny_pyIter_tuple ht
      exact ⟨_, rfl, h⟩
theorem call_enumT {prog : Program} {w : World} {A : Around} {E : Value → Shared → Prop} {s : Shared} {l : Addr} {items : Array Value} {Q : Value → Shared → Prop} (ht : s.heap.IsTuple l items)
    (k : ∀ h' : Heap, IsEnum h' (s.heap.objs.size + 1) s.heap.objs.size 0 .none → h'.IsTupleIter s.heap.objs.size l 0 → h'.objs.size = s.heap.objs.size + 2 → (∀ (b : Addr) (o : Obj), s.heap.get? b = some o → h'.get? b = some o) →
      Q (.ref (s.heap.objs.size + 1)) { s with heap := h' }) : wpAny (model prog w) A (call (.type "enumerate") [.ref l]) Q E s := by
  have sz : ∀ (h : Heap) (o : Obj), (h.push o).objs.size = h.objs.size + 1 := fun h o => by unfold Heap.push; exact Array.size_push _
  refine callType_new F.called_enumerate (by decide) (F.typeCall_enumerate_1 _) (F.newCall_enumerate_1 _) (fun obj => F.args_object_init_2 _ _) F.entry_enumerate_new (enum_newT l items) ⟨ht, ?_⟩
  generalize ho1 : ({ cls := .type "tuple_iterator", data := .fields #[.ref l, .int 0 0] } : Obj) = o1
  generalize ho2 : ({ cls := .type "enumerate", data := .fields #[.none, .bool false, .ref s.heap.objs.size, rawInt 0, .none, .none] } : Obj) = o2
  have f1 : o1.isFreed = false := by rw [← ho1]; rfl
  have f2 : o2.isFreed = false := by rw [← ho2]; rfl
  have g2 : ((s.heap.push o1).push o2).get? (s.heap.push o1).objs.size = some o2 := Heap.get?_push_size _ f2
  have g1 : ((s.heap.push o1).push o2).get? s.heap.objs.size = some o1 := Heap.get?_push_of_some _ (Heap.get?_push_size _ f1)
  refine ⟨⟨o2, g2, by rw [← ho2]⟩, ?_⟩
  rw [sz] at g2 ⊢
  exact k _ (g2.trans (by rw [← ho2])) ⟨o1, g1, by rw [← ho1], by rw [← ho1]; rfl⟩ (by rw [sz, sz]) (fun b o e => Heap.get?_push_of_some _ (Heap.get?_push_of_some _ e))
theorem tup_next_item (it t : Addr) (i : Nat) (items : Array Value) (x : Value) :
    Meets (Builtin.«tuple_iterator.__next__» ⟨[.ref it], []⟩) (fun _ R s => s.heap.IsTupleIter it t i ∧ s.heap.IsTuple t items ∧ items[i]? = some x ∧ ∀ h' : Heap, h'.IsTupleIter it t (i + 1) → Heap.SameBut it s.heap h' → R (.ok (.ret x)) { s with heap := h' }) :=
  .of_wp fun prog w A R s h => by
    obtain ⟨hp, g, d, tk, os⟩ := s
    obtain ⟨hi, ht, hx, h⟩ := h
    obtain ⟨⟨cls, dd, data, sl⟩, ho, hc, hd⟩ := hi
    obtain ⟨⟨cls2, dd2, data2, sl2⟩, ho2, hc2, n2, hd2⟩ := ht
    simp only at hc hd hc2 hd2
    subst hc hd hc2 hd2
    have q2 : (#[Value.ref t, Value.int (↑i) 0] : Array Value)[1]? = some (Value.int (↑i) 0) := rfl
    wp_walk using wpAny_load' ho
    rw [Int.toNat_natCast, hx]
    refine wpAny_bind (wpAny_setField ho rfl (by show 1 < 2; decide) ?_)
    wp_walk
    exact ⟨_, rfl, h _ ⟨_, Heap.get?_update_self _ ho rfl, rfl, rfl⟩ (Heap.SameBut.update _ _ _)⟩
theorem tup_next_end (it t : Addr) (i : Nat) (items : Array Value) :
    Meets (Builtin.«tuple_iterator.__next__» ⟨[.ref it], []⟩) (fun A R s => A.handled = none ∧ s.heap.IsTupleIter it t i ∧ s.heap.IsTuple t items ∧ items[i]? = none ∧ ∀ (h' : Heap) (e : Addr), Heap.ExtBut it s.heap h' → (∃ o, h'.get? e = some o ∧ o.cls = .type "StopIteration") → R (.error (.ref e)) { s with heap := h' }) :=
  .of_wp fun prog w A R s h => by
    obtain ⟨hp, g, d, tk, os⟩ := s
    obtain ⟨hh, hi, ht, hx, h⟩ := h
    obtain ⟨⟨cls, dd, data, sl⟩, ho, hc, hd⟩ := hi
    obtain ⟨⟨cls2, dd2, data2, sl2⟩, ho2, hc2, n2, hd2⟩ := ht
    simp only at hc hd hc2 hd2
    subst hc hd hc2 hd2
    have q2 : (#[Value.ref t, Value.int (↑i) 0] : Array Value)[1]? = some (Value.int (↑i) 0) := rfl
    wp_walk using wpAny_load' ho
    rw [Int.toNat_natCast, hx]
    have hh1 : A.in1.handled = none := hh
    wp_walk using wpAny_raiseNew_none hh1
    refine h _ _ ?_ ?_
    · exact fun b o nb e => Heap.get?_push_of_some _ (Heap.get?_push_of_some _ ((Heap.get?_update_other _ _ (Ne.symm nb)).trans e))
    · exact ⟨_, Heap.get?_push_size _ rfl, rfl⟩
theorem nextOf_tup_item {prog : Program} {w : World} {A : Around} {E : Value → Shared → Prop} {s : Shared} {it t : Addr} {i : Nat} {items : Array Value} {x : Value} {Q : Value → Shared → Prop} (hi : s.heap.IsTupleIter it t i) (ht : s.heap.IsTuple t items) (hx : items[i]? = some x)
    (k : ∀ h' : Heap, h'.IsTupleIter it t (i + 1) → Heap.SameBut it s.heap h' → Q x { s with heap := h' }) : wpAny (model prog w) A (Builtin.SmallTypes.nextOf (.ref it)) Q E s := by
  unfold Builtin.SmallTypes.nextOf
  refine wpAny_bind (wpAny_callSpecial?_slot hi.typeIs F.slot_tuple_iterator_next (call_meets F.slot_tuple_iterator_next hi.typeIs F.entry_tuple_iterator_next (F.args_tuple_iterator_next_1 _) (tup_next_item it t i items x) ⟨hi, ht, hx, fun h' a b => ?_⟩))
  exact wpAny_pure (k h' a b)
theorem nextOf_tup_end {prog : Program} {w : World} {A : Around} {E : Value → Shared → Prop} {s : Shared} {it t : Addr} {i : Nat} {items : Array Value} {Q : Value → Shared → Prop} (hh : A.handled = none) (hi : s.heap.IsTupleIter it t i) (ht : s.heap.IsTuple t items) (hx : items[i]? = none)
    (k : ∀ (h' : Heap) (e : Addr), Heap.ExtBut it s.heap h' → (∃ o, h'.get? e = some o ∧ o.cls = .type "StopIteration") → E (.ref e) { s with heap := h' }) : wpAny (model prog w) A (Builtin.SmallTypes.nextOf (.ref it)) Q E s := by
  unfold Builtin.SmallTypes.nextOf
  exact wpAny_bind (wpAny_callSpecial?_slot hi.typeIs F.slot_tuple_iterator_next (call_meets F.slot_tuple_iterator_next hi.typeIs F.entry_tuple_iterator_next (F.args_tuple_iterator_next_1 _) (tup_next_end it t i items) ⟨hh, hi, ht, hx, k⟩))
theorem drawsTup {prog : Program} {w : World} {A : Around} (hh : A.handled = none) (it t : Addr) (ne : t ≠ it) (items : Array Value) :
    Draws prog w A it [it, t] items.size (fun i v => items[i]? = some v) (fun i h => h.IsTupleIter it t i ∧ h.IsTuple t items) where
  live := fun i h z => z.1.imp fun o y => y.1
  frame := fun i h h' z k => ⟨z.1.at fun o e => k it List.mem_cons_self o e, z.2.imp fun o y => ⟨k t (List.mem_cons_of_mem _ List.mem_cons_self) o y.1, y.2⟩⟩
  item := fun i s Q E hi z k => nextOf_tup_item z.1 z.2 (Array.getElem?_eq_getElem hi) fun h' a b => k _ h' s.toks (Array.getElem?_eq_getElem hi) ⟨a, z.2.imp fun o y => ⟨(b.2 t ne).trans y.1, y.2⟩⟩ b
  done := fun s Q E z k => nextOf_tup_end hh z.1 z.2 (Array.getElem?_eq_none (Nat.le_refl _)) k
def IteT (K : PySem.W.Frag) (a : Addr) : It where
  go := fun i H => ∃ xs x, SqT K H a xs ∧ xs[i]? = some x
  yld := fun i H v H' => ∃ T x, v = .ref T ∧ H T = none ∧ H' = upd H T (.tup [.int i, x]) ∧ ∀ xs, SqT K H a xs → xs[i]? = some x
  stop := fun i H => ∃ xs, SqT K H a xs ∧ xs.length ≤ i
theorem turn_enumT {P : Program} {w : World} {K : PySem.W.Frag} {elts : List Expr} {kk : Nat} {tpos : Pos} (a e it : Addr) :
    Turn P w K (.Tuple elts kk tpos) (IteT K a) [e, it] e (fun i h => (∃ old, IsEnum h e it (i : Int) old) ∧ h.IsTupleIter it a i ∧ e ≠ it) where
  mem := List.mem_cons_self
  obj := fun i h ⟨⟨old, h1⟩, ⟨o, h2, _, h4⟩, _⟩ b hb => by
    rcases List.mem_cons.mp hb with rfl | hb
    · exact ⟨_, h1, fun v z => by cases z⟩
    · rw [List.mem_singleton.mp hb]
      exact ⟨o, h2, fun v z => by rw [h4] at z; cases z⟩
  keep := fun i h h' ⟨⟨old, h1⟩, h2, ne⟩ k => ⟨⟨old, k e List.mem_cons_self _ h1⟩, h2.at fun o z => k it (List.mem_cons_of_mem _ List.mem_cons_self) o z, ne⟩
  item := fun X hP hw hK hc i pins s σ H E I hf ⟨⟨old, h1⟩, h2, ne⟩ ⟨xs, x, hx, hi⟩ => by
    subst hP hw hK
    obtain ⟨its, rv, ht, hl⟩ := I.tuple hx
    obtain ⟨u, hu, ru⟩ := Vals.get rv hi
    have hu' : its.toArray[i]? = some u := by rw [List.getElem?_toArray]; exact hu
    have hlt : i < its.toArray.size := by
      rcases Nat.lt_or_ge i its.toArray.size with z | z
      · exact z
      · rw [Array.getElem?_eq_none z] at hu'; cases hu'
    obtain ⟨oi, gi, ci, di⟩ := h2
    obtain ⟨ot, gt, ct, nt, dt⟩ := ht
    have ae : a ≠ e := fun z => by rw [z, h1] at gt; cases gt; exact absurd (Value.type.inj ct) (by decide)
    have ai : a ≠ it := fun z => by rw [z, gi] at gt; cases gt; rw [ci] at ct; exact absurd (Value.type.inj ct) (by decide)
    refine wpAny_pyNext_enum_itemD (drawsTup (A := X.A.in1) (I.ok.hd hc) it a ai its.toArray) h1 ⟨⟨oi, gi, ci, di⟩, ⟨ot, gt, ct, nt, dt⟩⟩ hlt ne (by simp [ne, ae.symm]) fun y h' tk hy out st gT sz keep => ?_
    rw [hu'] at hy
    cases hy
    have eT : e ≠ s.heap.objs.size := fun z => by rw [← z, out] at gT; exact absurd (Value.type.inj (congrArg Obj.cls (Option.some.inj gT))) (by decide)
    have iT : it ≠ s.heap.objs.size := fun z => by obtain ⟨o, g, c, _⟩ := st.1; rw [z, gT] at g; cases g; exact absurd (Value.type.inj c) (by decide)
    refine ⟨_, rfl, wpAny_letOwnedTupleGo_enum out fun h2 hE same => ⟨.ref s.heap.objs.size, upd H s.heap.objs.size (.tup [.int i, x]), ?_, rfl, ⟨_, x, rfl, I.fresh, rfl, fun ys hy => ?_⟩, ⟨⟨_, hE⟩, ?_, ne⟩, fun b hb => ?_⟩⟩
    · refine I.turnedNew (ch := [e, it]) (fun b o nb g => ?_) hf (Nat.le_refl _) ?_
      · have b1 : b ≠ e := fun z => nb (by rw [z]; exact List.mem_cons_self)
        have b2 : b ≠ it := fun z => nb (by rw [z]; exact List.mem_cons_of_mem _ List.mem_cons_self)
        exact (same.2 b b1).trans (keep b o b1 b2 g)
      · have g2 : h2.get? s.heap.objs.size = _ := (same.2 _ (Ne.symm eT)).trans gT
        exact ⟨by show 2 ≤ 16777216; decide, [.int i tk, u], .cons ⟨tk, rfl⟩ (.cons ru .nil), ⟨_, g2, rfl, _, rfl⟩⟩
    · rw [I.tuple_inj hy hx]
      exact hi
    · exact st.1.at fun o g => (same.2 it ne.symm).trans g
    · rcases List.mem_cons.mp hb with rfl | hb
      · rw [upd_ne eT]
        exact (hf _ List.mem_cons_self).1
      · rw [List.mem_singleton.mp hb, upd_ne iT]
        exact (hf it (List.mem_cons_of_mem _ List.mem_cons_self)).1
  done := fun X hP hw hK hc i pins s σ H E I hf ⟨⟨old, h1⟩, h2, ne⟩ ⟨xs, hx, hi⟩ => by
    subst hP hw hK
    obtain ⟨its, rv, ht, hl⟩ := I.tuple hx
    have hn : its.toArray[i]? = none := Array.getElem?_eq_none (by have := rv.length; simp; omega)
    have D : Draws X.prog X.w X.A.in1 it [it, a] i (fun _ _ => True) (fun j h => j = i ∧ h.IsTupleIter it a i ∧ h.IsTuple a its.toArray) :=
      { live := fun j h z => z.2.1.imp fun o y => y.1
        frame := fun j h h' z k => ⟨z.1, z.2.1.at fun o g => k it List.mem_cons_self o g, z.2.2.imp fun o y => ⟨k a (List.mem_cons_of_mem _ List.mem_cons_self) o y.1, y.2⟩⟩
        item := fun j s Q E hj z _ => absurd z.1 (Nat.ne_of_lt hj)
        done := fun s Q E z k => nextOf_tup_end (I.ok.hd hc) z.2.1 z.2.2 hn k }
    refine wpAny_pyNext_enum_endD D h1 ⟨rfl, h2, ht⟩ fun h' ext => ⟨rfl, I.turnedL (ch := [e, it]) (fun b o nb g => ext b o (fun z => nb (by rw [z]; exact List.mem_cons_of_mem _ List.mem_cons_self)) g) hf⟩
  self := fun A i s Q E ⟨⟨old, h1⟩, h2, ne⟩ q => wpAny_pyIter_enum h1 q
def iEnumT (K : PySem.W.Frag) (ta : TE) : TI := fun σ H R => ta σ H fun x H1 => ∃ (a : Addr) (xs : List V), x = .ref a ∧ SqT K H1 a xs ∧ R (IteT K a) H1
theorem pi_enumT {X : Cx} {e : Expr} {ta : TE} {p pos tpos : Pos} {elts : List Expr} {kk : Nat} (hg : Gl X "enumerate") (hm : X.mg "enumerate" = none) (ha : PE X e ta)
    (na : starEach [e] X.env = (false, eval e X.env) :: starEach [] X.env := by rfl) : PI X (.Tuple elts kk tpos) (.Call (.Name "enumerate" p) [e] [] pos) (iEnumT X.K ta) := by
  refine ⟨fun pins s σ H R I h => ?_⟩
  refine Call_ (ld_blt I hg hm PyProof.Rows.boot_enumerate (PyProof.Rows.callWith_type1 (PyProof.Rows.args_cons (thn (ha.run pins s σ H _ I h) fun v s1 ⟨x, H1, J, rx, z⟩ => PyProof.Rows.args_nil ?_) na) na rfl))
  obtain ⟨a, xs, rfl, hx, q⟩ := z
  cases rx
  obtain ⟨its, rv, ht, hl⟩ := J.tuple hx
  refine call_enumT ht fun h' hE hI sz kp => wpAny_pyIter_enum hE ?_
  have J2 : Inv X pins σ H1 { s1 with heap := h' } := J.kept fun b o e => kp b o e
  have f1 : H1 s1.heap.objs.size = none := J.fresh
  have J1 : Inv X pins σ H1 { s1 with heap := s1.heap.push { cls := .type "tuple", data := .seq #[] } } := J.kept fun b o e => Heap.get?_push_of_some _ e
  have f2 : H1 (s1.heap.objs.size + 1) = none := by
    have := J1.fresh
    rw [show (s1.heap.push { cls := .type "tuple", data := .seq #[] }).objs.size = s1.heap.objs.size + 1 from Array.size_push _] at this
    exact this
  refine ⟨_, [s1.heap.objs.size + 1, s1.heap.objs.size], _, IteT X.K a, H1, rfl, J2, turn_enumT a _ _, ⟨⟨.none, hE⟩, hI, Nat.succ_ne_self _⟩, fun b hb => ?_, q⟩
  rcases List.mem_cons.mp hb with rfl | hb
  · exact J.fpOk (Nat.le_succ _) f2
  · rw [List.mem_singleton.mp hb]
    exact J.fpOk (Nat.le_refl _) f1
/-- enumerate of a tuple, for for_it and lc_it -/
theorem walk_enumT {K : PySem.W.Frag} {a : Addr} {xs : List V} : Walk (IteT K a) xs.length (fun H => SqT K H a xs) (YPair (fun i => some (V.int i)) fun i => xs[i]?) where
  goes := fun i H hi h => ⟨xs, xs[i], h, List.getElem?_eq_getElem hi⟩
  stops := fun H h => ⟨xs, h, Nat.le_refl _⟩
  yields := fun i H x H' hi h ⟨T, y, e, n, u, k⟩ => ⟨T, _, y, e, n, u, rfl, k xs h⟩
end L2

/-! set(numbers) of a list; list(d.values()). -/
namespace Own
open PySem PySem.Spec PyProof.Rows L2
section
variable {prog : Program} {w : World} {A : Around} {E : Value → Shared → Prop} {s : Shared}
set_option maxHeartbeats 3200000 in
theorem ints_of_list {l : Addr} {its : Array Value} {ns : List Int} {Q : Value → Shared → Prop} (hh : A.handled = none) (hl : s.heap.IsList l its) (hi : PyProof.Rows.IntsAre its.toList ns) (small : ns.length < 1000)
    (h : ∀ (h' : Heap) (tk c : Nat), SetR w h' s.heap.objs.size (fun j => decide (j ∈ ns)) c → c ≤ ns.length → (∀ b o, b < s.heap.objs.size → s.heap.get? b = some o → h'.get? b = some o) → Q (.ref s.heap.objs.size) { s with heap := h', toks := tk }) :
    wpAny (model prog w) A (call (.type "set") [.ref l]) Q E s := by
  obtain ⟨c, tl, hmro⟩ := PySem.F.called_set.mro
  have hmade := PySem.F.called_set.made
  have hsub := PySem.F.called_set.sub
  refine wpAny_call (codeAny_of_tree (wpAny_pure ⟨Code.quiet_builtin _ (by decide +kernel), codeAny_builtin PySem.F.entry_type_call ?_⟩))
  rw [Around.under_plain (weight_type_call_type "set" [.ref l] []) rfl]
  have g1 := PySem.F.called_set.notType
  have g2 := PySem.F.called_set.canCreate
  have g3 := PySem.F.typeCall_set_1 (.ref l)
  repeat (any_goals (first | assumption | wp_step))
  -- the empty set is made
  generalize hled : (!w.params.followText "set-order") = led
  have made : ∀ {M : Value → Shared → Prop}, M (.ref s.heap.objs.size) { s with heap := s.heap.push { cls := .type "set", dict := none, data := .set #[] 0 (.fresh 0 0 led) } } → codeAny (model prog w) A.in1 (.call (.builtin "set.__new__") ⟨[.type "set", .ref l], []⟩) (wants M E) s := fun z => code_set_led1 (.ref l) (by rw [hled]; exact z)
  refine codeAny_mono (made (M := fun v s₁ => v = .ref s.heap.objs.size ∧ s₁ = { s with heap := s.heap.push { cls := .type "set", dict := none, data := .set #[] 0 (.fresh 0 0 led) } }) ⟨rfl, rfl⟩) ?_
  rintro (e | _ | _ | _ | v) s₁ z
  · exact z
  · exact z.elim
  · exact z.elim
  · exact z.elim
  · obtain ⟨rfl, rfl⟩ := z
    have at0 : (s.heap.push { cls := .type "set", dict := none, data := .set #[] 0 (.fresh 0 0 led) }).get? s.heap.objs.size = some { cls := .type "set", dict := none, data := .set #[] 0 (.fresh 0 0 led) } := Heap.get?_push_size _ rfl
    have ty : Shared.TypeIs { s with heap := s.heap.push { cls := .type "set", dict := none, data := .set #[] 0 (.fresh 0 0 led) } } (.ref s.heap.objs.size) "set" := ⟨_, at0, rfl⟩
    have g4 := PySem.F.called_set.init.lookup
    have g5 := PySem.F.called_set.init.bind (.ref s.heap.objs.size)
    repeat (any_goals (first | assumption | wp_step))
    -- and filled
    refine codeAny_mono (codeAny_call_builtin (R := wants (fun r s₂ => r = .none ∧ ∃ h' tk c, s₂ = { s with heap := h', toks := tk } ∧ SetR w h' s.heap.objs.size (fun j => decide (j ∈ ns)) c ∧ c ≤ ns.length ∧ (∀ b o, b < s.heap.objs.size → s.heap.get? b = some o → h'.get? b = some o)) E)
      PySem.F.called_set.init.plain PySem.F.entry_set_init (check_set_init_1 ty ?_)) ?_
    · obtain ⟨⟨cls, dd, dat, sl⟩, hol, hc, nl, hd⟩ := hl
      simp only at hc hd
      subst hc hd
      have old := Heap.lt_size hol
      have hol2 : (s.heap.push { cls := .type "set", dict := none, data := .set #[] 0 (.fresh 0 0 led) }).get? l = some { cls := .type "list", dict := dd, data := .seq its nl, slots := sl } := Heap.get?_push_of_some _ hol
      have hl2 : (s.heap.push { cls := .type "set", dict := none, data := .set #[] 0 (.fresh 0 0 led) }).IsList l its := ⟨_, hol2, rfl, nl, rfl⟩
      have f1 := PySem.F.sub_list_set
      have f2 := PySem.F.sub_list_frozenset
      have f3 : (Value.type "list" == Value.type "dict") = false := by decide
      unfold Builtin.«set.__init__» noKeywords Builtin.Frozenset.updateFrom
      generalize hit : pyIter = itf
      wp_walk
      subst hit
      refine wpAny_pyIter_list hl2 ?_
      refine wpAny_bind (wpAny_runValue ?_)
      have top : (s.heap.push { cls := .type "set", dict := none, data := .set #[] 0 (.fresh 0 0 led) }).objs.size = s.heap.objs.size + 1 := Heap.size_push ..
      have ne1 : l ≠ (s.heap.push { cls := .type "set", dict := none, data := .set #[] 0 (.fresh 0 0 led) }).objs.size := by rw [top]; exact Nat.ne_of_lt (Nat.lt_succ_of_lt old)
      have out : s.heap.objs.size ∉ [(s.heap.push { cls := .type "set", dict := none, data := .set #[] 0 (.fresh 0 0 led) }).objs.size, l] := by
        rw [top]
        intro m
        rcases List.mem_cons.mp m with e | m
        · exact absurd e (Nat.ne_of_lt (Nat.lt_succ_self _))
        · exact absurd (List.mem_singleton.mp m) (Nat.ne_of_gt old)
      have len : its.size = ns.length := by rw [← PyProof.Rows.IntsAre.length hi, Array.length_toList]
      have val : ∀ (i : Nat) (v : Value), its[i]? = some v → ∃ k t, ns[i]? = some k ∧ v = .int k t := fun i v hv => by
        have lt : i < ns.length := by rw [← len]; exact (Array.getElem?_eq_some_iff.mp hv).1
        obtain ⟨t, e⟩ := PyProof.Rows.IntsAre.int_at hi i v (by rw [Array.getElem?_toList]; exact hv)
        rw [List.getD_eq_getElem?_getD, List.getElem?_eq_getElem lt] at e
        exact ⟨ns[i], t, List.getElem?_eq_getElem lt, e⟩
      refine set_update_ints ((Walks.list (show A.in1.in1.in1.handled = none by simp [hh]) _ l ne1 its).toS) s.heap.objs.size out ns len (by show _ < 4096; omega) val (its.size - 0) 0 _ (by omega) (Nat.zero_le _) ⟨⟨_, Heap.get?_push_size _ rfl, rfl, rfl⟩, hl2.push _⟩ ⟨0, Nat.le_refl 0, setR_new_at ?_⟩ ?_
      · rw [hled]
        exact Heap.get?_push_of_some _ at0
      · rintro ⟨h', g', d', tk', os'⟩ c m hc hS'
        obtain rfl : g' = s.gens := m.gens
        obtain rfl : d' = s.drawn := m.drawn
        obtain rfl : os' = s.os := m.os
        refine wpAny_pure (wpAny_pure ⟨rfl, h', tk', c, rfl, hS', by omega, fun b o hb e => ?_⟩)
        refine m.heap b o (fun mm => ?_) (Heap.get?_push_of_some _ (Heap.get?_push_of_some _ e))
        rcases List.mem_cons.mp mm with e1 | mm
        · exact absurd e1 (Nat.ne_of_lt hb)
        · have e2 : b = (s.heap.push { cls := .type "set", dict := none, data := .set #[] 0 (.fresh 0 0 led) }).objs.size := List.mem_singleton.mp mm
          rw [top] at e2
          omega
    · rintro (e | _ | _ | _ | v) s₂ z
      · exact z
      · exact z.elim
      · exact z.elim
      · exact z.elim
      · obtain ⟨rfl, h', tk, c, rfl, hS', hc, kp⟩ := z
        repeat (any_goals (first | assumption | wp_step))
        exact h _ _ _ hS' hc kp
end
section
variable {X : Cx}
def rSetL (w : World) (K : PySem.W.Frag) : List V → Hp → VK → Prop := fun vs H Q => ∃ (l : Addr) (ns : List Int), vs = [.ref l] ∧ SqL K H l (ns.map V.int) ∧ ns.length < 1000 ∧
  ∀ (p : Addr) (c : Nat), H p = none → c ≤ ns.length → Q (.ref p) (upd H p (SetO w p (fun j => decide (j ∈ ns)) c))
/-- set(numbers) of a list -/
theorem cr_setL {w : World} (hc : X.calm = true) (hw : X.w = w) : CallR X (.type "set") (rSetL w X.K) := by
  subst hw
  intro pins s σ H vs us Q I r h
  obtain ⟨l, ns, rfl, hq, small, q⟩ := h
  rw [Vals.ref1 r]
  obtain ⟨its, rv, pl, _⟩ := I.list hq
  refine ints_of_list (I.ok.hd hc) pl.isList (by simpa using ints_of_vals rv) small fun h' tk c hS le kp => ?_
  have n := I.hok.fresh (Nat.le_refl s.heap.objs.size)
  exact ⟨.ref _, upd H s.heap.objs.size (SetO X.w s.heap.objs.size (fun j => decide (j ∈ ns)) c), I.laid (t' := tk) (fun b u e => kp b u (Heap.lt_size e) e) (Nat.le_refl _) (setO_new hS), rfl, q _ c n le⟩
theorem vals_snd : ∀ {kvs : List (Key × V)} {vs : List (Key × Value)}, KV kvs vs → Vals (kvs.map (·.2)) (vs.map (·.2))
  | _, _, .nil => .nil
  | _, _, .cons h t => .cons h.2 (vals_snd t)
variable {e : Expr} {te : TE} {p apos cpos pos : Pos}
def tListVals (te : TE) : TE := fun σ H Q => te σ H fun x H1 => ∃ (d : Addr) (kvs : List (Key × V)), x = .ref d ∧ H1 d = some (.dK kvs) ∧ ∀ l, H1 l = none → Q (.ref l) (upd H1 l (.lst (kvs.map (·.2))))
/-- list(e.values()) -/
theorem pe_listVals (hc : X.calm = true) (he : PE X e te) (hg : Gl X "list") (hm : X.mg "list" = none) (hv : bootBuiltins "list" = some (.type "list")) (hbase : attributeBase e "values" X.env (eval e X.env) = eval e X.env := by rfl) (hline : (apos.endLine == cpos.line) = true := by rfl)
    (hs : starEach [.Call (.Attribute e "values" apos) [] [] cpos] X.env = (false, eval (.Call (.Attribute e "values" apos) [] [] cpos) X.env) :: starEach [] X.env := by rfl) :
    PE X (.Call (.Name "list" p) [.Call (.Attribute e "values" apos) [] [] cpos] [] pos) (tListVals te) := by
  refine ⟨fun pins s σ H Q I z => wpAny_Call_Name_kw (ld_blt I hg hm hv (PyProof.Rows.callWith_type1 ?_ hs rfl))⟩
  rw [hs]
  refine Calls.spliced_cons (wpAny_Call_method (T := "dict") (id := "dict.values") hbase rfl hline PySem.F.plainAttrs_dict PySem.F.slot_dict_values PySem.F.type_dict_values (thn (he.run pins s σ H _ I z) ?_))
  rintro u s1 ⟨x, H1, I1, rx, d, kvs, rfl, hd, q⟩
  cases rx
  obtain ⟨len, notMods, vs, kv, isDict⟩ := I1.hok d _ hd
  obtain ⟨ep, stands⟩ := isDict.dictAt
  have same : kvs.length = vs.length := Paired.length kv
  refine ⟨isDict.typeIs, isDict.mapOf.noDict, method_meetsIn PySem.F.slot_dict_values PySem.F.entry_dict_values rfl (PySem.evalArgs_none ⟨rfl, isDict.typeIs, PySem.F.args_dict_values_1 _, _, meets_dict_values (mixKind X.prog X.w) d notMods, ⟨vs, isDict⟩, Calls.spliced_nil ?_⟩)⟩
  have J : Inv X pins σ H1 { s1 with heap := s1.heap.push { cls := .type "dict_values", data := .fields #[.ref d] } } := I1.kept (t' := s1.toks) fun _ _ there => Heap.get?_push_of_some _ there
  refine PySem.W.kdl_call (PySem.W.kdl_values (knd := mixKind X.prog X.w) (kvs := vs) (ep := ep) (r := s1.heap.objs.size) (d := d)) (I1.ok.hd hc) ⟨⟨_, Heap.get?_push_size _ rfl, rfl, rfl⟩, stands.push _⟩ (by omega) fun h' tk acc c' kp at0 its => ?_
  have all : acc.toList = vs.map (·.2) := PySem.W.kdl_vals_eq acc.toList (by rw [Array.length_toList]; exact its.1) fun j v e => its.2 j v (by rw [← Array.getElem?_toList]; exact e)
  refine ⟨.ref _, upd H1 _ (.lst (kvs.map (·.2))), J.laid (t' := tk) kp (Nat.le_refl _) ⟨by rw [List.length_map]; exact len, acc.toList, c', by rw [all]; exact vals_snd kv, ?_⟩, rfl, q _ (J.hok.fresh (Nat.le_refl _))⟩
  rw [Array.toArray_toList]
  exact at0
end
end Own

/-! x in t, t a tuple, all of any depth. -/
namespace Own
open PySem PySem.Spec PyProof.Rows L2
def rInT (K : PySem.W.Frag) : R2 := fun x y H Q => ∃ (d : PyData) (ds : List PyData), Dp K H x d ∧ Dp K H y (.tuple ds) ∧ SeqAt.shaped d = true ∧ SeqAt.shaped (.tuple ds) = true ∧ Q (.bl (ds.any fun z => PyData.eqv z d)) H
theorem op_inT {X : Cx} (room : X.A.units + 65 < cLine) : OpR X (compareOp .In) (rInT X.K) := by
  rintro pins s σ H x y v u Q I rx ry ⟨d, ds, dx, dy, sx, sy, q⟩
  obtain ⟨_, seen⟩ := Dp.reads I d x v dx rx
  obtain ⟨_, held⟩ := Dp.reads I (.tuple ds) y u dy ry
  exact SeqAt.in_tuple_reads held seen (SeqAt.canLay_of_shaped sy) (SeqAt.canLay_of_shaped sx) (room_in_shaped sx room) ⟨.bl _, H, I, rfl, q⟩
def rNotInT (K : PySem.W.Frag) : R2 := fun x y H Q => ∃ (d : PyData) (ds : List PyData), Dp K H x d ∧ Dp K H y (.tuple ds) ∧ SeqAt.shaped d = true ∧ SeqAt.shaped (.tuple ds) = true ∧ Q (.bl (!ds.any fun z => PyData.eqv z d)) H
theorem op_notInT {X : Cx} (room : X.A.units + 65 < cLine) : OpR X (compareOp .NotIn) (rNotInT X.K) := by
  rintro pins s σ H x y v u Q I rx ry ⟨d, ds, dx, dy, sx, sy, q⟩
  obtain ⟨_, there⟩ := Dp.reads I (.tuple ds) y u dy ry
  obtain ⟨_, own⟩ := Dp.reads I d x v dx rx
  exact SeqAt.notIn_tuple_reads there own (SeqAt.canLay_of_shaped sy) (SeqAt.canLay_of_shaped sx) (room_in_shaped sx room) ⟨.bl _, H, I, rfl, q⟩
end Own

/-! name = {k: v for ..} on one line, the name a local. -/
namespace Own
open PySem PySem.Spec PyProof.Rows L2
theorem swD_true {kx vx : Expr} {gs : List Comprehension} {scope : Scope} {pos py : Pos} {y : Str} {l : Nat} {env : Env} (fn : env.scope.kind = .function) (loc : env.scope.names.lookup y = some .local) (row : (py.line == pos.line) = true)
    (out : (scope.names.any fun (n, k) => n == y && (k == .local || k == .cell)) = false) : swapsWith (.DictComp kx vx gs scope pos) (some (.Name y py)) l env = pure true := by
  have kind : env.kindOf y = some .local := loc
  have block : env.blockKind = .function := by rw [Env.blockKind, fn] <;> rfl
  unfold swapsWith
  simp only [block, kind, out, Expr.pos, row]
  rfl
/-- a comprehension within a comprehension: what stands around it is told anew -/
theorem look_re {env : Env} {x : Str} : ∀ {names : List (Str × NameKind)}, names.lookup x = some .cell ∨ names.lookup x = some .free →
    (names.map fun (n, k) => if (k == NameKind.free && env.scope.kind == .function && env.kindOf n == some .cell) then (n, NameKind.cell) else (n, k)).lookup x = some .cell ∨
    (names.map fun (n, k) => if (k == NameKind.free && env.scope.kind == .function && env.kindOf n == some .cell) then (n, NameKind.cell) else (n, k)).lookup x = some .free
  | [], h => by rcases h with h | h <;> cases h
  | (n, k) :: r, h => by
    have ih := @look_re env x r
    have pair : ∀ c : Bool, (if c = true then (n, NameKind.cell) else (n, k)) = (n, if c = true then NameKind.cell else k) := fun c => by cases c <;> rfl
    rw [List.map_cons]
    dsimp only
    rw [pair]
    generalize (k == NameKind.free && env.scope.kind == .function && env.kindOf n == some .cell) = c
    by_cases e : x = n
    · subst e
      rw [List.lookup_cons_self] at h
      rw [List.lookup_cons_self]
      cases c with
      | true => exact .inl rfl
      | false => exact h
    · have b : (x == n) = false := beq_eq_false_iff_ne.mpr e
      rw [List.lookup_cons, b] at h
      rw [List.lookup_cons, b]
      exact ih h
theorem blkOk_re {N : List Str} {sc scope : Scope} {own : List (Str × Nat)} {env : Env} (h : BlkOk N sc scope own) : BlkOk N (relabel sc env) scope own :=
  ⟨h.kind, h.uniq, h.ix, fun y hy e => look_re (h.free y hy e), h.own⟩
section
variable {X : Cx} {i : Nat} {y : Str} {py : Pos} {kx vx tg iter : Expr} {ifs : List Expr} {scope : Scope} {own : List (Str × Nat)} {pos spos : Pos} {wi : TI} {g : TG} {tt : TT} {tk tv : TE}
theorem ps_setDc (hc : X.calm = true) (hN : X.N.Nodup) (hy : X.N[i]? = some y) (hyl : X.env.scope.names.lookup y = some .local) (hsw : swapsWith (.DictComp kx vx [⟨tg, iter, ifs, 0⟩] scope pos) (some (.Name y py)) spos.line X.env = pure true)
    (hi : PI X tg iter wi) (ok : BlkOk X.N X.env.scope scope own)
    (hg : ∀ (s : Shared) (H : Hp) (C : Addr) (cl : List (Str × Addr)) (fp : List Addr), PG (X.blk s H scope (compEnvC scope cl C X.env) fp) tg g)
    (ht : ∀ (s : Shared) (H : Hp) (C : Addr) (cl : List (Str × Addr)) (fp : List Addr), PTs (X.blk s H scope (compEnvC scope cl C X.env) fp) ifs tt)
    (hk : ∀ (s : Shared) (H : Hp) (C : Addr) (cl : List (Str × Addr)) (fp : List Addr), PE (X.blk s H scope (compEnvC scope cl C X.env) fp) kx tk)
    (he : ∀ (s : Shared) (H : Hp) (C : Addr) (cl : List (Str × Addr)) (fp : List Addr), PE (X.blk s H scope (compEnvC scope cl C X.env) fp) vx tv) (hs : ∀ x, foldedSetIterable iter X.env x = pure x := by intro _; rfl) :
    PS X (.Assign [.Name y py] (.DictComp kx vx [⟨tg, iter, ifs, 0⟩] scope pos) spos) (tAsg (tDc wi g tt tk tv (own.map (·.2))) (gName i)) := by
  refine ⟨fun pins s σ H D I given => ?_⟩
  rw [exec_Assign_Name_used _ _ _ _ hsw]
  refine wpAny_bind (wpAny_standAt (wpAny_bind (wpAny_bind ?_)))
  have given : tDc wi g tt tk tv (own.map (·.2)) σ H (fun x H1 => gName i x σ H1 D.nx) := given
  refine thn (dc_core (use := some (assign (.Name y py) X.env)) (Qf := fun _ s' => SP X pins D .next s') hc hN I hi ok hg ht hk he hs given ?_) fun _ s' done => wpAny_pure (wpAny_pure done)
  intro L C s' m H' J next held ⟨c0, c1, c2, c3, c4, c5⟩
  refine wpAny_assign_Name (store_ok2 (v := V.ref L) J hN hy (.inl hyl) rfl (fun s2 J2 ⟨a, same, which⟩ => ?_) (.inr hyl))
  have apart : C ≠ a := which.elim (fun z => by rw [z]; exact c1) fun z e => c4 y a z e.symm
  exact ⟨m, held.sameBut same apart, fun h3 sb => ⟨_, H', J2.turned (t' := s2.toks) (fun b o hb e => (sb.2 b hb).trans e) c0 c1 c3 c4 c5, next⟩⟩
end
end Own

namespace Own
open PySem PySem.Spec PyProof.Rows L2
/-! ### levels: the numbers that some things have, and the things cut by them -/
section
variable {α : Type} [DecidableEq α]
def Lev (zs : List α) (f : α → Int) (ls : List Int) : Prop := ls.Pairwise (· < ·) ∧ ∀ k, k ∈ ls ↔ ∃ z ∈ zs, f z = k
def cutBy (zs : List α) (f : α → Int) (ls : List Int) : List (List α) := ls.map fun k => zs.filter fun z => decide (f z = k)
theorem rise_eq : ∀ {a b : List Int}, a.Pairwise (· < ·) → b.Pairwise (· < ·) → (∀ k, k ∈ a ↔ k ∈ b) → a = b
  | [], [], _, _, _ => rfl
  | [], y :: b, _, _, h => by have := (h y).mpr List.mem_cons_self; cases this
  | x :: a, [], _, _, h => by have := (h x).mp List.mem_cons_self; cases this
  | x :: a, y :: b, h1, h2, h => by
    have p1 := List.pairwise_cons.mp h1
    have p2 := List.pairwise_cons.mp h2
    have e : x = y := by
      have a1 := (h x).mp List.mem_cons_self
      have a2 := (h y).mpr List.mem_cons_self
      rcases List.mem_cons.mp a1 with e | a1
      · exact e
      · rcases List.mem_cons.mp a2 with e | a2
        · exact e.symm
        · have := p2.1 x a1
          have := p1.1 y a2
          omega
    subst e
    refine congrArg _ (rise_eq p1.2 p2.2 fun k => ?_)
    have hk := h k
    constructor
    · intro m
      rcases List.mem_cons.mp (hk.mp (List.mem_cons_of_mem _ m)) with e | m'
      · have := p1.1 k m
        omega
      · exact m'
    · intro m
      rcases List.mem_cons.mp (hk.mpr (List.mem_cons_of_mem _ m)) with e | m'
      · have := p2.1 k m
        omega
      · exact m'
theorem Lev.uniq {zs : List α} {f : α → Int} {a b : List Int} (h : Lev zs f a) (g : Lev zs f b) : a = b := rise_eq h.1 g.1 fun k => (h.2 k).trans (g.2 k).symm
def pick (zs : List α) (f : α → Int) (g : α → Int) (k : Int) : Int := match zs.find? fun z => decide (f z = k) with
  | some z => g z
  | none => 0
theorem pick_at {zs : List α} {f g : α → Int} {z : α} (hz : z ∈ zs) : ∃ y ∈ zs, f y = f z ∧ pick zs f g (f z) = g y := by
  unfold pick
  cases e : zs.find? fun y => decide (f y = f z) with
  | none => exact absurd (List.find?_eq_none.mp e z hz) (by simp)
  | some y => exact ⟨y, List.mem_of_find?_eq_some e, (by have := List.find?_some e; simpa using this), rfl⟩
theorem cut_same {zs : List α} {f g : α → Int} {a b : List Int} (h : Lev zs f a) (k : Lev zs g b) (iso : ∀ y ∈ zs, ∀ z ∈ zs, (f y < f z ↔ g y < g z)) : cutBy zs f a = cutBy zs g b := by
  have eqv : ∀ y ∈ zs, ∀ z ∈ zs, (f y = f z ↔ g y = g z) := fun y hy z hz => by
    have h1 := iso y hy z hz
    have h2 := iso z hz y hy
    omega
  have e : b = a.map (pick zs f g) := by
    refine rise_eq k.1 (List.pairwise_map.mpr (h.1.imp_of_mem fun {i j} hi hj lt => ?_)) fun n => ?_
    · obtain ⟨y, hy, rfl⟩ := (h.2 i).mp hi
      obtain ⟨z, hz, rfl⟩ := (h.2 j).mp hj
      obtain ⟨y', hy', e1, e2⟩ := pick_at (g := g) (f := f) hy
      obtain ⟨z', hz', e3, e4⟩ := pick_at (g := g) (f := f) hz
      rw [e2, e4]
      exact (iso y' hy' z' hz').mp (by omega)
    · rw [k.2, List.mem_map]
      constructor
      · rintro ⟨z, hz, rfl⟩
        obtain ⟨y, hy, e1, e2⟩ := pick_at (g := g) (f := f) hz
        exact ⟨f z, (h.2 _).mpr ⟨z, hz, rfl⟩, e2.trans ((eqv y hy z hz).mp e1)⟩
      · rintro ⟨i, hi, rfl⟩
        obtain ⟨z, hz, rfl⟩ := (h.2 i).mp hi
        obtain ⟨y, hy, e1, e2⟩ := pick_at (g := g) (f := f) hz
        exact ⟨y, hy, e2.symm⟩
  rw [e]
  unfold cutBy
  rw [List.map_map]
  refine List.map_congr_left fun i hi => List.filter_congr fun z hz => ?_
  obtain ⟨y, hy, rfl⟩ := (h.2 i).mp hi
  obtain ⟨y', hy', e1, e2⟩ := pick_at (g := g) (f := f) hy
  show decide (f z = f y) = decide (g z = pick zs f g (f y))
  rw [e2]
  refine decide_eq_decide.mpr ?_
  rw [← eqv z hz y' hy', e1]
theorem cut_ne {zs : List α} {f : α → Int} {a : List Int} (h : Lev zs f a) : ∀ t ∈ cutBy zs f a, t ≠ [] := by
  intro t ht e
  obtain ⟨k, hk, rfl⟩ := List.mem_map.mp ht
  obtain ⟨z, hz, rfl⟩ := (h.2 k).mp hk
  have : z ∈ zs.filter fun y => decide (f y = f z) := List.mem_filter.mpr ⟨hz, decide_eq_true rfl⟩
  rw [e] at this
  cases this
theorem cut_mem {zs : List α} {f : α → Int} {a : List Int} (h : Lev zs f a) (z : α) : z ∈ (cutBy zs f a).flatten ↔ z ∈ zs := by
  rw [List.mem_flatten]
  constructor
  · rintro ⟨t, ht, hz⟩
    obtain ⟨k, hk, rfl⟩ := List.mem_map.mp ht
    exact (List.mem_filter.mp hz).1
  · intro hz
    exact ⟨_, List.mem_map.mpr ⟨f z, (h.2 _).mpr ⟨z, hz, rfl⟩, rfl⟩, List.mem_filter.mpr ⟨hz, decide_eq_true rfl⟩⟩
theorem cut_nodup {zs : List α} {f : α → Int} (n : zs.Nodup) : ∀ {a : List Int}, a.Pairwise (· < ·) → (cutBy zs f a).flatten.Nodup
  | [], _ => List.nodup_nil
  | k :: a, h => by
    have p := List.pairwise_cons.mp h
    show ((zs.filter fun z => decide (f z = k)) ++ (cutBy zs f a).flatten).Nodup
    refine List.nodup_append.mpr ⟨n.filter _, cut_nodup n p.2, fun x hx y hy e => ?_⟩
    subst e
    have h1 := of_decide_eq_true (List.mem_filter.mp hx).2
    obtain ⟨t, ht, hz⟩ := List.mem_flatten.mp hy
    obtain ⟨j, hj, rfl⟩ := List.mem_map.mp ht
    have h2 := of_decide_eq_true (List.mem_filter.mp hz).2
    have := p.1 j hj
    omega
/-- the place of the first part that has it -/
def place : List (List α) → α → Nat
  | [], _ => 0
  | t :: ts, z => if z ∈ t then 0 else place ts z + 1
theorem place_le (z : α) : ∀ ts : List (List α), place ts z ≤ ts.length
  | [] => Nat.le_refl _
  | t :: ts => by
    have := place_le z ts
    unfold place
    rw [List.length_cons]
    split <;> omega
theorem place_lt {z : α} : ∀ {ts : List (List α)}, z ∈ ts.flatten → place ts z < ts.length
  | [], h => by cases h
  | t :: ts, h => by
    unfold place
    rw [List.length_cons]
    by_cases e : z ∈ t
    · rw [if_pos e]; omega
    · rw [if_neg e]
      have h : z ∈ t ++ ts.flatten := h
      have := place_lt (ts := ts) ((List.mem_append.mp h).resolve_left e)
      omega
theorem place_out {z : α} : ∀ {ts : List (List α)}, z ∉ ts.flatten → place ts z = ts.length
  | [], _ => rfl
  | t :: ts, h => by
    have h : z ∉ t ++ ts.flatten := h
    unfold place
    rw [if_neg (fun e => h (List.mem_append_left _ e)), place_out (ts := ts) fun e => h (List.mem_append_right _ e)] <;> rfl
theorem place_at {z : α} : ∀ {ts : List (List α)} {i : Nat} {t : List α}, ts.flatten.Nodup → ts[i]? = some t → z ∈ t → place ts z = i
  | [], i, t, _, h, _ => by cases h
  | s :: ts, 0, t, _, h, hz => by
    cases h
    unfold place
    rw [if_pos hz]
  | s :: ts, i + 1, t, n, h, hz => by
    have n : (s ++ ts.flatten).Nodup := n
    have n2 := List.nodup_append.mp n
    have ht : ts[i]? = some t := h
    have hf : z ∈ ts.flatten := List.mem_flatten.mpr ⟨t, List.mem_of_getElem? ht, hz⟩
    unfold place
    rw [if_neg (fun e => n2.2.2 z e z hf rfl), place_at n2.2.1 ht hz]
theorem place_mem {z : α} : ∀ {ts : List (List α)} {i : Nat} {t : List α}, ts[i]? = some t → place ts z = i → z ∈ t
  | [], i, t, h, _ => by cases h
  | s :: ts, 0, t, h, hz => by
    cases h
    unfold place at hz
    by_cases e : z ∈ s
    · exact e
    · rw [if_neg e] at hz
      omega
  | s :: ts, i + 1, t, h, hz => by
    unfold place at hz
    by_cases e : z ∈ s
    · rw [if_pos e] at hz
      omega
    · rw [if_neg e] at hz
      exact place_mem (ts := ts) h (by omega)
/-- the places in what is cut rise as the numbers do -/
theorem cut_place {zs : List α} {f : α → Int} {a : List Int} (n : zs.Nodup) (h : Lev zs f a) {y z : α} (hy : y ∈ zs) (hz : z ∈ zs) : f y < f z ↔ place (cutBy zs f a) y < place (cutBy zs f a) z := by
  have nd := cut_nodup (f := f) n h.1
  have at' : ∀ {x : α}, x ∈ zs → ∃ i, a[i]? = some (f x) ∧ place (cutBy zs f a) x = i := fun {x} hx => by
    obtain ⟨i, hi⟩ := List.mem_iff_getElem?.mp ((h.2 (f x)).mpr ⟨x, hx, rfl⟩)
    refine ⟨i, hi, place_at nd (t := zs.filter fun z => decide (f z = f x)) ?_ (List.mem_filter.mpr ⟨hx, decide_eq_true rfl⟩)⟩
    unfold cutBy
    rw [List.getElem?_map, hi] <;> rfl
  obtain ⟨i, e1, e2⟩ := at' hy
  obtain ⟨j, e3, e4⟩ := at' hz
  rw [e2, e4]
  have up : ∀ {p q : Nat} {u v : Int}, a[p]? = some u → a[q]? = some v → p < q → u < v := fun {p q u v} hp hq lt => by
    obtain ⟨hp1, hp2⟩ := List.getElem?_eq_some_iff.mp hp
    obtain ⟨hq1, hq2⟩ := List.getElem?_eq_some_iff.mp hq
    rw [← hp2, ← hq2]
    exact List.pairwise_iff_getElem.mp h.1 p q hp1 hq1 lt
  constructor
  · intro lt
    rcases Nat.lt_trichotomy i j with c | c | c
    · exact c
    · subst c
      rw [e1] at e3
      have := Option.some.inj e3
      omega
    · have := up e3 e1 c
      omega
  · intro lt
    exact up e1 e3 lt
/-- numbers turned about -/
theorem Lev.neg {zs : List α} {f : α → Int} {a : List Int} (h : Lev zs f a) : Lev zs (fun z => -f z) (a.reverse.map fun k => -k) := by
  refine ⟨List.pairwise_map.mpr (List.pairwise_reverse.mpr (h.1.imp fun {i j} lt => by omega)), fun k => ?_⟩
  rw [List.mem_map]
  constructor
  · rintro ⟨j, hj, rfl⟩
    obtain ⟨z, hz, rfl⟩ := (h.2 j).mp (List.mem_reverse.mp hj)
    exact ⟨z, hz, rfl⟩
  · rintro ⟨z, hz, rfl⟩
    exact ⟨f z, List.mem_reverse.mpr ((h.2 _).mpr ⟨z, hz, rfl⟩), rfl⟩
theorem cut_neg {zs : List α} {f : α → Int} (a : List Int) : cutBy zs (fun z => -f z) (a.map fun k => -k) = cutBy zs f a := by
  unfold cutBy
  rw [List.map_map]
  refine List.map_congr_left fun k _ => List.filter_congr fun z _ => ?_
  show decide (-f z = -k) = decide (f z = k)
  exact decide_eq_decide.mpr ⟨fun e => by omega, fun e => by omega⟩
end
theorem nodup_out {α : Type} : ∀ {l : List α}, l.Nodup → ∀ {i : Nat} {z : α}, l[i]? = some z → z ∉ l.take i
  | [], _, i, z, h => by cases h
  | a :: l, n, 0, z, h => by rw [List.take_zero]; exact fun q => nomatch q
  | a :: l, n, i + 1, z, h => by
    have n2 := List.nodup_cons.mp n
    have h : l[i]? = some z := h
    rw [List.take_succ_cons]
    intro q
    rcases List.mem_cons.mp q with e | q
    · exact n2.1 (e ▸ List.mem_of_getElem? h)
    · exact nodup_out n2.2 h q
/-! ### a dict of names, each with its number -/
def tab (zs : List Str) (f : Str → Int) : List (Key × V) := zs.map fun z => (.inr z, .int (f z))
theorem tab_val (f : Str → Int) (z : Str) : ∀ zs : List Str, valV (tab zs f) (.inr z) = if z ∈ zs then some (.int (f z)) else none
  | [] => rfl
  | a :: zs => by
    by_cases e : a = z
    · subst e
      rw [if_pos List.mem_cons_self]
      exact valV_pos (p := (Sum.inr a, V.int (f a))) (r := tab zs f) rfl
    · have h : valV (tab (a :: zs) f) (.inr z) = valV (tab zs f) (.inr z) := valV_neg (p := (Sum.inr a, V.int (f a))) (r := tab zs f) (fun q => e (Sum.inr.inj q))
      rw [h, tab_val f z zs]
      by_cases m : z ∈ zs
      · rw [if_pos m, if_pos (List.mem_cons_of_mem _ m)]
      · rw [if_neg m, if_neg (fun q => (List.mem_cons.mp q).elim (fun q => e q.symm) m)]
theorem tab_len (zs : List Str) (f : Str → Int) : (tab zs f).length = zs.length := List.length_map ..
theorem tab_congr {zs : List Str} {f g : Str → Int} (h : ∀ z ∈ zs, f z = g z) : tab zs f = tab zs g := List.map_congr_left fun z hz => by rw [h z hz]
theorem tab_new {zs : List Str} {f : Str → Int} {z : Str} {n : Int} (h : z ∉ zs) (e : n = f z) : putK (tab zs f) (.inr z) (.int n) = tab (zs ++ [z]) f := by
  rw [putK_new _ (by rw [tab_val, if_neg h]), e]
  unfold tab
  rw [List.map_append]
  rfl
theorem tab_put {zs : List Str} {f : Str → Int} {z : Str} {n : Int} (h : z ∈ zs) : putK (tab zs f) (.inr z) (.int n) = tab zs (fun y => if y = z then n else f y) := by
  have a : ((tab zs f).any fun kv => decide (kv.1 = (.inr z : Key))) = true := by rw [valV_any, tab_val, if_pos h]; rfl
  unfold putK
  rw [if_pos a]
  unfold tab
  rw [List.map_map]
  refine List.map_congr_left fun y _ => ?_
  show (if (Sum.inr y : Key) = .inr z then ((Sum.inr y : Key), V.int n) else (.inr y, .int (f y))) = (.inr y, .int (if y = z then n else f y))
  by_cases e : y = z
  · rw [if_pos (congrArg Sum.inr e), if_pos e]
  · rw [if_neg (fun q => e (Sum.inr.inj q)), if_neg e]
theorem tab_merge (f : Str → Int) : ∀ (zs acc : List Str), (acc ++ zs).Nodup → mergeK (tab acc f) (tab zs f) = tab (acc ++ zs) f
  | [], acc, _ => by rw [List.append_nil] <;> rfl
  | z :: zs, acc, h => by
    have n : z ∉ acc := fun m => (List.nodup_append.mp h).2.2 z m z List.mem_cons_self rfl
    have e : acc ++ z :: zs = (acc ++ [z]) ++ zs := by rw [List.append_assoc] <;> rfl
    show mergeK (putK (tab acc f) (.inr z) (.int (f z))) (tab zs f) = _
    rw [tab_new n rfl, tab_merge f zs (acc ++ [z]) (by rw [← e]; exact h), e]
theorem tab_vals (zs : List Str) (f : Str → Int) : (tab zs f).map (·.2) = (zs.map f).map V.int := by
  unfold tab
  rw [List.map_map, List.map_map]
  rfl
end Own

/-! Own rules and mathematics: floor division by any divisor but nought; fractions in lowest terms. -/
namespace Own
open PySem PySem.Spec PyProof.Rows L2
/-- // by a divisor that isn't nought, below 2 ^ 9000 in size -/
def DivOk (_ j : Int) : Prop := j ≠ 0 ∧ j.natAbs.log2 < 9000
section
variable {X : Cx}
theorem op_fdivX : OpR X (binaryOp .FloorDiv) (rI DivOk fun i j => .int (i.fdiv j)) := opI fun i j _ _ _ _ _ hc q => floordiv_int hc.1 q (.inl (PyProof.noPylong_of_log2 hc.2))
end
theorem div_ok {i j : Int} {b : Nat} (h : j ≠ 0) (hb : j.natAbs < 2 ^ b) (h0 : 0 < b) (h9 : b ≤ 9000) : DivOk i j := ⟨h, Nat.lt_of_lt_of_le (PySem.Flt.log2_lt_of h0 hb) h9⟩
/-! ### lowest terms -/
/-- what both are divided by -/
def cg (a b : Int) : Int := if b < 0 then -((Nat.gcd a.natAbs b.natAbs : Nat) : Int) else ((Nat.gcd a.natAbs b.natAbs : Nat) : Int)
def low (a b : Int) : Int × Int := (a.fdiv (cg a b), b.fdiv (cg a b))
/-- in lowest terms, the lower one above 0 -/
def Red (p : Int × Int) : Prop := 0 < p.2 ∧ Nat.gcd p.1.natAbs p.2.natAbs = 1
theorem gcd_pos {a b : Int} (h : b ≠ 0) : 0 < Nat.gcd a.natAbs b.natAbs := Nat.gcd_pos_of_pos_right _ (by omega)
theorem cg_ne {a b : Int} (h : b ≠ 0) : cg a b ≠ 0 := by
  have := gcd_pos (a := a) h
  unfold cg
  split <;> omega
theorem cg_abs (a b : Int) : (cg a b).natAbs = Nat.gcd a.natAbs b.natAbs := by
  unfold cg
  split <;> omega
theorem cg_le {a b : Int} (h : b ≠ 0) : (cg a b).natAbs ≤ b.natAbs := by
  rw [cg_abs]
  exact Nat.le_of_dvd (by omega) (Nat.gcd_dvd_right _ _)
theorem cg_dvd (a b : Int) : cg a b ∣ a ∧ cg a b ∣ b := by
  constructor
  · rw [← Int.natAbs_dvd_natAbs, cg_abs]
    exact Nat.gcd_dvd_left _ _
  · rw [← Int.natAbs_dvd_natAbs, cg_abs]
    exact Nat.gcd_dvd_right _ _
theorem low_eqs (a b : Int) : (low a b).1 * cg a b = a ∧ (low a b).2 * cg a b = b := ⟨Int.fdiv_mul_cancel (cg_dvd a b).1, Int.fdiv_mul_cancel (cg_dvd a b).2⟩
theorem low_red {a b : Int} (h : b ≠ 0) : Red (low a b) := by
  obtain ⟨e1, e2⟩ := low_eqs a b
  have hc := cg_ne (a := a) h
  have n1 : (low a b).1.natAbs * Nat.gcd a.natAbs b.natAbs = a.natAbs := by
    rw [← cg_abs, ← Int.natAbs_mul, e1]
  have n2 : (low a b).2.natAbs * Nat.gcd a.natAbs b.natAbs = b.natAbs := by
    rw [← cg_abs, ← Int.natAbs_mul, e2]
  have g0 := gcd_pos (a := a) h
  refine ⟨?_, ?_⟩
  · generalize hx : (low a b).2 = x at e2
    unfold cg at e2
    generalize hg : ((Nat.gcd a.natAbs b.natAbs : Nat) : Int) = g at e2
    have gp : 0 < g := by omega
    split at e2
    · rename_i hb
      rcases Int.lt_trichotomy 0 x with z | z | z
      · exact z
      · rw [← z, Int.zero_mul] at e2
        omega
      · have : 0 < x * -g := Int.mul_pos_of_neg_of_neg z (by omega)
        omega
    · rename_i hb
      rcases Int.lt_trichotomy 0 x with z | z | z
      · exact z
      · rw [← z, Int.zero_mul] at e2
        omega
      · have : x * g < 0 := Int.mul_neg_of_neg_of_pos z gp
        omega
  · have d1 : (low a b).1.natAbs = a.natAbs / Nat.gcd a.natAbs b.natAbs := (Nat.div_eq_of_eq_mul_left g0 n1.symm).symm
    have d2 : (low a b).2.natAbs = b.natAbs / Nat.gcd a.natAbs b.natAbs := (Nat.div_eq_of_eq_mul_left g0 n2.symm).symm
    rw [d1, d2]
    exact Nat.coprime_div_gcd_div_gcd g0
theorem abs_le_mul {x c a : Int} (hc : c ≠ 0) (e : x * c = a) : x.natAbs ≤ a.natAbs := by
  rw [← e, Int.natAbs_mul]
  exact Nat.le_mul_of_pos_right _ (by omega)
theorem low_le {a b : Int} (h : b ≠ 0) : (low a b).1.natAbs ≤ a.natAbs ∧ (low a b).2.natAbs ≤ b.natAbs :=
  ⟨abs_le_mul (cg_ne h) (low_eqs a b).1, abs_le_mul (cg_ne h) (low_eqs a b).2⟩
/-- lowest terms are one -/
theorem red_one {p q : Int × Int} (hp : Red p) (hq : Red q) (e : p.1 * q.2 = q.1 * p.2) : p = q := by
  obtain ⟨p1, p2⟩ := p
  obtain ⟨q1, q2⟩ := q
  obtain ⟨hp0, hpg⟩ := hp
  obtain ⟨hq0, hqg⟩ := hq
  dsimp only at hp0 hpg hq0 hqg e
  have en : p1.natAbs * q2.natAbs = q1.natAbs * p2.natAbs := by rw [← Int.natAbs_mul, ← Int.natAbs_mul, e]
  have c1 : Nat.Coprime p2.natAbs p1.natAbs := by
    unfold Nat.Coprime
    rw [Nat.gcd_comm]
    exact hpg
  have c2 : Nat.Coprime q2.natAbs q1.natAbs := by
    unfold Nat.Coprime
    rw [Nat.gcd_comm]
    exact hqg
  have d1 : p2.natAbs ∣ q2.natAbs := c1.dvd_of_dvd_mul_left (by rw [en]; exact Nat.dvd_mul_left _ _)
  have d2 : q2.natAbs ∣ p2.natAbs := c2.dvd_of_dvd_mul_left (by rw [← en]; exact Nat.dvd_mul_left _ _)
  have ed := Nat.dvd_antisymm d1 d2
  have e2 : p2 = q2 := by omega
  subst e2
  have e1 : p1 = q1 := Int.eq_of_mul_eq_mul_right (by omega) e
  rw [e1]
theorem low_cross {a b c d : Int} (hb : b ≠ 0) (hd : d ≠ 0) (e : a * d = c * b) : low a b = low c d := by
  refine red_one (low_red hb) (low_red hd) ?_
  obtain ⟨a1, b1⟩ := low_eqs a b
  obtain ⟨c1, d1⟩ := low_eqs c d
  have k1 := cg_ne (a := a) hb
  have k2 := cg_ne (a := c) hd
  generalize cg a b = k at a1 b1 k1
  generalize cg c d = m at c1 d1 k2
  generalize (low a b).1 = x at a1 ⊢
  generalize (low a b).2 = y at b1 ⊢
  generalize (low c d).1 = u at c1 ⊢
  generalize (low c d).2 = v at d1 ⊢
  subst a1 b1 c1 d1
  have e' : (x * v) * (k * m) = (u * y) * (k * m) := by
    have l : x * k * (v * m) = (x * v) * (k * m) := by ac_rfl
    have r : u * m * (y * k) = (u * y) * (k * m) := by ac_rfl
    rw [← l, ← r, e]
  exact Int.eq_of_mul_eq_mul_right (Int.mul_ne_zero k1 k2) e'
theorem low_of_red {p : Int × Int} (h : Red p) : low p.1 p.2 = p := by
  refine red_one (low_red (by have := h.1; omega)) h ?_
  obtain ⟨e1, e2⟩ := low_eqs p.1 p.2
  have k := cg_ne (a := p.1) (b := p.2) (by have := h.1; omega)
  generalize hx : low p.1 p.2 = q at e1 e2
  generalize cg p.1 p.2 = c at e1 e2 k
  refine Int.eq_of_mul_eq_mul_right k ?_
  have l : q.1 * p.2 * c = (q.1 * c) * p.2 := by ac_rfl
  have r : p.1 * q.2 * c = (q.2 * c) * p.1 := by ac_rfl
  rw [l, r, e1, e2, Int.mul_comm]
theorem low_scale {a b k : Int} (hb : b ≠ 0) (hk : k ≠ 0) : low (a * k) (b * k) = low a b :=
  low_cross (Int.mul_ne_zero hb hk) hb (by ac_rfl)
/-! ### sums -/
def addL (p q : Int × Int) : Int × Int := low (p.1 * q.2 + q.1 * p.2) (p.2 * q.2)
theorem addL_red {p q : Int × Int} (hp : 0 < p.2) (hq : 0 < q.2) : Red (addL p q) := low_red (by have := Int.mul_pos hp hq; omega)
theorem addL_swap {p q r : Int × Int} (hp : 0 < p.2) (hq : 0 < q.2) (hr : 0 < r.2) : addL (addL p q) r = addL (addL p r) q := by
  have key : ∀ {x y : Int × Int}, 0 < x.2 → 0 < y.2 → addL (addL p x) y = low (p.1 * x.2 * y.2 + x.1 * p.2 * y.2 + y.1 * (p.2 * x.2)) (p.2 * x.2 * y.2) := by
    intro x y hx hy
    have hpx : p.2 * x.2 ≠ 0 := by have := Int.mul_pos hp hx; omega
    have hb : (addL p x).2 * y.2 ≠ 0 := by have := Int.mul_pos (addL_red hp hx).1 hy; omega
    obtain ⟨e1, e2⟩ := low_eqs (p.1 * x.2 + x.1 * p.2) (p.2 * x.2)
    have k := cg_ne (a := p.1 * x.2 + x.1 * p.2) hpx
    show low ((addL p x).1 * y.2 + y.1 * (addL p x).2) ((addL p x).2 * y.2) = _
    unfold addL at hb ⊢
    generalize hl : low (p.1 * x.2 + x.1 * p.2) (p.2 * x.2) = t at e1 e2 hb
    generalize cg (p.1 * x.2 + x.1 * p.2) (p.2 * x.2) = c at e1 e2 k
    rw [← low_scale hb k]
    have f1 : (t.1 * y.2 + y.1 * t.2) * c = p.1 * x.2 * y.2 + x.1 * p.2 * y.2 + y.1 * (p.2 * x.2) := by
      rw [Int.add_mul]
      have g1 : t.1 * y.2 * c = (t.1 * c) * y.2 := by ac_rfl
      have g2 : y.1 * t.2 * c = y.1 * (t.2 * c) := by ac_rfl
      rw [g1, g2, e1, e2, Int.add_mul]
    have f2 : t.2 * y.2 * c = p.2 * x.2 * y.2 := by
      have g1 : t.2 * y.2 * c = (t.2 * c) * y.2 := by ac_rfl
      rw [g1, e2]
    rw [f1, f2]
  rw [key hq hr, key hr hq]
  have f1 : p.1 * q.2 * r.2 + q.1 * p.2 * r.2 + r.1 * (p.2 * q.2) = p.1 * r.2 * q.2 + r.1 * p.2 * q.2 + q.1 * (p.2 * r.2) := by
    have a1 : p.1 * q.2 * r.2 = p.1 * r.2 * q.2 := by ac_rfl
    have a2 : q.1 * p.2 * r.2 = q.1 * (p.2 * r.2) := by ac_rfl
    have a3 : r.1 * (p.2 * q.2) = r.1 * p.2 * q.2 := by ac_rfl
    rw [a1, a2, a3]
    ac_rfl
  have f2 : p.2 * q.2 * r.2 = p.2 * r.2 * q.2 := by ac_rfl
  rw [f1, f2]
def sumL (l : List (Int × Int)) (e : Int × Int) : Int × Int := l.foldl addL e
theorem sumL_pos : ∀ (l : List (Int × Int)) (e : Int × Int), 0 < e.2 → (∀ p ∈ l, 0 < p.2) → 0 < (sumL l e).2
  | [], _, h, _ => h
  | p :: l, e, h, hl => sumL_pos l (addL e p) (addL_red h (hl p List.mem_cons_self)).1 fun q hq => hl q (List.mem_cons_of_mem _ hq)
theorem sumL_front : ∀ (l : List (Int × Int)) (e p : Int × Int), 0 < e.2 → 0 < p.2 → (∀ q ∈ l, 0 < q.2) → sumL l (addL e p) = addL (sumL l e) p
  | [], _, _, _, _, _ => rfl
  | q :: l, e, p, he, hp, hl => by
    have hq := hl q List.mem_cons_self
    show sumL l (addL (addL e p) q) = addL (sumL l (addL e q)) p
    rw [addL_swap he hp hq, sumL_front l (addL e q) p (addL_red he hq).1 hp fun x hx => hl x (List.mem_cons_of_mem _ hx)]
theorem sumL_rev : ∀ (l : List (Int × Int)) (e : Int × Int), 0 < e.2 → (∀ q ∈ l, 0 < q.2) → sumL l.reverse e = sumL l e
  | [], _, _, _ => rfl
  | p :: l, e, he, hl => by
    have hp := hl p List.mem_cons_self
    have hl' : ∀ q ∈ l, 0 < q.2 := fun q hq => hl q (List.mem_cons_of_mem _ hq)
    rw [List.reverse_cons]
    show List.foldl addL e (l.reverse ++ [p]) = sumL l (addL e p)
    rw [List.foldl_append]
    show addL (sumL l.reverse e) p = _
    rw [sumL_rev l e he hl', sumL_front l e p he hp hl']
/-! ### sizes -/
def Bd (n : Nat) (p : Int × Int) : Prop := p.1.natAbs < 2 ^ n ∧ p.2.natAbs < 2 ^ n
theorem Bd.mono {n m : Nat} {p : Int × Int} (h : Bd n p) (k : n ≤ m) : Bd m p := ⟨Nat.lt_of_lt_of_le h.1 (Nat.pow_le_pow_right (by decide) k), Nat.lt_of_lt_of_le h.2 (Nat.pow_le_pow_right (by decide) k)⟩
theorem bd_low {n : Nat} {a b : Int} (h : b ≠ 0) (ha : a.natAbs < 2 ^ n) (hb : b.natAbs < 2 ^ n) : Bd n (low a b) := ⟨Nat.lt_of_le_of_lt (low_le h).1 ha, Nat.lt_of_le_of_lt (low_le h).2 hb⟩
theorem mul_lt {i j : Int} {a b : Nat} (ha : i.natAbs < 2 ^ a) (hb : j.natAbs < 2 ^ b) : (i * j).natAbs < 2 ^ (a + b) := wide_lt ha hb
theorem add_lt {i j : Int} {a : Nat} (ha : i.natAbs < 2 ^ a) (hb : j.natAbs < 2 ^ a) : (i + j).natAbs < 2 ^ (a + 1) ∧ (i - j).natAbs < 2 ^ (a + 1) := by
  rw [Nat.pow_succ]
  omega
theorem bd_add {n m : Nat} {p q : Int × Int} (hp : Bd n p) (hq : Bd m q) (h1 : 0 < p.2) (h2 : 0 < q.2) : Bd (n + m + 1) (addL p q) := by
  refine bd_low (by have := Int.mul_pos h1 h2; omega) ?_ ?_
  · exact (add_lt (mul_lt hp.1 hq.2) (by rw [Nat.add_comm]; exact mul_lt hq.1 hp.2)).1
  · exact Nat.lt_of_lt_of_le (mul_lt hp.2 hq.2) (Nat.pow_le_pow_right (by decide) (by omega))
/-- Euclid's rest -/
theorem gcd_step {a b : Nat} : Nat.gcd b (a % b) = Nat.gcd a b := by
  rw [Nat.gcd_comm b (a % b), ← Nat.gcd_rec, Nat.gcd_comm]
end Own

/-! Tuples once more: one time a tuple is itself; a tuple beside the empty one. -/
namespace L2
open PySem PySem.Spec PyProof.Rows
theorem mul_once (l : Addr) (its : Array Value) (n : Nat) (dd : Option Addr) (sl : Array (Option Value)) (u : Tok) :
    Meets (Builtin.«tuple.__mul__» ⟨[.ref l, .int 1 u], []⟩) (fun _ R s => s.heap.get? l = some { cls := .type "tuple", dict := dd, data := .seq its n, slots := sl } ∧ R (.ok (.ret (Value.ref l))) s) :=
  .of_wp fun prog w A R s h => by
    obtain ⟨hp, g, d, tk, os⟩ := s
    obtain ⟨hl, h⟩ := h
    have f1 := AutoSeq1.idx_int
    have c1 : (its.isEmpty || (1 : Int) == 1) = true := by simp
    wp_walk using wpAny_loadPart' hl
    exact ⟨_, rfl, h⟩
/-- t * n, n from 1 on -/
def rMany (K : PySem.W.Frag) : R2 := fun x y H Q => ∃ (l : Addr) (k : Int) (xs : List V), x = .ref l ∧ y = .int k ∧ SqT K H l xs ∧ xs ≠ [] ∧ 1 ≤ k ∧ k ≤ 1000 ∧ xs.length ≤ 1000 ∧ (k = 1 → Q (.ref l) H) ∧ (2 ≤ k → ∀ p, H p = none → Q (.ref p) (upd H p (.tup (List.replicate k.toNat xs).flatten)))
section
variable {X : Cx}
theorem op_many : OpR X (binaryOp .Mult) (rMany X.K) := by
  intro pins s σ H x y v u Q I rx ry h
  obtain ⟨l, k, xs, rfl, rfl, hT, hne, h1, h2, hz, q1, q2⟩ := h
  by_cases hk : k = 1
  · subst hk
    cases rx
    obtain ⟨t, rfl⟩ := ry
    obtain ⟨its, r, ⟨⟨cls, dd, data, sl⟩, ho, hc, n, hd⟩, hs⟩ := I.tuple hT
    simp only at hc hd
    subst hc hd
    refine wpAny_binaryOp_repeat_ref (T := "tuple") (U := "int") (by decide) ⟨_, ho, rfl⟩ (fun s' => typeIs_int s' 1 t) noFill_tuple_mul F.fills_int_mul F.slot_int_rmul repeat_tuple F.slot_int_index.lookup
      (call_meets F.slot_int_rmul (typeIs_int s 1 t) F.entry_int_rmul (F.args_int_rmul_2 _ _) (int_rmul_tuple 1 t l its.toArray n dd sl)
        ⟨ho, rfl, ⟨_, ho, rfl⟩, call_meets F.slot_tuple_mul ⟨_, ho, rfl⟩ F.entry_tuple_mul (F.args_tuple_mul_2 _ _) (mul_once l its.toArray n dd sl t) ⟨ho, ?_⟩⟩)
    exact ⟨.ref l, _, I, rfl, q1 rfl⟩
  · exact op_repT pins s σ H _ _ v u Q I rx ry ⟨l, k, xs, rfl, rfl, hT, hne, by omega, h2, hz, q2 (by omega)⟩
/-- t != (), whatever stands in t -/
def rNeEmpty (K : PySem.W.Frag) : R2 := fun x y H Q => ∃ (a b : Addr) (xs : List V), x = .ref a ∧ y = .ref b ∧ SqT K H a xs ∧ SqT K H b [] ∧ Q (.bl (!xs.isEmpty)) H
theorem op_neE (hu : X.A.units + 64 < cLine) : OpR X (compareOp .NotEq) (rNeEmpty X.K) := by
  intro pins s σ H x y v u Q I rx ry h
  obtain ⟨a, b, xs, rfl, rfl, ha, hb, q⟩ := h
  cases rx
  cases ry
  obtain ⟨its, r, h1, _⟩ := I.tuple ha
  obtain ⟨jts, r2, h2, _⟩ := I.tuple hb
  cases r2
  have e : (!((List.range (min its.toArray.size ([] : List Value).toArray.size)).all (fun _ => true) && its.toArray.size == ([] : List Value).toArray.size)) = !xs.isEmpty := by
    have hl := r.length
    cases xs <;> cases its <;> simp_all
  refine (SeqAt.RcNeAt.tuples h1 h2 (by omega) (e := fun _ => true) fun j _ z => absurd z (Nat.not_lt_zero _)) _ _ _ _ ?_
  rw [e]
  exact ⟨.bl _, H, I, rfl, q⟩
end
end L2

/-! sum of a tuple of whole numbers; two tuples walked side by side. -/
namespace Own
open PySem PySem.Spec PyProof.Rows L2
section
variable {X : Cx}
def rSumT (K : PySem.W.Frag) : List V → Hp → VK → Prop := fun vs H Q => ∃ (a : Addr) (ns : List Int), vs = [V.ref a] ∧ SqT K H a (ns.map V.int) ∧ Q (.int ns.sum) H
theorem cr_sumT (hc : X.calm = true) : CallR X (.builtin "sum") (rSumT X.K) := by
  intro pins s σ H vs us Q I r h
  obtain ⟨a, ns, rfl, hs, q⟩ := h
  obtain ⟨its, rv, hl, _⟩ := I.tuple hs
  rw [Vals.ref1 r]
  have hi : IntsAre its ns := rv.ints
  obtain ⟨xs, e⟩ := hi.allInts.items
  have hn : numsOf (intItems xs).toList = ns := by rw [← e]; exact hi.numsOf
  rw [nums_intItems] at hn
  have hl' : s.heap.IsTuple a its.toArray := hl
  rw [e] at hl'
  refine PySem.W.ktm_sumG (I.ok.hd hc) hl' fun h' tk t' hk => ?_
  rw [preSum_eq, List.take_of_length_le (by simp), hn]
  exact ⟨.int _, H, I.kept hk, ⟨_, rfl⟩, q⟩
end
section
variable {K : PySem.W.Frag} {a b : Addr} {xs ys : List V}
theorem walk_zipT {n : Nat} (hn : n = min xs.length ys.length) : Walk (RZ.ItzT K a b) n (fun H => SqT K H a xs ∧ SqT K H b ys) (YPair (fun i => xs[i]?) (fun i => ys[i]?)) := by
  subst hn
  refine ⟨fun i _ hi q => ?_, fun _ q => ⟨xs, ys, q.1, q.2, by omega⟩, fun i H v H' _ q y => ?_⟩
  · have h1 : i < xs.length := by omega
    have h2 : i < ys.length := by omega
    exact ⟨xs, ys, xs[i], ys[i], q.1, q.2, by simp [h1], by simp [h2]⟩
  · obtain ⟨T, x, z, e1, e2, e3, e4, e5⟩ := y
    exact ⟨T, x, z, e1, e2, e3, e4 xs q.1, e5 ys q.2⟩
end
end Own

namespace Own
/-! ### ways of which no step loses, and the top lot -/
section
variable {α : Type} [DecidableEq α]
inductive WayTo (f : α → α → Int) (zs : List α) (s : α) : α → List α → Prop
  | start : s ∈ zs → WayTo f zs s s [s]
  | step {x y : α} {w : List α} : WayTo f zs s x w → y ∈ zs → y ∉ w → 0 ≤ f x y → WayTo f zs s y (w ++ [y])
def Reach (f : α → α → Int) (zs : List α) (s y : α) : Prop := ∃ w, WayTo f zs s y w
variable {f : α → α → Int} {zs : List α}
theorem WayTo.last {s x : α} {w : List α} (h : WayTo f zs s x w) : x ∈ w := by
  cases h with
  | start _ => exact List.mem_singleton.mpr rfl
  | step _ _ _ _ => exact List.mem_append_right _ (List.mem_singleton.mpr rfl)
theorem WayTo.in {s x : α} {w : List α} (h : WayTo f zs s x w) : x ∈ zs := by
  cases h with
  | start h => exact h
  | step _ h _ _ => exact h
theorem WayTo.within {s x : α} {w : List α} (h : WayTo f zs s x w) : ∀ y ∈ w, Reach f zs s y := by
  induction h with
  | start h =>
    intro y hy
    rw [List.mem_singleton.mp hy]
    exact ⟨_, .start h⟩
  | step h m n e ih =>
    intro y hy
    rcases List.mem_append.mp hy with hy | hy
    · exact ih y hy
    · rw [List.mem_singleton.mp hy]
      exact ⟨_, .step h m n e⟩
theorem Reach.step {s x y : α} (h : Reach f zs s x) (m : y ∈ zs) (e : 0 ≤ f x y) : Reach f zs s y := by
  obtain ⟨w, h⟩ := h
  by_cases c : y ∈ w
  · exact h.within y c
  · exact ⟨_, .step h m c e⟩
theorem Reach.closed {s y : α} {S : α → Prop} (h : Reach f zs s y) (h0 : S s) (hs : ∀ x y, S x → y ∈ zs → 0 ≤ f x y → S y) : S y := by
  obtain ⟨w, h⟩ := h
  induction h with
  | start _ => exact h0
  | step _ m _ e ih => exact hs _ _ ih m e
theorem Reach.refl {s : α} (h : s ∈ zs) : Reach f zs s s := ⟨_, .start h⟩
theorem Reach.trans {s x y : α} (h : Reach f zs s x) (g : Reach f zs x y) : Reach f zs s y := g.closed h fun _ _ a m e => a.step m e
theorem Reach.in {s y : α} (h : Reach f zs s y) : y ∈ zs := h.elim fun _ w => w.in
theorem WayTo.nodup {s x : α} {w : List α} (h : WayTo f zs s x w) : w.Nodup := by
  induction h with
  | start _ => simp
  | step _ _ n _ ih => exact List.nodup_append.mpr ⟨ih, by simp, fun a ha b hb e => by rw [List.mem_singleton.mp hb] at e; exact n (e ▸ ha)⟩
theorem WayTo.all {s x : α} {w : List α} (h : WayTo f zs s x w) : ∀ y ∈ w, y ∈ zs := fun y hy => (h.within y hy).in
theorem nodup_le {a b : List α} (n : a.Nodup) (s : ∀ x ∈ a, x ∈ b) : a.length ≤ b.length := by
  induction a generalizing b with
  | nil => exact Nat.zero_le _
  | cons x a ih =>
    have n2 := List.nodup_cons.mp n
    have mx := s x List.mem_cons_self
    have := ih (b := b.erase x) n2.2 fun y hy => (List.mem_erase_of_ne (fun e => n2.1 (by rw [← e]; exact hy))).mpr (s y (List.mem_cons_of_mem _ hy))
    rw [List.length_erase_of_mem mx] at this
    have pos := List.length_pos_of_mem mx
    rw [List.length_cons]
    omega
theorem WayTo.len {s x : α} {w : List α} (h : WayTo f zs s x w) : w.length ≤ zs.length := nodup_le h.nodup h.all
theorem pairwise_two {R : α → α → Prop} : ∀ {l : List α}, l.Pairwise R → ∀ {a b : α}, a ∈ l → b ∈ l → a ≠ b → R a b ∨ R b a
  | [], _, _, _, h, _, _ => by cases h
  | c :: l, p, a, b, ha, hb, n => by
    have p2 := List.pairwise_cons.mp p
    rcases List.mem_cons.mp ha with e1 | h1
    · rcases List.mem_cons.mp hb with e2 | h2
      · exact absurd (e1.trans e2.symm) n
      · rw [e1]
        exact .inl (p2.1 b h2)
    · rcases List.mem_cons.mp hb with e2 | h2
      · rw [e2]
        exact .inr (p2.1 a h1)
      · exact pairwise_two p2.2 h1 h2 n
theorem Reach.mono {zs ws : List α} {s y : α} (h : Reach f zs s y) (m : ∀ x, x ∈ zs → x ∈ ws) : Reach f ws s y := by
  obtain ⟨w, h⟩ := h
  induction h with
  | start h => exact ⟨_, .start (m _ h)⟩
  | step _ i _ e ih => exact ih.step (m _ i) e
def Tops (f : α → α → Int) (zs : List α) (s : α) : Prop := ∀ y ∈ zs, Reach f zs s y
theorem tops_some (anti : ∀ x y, f x y = -f y x) : ∀ {l : List α}, l ≠ [] → (∀ x ∈ l, x ∈ zs) → ∃ s ∈ l, ∀ y ∈ l, Reach f zs s y
  | [], h, _ => absurd rfl h
  | [a], _, m => ⟨a, List.mem_singleton.mpr rfl, fun y hy => by rw [List.mem_singleton.mp hy]; exact .refl (m a List.mem_cons_self)⟩
  | a :: b :: l, _, m => by
    obtain ⟨s, hs, all⟩ := tops_some anti (l := b :: l) (by simp) fun x hx => m x (List.mem_cons_of_mem _ hx)
    have ma := m a List.mem_cons_self
    have ms := m s (List.mem_cons_of_mem _ hs)
    by_cases c : 0 ≤ f s a
    · refine ⟨s, List.mem_cons_of_mem _ hs, fun y hy => ?_⟩
      rcases List.mem_cons.mp hy with rfl | hy
      · exact (Reach.refl ms).step ma c
      · exact all y hy
    · have c : 0 ≤ f a s := by have := anti a s; omega
      refine ⟨a, List.mem_cons_self, fun y hy => ?_⟩
      rcases List.mem_cons.mp hy with rfl | hy
      · exact .refl ma
      · exact ((Reach.refl ma).step ms c).trans (all y hy)
/-- each of these beats each one that is not among them -/
def Dom (f : α → α → Int) (zs S : List α) : Prop := ∀ x ∈ S, ∀ y ∈ zs, y ∉ S → 0 < f x y
theorem Dom.holds (anti : ∀ x y, f x y = -f y x) {S : List α} (h : Dom f zs S) (n : S ≠ []) (sub : ∀ x ∈ S, x ∈ zs) {t : α} (ht : t ∈ zs) (a : Tops f zs t) : t ∈ S := by
  refine Classical.byContradiction fun out => ?_
  obtain ⟨s, hs⟩ := List.exists_mem_of_ne_nil S n
  have := (a s (sub s hs)).closed (S := fun x => x ∉ S ∧ x ∈ zs) ⟨out, ht⟩ fun x y ⟨nx, mx⟩ my e => ⟨fun hy => by
    have h1 := h y hy x mx nx
    have h2 := anti x y
    omega, my⟩
  exact this.1 hs
open Classical in
noncomputable def topB (f : α → α → Int) (zs : List α) (s : α) : Bool := decide (Tops f zs s)
open Classical in
theorem topB_iff {s : α} : topB f zs s = true ↔ Tops f zs s := by
  unfold topB
  exact decide_eq_true_iff
theorem top_dom (anti : ∀ x y, f x y = -f y x) : Dom f zs (zs.filter (topB f zs)) := by
  intro x hx y hy out
  obtain ⟨mx, tx⟩ := List.mem_filter.mp hx
  have tx : Tops f zs x := topB_iff.mp tx
  refine Classical.byContradiction fun c => out (List.mem_filter.mpr ⟨hy, ?_⟩)
  have e : 0 ≤ f y x := by have := anti x y; omega
  exact topB_iff.mpr fun z hz => ((Reach.refl hy).step mx e).trans (tx z hz)
theorem top_ne (anti : ∀ x y, f x y = -f y x) (n : zs ≠ []) : zs.filter (topB f zs) ≠ [] := by
  obtain ⟨s, hs, all⟩ := tops_some (f := f) (zs := zs) anti n fun _ h => h
  have : s ∈ zs.filter (topB f zs) := List.mem_filter.mpr ⟨hs, topB_iff.mpr all⟩
  intro e
  rw [e] at this
  cases this
/-- the lots of some names, as they are gone through -/
def lotsOf (zs : List α) : List (List α) := zs.foldl (fun acc z => acc ++ acc.map fun t => t ++ [z]) [[]]
theorem lots_more (zs : List α) (z : α) : lotsOf (zs ++ [z]) = lotsOf zs ++ (lotsOf zs).map fun t => t ++ [z] := by
  unfold lotsOf
  rw [List.foldl_append]
  rfl
theorem snoc_ind {P : List α → Prop} (h0 : P []) (hs : ∀ l a, P l → P (l ++ [a])) : ∀ l, P l := by
  have : ∀ l : List α, P l.reverse := fun l => by
    induction l with
    | nil => exact h0
    | cons a l ih =>
      rw [List.reverse_cons]
      exact hs _ _ ih
  intro l
  have h := this l.reverse
  rw [List.reverse_reverse] at h
  exact h
theorem lots_len : ∀ zs : List α, (lotsOf zs).length = 2 ^ zs.length := snoc_ind rfl fun l a h => by
  rw [lots_more, List.length_append, List.length_map, h, List.length_append, List.length_singleton, Nat.pow_succ]
  omega
theorem lots_sub : ∀ zs : List α, ∀ S ∈ lotsOf zs, S.Sublist zs := snoc_ind (fun S h => by rw [List.mem_singleton.mp h]; exact List.Sublist.refl _) fun l a ih S h => by
  rw [lots_more] at h
  rcases List.mem_append.mp h with h | h
  · exact (ih S h).trans (List.sublist_append_left _ _)
  · obtain ⟨t, ht, rfl⟩ := List.mem_map.mp h
    exact List.Sublist.append (ih t ht) (List.Sublist.refl _)
theorem lots_filter (B : α → Bool) : ∀ zs : List α, zs.filter B ∈ lotsOf zs := snoc_ind (List.mem_singleton.mpr rfl) fun l a ih => by
  rw [lots_more, List.filter_append]
  cases e : B a with
  | true => 
    rw [List.filter_cons_of_pos e, List.filter_nil]
    exact List.mem_append_right _ (List.mem_map.mpr ⟨_, ih, rfl⟩)
  | false =>
    rw [List.filter_cons_of_neg (by rw [e]; exact Bool.false_ne_true), List.filter_nil, List.append_nil]
    exact List.mem_append_left _ ih
theorem sub_filter {zs : List α} (nd : zs.Nodup) : ∀ {S : List α}, S.Sublist zs → S = zs.filter fun z => decide (z ∈ S) := by
  intro S h
  induction h with
  | slnil => rfl
  | cons a h ih =>
    have n := List.nodup_cons.mp nd
    rename_i l1 l2
    have out : a ∉ l1 := fun m => n.1 (h.subset m)
    rw [List.filter_cons_of_neg (by simpa using out)]
    exact ih n.2
  | cons_cons a h ih =>
    have n := List.nodup_cons.mp nd
    rename_i l1 l2
    rw [List.filter_cons_of_pos (by simp)]
    refine congrArg _ ((ih n.2).trans (List.filter_congr fun z hz => ?_))
    have : z ≠ a := fun e => n.1 (e ▸ hz)
    simp [this]
/-- the first lot that beats all others is the top one -/
theorem top_least (anti : ∀ x y, f x y = -f y x) (nd : zs.Nodup) {S : List α} (hS : S ∈ lotsOf zs) (n : S ≠ []) (d : Dom f zs S) (least : ∀ L ∈ lotsOf zs, L ≠ [] → L.length < S.length → ¬ Dom f zs L) : S = zs.filter (topB f zs) := by
  have sub := lots_sub zs S hS
  have e := sub_filter nd sub
  have hold : ∀ t ∈ zs, topB f zs t = true → t ∈ S := fun t ht b => d.holds anti n (fun x hx => sub.subset hx) ht (topB_iff.mp b)
  have ne : zs ≠ [] := fun z => n (by rw [z] at sub; exact List.sublist_nil.mp sub)
  have small : (zs.filter (topB f zs)).Sublist S := by
    rw [e]
    have : zs.filter (topB f zs) = (zs.filter fun z => decide (z ∈ S)).filter (topB f zs) := by
      rw [List.filter_filter]
      refine List.filter_congr fun z hz => ?_
      cases c : topB f zs z with
      | false => rfl
      | true => simp [hold z hz c]
    rw [this]
    exact List.filter_sublist
  have len := small.length_le
  rcases Nat.lt_or_ge (zs.filter (topB f zs)).length S.length with c | c
  · exact absurd (top_dom anti) (least _ (lots_filter _ zs) (top_ne anti ne) c)
  · exact (small.eq_of_length (by omega)).symm
end
end Own

/-! Law k22 over the landed counts: by hand, over the layer. -/
namespace Own
open PySem PySem.Spec PyProof.Rows L2
/-! ### the text -/
/-- the k-th block of a statement -/
def blkOf (s : Stmt) (k : Nat) : List Stmt := match s with
  | .If _ a b _ => if k = 0 then a else b
  | .For _ _ a _ _ => a
  | .While _ a _ _ => a
  | .Try a hs _ _ _ => match k, hs with
    | 0, _ => a
    | j + 1, hs => match hs[j]? with
      | some (.ExceptHandler _ _ b _) => b
      | none => []
  | _ => []
abbrev noE : Expr := .Constant .none 0 ⟨0, 0, 0, 0⟩
/-- a statement's own expression; the k-th part of an expression -/
def rootE (s : Stmt) : Expr := match s with
  | .Assign _ v _ => v
  | .Return (some v) _ => v
  | .Expr v _ => v
  | .AugAssign _ _ v _ => v
  | .If t _ _ _ => t
  | .While t _ _ _ => t
  | .For _ i _ _ _ => i
  | _ => noE
def subE (e : Expr) (k : Nat) : Expr := match e with
  | .BinOp a _ b _ => if k = 0 then a else b
  | .BoolOp _ vs _ => vs.getD k noE
  | .UnaryOp _ a _ => a
  | .Compare a _ cs _ => (a :: cs).getD k noE
  | .Call f as kws _ => (f :: (as ++ kws.map (·.value))).getD k noE
  | .Attribute a _ _ => a
  | .Subscript a b _ => if k = 0 then a else b
  | .Tuple es _ _ => es.getD k noE
  | .List es _ => es.getD k noE
  | .IfExp c a b _ => [c, a, b].getD k noE
  | .Slice a b c _ => ([a, b, c].getD k none).getD noE
  | .ListComp a gs _ _ => match gs with
    | g :: _ => ([a, g.iter, g.target] ++ g.ifs).getD k noE
    | [] => noE
  | .DictComp a b gs _ _ => match gs with
    | g :: _ => ([a, b, g.iter, g.target] ++ g.ifs).getD k noE
    | [] => noE
  | _ => noE
def lcScope (e : Expr) : Scope := match e with
  | .ListComp _ _ sc _ => sc
  | .DictComp _ _ _ sc _ => sc
  | _ => { kind := .function, names := [], isGenerator := false, isCoroutine := false }
def lcG (e : Expr) (k : Nat) : Comprehension := match e with
  | .ListComp _ gs _ _ => gs.getD k ⟨noE, noE, [], 0⟩
  | .DictComp _ _ gs _ _ => gs.getD k ⟨noE, noE, [], 0⟩
  | _ => ⟨noE, noE, [], 0⟩
def lcIfs (e : Expr) : List Expr := match e with
  | .ListComp _ (g :: _) _ _ => g.ifs
  | .DictComp _ _ (g :: _) _ _ => g.ifs
  | _ => []
def topS (i : Nat) : Stmt := PySem.Challenge.pw_voicefold_k22_weights_and_shares.main.body.getD i (.Pass ⟨0, 0, 0, 0⟩)
abbrev s_PollError_init : Stmt := inClass (topS 3) 0
theorem sc_PollError_init : FnScope ["self", "why"] ["self", "why"] (defScope s_PollError_init) := ⟨rfl, rfl, rfl, by decide +kernel, rfl, by decide +kernel, by decide +kernel⟩
abbrev s_NoShare_init : Stmt := inClass (topS 8) 0
theorem sc_NoShare_init : FnScope ["self", "num", "over"] ["self", "num", "over"] (defScope s_NoShare_init) := ⟨rfl, rfl, rfl, by decide +kernel, rfl, by decide +kernel, by decide +kernel⟩
abbrev s_is_whole : Stmt := topS 11
theorem sc_is_whole : FnScope ["thing"] ["thing"] (defScope s_is_whole) := ⟨rfl, rfl, rfl, by decide +kernel, rfl, by decide +kernel, by decide +kernel⟩
abbrev s_is_name : Stmt := topS 12
theorem sc_is_name : FnScope ["thing", "sign"] ["thing"] (defScope s_is_name) := ⟨rfl, rfl, rfl, by decide +kernel, rfl, by decide +kernel, by decide +kernel⟩
abbrev s_is_tuple_of : Stmt := topS 13
theorem sc_is_tuple_of : FnScope ["thing", "many"] ["thing", "many"] (defScope s_is_tuple_of) := ⟨rfl, rfl, rfl, by decide +kernel, rfl, by decide +kernel, by decide +kernel⟩
abbrev s_are_names : Stmt := topS 17
theorem sc_are_names : FnScope ["thing", "name"] ["thing"] (defScope s_are_names) := ⟨rfl, rfl, rfl, by decide +kernel, rfl, by decide +kernel, by decide +kernel⟩
abbrev s_are_options : Stmt := topS 18
theorem sc_are_options : FnScope ["thing"] ["thing"] (defScope s_are_options) := ⟨rfl, rfl, rfl, by decide +kernel, rfl, by decide +kernel, by decide +kernel⟩
abbrev s_is_option : Stmt := topS 19
theorem sc_is_option : FnScope ["options", "thing"] ["options", "thing"] (defScope s_is_option) := ⟨rfl, rfl, rfl, by decide +kernel, rfl, by decide +kernel, by decide +kernel⟩
abbrev s_are_unlike_options : Stmt := topS 20
theorem sc_are_unlike_options : FnScope ["options", "names", "name"] ["options", "names"] (defScope s_are_unlike_options) := ⟨rfl, rfl, rfl, by decide +kernel, rfl, by decide +kernel, by decide +kernel⟩
abbrev s_is_mark : Stmt := topS 24
theorem sc_is_mark : FnScope ["thing"] ["thing"] (defScope s_is_mark) := ⟨rfl, rfl, rfl, by decide +kernel, rfl, by decide +kernel, by decide +kernel⟩
abbrev s_are_tiers : Stmt := topS 22
theorem sc_are_tiers : FnScope ["options", "told", "tier", "name"] ["options", "told"] (defScope s_are_tiers) := ⟨rfl, rfl, rfl, by decide +kernel, rfl, by decide +kernel, by decide +kernel⟩
abbrev s_are_marks : Stmt := topS 23
theorem sc_are_marks : FnScope ["options", "told", "pair"] ["options", "told"] (defScope s_are_marks) := ⟨rfl, rfl, rfl, by decide +kernel, rfl, by decide +kernel, by decide +kernel⟩
abbrev s_is_ballot : Stmt := topS 21
theorem sc_is_ballot : FnScope ["options", "thing", "form", "told"] ["options", "thing"] (defScope s_is_ballot) := ⟨rfl, rfl, rfl, by decide +kernel, rfl, by decide +kernel, by decide +kernel⟩
abbrev s_is_row : Stmt := topS 38
theorem sc_is_row : FnScope ["options", "thing"] ["options", "thing"] (defScope s_is_row) := ⟨rfl, rfl, rfl, by decide +kernel, rfl, by decide +kernel, by decide +kernel⟩
abbrev s_check_poll : Stmt := topS 37
theorem sc_check_poll : FnScope ["options", "voices", "row"] ["options", "voices"] (defScope s_check_poll) := ⟨rfl, rfl, rfl, by decide +kernel, rfl, by decide +kernel, by decide +kernel⟩
abbrev s_Poll_init : Stmt := inClass (topS 36) 0
theorem sc_Poll_init : FnScope ["self", "options", "voices"] ["self", "options", "voices"] (defScope s_Poll_init) := ⟨rfl, rfl, rfl, by decide +kernel, rfl, by decide +kernel, by decide +kernel⟩
abbrev s_order_ranks : Stmt := topS 26
theorem sc_order_ranks : FnScope ["options", "told", "found", "at", "tier", "name"] ["options", "told"] (defScope s_order_ranks) := ⟨rfl, rfl, rfl, by decide +kernel, rfl, by decide +kernel, by decide +kernel⟩
abbrev s_ranks : Stmt := topS 25
theorem sc_ranks : FnScope ["options", "ballot", "form", "told", "marks", "name", "mark"] ["options", "ballot"] (defScope s_ranks) := ⟨rfl, rfl, rfl, by decide +kernel, rfl, by decide +kernel, by decide +kernel⟩
abbrev s_tiers : Stmt := topS 27
theorem sc_tiers : FnScope ["options", "ballot", "rank", "levels", "level", "name"] ["options", "ballot"] (defScope s_tiers) := ⟨rfl, rfl, rfl, by decide +kernel, rfl, by decide +kernel, by decide +kernel⟩
abbrev s_Share_init : Stmt := inClass (topS 29) 0
theorem sc_Share_init : FnScope ["self", "num", "over", "common"] ["self", "num", "over"] (defScope s_Share_init) := ⟨rfl, rfl, rfl, by decide +kernel, rfl, by decide +kernel, by decide +kernel⟩
abbrev s_Share_plus : Stmt := inClass (topS 29) 4
theorem sc_Share_plus : FnScope ["self", "other"] ["self", "other"] (defScope s_Share_plus) := ⟨rfl, rfl, rfl, by decide +kernel, rfl, by decide +kernel, by decide +kernel⟩
abbrev s_are_weights : Stmt := topS 31
theorem sc_are_weights : FnScope ["options", "thing", "weight", "before"] ["options", "thing"] (defScope s_are_weights) := ⟨rfl, rfl, rfl, by decide +kernel, rfl, by decide +kernel, by decide +kernel⟩
abbrev s_weighed : Stmt := topS 32
theorem sc_weighed : FnScope ["poll", "weights", "found", "ballot", "many", "at", "tier", "mean", "name"] ["poll", "weights"] (defScope s_weighed) := ⟨rfl, rfl, rfl, by decide +kernel, rfl, by decide +kernel, by decide +kernel⟩
abbrev s_law_cell_at : Stmt := topS 41
theorem sc_law_cell_at : FnScope ["_law_script", "_law_k"] ["_law_script", "_law_k"] (defScope s_law_cell_at) := ⟨rfl, rfl, rfl, by decide +kernel, rfl, by decide +kernel, by decide +kernel⟩
abbrev s_law_well : Stmt := topS 42
theorem sc_law_well : FnScope ["_law_cell"] ["_law_cell"] (defScope s_law_well) := ⟨rfl, rfl, rfl, by decide +kernel, rfl, by decide +kernel, by decide +kernel⟩
abbrev s_law_draw : Stmt := topS 43
theorem sc_law_draw : FnScope ["_law_well_here", "_law_size", "_law_digit", "_law_mix"] ["_law_well_here", "_law_size"] (defScope s_law_draw) := ⟨rfl, rfl, rfl, by decide +kernel, rfl, by decide +kernel, by decide +kernel⟩
abbrev s_law_one : Stmt := topS 44
theorem sc_law_one : FnScope ["_law_well_here", "_law_some"] ["_law_well_here", "_law_some"] (defScope s_law_one) := ⟨rfl, rfl, rfl, by decide +kernel, rfl, by decide +kernel, by decide +kernel⟩
abbrev s_law_options : Stmt := topS 45
theorem sc_law_options : FnScope ["_law_well_here", "_law_size", "_law_letters", "_law_first", "_law_found", "_law_k", "_law_word", "_law_j"] ["_law_well_here", "_law_size"] (defScope s_law_options) := ⟨rfl, rfl, rfl, by decide +kernel, rfl, by decide +kernel, by decide +kernel⟩
abbrev s_law_shuffled : Stmt := topS 46
theorem sc_law_shuffled : FnScope ["_law_well_here", "_law_some", "_law_left", "_law_k"] ["_law_well_here", "_law_some"] (defScope s_law_shuffled) := ⟨rfl, rfl, rfl, by decide +kernel, rfl, by decide +kernel, by decide +kernel⟩
abbrev s_law_tiers_drawn : Stmt := topS 47
theorem sc_law_tiers_drawn : FnScope ["_law_well_here", "_law_some", "_law_found", "_law_word"] ["_law_well_here", "_law_some"] (defScope s_law_tiers_drawn) := ⟨rfl, rfl, rfl, by decide +kernel, rfl, by decide +kernel, by decide +kernel⟩
abbrev s_law_ballot : Stmt := topS 48
theorem sc_law_ballot : FnScope ["_law_well_here", "_law_options_here", "_law_way", "_law_some", "_law_word"] ["_law_well_here", "_law_options_here"] (defScope s_law_ballot) := ⟨rfl, rfl, rfl, by decide +kernel, rfl, by decide +kernel, by decide +kernel⟩
abbrev s_law_rows : Stmt := topS 49
theorem sc_law_rows : FnScope ["_law_well_here", "_law_options_here", "_law_size", "_law_found", "_law_k", "_law_count"] ["_law_well_here", "_law_options_here", "_law_size"] (defScope s_law_rows) := ⟨rfl, rfl, rfl, by decide +kernel, rfl, by decide +kernel, by decide +kernel⟩
abbrev s_law_high : Stmt := topS 50
theorem sc_law_high : FnScope ["_law_options_here", "_law_ballot_here", "_law_found", "_law_at", "_law_tier", "_law_word", "_law_mark"] ["_law_options_here", "_law_ballot_here"] (defScope s_law_high) := ⟨rfl, rfl, rfl, by decide +kernel, rfl, by decide +kernel, by decide +kernel⟩
abbrev s_law_tiers : Stmt := topS 51
theorem sc_law_tiers : FnScope ["_law_options_here", "_law_ballot_here", "_law_high_here", "_law_steps", "_law_word", "_law_step"] ["_law_options_here", "_law_ballot_here"] (defScope s_law_tiers) := ⟨rfl, rfl, rfl, by decide +kernel, rfl, by decide +kernel, by decide +kernel⟩
abbrev s_law_lowest : Stmt := topS 52
theorem sc_law_lowest : FnScope ["_law_top", "_law_ground", "_law_one_here", "_law_rest"] ["_law_top", "_law_ground"] (defScope s_law_lowest) := ⟨rfl, rfl, rfl, by decide +kernel, rfl, by decide +kernel, by decide +kernel⟩
abbrev s_law_weights : Stmt := topS 53
theorem sc_law_weights : FnScope ["_law_well_here", "_law_size", "_law_top", "_law_found", "_law_k"] ["_law_well_here", "_law_size"] (defScope s_law_weights) := ⟨rfl, rfl, rfl, by decide +kernel, rfl, by decide +kernel, by decide +kernel⟩
abbrev s_law_bad : Stmt := topS 54
theorem sc_law_bad : FnScope ["_law_well_here", "_law_weights_here", "_law_some", "_law_found"] ["_law_well_here", "_law_weights_here"] (defScope s_law_bad) := ⟨rfl, rfl, rfl, by decide +kernel, rfl, by decide +kernel, by decide +kernel⟩
abbrev s_law_due : Stmt := topS 55
theorem sc_law_due : FnScope ["_law_drawn", "_law_rows_here", "_law_weights_here", "_law_found", "_law_word", "_law_total", "_law_slip", "_law_count", "_law_spot", "_law_tier", "_law_top"] ["_law_drawn", "_law_rows_here", "_law_weights_here"] (defScope s_law_due) := ⟨rfl, rfl, rfl, by decide +kernel, rfl, by decide +kernel, by decide +kernel⟩
abbrev s_law_refused : Stmt := topS 56
theorem sc_law_refused : FnScope ["_law_poll", "_law_weights_here", "_law_told", "e"] ["_law_poll", "_law_weights_here"] (defScope s_law_refused) := ⟨rfl, rfl, rfl, by decide +kernel, rfl, by decide +kernel, by decide +kernel⟩
abbrev s_law : Stmt := topS 57
theorem sc_law : FnScope ["_law_script", "_law_cell", "_law_well_here", "_law_drawn", "_law_rows_here", "_law_poll", "_law_weights_here", "_law_turn", "_law_found", "_law_word", "_law_share"] ["_law_script"] (defScope s_law) := ⟨rfl, rfl, rfl, by decide +kernel, rfl, by decide +kernel, by decide +kernel⟩
structure Txt (K : PySem.W.Frag) (mg : Str → Option Value) where
  f_PollError_init : Addr
  fd_PollError_init : FuncData
  F_PollError_init : FunD K "__init__" "PollError.__init__" (defArgs s_PollError_init) (defBody s_PollError_init) (defScope s_PollError_init) [.str ""] [] f_PollError_init fd_PollError_init
  gkb_PollError_init_2 : List Value → List Value → List Value
  kb_PollError_init_2 : KBn K fd_PollError_init ["self", "why"] 2 [] gkb_PollError_init_2 (fun vs zs => vs)
  f_NoShare_init : Addr
  fd_NoShare_init : FuncData
  F_NoShare_init : Fun K "__init__" "NoShare.__init__" s_NoShare_init f_NoShare_init fd_NoShare_init
  gkb_NoShare_init_2_over : List Value → List Value → List Value
  kb_NoShare_init_2_over : KBn K fd_NoShare_init ["self", "num", "over"] 2 ["over"] gkb_NoShare_init_2_over (fun vs zs => vs ++ ((zs.drop 0).take 1))
  f_is_whole : Addr
  fd_is_whole : FuncData
  F_is_whole : Fun K "is_whole" "is_whole" s_is_whole f_is_whole fd_is_whole
  b_is_whole : Binds K fd_is_whole ["thing"] []
  g_is_whole : mg "is_whole" = some (.ref f_is_whole)
  f_is_name : Addr
  fd_is_name : FuncData
  F_is_name : Fun K "is_name" "is_name" s_is_name f_is_name fd_is_name
  b_is_name : Binds K fd_is_name ["thing"] []
  g_is_name : mg "is_name" = some (.ref f_is_name)
  f_is_tuple_of : Addr
  fd_is_tuple_of : FuncData
  F_is_tuple_of : Fun K "is_tuple_of" "is_tuple_of" s_is_tuple_of f_is_tuple_of fd_is_tuple_of
  b_is_tuple_of : Binds K fd_is_tuple_of ["thing", "many"] []
  g_is_tuple_of : mg "is_tuple_of" = some (.ref f_is_tuple_of)
  f_are_names : Addr
  fd_are_names : FuncData
  F_are_names : Fun K "are_names" "are_names" s_are_names f_are_names fd_are_names
  b_are_names : Binds K fd_are_names ["thing"] []
  g_are_names : mg "are_names" = some (.ref f_are_names)
  f_are_options : Addr
  fd_are_options : FuncData
  F_are_options : Fun K "are_options" "are_options" s_are_options f_are_options fd_are_options
  b_are_options : Binds K fd_are_options ["thing"] []
  g_are_options : mg "are_options" = some (.ref f_are_options)
  f_is_option : Addr
  fd_is_option : FuncData
  F_is_option : Fun K "is_option" "is_option" s_is_option f_is_option fd_is_option
  b_is_option : Binds K fd_is_option ["options", "thing"] []
  g_is_option : mg "is_option" = some (.ref f_is_option)
  f_are_unlike_options : Addr
  fd_are_unlike_options : FuncData
  F_are_unlike_options : Fun K "are_unlike_options" "are_unlike_options" s_are_unlike_options f_are_unlike_options fd_are_unlike_options
  b_are_unlike_options : Binds K fd_are_unlike_options ["options", "names"] []
  g_are_unlike_options : mg "are_unlike_options" = some (.ref f_are_unlike_options)
  f_is_mark : Addr
  fd_is_mark : FuncData
  F_is_mark : Fun K "is_mark" "is_mark" s_is_mark f_is_mark fd_is_mark
  b_is_mark : Binds K fd_is_mark ["thing"] []
  g_is_mark : mg "is_mark" = some (.ref f_is_mark)
  f_are_tiers : Addr
  fd_are_tiers : FuncData
  F_are_tiers : Fun K "are_tiers" "are_tiers" s_are_tiers f_are_tiers fd_are_tiers
  b_are_tiers : Binds K fd_are_tiers ["options", "told"] []
  g_are_tiers : mg "are_tiers" = some (.ref f_are_tiers)
  f_are_marks : Addr
  fd_are_marks : FuncData
  F_are_marks : Fun K "are_marks" "are_marks" s_are_marks f_are_marks fd_are_marks
  b_are_marks : Binds K fd_are_marks ["options", "told"] []
  g_are_marks : mg "are_marks" = some (.ref f_are_marks)
  f_is_ballot : Addr
  fd_is_ballot : FuncData
  F_is_ballot : Fun K "is_ballot" "is_ballot" s_is_ballot f_is_ballot fd_is_ballot
  b_is_ballot : Binds K fd_is_ballot ["options", "thing"] []
  g_is_ballot : mg "is_ballot" = some (.ref f_is_ballot)
  f_is_row : Addr
  fd_is_row : FuncData
  F_is_row : Fun K "is_row" "is_row" s_is_row f_is_row fd_is_row
  b_is_row : Binds K fd_is_row ["options", "thing"] []
  g_is_row : mg "is_row" = some (.ref f_is_row)
  f_check_poll : Addr
  fd_check_poll : FuncData
  F_check_poll : Fun K "check_poll" "check_poll" s_check_poll f_check_poll fd_check_poll
  b_check_poll : Binds K fd_check_poll ["options", "voices"] []
  g_check_poll : mg "check_poll" = some (.ref f_check_poll)
  gkb_check_poll_2 : List Value → List Value → List Value
  kb_check_poll_2 : KBn K fd_check_poll ["options", "voices"] 2 [] gkb_check_poll_2 (fun vs zs => vs)
  f_Poll_init : Addr
  fd_Poll_init : FuncData
  e_Poll_init : Addr
  F_Poll_init : FunD K "__init__" "Poll.__init__" (defArgs s_Poll_init) (defBody s_Poll_init) (defScope s_Poll_init) [.ref e_Poll_init] [] f_Poll_init fd_Poll_init
  gkb_Poll_init_3 : List Value → List Value → List Value
  kb_Poll_init_3 : KBn K fd_Poll_init ["self", "options", "voices"] 3 [] gkb_Poll_init_3 (fun vs zs => vs)
  f_order_ranks : Addr
  fd_order_ranks : FuncData
  F_order_ranks : Fun K "order_ranks" "order_ranks" s_order_ranks f_order_ranks fd_order_ranks
  b_order_ranks : Binds K fd_order_ranks ["options", "told"] []
  g_order_ranks : mg "order_ranks" = some (.ref f_order_ranks)
  f_ranks : Addr
  fd_ranks : FuncData
  F_ranks : Fun K "ranks" "ranks" s_ranks f_ranks fd_ranks
  b_ranks : Binds K fd_ranks ["options", "ballot"] []
  g_ranks : mg "ranks" = some (.ref f_ranks)
  f_tiers : Addr
  fd_tiers : FuncData
  F_tiers : Fun K "tiers" "tiers" s_tiers f_tiers fd_tiers
  b_tiers : Binds K fd_tiers ["options", "ballot"] []
  g_tiers : mg "tiers" = some (.ref f_tiers)
  f_Share_init : Addr
  fd_Share_init : FuncData
  F_Share_init : FunD K "__init__" "Share.__init__" (defArgs s_Share_init) (defBody s_Share_init) (defScope s_Share_init) [.int 1] [] f_Share_init fd_Share_init
  gkb_Share_init_3 : List Value → List Value → List Value
  kb_Share_init_3 : KBn K fd_Share_init ["self", "num", "over"] 3 [] gkb_Share_init_3 (fun vs zs => vs)
  gkb_Share_init_2 : List Value → List Value → List Value
  kb_Share_init_2 : KBn K fd_Share_init ["self", "num", "over"] 2 [] gkb_Share_init_2 (fun vs zs => vs ++ ([V.int 1]))
  f_Share_plus : Addr
  fd_Share_plus : FuncData
  F_Share_plus : Fun K "plus" "Share.plus" s_Share_plus f_Share_plus fd_Share_plus
  b_Share_plus : Binds K fd_Share_plus ["self", "other"] []
  gkb_Share_plus_2 : List Value → List Value → List Value
  kb_Share_plus_2 : KBn K fd_Share_plus ["self", "other"] 2 [] gkb_Share_plus_2 (fun vs zs => vs)
  f_are_weights : Addr
  fd_are_weights : FuncData
  F_are_weights : Fun K "are_weights" "are_weights" s_are_weights f_are_weights fd_are_weights
  b_are_weights : Binds K fd_are_weights ["options", "thing"] []
  g_are_weights : mg "are_weights" = some (.ref f_are_weights)
  f_weighed : Addr
  fd_weighed : FuncData
  F_weighed : Fun K "weighed" "weighed" s_weighed f_weighed fd_weighed
  b_weighed : Binds K fd_weighed ["poll", "weights"] []
  g_weighed : mg "weighed" = some (.ref f_weighed)
  gkb_weighed_2 : List Value → List Value → List Value
  kb_weighed_2 : KBn K fd_weighed ["poll", "weights"] 2 [] gkb_weighed_2 (fun vs zs => vs)
  f_law_cell_at : Addr
  fd_law_cell_at : FuncData
  F_law_cell_at : Fun K "_law_cell_at" "_law_cell_at" s_law_cell_at f_law_cell_at fd_law_cell_at
  b_law_cell_at : Binds K fd_law_cell_at ["_law_script", "_law_k"] []
  g_law_cell_at : mg "_law_cell_at" = some (.ref f_law_cell_at)
  f_law_well : Addr
  fd_law_well : FuncData
  F_law_well : Fun K "_law_well" "_law_well" s_law_well f_law_well fd_law_well
  b_law_well : Binds K fd_law_well ["_law_cell"] []
  g_law_well : mg "_law_well" = some (.ref f_law_well)
  f_law_draw : Addr
  fd_law_draw : FuncData
  F_law_draw : Fun K "_law_draw" "_law_draw" s_law_draw f_law_draw fd_law_draw
  b_law_draw : Binds K fd_law_draw ["_law_well_here", "_law_size"] []
  g_law_draw : mg "_law_draw" = some (.ref f_law_draw)
  f_law_one : Addr
  fd_law_one : FuncData
  F_law_one : Fun K "_law_one" "_law_one" s_law_one f_law_one fd_law_one
  b_law_one : Binds K fd_law_one ["_law_well_here", "_law_some"] []
  g_law_one : mg "_law_one" = some (.ref f_law_one)
  f_law_options : Addr
  fd_law_options : FuncData
  F_law_options : Fun K "_law_options" "_law_options" s_law_options f_law_options fd_law_options
  b_law_options : Binds K fd_law_options ["_law_well_here", "_law_size"] []
  g_law_options : mg "_law_options" = some (.ref f_law_options)
  f_law_shuffled : Addr
  fd_law_shuffled : FuncData
  F_law_shuffled : Fun K "_law_shuffled" "_law_shuffled" s_law_shuffled f_law_shuffled fd_law_shuffled
  b_law_shuffled : Binds K fd_law_shuffled ["_law_well_here", "_law_some"] []
  g_law_shuffled : mg "_law_shuffled" = some (.ref f_law_shuffled)
  f_law_tiers_drawn : Addr
  fd_law_tiers_drawn : FuncData
  F_law_tiers_drawn : Fun K "_law_tiers_drawn" "_law_tiers_drawn" s_law_tiers_drawn f_law_tiers_drawn fd_law_tiers_drawn
  b_law_tiers_drawn : Binds K fd_law_tiers_drawn ["_law_well_here", "_law_some"] []
  g_law_tiers_drawn : mg "_law_tiers_drawn" = some (.ref f_law_tiers_drawn)
  f_law_ballot : Addr
  fd_law_ballot : FuncData
  F_law_ballot : Fun K "_law_ballot" "_law_ballot" s_law_ballot f_law_ballot fd_law_ballot
  b_law_ballot : Binds K fd_law_ballot ["_law_well_here", "_law_options_here"] []
  g_law_ballot : mg "_law_ballot" = some (.ref f_law_ballot)
  f_law_rows : Addr
  fd_law_rows : FuncData
  F_law_rows : Fun K "_law_rows" "_law_rows" s_law_rows f_law_rows fd_law_rows
  b_law_rows : Binds K fd_law_rows ["_law_well_here", "_law_options_here", "_law_size"] []
  g_law_rows : mg "_law_rows" = some (.ref f_law_rows)
  f_law_high : Addr
  fd_law_high : FuncData
  F_law_high : Fun K "_law_high" "_law_high" s_law_high f_law_high fd_law_high
  b_law_high : Binds K fd_law_high ["_law_options_here", "_law_ballot_here"] []
  g_law_high : mg "_law_high" = some (.ref f_law_high)
  f_law_tiers : Addr
  fd_law_tiers : FuncData
  F_law_tiers : Fun K "_law_tiers" "_law_tiers" s_law_tiers f_law_tiers fd_law_tiers
  b_law_tiers : Binds K fd_law_tiers ["_law_options_here", "_law_ballot_here"] []
  g_law_tiers : mg "_law_tiers" = some (.ref f_law_tiers)
  f_law_lowest : Addr
  fd_law_lowest : FuncData
  F_law_lowest : Fun K "_law_lowest" "_law_lowest" s_law_lowest f_law_lowest fd_law_lowest
  b_law_lowest : Binds K fd_law_lowest ["_law_top", "_law_ground"] []
  g_law_lowest : mg "_law_lowest" = some (.ref f_law_lowest)
  f_law_weights : Addr
  fd_law_weights : FuncData
  F_law_weights : Fun K "_law_weights" "_law_weights" s_law_weights f_law_weights fd_law_weights
  b_law_weights : Binds K fd_law_weights ["_law_well_here", "_law_size"] []
  g_law_weights : mg "_law_weights" = some (.ref f_law_weights)
  f_law_bad : Addr
  fd_law_bad : FuncData
  F_law_bad : Fun K "_law_bad" "_law_bad" s_law_bad f_law_bad fd_law_bad
  b_law_bad : Binds K fd_law_bad ["_law_well_here", "_law_weights_here"] []
  g_law_bad : mg "_law_bad" = some (.ref f_law_bad)
  f_law_due : Addr
  fd_law_due : FuncData
  F_law_due : Fun K "_law_due" "_law_due" s_law_due f_law_due fd_law_due
  b_law_due : Binds K fd_law_due ["_law_drawn", "_law_rows_here", "_law_weights_here"] []
  g_law_due : mg "_law_due" = some (.ref f_law_due)
  f_law_refused : Addr
  fd_law_refused : FuncData
  F_law_refused : Fun K "_law_refused" "_law_refused" s_law_refused f_law_refused fd_law_refused
  b_law_refused : Binds K fd_law_refused ["_law_poll", "_law_weights_here"] []
  g_law_refused : mg "_law_refused" = some (.ref f_law_refused)
  f_law : Addr
  fd_law : FuncData
  F_law : Fun K "law" "law" s_law f_law fd_law
  b_law : Binds K fd_law ["_law_script"] []
  g_law : mg "law" = some (.ref f_law)
  C_PollError : Addr
  k_PollError : mg "PollError" = some (.ref C_PollError)
  ex_PollError : ExK K C_PollError f_PollError_init
  ox_PollError : OexC K C_PollError
  xf_PollError : XfC K C_PollError
  nf_PollError_why : PySem.W.findIn K (.ref C_PollError) "why" = some none
  rd_PollError : PySem.W.readsIn K C_PollError (.type "type") = true
  ga_PollError : PySem.W.specialIn K (.ref C_PollError) "__getattribute__" = some (some (.builtin "type.__getattribute__"))
  fc_PollError_init : PySem.W.findCls K (.ref C_PollError) (.type "type") "__init__" = some (.val (.ref f_PollError_init))
  C_NoShare : Addr
  k_NoShare : mg "NoShare" = some (.ref C_NoShare)
  ex_NoShare : ExK K C_NoShare f_NoShare_init
  ox_NoShare : OexC K C_NoShare
  xf_NoShare : XfC K C_NoShare
  nf_NoShare_why : PySem.W.findIn K (.ref C_NoShare) "why" = some none
  nf_NoShare_num : PySem.W.findIn K (.ref C_NoShare) "num" = some none
  nf_NoShare_over : PySem.W.findIn K (.ref C_NoShare) "over" = some none
  C_BadBallot : Addr
  k_BadBallot : mg "BadBallot" = some (.ref C_BadBallot)
  ex_BadBallot : ExK K C_BadBallot f_PollError_init
  ox_BadBallot : OexC K C_BadBallot
  xf_BadBallot : XfC K C_BadBallot
  nf_BadBallot_why : PySem.W.findIn K (.ref C_BadBallot) "why" = some none
  C_BadOrder : Addr
  k_BadOrder : mg "BadOrder" = some (.ref C_BadOrder)
  ex_BadOrder : ExK K C_BadOrder f_PollError_init
  ox_BadOrder : OexC K C_BadOrder
  xf_BadOrder : XfC K C_BadOrder
  nf_BadOrder_why : PySem.W.findIn K (.ref C_BadOrder) "why" = some none
  C_BadPoll : Addr
  k_BadPoll : mg "BadPoll" = some (.ref C_BadPoll)
  ex_BadPoll : ExK K C_BadPoll f_PollError_init
  ox_BadPoll : OexC K C_BadPoll
  xf_BadPoll : XfC K C_BadPoll
  nf_BadPoll_why : PySem.W.findIn K (.ref C_BadPoll) "why" = some none
  C_BadRule : Addr
  k_BadRule : mg "BadRule" = some (.ref C_BadRule)
  ex_BadRule : ExK K C_BadRule f_PollError_init
  ox_BadRule : OexC K C_BadRule
  xf_BadRule : XfC K C_BadRule
  nf_BadRule_why : PySem.W.findIn K (.ref C_BadRule) "why" = some none
  ic_BadRule : ExcC K C_BadRule
  C_Share : Addr
  k_Share : mg "Share" = some (.ref C_Share)
  cl_Share : Cls K C_Share
  n_Share_num : NoAttr K C_Share "num"
  n_Share_over : NoAttr K C_Share "over"
  mk_Share : Mk K C_Share f_Share_init
  me_Share_plus : Meth K C_Share "plus" f_Share_plus
  C_Poll : Addr
  k_Poll : mg "Poll" = some (.ref C_Poll)
  cl_Poll : Cls K C_Poll
  n_Poll_options : NoAttr K C_Poll "options"
  n_Poll_voices : NoAttr K C_Poll "voices"
  mk_Poll : Mk K C_Poll f_Poll_init
  te_BadRule_PollError : PySem.W.exmOne K (.ref C_BadRule) (.ref C_PollError) = some true
  kt_BadRule_BadRule : PySem.W.kitOne K (.ref C_BadRule) (.ref C_BadRule) = some true
  kt_BadRule_BadBallot : PySem.W.kitOne K (.ref C_BadRule) (.ref C_BadBallot) = some false
  kt_BadRule_BadOrder : PySem.W.kitOne K (.ref C_BadRule) (.ref C_BadOrder) = some false
  kt_BadRule_BadPoll : PySem.W.kitOne K (.ref C_BadRule) (.ref C_BadPoll) = some false
  vV : PySem.W.findCls K (.type "ValueError") (.type "type") "__init__" = some (.val (.builtin "ValueError.__init__"))
  gcd : mg "gcd" = some (.builtin "math.gcd")
  z_ValueError : mg "ValueError" = none
  z_isinstance : mg "isinstance" = none
  z_bool : mg "bool" = none
  z_int : mg "int" = none
  z_str : mg "str" = none
  z_len : mg "len" = none
  z_all : mg "all" = none
  z_tuple : mg "tuple" = none
  z_enumerate : mg "enumerate" = none
  z_sorted : mg "sorted" = none
  z_set : mg "set" = none
  z_list : mg "list" = none
  z_sum : mg "sum" = none
  z_range : mg "range" = none
  z_dict : mg "dict" = none
  z_abs : mg "abs" = none
  z_zip : mg "zip" = none
  t_LONGEST_NAME : Tok
  c_LONGEST_NAME : mg "LONGEST_NAME" = some (.int 8 t_LONGEST_NAME)
  t_MOST_OPTIONS : Tok
  c_MOST_OPTIONS : mg "MOST_OPTIONS" = some (.int 6 t_MOST_OPTIONS)
  t_GREATEST_MARK : Tok
  c_GREATEST_MARK : mg "GREATEST_MARK" = some (.int 9 t_GREATEST_MARK)
  t_MOST_VOICES : Tok
  c_MOST_VOICES : mg "MOST_VOICES" = some (.int 1000000 t_MOST_VOICES)
  t_MOST_ROWS : Tok
  c_MOST_ROWS : mg "MOST_ROWS" = some (.int 30 t_MOST_ROWS)
/-! ### wells -/
/-- a well's three numbers, k a bound of how often it was drawn from -/
def WellL (w : List V) (k : Nat) : Prop := ∃ a b c : Int, w = [.int a, .int b, .int c] ∧ 0 ≤ a ∧ 0 ≤ b ∧ b < 2147483629 ∧ 0 ≤ c ∧ c ≤ k
theorem WellL.mono {w : List V} {j k : Nat} (h : WellL w j) (hk : j ≤ k) : WellL w k := by
  obtain ⟨a, b, c, e, h1, h2, h3, h4, h5⟩ := h
  exact ⟨a, b, c, e, h1, h2, h3, h4, by omega⟩
theorem mix_mod (x m : Int) (h : 0 < m) : 0 ≤ x % m ∧ x % m < m := ⟨Int.emod_nonneg x (by omega), Int.emod_lt_of_pos x h⟩
theorem div_nn {a n : Int} (h : 0 ≤ a) (hn : 0 < n) : 0 ≤ a / n := Int.ediv_nonneg h (by omega)
theorem same_upd {H : Hp} {p : Addr} {o : HO} (h : H p = none) : Same H (upd H p o) := fun b x e => by
  rw [upd_ne (ne_of_none e h)]
  exact e
theorem same_mut {H H' : Hp} {p : Addr} {o : HO} (e : Same H H') (h : H p = none) : Same H (upd H' p o) := fun b x q => by
  rw [upd_ne (ne_of_none q h)]
  exact e b x q
theorem mulOk {a b : Int} {n m : Nat} (ha : a.natAbs < 2 ^ n) (hb : b.natAbs < 2 ^ m) (h : n + m + 1 ≤ 8000) : CMulW a b :=
  wide_mul (a := n + 1) (b := m + 1) (Nat.lt_of_lt_of_le ha (Nat.pow_le_pow_right (by decide) (by omega))) (Nat.lt_of_lt_of_le hb (Nat.pow_le_pow_right (by decide) (by omega))) (by omega) (by omega) (by omega)
theorem line_of {n : Nat} (h : n ≤ 1000) : n ≤ sizeLine := Nat.le_of_lt (small1000 h)
/-- what was tracked besides p stays -/
def But (p : Addr) (H H' : Hp) : Prop := ∀ b o, b ≠ p → H b = some o → H' b = some o
theorem But.refl (p : Addr) (H : Hp) : But p H H := fun _ _ _ h => h
theorem But.upd {p : Addr} {H H' : Hp} (e : But p H H') (o : HO) : But p H (upd H' p o) := fun b u hb q => by
  rw [upd_ne hb]
  exact e b u hb q
theorem But.new {p q : Addr} {H H' : Hp} (e : But p H H') (n : H' q = none) (o : HO) : But p H (L2.upd H' q o) := fun b u hb h => by
  have h2 := e b u hb h
  rw [upd_ne (ne_of_none h2 n)]
  exact h2
theorem But.same {p : Addr} {H H1 H2 : Hp} (e : But p H H1) (s : Same H1 H2) : But p H H2 := fun b u hb h => s b u (e b u hb h)
theorem But.trans {p : Addr} {H H1 H2 : Hp} (e : But p H H1) (f : But p H1 H2) : But p H H2 := fun b u hb h => f b u hb (e b u hb h)
/-- p new to H0 -/
theorem But.ext {p : Addr} {H0 H H' : Hp} (s : Same H0 H) (n : H0 p = none) (e : But p H H') : Same H0 H' := fun b u h => e b u (ne_of_none h n) (s b u h)
theorem size_ok {n : Int} (h0 : 0 ≤ n) (h : n ≤ 1000) : n.natAbs < 2 ^ 8000 := Nat.lt_of_le_of_lt (show n.natAbs ≤ 1000 by omega) (by decide +kernel)
theorem cut_ints (ns : List Int) (lo hi : Option Int) : ∃ ms : List Int, cutV (ns.map V.int) lo hi = ms.map V.int ∧ ms.length ≤ ns.length := by
  refine ⟨(ns.drop (HT.sIx (ns.map V.int).length 0 lo)).take (HT.sIx (ns.map V.int).length (ns.map V.int).length hi - HT.sIx (ns.map V.int).length 0 lo), ?_, ?_⟩
  · unfold cutV
    rw [← List.map_drop, ← List.map_take]
  · rw [List.length_take, List.length_drop]
    omega
theorem take_more {α : Type} : ∀ {l : List α} {i : Nat} {x : α}, l[i]? = some x → l.take (i + 1) = l.take i ++ [x]
  | [], i, x, h => by simp at h
  | a :: l, 0, x, h => by
    have e : a = x := Option.some.inj h
    subst e
    rfl
  | a :: l, i + 1, x, h => by
    have ih := take_more (l := l) (i := i) (x := x) h
    show a :: l.take (i + 1) = a :: l.take i ++ [x]
    rw [ih]
    rfl
section
variable {P : Program} {w : World} {K : PySem.W.Frag} {mg : Str → Option Value} {base : Heap}
/-! ### the law's own small defs -/
def sp_law_cell_at (K : PySem.W.Frag) : Sp := fun vs H Q _ => ∃ (a : Addr) (ns : List Int), vs = [.ref a, .int 0] ∧ SqL K H a (ns.map V.int) ∧ ns.length ≤ 63 ∧ ∀ z : Int, Q (.int z) H
theorem ok_law_cell_at (T : Txt K mg) : FnOk P w K mg base CX0 1 T.f_law_cell_at T.fd_law_cell_at ["_law_script", "_law_k"] (sp_law_cell_at K) := by
  refine T.F_law_cell_at.ok sc_law_cell_at (fun vs H Q E h => ?_) (fun cdv A outer s H vs Q E hr h => ?_)
  · obtain ⟨a, ns, rfl, _⟩ := h
    rfl
  · obtain ⟨a, ns, rfl, hS, hlen, q⟩ := h
    refine ⟨_, (pss_cons
 (ps_if (pt_cmpR op_lt (pv 1) (pe_callB call_len_seq (by rfl) T.z_len (by decide +kernel) (pa_cons (pv 0) pa_nil)) (nomark _))
 (pss_one
 (ps_ret (pe_ix ix_list (pv 0) (pv 1) (fun _ _ => rfl))))
 pss_nil)
 (pss_one
 (ps_ret pe_int))), ?_⟩
    refine ⟨.int 0, rfl, .ref a, rfl, a, ns.map V.int, rfl, .inl hS, 0, _, rfl, rfl, _, rfl, ite2 (fun e => ?_) (fun e => ?_)⟩
    · have e0 := of_decide_eq_true e
      cases ns with
      | nil => simp at e0
      | cons z r => exact ⟨.ref a, rfl, .int 0, rfl, a, _, 0, .int z, rfl, rfl, hS, atI_nat (j := 0) rfl, q z⟩
    · exact q 0
def sp_law_well : Sp := fun vs H Q _ => ∃ z : Int, vs = [.int z] ∧ ∀ (p : Addr) (x : List V) (H' : Hp), H p = none → Same H H' → H' p = some (.lst x) → WellL x 0 → Q (.ref p) H'
theorem ok_law_well (T : Txt K mg) : FnOk P w K mg base CX0 1 T.f_law_well T.fd_law_well ["_law_cell"] sp_law_well := by
  refine T.F_law_well.ok sc_law_well (fun vs H Q E h => ?_) (fun cdv A outer s H vs Q E hr h => ?_)
  · obtain ⟨z, rfl, _⟩ := h
    rfl
  · obtain ⟨z, rfl, q⟩ := h
    refine ⟨_, (pss_one
 (ps_ret (pe_lst (pa_cons (pe_ix ix_list (pe_lst (pa_cons pe_int (pa_cons (pv 0) pa_nil))) (pe_callTy call_int1 (by rfl) T.z_int (by decide +kernel) (pa_cons (pe_cmpR op_ge (pv 0) (pe_op op_pow pe_int pe_int) (nomark _)) pa_nil)) (fun _ _ => rfl)) (pa_cons (pe_op op_mod (pv 0) pe_int) (pa_cons pe_int pa_nil)))))), ?_⟩
    refine ⟨.int z, rfl, Nat.le_trans (by decide : 2 ≤ 1000) (Nat.le_of_lt (small1000 (by decide))), fun t nt => ?_⟩
    have ht : (upd H t (.lst [V.int 0, V.int z])) t = some (.lst [V.int 0, V.int z]) := upd_same
    refine ⟨.int z, rfl, 10, 18, rfl, rfl, ⟨by decide, by decide, by decide⟩, z, _, rfl, rfl, .inr ⟨_, rfl, ?_⟩⟩
    have fin : ∀ a : Int, 0 ≤ a → ∀ (p : Addr), (upd H t (.lst [V.int 0, V.int z])) p = none → Q (.ref p) (upd (upd H t (.lst [V.int 0, V.int z])) p (.lst [.int a, .int (z % 2147483629), .int 0])) := fun a ha p np => by
      have hb := mix_mod z 2147483629 (by decide)
      exact q p _ _ ((same_upd nt).free np) ((same_upd nt).trans (same_upd np)) upd_same ⟨a, _, 0, rfl, ha, hb.1, hb.2, by decide, by decide⟩
    by_cases hz : (10 : Int) ^ 18 ≤ z
    · refine ⟨t, _, 1, .int z, rfl, ?_, .of ht, rfl, .int z, rfl, z, _, rfl, rfl, (by show (0 : Int) < 2147483629; decide), Nat.le_trans (by decide : 3 ≤ 1000) (Nat.le_of_lt (small1000 (by decide))), fun p np => fin z (by omega) p np⟩
      rw [show decide ((10 : Int) ^ (18 : Int).toNat ≤ z) = true from decide_eq_true hz] <;> rfl
    · refine ⟨t, _, 0, .int 0, rfl, ?_, .of ht, rfl, .int z, rfl, z, _, rfl, rfl, (by show (0 : Int) < 2147483629; decide), Nat.le_trans (by decide : 3 ≤ 1000) (Nat.le_of_lt (small1000 (by decide))), fun p np => fin 0 (by omega) p np⟩
      rw [show decide ((10 : Int) ^ (18 : Int).toNat ≤ z) = false from decide_eq_false hz] <;> rfl
/-- drawing: a number below the size; the well holds three numbers again -/
def sp_law_draw : Sp := fun vs H Q _ => ∃ (p : Addr) (n : Int) (x : List V) (k : Nat), vs = [.ref p, .int n] ∧ H p = some (.lst x) ∧ WellL x k ∧ k ≤ 1000000 ∧ 0 < n ∧ n.natAbs < 2 ^ 8000 ∧
  ∀ (d : Int) (y : List V), 0 ≤ d → d < n → WellL y (k + 1) → Q (.int d) (upd H p (.lst y))
theorem ok_law_draw (T : Txt K mg) : FnOk P w K mg base CX0 1 T.f_law_draw T.fd_law_draw ["_law_well_here", "_law_size"] sp_law_draw := by
  refine T.F_law_draw.ok sc_law_draw (fun vs H Q E h => ?_) (fun cdv A outer s H vs Q E hr h => ?_)
  · obtain ⟨p, n, x, k, rfl, _⟩ := h
    rfl
  · obtain ⟨p, n, x, k, rfl, hp, ⟨a, b, c, rfl, ha, hb, hb2, hc, hck⟩, hk, hn, hn2, q⟩ := h
    refine ⟨_, (pss_cons
 (ps_if (pt_cmpR op_gt (pe_ix ix_list (pv 0) pe_int (fun _ _ => rfl)) pe_int (nomark _))
 (pss_cons
 (ps_set (i := 2) sc_law_draw.nd rfl (Or.inl rfl) (pe_op op_mod (pe_ix ix_list (pv 0) pe_int (fun _ _ => rfl)) (pv 1)))
 (pss_cons
 (ps_asg (pe_op op_fdivW (pe_ix ix_list (pv 0) pe_int (fun _ _ => rfl)) (pv 1)) (pg_sub (pv 0) pe_int set_list))
 (pss_one
 (ps_ret (pv 2)))))
 pss_nil)
 (pss_cons
 (ps_asg (pe_op op_add (pe_ix ix_list (pv 0) pe_int (fun _ _ => rfl)) pe_int) (pg_sub (pv 0) pe_int set_list))
 (pss_cons
 (ps_set (i := 3) sc_law_draw.nd rfl (Or.inl rfl) (pe_op op_mod (pe_op op_pow (pe_op op_add (pe_op op_add (pe_ix ix_list (pv 0) pe_int (fun _ _ => rfl)) (pe_op op_mul pe_int (pe_ix ix_list (pv 0) pe_int (fun _ _ => rfl)))) pe_int) pe_int) pe_int))
 (pss_cons
 (ps_set (i := 3) sc_law_draw.nd rfl (Or.inl rfl) (pe_op op_mod (pe_op op_mul (pv 3) (pe_op op_add (pe_op op_add (pe_op op_fdiv (pv 3) pe_int) pe_int) (pe_ix ix_list (pv 0) pe_int (fun _ _ => rfl)))) pe_int))
 (pss_one
 (ps_ret (pe_op op_mod (pe_op op_mod (pe_op op_mul (pv 3) (pe_op op_add (pe_op op_fdiv (pv 3) pe_int) pe_int)) pe_int) (pv 1)))))))), ?_⟩
    refine ⟨.ref p, rfl, p, _, 0, .int a, rfl, rfl, .of hp, rfl, a, 0, rfl, rfl, _, rfl, ite2 (fun e => ?_) (fun e => ?_)⟩
    · have hd := mix_mod a n hn
      have ha2 := div_nn ha hn
      refine ⟨.ref p, rfl, p, _, 0, .int a, rfl, rfl, .of hp, rfl, .int n, rfl, a, n, rfl, rfl, hn, ?_⟩
      refine ⟨.ref p, rfl, p, _, 0, .int a, rfl, rfl, .of hp, rfl, .int n, rfl, a, n, rfl, rfl, wide_div hn hn2 (by decide) (by decide), .ref p, rfl, p, _, 0, 0, rfl, rfl, hp, rfl, ?_⟩
      exact ⟨_, rfl, q (a % n) _ hd.1 hd.2 ⟨a / n, b, c, rfl, ha2, hb, hb2, hc, by omega⟩⟩
    · refine ⟨.ref p, rfl, p, _, 2, .int c, rfl, rfl, .of hp, rfl, c, 1, rfl, rfl, .ref p, rfl, p, _, 2, 2, rfl, rfl, hp, rfl, ?_⟩
      have h1 : (upd H p (.lst [V.int a, V.int b, V.int (c + 1)])) p = some (.lst [V.int a, V.int b, V.int (c + 1)]) := upd_same
      refine ⟨.ref p, rfl, p, _, 1, .int b, rfl, rfl, .of h1, rfl, .ref p, rfl, p, _, 2, .int (c + 1), rfl, rfl, .of h1, rfl, 7919, c + 1, rfl, rfl, .inl ⟨by decide, by decide⟩, b, _, rfl, rfl, _, 1, rfl, rfl, _, 5, rfl, rfl, ⟨by decide, by decide, by omega⟩, _, 2147483647, rfl, rfl, (by show (0 : Int) < 2147483647; decide), ?_⟩
      dsimp only
      generalize hg : (_ : Int) % 2147483647 = m
      have hm : 0 ≤ m ∧ m < 2147483647 := hg ▸ mix_mod _ _ (by decide)
      refine ⟨.int m, rfl, .int m, rfl, m, 1009, rfl, rfl, ⟨by decide, by decide⟩, _, 69621, rfl, rfl, .ref p, rfl, p, _, 2, .int (c + 1), rfl, rfl, .of h1, rfl, _, c + 1, rfl, rfl, m, _, rfl, rfl, .inl ⟨by omega, by omega⟩, _, 2147483629, rfl, rfl, (by show (0 : Int) < 2147483629; decide), ?_⟩
      dsimp only
      generalize hg2 : (_ : Int) % 2147483629 = m2
      have hm2 : 0 ≤ m2 ∧ m2 < 2147483629 := hg2 ▸ mix_mod _ _ (by decide)
      refine ⟨.int m2, rfl, .int m2, rfl, m2, 2003, rfl, rfl, ⟨by decide, by decide⟩, _, 40692, rfl, rfl, m2, _, rfl, rfl, .inl ⟨by omega, by omega⟩, _, 2147483399, rfl, rfl, (by show (0 : Int) < 2147483399; decide), .int n, rfl, _, n, rfl, rfl, hn, ?_⟩
      have hd := mix_mod (m2 * (m2 / 2003 + 40692) % 2147483399) n hn
      exact q _ _ hd.1 hd.2 ⟨a, b, c + 1, rfl, ha, hb, hb2, by omega, by omega⟩
end
theorem But.mut {p q : Addr} {H H' : Hp} {o : HO} (e : But p H H') (n : H q = none) : But p H (L2.upd H' q o) := fun b u hb h => by
  have hq : b ≠ q := fun z => by rw [z, n] at h; cases h
  rw [upd_ne hq]
  exact e b u hb h
theorem But.free {p q : Addr} {H H' : Hp} {o : HO} (e : But p H H') (hp : H' p = some o) (n : H' q = none) : H q = none := by
  have hq : q ≠ p := fun z => by rw [z, hp] at n; cases n
  cases h : H q with
  | none => rfl
  | some u => rw [e q u hq h] at n; cases n
theorem pick_perm {α : Type} : ∀ (l : List α) (n : Nat) (h : n < l.length), (l[n] :: l.eraseIdx n).Perm l
  | [], _, h => absurd h (Nat.not_lt_zero _)
  | a :: l, 0, _ => List.Perm.refl _
  | a :: l, n + 1, h => (List.Perm.swap a (l[n]'(Nat.lt_of_succ_lt_succ h)) (l.eraseIdx n)).trans ((pick_perm l n (Nat.lt_of_succ_lt_succ h)).cons a)
abbrev abc : Str := "abcdefghijklmnopqrstuvwxyz"
theorem abc_len : abc.length = 26 := by decide +kernel
theorem abc_all : ∀ j : Fin 26, abc.cps.toList[j.val]? = some (97 + j.val) := by decide +kernel
theorem abc_at {d : Int} (h0 : 0 ≤ d) (h1 : d < 26) : atI abc.cps.toList d = some (97 + d.toNat) := by
  obtain ⟨j, rfl⟩ := Int.eq_ofNat_of_zero_le h0
  exact atI_nat (abc_all ⟨j, by omega⟩)
def Small (z : Str) : Prop := ∀ c ∈ z.cps.toList, 97 ≤ c ∧ c ≤ 122
def NameOk (z : Str) : Prop := 1 ≤ z.length ∧ z.length ≤ 8 ∧ Small z
def lastc (z : Str) : Nat := z.cps.toList.getLastD 0
theorem cps_more (z : Str) (c : Nat) : (z ++ ⟨#[c]⟩ : Str).cps.toList = z.cps.toList ++ [c] := by
  rw [Str.cps_append, Array.toList_append]
theorem len_more (z : Str) (c : Nat) : (z ++ ⟨#[c]⟩ : Str).length = z.length + 1 := by
  rw [Str.length_append]
  rfl
theorem small_more {z : Str} {d : Int} (h : Small z) (h0 : 0 ≤ d) (h1 : d < 26) : Small (z ++ ⟨#[97 + d.toNat]⟩) := fun c hc => by
  rw [cps_more] at hc
  rcases List.mem_append.mp hc with hc | hc
  · exact h c hc
  · rw [List.mem_singleton.mp hc]
    omega
theorem last_more (z : Str) (c : Nat) : lastc (z ++ ⟨#[c]⟩) = c := by
  unfold lastc
  rw [cps_more, List.getLastD_concat]
theorem steps_nodup (a : Int) {n : Nat} (hn : n ≤ 6) : ((List.range n).map fun j : Nat => 97 + ((a + 3 * (j : Int)) % 26).toNat).Nodup := by
  refine List.pairwise_map.mpr (List.Pairwise.imp_of_mem (fun {i j} hi hj h => ?_) (List.pairwise_lt_range (n := n)))
  have h1 := List.mem_range.mp hi
  have h2 := List.mem_range.mp hj
  intro e
  omega
def tyD (t : List Str) : PyData := .tuple (t.map PyData.str)
theorem lay_strs : ∀ t : List Str, (∀ z ∈ t, PyData.strOk z = true) → PyData.canLayAll0 (t.map PyData.str) = true ∧ PyData.depthAll (t.map PyData.str) ≤ 0
  | [], _ => ⟨rfl, by decide⟩
  | a :: l, h => by
    obtain ⟨h1, h2⟩ := lay_strs l fun z hz => h z (List.mem_cons_of_mem _ hz)
    constructor
    · rw [List.map_cons, PyData.canLayAll0, h1]
      simp [PyData.canLay0, h a List.mem_cons_self]
    · rw [List.map_cons, PyData.depthAll]
      have : PyData.depth (.str a) = 0 := rfl
      omega
theorem lay_tiers : ∀ ts : List (List Str), (∀ t ∈ ts, ∀ z ∈ t, PyData.strOk z = true) → PyData.canLayAll0 (ts.map tyD) = true ∧ PyData.depthAll (ts.map tyD) ≤ 1
  | [], _ => ⟨rfl, by decide⟩
  | a :: l, h => by
    obtain ⟨h1, h2⟩ := lay_tiers l fun t ht => h t (List.mem_cons_of_mem _ ht)
    obtain ⟨g1, g2⟩ := lay_strs a (h a List.mem_cons_self)
    constructor
    · rw [List.map_cons, PyData.canLayAll0, h1]
      simp [tyD, PyData.canLay0, g1]
    · rw [List.map_cons, PyData.depthAll]
      have : PyData.depth (tyD a) ≤ 1 := by
        show PyData.depth (.tuple (a.map PyData.str)) ≤ 1
        rw [PyData.depth]
        omega
      omega
theorem shaped_tiers {ts : List (List Str)} (h : ∀ t ∈ ts, ∀ z ∈ t, PyData.strOk z = true) : SeqAt.shaped (.list (ts.map tyD)) = true := by
  obtain ⟨h1, h2⟩ := lay_tiers ts h
  unfold SeqAt.shaped
  rw [PyData.canLay0, h1, PyData.depth]
  simp only [Bool.true_and, decide_eq_true_eq]
  omega
theorem dp_strs {K : PySem.W.Frag} {H : Hp} : ∀ t : List Str, DpAll K H (t.map V.str) (t.map PyData.str)
  | [] => .nil
  | a :: l => .cons (.str a) (dp_strs l)
def Tiers (H : Hp) (bs : List (Addr × List Str)) : Prop := ∀ b ∈ bs, H b.1 = some (.tup (b.2.map V.str)) ∧ b.2 ≠ []
theorem dp_tiers {K : PySem.W.Frag} {H : Hp} : ∀ bs : List (Addr × List Str), Tiers H bs → DpAll K H (bs.map fun b => V.ref b.1) ((bs.map (·.2)).map tyD)
  | [], _ => .nil
  | b :: l, h => .cons (.tup (.of (h b List.mem_cons_self).1) (dp_strs b.2)) (dp_tiers l fun c hc => h c (List.mem_cons_of_mem _ hc))
theorem small_ok {z : Str} (h : Small z) : PyData.strOk z = true := by
  unfold PyData.strOk
  rw [← Array.all_toList, List.all_eq_true]
  exact fun c hc => decide_eq_true (by have := (h c hc).2; omega)
theorem cut_strs (ws : List Str) (lo hi : Option Int) : ∃ ms : List Str, cutV (ws.map V.str) lo hi = ms.map V.str ∧ ms.Sublist ws := by
  refine ⟨(ws.drop (HT.sIx (ws.map V.str).length 0 lo)).take (HT.sIx (ws.map V.str).length (ws.map V.str).length hi - HT.sIx (ws.map V.str).length 0 lo), ?_, (List.take_sublist _ _).trans (List.drop_sublist _ _)⟩
  unfold cutV
  rw [← List.map_drop, ← List.map_take]
theorem perm_strs {ys : List V} {zs : List Str} (h : ys.Perm (zs.map V.str)) : ∃ ws : List Str, ys = ws.map V.str ∧ ws.Perm zs := by
  let g : V → Str := fun v => match v with | .str s => s | _ => Str.empty
  have e : ∀ l : List Str, (l.map V.str).map g = l := fun l => by
    rw [List.map_map]
    exact List.map_id l
  refine ⟨ys.map g, ?_, by have := h.map g; rw [e] at this; exact this⟩
  rw [List.map_map]
  refine (List.map_id ys).symm.trans (List.map_congr_left fun v hv => ?_)
  obtain ⟨z, _, rfl⟩ := List.mem_map.mp (h.mem_iff.mp hv)
  rfl
theorem ix_last (n : Nat) : ixN (n + 1) (-1) = some n := by
  unfold ixN
  rw [if_neg (by decide)]
  simp
  omega
theorem set_last {α : Type} : ∀ (l : List α) (a b : α), (l ++ [a]).set l.length b = l ++ [b]
  | [], _, _ => rfl
  | c :: l, a, b => congrArg (c :: ·) (set_last l a b)
theorem at_last {α : Type} (l : List α) (a : α) : atI (l ++ [a]) (-1) = some a := by
  unfold atI
  rw [List.length_append, List.length_singleton, ix_last]
  show (l ++ [a])[l.length]? = some a
  rw [List.getElem?_append_right (Nat.le_refl _), Nat.sub_self]
  rfl
/-- a ballot, as the document tells them -/
inductive Bal where
  | order (ts : List (List Str))
  | lets (ns : List Str)
  | marks (ms : List (Str × Int))
def Bal.Ok (zs : List Str) : Bal → Prop
  | .order ts => ts.flatten.Nodup ∧ (∀ z ∈ ts.flatten, z ∈ zs) ∧ ∀ t ∈ ts, t ≠ []
  | .lets ns => ns.Nodup ∧ ∀ z ∈ ns, z ∈ zs
  | .marks ms => (ms.map (·.1)).Nodup ∧ (∀ m ∈ ms, m.1 ∈ zs) ∧ ∀ m ∈ ms, 0 ≤ m.2 ∧ m.2 ≤ 9
def BalAt (H : Hp) (t : Addr) : Bal → Prop
  | .order ts => ∃ (u : Addr) (bs : List (Addr × List Str)), H t = some (.tup [.str "order", .ref u]) ∧ H u = some (.tup (bs.map fun b => V.ref b.1)) ∧ Tiers H bs ∧ bs.map (·.2) = ts
  | .lets ns => ∃ u : Addr, H t = some (.tup [.str "lets", .ref u]) ∧ H u = some (.tup (ns.map V.str))
  | .marks ms => ∃ (u : Addr) (bs : List (Addr × (Str × Int))), H t = some (.tup [.str "marks", .ref u]) ∧ H u = some (.tup (bs.map fun b => V.ref b.1)) ∧ (∀ b ∈ bs, H b.1 = some (.tup [.str b.2.1, .int b.2.2])) ∧ bs.map (·.2) = ms
theorem BalAt.keep {H H' : Hp} {t : Addr} : ∀ {b : Bal}, (∀ a xs, H a = some (.tup xs) → H' a = some (.tup xs)) → BalAt H t b → BalAt H' t b
  | .order _, k, ⟨u, bs, h1, h2, h3, h4⟩ => ⟨u, bs, k _ _ h1, k _ _ h2, fun b hb => ⟨k _ _ (h3 b hb).1, (h3 b hb).2⟩, h4⟩
  | .lets _, k, ⟨u, h1, h2⟩ => ⟨u, k _ _ h1, k _ _ h2⟩
  | .marks _, k, ⟨u, bs, h1, h2, h3, h4⟩ => ⟨u, bs, k _ _ h1, k _ _ h2, fun b hb => k _ _ (h3 b hb), h4⟩
theorem But.tups {p : Addr} {H H' : Hp} {x : List V} (b : But p H H') (hp : H p = some (.lst x)) : ∀ a xs, H a = some (.tup xs) → H' a = some (.tup xs) := fun a xs h => b a _ (fun e => by rw [e, hp] at h; cases h) h
/-- tuples stay -/
def TK (H H' : Hp) : Prop := ∀ a xs, H a = some (.tup xs) → H' a = some (.tup xs)
theorem TK.trans {H H1 H2 : Hp} (a : TK H H1) (b : TK H1 H2) : TK H H2 := fun c xs h => b c xs (a c xs h)
theorem TK.new {H : Hp} {q : Addr} {o : HO} (n : H q = none) : TK H (upd H q o) := fun c xs h => (upd_ne (ne_of_none h n)).trans h
theorem TK.lst {H : Hp} {q : Addr} {x : List V} {o : HO} (n : H q = some (.lst x)) : TK H (upd H q o) := fun c xs h => (upd_ne (fun e => by rw [e, n] at h; cases h)).trans h
def RowsAt (H : Hp) (u : Addr) (rows : List (Bal × Int)) : Prop := ∃ as : List (Addr × Addr × (Bal × Int)), H u = some (.tup (as.map fun a => V.ref a.1)) ∧ (∀ a ∈ as, H a.1 = some (.tup [.ref a.2.1, .int a.2.2.2]) ∧ BalAt H a.2.1 a.2.2.1) ∧ as.map (·.2.2) = rows
theorem RowsAt.keep {H H' : Hp} {u : Addr} {rows : List (Bal × Int)} (k : TK H H') (h : RowsAt H u rows) : RowsAt H' u rows := by
  obtain ⟨as, h1, h2, h3⟩ := h
  exact ⟨as, k _ _ h1, fun a ha => ⟨k _ _ (h2 a ha).1, (h2 a ha).2.keep k⟩, h3⟩
def RowsOk (zs : List Str) (n : Nat) (rows : List (Bal × Int)) : Prop := rows.length ≤ n ∧ ∀ r ∈ rows, r.1.Ok zs ∧ 1 ≤ r.2 ∧ r.2 ≤ 1000000
theorem two_of (a b : V) (c : Bool) : atI [a, b] (if c = true then 1 else 0) = some (if c = true then b else a) := by
  cases c with
  | true => exact atI_nat (j := 1) rfl
  | false => exact atI_nat (j := 0) rfl
theorem mill : (10 : Int) ^ (6 : Int).toNat = 1000000 := by decide +kernel
section
variable {P : Program} {w : World} {K : PySem.W.Frag} {mg : Str → Option Value} {base : Heap}
/-! ### drawn names -/
def sp_law_options : Sp := fun vs H Q _ => ∃ (p : Addr) (n : Int) (x : List V) (k : Nat), vs = [.ref p, .int n] ∧ H p = some (.lst x) ∧ WellL x k ∧ k ≤ 900000 ∧ 0 ≤ n ∧ n ≤ 6 ∧
  ∀ (t : Addr) (zs : List Str) (y : List V) (H' : Hp), zs.length = n.toNat → zs.Nodup → (∀ z ∈ zs, NameOk z) → But p H H' → H t = none → H' t = some (.tup (zs.map V.str)) → H' p = some (.lst y) → WellL y (k + 60) → Q (.ref t) H'
theorem ok_law_options (T : Txt K mg) : FnOk P w K mg base CX0 2 T.f_law_options T.fd_law_options ["_law_well_here", "_law_size"] sp_law_options := by
  refine T.F_law_options.ok sc_law_options (fun vs H Q E h => ?_) (fun cdv A outer s H vs Q E hr h => ?_)
  · obtain ⟨p, n, x, k, rfl, _⟩ := h
    rfl
  · obtain ⟨p, n, x, k, rfl, hp, hx, hk, n0, n6, q⟩ := h
    refine ⟨_, (pss_cons
 (ps_set (i := 2) sc_law_options.nd rfl (Or.inl rfl) pe_str)
 (pss_cons
 (ps_set (i := 3) sc_law_options.nd rfl (Or.inl rfl) (pe_call (ok_law_draw T) (hr.mono (by decide)) (by rfl) T.g_law_draw T.F_law_draw.kp T.b_law_draw .nil pass0 (pa_cons (pv 0) (pa_cons pe_int pa_nil))))
 (pss_cons
 (ps_set (i := 4) sc_law_options.nd rfl (Or.inl rfl) (pe_lst pa_nil))
 (pss_cons
 (ps_for PassesOwn.never rfl (pi_range1 rfl T.z_range (pa_cons (pv 1) pa_nil)) (pg_name (i := 5) sc_law_options.nd rfl (Or.inl rfl))
 (pss_cons
 (ps_set (i := 6) sc_law_options.nd rfl (Or.inl rfl) pe_str)
 (pss_cons
 (ps_for PassesOwn.never rfl (pi_range1 rfl T.z_range (pa_cons (pe_call (ok_law_draw T) (hr.mono (by decide)) (by rfl) T.g_law_draw T.F_law_draw.kp T.b_law_draw .nil pass0 (pa_cons (pv 0) (pa_cons pe_int pa_nil))) pa_nil)) (pg_name (i := 7) sc_law_options.nd rfl (Or.inl rfl))
 (pss_one
 (ps_set (i := 6) sc_law_options.nd rfl (Or.inl rfl) (pe_op op_add_str (pv 6) (pe_ix ix_str (pv 2) (pe_call (ok_law_draw T) (hr.mono (by decide)) (by rfl) T.g_law_draw T.F_law_draw.kp T.b_law_draw .nil pass0 (pa_cons (pv 0) (pa_cons pe_int pa_nil))) (fun _ _ => rfl))))))
 (pss_one
 (ps_expr (pe_bm PySem.F.plainAttrs_list PySem.F.slot_list_append PySem.F.type_list_append mt_append (pv 4) (pa_cons (pe_op op_add_str (pv 6) (pe_ix ix_str (pv 2) (pe_op op_mod (pe_op op_add (pv 3) (pe_op op_mulW pe_int (pv 5))) pe_int) (fun _ _ => rfl))) pa_nil)))))))
 (pss_one
 (ps_ret (pe_callTy call_tuple_of (by rfl) T.z_tuple (by decide +kernel) (pa_cons (pv 4) pa_nil)))))))), ?_⟩
    have lenL : abc.length ≤ sizeLine := line_of (by rw [abc_len]; decide)
    refine ⟨.ref p, rfl, p, 26, x, k, rfl, hp, hx, by omega, by decide, size_ok (by decide) (by decide), fun a x1 a0 a1 w1 => ?_⟩
    refine ⟨line_of (show 0 ≤ 1000 by decide), fun l nl => ?_⟩
    have hpl : p ≠ l := fun e => by rw [← e, upd_same] at nl; cases nl
    have nlH : H l = none := by rw [upd_ne hpl.symm] at nl; exact nl
    refine ⟨.int n, rfl, n, rfl, by omega, by omega, for_range (fun i σ H' => ∃ (x5 x6 x7 : Option V) (zs : List Str) (y : List V), σ = [some (.ref p), some (.int n), some (.str abc), some (.int a), some (.ref l), x5, x6, x7] ∧ H' l = some (.lst (zs.map V.str)) ∧
        zs.map lastc = ((List.range i).map fun j : Nat => 97 + ((a + 3 * (j : Int)) % 26).toNat) ∧ (∀ z ∈ zs, NameOk z) ∧ But p H H' ∧ H' p = some (.lst y) ∧ WellL y (k + 1 + 9 * i))
      ⟨none, none, none, [], x1, rfl, upd_same, rfl, fun _ h => (by cases h), ((But.refl p H).upd _).mut nlH, by rw [upd_ne hpl, upd_same], w1⟩ ?_ ?_⟩
    · rintro i σ H1 hi ⟨x5, x6, x7, zs, y, rfl, hl, hm, hz, hb, hp1, hw⟩
      have lz : zs.length = i := by
        have := congrArg List.length hm
        rw [List.length_map, List.length_map, List.length_range] at this
        exact this
      have hi6 : i < 6 := by omega
      refine ⟨.ref p, rfl, p, 8, y, _, rfl, hp1, hw, by omega, by decide, size_ok (by decide) (by decide), fun d y2 d0 d1 hw2 => ?_⟩
      refine ⟨d, rfl, by omega, by omega, for_range (fun j σ H' => ∃ (x7 : Option V) (wd : Str) (y : List V), σ = [some (.ref p), some (.int n), some (.str abc), some (.int a), some (.ref l), some (.int (0 + (i : Nat))), some (.str wd), x7] ∧ wd.length = j ∧ Small wd ∧
          H' l = some (.lst (zs.map V.str)) ∧ But p H H' ∧ H' p = some (.lst y) ∧ WellL y (k + 2 + 9 * i + j))
        ⟨x7, Str.empty, y2, rfl, rfl, fun c h => (by cases h), by rw [upd_ne hpl.symm]; exact hl, hb.upd _, upd_same, hw2.mono (by omega)⟩ ?_ ?_⟩
      · rintro j σ H2 hj ⟨x7, wd, y3, rfl, lw, sw, hl2, hb2, hp2, hw3⟩
        refine ⟨.str wd, rfl, .str abc, rfl, .ref p, rfl, p, 26, y3, _, rfl, hp2, hw3, by omega, by decide, size_ok (by decide) (by decide), fun c y4 c0 c1 hw4 => ?_⟩
        refine ⟨abc, c, _, rfl, rfl, lenL, abc_at c0 c1, wd, _, rfl, rfl, line_of (show wd.length + 1 ≤ 1000 by omega), ?_⟩
        refine ⟨_, _, y4, rfl, (len_more _ _).trans (by omega), small_more sw c0 c1, by rw [upd_ne hpl.symm]; exact hl2, hb2.upd _, upd_same, hw4.mono (by omega)⟩
      · rintro σ H2 ⟨x7, wd, y3, rfl, lw, sw, hl2, hb2, hp2, hw3⟩
        have m0 : 0 ≤ (a + 3 * (0 + (i : Int))) % 26 ∧ (a + 3 * (0 + (i : Int))) % 26 < 26 := mix_mod _ _ (by decide)
        refine ⟨.ref l, rfl, .inl ⟨rfl, _, .of hl2⟩, .str wd, rfl, .str abc, rfl, .int a, rfl, .int (0 + (i : Int)), rfl, _, _, rfl, rfl, mulOk (n := 2) (m := 3) (by decide) (by omega) (by decide), _, _, rfl, rfl, _, _, rfl, rfl, (by show (0 : Int) < 26; decide), ?_⟩
        refine ⟨abc, _, _, rfl, rfl, lenL, abc_at m0.1 m0.2, wd, _, rfl, rfl, line_of (show wd.length + 1 ≤ 1000 by omega), ?_⟩
        refine ⟨l, _, _, rfl, rfl, hl2, small1000 (by rw [List.length_map]; omega), ?_⟩
        refine ⟨_, _, _, zs ++ [wd ++ ⟨#[97 + ((a + 3 * (0 + (i : Int))) % 26).toNat]⟩], y3, rfl, ?_, ?_, ?_, hb2.mut nlH, by rw [upd_ne hpl]; exact hp2, hw3.mono (by omega)⟩
        · rw [upd_same, List.map_append]
          rfl
        · rw [List.map_append, hm, List.range_succ, List.map_append]
          refine congrArg _ ?_
          show [lastc _] = [_]
          rw [last_more, Int.zero_add]
        · intro z hz'
          rcases List.mem_append.mp hz' with h | h
          · exact hz z h
          · rw [List.mem_singleton.mp h]
            exact ⟨by rw [len_more]; omega, by rw [len_more]; omega, small_more sw m0.1 m0.2⟩
    · rintro σ H1 ⟨x5, x6, x7, zs, y, rfl, hl, hm, hz, hb, hp1, hw⟩
      refine ⟨.ref l, rfl, l, _, rfl, .inl ⟨.of hl, fun t nt => ?_⟩⟩
      have hpt : p ≠ t := fun e => by rw [← e, hp1] at nt; cases nt
      have lz : zs.length = n.toNat := by
        have := congrArg List.length hm
        rw [List.length_map, List.length_map, List.length_range] at this
        exact this
      refine q t zs y _ lz ?_ hz (hb.mut (hb.free hp1 nt)) (hb.free hp1 nt) upd_same (by rw [upd_ne hpt]; exact hp1) (hw.mono (by omega))
      have nd := steps_nodup a (n := n.toNat) (by omega)
      rw [← hm] at nd
      exact (List.pairwise_map.mp nd).imp fun h e => h (congrArg lastc e)
end
section
variable {P : Program} {w : World} {K : PySem.W.Frag} {mg : Str → Option Value} {base : Heap}
/-! ### any order -/
def sp_law_shuffled (K : PySem.W.Frag) : Sp := fun vs H Q _ => ∃ (p t : Addr) (xs x : List V) (k : Nat), vs = [.ref p, .ref t] ∧ H p = some (.lst x) ∧ SqT K H t xs ∧ xs.length ≤ 6 ∧ WellL x k ∧ k ≤ 900000 ∧
  ∀ (l : Addr) (ys y : List V) (H' : Hp), ys.Perm xs → But p H H' → H l = none → H' l = some (.lst ys) → H' p = some (.lst y) → WellL y (k + 6) → Q (.ref l) H'
theorem ok_law_shuffled (T : Txt K mg) : FnOk P w K mg base CX0 2 T.f_law_shuffled T.fd_law_shuffled ["_law_well_here", "_law_some"] (sp_law_shuffled K) := by
  refine T.F_law_shuffled.ok sc_law_shuffled (fun vs H Q E h => ?_) (fun cdv A outer s H vs Q E hr h => ?_)
  · obtain ⟨p, t, xs, x, k, rfl, _⟩ := h
    rfl
  · obtain ⟨p, t, xs, x, k, rfl, hp, ht, hn, hx, hk, q⟩ := h
    refine ⟨_, (pss_cons
 (ps_set (i := 2) sc_law_shuffled.nd rfl (Or.inr rfl) (pe_callTy call_list_of (by rfl) T.z_list (by decide +kernel) (pa_cons (pv 1) pa_nil)))
 (pss_one
 (ps_ret (pe_lc (own := [("_law_k", 3)]) (g := gName 3) (tt := tYes) rfl sc_law_shuffled.nd (pi_range1 rfl T.z_range (pa_cons (pe_callB call_len_seq (by rfl) T.z_len (by decide +kernel) (pa_cons (pv 2) pa_nil)) pa_nil)) (blkOk_by (own := [("_law_k", 3)]) (N := ["_law_well_here", "_law_some", "_law_left", "_law_k"]) (sc := (defScope s_law_shuffled)) (by decide +kernel)) (fun _ _ _ _ _ => pg_name (i := 3) sc_law_shuffled.nd rfl (Or.inl rfl)) (fun _ _ _ _ _ => pts_nil) (fun s0 H0 C0 cl0 fp0 => (by have h := ((pe_bm PySem.F.plainAttrs_list PySem.F.slot_list_pop PySem.F.type_list_pop mt_popAt (pv 2) (pa_cons (pe_call (ok_law_draw T) (hr.mono (by decide)) (by rfl) T.g_law_draw T.F_law_draw.kp T.b_law_draw .nil pass0 (pa_cons (pv 0) (pa_cons (pe_callB call_len_seq (by rfl) T.z_len (by decide +kernel) (pa_cons (pv 2) pa_nil)) pa_nil))) pa_nil)) : PE ((cxOf CX0 P w K mg base ["_law_well_here", "_law_some", "_law_left", "_law_k"] "_law_shuffled" (defScope s_law_shuffled) T.f_law_shuffled cdv A outer s H E).nox.blk s0 H0 (lcScope (rootE ((defBody s_law_shuffled).getD 1 (.Pass ⟨0, 0, 0, 0⟩)))) (compEnvC (lcScope (rootE ((defBody s_law_shuffled).getD 1 (.Pass ⟨0, 0, 0, 0⟩)))) cl0 C0 (cxOf CX0 P w K mg base ["_law_well_here", "_law_some", "_law_left", "_law_k"] "_law_shuffled" (defScope s_law_shuffled) T.f_law_shuffled cdv A outer s H E).nox.env) fp0) (subE (rootE ((defBody s_law_shuffled).getD 1 (.Pass ⟨0, 0, 0, 0⟩))) 0) _); dsimp only [Cx.blk, Cx.tr, Cx.suite, Cx.nox, Cx.wish, cxOf] at h; exact h)))))), ?_⟩
    refine ⟨.ref t, rfl, t, xs, rfl, .inr ht, fun l nl => ?_⟩
    have hpl : p ≠ l := fun e => by rw [← e, hp] at nl; cases nl
    refine ⟨.ref l, rfl, l, _, rfl, .inl (.of upd_same), _, rfl, by omega, by omega, fun D nD => ?_⟩
    have hlD : l ≠ D := fun e => by rw [← e, upd_same] at nD; cases nD
    have nDH : H D = none := by rw [upd_ne hlD.symm] at nD; exact nD
    have hpD : p ≠ D := fun e => by rw [← e, hp] at nDH; cases nDH
    refine lc_range (fun i H' => ∃ left done y : List V, H' l = some (.lst left) ∧ H' D = some (.lst done) ∧ (done ++ left).Perm xs ∧ done.length = i ∧ But p H H' ∧ H' p = some (.lst y) ∧ WellL y (k + i))
      ⟨xs, [], x, by rw [upd_ne hlD, upd_same], upd_same, List.Perm.refl _, rfl, ((But.refl p H).mut nl).mut nDH, by rw [upd_ne hpD, upd_ne hpl]; exact hp, hx⟩ ?_ ?_
    · rintro i H1 hi ⟨left, done, y, hl, hD, pm, ld, hb, hp1, hw⟩
      have len := pm.length_eq
      rw [List.length_append] at len
      have hi' : i < xs.length := by omega
      refine ⟨rfl, .ref l, rfl, .inl ⟨rfl, _, .of hl⟩, .ref p, rfl, .ref l, rfl, l, _, rfl, .inl (.of hl), p, _, y, _, rfl, hp1, hw, by omega, by omega, size_ok (by omega) (by omega), fun d y2 d0 d1 hw2 => ?_⟩
      have hd : d.toNat < left.length := by omega
      refine ⟨l, left, d, d.toNat, left[d.toNat], rfl, rfl, by rw [upd_ne hpl.symm]; exact hl, by omega, by omega, seqIndex_of d0 d1, List.getElem?_eq_getElem hd, done, by rw [upd_ne hlD.symm, upd_ne hpD.symm]; exact hD, small1000 (by omega), ?_⟩
      refine ⟨left.eraseIdx d.toNat, done ++ [left[d.toNat]], y2, by rw [upd_ne hlD, upd_same], upd_same, ?_, by rw [List.length_append, ld]; rfl, ((hb.upd _).mut nl).mut nDH, by rw [upd_ne hpD, upd_ne hpl, upd_same], hw2.mono (by omega)⟩
      rw [List.append_assoc]
      exact ((pick_perm left d.toNat hd).append_left done).trans pm
    · rintro H1 ⟨left, done, y, hl, hD, pm, ld, hb, hp1, hw⟩
      have len := pm.length_eq
      rw [List.length_append] at len
      have e : left = [] := List.eq_nil_of_length_eq_zero (by omega)
      rw [e, List.append_nil] at pm
      exact q D done y H1 pm hb nDH hD hp1 (hw.mono (by omega))
end
section
variable {P : Program} {w : World} {K : PySem.W.Frag} {mg : Str → Option Value} {base : Heap}
/-! ### tiers drawn -/
def sp_law_tiers_drawn : Sp := fun vs H Q _ => ∃ (p t : Addr) (zs : List Str) (x : List V) (k : Nat), vs = [.ref p, .ref t] ∧ H p = some (.lst x) ∧ H t = some (.tup (zs.map V.str)) ∧ zs.length ≤ 6 ∧ zs.Nodup ∧ (∀ z ∈ zs, NameOk z) ∧ WellL x k ∧ k ≤ 800000 ∧
  ∀ (u : Addr) (bs : List (Addr × List Str)) (y : List V) (H' : Hp), Tiers H' bs → (bs.map (·.2)).flatten.Nodup → (∀ z ∈ (bs.map (·.2)).flatten, z ∈ zs) → But p H H' → H u = none → H' u = some (.tup (bs.map fun b => V.ref b.1)) → H' p = some (.lst y) → WellL y (k + 20) → Q (.ref u) H'
theorem ok_law_tiers_drawn (T : Txt K mg) : FnOk P w K mg base CX0 3 T.f_law_tiers_drawn T.fd_law_tiers_drawn ["_law_well_here", "_law_some"] (sp_law_tiers_drawn) := by
  refine T.F_law_tiers_drawn.ok sc_law_tiers_drawn (fun vs H Q E h => ?_) (fun cdv A outer s H vs Q E hr h => ?_)
  · obtain ⟨p, t, zs, x, k, rfl, _⟩ := h
    rfl
  · obtain ⟨p, t, zs, x, k, rfl, hp, ht, hn, nd, ok, hx, hk, q⟩ := h
    refine ⟨_, (pss_cons
 (ps_set (i := 2) sc_law_tiers_drawn.nd rfl (Or.inl rfl) (pe_lst pa_nil))
 (pss_cons
 (ps_for PassesOwn.never rfl (pi_list (pe_slice sl_list (pe_call (ok_law_shuffled T) (hr.mono (by decide)) (by rfl) T.g_law_shuffled T.F_law_shuffled.kp T.b_law_shuffled .nil pass0 (pa_cons (pv 0) (pa_cons (pv 1) pa_nil))) po_none (po_some (pe_op op_sub (pe_callB call_len_seq (by rfl) T.z_len (by decide +kernel) (pa_cons (pv 1) pa_nil)) (pe_op op_mod (pe_ix ix_list (pe_lst (pa_cons pe_int (pa_cons pe_int (pa_cons pe_int (pa_cons pe_int (pa_cons pe_int pa_nil)))))) (pe_call (ok_law_draw T) (hr.mono (by decide)) (by rfl) T.g_law_draw T.F_law_draw.kp T.b_law_draw .nil pass0 (pa_cons (pv 0) (pa_cons pe_int pa_nil))) (fun _ _ => rfl)) (pe_op op_add (pe_callB call_len_seq (by rfl) T.z_len (by decide +kernel) (pa_cons (pv 1) pa_nil)) pe_int)))))) (pg_name (i := 3) sc_law_tiers_drawn.nd rfl (Or.inl rfl))
 (pss_one
 (ps_if (PW.pt (pw_and (pt_cmpR (op_neD hr.units) (pv 2) (pe_lst pa_nil) (nomark _)) (pw_and1 (pt_cmpR op_eq (pe_call (ok_law_draw T) (hr.mono (by decide)) (by rfl) T.g_law_draw T.F_law_draw.kp T.b_law_draw .nil pass0 (pa_cons (pv 0) (pa_cons pe_int pa_nil))) pe_int (nomark _)))))
 (pss_one
 (ps_asg (pe_op op_catT (pe_ix ix_list (pv 2) (pe_un un_neg pe_int) (fun _ _ => rfl)) (pe_tup (pa_cons (pv 3) pa_nil))) (pg_sub (pv 2) (pe_un un_neg pe_int) set_list)))
 (pss_one
 (ps_expr (pe_bm PySem.F.plainAttrs_list PySem.F.slot_list_append PySem.F.type_list_append mt_append (pv 2) (pa_cons (pe_tup (pa_cons (pv 3) pa_nil)) pa_nil)))))))
 (pss_one
 (ps_ret (pe_callTy call_tuple_of (by rfl) T.z_tuple (by decide +kernel) (pa_cons (pv 2) pa_nil)))))), ?_⟩
    refine ⟨line_of (show 0 ≤ 1000 by decide), fun l nl => ?_⟩
    have hpl : p ≠ l := ne_of_none hp nl
    have htl : t ≠ l := ne_of_none ht nl
    have htp : t ≠ p := fun e => by rw [e, hp] at ht; cases ht
    refine ⟨.ref p, rfl, .ref t, rfl, p, t, zs.map V.str, x, k, rfl, by rw [upd_ne hpl]; exact hp, .of (by rw [upd_ne htl]; exact ht), by rw [List.length_map]; exact hn, hx, by omega, fun l1 ys y1 H1 pm b1 n1 hl1 hp1 w1 => ?_⟩
    obtain ⟨ws, rfl, pw⟩ := perm_strs pm
    have e0 : H1 l = some (.lst []) := b1 l _ hpl.symm upd_same
    have ht1 : H1 t = some (.tup (zs.map V.str)) := b1 t _ htp (by rw [upd_ne htl]; exact ht)
    have bH1 : But p H H1 := fun b o hb ho => b1 b o hb (by rw [upd_ne (ne_of_none ho nl)]; exact ho)
    have l1l : l1 ≠ l := fun e => by rw [e, upd_same] at n1; cases n1
    have l1p : l1 ≠ p := fun e => by rw [e, upd_ne hpl, hp] at n1; cases n1
    refine ⟨.ref t, rfl, t, _, rfl, .inr (.of ht1), line_of (show 5 ≤ 1000 by decide), fun l2 n2 => ?_⟩
    have pl2 : p ≠ l2 := ne_of_none hp1 n2
    have ll2 : l ≠ l2 := ne_of_none e0 n2
    have tl2 : t ≠ l2 := ne_of_none ht1 n2
    have l12 : l1 ≠ l2 := ne_of_none hl1 n2
    refine ⟨.ref p, rfl, p, 5, y1, _, rfl, by rw [upd_ne pl2]; exact hp1, w1, by omega, by decide, size_ok (by decide) (by decide), fun d y2 d0 d1 w2 => ?_⟩
    obtain ⟨v, hv⟩ : ∃ v : Int, atI [V.int 0, V.int 0, V.int 0, V.int 1, V.int 2] d = some (.int v) := by
      rcases (show d = 0 ∨ d = 1 ∨ d = 2 ∨ d = 3 ∨ d = 4 by omega) with rfl | rfl | rfl | rfl | rfl
      · exact ⟨_, atI_nat (j := 0) rfl⟩
      · exact ⟨_, atI_nat (j := 1) rfl⟩
      · exact ⟨_, atI_nat (j := 2) rfl⟩
      · exact ⟨_, atI_nat (j := 3) rfl⟩
      · exact ⟨_, atI_nat (j := 4) rfl⟩
    refine ⟨l2, _, d, _, rfl, rfl, .of (by rw [upd_ne pl2.symm, upd_same]), hv, .ref t, rfl, t, _, rfl, .inr (.of (by rw [upd_ne htp, upd_ne tl2]; exact ht1)), _, _, rfl, rfl, _, _, rfl, rfl, (by show (0 : Int) < _ + 1; omega), _, _, rfl, rfl, _, rfl, l1, _, rfl, .of (by rw [upd_ne l1p, upd_ne l12]; exact hl1), fun l3 n3 => ?_⟩
    obtain ⟨ms, em, sub⟩ := cut_strs ws none (some ((((zs.map V.str).length : Nat) : Int) - v % ((((zs.map V.str).length : Nat) : Int) + 1)))
    rw [em]
    have bH2 : But p H (upd (upd H1 l2 (.lst [V.int 0, V.int 0, V.int 0, V.int 1, V.int 2])) p (.lst y2)) := (bH1.mut (bH1.free hp1 n2)).upd _
    have hp3 : (upd (upd H1 l2 (.lst [V.int 0, V.int 0, V.int 0, V.int 1, V.int 2])) p (.lst y2)) p = some (.lst y2) := upd_same
    have hl3 : (upd (upd H1 l2 (.lst [V.int 0, V.int 0, V.int 0, V.int 1, V.int 2])) p (.lst y2)) l = some (.lst []) := by rw [upd_ne hpl.symm, upd_ne ll2]; exact e0
    generalize hH2 : upd (upd H1 l2 (.lst [V.int 0, V.int 0, V.int 0, V.int 1, V.int 2])) p (.lst y2) = H2 at n3 bH2 hp3 hl3
    have nl3 : l ≠ l3 := ne_of_none hl3 n3
    have np3 : p ≠ l3 := ne_of_none hp3 n3
    have hms : ∀ z ∈ ms, NameOk z := fun z hz => ok z (pw.mem_iff.mp (sub.subset hz))
    have lms : ms.length ≤ 6 := by
      have := sub.length_le
      have := pw.length_eq
      omega
    refine ⟨l3, rfl, ⟨_, .of upd_same⟩, for_list (K := K) (a := l3) (xs := ms.map V.str)
      (fun i σ H' => ∃ (x3 : Option V) (fb : List (Addr × List Str)) (y : List V), σ = [some (.ref p), some (.ref t), some (.ref l), x3] ∧ H' l = some (.lst (fb.map fun b => V.ref b.1)) ∧ Tiers H' fb ∧ (fb.map (·.2)).flatten = ms.take i ∧
        H' l3 = some (.lst (ms.map V.str)) ∧ But p H H' ∧ H' p = some (.lst y) ∧ WellL y (k + 8 + i))
      ⟨none, [], y2, rfl, by rw [upd_ne nl3]; exact hl3, fun _ h => (by cases h), rfl, upd_same, bH2.mut (bH2.free hp3 n3), by rw [upd_ne np3]; exact hp3, w2.mono (by omega)⟩
      (fun _ _ _ _ h => by obtain ⟨_, _, _, _, _, _, _, z, _⟩ := h; exact .of z) ?_ ?_⟩
    · rintro i v9 σ H3 hi ⟨x3, fb, y, rfl, hl2, hfb, hflat, h3, hb, hp2, hw⟩
      obtain ⟨wd, hwd, rfl⟩ : ∃ wd, ms[i]? = some wd ∧ v9 = V.str wd := by
        rw [List.getElem?_map] at hi
        cases e : ms[i]? with
        | none => rw [e] at hi; cases hi
        | some b => rw [e] at hi; exact ⟨b, rfl, (Option.some.inj hi).symm⟩
      have il : i < ms.length := (List.getElem?_eq_some_iff.mp hwd).1
      have lfb : fb.length ≤ i := by
        have h1 : ∀ l : List (Addr × List Str), (∀ b ∈ l, b.2 ≠ []) → l.length ≤ (l.map (·.2)).flatten.length := fun l => by
          induction l with
          | nil => intro _; exact Nat.le_refl _
          | cons b r ih =>
            intro hne
            have := ih fun c hc => hne c (List.mem_cons_of_mem _ hc)
            have := List.length_pos_iff.mpr (hne b List.mem_cons_self)
            rw [List.map_cons, List.flatten_cons, List.length_append, List.length_cons]
            omega
        have := h1 fb fun b hb' => (hfb b hb').2
        rw [hflat, List.length_take] at this
        omega
      have sok : ∀ tr ∈ fb.map (·.2), ∀ z ∈ tr, PyData.strOk z = true := fun tr htr z hz => by
        have : z ∈ ms.take i := by
          rw [← hflat]
          exact List.mem_flatten.mpr ⟨tr, htr, hz⟩
        exact small_ok (hms z (List.mem_of_mem_take this)).2.2
      refine ⟨.ref l, rfl, line_of (show 0 ≤ 1000 by decide), fun le nle => ?_⟩
      have lle : l ≠ le := ne_of_none hl2 nle
      have l3e : l3 ≠ le := ne_of_none h3 nle
      have ple : p ≠ le := ne_of_none hp2 nle
      have hfe : Tiers (upd H3 le (.lst [])) fb := fun b hb' => ⟨by rw [upd_ne (ne_of_none (hfb b hb').1 nle)]; exact (hfb b hb').1, (hfb b hb').2⟩
      have hbe := hb.mut (o := HO.lst []) (hb.free hp2 nle)
      have hl2e : (upd H3 le (.lst [])) l = some (.lst (fb.map fun b => V.ref b.1)) := by rw [upd_ne lle]; exact hl2
      have h3e : (upd H3 le (.lst [])) l3 = some (.lst (ms.map V.str)) := by rw [upd_ne l3e]; exact h3
      have hp2e : (upd H3 le (.lst [])) p = some (.lst y) := by rw [upd_ne ple]; exact hp2
      refine ⟨.list ((fb.map (·.2)).map tyD), .list [], .lst (.of hl2e) (dp_tiers fb hfe), .lst (.of upd_same) .nil, shaped_tiers sok, rfl, ?_⟩
      have hke : le = le := rfl
      generalize upd H3 le (.lst []) = H4 at hfe hbe hl2e h3e hp2e
      have nlH : H l = none := nl
      clear hl2 h3 hp2 hb hfb
      have hl2 := hl2e
      have h3 := h3e
      have hp2 := hp2e
      have hb := hbe
      have hfb := hfe
      by_cases hfb0 : fb = []
      · have hc : (!PyData.eqv (.list ((fb.map (·.2)).map tyD)) (.list [])) = false := by rw [hfb0]; rfl
        rw [hc]
        refine ⟨_, rfl, iteF (iteF ?_)⟩
        refine ⟨.ref l, rfl, .inl ⟨rfl, _, .of hl2⟩, .str wd, rfl, line_of (show 1 ≤ 1000 by decide), fun b nb => ?_⟩
        have nbl : l ≠ b := ne_of_none hl2 nb
        have nb3 : l3 ≠ b := ne_of_none h3 nb
        have nbp : p ≠ b := ne_of_none hp2 nb
        refine ⟨l, _, _, rfl, rfl, by rw [upd_ne nbl]; exact hl2, small1000 (by rw [List.length_map]; omega), _, fb ++ [(b, [wd])], _, rfl, ?_, ?_, ?_, ?_, ?_, ?_, hw.mono (by omega)⟩
        · rw [upd_same, List.map_append]
          rfl
        · intro c hc
          rcases List.mem_append.mp hc with hc | hc
          · obtain ⟨g1, g2⟩ := hfb c hc
            have c1 : c.1 ≠ l := fun e => by rw [e, hl2] at g1; cases g1
            have c2 : c.1 ≠ p := fun e => by rw [e, hp2] at g1; cases g1
            refine ⟨?_, g2⟩
            rw [upd_ne c1]
            exact (upd_ne (ne_of_none (g1) nb)).trans (g1)
          · rw [List.mem_singleton.mp hc]
            exact ⟨by rw [upd_ne nbl.symm, upd_same]; rfl, List.cons_ne_nil _ _⟩
        · rw [List.map_append, List.flatten_append, hflat, take_more hwd]
          rfl
        · rw [upd_ne nl3.symm, upd_ne nb3]
          exact h3
        · exact (hb.mut (hb.free hp2 nb)).mut nlH
        · rw [upd_ne hpl, upd_ne nbp]
          exact hp2
      · obtain ⟨fi, bl, rfl⟩ : ∃ fi bl, fb = fi ++ [bl] := ⟨fb.dropLast, fb.getLast hfb0, (List.dropLast_concat_getLast hfb0).symm⟩
        have hc : (!PyData.eqv (.list (((fi ++ [bl]).map (·.2)).map tyD)) (.list [])) = true := by
          cases fi with
          | nil => rfl
          | cons a r => rfl
        rw [hc]
        refine ⟨_, rfl, iteT ?_⟩
        refine ⟨.ref p, rfl, p, 4, y, _, rfl, hp2, hw, by omega, by decide, size_ok (by decide) (by decide), fun dd yy dd0 dd1 ww => ?_⟩
        have tp : ∀ b ∈ fi ++ [bl], b.1 ≠ p := fun b hb' e => by have := (hfb b hb').1; rw [e, hp2] at this; cases this
        have hfp : Tiers (upd H4 p (.lst yy)) (fi ++ [bl]) := fun b hb' => ⟨by rw [upd_ne (tp b hb')]; exact (hfb b hb').1, (hfb b hb').2⟩
        have hbp := hb.upd (.lst yy)
        have hl2p : (upd H4 p (.lst yy)) l = some (.lst ((fi ++ [bl]).map fun b => V.ref b.1)) := by rw [upd_ne hpl.symm]; exact hl2
        have h3p : (upd H4 p (.lst yy)) l3 = some (.lst (ms.map V.str)) := by rw [upd_ne np3.symm]; exact h3
        have hp2p : (upd H4 p (.lst yy)) p = some (.lst yy) := upd_same
        generalize upd H4 p (.lst yy) = H5 at hfp hbp hl2p h3p hp2p
        clear hl2 h3 hp2 hb hfb
        have hl2 := hl2p
        have h3 := h3p
        have hp2 := hp2p
        have hb := hbp
        have hfb := hfp
        refine ⟨rfl, _, rfl, ?_⟩
        cases decide (V.int dd = V.int 0) with
        | false =>
          refine iteF ?_
          refine ⟨.ref l, rfl, .inl ⟨rfl, _, .of hl2⟩, .str wd, rfl, line_of (show 1 ≤ 1000 by decide), fun b nb => ?_⟩
          have nbl : l ≠ b := ne_of_none hl2 nb
          have nb3 : l3 ≠ b := ne_of_none h3 nb
          have nbp : p ≠ b := ne_of_none hp2 nb
          refine ⟨l, _, _, rfl, rfl, by rw [upd_ne nbl]; exact hl2, small1000 (by rw [List.length_map]; omega), _, (fi ++ [bl]) ++ [(b, [wd])], _, rfl, ?_, ?_, ?_, ?_, ?_, ?_, ww.mono (by omega)⟩
          · rw [upd_same]
            simp
          · intro c hc
            rcases List.mem_append.mp hc with hc | hc
            · obtain ⟨g1, g2⟩ := hfb c hc
              have c1 : c.1 ≠ l := fun e => by rw [e, hl2] at g1; cases g1
              have c2 : c.1 ≠ p := fun e => by rw [e, hp2] at g1; cases g1
              refine ⟨?_, g2⟩
              rw [upd_ne c1]
              exact (upd_ne (ne_of_none (g1) nb)).trans (g1)
            · rw [List.mem_singleton.mp hc]
              exact ⟨by rw [upd_ne nbl.symm, upd_same]; rfl, List.cons_ne_nil _ _⟩
          · rw [List.map_append, List.flatten_append, hflat, take_more hwd]
            rfl
          · rw [upd_ne nl3.symm, upd_ne nb3]
            exact h3
          · exact (hb.mut (hb.free hp2 nb)).mut nlH
          · rw [upd_ne hpl, upd_ne nbp]
            exact hp2
        | true =>
          rw [List.map_append] at hl2
          refine iteT ⟨.ref l, rfl, 1, rfl, l, _, _, .ref bl.1, rfl, rfl, .of hl2, at_last _ _, .str wd, rfl, line_of (show 1 ≤ 1000 by decide), fun b nb => ?_⟩
          obtain ⟨gb, nbe⟩ := hfb bl (List.mem_append_right _ List.mem_cons_self)
          have sb := same_upd (o := HO.tup [V.str wd]) nb
          have lb2 : bl.2.length ≤ 6 := by
            have h1 : ((fi ++ [bl]).map (·.2)).flatten.length = (ms.take i).length := congrArg List.length hflat
            rw [List.map_append, List.flatten_append, List.length_append, List.length_take] at h1
            have h2 : (([bl].map (·.2)).flatten).length = bl.2.length := by simp
            omega
          refine ⟨bl.1, b, bl.2.map V.str, [V.str wd], rfl, rfl, .of (sb _ _ gb), .of upd_same, by simpa using nbe, line_of (by rw [List.length_map]; show bl.2.length + 1 ≤ 1000; omega), fun h => absurd h (List.cons_ne_nil _ _), fun _ b2 nb2 => ?_⟩
          have sb2 := sb.trans (same_upd (o := HO.tup (bl.2.map V.str ++ [V.str wd])) nb2)
          have hq2 : (upd (upd H5 b (.tup [V.str wd])) b2 (.tup (bl.2.map V.str ++ [V.str wd]))) b2 = some (.tup (bl.2.map V.str ++ [V.str wd])) := upd_same
          have hbb : But p H (upd (upd H5 b (.tup [V.str wd])) b2 (.tup (bl.2.map V.str ++ [V.str wd]))) := fun c o hc ho => sb2 c o (hb c o hc ho)
          have hl5 := sb2 _ _ hl2
          have h35 := sb2 _ _ h3
          have hp5 := sb2 _ _ hp2
          have hf5 : ∀ c ∈ fi, (upd (upd H5 b (.tup [V.str wd])) b2 (.tup (bl.2.map V.str ++ [V.str wd]))) c.1 = some (.tup (c.2.map V.str)) ∧ c.2 ≠ [] := fun c hc => ⟨sb2 _ _ (hfb c (List.mem_append_left _ hc)).1, (hfb c (List.mem_append_left _ hc)).2⟩
          generalize upd (upd H5 b (.tup [V.str wd])) b2 (.tup (bl.2.map V.str ++ [V.str wd])) = H6 at hq2 hbb hl5 h35 hp5 hf5
          refine ⟨.ref l, rfl, 1, rfl, l, _, _, fi.length, rfl, rfl, hl5, by rw [List.length_append, List.length_map]; exact ix_last _, ?_⟩
          have cl : ∀ {c : Addr} {xs : List V}, H6 c = some (.tup xs) → c ≠ l := fun h e => by rw [e, hl5] at h; cases h
          refine ⟨_, fi ++ [(b2, bl.2 ++ [wd])], yy, rfl, ?_, ?_, ?_, by rw [upd_ne nl3.symm]; exact h35, hbb.mut nlH, by rw [upd_ne hpl]; exact hp5, ww.mono (by omega)⟩
          · rw [upd_same, List.map_append]
            have e := set_last (fi.map fun b => V.ref b.1) (V.ref bl.1) (V.ref b2)
            rw [List.length_map] at e
            exact congrArg (fun l => some (HO.lst l)) e
          · intro c hc
            rcases List.mem_append.mp hc with hc | hc
            · obtain ⟨g1, g2⟩ := hf5 c hc
              exact ⟨by rw [upd_ne (cl g1)]; exact g1, g2⟩
            · rw [List.mem_singleton.mp hc]
              refine ⟨?_, by simp⟩
              rw [upd_ne (cl hq2), List.map_append]
              exact hq2
          · rw [take_more hwd, ← hflat, List.map_append, List.map_append, List.flatten_append, List.flatten_append]
            simp
    · rintro σ H3 ⟨x3, fb, y, rfl, hl2, hfb, hflat, h3, hb, hp2, hw⟩
      rw [List.length_map, List.take_length] at hflat
      refine ⟨.ref l, rfl, l, _, rfl, .inl ⟨.of hl2, fun u nu => ?_⟩⟩
      have npu : p ≠ u := ne_of_none hp2 nu
      refine q u fb y _ (fun b hb' => ⟨by rw [upd_ne (ne_of_none (hfb b hb').1 nu)]; exact (hfb b hb').1, (hfb b hb').2⟩) ?_ ?_ (hb.mut (hb.free hp2 nu)) (hb.free hp2 nu) upd_same (by rw [upd_ne npu]; exact hp2) (hw.mono (by rw [List.length_map]; omega))
      · rw [hflat]
        exact ((pw.nodup_iff).mpr nd).sublist sub
      · rw [hflat]
        exact fun z hz => pw.mem_iff.mp (sub.subset hz)
end
section
variable {P : Program} {w : World} {K : PySem.W.Frag} {mg : Str → Option Value} {base : Heap}
/-! ### a ballot drawn -/
def sp_law_ballot : Sp := fun vs H Q _ => ∃ (p t : Addr) (zs : List Str) (x : List V) (k : Nat), vs = [.ref p, .ref t] ∧ H p = some (.lst x) ∧ H t = some (.tup (zs.map V.str)) ∧ zs.length ≤ 6 ∧ zs.Nodup ∧ (∀ z ∈ zs, NameOk z) ∧ WellL x k ∧ k ≤ 700000 ∧
  ∀ (u : Addr) (b : Bal) (y : List V) (H' : Hp), BalAt H' u b → b.Ok zs → But p H H' → H u = none → H' p = some (.lst y) → WellL y (k + 40) → Q (.ref u) H'
theorem ok_law_ballot (T : Txt K mg) : FnOk P w K mg base CX0 4 T.f_law_ballot T.fd_law_ballot ["_law_well_here", "_law_options_here"] (sp_law_ballot) := by
  refine T.F_law_ballot.ok sc_law_ballot (fun vs H Q E h => ?_) (fun cdv A outer s H vs Q E hr h => ?_)
  · obtain ⟨p, t, zs, x, k, rfl, _⟩ := h
    rfl
  · obtain ⟨p, t, zs, x, k, rfl, hp, ht, hn, nd, ok, hx, hk, q⟩ := h
    refine ⟨_, (pss_cons
 (ps_set (i := 2) sc_law_ballot.nd rfl (Or.inl rfl) (pe_call (ok_law_draw T) (hr.mono (by decide)) (by rfl) T.g_law_draw T.F_law_draw.kp T.b_law_draw .nil pass0 (pa_cons (pv 0) (pa_cons pe_int pa_nil))))
 (pss_cons
 (ps_set (i := 3) sc_law_ballot.nd rfl (Or.inl rfl) (pe_slice sl_list (pe_call (ok_law_shuffled T) (hr.mono (by decide)) (by rfl) T.g_law_shuffled T.F_law_shuffled.kp T.b_law_shuffled .nil pass0 (pa_cons (pv 0) (pa_cons (pv 1) pa_nil))) po_none (po_some (pe_call (ok_law_draw T) (hr.mono (by decide)) (by rfl) T.g_law_draw T.F_law_draw.kp T.b_law_draw .nil pass0 (pa_cons (pv 0) (pa_cons (pe_op op_add (pe_callB call_len_seq (by rfl) T.z_len (by decide +kernel) (pa_cons (pv 1) pa_nil)) pe_int) pa_nil))))))
 (pss_cons
 (ps_if (pt_cmpR op_eq (pv 2) pe_int (nomark _))
 (pss_one
 (ps_ret (pe_tup (pa_cons pe_str (pa_cons (pe_callTy call_tuple_of (by rfl) T.z_tuple (by decide +kernel) (pa_cons (pv 3) pa_nil)) pa_nil)))))
 pss_nil)
 (pss_cons
 (ps_if (pt_cmpR op_eq (pv 2) pe_int (nomark _))
 (pss_one
 (ps_ret (pe_tup (pa_cons pe_str (pa_cons (pe_callTy call_tuple_of (by rfl) T.z_tuple (by decide +kernel) (pa_cons (pe_lc (own := [("_law_word", 4)]) (g := gName 4) (tt := tYes) rfl sc_law_ballot.nd (pi_list (pv 3)) (blkOk_by (own := [("_law_word", 4)]) (N := ["_law_well_here", "_law_options_here", "_law_way", "_law_some", "_law_word"]) (sc := (defScope s_law_ballot)) (by decide +kernel)) (fun _ _ _ _ _ => pg_name (i := 4) sc_law_ballot.nd rfl (Or.inl rfl)) (fun _ _ _ _ _ => pts_nil) (fun _ _ _ _ _ => (pe_tup (pa_cons (pv 4) (pa_cons (pe_call (ok_law_draw T) (hr.mono (by decide)) (by rfl) T.g_law_draw T.F_law_draw.kp T.b_law_draw .nil pass0 (pa_cons (pv 0) (pa_cons pe_int pa_nil))) pa_nil))))) pa_nil)) pa_nil)))))
 pss_nil)
 (pss_one
 (ps_ret (pe_tup (pa_cons pe_str (pa_cons (pe_call (ok_law_tiers_drawn T) (hr.mono (by decide)) (by rfl) T.g_law_tiers_drawn T.F_law_tiers_drawn.kp T.b_law_tiers_drawn .nil pass0 (pa_cons (pv 0) (pa_cons (pv 1) pa_nil))) pa_nil))))))))), ?_⟩
    have htp : t ≠ p := fun e => by rw [e, hp] at ht; cases ht
    refine ⟨.ref p, rfl, p, 6, x, k, rfl, hp, hx, by omega, by decide, size_ok (by decide) (by decide), fun way x1 a0 a1 w1 => ?_⟩
    have ht1 : (upd H p (.lst x1)) t = some (.tup (zs.map V.str)) := by rw [upd_ne htp]; exact ht
    refine ⟨.ref p, rfl, .ref t, rfl, p, t, zs.map V.str, x1, _, rfl, upd_same, .of ht1, by rw [List.length_map]; exact hn, w1, by omega, fun l1 ys y1 H1 pm b1 n1 hl1 hp1 w2 => ?_⟩
    obtain ⟨ws, rfl, pw⟩ := perm_strs pm
    have ht2 : H1 t = some (.tup (zs.map V.str)) := b1 t _ htp ht1
    have bH1 : But p H H1 := ((But.refl p H).upd _).trans b1
    refine ⟨.ref p, rfl, .ref t, rfl, t, _, rfl, .inr (.of ht2), _, _, rfl, rfl, p, _, y1, _, rfl, hp1, w2, by omega, by rw [List.length_map]; omega, size_ok (by rw [List.length_map]; omega) (by rw [List.length_map]; omega), fun e y2 e0 e1 w3 => ?_⟩
    have l1p : l1 ≠ p := fun e => by rw [e, upd_same] at n1; cases n1
    refine ⟨e, rfl, l1, _, rfl, .of (by rw [upd_ne l1p]; exact hl1), fun l2 n2 => ?_⟩
    obtain ⟨ms, em, sub⟩ := cut_strs ws none (some e)
    rw [em]
    have msub : ∀ z ∈ ms, z ∈ zs := fun z hz => pw.mem_iff.mp (sub.subset hz)
    have mnd : ms.Nodup := ((pw.nodup_iff).mpr nd).sublist sub
    have lms : ms.length ≤ 6 := by
      have := sub.length_le
      have := pw.length_eq
      omega
    have hpm : (upd H1 p (.lst y2)) p = some (.lst y2) := upd_same
    have p2 : p ≠ l2 := ne_of_none hpm n2
    have htm : (upd H1 p (.lst y2)) t = some (.tup (zs.map V.str)) := by rw [upd_ne htp]; exact ht2
    have t2 : t ≠ l2 := ne_of_none htm n2
    have bH2 : But p H (upd (upd H1 p (.lst y2)) l2 (.lst (ms.map V.str))) := (bH1.upd _).mut ((bH1.upd _).free hpm n2)
    have hp2 : (upd (upd H1 p (.lst y2)) l2 (.lst (ms.map V.str))) p = some (.lst y2) := by rw [upd_ne p2]; exact hpm
    have ht3 : (upd (upd H1 p (.lst y2)) l2 (.lst (ms.map V.str))) t = some (.tup (zs.map V.str)) := by rw [upd_ne t2]; exact htm
    have hl2 : (upd (upd H1 p (.lst y2)) l2 (.lst (ms.map V.str))) l2 = some (.lst (ms.map V.str)) := upd_same
    generalize upd (upd H1 p (.lst y2)) l2 (.lst (ms.map V.str)) = H2 at bH2 hp2 ht3 hl2
    refine ⟨.int way, rfl, rfl, _, rfl, ?_⟩
    cases decide (V.int way = V.int 4) with
    | true =>
      refine iteT ⟨.ref l2, rfl, l2, _, rfl, .inl ⟨.of hl2, fun u nu => ⟨line_of (show 2 ≤ 1000 by decide), fun v nv => ?_⟩⟩⟩
      have pu := ne_of_none hp2 nu
      have bu := bH2.mut (o := HO.tup (ms.map V.str)) (bH2.free hp2 nu)
      have hpu : (upd H2 u (.tup (ms.map V.str))) p = some (.lst y2) := by rw [upd_ne pu]; exact hp2
      refine q v (.lets ms) y2 _ ⟨u, upd_same, ?_⟩ ⟨mnd, msub⟩ (bu.mut (bu.free hpu nv)) (bu.free hpu nv) (by rw [upd_ne (ne_of_none hpu nv)]; exact hpu) (w3.mono (by omega))
      rw [upd_ne (ne_of_none upd_same nv), upd_same]
    | false =>
      refine iteF ⟨.int way, rfl, rfl, _, rfl, ?_⟩
      cases decide (V.int way = V.int 5) with
      | true =>
        refine iteT ⟨.ref l2, rfl, l2, rfl, ⟨_, .of hl2⟩, fun D nD => ?_⟩
        have pD := ne_of_none hp2 nD
        have l2D := ne_of_none hl2 nD
        have nDH := bH2.free hp2 nD
        refine lc_list (K := K) (a := l2) (xs := ms.map V.str) (fun i H' => ∃ (bs : List (Addr × (Str × Int))) (y : List V), H' D = some (.lst (bs.map fun b => V.ref b.1)) ∧ (∀ b ∈ bs, H' b.1 = some (.tup [.str b.2.1, .int b.2.2])) ∧
            bs.map (·.2.1) = ms.take i ∧ (∀ b ∈ bs, 0 ≤ b.2.2 ∧ b.2.2 ≤ 9) ∧ But p H H' ∧ H' p = some (.lst y) ∧ WellL y (k + 20 + i) ∧ H' l2 = some (.lst (ms.map V.str)))
          ⟨[], y2, upd_same, fun _ h => (by cases h), rfl, fun _ h => (by cases h), bH2.mut nDH, by rw [upd_ne pD]; exact hp2, w3.mono (by omega), by rw [upd_ne l2D]; exact hl2⟩ (fun _ _ _ h => by obtain ⟨_, _, _, _, _, _, _, _, _, z⟩ := h; exact .of z) ?_ ?_
        · rintro i v9 H3 hi ⟨bs, y, hD, hbs, hm, hr9, hb, hp3, hw, hl3⟩
          obtain ⟨wd, hwd, rfl⟩ : ∃ wd, ms[i]? = some wd ∧ v9 = V.str wd := by
            rw [List.getElem?_map] at hi
            cases e : ms[i]? with
            | none => rw [e] at hi; cases hi
            | some b => rw [e] at hi; exact ⟨b, rfl, (Option.some.inj hi).symm⟩
          have il : i < ms.length := (List.getElem?_eq_some_iff.mp hwd).1
          have lbs : bs.length ≤ i := by
            have := congrArg List.length hm
            rw [List.length_map, List.length_take] at this
            omega
          refine ⟨rfl, .str wd, rfl, .ref p, rfl, p, 10, y, _, rfl, hp3, hw, by omega, by decide, size_ok (by decide) (by decide), fun d y4 d0 d1 hw4 => ⟨line_of (show 2 ≤ 1000 by decide), fun b nb => ?_⟩⟩
          have tp : ∀ c ∈ bs, c.1 ≠ p := fun c hc e => by have := hbs c hc; rw [e, hp3] at this; cases this
          have tD : ∀ c ∈ bs, c.1 ≠ D := fun c hc e => by have := hbs c hc; rw [e, hD] at this; cases this
          have hbs4 : ∀ c ∈ bs, (upd H3 p (.lst y4)) c.1 = some (.tup [.str c.2.1, .int c.2.2]) := fun c hc => by rw [upd_ne (tp c hc)]; exact hbs c hc
          have hD4 : (upd H3 p (.lst y4)) D = some (.lst (bs.map fun b => V.ref b.1)) := by rw [upd_ne pD.symm]; exact hD
          have hp4 : (upd H3 p (.lst y4)) p = some (.lst y4) := upd_same
          have hl4 : (upd H3 p (.lst y4)) l2 = some (.lst (ms.map V.str)) := by rw [upd_ne p2.symm]; exact hl3
          have hb4 := hb.upd (.lst y4)
          generalize upd H3 p (.lst y4) = H4 at nb hbs4 hD4 hp4 hl4 hb4
          have Db := ne_of_none hD4 nb
          refine ⟨bs.map fun b => V.ref b.1, by rw [upd_ne Db]; exact hD4, small1000 (by rw [List.length_map]; omega), bs ++ [(b, (wd, d))], y4, ?_, ?_, ?_, ?_, (hb4.mut (hb4.free hp4 nb)).mut nDH, by rw [upd_ne pD, upd_ne (ne_of_none hp4 nb)]; exact hp4, hw4.mono (by omega), by rw [upd_ne l2D, upd_ne (ne_of_none hl4 nb)]; exact hl4⟩
          · rw [upd_same, List.map_append]
            rfl
          · intro c hc
            rcases List.mem_append.mp hc with hc | hc
            · rw [upd_ne (tD c hc), upd_ne (ne_of_none (hbs4 c hc) nb)]
              exact hbs4 c hc
            · rw [List.mem_singleton.mp hc, upd_ne Db.symm, upd_same]
          · rw [List.map_append, hm, take_more hwd]
            rfl
          · intro c hc
            rcases List.mem_append.mp hc with hc | hc
            · exact hr9 c hc
            · rw [List.mem_singleton.mp hc]
              exact ⟨d0, by show d ≤ 9; omega⟩
        · rintro H3 ⟨bs, y, hD, hbs, hm, hr9, hb, hp3, hw, hl3⟩
          rw [List.length_map, List.take_length] at hm
          refine ⟨D, _, rfl, .inl ⟨.of hD, fun u nu => ⟨line_of (show 2 ≤ 1000 by decide), fun v nv => ?_⟩⟩⟩
          have pu := ne_of_none hp3 nu
          have bu := hb.mut (o := HO.tup (bs.map fun b => V.ref b.1)) (hb.free hp3 nu)
          have hpu : (upd H3 u (.tup (bs.map fun b => V.ref b.1))) p = some (.lst y) := by rw [upd_ne pu]; exact hp3
          have hbu : ∀ c ∈ bs, (upd H3 u (.tup (bs.map fun b => V.ref b.1))) c.1 = some (.tup [.str c.2.1, .int c.2.2]) := fun c hc => by rw [upd_ne (ne_of_none (hbs c hc) nu)]; exact hbs c hc
          have hm2 : (bs.map (·.2)).map (·.1) = ms := by rw [List.map_map]; exact hm
          refine q v (.marks (bs.map (·.2))) y _ ⟨u, bs, upd_same, by rw [upd_ne (ne_of_none upd_same nv), upd_same], fun c hc => by rw [upd_ne (ne_of_none (hbu c hc) nv)]; exact hbu c hc, rfl⟩ ⟨by rw [hm2]; exact mnd, ?_, ?_⟩ (bu.mut (bu.free hpu nv)) (bu.free hpu nv) (by rw [upd_ne (ne_of_none hpu nv)]; exact hpu) (hw.mono (by rw [List.length_map]; omega))
          · intro m hm'
            exact msub _ (by rw [← hm2]; exact List.mem_map.mpr ⟨m, hm', rfl⟩)
          · intro m hm'
            obtain ⟨c, hc, rfl⟩ := List.mem_map.mp hm'
            exact hr9 c hc
      | false =>
        refine iteF ⟨.ref p, rfl, .ref t, rfl, p, t, zs, y2, _, rfl, hp2, ht3, hn, nd, ok, w3, by omega, fun u bs y5 H5 tb bnd bsub b5 nu hu hp5 w5 => ⟨line_of (show 2 ≤ 1000 by decide), fun v nv => ?_⟩⟩
        have bu : But p H H5 := bH2.trans b5
        refine q v (.order (bs.map (·.2))) y5 _ ⟨u, bs, upd_same, by rw [upd_ne (ne_of_none hu nv)]; exact hu, fun c hc => ⟨by rw [upd_ne (ne_of_none (tb c hc).1 nv)]; exact (tb c hc).1, (tb c hc).2⟩, rfl⟩ ⟨bnd, bsub, ?_⟩ (bu.mut (bu.free hp5 nv)) (bu.free hp5 nv) (by rw [upd_ne (ne_of_none hp5 nv)]; exact hp5) (w5.mono (by omega))
        intro t ht'
        obtain ⟨c, hc, rfl⟩ := List.mem_map.mp ht'
        exact (tb c hc).2
end
section
variable {P : Program} {w : World} {K : PySem.W.Frag} {mg : Str → Option Value} {base : Heap}
/-! ### rows drawn -/
def sp_law_rows : Sp := fun vs H Q _ => ∃ (p t : Addr) (n : Int) (zs : List Str) (x : List V) (k : Nat), vs = [.ref p, .ref t, .int n] ∧ H p = some (.lst x) ∧ H t = some (.tup (zs.map V.str)) ∧ zs.length ≤ 6 ∧ zs.Nodup ∧ (∀ z ∈ zs, NameOk z) ∧ 0 ≤ n ∧ n ≤ 8 ∧ WellL x k ∧ k ≤ 600000 ∧
  ∀ (u : Addr) (rows : List (Bal × Int)) (y : List V) (H' : Hp), RowsAt H' u rows → RowsOk zs n.toNat rows → But p H H' → H u = none → H' p = some (.lst y) → WellL y (k + 400) → Q (.ref u) H'
theorem ok_law_rows (T : Txt K mg) : FnOk P w K mg base CX0 5 T.f_law_rows T.fd_law_rows ["_law_well_here", "_law_options_here", "_law_size"] (sp_law_rows) := by
  refine T.F_law_rows.ok sc_law_rows (fun vs H Q E h => ?_) (fun cdv A outer s H vs Q E hr h => ?_)
  · obtain ⟨p, t, n, zs, x, k, rfl, _⟩ := h
    rfl
  · obtain ⟨p, t, n, zs, x, k, rfl, hp, ht, hn, nd, ok, n0, n8, hx, hk, q⟩ := h
    refine ⟨_, (pss_cons
 (ps_set (i := 3) sc_law_rows.nd rfl (Or.inl rfl) (pe_lst pa_nil))
 (pss_cons
 (ps_for PassesOwn.never rfl (pi_range1 rfl T.z_range (pa_cons (pe_call (ok_law_draw T) (hr.mono (by decide)) (by rfl) T.g_law_draw T.F_law_draw.kp T.b_law_draw .nil pass0 (pa_cons (pv 0) (pa_cons (pe_op op_add (pv 2) pe_int) pa_nil))) pa_nil)) (pg_name (i := 4) sc_law_rows.nd rfl (Or.inl rfl))
 (pss_cons
 (ps_set (i := 5) sc_law_rows.nd rfl (Or.inl rfl) (pe_ix ix_list (pe_lst (pa_cons (pe_op op_add pe_int (pe_call (ok_law_draw T) (hr.mono (by decide)) (by rfl) T.g_law_draw T.F_law_draw.kp T.b_law_draw .nil pass0 (pa_cons (pv 0) (pa_cons pe_int pa_nil)))) (pa_cons (pe_op op_add pe_int (pe_call (ok_law_draw T) (hr.mono (by decide)) (by rfl) T.g_law_draw T.F_law_draw.kp T.b_law_draw .nil pass0 (pa_cons (pv 0) (pa_cons (pe_op op_pow pe_int pe_int) pa_nil)))) pa_nil))) (pe_callTy call_int1 (by rfl) T.z_int (by decide +kernel) (pa_cons (pe_cmpR op_eq (pe_call (ok_law_draw T) (hr.mono (by decide)) (by rfl) T.g_law_draw T.F_law_draw.kp T.b_law_draw .nil pass0 (pa_cons (pv 0) (pa_cons pe_int pa_nil))) pe_int (nomark _)) pa_nil)) (fun _ _ => rfl)))
 (pss_one
 (ps_expr (pe_bm PySem.F.plainAttrs_list PySem.F.slot_list_append PySem.F.type_list_append mt_append (pv 3) (pa_cons (pe_tup (pa_cons (pe_call (ok_law_ballot T) (hr.mono (by decide)) (by rfl) T.g_law_ballot T.F_law_ballot.kp T.b_law_ballot .nil pass0 (pa_cons (pv 0) (pa_cons (pv 1) pa_nil))) (pa_cons (pv 5) pa_nil))) pa_nil))))))
 (pss_one
 (ps_ret (pe_callTy call_tuple_of (by rfl) T.z_tuple (by decide +kernel) (pa_cons (pv 3) pa_nil)))))), ?_⟩
    have htp : t ≠ p := fun e => by rw [e, hp] at ht; cases ht
    refine ⟨line_of (show 0 ≤ 1000 by decide), fun l nl => ?_⟩
    have hpl := ne_of_none hp nl
    have htl := ne_of_none ht nl
    refine ⟨.ref p, rfl, .int n, rfl, _, _, rfl, rfl, p, _, x, k, rfl, by rw [upd_ne hpl]; exact hp, hx, by omega, by omega, size_ok (by omega) (by omega), fun m x1 m0 m1 w1 => ?_⟩
    refine ⟨m, rfl, by omega, by omega, for_range (fun i σ H' => ∃ (x4 x5 : Option V) (as : List (Addr × Addr × (Bal × Int))) (y : List V), σ = [some (.ref p), some (.ref t), some (.int n), some (.ref l), x4, x5] ∧ H' l = some (.lst (as.map fun a => V.ref a.1)) ∧
        (∀ a ∈ as, H' a.1 = some (.tup [.ref a.2.1, .int a.2.2.2]) ∧ BalAt H' a.2.1 a.2.2.1) ∧ (∀ a ∈ as, a.2.2.1.Ok zs ∧ 1 ≤ a.2.2.2 ∧ a.2.2.2 ≤ 1000000) ∧ as.length = i ∧ But p H H' ∧ H' p = some (.lst y) ∧ WellL y (k + 1 + 43 * i) ∧ H' t = some (.tup (zs.map V.str)))
      ⟨none, none, [], x1, rfl, by rw [upd_ne hpl.symm, upd_same]; rfl, fun _ h => (by cases h), fun _ h => (by cases h), rfl, ((But.refl p H).mut nl).upd _, upd_same, w1, by rw [upd_ne htp, upd_ne htl]; exact ht⟩ ?_ ?_⟩
    · rintro i σ H1 hi ⟨x4, x5, as, y, rfl, hl, has, hok, la, hb, hp1, hw, ht1⟩
      have hi8 : i < 9 := by omega
      refine ⟨.ref p, rfl, p, 4, y, _, rfl, hp1, hw, by omega, by decide, size_ok (by decide) (by decide), fun c1 y1 c10 c11 w1 => ?_⟩
      refine ⟨1, c1, rfl, rfl, .ref p, rfl, 10, 6, rfl, rfl, ⟨by decide, by decide, by decide⟩, p, _, y1, _, rfl, upd_same, w1, by omega, by decide +kernel, by decide +kernel, fun c2 y2 c20 c21 w2 => ?_⟩
      rw [mill] at c21
      refine ⟨1, c2, rfl, rfl, line_of (show 2 ≤ 1000 by decide), fun l1 n1 => ?_⟩
      rw [upd_upd] at n1 ⊢
      have hp1' : (upd H1 p (.lst y2)) p = some (.lst y2) := upd_same
      have pl1 := ne_of_none hp1' n1
      refine ⟨.ref p, rfl, p, 8, y2, _, rfl, by rw [upd_ne pl1]; exact hp1', w2, by omega, by decide, size_ok (by decide) (by decide), fun c3 y3 c30 c31 w3 => ?_⟩
      obtain ⟨ct, hct, t1, t2⟩ : ∃ ct : Int, (if decide (V.int c3 = V.int 7) = true then V.int (1 + c2) else V.int (1 + c1)) = V.int ct ∧ 1 ≤ ct ∧ ct ≤ 1000000 := by
        cases decide (V.int c3 = V.int 7) with
        | true => exact ⟨_, rfl, by omega, by omega⟩
        | false => exact ⟨_, rfl, by omega, by omega⟩
      refine ⟨rfl, .inr ⟨_, rfl, l1, _, _, _, rfl, rfl, .of (by rw [upd_ne pl1.symm, upd_same]), (two_of _ _ _).trans (congrArg some hct), ?_⟩⟩
      have k1 : TK H1 (upd (upd (upd H1 p (.lst y2)) l1 (.lst [V.int (1 + c1), V.int (1 + c2)])) p (.lst y3)) := ((TK.lst hp1).trans (TK.new n1)).trans (TK.lst (by rw [upd_ne pl1]; exact hp1'))
      have hbX : But p H (upd (upd (upd H1 p (.lst y2)) l1 (.lst [V.int (1 + c1), V.int (1 + c2)])) p (.lst y3)) := ((hb.upd _).mut ((hb.upd _).free hp1' n1)).upd _
      have hlX : (upd (upd (upd H1 p (.lst y2)) l1 (.lst [V.int (1 + c1), V.int (1 + c2)])) p (.lst y3)) l = some (.lst (as.map fun a => V.ref a.1)) := by
        have h2 : (upd H1 p (.lst y2)) l = some (.lst (as.map fun a => V.ref a.1)) := by rw [upd_ne hpl.symm]; exact hl
        rw [upd_ne hpl.symm, upd_ne (ne_of_none h2 n1)]
        exact h2
      have hpX : (upd (upd (upd H1 p (.lst y2)) l1 (.lst [V.int (1 + c1), V.int (1 + c2)])) p (.lst y3)) p = some (.lst y3) := upd_same
      generalize upd (upd (upd H1 p (.lst y2)) l1 (.lst [V.int (1 + c1), V.int (1 + c2)])) p (.lst y3) = H2 at k1 hbX hlX hpX
      refine ⟨.ref l, rfl, .inl ⟨rfl, _, .of hlX⟩, .ref p, rfl, .ref t, rfl, p, t, zs, y3, _, rfl, hpX, k1 _ _ ht1, hn, nd, ok, w3, by omega, fun u b y5 H5 hbal hbok b5 nu hp5 w5 => ?_⟩
      refine ⟨.int ct, rfl, line_of (show 2 ≤ 1000 by decide), fun c nc => ?_⟩
      have k2 : TK H1 (upd H5 c (.tup [.ref u, .int ct])) := (k1.trans (b5.tups hpX)).trans (TK.new nc)
      have hb5 : But p H H5 := hbX.trans b5
      have hl5 : H5 l = some (.lst (as.map fun a => V.ref a.1)) := b5 l _ hpl.symm hlX
      have lc := ne_of_none hl5 nc
      have hl6 : (upd H5 c (.tup [.ref u, .int ct])) l = some (.lst (as.map fun a => V.ref a.1)) := by rw [upd_ne lc]; exact hl5
      have k3 : TK (upd H5 c (.tup [.ref u, .int ct])) (upd (upd H5 c (.tup [.ref u, .int ct])) l (.lst ((as.map fun a => V.ref a.1) ++ [V.ref c]))) := TK.lst hl6
      refine ⟨l, _, _, rfl, rfl, hl6, small1000 (by rw [List.length_map]; omega), _, _, as ++ [(c, u, (b, ct))], y5, rfl, ?_, ?_, ?_, by rw [List.length_append, la]; rfl, (hb5.mut (hb5.free hp5 nc)).mut nl, by rw [upd_ne hpl, upd_ne (ne_of_none hp5 nc)]; exact hp5, w5.mono (by omega), (k2.trans k3) _ _ ht1⟩
      · rw [upd_same, List.map_append]
        rfl
      · intro a ha
        rcases List.mem_append.mp ha with ha | ha
        · exact ⟨(k2.trans k3) _ _ (has a ha).1, (has a ha).2.keep (k2.trans k3)⟩
        · rw [List.mem_singleton.mp ha]
          exact ⟨k3 _ _ upd_same, (hbal.keep (TK.new nc)).keep k3⟩
      · intro a ha
        rcases List.mem_append.mp ha with ha | ha
        · exact hok a ha
        · rw [List.mem_singleton.mp ha]
          exact ⟨hbok, t1, t2⟩
    · rintro σ H1 ⟨x4, x5, as, y, rfl, hl, has, hok, la, hb, hp1, hw, ht1⟩
      refine ⟨.ref l, rfl, l, _, rfl, .inl ⟨.of hl, fun u nu => ?_⟩⟩
      refine q u (as.map (·.2.2)) y _ ⟨as, upd_same, fun a ha => ⟨TK.new nu _ _ (has a ha).1, (has a ha).2.keep (TK.new nu)⟩, rfl⟩ ⟨by rw [List.length_map]; omega, ?_⟩ (hb.mut (hb.free hp1 nu)) (hb.free hp1 nu) (by rw [upd_ne (ne_of_none hp1 nu)]; exact hp1) (hw.mono (by omega))
      intro r hr'
      obtain ⟨a, ha, rfl⟩ := List.mem_map.mp hr'
      exact hok a ha
end
/-! ### what stands apart from the well -/
/-- all that is tracked, but p -/
def hide (p : Addr) (H : Hp) : Hp := fun a => if a = p then none else H a
theorem hide_ne {p a : Addr} {H : Hp} (h : a ≠ p) : hide p H a = H a := if_neg h
theorem hide_at {p : Addr} {H : Hp} : hide p H p = none := if_pos rfl
theorem hide_sub (p : Addr) (H : Hp) : Same (hide p H) H := fun b o h => by
  by_cases e : b = p
  · rw [e, hide_at] at h
    cases h
  · rw [hide_ne e] at h
    exact h
theorem But.hid {p : Addr} {H H' : Hp} (b : But p H H') : Same (hide p H) (hide p H') := fun a o h => by
  by_cases e : a = p
  · rw [e, hide_at] at h
    cases h
  · rw [hide_ne e] at h ⊢
    exact b a o e h
theorem hid_but {p : Addr} {H H' : Hp} (s : Same (hide p H) (hide p H')) : But p H H' := fun a o e h => by
  have := s a o (by rw [hide_ne e]; exact h)
  rw [hide_ne e] at this
  exact this
theorem hide_upd {p : Addr} {H : Hp} {o : HO} : hide p (upd H p o) = hide p H := by
  funext a
  by_cases e : a = p
  · rw [e, hide_at, hide_at]
  · rw [hide_ne e, hide_ne e, upd_ne e]
theorem hid_same {p : Addr} {H H' : Hp} (s : Same H H') : Same (hide p H) (hide p H') := But.hid fun a o _ h => s a o h
theorem hid_new {p a : Addr} {H : Hp} {o u : HO} (hp : H p = some o) (n : H a = none) (h : H' a = some u) : hide p H' a = some u := by
  rw [hide_ne (fun e => by rw [e, hp] at n; cases n)]
  exact h
theorem hid_tup {p a : Addr} {H : Hp} {x : List V} {xs : List V} (hp : H p = some (.lst x)) (h : H a = some (.tup xs)) : hide p H a = some (.tup xs) := by
  rw [hide_ne (fun e => by rw [e, hp] at h; cases h)]
  exact h
theorem slX_of {K : PySem.W.Frag} {H : Hp} {a : Addr} {xs : List V} {lo hi : Option Int} {Q : VK} (h : H a = some (.tup xs)) (c : ∀ (s : Addr) (H' : Hp), H' s = some (.tup (cutV xs lo hi)) → Same H H' → Q (.ref s) H') : rSlA K (.ref a) lo hi H Q := by
  refine ⟨a, xs, rfl, .of h, fun e => c a H ?_ (Same.refl _), fun _ s ns => c s _ upd_same (same_upd ns)⟩
  have e2 : cutV xs lo hi = xs := by
    unfold cutV
    rw [e.1, e.2, List.drop_zero, Nat.sub_zero, List.take_length]
  rw [e2]
  exact h
theorem catA_of {K : PySem.W.Frag} {H : Hp} {a b : Addr} {xs ys : List V} {Q : VK} (ha : H a = some (.tup xs)) (hb : H b = some (.tup ys)) (hz : xs.length + ys.length ≤ 1000) (c : ∀ (s : Addr) (H' : Hp), H' s = some (.tup (xs ++ ys)) → Same H H' → Q (.ref s) H') : rCatA K (.ref a) (.ref b) H Q := by
  refine ⟨a, b, xs, ys, rfl, rfl, .of ha, .of hb, line_of hz, fun e => ?_, fun _ e => ?_, fun _ _ s ns => c s _ upd_same (same_upd ns)⟩
  · refine c b H ?_ (Same.refl _)
    rw [e]
    exact hb
  · refine c a H ?_ (Same.refl _)
    rw [e, List.append_nil]
    exact ha
theorem cut_from {xs : List V} {k : Nat} (h : k ≤ xs.length) : cutV xs (some (k : Int)) none = xs.drop k := by
  unfold cutV
  rw [HT.sIx_nat, HT.sIx_none, Nat.min_eq_left h, List.take_of_length_le (by rw [List.length_drop]; exact Nat.le_refl _)]
theorem cut_to {xs : List V} {k : Nat} (h : k ≤ xs.length) : cutV xs none (some (k : Int)) = xs.take k := by
  unfold cutV
  rw [HT.sIx_nat, HT.sIx_none, Nat.min_eq_left h, List.drop_zero, Nat.sub_zero]
/-- as H stood, but for the well p, which holds y -/
def On (p : Addr) (H : Hp) (y : List V) (Hc : Hp) : Prop := Same (hide p H) (hide p Hc) ∧ Hc p = some (.lst y)
theorem On.start {p : Addr} {H : Hp} {y : List V} (h : H p = some (.lst y)) : On p H y H := ⟨Same.refl _, h⟩
theorem On.same {p : Addr} {H Hc H' : Hp} {y : List V} (o : On p H y Hc) (s : Same Hc H') : On p H y H' := ⟨o.1.trans (hid_same s), s _ _ o.2⟩
theorem On.new {p q : Addr} {H Hc : Hp} {y : List V} {u : HO} (o : On p H y Hc) (n : Hc q = none) : On p H y (upd Hc q u) := o.same (same_upd n)
theorem On.put {p : Addr} {H Hc : Hp} {y z : List V} (o : On p H y Hc) : On p H z (upd Hc p (.lst z)) := ⟨by rw [hide_upd]; exact o.1, upd_same⟩
theorem On.trans {p : Addr} {H H1 H2 : Hp} {y z : List V} (o : On p H y H1) (c : On p H1 z H2) : On p H z H2 := ⟨o.1.trans c.1, c.2⟩
theorem On.hid {p q : Addr} {H Hc : Hp} {y : List V} {u : HO} (o : On p H y Hc) (n : Hc q = none) : hide p (upd Hc q u) q = some u := hid_new o.2 n upd_same
theorem On.free {p q : Addr} {H Hc : Hp} {y : List V} {u : HO} (o : On p H y Hc) (h : H p = some u) (n : Hc q = none) : H q = none := by
  have e : q ≠ p := fun z => by rw [z, o.2] at n; cases n
  cases g : H q with
  | none => rfl
  | some b =>
    have z := hide_sub p Hc q b (o.1 q b (by rw [hide_ne e]; exact g))
    rw [z] at n
    cases n
/-- a list made meanwhile is changed -/
theorem On.lstD {p D : Addr} {H Hc : Hp} {y : List V} {o : HO} (h : On p H y Hc) (n : H D = none) (d : D ≠ p) : On p H y (upd Hc D o) := by
  refine ⟨fun a u g => ?_, by rw [upd_ne d.symm]; exact h.2⟩
  have ap : a ≠ p := fun e => by rw [e, hide_at] at g; cases g
  have z := h.1 a u g
  rw [hide_ne ap] at z g ⊢
  rw [upd_ne (ne_of_none g n)]
  exact z
theorem hide_put {p q : Addr} {H : Hp} {o : HO} (h : q ≠ p) : hide p (upd H q o) = upd (hide p H) q o := by
  funext a
  by_cases e : a = p
  · rw [e, hide_at, upd_ne h.symm, hide_at]
  · rw [hide_ne e]
    by_cases e3 : a = q
    · rw [e3, upd_same, upd_same]
    · rw [upd_ne e3, upd_ne e3, hide_ne e]
theorem puts {p : Addr} {G Hc : Hp} {o : HO} (s : Same G (hide p Hc)) : Same G (hide p (upd Hc p o)) := by
  rw [hide_upd]
  exact s
theorem item_map {α : Type} {f : α → V} {l : List α} {i : Nat} {v : V} (h : (l.map f)[i]? = some v) : ∃ a, l[i]? = some a ∧ v = f a := by
  rw [List.getElem?_map] at h
  cases e : l[i]? with
  | none => rw [e] at h; cases h
  | some a => rw [e] at h; exact ⟨a, rfl, (Option.some.inj h).symm⟩
theorem cut_next {xs : List V} {k : Nat} (h : k + 1 ≤ xs.length) : cutV xs (some ((k : Int) + 1)) none = xs.drop (k + 1) := cut_from (k := k + 1) h
section
variable {P : Program} {w : World} {K : PySem.W.Frag} {mg : Str → Option Value} {base : Heap}
def sp_law_one : Sp := fun vs H Q _ => ∃ (p q : Addr) (x xs : List V) (k : Nat), vs = [.ref p, .ref q] ∧ H p = some (.lst x) ∧ (hide p H q = some (.lst xs) ∨ hide p H q = some (.tup xs)) ∧ xs ≠ [] ∧ xs.length ≤ 1000 ∧ WellL x k ∧ k ≤ 900000 ∧
  ∀ (i : Nat) (v : V) (y : List V), xs[i]? = some v → WellL y (k + 1) → Q v (upd H p (.lst y))
theorem ok_law_one (T : Txt K mg) : FnOk P w K mg base CX0 2 T.f_law_one T.fd_law_one ["_law_well_here", "_law_some"] sp_law_one := by
  refine T.F_law_one.ok sc_law_one (fun vs H Q E h => ?_) (fun cdv A outer s H vs Q E hr h => ?_)
  · obtain ⟨p, q, x, xs, k, rfl, _⟩ := h
    rfl
  · obtain ⟨p, q, x, xs, k, rfl, hp, hq, hne, hl, wx, hk, c⟩ := h
    refine ⟨_, (pss_one
 (ps_ret (pe_ix (ix_or ix_list ix_tup) (pv 1) (pe_call (ok_law_draw T) (hr.mono (by decide)) (by rfl) T.g_law_draw T.F_law_draw.kp T.b_law_draw .nil pass0 (pa_cons (pv 0) (pa_cons (pe_callB call_len_seq (by rfl) T.z_len (by decide +kernel) (pa_cons (pv 1) pa_nil)) pa_nil))) (fun _ _ => rfl)))), ?_⟩
    have pos : 0 < xs.length := List.length_pos_iff.mpr hne
    rcases hq with hq | hq
    · have hq0 := hide_sub p H _ _ hq
      have qp : q ≠ p := fun e => by rw [e, hide_at] at hq; cases hq
      refine ⟨.ref q, rfl, .ref p, rfl, .ref q, rfl, q, _, rfl, .inl (.of hq0), p, _, x, k, rfl, hp, wx, by omega, by omega, size_ok (by omega) (by omega), fun d y d0 d1 wy => ?_⟩
      obtain ⟨j, rfl⟩ := Int.eq_ofNat_of_zero_le d0
      have hj : j < xs.length := by omega
      exact .inl ⟨q, xs, _, xs[j], rfl, rfl, .of (by rw [upd_ne qp]; exact hq0), atI_nat (List.getElem?_eq_getElem hj), c j _ y (List.getElem?_eq_getElem hj) wy⟩
    · have hq0 := hide_sub p H _ _ hq
      have qp : q ≠ p := fun e => by rw [e, hide_at] at hq; cases hq
      refine ⟨.ref q, rfl, .ref p, rfl, .ref q, rfl, q, _, rfl, .inr (.of hq0), p, _, x, k, rfl, hp, wx, by omega, by omega, size_ok (by omega) (by omega), fun d y d0 d1 wy => ?_⟩
      obtain ⟨j, rfl⟩ := Int.eq_ofNat_of_zero_le d0
      have hj : j < xs.length := by omega
      exact .inr ⟨q, xs, _, xs[j], rfl, rfl, .of (by rw [upd_ne qp]; exact hq0), atI_nat (List.getElem?_eq_getElem hj), c j _ y (List.getElem?_eq_getElem hj) wy⟩
end
/-! ### [e for a in t for b in a], both tuples -/
section
variable {K : PySem.W.Frag} {σ : L2.St} {D : Addr} {vs vs1 : List Nat}
/-- the second for, over a tuple that stays -/
theorem inner_tup {b : Addr} {ys : List V} {g1 : TG} {tt1 : TT} {te : TE} {H4 : Hp} {Nx : Hp → Prop} (Pw : Nat → Hp → Prop) (h0 : Pw 0 H4) (hl : ∀ j H, Pw j H → SqT K H b ys)
    (hs : ∀ j y H, ys[j]? = some y → Pw j H → g1 y (wipe σ vs1) H fun σ3 H5 => wipe σ3 vs1 = wipe σ vs1 ∧ tt1 σ3 H5 fun c H6 => if c = true then te σ3 H6 fun z H7 => ∃ acc, H7 D = some (.lst acc) ∧ acc.length < sizeLine ∧ Pw (j + 1) (upd H7 D (.lst (acc ++ [z]))) else Pw (j + 1) H6)
    (hd : ∀ H, Pw ys.length H → Nx H) :
    ∃ W1 : Nat → Nat → Hp → Prop, (∃ m, W1 0 m H4) ∧ ∀ j k H, W1 j k H → ((Itt K b).stop j H ∧ Nx H) ∨ ((Itt K b).go j H ∧ ∃ Nx1 : Hp → Prop, (∀ H', Nx1 H' → ∃ k', k' < k ∧ W1 (j + 1) k' H') ∧
      ∀ x H', (Itt K b).yld j H x H' → g1 x (wipe σ vs1) H' fun σ3 H5 => wipe σ3 vs1 = wipe σ vs1 ∧ tt1 σ3 H5 fun c H6 => if c = true then te σ3 H6 fun z H7 => ∃ acc, H7 D = some (.lst acc) ∧ acc.length < sizeLine ∧ Nx1 (upd H7 D (.lst (acc ++ [z]))) else Nx1 H6) := by
  refine ⟨fun j k H => k + j = ys.length ∧ Pw j H, ⟨ys.length, rfl, h0⟩, ?_⟩
  rintro j k H ⟨hk, p⟩
  cases k with
  | zero =>
    have e : j = ys.length := by omega
    rw [e] at p ⊢
    exact .inl ⟨⟨ys, hl _ _ p, Nat.le_refl _⟩, hd H p⟩
  | succ k =>
    have lt : j < ys.length := by omega
    refine .inr ⟨⟨ys, ys[j], hl _ _ p, List.getElem?_eq_getElem lt⟩, Pw (j + 1), fun H' p' => ⟨k, Nat.lt_succ_self _, by omega, p'⟩, ?_⟩
    rintro x H' ⟨rfl, y⟩
    exact hs j x _ (y ys (hl _ _ p)) p
/-- the first for -/
theorem outer_tup {a : Addr} {xs : List V} {g g1 : TG} {tt tt1 : TT} {wi1 : TI} {te : TE} {H1 : Hp} {Qd : Hp → Prop} (Pv : Nat → Hp → Prop) (h0 : Pv 0 (upd H1 D (.lst []))) (hl : ∀ i H, Pv i H → SqT K H a xs)
    (hs : ∀ i x H, xs[i]? = some x → Pv i H → g x (wipe σ vs) H fun σ2 H2 => wipe σ2 vs = wipe σ vs ∧ tt σ2 H2 fun c H3 => if c = true then wi1 σ2 H3 fun J1 H4 => ∃ W1 : Nat → Nat → Hp → Prop, (∃ m, W1 0 m H4) ∧ ∀ j k H, W1 j k H → (J1.stop j H ∧ Pv (i + 1) H) ∨ (J1.go j H ∧ ∃ Nx1 : Hp → Prop, (∀ H', Nx1 H' → ∃ k', k' < k ∧ W1 (j + 1) k' H') ∧
      ∀ x H', J1.yld j H x H' → g1 x (wipe σ2 vs1) H' fun σ3 H5 => wipe σ3 vs1 = wipe σ2 vs1 ∧ tt1 σ3 H5 fun c H6 => if c = true then te σ3 H6 fun z H7 => ∃ acc, H7 D = some (.lst acc) ∧ acc.length < sizeLine ∧ Nx1 (upd H7 D (.lst (acc ++ [z]))) else Nx1 H6) else Pv (i + 1) H3)
    (hd : ∀ H, Pv xs.length H → Qd H) :
    ∃ W : Nat → Nat → Hp → Prop, (∃ m, W 0 m (upd H1 D (.lst []))) ∧ ∀ i m H, W i m H → ((Itt K a).stop i H ∧ Qd H) ∨ ((Itt K a).go i H ∧ ∃ Nx : Hp → Prop, (∀ H', Nx H' → ∃ m', m' < m ∧ W (i + 1) m' H') ∧
      ∀ x H', (Itt K a).yld i H x H' → g x (wipe σ vs) H' fun σ2 H2 => wipe σ2 vs = wipe σ vs ∧ tt σ2 H2 fun c H3 => if c = true then wi1 σ2 H3 fun J1 H4 => ∃ W1 : Nat → Nat → Hp → Prop, (∃ m, W1 0 m H4) ∧ ∀ j k H, W1 j k H → (J1.stop j H ∧ Nx H) ∨ (J1.go j H ∧ ∃ Nx1 : Hp → Prop, (∀ H', Nx1 H' → ∃ k', k' < k ∧ W1 (j + 1) k' H') ∧
        ∀ x H', J1.yld j H x H' → g1 x (wipe σ2 vs1) H' fun σ3 H5 => wipe σ3 vs1 = wipe σ2 vs1 ∧ tt1 σ3 H5 fun c H6 => if c = true then te σ3 H6 fun z H7 => ∃ acc, H7 D = some (.lst acc) ∧ acc.length < sizeLine ∧ Nx1 (upd H7 D (.lst (acc ++ [z]))) else Nx1 H6) else Nx H3) := by
  refine ⟨fun i k H => k + i = xs.length ∧ Pv i H, ⟨xs.length, rfl, h0⟩, ?_⟩
  rintro i k H ⟨hk, p⟩
  cases k with
  | zero =>
    have e : i = xs.length := by omega
    rw [e] at p ⊢
    exact .inl ⟨⟨xs, hl _ _ p, Nat.le_refl _⟩, hd H p⟩
  | succ k =>
    have lt : i < xs.length := by omega
    refine .inr ⟨⟨xs, xs[i], hl _ _ p, List.getElem?_eq_getElem lt⟩, Pv (i + 1), fun H' p' => ⟨k, Nat.lt_succ_self _, by omega, p'⟩, ?_⟩
    rintro x H' ⟨rfl, y⟩
    exact hs i x _ (y xs (hl _ _ p)) p
end
/-! ### data: None, truths, numbers, texts, lists and tuples of such -/
mutual
def DAt (H : Hp) : PyData → V → Prop
  | .none, v => v = .non
  | .bool b, v => v = .bl b
  | .int i, v => v = .int i
  | .str z, v => v = .str z
  | .list ds, v => ∃ p xs, v = .ref p ∧ H p = some (.lst xs) ∧ DAll H ds xs
  | .tuple ds, v => ∃ p xs, v = .ref p ∧ H p = some (.tup xs) ∧ DAll H ds xs
  | .dict _, _ => False
def DAll (H : Hp) : List PyData → List V → Prop
  | [], xs => xs = []
  | d :: ds, xs => ∃ v r, xs = v :: r ∧ DAt H d v ∧ DAll H ds r
end
mutual
theorem DAt.same {H H' : Hp} (s : Same H H') : ∀ (d : PyData) {v : V}, DAt H d v → DAt H' d v
  | .none, _, h => h
  | .bool _, _, h => h
  | .int _, _, h => h
  | .str _, _, h => h
  | .list ds, _, ⟨p, xs, e, h, g⟩ => ⟨p, xs, e, s _ _ h, DAll.same s ds g⟩
  | .tuple ds, _, ⟨p, xs, e, h, g⟩ => ⟨p, xs, e, s _ _ h, DAll.same s ds g⟩
  | .dict _, _, h => h
theorem DAll.same {H H' : Hp} (s : Same H H') : ∀ (ds : List PyData) {xs : List V}, DAll H ds xs → DAll H' ds xs
  | [], _, h => h
  | d :: ds, _, ⟨v, r, e, h, g⟩ => ⟨v, r, e, DAt.same s d h, DAll.same s ds g⟩
end
mutual
theorem DAt.dp {K : PySem.W.Frag} {H : Hp} : ∀ (d : PyData) {v : V}, DAt H d v → Dp K H v d
  | .none, _, h => by rw [show _ = V.non from h]; exact .non
  | .bool b, _, h => by rw [show _ = V.bl b from h]; exact .bl b
  | .int i, _, h => by rw [show _ = V.int i from h]; exact .int i
  | .str z, _, h => by rw [show _ = V.str z from h]; exact .str z
  | .list ds, _, ⟨p, xs, e, h, g⟩ => by rw [e]; exact .lst (.of h) (DAll.dp ds g)
  | .tuple ds, _, ⟨p, xs, e, h, g⟩ => by rw [e]; exact .tup (.of h) (DAll.dp ds g)
  | .dict _, _, h => h.elim
theorem DAll.dp {K : PySem.W.Frag} {H : Hp} : ∀ (ds : List PyData) {xs : List V}, DAll H ds xs → DpAll K H xs ds
  | [], _, h => by rw [show _ = ([] : List V) from h]; exact .nil
  | d :: ds, _, ⟨v, r, e, h, g⟩ => by rw [e]; exact .cons (DAt.dp d h) (DAll.dp ds g)
end
theorem DAll.len {H : Hp} : ∀ {l : List PyData} {xs : List V}, DAll H l xs → xs.length = l.length
  | [], _, h => by rw [show _ = [] from h]; rfl
  | k :: l, _, ⟨v, r, e, h, g⟩ => by rw [e]; exact congrArg Nat.succ (DAll.len g)
theorem DAll.get {H : Hp} : ∀ {l : List PyData} {xs : List V}, DAll H l xs → ∀ {i : Nat} {v : V}, xs[i]? = some v → ∃ k, l[i]? = some k ∧ DAt H k v
  | [], _, h, i, v, e => by
    rw [show _ = [] from h] at e
    simp at e
  | k :: l, _, ⟨v, r, e, h, g⟩, 0, u, q => by
    rw [e] at q
    cases q
    exact ⟨k, rfl, h⟩
  | k :: l, _, ⟨v, r, e, h, g⟩, i + 1, u, q => by
    rw [e] at q
    exact DAll.get g (i := i) q
theorem DAll.append {H : Hp} : ∀ {l m : List PyData} {xs ys : List V}, DAll H l xs → DAll H m ys → DAll H (l ++ m) (xs ++ ys)
  | [], _, _, _, h, g => by rw [show _ = [] from h]; exact g
  | k :: l, _, _, _, ⟨v, r, e, h, g⟩, q => by rw [e]; exact ⟨v, _, rfl, h, DAll.append g q⟩
theorem DAll.take {H : Hp} : ∀ (n : Nat) {l : List PyData} {xs : List V}, DAll H l xs → DAll H (l.take n) (xs.take n)
  | 0, _, _, _ => by rw [List.take_zero, List.take_zero]; rfl
  | n + 1, [], _, h => by rw [show _ = [] from h]; rfl
  | n + 1, k :: l, _, ⟨v, r, e, h, g⟩ => by rw [e]; exact ⟨v, _, rfl, h, DAll.take n g⟩
theorem DAll.drop {H : Hp} : ∀ (n : Nat) {l : List PyData} {xs : List V}, DAll H l xs → DAll H (l.drop n) (xs.drop n)
  | 0, _, _, h => h
  | n + 1, [], _, h => by rw [show _ = [] from h]; rfl
  | n + 1, k :: l, _, ⟨v, r, e, h, g⟩ => by rw [e]; exact DAll.drop n g
theorem DAll.strs {H : Hp} : ∀ (zs : List Str), DAll H (zs.map PyData.str) (zs.map V.str)
  | [] => rfl
  | z :: zs => ⟨.str z, _, rfl, rfl, DAll.strs zs⟩
theorem da0 {H : Hp} : DAll H [] [] := rfl
theorem da1 {H : Hp} {k : PyData} {v : V} {l : List PyData} {xs : List V} (a : DAt H k v) (b : DAll H l xs) : DAll H (k :: l) (v :: xs) := ⟨v, xs, rfl, a, b⟩
def dT : PyData → Bool
  | .tuple _ => true
  | _ => false
def dS : PyData → Bool
  | .str _ => true
  | _ => false
def dI : PyData → Bool
  | .int _ => true
  | .bool _ => true
  | _ => false
def dB : PyData → Bool
  | .bool _ => true
  | _ => false
theorem DAt.ty {K : PySem.W.Frag} {H : Hp} : ∀ {d : PyData} {v : V}, DAt H d v → ∃ t, TyX K H v t ∧ PySem.W.kitOne K t (.type "tuple") = some (dT d) ∧ PySem.W.kitOne K t (.type "str") = some (dS d) ∧ PySem.W.kitOne K t (.type "int") = some (dI d) ∧ PySem.W.kitOne K t (.type "bool") = some (dB d)
  | .none, _, h => by
    rw [show _ = V.non from h]
    exact ⟨_, .base .non, kit_ty (show kitB "NoneType" "tuple" = some false by decide +kernel), kit_ty (show kitB "NoneType" "str" = some false by decide +kernel), kit_ty (show kitB "NoneType" "int" = some false by decide +kernel), kit_ty (show kitB "NoneType" "bool" = some false by decide +kernel)⟩
  | .bool b, _, h => by
    rw [show _ = V.bl b from h]
    exact ⟨_, .base (.bl b), kit_ty (show kitB "bool" "tuple" = some false by decide +kernel), kit_ty (show kitB "bool" "str" = some false by decide +kernel), kit_ty (show kitB "bool" "int" = some true by decide +kernel), kit_ty (show kitB "bool" "bool" = some true by decide +kernel)⟩
  | .int i, _, h => by
    rw [show _ = V.int i from h]
    exact ⟨_, .base (.int i), kit_ty (show kitB "int" "tuple" = some false by decide +kernel), kit_ty (show kitB "int" "str" = some false by decide +kernel), kit_ty (show kitB "int" "int" = some true by decide +kernel), kit_ty (show kitB "int" "bool" = some false by decide +kernel)⟩
  | .str z, _, h => by
    rw [show _ = V.str z from h]
    exact ⟨_, .base (.str z), kit_ty (show kitB "str" "tuple" = some false by decide +kernel), kit_ty (show kitB "str" "str" = some true by decide +kernel), kit_ty (show kitB "str" "int" = some false by decide +kernel), kit_ty (show kitB "str" "bool" = some false by decide +kernel)⟩
  | .list ds, _, ⟨p, xs, e, h, g⟩ => by
    rw [e]
    exact ⟨_, .base (.lst h), kit_ty (show kitB "list" "tuple" = some false by decide +kernel), kit_ty (show kitB "list" "str" = some false by decide +kernel), kit_ty (show kitB "list" "int" = some false by decide +kernel), kit_ty (show kitB "list" "bool" = some false by decide +kernel)⟩
  | .tuple ds, _, ⟨p, xs, e, h, g⟩ => by
    rw [e]
    exact ⟨_, .base (.tup h), kit_ty (show kitB "tuple" "tuple" = some true by decide +kernel), kit_ty (show kitB "tuple" "str" = some false by decide +kernel), kit_ty (show kitB "tuple" "int" = some false by decide +kernel), kit_ty (show kitB "tuple" "bool" = some false by decide +kernel)⟩
  | .dict _, _, h => h.elim
/-- data that can be laid, of some depth and weight, told in short texts -/
structure Ok (n m : Nat) (d : PyData) : Prop where
  lay : d.canLay0 = true
  dep : d.depth ≤ n
  sho : d.showable = true
  lea : d.leavesShort 40 = true
  wei : d.weight ≤ m
structure OkA (n m : Nat) (ds : List PyData) : Prop where
  lay : PyData.canLayAll0 ds = true
  dep : PyData.depthAll ds ≤ n
  sho : PyData.showableAll ds = true
  lea : PyData.leavesShortAll 40 ds = true
  wei : PyData.weightAll ds ≤ m
theorem OkA.nil {n m : Nat} : OkA n m [] := ⟨rfl, Nat.zero_le _, rfl, rfl, Nat.zero_le _⟩
theorem Ok.mono {n m n' m' : Nat} {d : PyData} (h : Ok n m d) (a : n ≤ n') (b : m ≤ m') : Ok n' m' d := ⟨h.lay, Nat.le_trans h.dep a, h.sho, h.lea, Nat.le_trans h.wei b⟩
theorem OkA.mono {n m n' m' : Nat} {d : List PyData} (h : OkA n m d) (a : n ≤ n') (b : m ≤ m') : OkA n' m' d := ⟨h.lay, Nat.le_trans h.dep a, h.sho, h.lea, Nat.le_trans h.wei b⟩
theorem OkA.cons {n m k : Nat} {d : PyData} {ds : List PyData} (a : Ok n m d) (b : OkA n k ds) : OkA n (m + 1 + k) (d :: ds) := by
  refine ⟨?_, ?_, ?_, ?_, ?_⟩
  · rw [PyData.canLayAll0, a.lay, b.lay] <;> rfl
  · rw [PyData.depthAll]
    exact Nat.max_le.mpr ⟨a.dep, b.dep⟩
  · rw [PyData.showableAll, a.sho, b.sho] <;> rfl
  · rw [PyData.leavesShortAll, a.lea, b.lea] <;> rfl
  · rw [PyData.weightAll]
    have := a.wei
    have := b.wei
    omega
theorem OkA.head {n m : Nat} {d : PyData} {ds : List PyData} (h : OkA n m (d :: ds)) : Ok n m d := by
  have h1 := h.lay
  have h2 := h.dep
  have h3 := h.sho
  have h4 := h.lea
  have h5 := h.wei
  rw [PyData.canLayAll0, Bool.and_eq_true] at h1
  rw [PyData.depthAll] at h2
  rw [PyData.showableAll, Bool.and_eq_true] at h3
  rw [PyData.leavesShortAll, Bool.and_eq_true] at h4
  rw [PyData.weightAll] at h5
  exact ⟨h1.1, (Nat.max_le.mp h2).1, h3.1, h4.1, by omega⟩
theorem OkA.tail {n m : Nat} {d : PyData} {ds : List PyData} (h : OkA n m (d :: ds)) : OkA n m ds := by
  have h1 := h.lay
  have h2 := h.dep
  have h3 := h.sho
  have h4 := h.lea
  have h5 := h.wei
  rw [PyData.canLayAll0, Bool.and_eq_true] at h1
  rw [PyData.depthAll] at h2
  rw [PyData.showableAll, Bool.and_eq_true] at h3
  rw [PyData.leavesShortAll, Bool.and_eq_true] at h4
  rw [PyData.weightAll] at h5
  exact ⟨h1.2, (Nat.max_le.mp h2).2, h3.2, h4.2, by omega⟩
theorem OkA.get {n m : Nat} : ∀ {ds : List PyData}, OkA n m ds → ∀ d ∈ ds, Ok n m d
  | [], _, _, h => by cases h
  | a :: ds, h, d, hd => by
    rcases List.mem_cons.mp hd with e | hd
    · rw [e]
      exact h.head
    · exact h.tail.get d hd
theorem OkA.append {n m k : Nat} : ∀ {a b : List PyData}, OkA n m a → OkA n k b → OkA n (m + k) (a ++ b)
  | [], b, h, g => g.mono (Nat.le_refl _) (by omega)
  | d :: a, b, h, g => by
    have e := h.wei
    rw [PyData.weightAll] at e
    have hd : Ok n d.weight d := ⟨h.head.lay, h.head.dep, h.head.sho, h.head.lea, Nat.le_refl _⟩
    have ha : OkA n (PyData.weightAll a) a := ⟨h.tail.lay, h.tail.dep, h.tail.sho, h.tail.lea, Nat.le_refl _⟩
    exact (OkA.cons hd (OkA.append ha g)).mono (Nat.le_refl _) (by omega)
theorem OkA.take {n m : Nat} : ∀ (k : Nat) {a : List PyData}, OkA n m a → OkA n m (a.take k)
  | 0, _, _ => OkA.nil
  | _ + 1, [], _ => OkA.nil
  | k + 1, d :: a, h => by
    have e := h.wei
    rw [PyData.weightAll] at e
    have hd : Ok n d.weight d := ⟨h.head.lay, h.head.dep, h.head.sho, h.head.lea, Nat.le_refl _⟩
    have ha : OkA n (PyData.weightAll a) a := ⟨h.tail.lay, h.tail.dep, h.tail.sho, h.tail.lea, Nat.le_refl _⟩
    exact (OkA.cons hd (ha.take k)).mono (Nat.le_refl _) (by omega)
theorem OkA.drop {n m : Nat} : ∀ (k : Nat) {a : List PyData}, OkA n m a → OkA n m (a.drop k)
  | 0, _, h => h
  | _ + 1, [], _ => OkA.nil
  | k + 1, _ :: _, h => h.tail.drop k
theorem OkA.tuple {n m : Nat} {ds : List PyData} (h : OkA n m ds) : Ok (n + 1) m (.tuple ds) := by
  refine ⟨?_, ?_, ?_, ?_, ?_⟩
  · rw [PyData.canLay0]; exact h.lay
  · have := h.dep
    rw [PyData.depth]
    omega
  · rw [PyData.showable]; exact h.sho
  · rw [PyData.leavesShort]; exact h.lea
  · rw [PyData.weight]; exact h.wei
theorem OkA.list {n m : Nat} {ds : List PyData} (h : OkA n m ds) : Ok (n + 1) m (.list ds) := by
  refine ⟨?_, ?_, ?_, ?_, ?_⟩
  · rw [PyData.canLay0]; exact h.lay
  · have := h.dep
    rw [PyData.depth]
    omega
  · rw [PyData.showable]; exact h.sho
  · rw [PyData.leavesShort]; exact h.lea
  · rw [PyData.weight]; exact h.wei
theorem Ok.shaped {n m : Nat} {d : PyData} (h : Ok n m d) (hn : n ≤ 64) : SeqAt.shaped d = true := by
  unfold SeqAt.shaped
  rw [h.lay, Bool.true_and]
  exact decide_eq_true (Nat.le_trans h.dep hn)
theorem Ok.fits {n m : Nat} {d : PyData} (h : Ok n m d) (hm : m ≤ 100000) : d.shown.length ≤ sizeLine := by
  have := PyData.shown_le 40 (by decide) d h.lea
  have := h.wei
  show _ ≤ 16777216
  omega
theorem ok_none {n m : Nat} : Ok n m .none := ⟨rfl, Nat.zero_le _, rfl, rfl, Nat.zero_le _⟩
theorem ok_bool {n m : Nat} (b : Bool) : Ok n m (.bool b) := ⟨rfl, Nat.zero_le _, rfl, rfl, Nat.zero_le _⟩
theorem ok_str {n m : Nat} {z : Str} (h : PyData.strOk z = true) (g : z.length ≤ m) : Ok n m (.str z) := by
  refine ⟨by rw [PyData.canLay0]; exact h, Nat.zero_le _, by rw [PyData.showable], ?_, by rw [PyData.weight]; exact g⟩
  rw [PyData.leavesShort, List.all_eq_true]
  intro c hc
  unfold PyData.strOk at h
  rw [← Array.all_toList, List.all_eq_true] at h
  have := of_decide_eq_true (h c hc)
  exact decide_eq_true (Nat.lt_trans this (by decide))
/-! ### what the program's own looks tell of data -/
def wholeD : PyData → Bool
  | .int _ => true
  | _ => false
def tupD : PyData → Nat → Bool
  | .tuple l, n => decide (l.length = n)
  | _, _ => false
def optD (zs : List Str) : PyData → Bool
  | .str z => decide (z ∈ zs)
  | _ => false
def unS : PyData → Option Str
  | .str z => some z
  | _ => none
def unlikeD (zs : List Str) (ds : List PyData) : Bool := ds.all (optD zs) && decide (ds.filterMap unS).Nodup
def markD : PyData → Bool
  | .int i => decide (0 ≤ i) && decide (i ≤ 9)
  | _ => false
def parts : PyData → List PyData
  | .tuple l => l
  | _ => []
def tierD : PyData → Bool
  | .tuple l => decide (0 < l.length)
  | _ => false
def pairD : PyData → Bool
  | .tuple [_, m] => markD m
  | _ => false
def firstD : PyData → PyData
  | .tuple (a :: _) => a
  | _ => .none
def tiersD (zs : List Str) (ds : List PyData) : Bool := ds.all tierD && unlikeD zs (ds.flatMap parts)
def marksD (zs : List Str) (ds : List PyData) : Bool := ds.all pairD && unlikeD zs (ds.map firstD)
def ballotD (zs : List Str) : PyData → Bool
  | .tuple [.str f, .tuple l] => if f = "order" then tiersD zs l else if f = "lets" then unlikeD zs l else if f = "marks" then marksD zs l else false
  | _ => false
theorem inV_str (z : Str) : ∀ zs : List Str, inV (.str z) (zs.map V.str) = decide (z ∈ zs)
  | [] => rfl
  | a :: l => by
    have ih := inV_str z l
    unfold inV at ih ⊢
    rw [List.map_cons, List.any_cons, ih]
    show ((a == z) || decide (z ∈ l)) = decide (z ∈ a :: l)
    by_cases h : a = z
    · rw [h]
      simp
    · have : (a == z) = false := beq_eq_false_iff_ne.mpr h
      rw [this, Bool.false_or]
      exact decide_eq_decide.mpr ⟨fun m => List.mem_cons_of_mem _ m, fun m => (List.mem_cons.mp m).elim (fun e => absurd e.symm h) id⟩
theorem flat_strs (zs : List Str) : (zs.map V.str).all flatV = true := by
  rw [List.all_map, List.all_eq_true]
  exact fun _ _ => rfl
theorem opt_strs {zs : List Str} : ∀ {ds : List PyData}, ds.all (optD zs) = true → ds = (ds.filterMap unS).map PyData.str
  | [], _ => rfl
  | d :: ds, h => by
    rw [List.all_cons, Bool.and_eq_true] at h
    cases d with
    | str z => exact congrArg (PyData.str z :: ·) (opt_strs h.2)
    | _ => cases h.1
theorem DAll.of_strs {H : Hp} : ∀ {zs : List Str} {xs : List V}, DAll H (zs.map PyData.str) xs → xs = zs.map V.str
  | [], _, h => h
  | z :: zs, _, ⟨v, r, e, h, g⟩ => by
    rw [e, show v = V.str z from h, DAll.of_strs g] <;> rfl
section
variable {P : Program} {w : World} {K : PySem.W.Frag} {mg : Str → Option Value} {base : Heap}
def sp_is_whole : Sp := fun vs H Q _ => ∃ (v : V) (d : PyData), vs = [v] ∧ DAt H d v ∧ Q (.bl (wholeD d)) H
theorem ok_is_whole (T : Txt K mg) : FnOk P w K mg base CX0 1 T.f_is_whole T.fd_is_whole ["thing"] sp_is_whole := by
  refine T.F_is_whole.ok sc_is_whole (fun vs H Q E h => ?_) (fun cdv A outer s H vs Q E hr h => ?_)
  · obtain ⟨v, d, rfl, _⟩ := h
    rfl
  · obtain ⟨v, d, rfl, hd, q⟩ := h
    refine ⟨_, (pss_one
 (ps_ret (pe_and (pe_callB call_isi (by rfl) T.z_isinstance (by decide +kernel) (pa_cons (pv 0) (pa_cons (pe_bltn (v := .ty "int") (u := .type "int") rfl T.z_int (by decide +kernel) rfl) pa_nil))) (pe_one (pe_not (pe_callB call_isi (by rfl) T.z_isinstance (by decide +kernel) (pa_cons (pv 0) (pa_cons (pe_bltn (v := .ty "bool") (u := .type "bool") rfl T.z_bool (by decide +kernel) rfl) pa_nil)))))))), ?_⟩
    obtain ⟨t, ht, _, _, k3, k4⟩ := hd.ty (K := K)
    refine ⟨v, rfl, v, _, t, _, dI d, rfl, .ty _, ht, k3, dI d, rfl, ?_⟩
    have e : (if dI d = true then !dB d else false) = wholeD d := by cases d <;> rfl
    rw [← e] at q
    cases h1 : dI d with
    | false =>
      rw [h1] at q
      exact iteF q
    | true =>
      rw [h1] at q
      exact iteT ⟨v, rfl, v, _, t, _, dB d, rfl, .ty _, ht, k4, dB d, rfl, q⟩
def sp_is_tuple_of : Sp := fun vs H Q _ => ∃ (v : V) (n : Nat) (d : PyData), vs = [v, .int n] ∧ DAt H d v ∧ Q (.bl (tupD d n)) H
theorem ok_is_tuple_of (T : Txt K mg) : FnOk P w K mg base CX0 1 T.f_is_tuple_of T.fd_is_tuple_of ["thing", "many"] sp_is_tuple_of := by
  refine T.F_is_tuple_of.ok sc_is_tuple_of (fun vs H Q E h => ?_) (fun cdv A outer s H vs Q E hr h => ?_)
  · obtain ⟨v, n, d, rfl, _⟩ := h
    rfl
  · obtain ⟨v, n, d, rfl, hd, q⟩ := h
    refine ⟨_, (pss_one
 (ps_ret (pe_and (pe_callB call_isi (by rfl) T.z_isinstance (by decide +kernel) (pa_cons (pv 0) (pa_cons (pe_bltn (v := .ty "tuple") (u := .type "tuple") rfl T.z_tuple (by decide +kernel) rfl) pa_nil))) (pe_one (pe_cmpR op_eq (pe_callB call_len_seq (by rfl) T.z_len (by decide +kernel) (pa_cons (pv 0) pa_nil)) (pv 1) (nomark _)))))), ?_⟩
    obtain ⟨t, ht, k1, _⟩ := hd.ty (K := K)
    refine ⟨v, rfl, v, _, t, _, dT d, rfl, .ty _, ht, k1, dT d, rfl, ?_⟩
    cases d with
    | tuple l =>
      obtain ⟨p, xs, rfl, hp, ha⟩ := hd
      refine iteT ⟨.ref p, rfl, p, _, rfl, .inr (.of hp), .int n, rfl, rfl, ?_⟩
      rw [ha.len]
      have e : decide (V.int (l.length : Int) = V.int (n : Int)) = decide (l.length = n) := decide_eq_decide.mpr ⟨fun h => by have := V.int.inj h; omega, fun h => by rw [h]⟩
      rw [e]
      exact q
    | _ => exact iteF q
def sp_is_option : Sp := fun vs H Q _ => ∃ (o : Addr) (zs : List Str) (v : V) (d : PyData), vs = [.ref o, v] ∧ H o = some (.tup (zs.map V.str)) ∧ DAt H d v ∧ Q (.bl (optD zs d)) H
theorem ok_is_option (T : Txt K mg) : FnOk P w K mg base CX0 1 T.f_is_option T.fd_is_option ["options", "thing"] sp_is_option := by
  refine T.F_is_option.ok sc_is_option (fun vs H Q E h => ?_) (fun cdv A outer s H vs Q E hr h => ?_)
  · obtain ⟨o, zs, v, d, rfl, _⟩ := h
    rfl
  · obtain ⟨o, zs, v, d, rfl, ho, hd, q⟩ := h
    refine ⟨_, (pss_one
 (ps_ret (pe_and (pe_callB call_isi (by rfl) T.z_isinstance (by decide +kernel) (pa_cons (pv 1) (pa_cons (pe_bltn (v := .ty "str") (u := .type "str") rfl T.z_str (by decide +kernel) rfl) pa_nil))) (pe_one (pe_cmpR op_in_seq (pv 1) (pv 0) rfl))))), ?_⟩
    obtain ⟨t, ht, _, k2, _⟩ := hd.ty (K := K)
    refine ⟨v, rfl, v, _, t, _, dS d, rfl, .ty _, ht, k2, dS d, rfl, ?_⟩
    cases d with
    | str z =>
      rw [show v = V.str z from hd]
      refine iteT ⟨.str z, rfl, .ref o, rfl, o, _, rfl, .inr (.of ho), rfl, flat_strs zs, ?_⟩
      show Q (.bl (inV (.str z) (zs.map V.str))) H
      rw [inV_str]
      exact q
    | _ => exact iteF q
def sp_are_unlike_options : Sp := fun vs H Q _ => ∃ (o p : Addr) (zs : List Str) (xs : List V) (ds : List PyData), vs = [.ref o, .ref p] ∧ H o = some (.tup (zs.map V.str)) ∧ (H p = some (.lst xs) ∨ H p = some (.tup xs)) ∧ DAll H ds xs ∧ ds.length ≤ 500 ∧ ∀ H', Same H H' → Q (.bl (unlikeD zs ds)) H'
theorem ok_are_unlike_options (T : Txt K mg) : FnOk P w K mg base CX0 2 T.f_are_unlike_options T.fd_are_unlike_options ["options", "names"] sp_are_unlike_options := by
  refine T.F_are_unlike_options.ok sc_are_unlike_options (fun vs H Q E h => ?_) (fun cdv A outer s H vs Q E hr h => ?_)
  · obtain ⟨o, p, zs, xs, ds, rfl, _⟩ := h
    rfl
  · obtain ⟨o, p, zs, xs, ds, rfl, ho, hp, ha, hl, q⟩ := h
    refine ⟨_, (pss_one
 (ps_ret (pe_and (pe_callB (cr_all rfl) (by rfl) T.z_all (by decide +kernel) (pa_cons (pe_lc (own := [("name", 2)]) (g := gName 2) (tt := tYes) rfl sc_are_unlike_options.nd (pi_or (pi_list (pv 1)) (pi_tup (pv 1))) (blkOk_by (own := [("name", 2)]) (N := ["options", "names", "name"]) (sc := (defScope s_are_unlike_options)) (by decide +kernel)) (fun _ _ _ _ _ => pg_name (i := 2) sc_are_unlike_options.nd rfl (Or.inl rfl)) (fun _ _ _ _ _ => pts_nil) (fun _ _ _ _ _ => (pe_call (ok_is_option T) (hr.mono (by decide)) (by rfl) T.g_is_option T.F_is_option.kp T.b_is_option .nil pass0 (pa_cons (pv 0) (pa_cons (pv 2) pa_nil))))) pa_nil)) (pe_one (pe_cmpR op_eq (pe_unlike rfl (by rfl) T.z_len (by rfl) T.z_set (pv 1)) (pe_callB call_len_seq (by rfl) T.z_len (by decide +kernel) (pa_cons (pv 1) pa_nil)) (nomark _)))))), ?_⟩
    have lx : xs.length = ds.length := ha.len
    -- behind the comprehension
    have go : ∀ (H1 : Hp), Same H H1 → ∀ (R : VK), (∀ b H', Same H H' → b = unlikeD zs ds → R (.bl b) H') →
        (ds.all (optD zs) = false → R (.bl false) H1) ∧ (ds.all (optD zs) = true → ∀ b, b = decide (V.int ((met (ds.filterMap unS)).length : Int) = V.int (xs.length : Int)) → R (.bl b) H1) := by
      intro H1 s1 R c
      refine ⟨fun e => c _ _ s1 ?_, fun e b hb => c _ _ s1 ?_⟩
      · unfold unlikeD
        rw [e] <;> rfl
      · have es := opt_strs e
        have el : (ds.filterMap unS).length = ds.length := by
          have := congrArg List.length es
          rw [List.length_map] at this
          exact this.symm
        unfold unlikeD
        rw [e, Bool.true_and, ← met_iff, hb]
        exact decide_eq_decide.mpr ⟨fun h => by have := V.int.inj h; omega, fun h => by rw [h, el, ← lx]⟩
    have turn : ∀ (D : Addr) (nD : H D = none) (i : Nat) (x : V) (H1 : Hp), xs[i]? = some x → (Same H H1 ∧ H1 D = some (.lst (((ds.take i).map (optD zs)).map V.bl))) → ∃ kk, ds[i]? = some kk ∧ DAt H1 kk x ∧ H1 o = some (.tup (zs.map V.str)) ∧
        H1 D = some (.lst (((ds.take i).map (optD zs)).map V.bl)) ∧ (((ds.take i).map (optD zs)).map V.bl).length < sizeLine ∧ Same H (upd H1 D (.lst (((ds.take i).map (optD zs)).map V.bl ++ [V.bl (optD zs kk)]))) ∧
        (upd H1 D (.lst (((ds.take i).map (optD zs)).map V.bl ++ [V.bl (optD zs kk)]))) D = some (.lst (((ds.take (i + 1)).map (optD zs)).map V.bl)) := by
      rintro D nD i x H1 hi ⟨s1, e1⟩
      obtain ⟨kk, hkk, hx⟩ := ha.get hi
      refine ⟨kk, hkk, DAt.same s1 _ hx, s1 _ _ ho, e1, ?_, same_mut s1 nD, ?_⟩
      · rw [List.length_map, List.length_map, List.length_take]
        exact small1000 (by omega)
      · rw [upd_same, take_more hkk, List.map_append, List.map_append]
        rfl
    rcases hp with hp | hp
    · refine .inl ⟨.ref p, rfl, p, rfl, ⟨_, .of hp⟩, fun D nD => ?_⟩
      refine lc_list (K := K) (a := p) (xs := xs) (fun i H' => Same H H' ∧ H' D = some (.lst (((ds.take i).map (optD zs)).map V.bl))) ⟨same_upd nD, upd_same⟩ (fun _ _ _ h => .of (h.1 _ _ hp)) ?_ ?_
      · intro i x H1 hi h
        obtain ⟨kk, hkk, hx, ho1, e1, z1, z2, z3⟩ := turn D nD i x H1 hi h
        exact ⟨rfl, .ref o, rfl, x, rfl, o, zs, x, kk, rfl, ho1, hx, _, e1, z1, z2, z3⟩
      · rintro H1 ⟨s1, e1⟩
        rw [lx, List.take_length] at e1
        refine ⟨D, _, rfl, .of e1, _, rfl, ?_⟩
        have ea : (ds.map (optD zs)).all id = ds.all (optD zs) := by rw [List.all_map]; rfl
        rw [ea]
        obtain ⟨g1, g2⟩ := go H1 s1 Q (fun b H' s e => by rw [e]; exact q _ s)
        cases hs : ds.all (optD zs) with
        | false => exact iteF (g1 hs)
        | true =>
          have es := opt_strs hs
          have ex : xs = (ds.filterMap unS).map V.str := by rw [es] at ha; exact ha.of_strs
          have lw : (ds.filterMap unS).length ≤ 500 := Nat.le_trans (List.length_filterMap_le _ _) hl
          exact iteT ⟨.ref p, rfl, p, ds.filterMap unS, rfl, .inl (.of (by rw [← ex]; exact s1 _ _ hp)), by omega, .ref p, rfl, p, _, rfl, .inl (.of (s1 _ _ hp)), rfl, g2 hs _ rfl⟩
    · refine .inr ⟨.ref p, rfl, p, rfl, ⟨_, .of hp⟩, fun D nD => ?_⟩
      refine lc_tup (K := K) (a := p) (xs := xs) (fun i H' => Same H H' ∧ H' D = some (.lst (((ds.take i).map (optD zs)).map V.bl))) ⟨same_upd nD, upd_same⟩ (fun _ _ _ h => .of (h.1 _ _ hp)) ?_ ?_
      · intro i x H1 hi h
        obtain ⟨kk, hkk, hx, ho1, e1, z1, z2, z3⟩ := turn D nD i x H1 hi h
        exact ⟨rfl, .ref o, rfl, x, rfl, o, zs, x, kk, rfl, ho1, hx, _, e1, z1, z2, z3⟩
      · rintro H1 ⟨s1, e1⟩
        rw [lx, List.take_length] at e1
        refine ⟨D, _, rfl, .of e1, _, rfl, ?_⟩
        have ea : (ds.map (optD zs)).all id = ds.all (optD zs) := by rw [List.all_map]; rfl
        rw [ea]
        obtain ⟨g1, g2⟩ := go H1 s1 Q (fun b H' s e => by rw [e]; exact q _ s)
        cases hs : ds.all (optD zs) with
        | false => exact iteF (g1 hs)
        | true =>
          have es := opt_strs hs
          have ex : xs = (ds.filterMap unS).map V.str := by rw [es] at ha; exact ha.of_strs
          have lw : (ds.filterMap unS).length ≤ 500 := Nat.le_trans (List.length_filterMap_le _ _) hl
          exact iteT ⟨.ref p, rfl, p, ds.filterMap unS, rfl, .inr (.of (by rw [← ex]; exact s1 _ _ hp)), by omega, .ref p, rfl, p, _, rfl, .inr (.of (s1 _ _ hp)), rfl, g2 hs _ rfl⟩
end
section
variable {P : Program} {w : World} {K : PySem.W.Frag} {mg : Str → Option Value} {base : Heap}
def sp_is_mark : Sp := fun vs H Q _ => ∃ (v : V) (d : PyData), vs = [v] ∧ DAt H d v ∧ Q (.bl (markD d)) H
theorem ok_is_mark (T : Txt K mg) : FnOk P w K mg base CX0 2 T.f_is_mark T.fd_is_mark ["thing"] sp_is_mark := by
  refine T.F_is_mark.ok sc_is_mark (fun vs H Q E h => ?_) (fun cdv A outer s H vs Q E hr h => ?_)
  · obtain ⟨v, d, rfl, _⟩ := h
    rfl
  · obtain ⟨v, d, rfl, hd, q⟩ := h
    refine ⟨_, (pss_one
 (ps_ret (pe_and (pe_call (ok_is_whole T) (hr.mono (by decide)) (by rfl) T.g_is_whole T.F_is_whole.kp T.b_is_whole .nil pass0 (pa_cons (pv 0) pa_nil)) (pe_one (pe_chain op_le op_le pe_int (pv 0) (pe_glob (v := .int 9) rfl T.c_GREATEST_MARK ⟨_, rfl⟩)))))), ?_⟩
    refine ⟨v, rfl, v, d, rfl, hd, wholeD d, rfl, ?_⟩
    cases d with
    | int i =>
      rw [show v = V.int i from hd]
      have e : markD (.int i) = if decide (0 ≤ i) = true then decide (i ≤ 9) else false := by
        show (decide (0 ≤ i) && decide (i ≤ 9)) = _
        by_cases h : 0 ≤ i <;> simp [h]
      rw [e] at q
      refine iteT ⟨.int i, rfl, _, _, rfl, rfl, _, rfl, ?_⟩
      by_cases h : 0 ≤ i
      · rw [decide_eq_true h] at q ⊢
        exact iteT ⟨_, _, rfl, rfl, q⟩
      · rw [decide_eq_false h] at q ⊢
        exact iteF q
    | _ => exact iteF q
/-- a tuple of which no part is long -/
def Wide (ds : List PyData) : Prop := ds.length ≤ 20 ∧ ∀ d ∈ ds, (parts d).length ≤ 20
def sp_are_tiers : Sp := fun vs H Q _ => ∃ (o t : Addr) (zs : List Str) (xs : List V) (ds : List PyData), vs = [.ref o, .ref t] ∧ H o = some (.tup (zs.map V.str)) ∧ H t = some (.tup xs) ∧ DAll H ds xs ∧ Wide ds ∧ ∀ H', Same H H' → Q (.bl (tiersD zs ds)) H'
theorem flat_le {ds : List PyData} (h : Wide ds) : (ds.flatMap parts).length ≤ 400 := by
  obtain ⟨h1, h2⟩ := h
  have : ∀ l : List PyData, (∀ d ∈ l, (parts d).length ≤ 20) → (l.flatMap parts).length ≤ 20 * l.length := by
    intro l
    induction l with
    | nil => intro _; exact Nat.le_refl _
    | cons a l ih =>
      intro g
      have a1 := g a List.mem_cons_self
      have a2 := ih fun d hd => g d (List.mem_cons_of_mem _ hd)
      rw [List.flatMap_cons, List.length_append, List.length_cons]
      omega
  have := this ds h2
  omega
theorem ok_are_tiers (T : Txt K mg) : FnOk P w K mg base CX0 3 T.f_are_tiers T.fd_are_tiers ["options", "told"] sp_are_tiers := by
  refine T.F_are_tiers.ok sc_are_tiers (fun vs H Q E h => ?_) (fun cdv A outer s H vs Q E hr h => ?_)
  · obtain ⟨o, t, zs, xs, ds, rfl, _⟩ := h
    rfl
  · obtain ⟨o, t, zs, xs, ds, rfl, ho, ht, ha, hw, q⟩ := h
    refine ⟨_, (pss_cons
 (ps_if (pt_not (pt_val (pe_callB (cr_all rfl) (by rfl) T.z_all (by decide +kernel) (pa_cons (pe_lc (own := [("tier", 2)]) (g := gName 2) (tt := tYes) rfl sc_are_tiers.nd (pi_tup (pv 1)) (blkOk_by (own := [("tier", 2)]) (N := ["options", "told", "tier", "name"]) (sc := (defScope s_are_tiers)) (by decide +kernel)) (fun _ _ _ _ _ => pg_name (i := 2) sc_are_tiers.nd rfl (Or.inl rfl)) (fun _ _ _ _ _ => pts_nil) (fun s0 H0 C0 cl0 fp0 => (by have h := ((pe_and (pe_callB call_isi (by rfl) T.z_isinstance (by decide +kernel) (pa_cons (pv 2) (pa_cons (pe_bltn (v := .ty "tuple") (u := .type "tuple") rfl T.z_tuple (by decide +kernel) rfl) pa_nil))) (pe_one (pe_cmpR op_gt (pe_callB call_len_seq (by rfl) T.z_len (by decide +kernel) (pa_cons (pv 2) pa_nil)) pe_int (nomark _)))) : PE ((cxOf CX0 P w K mg base ["options", "told", "tier", "name"] "are_tiers" (defScope s_are_tiers) T.f_are_tiers cdv A outer s H E).nox.blk s0 H0 (lcScope (subE (subE (rootE ((defBody s_are_tiers).getD 0 (.Pass ⟨0, 0, 0, 0⟩))) 0) 1)) (compEnvC (lcScope (subE (subE (rootE ((defBody s_are_tiers).getD 0 (.Pass ⟨0, 0, 0, 0⟩))) 0) 1)) cl0 C0 (cxOf CX0 P w K mg base ["options", "told", "tier", "name"] "are_tiers" (defScope s_are_tiers) T.f_are_tiers cdv A outer s H E).nox.env) fp0) (subE (subE (subE (rootE ((defBody s_are_tiers).getD 0 (.Pass ⟨0, 0, 0, 0⟩))) 0) 1) 0) _); dsimp only [Cx.blk, Cx.tr, Cx.suite, Cx.nox, Cx.wish, cxOf] at h; exact h))) pa_nil))))
 (pss_one
 (ps_ret pe_bl))
 pss_nil)
 (pss_one
 (ps_ret (pe_call (ok_are_unlike_options T) (hr.mono (by decide)) (by rfl) T.g_are_unlike_options T.F_are_unlike_options.kp T.b_are_unlike_options .nil pass0 (pa_cons (pv 0) (pa_cons (pe_lc2 (own := [("tier", 2), ("name", 3)]) (vs1 := [3]) (g := gName 2) (g1 := gName 3) (tt := tYes) (tt1 := tYes) rfl sc_are_tiers.nd (pi_tup (pv 1)) (blkOk_by (own := [("tier", 2), ("name", 3)]) (N := ["options", "told", "tier", "name"]) (sc := (defScope s_are_tiers)) (by decide +kernel)) (by decide) (fun _ _ _ _ _ => pg_name (i := 2) sc_are_tiers.nd rfl (Or.inl rfl)) (fun _ _ _ _ _ => pts_nil) (fun s0 H0 C0 cl0 fp0 => (by have h := ((pi_tup (pv 2)) : PI ((cxOf CX0 P w K mg base ["options", "told", "tier", "name"] "are_tiers" (defScope s_are_tiers) T.f_are_tiers cdv A outer s H E).nox.blk s0 H0 (lcScope (subE (rootE ((defBody s_are_tiers).getD 1 (.Pass ⟨0, 0, 0, 0⟩))) 2)) (compEnvC (lcScope (subE (rootE ((defBody s_are_tiers).getD 1 (.Pass ⟨0, 0, 0, 0⟩))) 2)) cl0 C0 (cxOf CX0 P w K mg base ["options", "told", "tier", "name"] "are_tiers" (defScope s_are_tiers) T.f_are_tiers cdv A outer s H E).nox.env) fp0) (lcG (subE (rootE ((defBody s_are_tiers).getD 1 (.Pass ⟨0, 0, 0, 0⟩))) 2) 1).target (lcG (subE (rootE ((defBody s_are_tiers).getD 1 (.Pass ⟨0, 0, 0, 0⟩))) 2) 1).iter _); dsimp only [Cx.blk, Cx.tr, Cx.suite, Cx.nox, Cx.wish, cxOf] at h; exact h)) (fun _ _ _ _ _ => pg_name (i := 3) sc_are_tiers.nd rfl (Or.inl rfl)) (fun _ _ _ _ _ => pts_nil) (fun _ _ _ _ _ => (pv 3))) pa_nil)))))), ?_⟩
    have lx : xs.length = ds.length := ha.len
    have l20 := hw.1
    refine ⟨.ref t, rfl, t, rfl, ⟨_, .of ht⟩, fun D nD => ?_⟩
    refine lc_tup (K := K) (a := t) (xs := xs) (fun i H' => Same H H' ∧ H' D = some (.lst (((ds.take i).map tierD).map V.bl))) ⟨same_upd nD, upd_same⟩ (fun _ _ _ h => .of (h.1 _ _ ht)) ?_ ?_
    · rintro i x H1 hi ⟨s1, e1⟩
      obtain ⟨kk, hkk, hx⟩ := ha.get hi
      have hx := DAt.same s1 _ hx
      obtain ⟨ty, hty, k1, _⟩ := hx.ty (K := K)
      have fin : ∀ b, b = tierD kk → ∃ acc, H1 D = some (.lst acc) ∧ acc.length < sizeLine ∧ Same H (upd H1 D (.lst (acc ++ [V.bl b]))) ∧ (upd H1 D (.lst (acc ++ [V.bl b]))) D = some (.lst (((ds.take (i + 1)).map tierD).map V.bl)) := fun b e => by
        refine ⟨_, e1, ?_, same_mut s1 nD, ?_⟩
        · rw [List.length_map, List.length_map, List.length_take]
          exact small1000 (by omega)
        · rw [upd_same, take_more hkk, List.map_append, List.map_append, e]
          rfl
      refine ⟨rfl, x, rfl, x, _, ty, _, dT kk, rfl, .ty _, hty, k1, dT kk, rfl, ?_⟩
      cases kk with
      | tuple l =>
        obtain ⟨a1, ys, rfl, h1, h2⟩ := hx
        refine iteT ⟨.ref a1, rfl, a1, _, rfl, .inr (.of h1), _, _, rfl, rfl, fin _ ?_⟩
        rw [h2.len]
        exact decide_eq_decide.mpr ⟨fun h => by omega, fun h => by omega⟩
      | _ => exact iteF (fin _ rfl)
    · rintro H1 ⟨s1, e1⟩
      rw [lx, List.take_length] at e1
      refine ⟨D, _, rfl, .of e1, _, rfl, ?_⟩
      have ea : (ds.map tierD).all id = ds.all tierD := by rw [List.all_map]; rfl
      rw [ea]
      cases hs : ds.all tierD with
      | false =>
        refine iteT ?_
        have := q H1 s1
        unfold tiersD at this
        rw [hs] at this
        exact this
      | true =>
        have q : ∀ H', Same H H' → Q (.bl (unlikeD zs (ds.flatMap parts))) H' := fun H' s' => by
          have := q H' s'
          unfold tiersD at this
          rw [hs] at this
          exact this
        refine iteF ⟨.ref o, rfl, .ref t, rfl, t, rfl, ⟨_, .of (s1 _ _ ht)⟩, fun D2 nD2 => ?_⟩
        have every : ∀ {i : Nat} {k : PyData}, ds[i]? = some k → ∃ l, k = .tuple l := fun {i k} h => by
          have := List.all_eq_true.mp hs _ (List.mem_of_getElem? h)
          cases k with
          | tuple l => exact ⟨l, rfl⟩
          | _ => cases this
        refine outer_tup (K := K) (a := t) (xs := xs) (fun i H' => ∃ ys, Same H1 H' ∧ H' D2 = some (.lst ys) ∧ DAll H1 ((ds.take i).flatMap parts) ys) ⟨[], same_upd nD2, upd_same, rfl⟩ (fun _ _ ⟨_, h, _⟩ => .of (h _ _ (s1 _ _ ht))) ?_ ?_
        · rintro i x H2 hi ⟨ys, s2, e2, d2⟩
          obtain ⟨kk, hkk, hx⟩ := ha.get hi
          obtain ⟨l, rfl⟩ := every hkk
          obtain ⟨a1, us, rfl, h1, h2⟩ := hx
          have h1 := s1 _ _ h1
          have h2 := DAll.same s1 _ h2
          have lu : us.length = l.length := h2.len
          refine ⟨rfl, .ref a1, rfl, a1, rfl, ⟨_, .of (s2 _ _ h1)⟩, inner_tup (K := K) (b := a1) (ys := us) (fun j H' => ∃ zs', Same H1 H' ∧ H' D2 = some (.lst (ys ++ zs')) ∧ DAll H1 (l.take j) zs') ⟨[], s2, by rw [List.append_nil]; exact e2, rfl⟩ (fun _ _ ⟨_, h, _⟩ => .of (h _ _ h1)) ?_ ?_⟩
          · rintro j u H3 hj ⟨zs', s3, e3, d3⟩
            obtain ⟨ku, hku, hu⟩ := h2.get hj
            refine ⟨rfl, u, rfl, _, e3, ?_, zs' ++ [u], same_mut s3 nD2, by rw [upd_same, List.append_assoc], ?_⟩
            · have z1 := d2.len
              have z2 := d3.len
              have z3 : ((ds.take i).flatMap parts).length ≤ 400 := flat_le ⟨by rw [List.length_take]; omega, fun d hd => hw.2 d (List.mem_of_mem_take hd)⟩
              have z4 := hw.2 _ (List.mem_of_getElem? hkk)
              have z5 : (parts (.tuple l)).length = l.length := rfl
              rw [List.length_take] at z2
              rw [List.length_append]
              exact small1000 (by omega)
            · rw [take_more hku]
              exact d3.append (da1 hu da0)
          · rintro H3 ⟨zs', s3, e3, d3⟩
            rw [lu, List.take_length] at d3
            refine ⟨_, s3, e3, ?_⟩
            rw [take_more hkk, List.flatMap_append]
            exact d2.append (by simpa [parts] using d3)
        · rintro H2 ⟨ys, s2, e2, d2⟩
          rw [lx, List.take_length] at d2
          exact ⟨o, D2, zs, ys, _, rfl, s2 _ _ (s1 _ _ ho), .inl e2, DAll.same s2 _ d2, by have := flat_le hw; omega, fun H3 s3 => q H3 (s1.trans (s2.trans s3))⟩
end
section
variable {P : Program} {w : World} {K : PySem.W.Frag} {mg : Str → Option Value} {base : Heap}
theorem tupD_two : ∀ {d : PyData}, tupD d 2 = true → ∃ a b, d = .tuple [a, b]
  | .tuple [a, b], _ => ⟨a, b, rfl⟩
  | .tuple [], h => (by cases h)
  | .tuple [_], h => (by cases h)
  | .tuple (_ :: _ :: _ :: _), h => (by simp [tupD] at h)
  | .none, h => (by cases h)
  | .bool _, h => (by cases h)
  | .int _, h => (by cases h)
  | .str _, h => (by cases h)
  | .list _, h => (by cases h)
  | .dict _, h => (by cases h)
theorem pairD_two {d : PyData} (h : tupD d 2 = false) : pairD d = false := by
  unfold pairD
  split
  · simp [tupD] at h
  · rfl
theorem ballotD_two {zs : List Str} {d : PyData} (h : tupD d 2 = false) : ballotD zs d = false := by
  unfold ballotD
  split
  · simp [tupD] at h
  · rfl
def sp_are_marks : Sp := fun vs H Q _ => ∃ (o t : Addr) (zs : List Str) (xs : List V) (ds : List PyData), vs = [.ref o, .ref t] ∧ H o = some (.tup (zs.map V.str)) ∧ H t = some (.tup xs) ∧ DAll H ds xs ∧ ds.length ≤ 20 ∧ ∀ H', Same H H' → Q (.bl (marksD zs ds)) H'
theorem ok_are_marks (T : Txt K mg) : FnOk P w K mg base CX0 3 T.f_are_marks T.fd_are_marks ["options", "told"] sp_are_marks := by
  refine T.F_are_marks.ok sc_are_marks (fun vs H Q E h => ?_) (fun cdv A outer s H vs Q E hr h => ?_)
  · obtain ⟨o, t, zs, xs, ds, rfl, _⟩ := h
    rfl
  · obtain ⟨o, t, zs, xs, ds, rfl, ho, ht, ha, l20, q⟩ := h
    refine ⟨_, (pss_cons
 (ps_if (pt_not (pt_val (pe_callB (cr_all rfl) (by rfl) T.z_all (by decide +kernel) (pa_cons (pe_lc (own := [("pair", 2)]) (g := gName 2) (tt := tYes) rfl sc_are_marks.nd (pi_tup (pv 1)) (blkOk_by (own := [("pair", 2)]) (N := ["options", "told", "pair"]) (sc := (defScope s_are_marks)) (by decide +kernel)) (fun _ _ _ _ _ => pg_name (i := 2) sc_are_marks.nd rfl (Or.inl rfl)) (fun _ _ _ _ _ => pts_nil) (fun s0 H0 C0 cl0 fp0 => (by have h := ((pe_and (pe_call (ok_is_tuple_of T) (hr.mono (by decide)) (by rfl) T.g_is_tuple_of T.F_is_tuple_of.kp T.b_is_tuple_of .nil pass0 (pa_cons (pv 2) (pa_cons pe_int pa_nil))) (pe_one (pe_call (ok_is_mark T) (hr.mono (by decide)) (by rfl) T.g_is_mark T.F_is_mark.kp T.b_is_mark .nil pass0 (pa_cons (pe_ix ix_tup (pv 2) pe_int (fun _ _ => rfl)) pa_nil)))) : PE ((cxOf CX0 P w K mg base ["options", "told", "pair"] "are_marks" (defScope s_are_marks) T.f_are_marks cdv A outer s H E).nox.blk s0 H0 (lcScope (subE (subE (rootE ((defBody s_are_marks).getD 0 (.Pass ⟨0, 0, 0, 0⟩))) 0) 1)) (compEnvC (lcScope (subE (subE (rootE ((defBody s_are_marks).getD 0 (.Pass ⟨0, 0, 0, 0⟩))) 0) 1)) cl0 C0 (cxOf CX0 P w K mg base ["options", "told", "pair"] "are_marks" (defScope s_are_marks) T.f_are_marks cdv A outer s H E).nox.env) fp0) (subE (subE (subE (rootE ((defBody s_are_marks).getD 0 (.Pass ⟨0, 0, 0, 0⟩))) 0) 1) 0) _); dsimp only [Cx.blk, Cx.tr, Cx.suite, Cx.nox, Cx.wish, cxOf] at h; exact h))) pa_nil))))
 (pss_one
 (ps_ret pe_bl))
 pss_nil)
 (pss_one
 (ps_ret (pe_call (ok_are_unlike_options T) (hr.mono (by decide)) (by rfl) T.g_are_unlike_options T.F_are_unlike_options.kp T.b_are_unlike_options .nil pass0 (pa_cons (pv 0) (pa_cons (pe_lc (own := [("pair", 2)]) (g := gName 2) (tt := tYes) rfl sc_are_marks.nd (pi_tup (pv 1)) (blkOk_by (own := [("pair", 2)]) (N := ["options", "told", "pair"]) (sc := (defScope s_are_marks)) (by decide +kernel)) (fun _ _ _ _ _ => pg_name (i := 2) sc_are_marks.nd rfl (Or.inl rfl)) (fun _ _ _ _ _ => pts_nil) (fun s0 H0 C0 cl0 fp0 => (by have h := ((pe_ix ix_tup (pv 2) pe_int (fun _ _ => rfl)) : PE ((cxOf CX0 P w K mg base ["options", "told", "pair"] "are_marks" (defScope s_are_marks) T.f_are_marks cdv A outer s H E).nox.blk s0 H0 (lcScope (subE (rootE ((defBody s_are_marks).getD 1 (.Pass ⟨0, 0, 0, 0⟩))) 2)) (compEnvC (lcScope (subE (rootE ((defBody s_are_marks).getD 1 (.Pass ⟨0, 0, 0, 0⟩))) 2)) cl0 C0 (cxOf CX0 P w K mg base ["options", "told", "pair"] "are_marks" (defScope s_are_marks) T.f_are_marks cdv A outer s H E).nox.env) fp0) (subE (subE (rootE ((defBody s_are_marks).getD 1 (.Pass ⟨0, 0, 0, 0⟩))) 2) 0) _); dsimp only [Cx.blk, Cx.tr, Cx.suite, Cx.nox, Cx.wish, cxOf] at h; exact h))) pa_nil)))))), ?_⟩
    have lx : xs.length = ds.length := ha.len
    refine ⟨.ref t, rfl, t, rfl, ⟨_, .of ht⟩, fun D nD => ?_⟩
    refine lc_tup (K := K) (a := t) (xs := xs) (fun i H' => Same H H' ∧ H' D = some (.lst (((ds.take i).map pairD).map V.bl))) ⟨same_upd nD, upd_same⟩ (fun _ _ _ h => .of (h.1 _ _ ht)) ?_ ?_
    · rintro i x H1 hi ⟨s1, e1⟩
      obtain ⟨kk, hkk, hx⟩ := ha.get hi
      have hx := DAt.same s1 _ hx
      have fin : ∀ b, b = pairD kk → ∃ acc, H1 D = some (.lst acc) ∧ acc.length < sizeLine ∧ Same H (upd H1 D (.lst (acc ++ [V.bl b]))) ∧ (upd H1 D (.lst (acc ++ [V.bl b]))) D = some (.lst (((ds.take (i + 1)).map pairD).map V.bl)) := fun b e => by
        refine ⟨_, e1, ?_, same_mut s1 nD, ?_⟩
        · rw [List.length_map, List.length_map, List.length_take]
          exact small1000 (by omega)
        · rw [upd_same, take_more hkk, List.map_append, List.map_append, e]
          rfl
      refine ⟨rfl, x, rfl, x, 2, kk, rfl, hx, tupD kk 2, rfl, ?_⟩
      cases h2 : tupD kk 2 with
      | false => exact iteF (fin _ (pairD_two h2).symm)
      | true =>
        obtain ⟨a, b, rfl⟩ := tupD_two h2
        obtain ⟨a1, ys, rfl, h1, v0, r, rfl, _, v1, r2, rfl, hb, rfl⟩ := hx
        exact iteT ⟨.ref a1, rfl, a1, _, 1, v1, rfl, rfl, .of h1, atI_nat (j := 1) rfl, v1, b, rfl, hb, fin _ rfl⟩
    · rintro H1 ⟨s1, e1⟩
      rw [lx, List.take_length] at e1
      refine ⟨D, _, rfl, .of e1, _, rfl, ?_⟩
      have ea : (ds.map pairD).all id = ds.all pairD := by rw [List.all_map]; rfl
      rw [ea]
      cases hs : ds.all pairD with
      | false =>
        refine iteT ?_
        have := q H1 s1
        unfold marksD at this
        rw [hs] at this
        exact this
      | true =>
        have q : ∀ H', Same H H' → Q (.bl (unlikeD zs (ds.map firstD))) H' := fun H' s' => by
          have := q H' s'
          unfold marksD at this
          rw [hs] at this
          exact this
        refine iteF ⟨.ref o, rfl, .ref t, rfl, t, rfl, ⟨_, .of (s1 _ _ ht)⟩, fun D2 nD2 => ?_⟩
        refine lc_tup (K := K) (a := t) (xs := xs) (fun i H' => ∃ ys, Same H1 H' ∧ H' D2 = some (.lst ys) ∧ DAll H1 ((ds.take i).map firstD) ys) ⟨[], same_upd nD2, upd_same, rfl⟩ (fun _ _ _ ⟨_, h, _⟩ => .of (h _ _ (s1 _ _ ht))) ?_ ?_
        · rintro i x H2 hi ⟨ys, s2, e2, d2⟩
          obtain ⟨kk, hkk, hx⟩ := ha.get hi
          have hp := List.all_eq_true.mp hs _ (List.mem_of_getElem? hkk)
          have h2 : tupD kk 2 = true := by
            cases h : tupD kk 2 with
            | true => rfl
            | false => rw [pairD_two h] at hp; cases hp
          obtain ⟨a, b, rfl⟩ := tupD_two h2
          obtain ⟨a1, us, rfl, h1, v0, r, rfl, hv, v1, r2, rfl, _, rfl⟩ := hx
          refine ⟨rfl, .ref a1, rfl, a1, _, 0, v0, rfl, rfl, .of ((s1.trans s2) _ _ h1), atI_nat (j := 0) rfl, _, e2, ?_, ys ++ [v0], same_mut s2 nD2, upd_same, ?_⟩
          · rw [d2.len, List.length_map, List.length_take]
            exact small1000 (by omega)
          · rw [take_more hkk, List.map_append]
            exact d2.append (da1 (DAt.same s1 _ hv) da0)
        · rintro H2 ⟨ys, s2, e2, d2⟩
          rw [lx, List.take_length] at d2
          exact ⟨o, D2, zs, ys, _, rfl, s2 _ _ (s1 _ _ ho), .inl e2, DAll.same s2 _ d2, by rw [List.length_map]; omega, fun H3 s3 => q H3 (s1.trans (s2.trans s3))⟩
/-- no part too long: what a ballot's second half may be -/
def Fit : PyData → Prop
  | .tuple [_, .tuple l] => Wide l
  | _ => True
def sp_is_ballot : Sp := fun vs H Q _ => ∃ (o : Addr) (zs : List Str) (v : V) (d : PyData), vs = [.ref o, v] ∧ H o = some (.tup (zs.map V.str)) ∧ DAt H d v ∧ Fit d ∧ ∀ H', Same H H' → Q (.bl (ballotD zs d)) H'
theorem ok_is_ballot (T : Txt K mg) : FnOk P w K mg base CX0 4 T.f_is_ballot T.fd_is_ballot ["options", "thing"] sp_is_ballot := by
  refine T.F_is_ballot.ok sc_is_ballot (fun vs H Q E h => ?_) (fun cdv A outer s H vs Q E hr h => ?_)
  · obtain ⟨o, zs, v, d, rfl, _⟩ := h
    rfl
  · obtain ⟨o, zs, v, d, rfl, ho, hd, hf, q⟩ := h
    refine ⟨_, (pss_cons
 (ps_if (PW.pt (pw_or (pt_not (pt_val (pe_call (ok_is_tuple_of T) (hr.mono (by decide)) (by rfl) T.g_is_tuple_of T.F_is_tuple_of.kp T.b_is_tuple_of .nil pass0 (pa_cons (pv 1) (pa_cons pe_int pa_nil))))) (pw_or (pt_not (pt_val (pe_callB call_isi (by rfl) T.z_isinstance (by decide +kernel) (pa_cons (pe_ix ix_tup (pv 1) pe_int (fun _ _ => rfl)) (pa_cons (pe_bltn (v := .ty "str") (u := .type "str") rfl T.z_str (by decide +kernel) rfl) pa_nil))))) (pw_or1 (pt_not (pt_val (pe_callB call_isi (by rfl) T.z_isinstance (by decide +kernel) (pa_cons (pe_ix ix_tup (pv 1) pe_int (fun _ _ => rfl)) (pa_cons (pe_bltn (v := .ty "tuple") (u := .type "tuple") rfl T.z_tuple (by decide +kernel) rfl) pa_nil)))))))))
 (pss_one
 (ps_ret pe_bl))
 pss_nil)
 (pss_cons
 (ps_asg (pv 1) (pg_tup rfl (pgs_cons (pg_name (i := 2) sc_is_ballot.nd rfl (Or.inl rfl)) (pgs_cons (pg_name (i := 3) sc_is_ballot.nd rfl (Or.inl rfl)) pgs_nil))))
 (pss_cons
 (ps_if (pt_cmpR op_eq (pv 2) pe_str (nomark _))
 (pss_one
 (ps_ret (pe_call (ok_are_tiers T) (hr.mono (by decide)) (by rfl) T.g_are_tiers T.F_are_tiers.kp T.b_are_tiers .nil pass0 (pa_cons (pv 0) (pa_cons (pv 3) pa_nil)))))
 pss_nil)
 (pss_cons
 (ps_if (pt_cmpR op_eq (pv 2) pe_str (nomark _))
 (pss_one
 (ps_ret (pe_call (ok_are_unlike_options T) (hr.mono (by decide)) (by rfl) T.g_are_unlike_options T.F_are_unlike_options.kp T.b_are_unlike_options .nil pass0 (pa_cons (pv 0) (pa_cons (pv 3) pa_nil)))))
 pss_nil)
 (pss_cons
 (ps_if (pt_cmpR op_eq (pv 2) pe_str (nomark _))
 (pss_one
 (ps_ret (pe_call (ok_are_marks T) (hr.mono (by decide)) (by rfl) T.g_are_marks T.F_are_marks.kp T.b_are_marks .nil pass0 (pa_cons (pv 0) (pa_cons (pv 3) pa_nil)))))
 pss_nil)
 (pss_one
 (ps_ret pe_bl))))))), ?_⟩
    have q0 := q H (Same.refl H)
    refine ⟨v, rfl, v, 2, d, rfl, hd, tupD d 2, rfl, ?_⟩
    cases h2 : tupD d 2 with
    | false =>
      rw [ballotD_two h2] at q0
      exact iteT q0
    | true =>
      obtain ⟨a, b, rfl⟩ := tupD_two h2
      obtain ⟨p, xs, rfl, hp, v0, r, rfl, ha, v1, r2, rfl, hb, rfl⟩ := hd
      obtain ⟨t0, ht0, _, k0, _⟩ := ha.ty (K := K)
      refine iteF ⟨.ref p, rfl, p, _, 0, v0, rfl, rfl, .of hp, atI_nat (j := 0) rfl, v0, _, t0, _, dS a, rfl, .ty _, ht0, k0, dS a, rfl, ?_⟩
      cases a with
      | str f =>
        obtain ⟨t1, ht1, k1, _⟩ := hb.ty (K := K)
        refine iteF ⟨.ref p, rfl, p, _, 1, v1, rfl, rfl, .of hp, atI_nat (j := 1) rfl, v1, _, t1, _, dT b, rfl, .ty _, ht1, k1, dT b, rfl, ?_⟩
        cases b with
        | tuple l =>
          obtain ⟨pt, us, rfl, hpt, hl⟩ := hb
          rw [show v0 = V.str f from ha] at hp
          have wl : Wide l := hf
          refine iteF ⟨.ref p, rfl, p, _, rfl, .of hp, rfl, _, _, rfl, _, _, rfl, rfl, ?_⟩
          have es : ∀ z : Str, decide (V.str f = V.str z) = decide (f = z) := fun z => decide_eq_decide.mpr ⟨fun h => V.str.inj h, fun h => by rw [h]⟩
          have eq : ballotD zs (.tuple [.str f, .tuple l]) = if f = "order" then tiersD zs l else if f = "lets" then unlikeD zs l else if f = "marks" then marksD zs l else false := rfl
          rw [eq] at q q0
          refine ⟨.str f, rfl, rfl, _, rfl, ?_⟩
          rw [es]
          by_cases e1 : f = "order"
          · rw [decide_eq_true e1]
            rw [if_pos e1] at q
            exact iteT ⟨.ref o, rfl, .ref pt, rfl, o, pt, zs, us, l, rfl, ho, hpt, hl, wl, q⟩
          · rw [decide_eq_false e1]
            rw [if_neg e1] at q q0
            refine iteF ⟨.str f, rfl, rfl, _, rfl, ?_⟩
            rw [es]
            by_cases e2 : f = "lets"
            · rw [decide_eq_true e2]
              rw [if_pos e2] at q
              exact iteT ⟨.ref o, rfl, .ref pt, rfl, o, pt, zs, us, l, rfl, ho, .inr hpt, hl, by have := wl.1; omega, q⟩
            · rw [decide_eq_false e2]
              rw [if_neg e2] at q q0
              refine iteF ⟨.str f, rfl, rfl, _, rfl, ?_⟩
              rw [es]
              by_cases e3 : f = "marks"
              · rw [decide_eq_true e3]
                rw [if_pos e3] at q
                exact iteT ⟨.ref o, rfl, .ref pt, rfl, o, pt, zs, us, l, rfl, ho, hpt, hl, wl.1, q⟩
              · rw [decide_eq_false e3]
                rw [if_neg e3] at q0
                exact iteF q0
        | none => exact iteT q0
        | bool _ => exact iteT q0
        | int _ => exact iteT q0
        | str _ => exact iteT q0
        | list _ => exact iteT q0
        | dict _ => exact iteT q0
      | none => exact iteT q0
      | bool _ => exact iteT q0
      | int _ => exact iteT q0
      | tuple _ => exact iteT q0
      | list _ => exact iteT q0
      | dict _ => exact iteT q0
def BadE (C : Addr) (H : Hp) (E : XK) : Prop := ∀ (d : Addr) (fs : List (Str × V)) (H' : Hp), Same H H' → H d = none → H' d = some (.xd fs) → E (.ref C) (some d) H'
def sp_PollError_init (K : PySem.W.Frag) : Sp := fun vs H Q _ => ∃ (a C : Addr) (z : Str), vs = [.ref a, .str z] ∧ H a = some (exo a C none) ∧ OexC K C ∧ PySem.W.findIn K (.ref C) "why" = some none ∧
  ∀ dx, H dx = none → dx ≠ a → Q .non (upd (upd H dx (exd dx [("why", .str z)])) a (exo a C (some dx)))
theorem ok_PollError_init (T : Txt K mg) : FnOk P w K mg base CX0 1 T.f_PollError_init T.fd_PollError_init ["self", "why"] (sp_PollError_init K) := by
  refine T.F_PollError_init.ok (CX := CX0) sc_PollError_init (fun vs H Q E h => ?_) (fun cdv A outer s H vs Q E hr h => ?_)
  · obtain ⟨a, C, z, rfl, _⟩ := h
    rfl
  · obtain ⟨a, C, z, rfl, ha, hT, hno, q⟩ := h
    refine ⟨_, (pss_cons
 (ps_expr (pe_veinit (by rfl) T.z_ValueError T.vV (pa_cons (pv 0) (pa_cons (pv 1) pa_nil))))
 (pss_one
 (ps_ost (pv 0) (pv 1)))), ?_⟩
    refine ⟨.ref a, rfl, .str z, rfl, a, C, [.str z], rfl, (by show 1 ≤ 1000; decide), hT, ha, ?_⟩
    exact ⟨.str z, rfl, .ref a, rfl, a, C, rfl, hT, hno, .inl ⟨ha, fun dx n1 n2 => q dx n1 n2⟩⟩
end
theorem ok_int {n m : Nat} {i : Int} (h : PyData.leavesShort 40 (.int i) = true) (g : (PyData.int i).weight ≤ m) (f : (PyData.int i).showable = true) : Ok n m (.int i) := ⟨rfl, Nat.zero_le _, f, h, g⟩
theorem ok_small {z : Str} (h : NameOk z) : Ok 0 8 (.str z) := ok_str (small_ok h.2.2) h.2.1
def PieceD (wd : Str) (d : PyData) : Prop := (parts d).length ≤ 6 ∧ (((∃ z, d = .str z) ∧ wd ≠ "marks") ∨ ∃ a l, d = .tuple (a :: l))
/-! ### good ballots as data -/
def tyT (t : List Str) : PyData := .tuple (t.map PyData.str)
def mkT (m : Str × Int) : PyData := .tuple [.str m.1, .int m.2]
def Bal.word : Bal → Str
  | .order _ => "order"
  | .lets _ => "lets"
  | .marks _ => "marks"
def Bal.things : Bal → List PyData
  | .order ts => ts.map tyT
  | .lets ns => ns.map PyData.str
  | .marks ms => ms.map mkT
def Bal.data (b : Bal) : PyData := .tuple [.str b.word, .tuple b.things]
theorem DAll.of_map {α : Type} {H : Hp} {f : α → PyData} {g : α → V} : ∀ {l : List α}, (∀ a ∈ l, DAt H (f a) (g a)) → DAll H (l.map f) (l.map g)
  | [], _ => rfl
  | a :: l, h => ⟨_, _, rfl, h a List.mem_cons_self, DAll.of_map fun b hb => h b (List.mem_cons_of_mem _ hb)⟩
theorem BalAt.things {H : Hp} {t : Addr} : ∀ {b : Bal}, BalAt H t b → ∃ (u : Addr) (xs : List V), H t = some (.tup [.str b.word, .ref u]) ∧ H u = some (.tup xs) ∧ DAll H b.things xs
  | .order ts, ⟨u, bs, h1, h2, h3, h4⟩ => by
    refine ⟨u, _, h1, h2, ?_⟩
    show DAll H (ts.map tyT) _
    rw [← h4, List.map_map]
    exact DAll.of_map fun b hb => ⟨b.1, _, rfl, (h3 b hb).1, DAll.strs b.2⟩
  | .lets ns, ⟨u, h1, h2⟩ => ⟨u, _, h1, h2, DAll.strs ns⟩
  | .marks ms, ⟨u, bs, h1, h2, h3, h4⟩ => by
    refine ⟨u, _, h1, h2, ?_⟩
    show DAll H (ms.map mkT) _
    rw [← h4, List.map_map]
    exact DAll.of_map fun b hb => ⟨b.1, _, rfl, h3 b hb, da1 rfl (da1 rfl da0)⟩
theorem BalAt.data {H : Hp} {t : Addr} {b : Bal} (h : BalAt H t b) : DAt H b.data (.ref t) := by
  obtain ⟨u, xs, h1, h2, a⟩ := h.things
  exact ⟨t, _, rfl, h1, da1 rfl (da1 ⟨u, xs, rfl, h2, a⟩ da0)⟩
theorem flat_strsD : ∀ ts : List (List Str), (ts.map tyT).flatMap parts = ts.flatten.map PyData.str
  | [] => rfl
  | t :: ts => by
    rw [List.map_cons, List.flatMap_cons, flat_strsD ts, List.flatten_cons, List.map_append]
    rfl
theorem unS_strs : ∀ ws : List Str, (ws.map PyData.str).filterMap unS = ws
  | [] => rfl
  | a :: ws => by
    rw [List.map_cons, List.filterMap_cons]
    show a :: (ws.map PyData.str).filterMap unS = a :: ws
    rw [unS_strs ws]
theorem unlike_strs {zs ws : List Str} (h : ws.Nodup) (g : ∀ z ∈ ws, z ∈ zs) : unlikeD zs (ws.map PyData.str) = true := by
  unfold unlikeD
  rw [unS_strs, decide_eq_true h, Bool.and_true, List.all_eq_true]
  intro d hd
  obtain ⟨z, hz, rfl⟩ := List.mem_map.mp hd
  exact decide_eq_true (g z hz)
theorem firsts_marks : ∀ ms : List (Str × Int), (ms.map mkT).map firstD = (ms.map (·.1)).map PyData.str
  | [] => rfl
  | m :: ms => by
    rw [List.map_cons, List.map_cons, firsts_marks ms]
    rfl
theorem Bal.Ok.good {zs : List Str} : ∀ {b : Bal}, b.Ok zs → ballotD zs b.data = true
  | .order ts, h => by
    obtain ⟨h1, h2, h3⟩ := h
    show tiersD zs (ts.map tyT) = true
    unfold tiersD
    rw [flat_strsD, unlike_strs h1 h2, Bool.and_true, List.all_eq_true]
    intro d hd
    obtain ⟨t, ht, rfl⟩ := List.mem_map.mp hd
    cases t with
    | nil => exact absurd rfl (h3 _ ht)
    | cons a l => exact decide_eq_true (Nat.succ_pos (l.map PyData.str).length)
  | .lets ns, h => unlike_strs h.1 h.2
  | .marks ms, h => by
    obtain ⟨h1, h2, h3⟩ := h
    show marksD zs (ms.map mkT) = true
    unfold marksD
    rw [firsts_marks, unlike_strs h1 (fun z hz => by obtain ⟨m, hm, rfl⟩ := List.mem_map.mp hz; exact h2 m hm), Bool.and_true, List.all_eq_true]
    intro d hd
    obtain ⟨m, hm, rfl⟩ := List.mem_map.mp hd
    show (decide ((0 : Int) ≤ m.2) && decide (m.2 ≤ 9)) = true
    rw [decide_eq_true (h3 m hm).1, decide_eq_true (h3 m hm).2]
    rfl
theorem few {zs ws : List Str} (n : zs.length ≤ 6) (h : ws.Nodup) (g : ∀ z ∈ ws, z ∈ zs) : ws.length ≤ 6 := Nat.le_trans (h.length_le_of_subset g) n
theorem flat_few : ∀ {ts : List (List Str)}, (∀ t ∈ ts, t ≠ []) → ts.length ≤ ts.flatten.length
  | [], _ => Nat.le_refl _
  | t :: ts, h => by
    rw [List.flatten_cons, List.length_append, List.length_cons]
    have := flat_few fun u hu => h u (List.mem_cons_of_mem _ hu)
    have := List.length_pos_iff.mpr (h t List.mem_cons_self)
    omega
theorem part_few {t : List Str} : ∀ {ts : List (List Str)}, t ∈ ts → t.length ≤ ts.flatten.length
  | u :: ts, h => by
    rw [List.flatten_cons, List.length_append]
    rcases List.mem_cons.mp h with rfl | h
    · omega
    · have := part_few h
      omega
theorem Bal.Ok.few {zs : List Str} (n : zs.length ≤ 6) : ∀ {b : Bal}, b.Ok zs → b.things.length ≤ 6 ∧ ∀ d ∈ b.things, PieceD b.word d
  | .order ts, h => by
    obtain ⟨h1, h2, h3⟩ := h
    have f := Own.few n h1 h2
    refine ⟨by show (ts.map tyT).length ≤ 6; rw [List.length_map]; exact Nat.le_trans (flat_few h3) f, fun d hd => ?_⟩
    obtain ⟨t, ht, rfl⟩ := List.mem_map.mp hd
    refine ⟨by show (t.map PyData.str).length ≤ 6; rw [List.length_map]; exact Nat.le_trans (part_few ht) f, .inr ?_⟩
    cases t with
    | nil => exact absurd rfl (h3 _ ht)
    | cons a l => exact ⟨_, _, rfl⟩
  | .lets ns, h => by
    refine ⟨by show (ns.map PyData.str).length ≤ 6; rw [List.length_map]; exact Own.few n h.1 h.2, fun d hd => ?_⟩
    obtain ⟨z, hz, rfl⟩ := List.mem_map.mp hd
    exact ⟨Nat.zero_le _, .inl ⟨⟨z, rfl⟩, by show ("lets" : Str) ≠ "marks"; decide⟩⟩
  | .marks ms, h => by
    obtain ⟨h1, h2, h3⟩ := h
    have f := Own.few n h1 (fun z hz => by obtain ⟨m, hm, rfl⟩ := List.mem_map.mp hz; exact h2 m hm)
    rw [List.length_map] at f
    refine ⟨by show (ms.map mkT).length ≤ 6; rw [List.length_map]; exact f, fun d hd => ?_⟩
    obtain ⟨m, hm, rfl⟩ := List.mem_map.mp hd
    exact ⟨by show 2 ≤ 6; decide, .inr ⟨_, _, rfl⟩⟩
theorem OkA.of {n m : Nat} : ∀ {l : List PyData}, (∀ d ∈ l, Ok n m d) → OkA n (l.length * (m + 1)) l
  | [], _ => OkA.nil
  | d :: l, h => by
    refine ((OkA.cons (h d List.mem_cons_self) (OkA.of fun e he => h e (List.mem_cons_of_mem _ he)))).mono (Nat.le_refl _) ?_
    rw [List.length_cons, Nat.succ_mul]
    omega
theorem ok_mark {n : Nat} {i : Int} (h0 : 0 ≤ i) (h9 : i ≤ 9) : Ok n 8 (.int i) := by
  have : i = 0 ∨ i = 1 ∨ i = 2 ∨ i = 3 ∨ i = 4 ∨ i = 5 ∨ i = 6 ∨ i = 7 ∨ i = 8 ∨ i = 9 := by omega
  rcases this with rfl | rfl | rfl | rfl | rfl | rfl | rfl | rfl | rfl | rfl <;> exact ok_int (by decide +kernel) (by decide +kernel) (by decide +kernel)
theorem ok_names {t : List Str} (h : ∀ z ∈ t, NameOk z) (g : t.length ≤ 6) : Ok 1 54 (tyT t) := by
  have := OkA.of (n := 0) (m := 8) (l := t.map PyData.str) fun d hd => by
    obtain ⟨z, hz, rfl⟩ := List.mem_map.mp hd
    exact ok_small (h z hz)
  rw [List.length_map] at this
  exact (this.mono (Nat.le_refl _) (show t.length * 9 ≤ 54 by omega)).tuple
theorem Bal.Ok.okA {zs : List Str} (n : zs.length ≤ 6) (hz : ∀ z ∈ zs, NameOk z) : ∀ {b : Bal}, b.Ok zs → OkA 4 1000 b.things
  | .order ts, h => by
    have f := Bal.Ok.few n h
    obtain ⟨h1, h2, h3⟩ := h
    have f6 := Own.few n h1 h2
    have := OkA.of (n := 1) (m := 54) (l := ts.map tyT) fun d hd => by
      obtain ⟨t, ht, rfl⟩ := List.mem_map.mp hd
      exact ok_names (fun z h => hz z (h2 z (List.mem_flatten.mpr ⟨t, ht, h⟩))) (Nat.le_trans (part_few ht) f6)
    have l6 : (ts.map tyT).length ≤ 6 := f.1
    exact this.mono (by decide) (by omega)
  | .lets ns, h => by
    have l6 : (ns.map PyData.str).length ≤ 6 := (Bal.Ok.few (b := .lets ns) n h).1
    have := OkA.of (n := 0) (m := 8) (l := ns.map PyData.str) fun d hd => by
      obtain ⟨z, hz', rfl⟩ := List.mem_map.mp hd
      exact ok_small (hz z (h.2 z hz'))
    exact this.mono (by decide) (by omega)
  | .marks ms, h => by
    have l6 : (ms.map mkT).length ≤ 6 := (Bal.Ok.few (b := .marks ms) n h).1
    obtain ⟨h1, h2, h3⟩ := h
    have := OkA.of (n := 1) (m := 20) (l := ms.map mkT) fun d hd => by
      obtain ⟨m, hm, rfl⟩ := List.mem_map.mp hd
      exact ((OkA.cons (n := 0) (ok_small (hz _ (h2 m hm))) (OkA.cons (k := 0) (ok_mark (h3 m hm).1 (h3 m hm).2) OkA.nil)).mono (Nat.le_refl _) (by decide)).tuple
    exact this.mono (by decide) (by omega)
theorem Bal.wordOk : ∀ b : Bal, Own.Ok 0 8 (.str b.word)
  | .order _ => (ok_str (by decide +kernel) (by decide +kernel) : Own.Ok 0 8 (.str "order"))
  | .lets _ => (ok_str (by decide +kernel) (by decide +kernel) : Own.Ok 0 8 (.str "lets"))
  | .marks _ => (ok_str (by decide +kernel) (by decide +kernel) : Own.Ok 0 8 (.str "marks"))
theorem Bal.Ok.fit {zs : List Str} {b : Bal} (n : zs.length ≤ 6) (h : b.Ok zs) : Fit b.data := by
  obtain ⟨f1, f2⟩ := h.few n
  exact (⟨by omega, fun d hd => by have := (f2 d hd).1; omega⟩ : Wide b.things)
theorem BalAt.hid {p u : Addr} {H : Hp} {y : List V} {b : Bal} (hp : H p = some (.lst y)) (h : BalAt H u b) : BalAt (hide p H) u b := h.keep fun _ _ e => hid_tup hp e
/-! ### ranks, in plain words -/
def mkAt : List (Str × Int) → Str → Option Int
  | [], _ => none
  | m :: ms, z => if m.1 = z then some m.2 else mkAt ms z
def mT (ms : List (Str × Int)) : List (Key × V) := ms.map fun m => (.inr m.1, .int m.2)
theorem mT_val (z : Str) : ∀ ms : List (Str × Int), valV (mT ms) (.inr z) = (mkAt ms z).map V.int
  | [] => rfl
  | m :: ms => by
    by_cases e : m.1 = z
    · have h : valV (mT (m :: ms)) (.inr z) = some (V.int m.2) := valV_pos (p := ((.inr m.1 : Key), V.int m.2)) (r := mT ms) (congrArg Sum.inr e)
      rw [h]
      unfold mkAt
      rw [if_pos e] <;> rfl
    · have h : valV (mT (m :: ms)) (.inr z) = valV (mT ms) (.inr z) := valV_neg (p := ((.inr m.1 : Key), V.int m.2)) (r := mT ms) (fun q => e (Sum.inr.inj q))
      rw [h, mT_val z ms]
      show _ = Option.map V.int (if m.1 = z then some m.2 else mkAt ms z)
      rw [if_neg e]
theorem mk_none {z : Str} : ∀ {ms : List (Str × Int)}, z ∉ ms.map (·.1) → mkAt ms z = none
  | [], _ => rfl
  | m :: ms, h => by
    unfold mkAt
    rw [if_neg (fun e => h (by rw [← e]; exact List.mem_cons_self)), mk_none fun q => h (List.mem_cons_of_mem _ q)]
theorem mk_some {ms : List (Str × Int)} (n : (ms.map (·.1)).Nodup) : ∀ {i : Nat} {m : Str × Int}, ms[i]? = some m → mkAt ms m.1 = some m.2 := by
  induction ms with
  | nil => intro i m h; cases h
  | cons a ms ih =>
    intro i m h
    have n2 := List.nodup_cons.mp n
    unfold mkAt
    cases i with
    | zero => cases h; rw [if_pos rfl]
    | succ i =>
      have h : ms[i]? = some m := h
      have hm : m.1 ∈ ms.map (·.1) := List.mem_map.mpr ⟨m, List.mem_of_getElem? h, rfl⟩
      rw [if_neg (fun e => n2.1 (by show a.1 ∈ _; rw [e]; exact hm))]
      exact ih n2.2 h
theorem mT_put {ms : List (Str × Int)} {m : Str × Int} (h : m.1 ∉ ms.map (·.1)) : putK (mT ms) (.inr m.1) (.int m.2) = mT (ms ++ [m]) := by
  rw [putK_new _ (by rw [mT_val, mk_none h]; rfl)]
  unfold mT
  rw [List.map_append]
  rfl
/-- the rank that the program gives, the height that the law gives -/
def Bal.rk : Bal → Str → Int
  | .order ts, z => place ts z
  | .lets ns, z => if z ∈ ns then 0 else 1
  | .marks ms, z => -((mkAt ms z).getD 0)
def Bal.hi : Bal → Str → Int
  | .order ts, z => if z ∈ ts.flatten then 99 - place ts z else 0
  | .lets ns, z => if z ∈ ns then 1 else 0
  | .marks ms, z => (mkAt ms z).getD 0
theorem Bal.turn {b : Bal} {zs : List Str} (n : zs.length ≤ 6) (h : b.Ok zs) (y z : Str) : b.rk y < b.rk z ↔ b.hi z < b.hi y := by
  cases b with
  | order ts =>
    have f := (Bal.Ok.few (b := .order ts) n h).1
    have f : (ts.map tyT).length ≤ 6 := f
    rw [List.length_map] at f
    show ((place ts y : Nat) : Int) < (place ts z : Nat) ↔ (if z ∈ ts.flatten then (99 : Int) - (place ts z : Nat) else 0) < (if y ∈ ts.flatten then (99 : Int) - (place ts y : Nat) else 0)
    have l1 := place_le y ts
    have l2 := place_le z ts
    by_cases hy : y ∈ ts.flatten <;> by_cases hz : z ∈ ts.flatten
    · rw [if_pos hy, if_pos hz]
      omega
    · rw [if_pos hy, if_neg hz, place_out hz]
      have := place_lt hy
      omega
    · rw [if_neg hy, if_pos hz, place_out hy]
      have := place_lt hz
      omega
    · rw [if_neg hy, if_neg hz, place_out hy, place_out hz]
      omega
  | lets ns =>
    show (if y ∈ ns then (0 : Int) else 1) < (if z ∈ ns then 0 else 1) ↔ (if z ∈ ns then (1 : Int) else 0) < (if y ∈ ns then 1 else 0)
    by_cases hy : y ∈ ns <;> by_cases hz : z ∈ ns <;> simp [hy, hz]
  | marks ms =>
    show -((mkAt ms y).getD 0) < -((mkAt ms z).getD 0) ↔ (mkAt ms z).getD 0 < (mkAt ms y).getD 0
    omega
section
variable {P : Program} {w : World} {K : PySem.W.Frag} {mg : Str → Option Value} {base : Heap}
/-! ### ranks by an order -/
theorem mem_part {z : Str} {t : List Str} {ts : List (List Str)} {i : Nat} (h : ts[i]? = some t) (m : z ∈ t) : z ∈ ts.flatten := List.mem_flatten.mpr ⟨t, List.mem_of_getElem? h, m⟩
def sp_order_ranks : Sp := fun vs H Q _ => ∃ (o u : Addr) (zs : List Str) (bs : List (Addr × List Str)), vs = [.ref o, .ref u] ∧ H o = some (.tup (zs.map V.str)) ∧ H u = some (.tup (bs.map fun b => V.ref b.1)) ∧ Tiers H bs ∧ zs.Nodup ∧ zs.length ≤ 100 ∧ bs.length ≤ 100 ∧ (bs.map (·.2)).flatten.Nodup ∧ (∀ z ∈ (bs.map (·.2)).flatten, z ∈ zs) ∧
  ∀ (D : Addr) (H' : Hp), Same H H' → H D = none → H' D = some (.dK (tab zs fun z => place (bs.map (·.2)) z)) → Q (.ref D) H'
theorem ok_order_ranks (T : Txt K mg) : FnOk P w K mg base CX0 1 T.f_order_ranks T.fd_order_ranks ["options", "told"] sp_order_ranks := by
  refine T.F_order_ranks.ok sc_order_ranks (fun vs H Q E h => ?_) (fun cdv A outer s H vs Q E hr h => ?_)
  · obtain ⟨o, u, zs, bs, rfl, _⟩ := h
    rfl
  · obtain ⟨o, u, zs, bs, rfl, ho, hu, ht, nd, lz, lb, fn, fm, q⟩ := h
    refine ⟨_, (pss_cons
 (ps_setDc (i := 2) (own := [("name", 5)]) (g := gName 5) (tt := tYes) rfl sc_order_ranks.nd rfl rfl (swD_true rfl rfl rfl (by decide +kernel)) (pi_tup (pv 0)) (blkOk_by (own := [("name", 5)]) (N := ["options", "told", "found", "at", "tier", "name"]) (sc := (defScope s_order_ranks)) (by decide +kernel)) (fun _ _ _ _ _ => pg_name (i := 5) sc_order_ranks.nd rfl (Or.inl rfl)) (fun _ _ _ _ _ => pts_nil) (fun _ _ _ _ _ => (pv 5)) (fun s0 H0 C0 cl0 fp0 => (by have h := ((pe_callB call_len_seq (by rfl) T.z_len (by decide +kernel) (pa_cons (pv 1) pa_nil)) : PE ((cxOf CX0 P w K mg base ["options", "told", "found", "at", "tier", "name"] "order_ranks" (defScope s_order_ranks) T.f_order_ranks cdv A outer s H E).nox.blk s0 H0 (lcScope (rootE ((defBody s_order_ranks).getD 0 (.Pass ⟨0, 0, 0, 0⟩)))) (compEnvC (lcScope (rootE ((defBody s_order_ranks).getD 0 (.Pass ⟨0, 0, 0, 0⟩)))) cl0 C0 (cxOf CX0 P w K mg base ["options", "told", "found", "at", "tier", "name"] "order_ranks" (defScope s_order_ranks) T.f_order_ranks cdv A outer s H E).nox.env) fp0) (subE (rootE ((defBody s_order_ranks).getD 0 (.Pass ⟨0, 0, 0, 0⟩))) 1) _); dsimp only [Cx.blk, Cx.tr, Cx.suite, Cx.nox, Cx.wish, cxOf] at h; exact h)))
 (pss_cons
 (ps_for PassesOwn.never rfl (pi_enumT (by rfl) T.z_enumerate (pv 1)) (pg_tup rfl (pgs_cons (pg_name (i := 3) sc_order_ranks.nd rfl (Or.inl rfl)) (pgs_cons (pg_name (i := 4) sc_order_ranks.nd rfl (Or.inl rfl)) pgs_nil)))
 (pss_one
 (ps_for PassesOwn.never rfl (pi_tup (pv 4)) (pg_name (i := 5) sc_order_ranks.nd rfl (Or.inl rfl))
 (pss_one
 (ps_dput (hu_of hr) (pv 2) (pv 5) (pv 3) (by rfl))))))
 (pss_one
 (ps_ret (pv 2))))), ?_⟩
    generalize hts : bs.map (·.2) = ts at fn fm q
    have lt : ts.length = bs.length := by rw [← hts, List.length_map]
    refine ⟨.ref o, rfl, o, rfl, ⟨_, .of ho⟩, fun D nD => ?_⟩
    refine dc_tup (K := K) (a := o) (xs := zs.map V.str) (fun i H' => Same H H' ∧ H' D = some (.dK (tab (zs.take i) fun _ => (ts.length : Int)))) ⟨same_upd nD, upd_same⟩ (fun _ _ _ h => .of (h.1 _ _ ho)) ?_ ?_
    · rintro i x H1 hi ⟨s1, e1⟩
      obtain ⟨z, hz, rfl⟩ := item_map hi
      have zn : z ∉ zs.take i := fun m => nodup_out nd hz m
      refine ⟨rfl, .str z, rfl, .ref u, rfl, u, _, rfl, .inr (.of (s1 _ _ hu)), _, .inr z, rfl, e1, ?_, same_mut s1 nD, ?_⟩
      · rw [tab_len, List.length_take]
        exact small1000 (by omega)
      · rw [upd_same, tab_new (f := fun _ => (ts.length : Int)) zn (by rw [List.length_map, lt]), ← take_more hz]
    · rintro H1 ⟨s1, e1⟩
      rw [List.length_map, List.take_length] at e1
      have hu1 := s1 _ _ hu
      let fin : List Str → Str → Int := fun seen z => if z ∈ seen then (place ts z : Nat) else (ts.length : Nat)
      refine ⟨.ref u, rfl, u, _, rfl, .of hu1, for_it walk_enumT (fun i σ H' => ∃ x3 x4 x5 : Option V, σ = [some (.ref o), some (.ref u), some (.ref D), x3, x4, x5] ∧ Same H H' ∧ H' D = some (.dK (tab zs (fin (ts.take i).flatten))))
        ⟨none, none, none, rfl, s1, ?_⟩ (fun _ _ _ _ ⟨_, _, _, _, h, _⟩ => .of (h _ _ hu)) ?_ ?_⟩
      · rw [e1]
        exact congrArg (fun l => some (HO.dK l)) (tab_congr fun z _ => (if_neg (by simp)).symm)
      · rintro i x σ H2 H3 hi ⟨x3, x4, x5, rfl, s2, e2⟩ ⟨Tt, a, b, rfl, nT, rfl, ea, eb⟩
        cases ea
        obtain ⟨bb, hb, rfl⟩ := item_map eb
        have s3 : Same H2 _ := same_upd (o := HO.tup [V.int (i : Int), V.ref bb.1]) nT
        have e3 := s3 _ _ e2
        have s3' := s2.trans s3
        have hbt := ht bb (List.mem_of_getElem? hb)
        have tsi : ts[i]? = some bb.2 := by rw [← hts, List.getElem?_map, hb]; rfl
        refine ⟨Tt, _, rfl, .of upd_same, rfl, _, _, rfl, _, _, rfl, rfl, ?_⟩
        refine ⟨.ref bb.1, rfl, bb.1, rfl, ⟨_, .of (s3' _ _ hbt.1)⟩, for_tup (K := K) (a := bb.1) (xs := bb.2.map V.str) (fun j σ H' => ∃ x5 : Option V, σ = [some (.ref o), some (.ref u), some (.ref D), some (.int i), some (.ref bb.1), x5] ∧ Same H H' ∧ H' D = some (.dK (tab zs (fin ((ts.take i).flatten ++ bb.2.take j)))))
          ⟨x5, rfl, s3', ?_⟩ (fun _ _ _ _ ⟨_, _, h, _⟩ => .of (h _ _ hbt.1)) ?_ ?_⟩
        · rw [List.take_zero, List.append_nil]
          exact e3
        · rintro j x σ H4 hj ⟨x5, rfl, s4, e4⟩
          obtain ⟨z, hz, rfl⟩ := item_map hj
          have mz : z ∈ bb.2 := List.mem_of_getElem? hz
          have zz := fm z (mem_part tsi mz)
          refine ⟨.int i, rfl, .ref D, rfl, .str z, rfl, D, _, rfl, DPut.k (k := .inr z) e4 ?_, some (.str z), rfl, same_mut s4 nD, ?_⟩
          · rw [tab_len]
            exact small1000 (by omega)
          · rw [upd_same, tab_put zz]
            refine congrArg (fun l => some (HO.dK l)) (tab_congr fun y _ => ?_)
            show (if y = z then (i : Int) else if y ∈ (ts.take i).flatten ++ bb.2.take j then ((place ts y : Nat) : Int) else (ts.length : Nat)) = if y ∈ (ts.take i).flatten ++ bb.2.take (j + 1) then ((place ts y : Nat) : Int) else (ts.length : Nat)
            rw [take_more hz, ← List.append_assoc]
            by_cases e : y = z
            · rw [if_pos e, if_pos (by rw [e]; exact List.mem_append_right _ (List.mem_singleton.mpr rfl)), e, place_at fn tsi mz]
            · rw [if_neg e]
              have : (y ∈ (ts.take i).flatten ++ bb.2.take j ++ [z]) ↔ y ∈ (ts.take i).flatten ++ bb.2.take j := by
                rw [List.mem_append, List.mem_singleton]
                exact ⟨fun h => h.resolve_right e, .inl⟩
              by_cases m : y ∈ (ts.take i).flatten ++ bb.2.take j
              · rw [if_pos m, if_pos (this.mpr m)]
              · rw [if_neg m, if_neg fun h => m (this.mp h)]
        · rintro σ H4 ⟨x5, rfl, s4, e4⟩
          rw [List.length_map, List.take_length] at e4
          refine ⟨_, _, _, rfl, s4, ?_⟩
          rw [take_more tsi, List.flatten_append]
          simpa using e4
      · rintro σ H2 ⟨x3, x4, x5, rfl, s2, e2⟩
        refine ⟨.ref D, rfl, q D H2 s2 nD ?_⟩
        rw [List.length_map, ← lt, List.take_length] at e2
        rw [e2]
        refine congrArg (fun l => some (HO.dK l)) (tab_congr fun z _ => ?_)
        show (if z ∈ ts.flatten then ((place ts z : Nat) : Int) else (ts.length : Nat)) = (place ts z : Nat)
        by_cases m : z ∈ ts.flatten
        · rw [if_pos m]
        · rw [if_neg m, place_out m]
/-! ### ranks -/
def sp_ranks : Sp := fun vs H Q _ => ∃ (o t : Addr) (zs : List Str) (b : Bal), vs = [.ref o, .ref t] ∧ H o = some (.tup (zs.map V.str)) ∧ BalAt H t b ∧ b.Ok zs ∧ zs.Nodup ∧ zs.length ≤ 6 ∧
  ∀ (D : Addr) (H' : Hp), Same H H' → H D = none → H' D = some (.dK (tab zs b.rk)) → Q (.ref D) H'
theorem ok_ranks (T : Txt K mg) : FnOk P w K mg base CX0 2 T.f_ranks T.fd_ranks ["options", "ballot"] sp_ranks := by
  refine T.F_ranks.ok sc_ranks (fun vs H Q E h => ?_) (fun cdv A outer s H vs Q E hr h => ?_)
  · obtain ⟨o, t, zs, b, rfl, _⟩ := h
    rfl
  · obtain ⟨o, t, zs, b, rfl, ho, hb, bok, nd, lz, q⟩ := h
    refine ⟨_, (pss_cons
 (ps_asg (pv 1) (pg_tup rfl (pgs_cons (pg_name (i := 2) sc_ranks.nd rfl (Or.inl rfl)) (pgs_cons (pg_name (i := 3) sc_ranks.nd rfl (Or.inr rfl)) pgs_nil))))
 (pss_cons
 (ps_if (pt_cmpR op_eq (pv 2) pe_str (nomark _))
 (pss_one
 (ps_ret (pe_call (ok_order_ranks T) (hr.mono (by decide)) (by rfl) T.g_order_ranks T.F_order_ranks.kp T.b_order_ranks .nil pass0 (pa_cons (pv 0) (pa_cons (pv 3) pa_nil)))))
 pss_nil)
 (pss_cons
 (ps_if (pt_cmpR op_eq (pv 2) pe_str (nomark _))
 (pss_one
 (ps_ret (pe_dc (own := [("name", 5)]) (g := gName 5) (tt := tYes) rfl sc_ranks.nd (pi_tup (pv 0)) (blkOk_by (own := [("name", 5)]) (N := ["options", "ballot", "form", "told", "marks", "name", "mark"]) (sc := (defScope s_ranks)) (by decide +kernel)) (fun _ _ _ _ _ => pg_name (i := 5) sc_ranks.nd rfl (Or.inl rfl)) (fun _ _ _ _ _ => pts_nil) (fun _ _ _ _ _ => (pv 5)) (fun s0 H0 C0 cl0 fp0 => (by have h := ((pe_ifExp (pt_cmpR op_in_seq (pv 5) (pv 3) rfl) pe_int pe_int) : PE ((cxOf CX0 P w K mg base ["options", "ballot", "form", "told", "marks", "name", "mark"] "ranks" (defScope s_ranks) T.f_ranks cdv A outer s H E).nox.blk s0 H0 (lcScope (rootE ((blkOf ((defBody s_ranks).getD 2 (.Pass ⟨0, 0, 0, 0⟩)) 0).getD 0 (.Pass ⟨0, 0, 0, 0⟩)))) (compEnvC (lcScope (rootE ((blkOf ((defBody s_ranks).getD 2 (.Pass ⟨0, 0, 0, 0⟩)) 0).getD 0 (.Pass ⟨0, 0, 0, 0⟩)))) cl0 C0 (cxOf CX0 P w K mg base ["options", "ballot", "form", "told", "marks", "name", "mark"] "ranks" (defScope s_ranks) T.f_ranks cdv A outer s H E).nox.env) fp0) (subE (rootE ((blkOf ((defBody s_ranks).getD 2 (.Pass ⟨0, 0, 0, 0⟩)) 0).getD 0 (.Pass ⟨0, 0, 0, 0⟩))) 1) _); dsimp only [Cx.blk, Cx.tr, Cx.suite, Cx.nox, Cx.wish, cxOf] at h; exact h)))))
 pss_nil)
 (pss_cons
 (ps_set (i := 4) sc_ranks.nd rfl (Or.inr rfl) (pe_dc (own := [("name", 5), ("mark", 6)]) (tt := tYes) rfl sc_ranks.nd (pi_tup (pv 3)) (blkOk_by (own := [("name", 5), ("mark", 6)]) (N := ["options", "ballot", "form", "told", "marks", "name", "mark"]) (sc := (defScope s_ranks)) (by decide +kernel)) (fun s0 H0 C0 cl0 fp0 => (by have h := (pg_tup (n := 2) rfl (pgs_cons (pg_name (i := 5) sc_ranks.nd rfl (Or.inl rfl)) (pgs_cons (pg_name (i := 6) sc_ranks.nd rfl (Or.inl rfl)) pgs_nil)) : PG ((cxOf CX0 P w K mg base ["options", "ballot", "form", "told", "marks", "name", "mark"] "ranks" (defScope s_ranks) T.f_ranks cdv A outer s H E).nox.blk s0 H0 (lcScope (rootE ((defBody s_ranks).getD 3 (.Pass ⟨0, 0, 0, 0⟩)))) (compEnvC (lcScope (rootE ((defBody s_ranks).getD 3 (.Pass ⟨0, 0, 0, 0⟩)))) cl0 C0 (cxOf CX0 P w K mg base ["options", "ballot", "form", "told", "marks", "name", "mark"] "ranks" (defScope s_ranks) T.f_ranks cdv A outer s H E).nox.env) fp0) (subE (rootE ((defBody s_ranks).getD 3 (.Pass ⟨0, 0, 0, 0⟩))) 3) _); dsimp only [Cx.blk, Cx.tr, Cx.suite, Cx.nox, Cx.wish, cxOf] at h; exact h)) (fun _ _ _ _ _ => pts_nil) (fun _ _ _ _ _ => (pv 5)) (fun _ _ _ _ _ => (pv 6))))
 (pss_one
 (ps_ret (pe_dc (own := [("name", 5)]) (g := gName 5) (tt := tYes) rfl sc_ranks.nd (pi_tup (pv 0)) (blkOk_by (own := [("name", 5)]) (N := ["options", "ballot", "form", "told", "marks", "name", "mark"]) (sc := (defScope s_ranks)) (by decide +kernel)) (fun _ _ _ _ _ => pg_name (i := 5) sc_ranks.nd rfl (Or.inl rfl)) (fun _ _ _ _ _ => pts_nil) (fun _ _ _ _ _ => (pv 5)) (fun s0 H0 C0 cl0 fp0 => (by have h := ((pe_un un_neg (pe_dget2 (hu_of hr) (pv 4) (pv 5) pe_int ⟨by rfl, by rfl, by rfl, by rfl⟩)) : PE ((cxOf CX0 P w K mg base ["options", "ballot", "form", "told", "marks", "name", "mark"] "ranks" (defScope s_ranks) T.f_ranks cdv A outer s H E).nox.blk s0 H0 (lcScope (rootE ((defBody s_ranks).getD 4 (.Pass ⟨0, 0, 0, 0⟩)))) (compEnvC (lcScope (rootE ((defBody s_ranks).getD 4 (.Pass ⟨0, 0, 0, 0⟩)))) cl0 C0 (cxOf CX0 P w K mg base ["options", "ballot", "form", "told", "marks", "name", "mark"] "ranks" (defScope s_ranks) T.f_ranks cdv A outer s H E).nox.env) fp0) (subE (rootE ((defBody s_ranks).getD 4 (.Pass ⟨0, 0, 0, 0⟩))) 1) _); dsimp only [Cx.blk, Cx.tr, Cx.suite, Cx.nox, Cx.wish, cxOf] at h; exact h))))))))), ?_⟩
    have few := (bok.few lz).1
    cases b with
    | order ts =>
      obtain ⟨u, bs, h1, h2, h3, h4⟩ := hb
      obtain ⟨b1, b2, b3⟩ := bok
      have lb : bs.length ≤ 6 := by
        have e : bs.length = ts.length := by rw [← h4, List.length_map]
        have : (ts.map tyT).length ≤ 6 := few
        rw [List.length_map] at this
        omega
      rw [← h4] at b1 b2
      refine ⟨.ref t, rfl, t, _, rfl, .of h1, rfl, _, _, rfl, _, _, rfl, rfl, ?_⟩
      refine ⟨.str "order", rfl, rfl, _, rfl, iteT ?_⟩
      exact ⟨.ref o, rfl, .ref u, rfl, o, u, zs, bs, rfl, ho, h2, h3, nd, by omega, by omega, b1, b2, fun D H' s n e => q D H' s n (by rw [e, h4]; rfl)⟩
    | lets ns =>
      obtain ⟨u, h1, h2⟩ := hb
      refine ⟨.ref t, rfl, t, _, rfl, .of h1, rfl, _, _, rfl, _, _, rfl, rfl, ?_⟩
      refine ⟨.str "lets", rfl, rfl, _, rfl, iteF ?_⟩
      refine ⟨.str "lets", rfl, rfl, _, rfl, iteT ?_⟩
      refine ⟨.ref o, rfl, o, rfl, ⟨_, .of ho⟩, fun D nD => ?_⟩
      refine dc_tup (K := K) (a := o) (xs := zs.map V.str) (fun i H' => Same H H' ∧ H' D = some (.dK (tab (zs.take i) (Bal.lets ns).rk))) ⟨same_upd nD, upd_same⟩ (fun _ _ _ h => .of (h.1 _ _ ho)) ?_ ?_
      · rintro i x H1 hi ⟨s1, e1⟩
        obtain ⟨z, hz, rfl⟩ := item_map hi
        have zn : z ∉ zs.take i := fun m => nodup_out nd hz m
        have small : (tab (zs.take i) (Bal.lets ns).rk).length < sizeLine := by
          rw [tab_len, List.length_take]
          exact small1000 (by omega)
        refine ⟨rfl, .str z, rfl, .str z, rfl, .ref u, rfl, u, _, rfl, .inr (.of (s1 _ _ h2)), rfl, flat_strs ns, ?_⟩
        refine ⟨_, rfl, ?_⟩
        rw [inV_str]
        by_cases m : z ∈ ns
        · rw [decide_eq_true m]
          refine iteT ⟨_, .inr z, rfl, e1, small, same_mut s1 nD, ?_⟩
          rw [upd_same, tab_new (f := (Bal.lets ns).rk) zn (show (0 : Int) = if z ∈ ns then 0 else 1 by rw [if_pos m]), ← take_more hz]
        · rw [decide_eq_false m]
          refine iteF ⟨_, .inr z, rfl, e1, small, same_mut s1 nD, ?_⟩
          rw [upd_same, tab_new (f := (Bal.lets ns).rk) zn (show (1 : Int) = if z ∈ ns then 0 else 1 by rw [if_neg m]), ← take_more hz]
      · rintro H1 ⟨s1, e1⟩
        rw [List.length_map, List.take_length] at e1
        exact q D H1 s1 nD e1
    | marks ms =>
      obtain ⟨u, bs, h1, h2, h3, h4⟩ := hb
      obtain ⟨b1, b2, b3⟩ := bok
      have lb : bs.length ≤ 6 := by
        have e : bs.length = ms.length := by rw [← h4, List.length_map]
        have : (ms.map mkT).length ≤ 6 := few
        rw [List.length_map] at this
        omega
      refine ⟨.ref t, rfl, t, _, rfl, .of h1, rfl, _, _, rfl, _, _, rfl, rfl, ?_⟩
      refine ⟨.str "marks", rfl, rfl, _, rfl, iteF ?_⟩
      refine ⟨.str "marks", rfl, rfl, _, rfl, iteF ?_⟩
      refine ⟨.ref u, rfl, u, rfl, ⟨_, .of h2⟩, fun M nM => ?_⟩
      refine dc_tup (K := K) (a := u) (xs := bs.map fun b => V.ref b.1) (fun i H' => Same H H' ∧ H' M = some (.dK (mT (ms.take i)))) ⟨same_upd nM, upd_same⟩ (fun _ _ _ h => .of (h.1 _ _ h2)) ?_ ?_
      · rintro i x H1 hi ⟨s1, e1⟩
        obtain ⟨bb, hbb, rfl⟩ := item_map hi
        have hm : ms[i]? = some bb.2 := by rw [← h4, List.getElem?_map, hbb]; rfl
        have out : bb.2.1 ∉ (ms.take i).map (·.1) := by
          rw [List.map_take]
          exact nodup_out b1 (by rw [List.getElem?_map, hm]; rfl)
        refine ⟨bb.1, _, rfl, .of (s1 _ _ (h3 bb (List.mem_of_getElem? hbb))), rfl, _, _, rfl, _, _, rfl, rfl, rfl, .str bb.2.1, rfl, .int bb.2.2, rfl, _, .inr bb.2.1, rfl, e1, ?_, same_mut s1 nM, ?_⟩
        · unfold mT
          rw [List.length_map, List.length_take]
          exact small1000 (by have : ms.length = bs.length := by rw [← h4, List.length_map]
                              omega)
        · rw [upd_same, mT_put out, ← take_more hm]
      · rintro H1 ⟨s1, e1⟩
        have lm : ms.length = bs.length := by rw [← h4, List.length_map]
        rw [List.length_map, ← lm, List.take_length] at e1
        have ho1 := s1 _ _ ho
        refine ⟨.ref o, rfl, o, rfl, ⟨_, .of ho1⟩, fun D nD => ?_⟩
        have nD0 := s1.free nD
        refine dc_tup (K := K) (a := o) (xs := zs.map V.str) (fun i H' => Same H1 H' ∧ H' D = some (.dK (tab (zs.take i) (Bal.marks ms).rk))) ⟨same_upd nD, upd_same⟩ (fun _ _ _ h => .of (h.1 _ _ ho1)) ?_ ?_
        · rintro i x H2 hi ⟨s2, e2⟩
          obtain ⟨z, hz, rfl⟩ := item_map hi
          have zn : z ∉ zs.take i := fun m => nodup_out nd hz m
          have e1' := s2 _ _ e1
          refine ⟨rfl, .str z, rfl, .ref M, rfl, M, rfl, .inl ⟨_, .inl e1'⟩, .str z, rfl, _, DGet.k (k := .inr z) e1', ?_⟩
          rw [mT_val]
          refine ⟨(mkAt ms z).getD 0, ?_, _, .inr z, rfl, e2, ?_, same_mut s2 nD, ?_⟩
          · cases mkAt ms z <;> rfl
          · rw [tab_len, List.length_take]
            exact small1000 (by omega)
          · rw [upd_same]
            show some (HO.dK (putK (tab (zs.take i) (Bal.marks ms).rk) (.inr z) (V.int (-((mkAt ms z).getD 0))))) = _
            rw [tab_new (f := (Bal.marks ms).rk) (n := -((mkAt ms z).getD 0)) zn rfl, ← take_more hz]
        · rintro H2 ⟨s2, e2⟩
          rw [List.length_map, List.take_length] at e2
          exact q D H2 (s1.trans s2) nD0 e2
end
/-! ### polls, good ones -/
/-- the poll of options at o and rows at u stands at p -/
def pollF (o u : Addr) : List (Str × V) := putF "voices" (.ref u) (putF "options" (.ref o) [])
theorem pollF_options (o u : Addr) : (pollF o u).lookup ("options" : Str) = some (.ref o) := by
  unfold pollF
  rw [lookup_putF, if_neg (by decide +kernel), lookup_putF, if_pos rfl]
theorem pollF_voices (o u : Addr) : (pollF o u).lookup ("voices" : Str) = some (.ref u) := by
  unfold pollF
  rw [lookup_putF, if_pos rfl]
def PollAt (C : Addr) (H : Hp) (p o u : Addr) : Prop := ∃ dx, H p = some (.ins C dx (pollF o u))
theorem PollAt.same {C : Addr} {H H' : Hp} {p o u : Addr} (s : Same H H') (h : PollAt C H p o u) : PollAt C H' p o u := by
  obtain ⟨dx, h⟩ := h
  exact ⟨dx, s _ _ h⟩
theorem BalAt.same {H H' : Hp} {t : Addr} {b : Bal} (s : Same H H') (h : BalAt H t b) : BalAt H' t b := h.keep fun _ _ e => s _ _ e
theorem RowsAt.same {H H' : Hp} {u : Addr} {rows : List (Bal × Int)} (s : Same H H') (h : RowsAt H u rows) : RowsAt H' u rows := h.keep fun _ _ e => s _ _ e
theorem sign_a {c : Nat} (h : 97 ≤ c) : (!decide ((⟨#[c]⟩ : Str).cps.toList < ("a" : Str).cps.toList)) = true := by
  have e : ("a" : Str).cps.toList = [97] := by decide +kernel
  rw [e]
  show (!decide ([c] < [97])) = true
  rw [decide_eq_false fun z => ?_] <;> try rfl
  rcases List.cons_lt_cons_iff.mp z with z | z
  · omega
  · exact absurd z.2 (List.lt_irrefl _)
theorem sign_z {c : Nat} (h : c ≤ 122) : (!decide (("z" : Str).cps.toList < (⟨#[c]⟩ : Str).cps.toList)) = true := by
  have e : ("z" : Str).cps.toList = [122] := by decide +kernel
  rw [e]
  show (!decide ([122] < [c])) = true
  rw [decide_eq_false fun z => ?_] <;> try rfl
  rcases List.cons_lt_cons_iff.mp z with z | z
  · omega
  · exact absurd z.2 (List.lt_irrefl _)
/-- options as they must be -/
structure OptsOk (zs : List Str) : Prop where
  some : zs ≠ []
  few : zs.length ≤ 6
  nodup : zs.Nodup
  names : ∀ z ∈ zs, NameOk z
section
variable {P : Program} {w : World} {K : PySem.W.Frag} {mg : Str → Option Value} {base : Heap}
def sp_is_name : Sp := fun vs H Q _ => ∃ z : Str, vs = [.str z] ∧ NameOk z ∧ ∀ H', Same H H' → Q (.bl true) H'
theorem ok_is_name (T : Txt K mg) : FnOk P w K mg base CX0 1 T.f_is_name T.fd_is_name ["thing"] sp_is_name := by
  refine T.F_is_name.ok sc_is_name (fun vs H Q E h => ?_) (fun cdv A outer s H vs Q E hr h => ?_)
  · obtain ⟨z, rfl, _⟩ := h
    rfl
  · obtain ⟨z, rfl, hz, q⟩ := h
    refine ⟨_, (pss_cons
 (ps_if (pt_not (pt_val (pe_callB call_isi (by rfl) T.z_isinstance (by decide +kernel) (pa_cons (pv 0) (pa_cons (pe_bltn (v := .ty "str") (u := .type "str") rfl T.z_str (by decide +kernel) rfl) pa_nil)))))
 (pss_one
 (ps_ret pe_bl))
 pss_nil)
 (pss_cons
 (ps_if (pt_not (pt_chain op_le op_le pe_int (pe_callB call_len_str (by rfl) T.z_len (by decide +kernel) (pa_cons (pv 0) pa_nil)) (pe_glob (v := .int 8) rfl T.c_LONGEST_NAME ⟨_, rfl⟩)))
 (pss_one
 (ps_ret pe_bl))
 pss_nil)
 (pss_one
 (ps_ret (pe_callB (cr_all rfl) (by rfl) T.z_all (by decide +kernel) (pa_cons (pe_lc (own := [("sign", 1)]) (g := gName 1) (tt := tYes) rfl sc_is_name.nd (pi_str (pv 0)) (blkOk_by (own := [("sign", 1)]) (N := ["thing", "sign"]) (sc := (defScope s_is_name)) (by decide +kernel)) (fun _ _ _ _ _ => pg_name (i := 1) sc_is_name.nd rfl (Or.inl rfl)) (fun _ _ _ _ _ => pts_nil) (fun _ _ _ _ _ => (pe_chain op_le_str op_le_str pe_str (pv 1) pe_str))) pa_nil)))))), ?_⟩
    obtain ⟨h1, h8, hs⟩ := hz
    obtain ⟨t, ht, _, k2, _⟩ := (show DAt H (.str z) (.str z) from rfl).ty (K := K)
    refine ⟨.str z, rfl, .str z, _, t, _, true, rfl, .ty _, ht, k2, true, rfl, iteF ?_⟩
    refine ⟨.str z, rfl, z, rfl, line_of (by omega), 1, _, rfl, rfl, _, rfl, ite2 (fun _ => ?_) (fun e => absurd (decide_eq_true (show (1 : Int) ≤ (z.length : Int) by omega)) e)⟩
    refine ⟨_, 8, rfl, rfl, _, rfl, ?_⟩
    show if (!decide ((z.length : Int) ≤ 8)) = true then _ else _
    rw [decide_eq_true (show (z.length : Int) ≤ 8 by omega)]
    refine iteF ?_
    refine ⟨.str z, rfl, z, rfl, fun D nD => ?_⟩
    refine lc_it walk_str (fun i H' => Same H H' ∧ H' D = some (.lst ((List.replicate i true).map V.bl))) ⟨same_upd nD, upd_same⟩ (fun _ _ _ _ => trivial) ?_ ?_
    · rintro i x H1 H2 hi ⟨s1, e1⟩ ⟨rfl, c, hc, rfl⟩
      have hc2 : z.cps.toList[i]? = some c := by rw [Array.getElem?_toList]; exact hc
      obtain ⟨c1, c2⟩ := hs c (List.mem_of_getElem? hc2)
      have il := (List.getElem?_eq_some_iff.mp hc2).1
      have l8 : z.cps.toList.length = z.length := by simp [Str.length]
      refine ⟨rfl, .str ⟨#[c]⟩, rfl, _, _, rfl, rfl, _, rfl, ite2 (fun _ => ?_) (fun e => absurd (sign_a c1) e)⟩
      refine ⟨_, _, rfl, rfl, _, e1, small1000 (by rw [List.length_map, List.length_replicate]; omega), same_mut s1 nD, ?_⟩
      rw [upd_same, sign_z c2, List.replicate_succ', List.map_append]
      rfl
    · rintro H1 ⟨s1, e1⟩
      refine ⟨D, _, rfl, .of e1, ?_⟩
      have ea : ∀ n, (List.replicate n true).all id = true := fun n => by induction n with
        | zero => rfl
        | succ n ih => rw [List.replicate_succ, List.all_cons, ih] <;> rfl
      rw [ea]
      exact q _ s1
def sp_are_names : Sp := fun vs H Q _ => ∃ (o : Addr) (zs : List Str), vs = [.ref o] ∧ H o = some (.tup (zs.map V.str)) ∧ OptsOk zs ∧ ∀ H', Same H H' → Q (.bl true) H'
theorem ok_are_names (T : Txt K mg) : FnOk P w K mg base CX0 2 T.f_are_names T.fd_are_names ["thing"] sp_are_names := by
  refine T.F_are_names.ok sc_are_names (fun vs H Q E h => ?_) (fun cdv A outer s H vs Q E hr h => ?_)
  · obtain ⟨o, zs, rfl, _⟩ := h
    rfl
  · obtain ⟨o, zs, rfl, ho, ok, q⟩ := h
    refine ⟨_, (pss_cons
 (ps_if (PW.pt (pw_or (pt_not (pt_val (pe_callB call_isi (by rfl) T.z_isinstance (by decide +kernel) (pa_cons (pv 0) (pa_cons (pe_bltn (v := .ty "tuple") (u := .type "tuple") rfl T.z_tuple (by decide +kernel) rfl) pa_nil))))) (pw_or1 (pt_cmpR op_eq (pe_callB call_len_seq (by rfl) T.z_len (by decide +kernel) (pa_cons (pv 0) pa_nil)) pe_int (nomark _)))))
 (pss_one
 (ps_ret pe_bl))
 pss_nil)
 (pss_one
 (ps_ret (pe_and (pe_callB (cr_all rfl) (by rfl) T.z_all (by decide +kernel) (pa_cons (pe_lc (own := [("name", 1)]) (g := gName 1) (tt := tYes) rfl sc_are_names.nd (pi_tup (pv 0)) (blkOk_by (own := [("name", 1)]) (N := ["thing", "name"]) (sc := (defScope s_are_names)) (by decide +kernel)) (fun _ _ _ _ _ => pg_name (i := 1) sc_are_names.nd rfl (Or.inl rfl)) (fun _ _ _ _ _ => pts_nil) (fun _ _ _ _ _ => (pe_call (ok_is_name T) (hr.mono (by decide)) (by rfl) T.g_is_name T.F_is_name.kp T.b_is_name .nil pass0 (pa_cons (pv 1) pa_nil)))) pa_nil)) (pe_one (pe_cmpR op_eq (pe_unlike rfl (by rfl) T.z_len (by rfl) T.z_set (pv 0)) (pe_callB call_len_seq (by rfl) T.z_len (by decide +kernel) (pa_cons (pv 0) pa_nil)) (nomark _))))))), ?_⟩
    obtain ⟨ty, hty, k1, _⟩ := (show DAt H (.tuple (zs.map PyData.str)) (.ref o) from ⟨o, _, rfl, ho, DAll.strs zs⟩).ty (K := K)
    have pos : 0 < zs.length := List.length_pos_iff.mpr ok.some
    refine ⟨.ref o, rfl, .ref o, _, ty, _, true, rfl, .ty _, hty, k1, true, rfl, iteF ?_⟩
    refine ⟨.ref o, rfl, o, _, rfl, .inr (.of ho), rfl, _, rfl, ite2 (fun e => ?_) (fun _ => ?_)⟩
    · have e := V.int.inj (of_decide_eq_true e)
      rw [List.length_map] at e
      omega
    · refine ⟨.ref o, rfl, o, rfl, ⟨_, .of ho⟩, fun D nD => ?_⟩
      refine lc_tup (K := K) (a := o) (xs := zs.map V.str) (fun i H' => Same H H' ∧ H' D = some (.lst ((List.replicate i true).map V.bl))) ⟨same_upd nD, upd_same⟩ (fun _ _ _ h => .of (h.1 _ _ ho)) ?_ ?_
      · rintro i x H1 hi ⟨s1, e1⟩
        obtain ⟨z, hz, rfl⟩ := item_map hi
        have il := (List.getElem?_eq_some_iff.mp hz).1
        have few := ok.few
        refine ⟨rfl, .str z, rfl, z, rfl, ok.names z (List.mem_of_getElem? hz), fun H2 s2 => ⟨_, s2 _ _ e1, small1000 (by rw [List.length_map, List.length_replicate]; omega), same_mut (s1.trans s2) nD, ?_⟩⟩
        rw [upd_same, List.replicate_succ', List.map_append]
        rfl
      · rintro H1 ⟨s1, e1⟩
        refine ⟨D, _, rfl, .of e1, ?_⟩
        have ea : ∀ n, (List.replicate n true).all id = true := fun n => by induction n with
          | zero => rfl
          | succ n ih => rw [List.replicate_succ, List.all_cons, ih] <;> rfl
        rw [ea]
        have few := ok.few
        refine ⟨_, rfl, iteT ⟨.ref o, rfl, o, zs, rfl, .inr (.of (s1 _ _ ho)), by omega, .ref o, rfl, o, _, rfl, .inr (.of (s1 _ _ ho)), rfl, ?_⟩⟩
        rw [met_all ok.nodup, List.length_map, decide_eq_true rfl]
        exact q _ s1
def sp_are_options : Sp := fun vs H Q _ => ∃ (o : Addr) (zs : List Str), vs = [.ref o] ∧ H o = some (.tup (zs.map V.str)) ∧ OptsOk zs ∧ ∀ H', Same H H' → Q (.bl true) H'
theorem ok_are_options (T : Txt K mg) : FnOk P w K mg base CX0 3 T.f_are_options T.fd_are_options ["thing"] sp_are_options := by
  refine T.F_are_options.ok sc_are_options (fun vs H Q E h => ?_) (fun cdv A outer s H vs Q E hr h => ?_)
  · obtain ⟨o, zs, rfl, _⟩ := h
    rfl
  · obtain ⟨o, zs, rfl, ho, ok, q⟩ := h
    refine ⟨_, (pss_one
 (ps_ret (pe_and (pe_call (ok_are_names T) (hr.mono (by decide)) (by rfl) T.g_are_names T.F_are_names.kp T.b_are_names .nil pass0 (pa_cons (pv 0) pa_nil)) (pe_one (pe_cmpR op_le (pe_callB call_len_seq (by rfl) T.z_len (by decide +kernel) (pa_cons (pv 0) pa_nil)) (pe_glob (v := .int 6) rfl T.c_MOST_OPTIONS ⟨_, rfl⟩) (nomark _)))))), ?_⟩
    refine ⟨.ref o, rfl, o, zs, rfl, ho, ok, fun H1 s1 => ⟨_, rfl, iteT ⟨.ref o, rfl, o, _, rfl, .inr (.of (s1 _ _ ho)), _, _, rfl, rfl, ?_⟩⟩⟩
    have few := ok.few
    have e : decide (((zs.map V.str).length : Int) ≤ 6) = true := decide_eq_true (by rw [List.length_map]; omega)
    show Q (.bl (decide (((zs.map V.str).length : Int) ≤ 6))) H1
    rw [e]
    exact q _ s1
def sp_is_row : Sp := fun vs H Q _ => ∃ (o r t : Addr) (zs : List Str) (b : Bal) (m : Int), vs = [.ref o, .ref r] ∧ H o = some (.tup (zs.map V.str)) ∧ H r = some (.tup [.ref t, .int m]) ∧ BalAt H t b ∧ b.Ok zs ∧ zs.length ≤ 6 ∧ 1 ≤ m ∧ m ≤ 1000000 ∧ ∀ H', Same H H' → Q (.bl true) H'
theorem ok_is_row (T : Txt K mg) : FnOk P w K mg base CX0 5 T.f_is_row T.fd_is_row ["options", "thing"] sp_is_row := by
  refine T.F_is_row.ok sc_is_row (fun vs H Q E h => ?_) (fun cdv A outer s H vs Q E hr h => ?_)
  · obtain ⟨o, r, t, zs, b, m, rfl, _⟩ := h
    rfl
  · obtain ⟨o, r, t, zs, b, m, rfl, ho, hrow, hb, bok, n6, m1, m2, q⟩ := h
    refine ⟨_, (pss_cons
 (ps_if (PW.pt (pw_or (pt_not (pt_val (pe_call (ok_is_tuple_of T) (hr.mono (by decide)) (by rfl) T.g_is_tuple_of T.F_is_tuple_of.kp T.b_is_tuple_of .nil pass0 (pa_cons (pv 1) (pa_cons pe_int pa_nil))))) (pw_or1 (pt_not (pt_val (pe_call (ok_is_ballot T) (hr.mono (by decide)) (by rfl) T.g_is_ballot T.F_is_ballot.kp T.b_is_ballot .nil pass0 (pa_cons (pv 0) (pa_cons (pe_ix ix_tup (pv 1) pe_int (fun _ _ => rfl)) pa_nil))))))))
 (pss_one
 (ps_ret pe_bl))
 pss_nil)
 (pss_one
 (ps_ret (pe_and (pe_call (ok_is_whole T) (hr.mono (by decide)) (by rfl) T.g_is_whole T.F_is_whole.kp T.b_is_whole .nil pass0 (pa_cons (pe_ix ix_tup (pv 1) pe_int (fun _ _ => rfl)) pa_nil)) (pe_one (pe_chain op_le op_le pe_int (pe_ix ix_tup (pv 1) pe_int (fun _ _ => rfl)) (pe_glob (v := .int 1000000) rfl T.c_MOST_VOICES ⟨_, rfl⟩))))))), ?_⟩
    have dr : DAt H (.tuple [b.data, .int m]) (.ref r) := ⟨r, _, rfl, hrow, da1 hb.data (da1 rfl da0)⟩
    refine ⟨.ref r, rfl, .ref r, 2, _, rfl, dr, true, rfl, iteF ?_⟩
    refine ⟨.ref o, rfl, .ref r, rfl, r, _, 0, .ref t, rfl, rfl, .of hrow, atI_nat (j := 0) rfl, o, zs, .ref t, b.data, rfl, ho, hb.data, bok.fit n6, fun H1 s1 => ?_⟩
    rw [bok.good]
    refine ⟨true, rfl, iteF ?_⟩
    refine ⟨.ref r, rfl, r, _, 1, .int m, rfl, rfl, .of (s1 _ _ hrow), atI_nat (j := 1) rfl, .int m, .int m, rfl, rfl, true, rfl, iteT ?_⟩
    refine ⟨.ref r, rfl, r, _, 1, .int m, rfl, rfl, .of (s1 _ _ hrow), atI_nat (j := 1) rfl, _, _, rfl, rfl, _, rfl, ite2 (fun _ => ?_) (fun e => absurd (decide_eq_true m1) e)⟩
    refine ⟨_, _, rfl, rfl, ?_⟩
    show Q (.bl (decide (m ≤ 1000000))) H1
    rw [decide_eq_true m2]
    exact q _ s1
def sp_check_poll : Sp := fun vs H Q _ => ∃ (o u : Addr) (zs : List Str) (rows : List (Bal × Int)), vs = [.ref o, .ref u] ∧ H o = some (.tup (zs.map V.str)) ∧ RowsAt H u rows ∧ OptsOk zs ∧ RowsOk zs 30 rows ∧ ∀ H', Same H H' → Q .non H'
theorem ok_check_poll (T : Txt K mg) : FnOk P w K mg base (L2.CX P w) 6 T.f_check_poll T.fd_check_poll ["options", "voices"] sp_check_poll := by
  refine T.F_check_poll.okX sc_check_poll (fun vs H Q E h => ?_) (fun cdv A outer s H vs Q E hr h => ?_)
  · obtain ⟨o, u, zs, rows, rfl, _⟩ := h
    rfl
  · obtain ⟨o, u, zs, rows, rfl, ho, ⟨as, hu, ha, hm⟩, ok, rok, q⟩ := h
    refine ⟨_, (pss_cons
 (ps_if (pt_not (pt_val (pe_call (ok_are_options T) (hr.mono (by decide)) (by rfl) T.g_are_options T.F_are_options.kp T.b_are_options .nil pass0 (pa_cons (pv 0) pa_nil))))
 (pss_one
 (ps_raise rfl (takes_of rfl rfl rfl rfl) (px_pos T.ex_BadPoll (ok_PollError_init T) (hr.mono (by decide)) (by rfl) T.k_BadPoll T.kb_PollError_init_2 (fun σ => at0 σ) (pa_cons pe_str pa_nil))))
 pss_nil)
 (pss_cons
 (ps_if (PW.pt (pw_or (pt_not (pt_val (pe_callB call_isi (by rfl) T.z_isinstance (by decide +kernel) (pa_cons (pv 1) (pa_cons (pe_bltn (v := .ty "tuple") (u := .type "tuple") rfl T.z_tuple (by decide +kernel) rfl) pa_nil))))) (pw_or1 (pt_cmpR op_gt (pe_callB call_len_seq (by rfl) T.z_len (by decide +kernel) (pa_cons (pv 1) pa_nil)) (pe_glob (v := .int 30) rfl T.c_MOST_ROWS ⟨_, rfl⟩) (nomark _)))))
 (pss_one
 (ps_raise rfl (takes_of rfl rfl rfl rfl) (px_pos T.ex_BadPoll (ok_PollError_init T) (hr.mono (by decide)) (by rfl) T.k_BadPoll T.kb_PollError_init_2 (fun σ => at0 σ) (pa_cons pe_str pa_nil))))
 pss_nil)
 (pss_one
 (ps_if (pt_not (pt_val (pe_callB (cr_all rfl) (by rfl) T.z_all (by decide +kernel) (pa_cons (pe_lc (own := [("row", 2)]) (g := gName 2) (tt := tYes) rfl sc_check_poll.nd (pi_tup (pv 1)) (blkOk_by (own := [("row", 2)]) (N := ["options", "voices", "row"]) (sc := (defScope s_check_poll)) (by decide +kernel)) (fun _ _ _ _ _ => pg_name (i := 2) sc_check_poll.nd rfl (Or.inl rfl)) (fun _ _ _ _ _ => pts_nil) (fun _ _ _ _ _ => (pe_call (ok_is_row T) (hr.mono (by decide)) (by rfl) T.g_is_row T.F_is_row.kp T.b_is_row .nil pass0 (pa_cons (pv 0) (pa_cons (pv 2) pa_nil))))) pa_nil))))
 (pss_one
 (ps_raise rfl (takes_of rfl rfl rfl rfl) (px_pos T.ex_BadPoll (ok_PollError_init T) (hr.mono (by decide)) (by rfl) T.k_BadPoll T.kb_PollError_init_2 (fun σ => at0 σ) (pa_cons pe_str pa_nil))))
 pss_nil)))), ?_⟩
    have la : as.length = rows.length := by rw [← hm, List.length_map]
    have l30 := rok.1
    refine ⟨.ref o, rfl, o, zs, rfl, ho, ok, fun H1 s1 => ⟨true, rfl, iteF ?_⟩⟩
    have hu1 := s1 _ _ hu
    refine ⟨.ref u, rfl, .ref u, _, _, _, true, rfl, .ty _, .base (.tup hu1), kit_ty (show kitB "tuple" "tuple" = some true by decide +kernel), true, rfl, iteF ?_⟩
    refine ⟨.ref u, rfl, u, _, rfl, .inr (.of hu1), _, _, rfl, rfl, _, rfl, ite2 (fun e => ?_) (fun _ => ?_)⟩
    · have e := of_decide_eq_true e
      rw [List.length_map] at e
      omega
    · refine ⟨.ref u, rfl, u, rfl, ⟨_, .of hu1⟩, fun D nD => ?_⟩
      have nDH := s1.free nD
      refine lc_tup (K := K) (a := u) (xs := as.map fun a => V.ref a.1) (fun i H' => Same H H' ∧ H' D = some (.lst ((List.replicate i true).map V.bl))) ⟨s1.trans (same_upd nD), upd_same⟩ (fun _ _ _ h => .of (h.1 _ _ hu)) ?_ ?_
      · rintro i x H2 hi ⟨s2, e2⟩
        obtain ⟨a, hai, rfl⟩ := item_map hi
        have il := (List.getElem?_eq_some_iff.mp hai).1
        obtain ⟨h1, h2⟩ := ha a (List.mem_of_getElem? hai)
        obtain ⟨bok, m1, m2⟩ := rok.2 a.2.2 (by rw [← hm]; exact List.mem_map.mpr ⟨a, List.mem_of_getElem? hai, rfl⟩)
        refine ⟨rfl, .ref o, rfl, .ref a.1, rfl, o, a.1, a.2.1, zs, a.2.2.1, a.2.2.2, rfl, s2 _ _ ho, s2 _ _ h1, h2.same s2, bok, ok.few, m1, m2, fun H3 s3 => ⟨_, s3 _ _ e2, small1000 (by rw [List.length_map, List.length_replicate]; omega), same_mut (s2.trans s3) nDH, ?_⟩⟩
        rw [upd_same, List.replicate_succ', List.map_append]
        rfl
      · rintro H2 ⟨s2, e2⟩
        refine ⟨D, _, rfl, .of e2, ?_⟩
        have ea : ∀ n, (List.replicate n true).all id = true := fun n => by induction n with
          | zero => rfl
          | succ n ih => rw [List.replicate_succ, List.all_cons, ih] <;> rfl
        rw [ea]
        exact ⟨_, rfl, iteF (q _ s2)⟩
def sp_Poll_init (C : Addr) : Sp := fun vs H Q _ => ∃ (p dx o u : Addr) (zs : List Str) (rows : List (Bal × Int)), vs = [.ref p, .ref o, .ref u] ∧ H p = some (.ins C dx []) ∧ H o = some (.tup (zs.map V.str)) ∧ RowsAt H u rows ∧ OptsOk zs ∧ RowsOk zs 30 rows ∧
  ∀ H', But p H H' → H' p = some (.ins C dx (pollF o u)) → Q .non H'
theorem ok_Poll_init (T : Txt K mg) : FnOk P w K mg base (L2.CX P w) 7 T.f_Poll_init T.fd_Poll_init ["self", "options", "voices"] (sp_Poll_init T.C_Poll) := by
  refine T.F_Poll_init.ok (CX := L2.CX P w) sc_Poll_init (fun vs H Q E h => ?_) (fun cdv A outer s H vs Q E hr h => ?_)
  · obtain ⟨p, dx, o, u, zs, rows, rfl, _⟩ := h
    rfl
  · obtain ⟨p, dx, o, u, zs, rows, rfl, hp, ho, hu, ok, rok, q⟩ := h
    refine ⟨_, (pss_cons
 (ps_expr (pf_pos (ok_check_poll T) (hr.mono (by decide)) (by rfl) T.g_check_poll T.F_check_poll.kp T.kb_check_poll_2 (fun σ => atN σ) (pa_cons (pv 1) (pa_cons (pv 2) pa_nil))))
 (pss_cons
 (ps_fld (pv 0) (pv 1) rfl)
 (pss_one
 (ps_fld (pv 0) (pv 2) rfl)))), ?_⟩
    refine ⟨.ref o, rfl, .ref u, rfl, rfl, rfl, o, u, zs, rows, rfl, ho, hu, ok, rok, fun H1 s1 => ?_⟩
    refine ⟨.ref o, rfl, .ref p, rfl, p, T.C_Poll, dx, [], rfl, s1 _ _ hp, T.cl_Poll, T.n_Poll_options, by decide, ?_⟩
    refine ⟨.ref u, rfl, .ref p, rfl, p, T.C_Poll, dx, _, rfl, upd_same, T.cl_Poll, T.n_Poll_voices, (by show 1 < 1000; decide), ?_⟩
    refine q _ (fun y x hy hx => ?_) upd_same
    rw [upd_ne hy, upd_ne hy]
    exact s1 _ _ hx
end
theorem val_none {κ : Type} [DecidableEq κ] {kvs : List (κ × V)} {k : κ} (h : ∀ e ∈ kvs, e.1 ≠ k) : valV kvs k = none := by
  unfold valV
  rw [List.find?_eq_none.mpr fun e he => by simpa using h e he] <;> rfl
/-- a good poll at p -/
structure PollOk (C : Addr) (H : Hp) (p o u : Addr) (zs : List Str) (rows : List (Bal × Int)) : Prop where
  poll : PollAt C H p o u
  opts : H o = some (.tup (zs.map V.str))
  votes : RowsAt H u rows
  ok : OptsOk zs
  rok : RowsOk zs 30 rows
theorem PollOk.same {C : Addr} {H H' : Hp} {p o u : Addr} {zs : List Str} {rows : List (Bal × Int)} (s : Same H H') (h : PollOk C H p o u zs rows) : PollOk C H' p o u zs rows := ⟨h.poll.same s, s _ _ h.opts, h.votes.same s, h.ok, h.rok⟩
section
variable {P : Program} {w : World} {K : PySem.W.Frag} {mg : Str → Option Value} {base : Heap}
/-! ### tiers -/
theorem Tiers.same {H H' : Hp} {bs : List (Addr × List Str)} (s : Same H H') (h : Tiers H bs) : Tiers H' bs := fun b hb => ⟨s _ _ (h b hb).1, (h b hb).2⟩
theorem Tiers.add {H : Hp} {bs : List (Addr × List Str)} {b : Addr × List Str} (h : Tiers H bs) (e : H b.1 = some (.tup (b.2.map V.str))) (n : b.2 ≠ []) : Tiers H (bs ++ [b]) := fun c hc => by
  rcases List.mem_append.mp hc with hc | hc
  · exact h c hc
  · rw [List.mem_singleton.mp hc]
    exact ⟨e, n⟩
theorem cut_take {zs : List Str} {f : Str → Int} {ls : List Int} {i : Nat} {k : Int} (h : ls[i]? = some k) : cutBy zs f (ls.take (i + 1)) = cutBy zs f (ls.take i) ++ [zs.filter fun z => decide (f z = k)] := by
  rw [take_more h]
  unfold cutBy
  rw [List.map_append]
  rfl
theorem filter_take {zs : List Str} {f : Str → Bool} {j : Nat} {z : Str} (h : zs[j]? = some z) : (zs.take (j + 1)).filter f = (zs.take j).filter f ++ if f z = true then [z] else [] := by
  rw [take_more h, List.filter_append]
  refine congrArg _ ?_
  cases e : f z with
  | true => rw [if_pos rfl, List.filter_cons_of_pos e] <;> rfl
  | false => rw [if_neg Bool.false_ne_true, List.filter_cons_of_neg (by rw [e]; exact Bool.false_ne_true)] <;> rfl
def sp_tiers : Sp := fun vs H Q _ => ∃ (o t : Addr) (zs : List Str) (b : Bal), vs = [.ref o, .ref t] ∧ H o = some (.tup (zs.map V.str)) ∧ BalAt H t b ∧ b.Ok zs ∧ zs.Nodup ∧ zs.length ≤ 6 ∧
  ∀ (u : Addr) (bs : List (Addr × List Str)) (ls : List Int) (H' : Hp), Lev zs b.rk ls → Same H H' → H' u = some (.tup (bs.map fun b => V.ref b.1)) → Tiers H' bs → bs.map (·.2) = cutBy zs b.rk ls → Q (.ref u) H'
theorem ok_tiers (T : Txt K mg) : FnOk P w K mg base CX0 3 T.f_tiers T.fd_tiers ["options", "ballot"] sp_tiers := by
  refine T.F_tiers.ok sc_tiers (fun vs H Q E h => ?_) (fun cdv A outer s H vs Q E hr h => ?_)
  · obtain ⟨o, t, zs, b, rfl, _⟩ := h
    rfl
  · obtain ⟨o, t, zs, b, rfl, ho, hb, bok, nd, lz, q⟩ := h
    refine ⟨_, (pss_cons
 (ps_set (i := 2) sc_tiers.nd rfl (Or.inr rfl) (pe_call (ok_ranks T) (hr.mono (by decide)) (by rfl) T.g_ranks T.F_ranks.kp T.b_ranks .nil pass0 (pa_cons (pv 0) (pa_cons (pv 1) pa_nil))))
 (pss_cons
 (ps_set (i := 3) sc_tiers.nd rfl (Or.inl rfl) (pe_callB (cr_sortedSet rfl) (by rfl) T.z_sorted (by decide +kernel) (pa_cons (pe_callTy (cr_setL (w := w) rfl rfl) (by rfl) T.z_set (by decide +kernel) (pa_cons (pe_listVals rfl (pv 2) (by rfl) T.z_list (by decide +kernel)) pa_nil)) pa_nil)))
 (pss_one
 (ps_ret (pe_callTy call_tuple_of (by rfl) T.z_tuple (by decide +kernel) (pa_cons (pe_lc (own := [("level", 4)]) (g := gName 4) (tt := tYes) rfl sc_tiers.nd (pi_list (pv 3)) (blkOk_by (own := [("level", 4)]) (N := ["options", "ballot", "rank", "levels", "level", "name"]) (sc := (defScope s_tiers)) (by decide +kernel)) (fun _ _ _ _ _ => pg_name (i := 4) sc_tiers.nd rfl (Or.inr rfl)) (fun _ _ _ _ _ => pts_nil) (fun s0 H0 C0 cl0 fp0 => (by have h := ((pe_callTy call_tuple_of (by rfl) T.z_tuple (by decide +kernel) (pa_cons (pe_lc (own := [("name", 5)]) (g := gName 5) rfl sc_tiers.nd (pi_tup (pv 0)) (blkOk_re (blkOk_by (own := [("name", 5)]) (N := ["options", "ballot", "rank", "levels", "level", "name"]) (sc := (lcScope (subE (rootE ((defBody s_tiers).getD 2 (.Pass ⟨0, 0, 0, 0⟩))) 1))) (by decide +kernel))) (fun _ _ _ _ _ => pg_name (i := 5) sc_tiers.nd rfl (Or.inl rfl)) (fun s1 H1 C1 cl1 fp1 => (by have h := ((pts_one (pt_cmpR op_eq (pe_dget (hu_of hr) (pv 2) (pv 5) (fun _ _ => rfl)) (pv 4) (nomark _))) : PTs (((cxOf CX0 P w K mg base ["options", "ballot", "rank", "levels", "level", "name"] "tiers" (defScope s_tiers) T.f_tiers cdv A outer s H E).nox.blk s0 H0 (lcScope (subE (rootE ((defBody s_tiers).getD 2 (.Pass ⟨0, 0, 0, 0⟩))) 1)) (compEnvC (lcScope (subE (rootE ((defBody s_tiers).getD 2 (.Pass ⟨0, 0, 0, 0⟩))) 1)) cl0 C0 (cxOf CX0 P w K mg base ["options", "ballot", "rank", "levels", "level", "name"] "tiers" (defScope s_tiers) T.f_tiers cdv A outer s H E).nox.env) fp0).blk s1 H1 (lcScope (subE (subE (subE (rootE ((defBody s_tiers).getD 2 (.Pass ⟨0, 0, 0, 0⟩))) 1) 0) 1)) (compEnvC (lcScope (subE (subE (subE (rootE ((defBody s_tiers).getD 2 (.Pass ⟨0, 0, 0, 0⟩))) 1) 0) 1)) cl1 C1 ((cxOf CX0 P w K mg base ["options", "ballot", "rank", "levels", "level", "name"] "tiers" (defScope s_tiers) T.f_tiers cdv A outer s H E).nox.blk s0 H0 (lcScope (subE (rootE ((defBody s_tiers).getD 2 (.Pass ⟨0, 0, 0, 0⟩))) 1)) (compEnvC (lcScope (subE (rootE ((defBody s_tiers).getD 2 (.Pass ⟨0, 0, 0, 0⟩))) 1)) cl0 C0 (cxOf CX0 P w K mg base ["options", "ballot", "rank", "levels", "level", "name"] "tiers" (defScope s_tiers) T.f_tiers cdv A outer s H E).nox.env) fp0).env) fp1) (lcIfs (subE (subE (subE (rootE ((defBody s_tiers).getD 2 (.Pass ⟨0, 0, 0, 0⟩))) 1) 0) 1)) _); dsimp only [Cx.blk, Cx.tr, Cx.suite, Cx.nox, Cx.wish, cxOf] at h; exact h)) (fun _ _ _ _ _ => (pv 5))) pa_nil)) : PE ((cxOf CX0 P w K mg base ["options", "ballot", "rank", "levels", "level", "name"] "tiers" (defScope s_tiers) T.f_tiers cdv A outer s H E).nox.blk s0 H0 (lcScope (subE (rootE ((defBody s_tiers).getD 2 (.Pass ⟨0, 0, 0, 0⟩))) 1)) (compEnvC (lcScope (subE (rootE ((defBody s_tiers).getD 2 (.Pass ⟨0, 0, 0, 0⟩))) 1)) cl0 C0 (cxOf CX0 P w K mg base ["options", "ballot", "rank", "levels", "level", "name"] "tiers" (defScope s_tiers) T.f_tiers cdv A outer s H E).nox.env) fp0) (subE (subE (rootE ((defBody s_tiers).getD 2 (.Pass ⟨0, 0, 0, 0⟩))) 1) 0) _); dsimp only [Cx.blk, Cx.tr, Cx.suite, Cx.nox, Cx.wish, cxOf] at h; exact h))) pa_nil)))))), ?_⟩
    refine ⟨.ref o, rfl, .ref t, rfl, o, t, zs, b, rfl, ho, hb, bok, nd, lz, fun D H1 s1 nD eD => ?_⟩
    refine ⟨.ref D, rfl, D, _, rfl, eD, fun l nl => ⟨l, zs.map b.rk, rfl, .of (by rw [upd_same, tab_vals]), by rw [List.length_map]; omega, fun p c np lc => ⟨p, _, c, rfl, upd_same, by rw [List.length_map] at lc; omega, fun ls q0 rise mem len nq => ?_⟩⟩⟩
    have lev : Lev zs b.rk ls := ⟨rise, fun k => (mem k).trans (by rw [decide_eq_true_iff, List.mem_map])⟩
    have lls : ls.length ≤ 6 := by rw [List.length_map] at lc; omega
    have s2 : Same H1 (upd (upd (upd H1 l (.lst ((tab zs b.rk).map (·.2)))) p (SetO w p (fun j => decide (j ∈ zs.map b.rk)) c)) q0 (.lst (ls.map V.int))) := ((same_upd nl).trans (same_upd np)).trans (same_upd nq)
    have hq0 : (upd (upd (upd H1 l (.lst ((tab zs b.rk).map (·.2)))) p (SetO w p (fun j => decide (j ∈ zs.map b.rk)) c)) q0 (.lst (ls.map V.int))) q0 = some (.lst (ls.map V.int)) := upd_same
    generalize upd (upd (upd H1 l (.lst ((tab zs b.rk).map (·.2)))) p (SetO w p (fun j => decide (j ∈ zs.map b.rk)) c)) q0 (.lst (ls.map V.int)) = H2 at s2 hq0
    have eD2 := s2 _ _ eD
    have ho2 := s2 _ _ (s1 _ _ ho)
    refine ⟨.ref q0, rfl, q0, rfl, ⟨_, .of hq0⟩, fun D1 nD1 => ?_⟩
    refine lc_list (K := K) (a := q0) (xs := ls.map V.int) (fun i H' => ∃ bs : List (Addr × List Str), Same H2 H' ∧ H' D1 = some (.lst (bs.map fun b => V.ref b.1)) ∧ Tiers H' bs ∧ bs.map (·.2) = cutBy zs b.rk (ls.take i))
      ⟨[], same_upd nD1, upd_same, fun _ h => (by cases h), rfl⟩ (fun _ _ _ ⟨_, h, _⟩ => .of (h _ _ hq0)) ?_ ?_
    · rintro i x H3 hi ⟨bs, s3, e3, t3, m3⟩
      obtain ⟨k, hk, rfl⟩ := item_map hi
      have il : i < ls.length := (List.getElem?_eq_some_iff.mp hk).1
      have lbs : bs.length ≤ 6 := by
        have := congrArg List.length m3
        unfold cutBy at this
        rw [List.length_map, List.length_map, List.length_take] at this
        omega
      refine ⟨rfl, .ref o, rfl, o, rfl, ⟨_, .of (s3 _ _ ho2)⟩, fun D2 nD2 => ?_⟩
      have ne12 : D1 ≠ D2 := ne_of_none e3 nD2
      refine lc_tup (K := K) (a := o) (xs := zs.map V.str) (fun j H' => Same H3 H' ∧ H' D2 = some (.lst (((zs.take j).filter fun z => decide (b.rk z = k)).map V.str))) ⟨same_upd nD2, upd_same⟩ (fun _ _ _ h => .of (h.1 _ _ (s3 _ _ ho2))) ?_ ?_
      · rintro j x H4 hj ⟨s4, e4⟩
        obtain ⟨z, hz, rfl⟩ := item_map hj
        have got : DGet H4 D (.str z) (some (.int (b.rk z))) := by
          have := DGet.k (k := .inr z) (s4 _ _ (s3 _ _ eD2))
          rw [tab_val, if_pos (List.mem_of_getElem? hz)] at this
          exact this
        have small : (((zs.take j).filter fun z => decide (b.rk z = k)).map V.str).length < sizeLine := by
          rw [List.length_map]
          have := List.length_filter_le (fun z => decide (b.rk z = k)) (zs.take j)
          rw [List.length_take] at this
          exact small1000 (by omega)
        refine ⟨rfl, .ref D, rfl, .str z, rfl, D, _, rfl, got, .int k, rfl, rfl, _, rfl, ?_⟩
        have eb : decide (V.int (b.rk z) = V.int k) = decide (b.rk z = k) := decide_eq_decide.mpr ⟨fun h => V.int.inj h, fun h => by rw [h]⟩
        rw [eb]
        have ft := filter_take (f := fun z => decide (b.rk z = k)) hz
        cases ec : decide (b.rk z = k) with
        | true =>
          rw [if_pos ec] at ft
          refine iteT ⟨.str z, rfl, _, e4, small, same_mut s4 nD2, ?_⟩
          rw [upd_same, ft, List.map_append]
          rfl
        | false =>
          rw [if_neg (by rw [ec]; exact Bool.false_ne_true), List.append_nil] at ft
          refine iteF ⟨s4, ?_⟩
          rw [ft]
          exact e4
      · rintro H4 ⟨s4, e4⟩
        rw [List.length_map, List.take_length] at e4
        refine ⟨D2, _, rfl, .inl ⟨.of e4, fun u nu => ?_⟩⟩
        have s5 := s4.trans (same_upd (o := HO.tup ((zs.filter fun z => decide (b.rk z = k)).map V.str)) nu)
        have eu : (upd H4 u (.tup ((zs.filter fun z => decide (b.rk z = k)).map V.str))) u = some (.tup ((zs.filter fun z => decide (b.rk z = k)).map V.str)) := upd_same
        generalize upd H4 u (.tup ((zs.filter fun z => decide (b.rk z = k)).map V.str)) = H5 at s5 eu
        have e5 := s5 _ _ e3
        have nD1' : H2 D1 = none := nD1
        have uD : u ≠ D1 := fun e => by rw [e, e5] at eu; cases eu
        refine ⟨_, e5, small1000 (by rw [List.length_map]; omega), bs ++ [(u, zs.filter fun z => decide (b.rk z = k))], same_mut (s3.trans s5) nD1, ?_, ?_, ?_⟩
        · rw [upd_same, List.map_append]
          rfl
        · have tt := (t3.same s5).add (b := (u, zs.filter fun z => decide (b.rk z = k))) eu (cut_ne lev _ (List.mem_map.mpr ⟨k, List.mem_of_getElem? hk, rfl⟩))
          refine fun c hc => ⟨?_, (tt c hc).2⟩
          rw [upd_ne fun e => ?_]
          · exact (tt c hc).1
          · have := (tt c hc).1
            rw [e, e5] at this
            cases this
        · rw [List.map_append, m3, cut_take hk]
          rfl
    · rintro H3 ⟨bs, s3, e3, t3, m3⟩
      rw [List.length_map, List.take_length] at m3
      refine ⟨D1, _, rfl, .inl ⟨.of e3, fun u nu => ?_⟩⟩
      exact q u bs ls _ lev (s1.trans (s2.trans (s3.trans (same_upd nu)))) upd_same (t3.same (same_upd nu)) m3
/-! ### who is ahead -/
end
theorem paired_zero {K : PySem.W.Frag} {H : Hp} : ∀ {bs : List (Addr × Str)}, (∀ b ∈ bs, H b.1 = some (.tup [.str b.2, .int 0])) → Paired (fun p (kv : Key × V) => SqT K H p [kV kv.1, kv.2]) (bs.map (·.1)) (tab (bs.map (·.2)) fun _ => 0)
  | [], _ => .nil
  | b :: bs, h => .cons (.of (h b List.mem_cons_self)) (paired_zero fun c hc => h c (List.mem_cons_of_mem _ hc))
section
variable {P : Program} {w : World} {K : PySem.W.Frag} {mg : Str → Option Value} {base : Heap}
/-! ### the law's own heights -/
def sp_law_high : Sp := fun vs H Q _ => ∃ (o t : Addr) (zs : List Str) (b : Bal), vs = [.ref o, .ref t] ∧ H o = some (.tup (zs.map V.str)) ∧ BalAt H t b ∧ b.Ok zs ∧ zs.Nodup ∧ zs.length ≤ 6 ∧
  ∀ (D : Addr) (H' : Hp), Same H H' → H D = none → H' D = some (.dK (tab zs b.hi)) → Q (.ref D) H'
theorem ok_law_high (T : Txt K mg) : FnOk P w K mg base CX0 1 T.f_law_high T.fd_law_high ["_law_options_here", "_law_ballot_here"] sp_law_high := by
  refine T.F_law_high.ok sc_law_high (fun vs H Q E h => ?_) (fun cdv A outer s H vs Q E hr h => ?_)
  · obtain ⟨o, t, zs, b, rfl, _⟩ := h
    rfl
  · obtain ⟨o, t, zs, b, rfl, ho, hb, bok, nd, lz, q⟩ := h
    refine ⟨_, (pss_cons
 (ps_set (i := 2) sc_law_high.nd rfl (Or.inl rfl) (pe_callTy (call_dictP rfl) (by rfl) T.z_dict (by decide +kernel) (pa_cons (pe_lc (own := [("_law_word", 5)]) (g := gName 5) (tt := tYes) rfl sc_law_high.nd (pi_tup (pv 0)) (blkOk_by (own := [("_law_word", 5)]) (N := ["_law_options_here", "_law_ballot_here", "_law_found", "_law_at", "_law_tier", "_law_word", "_law_mark"]) (sc := (defScope s_law_high)) (by decide +kernel)) (fun _ _ _ _ _ => pg_name (i := 5) sc_law_high.nd rfl (Or.inl rfl)) (fun _ _ _ _ _ => pts_nil) (fun _ _ _ _ _ => (pe_tup (pa_cons (pv 5) (pa_cons pe_int pa_nil))))) pa_nil)))
 (pss_cons
 (ps_if (pt_cmpR op_eq (pe_ix ix_tup (pv 1) pe_int (fun _ _ => rfl)) pe_str (nomark _))
 (pss_one
 (ps_for PassesOwn.never rfl (pi_enumT (by rfl) T.z_enumerate (pe_ix ix_tup (pv 1) pe_int (fun _ _ => rfl))) (pg_tup rfl (pgs_cons (pg_name (i := 3) sc_law_high.nd rfl (Or.inl rfl)) (pgs_cons (pg_name (i := 4) sc_law_high.nd rfl (Or.inl rfl)) pgs_nil)))
 (pss_one
 (ps_for PassesOwn.never rfl (pi_tup (pv 4)) (pg_name (i := 5) sc_law_high.nd rfl (Or.inl rfl))
 (pss_one
 (ps_dput (hu_of hr) (pv 2) (pv 5) (pe_op op_sub pe_int (pv 3)) (by rfl)))))))
 (pss_one
 (ps_if (pt_cmpR op_eq (pe_ix ix_tup (pv 1) pe_int (fun _ _ => rfl)) pe_str (nomark _))
 (pss_one
 (ps_for PassesOwn.never rfl (pi_tup (pe_ix ix_tup (pv 1) pe_int (fun _ _ => rfl))) (pg_name (i := 5) sc_law_high.nd rfl (Or.inl rfl))
 (pss_one
 (ps_dput (hu_of hr) (pv 2) (pv 5) pe_int (by rfl)))))
 (pss_one
 (ps_for PassesOwn.never rfl (pi_tup (pe_ix ix_tup (pv 1) pe_int (fun _ _ => rfl))) (pg_tup rfl (pgs_cons (pg_name (i := 5) sc_law_high.nd rfl (Or.inl rfl)) (pgs_cons (pg_name (i := 6) sc_law_high.nd rfl (Or.inl rfl)) pgs_nil)))
 (pss_one
 (ps_dput (hu_of hr) (pv 2) (pv 5) (pv 6) (by rfl))))))))
 (pss_one
 (ps_ret (pv 2))))), ?_⟩
    have few := (bok.few lz).1
    refine ⟨.ref o, rfl, o, rfl, ⟨_, .of ho⟩, fun L nL => ?_⟩
    refine lc_tup (K := K) (a := o) (xs := zs.map V.str) (fun i H' => ∃ bs : List (Addr × Str), Same H H' ∧ H' L = some (.lst (bs.map fun b => V.ref b.1)) ∧ (∀ b ∈ bs, H' b.1 = some (.tup [.str b.2, .int 0])) ∧ bs.map (·.2) = zs.take i)
      ⟨[], same_upd nL, upd_same, fun _ h => (by cases h), rfl⟩ (fun _ _ _ ⟨_, h, _⟩ => .of (h _ _ ho)) ?_ ?_
    · rintro i x H1 hi ⟨bs, s1, e1, t1, m1⟩
      obtain ⟨z, hz, rfl⟩ := item_map hi
      have lbs : bs.length ≤ 6 := by
        have := congrArg List.length m1
        rw [List.length_map, List.length_take] at this
        omega
      refine ⟨rfl, .str z, rfl, line_of (show 2 ≤ 1000 by decide), fun u nu => ?_⟩
      have s2 := same_upd (o := HO.tup [V.str z, V.int 0]) nu
      have e2 := s2 _ _ e1
      have eu : (upd H1 u (.tup [V.str z, V.int 0])) u = some (.tup [V.str z, V.int 0]) := upd_same
      generalize upd H1 u (.tup [V.str z, V.int 0]) = H2 at s2 e2 eu
      have apart : ∀ {c : Addr} {xs : List V}, H2 c = some (.tup xs) → c ≠ L := fun h e => by rw [e, e2] at h; cases h
      refine ⟨_, e2, small1000 (by rw [List.length_map]; omega), bs ++ [(u, z)], same_mut (s1.trans s2) nL, by rw [upd_same, List.map_append]; rfl, fun c hc => ?_, by rw [List.map_append, m1, take_more hz]; rfl⟩
      have hc' : H2 c.1 = some (.tup [.str c.2, .int 0]) := by
        rcases List.mem_append.mp hc with hc | hc
        · exact s2 _ _ (t1 c hc)
        · rw [List.mem_singleton.mp hc]
          exact eu
      rw [upd_ne (apart hc')]
      exact hc'
    · rintro H1 ⟨bs, s1, e1, t1, m1⟩
      rw [List.length_map, List.take_length] at m1
      have pz := paired_zero (K := K) t1
      rw [m1] at pz
      have e1' : H1 L = some (.lst ((bs.map (·.1)).map V.ref)) := by rw [List.map_map]; exact e1
      refine ⟨L, bs.map Prod.fst, tab zs (fun _ => 0), rfl, .of e1', pz, fun D nD => ?_⟩
      have nDH := s1.free nD
      have em : mergeK [] (tab zs fun _ => 0) = tab zs fun _ => 0 := tab_merge (fun _ => 0) zs [] nd
      have s2 : Same H (upd H1 D (.dK (mergeK [] (tab zs fun _ => 0)))) := s1.trans (same_upd nD)
      have eD : (upd H1 D (.dK (mergeK [] (tab zs fun _ => 0)))) D = some (.dK (tab zs fun _ => 0)) := by rw [upd_same, em]
      generalize upd H1 D (.dK (mergeK [] (tab zs fun _ => 0))) = H2 at s2 eD
      cases b with
      | order ts =>
        obtain ⟨u, bs, h1, h2, h3, h4⟩ := hb
        obtain ⟨fn, fm, b3⟩ := bok
        have lt : ts.length = bs.length := by rw [← h4, List.length_map]
        have l6 : ts.length ≤ 6 := by
          have : (ts.map tyT).length ≤ 6 := few
          rw [List.length_map] at this
          exact this
        let fin : List Str → Str → Int := fun seen z => if z ∈ seen then 99 - (place ts z : Nat) else 0
        refine ⟨.ref t, rfl, t, _, 0, _, rfl, rfl, .of (s2 _ _ h1), atI_nat (j := 0) rfl, rfl, _, rfl, iteT ?_⟩
        refine ⟨.ref t, rfl, t, _, 1, _, rfl, rfl, .of (s2 _ _ h1), atI_nat (j := 1) rfl, u, _, rfl, .of (s2 _ _ h2), for_it walk_enumT (fun i σ H' => ∃ x3 x4 x5 x6 : Option V, σ = [some (.ref o), some (.ref t), some (.ref D), x3, x4, x5, x6] ∧ Same H H' ∧ H' D = some (.dK (tab zs (fin (ts.take i).flatten))))
          ⟨none, none, none, none, rfl, s2, ?_⟩ (fun _ _ _ _ ⟨_, _, _, _, _, h, _⟩ => .of (h _ _ h2)) ?_ ?_⟩
        · rw [eD]
          exact congrArg (fun l => some (HO.dK l)) (tab_congr fun z _ => (if_neg (by simp)).symm)
        · rintro i x σ H2 H3 hi ⟨x3, x4, x5, x6, rfl, s2, e2⟩ ⟨Tt, a, b, rfl, nT, rfl, ea, eb⟩
          cases ea
          obtain ⟨bb, hb, rfl⟩ := item_map eb
          have s3 : Same H2 _ := same_upd (o := HO.tup [V.int (i : Int), V.ref bb.1]) nT
          have e3 := s3 _ _ e2
          have s3' := s2.trans s3
          have hbt := h3 bb (List.mem_of_getElem? hb)
          have tsi : ts[i]? = some bb.2 := by rw [← h4, List.getElem?_map, hb]; rfl
          refine ⟨Tt, _, rfl, .of upd_same, rfl, _, _, rfl, _, _, rfl, rfl, ?_⟩
          refine ⟨.ref bb.1, rfl, bb.1, rfl, ⟨_, .of (s3' _ _ hbt.1)⟩, for_tup (K := K) (a := bb.1) (xs := bb.2.map V.str) (fun j σ H' => ∃ x5 x6 : Option V, σ = [some (.ref o), some (.ref t), some (.ref D), some (.int i), some (.ref bb.1), x5, x6] ∧ Same H H' ∧ H' D = some (.dK (tab zs (fin ((ts.take i).flatten ++ bb.2.take j)))))
            ⟨x5, x6, rfl, s3', ?_⟩ (fun _ _ _ _ ⟨_, _, _, h, _⟩ => .of (h _ _ hbt.1)) ?_ ?_⟩
          · rw [List.take_zero, List.append_nil]
            exact e3
          · rintro j x σ H4 hj ⟨x5, x6, rfl, s4, e4⟩
            obtain ⟨z, hz, rfl⟩ := item_map hj
            have mz : z ∈ bb.2 := List.mem_of_getElem? hz
            have zz := fm z (mem_part tsi mz)
            refine ⟨.int i, rfl, _, _, rfl, rfl, .ref D, rfl, .str z, rfl, D, _, rfl, DPut.k (k := .inr z) e4 ?_, some (.str z), x6, rfl, same_mut s4 nDH, ?_⟩
            · rw [tab_len]
              exact small1000 (by omega)
            · rw [upd_same, tab_put zz]
              refine congrArg (fun l => some (HO.dK l)) (tab_congr fun y _ => ?_)
              show (if y = z then (99 : Int) - (i : Int) else if y ∈ (ts.take i).flatten ++ bb.2.take j then (99 : Int) - ((place ts y : Nat) : Int) else 0) = if y ∈ (ts.take i).flatten ++ bb.2.take (j + 1) then (99 : Int) - ((place ts y : Nat) : Int) else 0
              rw [take_more hz, ← List.append_assoc]
              by_cases e : y = z
              · rw [if_pos e, if_pos (by rw [e]; exact List.mem_append_right _ (List.mem_singleton.mpr rfl)), e, place_at fn tsi mz]
              · rw [if_neg e]
                have : (y ∈ (ts.take i).flatten ++ bb.2.take j ++ [z]) ↔ y ∈ (ts.take i).flatten ++ bb.2.take j := by
                  rw [List.mem_append, List.mem_singleton]
                  exact ⟨fun h => h.resolve_right e, .inl⟩
                by_cases m : y ∈ (ts.take i).flatten ++ bb.2.take j
                · rw [if_pos m, if_pos (this.mpr m)]
                · rw [if_neg m, if_neg fun h => m (this.mp h)]
          · rintro σ H4 ⟨x5, x6, rfl, s4, e4⟩
            rw [List.length_map, List.take_length] at e4
            refine ⟨_, _, _, _, rfl, s4, ?_⟩
            rw [take_more tsi, List.flatten_append]
            simpa using e4
        · rintro σ H2 ⟨x3, x4, x5, x6, rfl, s2, e2⟩
          refine ⟨.ref D, rfl, q D H2 s2 nDH ?_⟩
          rw [List.length_map, ← lt, List.take_length] at e2
          exact e2
      | lets ns =>
        obtain ⟨u, h1, h2⟩ := hb
        obtain ⟨b1, b2⟩ := bok
        refine ⟨.ref t, rfl, t, _, 0, _, rfl, rfl, .of (s2 _ _ h1), atI_nat (j := 0) rfl, rfl, _, rfl, iteF ?_⟩
        refine ⟨.ref t, rfl, t, _, 0, _, rfl, rfl, .of (s2 _ _ h1), atI_nat (j := 0) rfl, rfl, _, rfl, iteT ?_⟩
        refine ⟨.ref t, rfl, t, _, 1, _, rfl, rfl, .of (s2 _ _ h1), atI_nat (j := 1) rfl, u, rfl, ⟨_, .of (s2 _ _ h2)⟩, for_tup (K := K) (a := u) (xs := ns.map V.str) (fun i σ H' => ∃ x5 : Option V, σ = [some (.ref o), some (.ref t), some (.ref D), none, none, x5, none] ∧ Same H H' ∧ H' D = some (.dK (tab zs fun z => if z ∈ ns.take i then 1 else 0)))
          ⟨none, rfl, s2, ?_⟩ (fun _ _ _ _ ⟨_, _, h, _⟩ => .of (h _ _ h2)) ?_ ?_⟩
        · rw [eD]
          exact congrArg (fun l => some (HO.dK l)) (tab_congr fun z _ => (if_neg (by simp)).symm)
        · rintro i x σ H3 hi ⟨x5, rfl, s3, e3⟩
          obtain ⟨z, hz, rfl⟩ := item_map hi
          refine ⟨.ref D, rfl, .str z, rfl, D, _, rfl, DPut.k (k := .inr z) e3 ?_, some (.str z), rfl, same_mut s3 nDH, ?_⟩
          · rw [tab_len]
            exact small1000 (by omega)
          · rw [upd_same, tab_put (b2 z (List.mem_of_getElem? hz))]
            refine congrArg (fun l => some (HO.dK l)) (tab_congr fun y _ => ?_)
            show (if y = z then (1 : Int) else if y ∈ ns.take i then 1 else 0) = if y ∈ ns.take (i + 1) then 1 else 0
            rw [take_more hz]
            by_cases e : y = z
            · rw [if_pos e, if_pos (by rw [e]; exact List.mem_append_right _ (List.mem_singleton.mpr rfl))]
            · rw [if_neg e]
              have : (y ∈ ns.take i ++ [z]) ↔ y ∈ ns.take i := by
                rw [List.mem_append, List.mem_singleton]
                exact ⟨fun h => h.resolve_right e, .inl⟩
              by_cases m : y ∈ ns.take i
              · rw [if_pos m, if_pos (this.mpr m)]
              · rw [if_neg m, if_neg fun h => m (this.mp h)]
        · rintro σ H3 ⟨x5, rfl, s3, e3⟩
          rw [List.length_map, List.take_length] at e3
          exact ⟨.ref D, rfl, q D H3 s3 nDH e3⟩
      | marks ms =>
        obtain ⟨u, bs, h1, h2, h3, h4⟩ := hb
        obtain ⟨b1, b2, b3⟩ := bok
        have lm : ms.length = bs.length := by rw [← h4, List.length_map]
        refine ⟨.ref t, rfl, t, _, 0, _, rfl, rfl, .of (s2 _ _ h1), atI_nat (j := 0) rfl, rfl, _, rfl, iteF ?_⟩
        refine ⟨.ref t, rfl, t, _, 0, _, rfl, rfl, .of (s2 _ _ h1), atI_nat (j := 0) rfl, rfl, _, rfl, iteF ?_⟩
        refine ⟨.ref t, rfl, t, _, 1, _, rfl, rfl, .of (s2 _ _ h1), atI_nat (j := 1) rfl, u, rfl, ⟨_, .of (s2 _ _ h2)⟩, for_tup (K := K) (a := u) (xs := bs.map fun b => V.ref b.1) (fun i σ H' => ∃ x5 x6 : Option V, σ = [some (.ref o), some (.ref t), some (.ref D), none, none, x5, x6] ∧ Same H H' ∧ H' D = some (.dK (tab zs fun z => if z ∈ (ms.take i).map (·.1) then (mkAt ms z).getD 0 else 0)))
          ⟨none, none, rfl, s2, ?_⟩ (fun _ _ _ _ ⟨_, _, _, h, _⟩ => .of (h _ _ h2)) ?_ ?_⟩
        · rw [eD]
          exact congrArg (fun l => some (HO.dK l)) (tab_congr fun z _ => (if_neg (by simp)).symm)
        · rintro i x σ H3 hi ⟨x5, x6, rfl, s3, e3⟩
          obtain ⟨bb, hbb, rfl⟩ := item_map hi
          have hm : ms[i]? = some bb.2 := by rw [← h4, List.getElem?_map, hbb]; rfl
          refine ⟨bb.1, _, rfl, .of (s3 _ _ (h3 bb (List.mem_of_getElem? hbb))), rfl, _, _, rfl, _, _, rfl, rfl, ?_⟩
          refine ⟨.int bb.2.2, rfl, .ref D, rfl, .str bb.2.1, rfl, D, _, rfl, DPut.k (k := .inr bb.2.1) e3 ?_, some (.str bb.2.1), some (.int bb.2.2), rfl, same_mut s3 nDH, ?_⟩
          · rw [tab_len]
            exact small1000 (by omega)
          · rw [upd_same, tab_put (b2 bb.2 (List.mem_of_getElem? hm))]
            refine congrArg (fun l => some (HO.dK l)) (tab_congr fun y _ => ?_)
            show (if y = bb.2.1 then bb.2.2 else if y ∈ (ms.take i).map (·.1) then (mkAt ms y).getD 0 else 0) = if y ∈ (ms.take (i + 1)).map (·.1) then (mkAt ms y).getD 0 else 0
            rw [take_more hm, List.map_append]
            by_cases e : y = bb.2.1
            · rw [if_pos e, if_pos (by rw [e]; exact List.mem_append_right _ (List.mem_singleton.mpr rfl)), e, mk_some b1 hm] <;> rfl
            · rw [if_neg e]
              have : (y ∈ (ms.take i).map (·.1) ++ [bb.2].map (·.1)) ↔ y ∈ (ms.take i).map (·.1) := by
                rw [List.mem_append]
                exact ⟨fun h => h.resolve_right fun h => e (List.mem_singleton.mp h), .inl⟩
              by_cases m : y ∈ (ms.take i).map (·.1)
              · rw [if_pos m, if_pos (this.mpr m)]
              · rw [if_neg m, if_neg fun h => m (this.mp h)]
        · rintro σ H3 ⟨x5, x6, rfl, s3, e3⟩
          rw [List.length_map, ← lm, List.take_length] at e3
          refine ⟨.ref D, rfl, q D H3 s3 nDH ?_⟩
          rw [e3]
          refine congrArg (fun l => some (HO.dK l)) (tab_congr fun z _ => ?_)
          show (if z ∈ ms.map (·.1) then (mkAt ms z).getD 0 else 0) = (mkAt ms z).getD 0
          by_cases m : z ∈ ms.map (·.1)
          · rw [if_pos m]
          · rw [if_neg m, mk_none m] <;> rfl
/-! ### the law's own tiers -/
def sp_law_tiers : Sp := fun vs H Q _ => ∃ (o t : Addr) (zs : List Str) (b : Bal), vs = [.ref o, .ref t] ∧ H o = some (.tup (zs.map V.str)) ∧ BalAt H t b ∧ b.Ok zs ∧ zs.Nodup ∧ zs.length ≤ 6 ∧
  ∀ (u : Addr) (bs : List (Addr × List Str)) (ms : List Int) (H' : Hp), Lev zs b.hi ms → Same H H' → H' u = some (.tup (bs.map fun b => V.ref b.1)) → Tiers H' bs → bs.map (·.2) = cutBy zs b.hi ms.reverse → Q (.ref u) H'
theorem ok_law_tiers (T : Txt K mg) : FnOk P w K mg base CX0 2 T.f_law_tiers T.fd_law_tiers ["_law_options_here", "_law_ballot_here"] sp_law_tiers := by
  refine T.F_law_tiers.ok sc_law_tiers (fun vs H Q E h => ?_) (fun cdv A outer s H vs Q E hr h => ?_)
  · obtain ⟨o, t, zs, b, rfl, _⟩ := h
    rfl
  · obtain ⟨o, t, zs, b, rfl, ho, hb, bok, nd, lz, q⟩ := h
    refine ⟨_, (pss_cons
 (ps_set (i := 2) sc_law_tiers.nd rfl (Or.inr rfl) (pe_call (ok_law_high T) (hr.mono (by decide)) (by rfl) T.g_law_high T.F_law_high.kp T.b_law_high .nil pass0 (pa_cons (pv 0) (pa_cons (pv 1) pa_nil))))
 (pss_cons
 (ps_set (i := 3) sc_law_tiers.nd rfl (Or.inl rfl) (pe_revL (pe_callB (cr_sortedSet rfl) (by rfl) T.z_sorted (by decide +kernel) (pa_cons (pe_callTy (cr_setL (w := w) rfl rfl) (by rfl) T.z_set (by decide +kernel) (pa_cons (pe_lc (own := [("_law_word", 4)]) (g := gName 4) (tt := tYes) rfl sc_law_tiers.nd (pi_tup (pv 0)) (blkOk_by (own := [("_law_word", 4)]) (N := ["_law_options_here", "_law_ballot_here", "_law_high_here", "_law_steps", "_law_word", "_law_step"]) (sc := (defScope s_law_tiers)) (by decide +kernel)) (fun _ _ _ _ _ => pg_name (i := 4) sc_law_tiers.nd rfl (Or.inl rfl)) (fun _ _ _ _ _ => pts_nil) (fun s0 H0 C0 cl0 fp0 => (by have h := ((pe_dget (hu_of hr) (pv 2) (pv 4) (fun _ _ => rfl)) : PE ((cxOf CX0 P w K mg base ["_law_options_here", "_law_ballot_here", "_law_high_here", "_law_steps", "_law_word", "_law_step"] "_law_tiers" (defScope s_law_tiers) T.f_law_tiers cdv A outer s H E).nox.blk s0 H0 (lcScope (subE (subE (subE (rootE ((defBody s_law_tiers).getD 1 (.Pass ⟨0, 0, 0, 0⟩))) 0) 1) 1)) (compEnvC (lcScope (subE (subE (subE (rootE ((defBody s_law_tiers).getD 1 (.Pass ⟨0, 0, 0, 0⟩))) 0) 1) 1)) cl0 C0 (cxOf CX0 P w K mg base ["_law_options_here", "_law_ballot_here", "_law_high_here", "_law_steps", "_law_word", "_law_step"] "_law_tiers" (defScope s_law_tiers) T.f_law_tiers cdv A outer s H E).nox.env) fp0) (subE (subE (subE (subE (rootE ((defBody s_law_tiers).getD 1 (.Pass ⟨0, 0, 0, 0⟩))) 0) 1) 1) 0) _); dsimp only [Cx.blk, Cx.tr, Cx.suite, Cx.nox, Cx.wish, cxOf] at h; exact h))) pa_nil)) pa_nil))))
 (pss_one
 (ps_ret (pe_callTy call_tuple_of (by rfl) T.z_tuple (by decide +kernel) (pa_cons (pe_lc (own := [("_law_step", 5)]) (g := gName 5) (tt := tYes) rfl sc_law_tiers.nd (pi_list (pv 3)) (blkOk_by (own := [("_law_step", 5)]) (N := ["_law_options_here", "_law_ballot_here", "_law_high_here", "_law_steps", "_law_word", "_law_step"]) (sc := (defScope s_law_tiers)) (by decide +kernel)) (fun _ _ _ _ _ => pg_name (i := 5) sc_law_tiers.nd rfl (Or.inr rfl)) (fun _ _ _ _ _ => pts_nil) (fun s0 H0 C0 cl0 fp0 => (by have h := ((pe_callTy call_tuple_of (by rfl) T.z_tuple (by decide +kernel) (pa_cons (pe_lc (own := [("_law_word", 4)]) (g := gName 4) rfl sc_law_tiers.nd (pi_tup (pv 0)) (blkOk_re (blkOk_by (own := [("_law_word", 4)]) (N := ["_law_options_here", "_law_ballot_here", "_law_high_here", "_law_steps", "_law_word", "_law_step"]) (sc := (lcScope (subE (rootE ((defBody s_law_tiers).getD 2 (.Pass ⟨0, 0, 0, 0⟩))) 1))) (by decide +kernel))) (fun _ _ _ _ _ => pg_name (i := 4) sc_law_tiers.nd rfl (Or.inl rfl)) (fun s1 H1 C1 cl1 fp1 => (by have h := ((pts_one (pt_cmpR op_eq (pe_dget (hu_of hr) (pv 2) (pv 4) (fun _ _ => rfl)) (pv 5) (nomark _))) : PTs (((cxOf CX0 P w K mg base ["_law_options_here", "_law_ballot_here", "_law_high_here", "_law_steps", "_law_word", "_law_step"] "_law_tiers" (defScope s_law_tiers) T.f_law_tiers cdv A outer s H E).nox.blk s0 H0 (lcScope (subE (rootE ((defBody s_law_tiers).getD 2 (.Pass ⟨0, 0, 0, 0⟩))) 1)) (compEnvC (lcScope (subE (rootE ((defBody s_law_tiers).getD 2 (.Pass ⟨0, 0, 0, 0⟩))) 1)) cl0 C0 (cxOf CX0 P w K mg base ["_law_options_here", "_law_ballot_here", "_law_high_here", "_law_steps", "_law_word", "_law_step"] "_law_tiers" (defScope s_law_tiers) T.f_law_tiers cdv A outer s H E).nox.env) fp0).blk s1 H1 (lcScope (subE (subE (subE (rootE ((defBody s_law_tiers).getD 2 (.Pass ⟨0, 0, 0, 0⟩))) 1) 0) 1)) (compEnvC (lcScope (subE (subE (subE (rootE ((defBody s_law_tiers).getD 2 (.Pass ⟨0, 0, 0, 0⟩))) 1) 0) 1)) cl1 C1 ((cxOf CX0 P w K mg base ["_law_options_here", "_law_ballot_here", "_law_high_here", "_law_steps", "_law_word", "_law_step"] "_law_tiers" (defScope s_law_tiers) T.f_law_tiers cdv A outer s H E).nox.blk s0 H0 (lcScope (subE (rootE ((defBody s_law_tiers).getD 2 (.Pass ⟨0, 0, 0, 0⟩))) 1)) (compEnvC (lcScope (subE (rootE ((defBody s_law_tiers).getD 2 (.Pass ⟨0, 0, 0, 0⟩))) 1)) cl0 C0 (cxOf CX0 P w K mg base ["_law_options_here", "_law_ballot_here", "_law_high_here", "_law_steps", "_law_word", "_law_step"] "_law_tiers" (defScope s_law_tiers) T.f_law_tiers cdv A outer s H E).nox.env) fp0).env) fp1) (lcIfs (subE (subE (subE (rootE ((defBody s_law_tiers).getD 2 (.Pass ⟨0, 0, 0, 0⟩))) 1) 0) 1)) _); dsimp only [Cx.blk, Cx.tr, Cx.suite, Cx.nox, Cx.wish, cxOf] at h; exact h)) (fun _ _ _ _ _ => (pv 4))) pa_nil)) : PE ((cxOf CX0 P w K mg base ["_law_options_here", "_law_ballot_here", "_law_high_here", "_law_steps", "_law_word", "_law_step"] "_law_tiers" (defScope s_law_tiers) T.f_law_tiers cdv A outer s H E).nox.blk s0 H0 (lcScope (subE (rootE ((defBody s_law_tiers).getD 2 (.Pass ⟨0, 0, 0, 0⟩))) 1)) (compEnvC (lcScope (subE (rootE ((defBody s_law_tiers).getD 2 (.Pass ⟨0, 0, 0, 0⟩))) 1)) cl0 C0 (cxOf CX0 P w K mg base ["_law_options_here", "_law_ballot_here", "_law_high_here", "_law_steps", "_law_word", "_law_step"] "_law_tiers" (defScope s_law_tiers) T.f_law_tiers cdv A outer s H E).nox.env) fp0) (subE (subE (rootE ((defBody s_law_tiers).getD 2 (.Pass ⟨0, 0, 0, 0⟩))) 1) 0) _); dsimp only [Cx.blk, Cx.tr, Cx.suite, Cx.nox, Cx.wish, cxOf] at h; exact h))) pa_nil)))))), ?_⟩
    refine ⟨.ref o, rfl, .ref t, rfl, o, t, zs, b, rfl, ho, hb, bok, nd, lz, fun D H1 s1 nD eD => ?_⟩
    have ho1 := s1 _ _ ho
    refine ⟨.ref o, rfl, o, rfl, ⟨_, .of ho1⟩, fun L nL => ?_⟩
    refine lc_tup (K := K) (a := o) (xs := zs.map V.str) (fun i H' => Same H1 H' ∧ H' L = some (.lst (((zs.take i).map b.hi).map V.int))) ⟨same_upd nL, upd_same⟩ (fun _ _ _ h => .of (h.1 _ _ ho1)) ?_ ?_
    · rintro i x H2 hi ⟨s2, e2⟩
      obtain ⟨z, hz, rfl⟩ := item_map hi
      have got : DGet H2 D (.str z) (some (.int (b.hi z))) := by
        have := DGet.k (k := .inr z) (s2 _ _ eD)
        rw [tab_val, if_pos (List.mem_of_getElem? hz)] at this
        exact this
      refine ⟨rfl, .ref D, rfl, .str z, rfl, D, _, rfl, got, _, e2, ?_, same_mut s2 nL, ?_⟩
      · rw [List.length_map, List.length_map, List.length_take]
        exact small1000 (by omega)
      · rw [upd_same, take_more hz, List.map_append, List.map_append]
        rfl
    · rintro H2 ⟨s2', e2⟩
      rw [List.length_map, List.take_length] at e2
      refine ⟨L, zs.map b.hi, rfl, .of e2, by rw [List.length_map]; omega, fun p c np lc => ⟨p, _, c, rfl, upd_same, by rw [List.length_map] at lc; omega, fun ms qm rise mem len nq => ⟨qm, _, rfl, .of upd_same, fun q0 nq0 => ?_⟩⟩⟩
      have lev : Lev zs b.hi ms := ⟨rise, fun k => (mem k).trans (by rw [decide_eq_true_iff, List.mem_map])⟩
      have ne : ∀ k ∈ ms.reverse, (zs.filter fun z => decide (b.hi z = k)) ≠ [] := fun k hk => cut_ne lev _ (List.mem_map.mpr ⟨k, List.mem_reverse.mp hk, rfl⟩)
      have lls : ms.reverse.length ≤ 6 := by rw [List.length_map] at lc; rw [List.length_reverse]; omega
      rw [← List.map_reverse]
      have s3 : Same H2 (upd (upd (upd H2 p (SetO w p (fun j => decide (j ∈ zs.map b.hi)) c)) qm (.lst (ms.map V.int))) q0 (.lst (ms.reverse.map V.int))) := ((same_upd np).trans (same_upd nq)).trans (same_upd nq0)
      have hq0 : (upd (upd (upd H2 p (SetO w p (fun j => decide (j ∈ zs.map b.hi)) c)) qm (.lst (ms.map V.int))) q0 (.lst (ms.reverse.map V.int))) q0 = some (.lst (ms.reverse.map V.int)) := upd_same
      generalize upd (upd (upd H2 p (SetO w p (fun j => decide (j ∈ zs.map b.hi)) c)) qm (.lst (ms.map V.int))) q0 (.lst (ms.reverse.map V.int)) = H3 at s3 hq0
      have s2 := s2'.trans s3
      have eD2 := s2 _ _ eD
      have ho2 := s2 _ _ ho1
      clear s3 s2' e2
      generalize H3 = H2 at s2 hq0 eD2 ho2
      refine ⟨.ref q0, rfl, q0, rfl, ⟨_, .of hq0⟩, fun D1 nD1 => ?_⟩
      refine lc_list (K := K) (a := q0) (xs := ms.reverse.map V.int) (fun i H' => ∃ bs : List (Addr × List Str), Same H2 H' ∧ H' D1 = some (.lst (bs.map fun b => V.ref b.1)) ∧ Tiers H' bs ∧ bs.map (·.2) = cutBy zs b.hi (ms.reverse.take i))
        ⟨[], same_upd nD1, upd_same, fun _ h => (by cases h), rfl⟩ (fun _ _ _ ⟨_, h, _⟩ => .of (h _ _ hq0)) ?_ ?_
      · rintro i x H3 hi ⟨bs, s3, e3, t3, m3⟩
        obtain ⟨k, hk, rfl⟩ := item_map hi
        have il : i < ms.reverse.length := (List.getElem?_eq_some_iff.mp hk).1
        have lbs : bs.length ≤ 6 := by
          have := congrArg List.length m3
          unfold cutBy at this
          rw [List.length_map, List.length_map, List.length_take] at this
          omega
        refine ⟨rfl, .ref o, rfl, o, rfl, ⟨_, .of (s3 _ _ ho2)⟩, fun D2 nD2 => ?_⟩
        have ne12 : D1 ≠ D2 := ne_of_none e3 nD2
        refine lc_tup (K := K) (a := o) (xs := zs.map V.str) (fun j H' => Same H3 H' ∧ H' D2 = some (.lst (((zs.take j).filter fun z => decide (b.hi z = k)).map V.str))) ⟨same_upd nD2, upd_same⟩ (fun _ _ _ h => .of (h.1 _ _ (s3 _ _ ho2))) ?_ ?_
        · rintro j x H4 hj ⟨s4, e4⟩
          obtain ⟨z, hz, rfl⟩ := item_map hj
          have got : DGet H4 D (.str z) (some (.int (b.hi z))) := by
            have := DGet.k (k := .inr z) (s4 _ _ (s3 _ _ eD2))
            rw [tab_val, if_pos (List.mem_of_getElem? hz)] at this
            exact this
          have small : (((zs.take j).filter fun z => decide (b.hi z = k)).map V.str).length < sizeLine := by
            rw [List.length_map]
            have := List.length_filter_le (fun z => decide (b.hi z = k)) (zs.take j)
            rw [List.length_take] at this
            exact small1000 (by omega)
          refine ⟨rfl, .ref D, rfl, .str z, rfl, D, _, rfl, got, .int k, rfl, rfl, _, rfl, ?_⟩
          have eb : decide (V.int (b.hi z) = V.int k) = decide (b.hi z = k) := decide_eq_decide.mpr ⟨fun h => V.int.inj h, fun h => by rw [h]⟩
          rw [eb]
          have ft := filter_take (f := fun z => decide (b.hi z = k)) hz
          cases ec : decide (b.hi z = k) with
          | true =>
            rw [if_pos ec] at ft
            refine iteT ⟨.str z, rfl, _, e4, small, same_mut s4 nD2, ?_⟩
            rw [upd_same, ft, List.map_append]
            rfl
          | false =>
            rw [if_neg (by rw [ec]; exact Bool.false_ne_true), List.append_nil] at ft
            refine iteF ⟨s4, ?_⟩
            rw [ft]
            exact e4
        · rintro H4 ⟨s4, e4⟩
          rw [List.length_map, List.take_length] at e4
          refine ⟨D2, _, rfl, .inl ⟨.of e4, fun u nu => ?_⟩⟩
          have s5 := s4.trans (same_upd (o := HO.tup ((zs.filter fun z => decide (b.hi z = k)).map V.str)) nu)
          have eu : (upd H4 u (.tup ((zs.filter fun z => decide (b.hi z = k)).map V.str))) u = some (.tup ((zs.filter fun z => decide (b.hi z = k)).map V.str)) := upd_same
          generalize upd H4 u (.tup ((zs.filter fun z => decide (b.hi z = k)).map V.str)) = H5 at s5 eu
          have e5 := s5 _ _ e3
          have nD1' : H2 D1 = none := nD1
          have uD : u ≠ D1 := fun e => by rw [e, e5] at eu; cases eu
          refine ⟨_, e5, small1000 (by rw [List.length_map]; omega), bs ++ [(u, zs.filter fun z => decide (b.hi z = k))], same_mut (s3.trans s5) nD1, ?_, ?_, ?_⟩
          · rw [upd_same, List.map_append]
            rfl
          · have tt := (t3.same s5).add (b := (u, zs.filter fun z => decide (b.hi z = k))) eu (ne k (List.mem_of_getElem? hk))
            refine fun c hc => ⟨?_, (tt c hc).2⟩
            rw [upd_ne fun e => ?_]
            · exact (tt c hc).1
            · have := (tt c hc).1
              rw [e, e5] at this
              cases this
          · rw [List.map_append, m3, cut_take hk]
            rfl
      · rintro H3 ⟨bs, s3, e3, t3, m3⟩
        rw [List.length_map, List.take_length] at m3
        refine ⟨D1, _, rfl, .inl ⟨.of e3, fun u nu => ?_⟩⟩
        exact q u bs ms _ lev (s1.trans (s2.trans (s3.trans (same_upd nu)))) upd_same (t3.same (same_upd nu)) m3
end
/-! ### what is weighed, in plain words -/
def unI : PyData → Option Int
  | .int i => some i
  | _ => none
def fallI (ns : List Int) : Bool := (ns.zip ns.tail).all fun p => decide (p.2 ≤ p.1)
def weightsD (n : Nat) : PyData → Bool
  | .tuple ds => decide (ds.length = n) && ds.all wholeD && fallI (ds.filterMap unI)
  | _ => false
theorem whole_ints : ∀ {ds : List PyData}, ds.all wholeD = true → ds = (ds.filterMap unI).map PyData.int
  | [], _ => rfl
  | d :: ds, h => by
    rw [List.all_cons, Bool.and_eq_true] at h
    cases d with
    | int z => exact congrArg (PyData.int z :: ·) (whole_ints h.2)
    | _ => cases h.1
theorem unI_ints : ∀ ns : List Int, (ns.map PyData.int).filterMap unI = ns
  | [] => rfl
  | a :: ns => by
    rw [List.map_cons, List.filterMap_cons]
    show a :: (ns.map PyData.int).filterMap unI = a :: ns
    rw [unI_ints ns]
theorem wholes (ns : List Int) : (ns.map PyData.int).all wholeD = true := by
  rw [List.all_map, List.all_eq_true]
  exact fun _ _ => rfl
theorem DAll.of_ints {H : Hp} : ∀ {ns : List Int} {xs : List V}, DAll H (ns.map PyData.int) xs → xs = ns.map V.int
  | [], _, h => h
  | z :: ns, _, ⟨v, r, e, h, g⟩ => by
    rw [e, show v = V.int z from h, DAll.of_ints g] <;> rfl
theorem DAll.ints {H : Hp} : ∀ (ns : List Int), DAll H (ns.map PyData.int) (ns.map V.int)
  | [] => rfl
  | z :: ns => ⟨.int z, _, rfl, rfl, DAll.ints ns⟩
theorem rise_ins (x : Int) : ∀ {ls : List Int}, ls.Pairwise (· < ·) → ∃ ms : List Int, ms.Pairwise (· < ·) ∧ ∀ k, k ∈ ms ↔ k = x ∨ k ∈ ls
  | [], _ => ⟨[x], List.pairwise_singleton _ _, fun k => by simp⟩
  | y :: ls, h => by
    have h2 := List.pairwise_cons.mp h
    rcases Int.lt_trichotomy x y with c | c | c
    · refine ⟨x :: y :: ls, List.pairwise_cons.mpr ⟨fun k hk => ?_, h⟩, fun k => List.mem_cons⟩
      rcases List.mem_cons.mp hk with e | hk
      · omega
      · have := h2.1 k hk
        omega
    · refine ⟨y :: ls, h, fun k => ⟨.inr, fun hk => hk.elim (fun e => ?_) id⟩⟩
      rw [e, c]
      exact List.mem_cons_self
    · obtain ⟨ms, h3, h4⟩ := rise_ins x h2.2
      refine ⟨y :: ms, List.pairwise_cons.mpr ⟨fun k hk => ?_, h3⟩, fun k => ?_⟩
      · rcases (h4 k).mp hk with e | hk
        · omega
        · exact h2.1 k hk
      · rw [List.mem_cons, h4, List.mem_cons]
        constructor
        · rintro (e | e | e)
          · exact .inr (.inl e)
          · exact .inl e
          · exact .inr (.inr e)
        · rintro (e | e | e)
          · exact .inr (.inl e)
          · exact .inl e
          · exact .inr (.inr e)
theorem lev_any (f : Str → Int) : ∀ zs : List Str, ∃ ls, Lev zs f ls
  | [] => ⟨[], List.Pairwise.nil, fun k => ⟨fun h => (by cases h), fun ⟨_, h, _⟩ => (by cases h)⟩⟩
  | z :: zs => by
    obtain ⟨ls, h1, h2⟩ := lev_any f zs
    obtain ⟨ms, h3, h4⟩ := rise_ins (f z) h1
    refine ⟨ms, h3, fun k => ?_⟩
    rw [h4, h2]
    constructor
    · rintro (e | ⟨y, hy, e⟩)
      · exact ⟨z, List.mem_cons_self, e.symm⟩
      · exact ⟨y, List.mem_cons_of_mem _ hy, e⟩
    · rintro ⟨y, hy, e⟩
      rcases List.mem_cons.mp hy with c | hy
      · exact .inl (by rw [← e, c])
      · exact .inr ⟨y, hy, e⟩
/-- the tiers of a ballot -/
noncomputable def tiersOf (zs : List Str) (b : Bal) : List (List Str) := by
  classical
  exact if h : ∃ ls, Lev zs b.rk ls then cutBy zs b.rk (Classical.choose h) else []
theorem tiersOf_eq {zs : List Str} {b : Bal} {ls : List Int} (h : Lev zs b.rk ls) : tiersOf zs b = cutBy zs b.rk ls := by
  have e : ∃ ls, Lev zs b.rk ls := ⟨ls, h⟩
  unfold tiersOf
  rw [dif_pos e, (Classical.choose_spec e).uniq h]
/-- what a tier at a place brings each of its options -/
def meanW (ws : List Int) (m : Int) (at0 : Nat) (t : List Str) : Int × Int := low (m * ((ws.drop at0).take t.length).sum) (t.length : Int)
def stepW (ws : List Int) (m : Int) (z : Str) (st : Nat × (Int × Int)) (t : List Str) : Nat × (Int × Int) := (st.1 + t.length, if z ∈ t then addL st.2 (meanW ws m st.1 t) else st.2)
def rowW (ws : List Int) (m : Int) (z : Str) (acc : Int × Int) (ts : List (List Str)) : Nat × (Int × Int) := ts.foldl (stepW ws m z) (0, acc)
noncomputable def sumW (zs : List Str) (ws : List Int) (rows : List (Bal × Int)) (z : Str) : Int × Int := rows.foldl (fun acc r => (rowW ws r.2 z acc (tiersOf zs r.1)).2) (0, 1)
def offW (ts : List (List Str)) : Nat := (ts.map List.length).sum
theorem off_more {ts : List (List Str)} {j : Nat} {t : List Str} (h : ts[j]? = some t) : offW (ts.take (j + 1)) = offW (ts.take j) + t.length := by
  unfold offW
  rw [take_more h, List.map_append, List.sum_append]
  simp
theorem row_fst {ws : List Int} {m : Int} {z : Str} {acc : Int × Int} : ∀ (ts : List (List Str)) (k : Nat), (ts.foldl (stepW ws m z) (k, acc)).1 = k + offW ts ∧ True := by
  intro ts
  induction ts generalizing acc with
  | nil => exact fun k => ⟨rfl, trivial⟩
  | cons t ts ih =>
    intro k
    refine ⟨?_, trivial⟩
    show (ts.foldl (stepW ws m z) (k + t.length, if z ∈ t then addL acc (meanW ws m k t) else acc)).1 = k + ((t :: ts).map List.length).sum
    rw [(ih (k + t.length)).1, List.map_cons, List.sum_cons]
    unfold offW
    omega
theorem row_more {ws : List Int} {m : Int} {z : Str} {acc : Int × Int} {ts : List (List Str)} {j : Nat} {t : List Str} (h : ts[j]? = some t) :
    (rowW ws m z acc (ts.take (j + 1))).2 = if z ∈ t then addL (rowW ws m z acc (ts.take j)).2 (meanW ws m (offW (ts.take j)) t) else (rowW ws m z acc (ts.take j)).2 := by
  unfold rowW
  rw [take_more h, List.foldl_append]
  show (stepW ws m z ((ts.take j).foldl (stepW ws m z) (0, acc)) t).2 = _
  unfold stepW
  have e := (row_fst (ws := ws) (m := m) (z := z) (acc := acc) (ts.take j) 0).1
  rw [Nat.zero_add] at e
  unfold stepW at e
  rw [e]
theorem sum_more {zs : List Str} {ws : List Int} {rows : List (Bal × Int)} {i : Nat} {r : Bal × Int} (h : rows[i]? = some r) (z : Str) : sumW zs ws (rows.take (i + 1)) z = (rowW ws r.2 z (sumW zs ws (rows.take i) z) (tiersOf zs r.1)).2 := by
  unfold sumW
  rw [take_more h, List.foldl_append]
  rfl
theorem sum_small {k : Nat} : ∀ {l : List Int}, (∀ x ∈ l, x.natAbs < 2 ^ k) → l.sum.natAbs ≤ l.length * 2 ^ k
  | [], _ => Nat.zero_le _
  | a :: l, h => by
    have h1 := h a List.mem_cons_self
    have h2 := sum_small fun x hx => h x (List.mem_cons_of_mem _ hx)
    rw [List.sum_cons, List.length_cons, Nat.succ_mul]
    omega
theorem sum_bits {l : List Int} (h : ∀ x ∈ l, x.natAbs < 2 ^ 101) (n : l.length ≤ 7) : l.sum.natAbs < 2 ^ 104 := by
  have h1 := sum_small h
  have h2 : l.length * 2 ^ 101 ≤ 7 * 2 ^ 101 := Nat.mul_le_mul_right _ n
  have h3 : 7 * 2 ^ 101 < 2 ^ 104 := by decide
  omega
theorem part_bits {ws : List Int} (h : ∀ x ∈ ws, x.natAbs < 2 ^ 101) (a n : Nat) (hn : n ≤ 7) : ((ws.drop a).take n).sum.natAbs < 2 ^ 104 :=
  sum_bits (fun x hx => h x (List.mem_of_mem_drop (List.mem_of_mem_take hx))) (Nat.le_trans (List.length_take_le _ _) hn)
theorem mean_pos {ws : List Int} {m : Int} {at0 : Nat} {t : List Str} (h : t ≠ []) : 0 < (meanW ws m at0 t).2 := by
  have := List.length_pos_iff.mpr h
  exact (low_red (show (t.length : Int) ≠ 0 by omega)).1
theorem mean_bd {ws : List Int} {m : Int} {at0 : Nat} {t : List Str} (h : t ≠ []) (n : t.length ≤ 7) (hw : ∀ x ∈ ws, x.natAbs < 2 ^ 101) (hm : m.natAbs < 2 ^ 20) : Bd 125 (meanW ws m at0 t) := by
  have := List.length_pos_iff.mpr h
  refine bd_low (by omega) ?_ ?_
  · exact Nat.lt_of_lt_of_le (mul_lt hm (part_bits hw at0 t.length n)) (Nat.pow_le_pow_right (by decide) (by decide))
  · have e : (2 : Nat) ^ 125 = 2 ^ 3 * 2 ^ 122 := by rw [← Nat.pow_add]
    have p : 1 ≤ (2 : Nat) ^ 122 := Nat.one_le_two_pow
    rw [e]
    omega
/-- the law's own step is the same -/
theorem low_step {p : Int × Int} {a b : Int} (hp : 0 < p.2) (hb : 0 < b) : low (p.1 * b + a * p.2) (p.2 * b) = addL p (low a b) := by
  obtain ⟨e1, e2⟩ := low_eqs a b
  have h0 : b ≠ 0 := by omega
  have hr := (low_red (a := a) h0).1
  have hc := cg_ne (a := a) h0
  unfold addL
  generalize low a b = q at e1 e2 hr
  generalize cg a b = c at e1 e2 hc
  refine low_cross ?_ ?_ ?_
  · have := Int.mul_pos hp hb
    omega
  · have := Int.mul_pos hp hr
    omega
  · subst e1
    subst e2
    rw [Int.add_mul, Int.add_mul]
    refine congr (congrArg _ ?_) ?_ <;> ac_rfl
theorem cut_part {xs : List V} (a n : Nat) : cutV xs (some (a : Int)) (some ((a : Int) + (n : Int))) = (xs.drop a).take n := by
  have e2 : HT.sIx xs.length 0 (some (a : Int)) = min a xs.length := by
    show (if (a : Int) < 0 then ((a : Int) + (xs.length : Int)).toNat else min (a : Int).toNat xs.length) = min a xs.length
    rw [if_neg (by omega)]
    omega
  have e3 : HT.sIx xs.length xs.length (some ((a : Int) + (n : Int))) = min (a + n) xs.length := by
    show (if (a : Int) + (n : Int) < 0 then ((a : Int) + (n : Int) + (xs.length : Int)).toNat else min ((a : Int) + (n : Int)).toNat xs.length) = min (a + n) xs.length
    rw [if_neg (by omega)]
    omega
  unfold cutV
  rw [e2, e3]
  by_cases h : a ≤ xs.length
  · rw [Nat.min_eq_left h]
    by_cases g : a + n ≤ xs.length
    · rw [Nat.min_eq_left g, Nat.add_sub_cancel_left]
    · rw [Nat.min_eq_right (by omega), List.take_of_length_le (by rw [List.length_drop]; exact Nat.le_refl _), List.take_of_length_le (by rw [List.length_drop]; omega)]
  · have e1 : min a xs.length = xs.length := Nat.min_eq_right (by omega)
    have e4 : min (a + n) xs.length = xs.length := Nat.min_eq_right (by omega)
    rw [e1, e4, List.drop_eq_nil_of_le (Nat.le_refl _), List.drop_eq_nil_of_le (by omega), List.take_nil, List.take_nil]
/-! ### a dict of names, each with the address of its share -/
def tabR (zs : List Str) (g : Str → Addr) : List (Key × V) := zs.map fun z => (.inr z, .ref (g z))
theorem tabR_val (f : Str → Addr) (z : Str) : ∀ zs : List Str, valV (tabR zs f) (.inr z) = if z ∈ zs then some (.ref (f z)) else none
  | [] => rfl
  | a :: zs => by
    by_cases e : a = z
    · subst e
      rw [if_pos List.mem_cons_self]
      exact valV_pos (p := (Sum.inr a, V.ref (f a))) (r := tabR zs f) rfl
    · have h : valV (tabR (a :: zs) f) (.inr z) = valV (tabR zs f) (.inr z) := valV_neg (p := (Sum.inr a, V.ref (f a))) (r := tabR zs f) (fun q => e (Sum.inr.inj q))
      rw [h, tabR_val f z zs]
      by_cases m : z ∈ zs
      · rw [if_pos m, if_pos (List.mem_cons_of_mem _ m)]
      · rw [if_neg m, if_neg (fun q => (List.mem_cons.mp q).elim (fun q => e q.symm) m)]
theorem tabR_len (zs : List Str) (f : Str → Addr) : (tabR zs f).length = zs.length := List.length_map ..
theorem tabR_congr {zs : List Str} {f g : Str → Addr} (h : ∀ z ∈ zs, f z = g z) : tabR zs f = tabR zs g := List.map_congr_left fun z hz => by rw [h z hz]
theorem tabR_new {zs : List Str} {f : Str → Addr} {z : Str} {a : Addr} (h : z ∉ zs) : putK (tabR zs f) (.inr z) (.ref a) = tabR (zs ++ [z]) (fun y => if y = z then a else f y) := by
  rw [putK_new _ (by rw [tabR_val, if_neg h])]
  have e : tabR zs f = tabR zs (fun y => if y = z then a else f y) := tabR_congr fun y hy => (if_neg fun q : y = z => h (by rw [← q]; exact hy)).symm
  rw [e]
  unfold tabR
  rw [List.map_append]
  show _ ++ [(Sum.inr z, V.ref a)] = _ ++ [(Sum.inr z, V.ref (if z = z then a else f z))]
  rw [if_pos rfl]
theorem tabR_put {zs : List Str} {f : Str → Addr} {z : Str} {a : Addr} (h : z ∈ zs) : putK (tabR zs f) (.inr z) (.ref a) = tabR zs (fun y => if y = z then a else f y) := by
  have b : ((tabR zs f).any fun kv => decide (kv.1 = (.inr z : Key))) = true := by rw [valV_any, tabR_val, if_pos h]; rfl
  unfold putK
  rw [if_pos b]
  unfold tabR
  rw [List.map_map]
  refine List.map_congr_left fun y _ => ?_
  show (if (Sum.inr y : Key) = .inr z then ((Sum.inr y : Key), V.ref a) else (.inr y, .ref (f y))) = (.inr y, .ref (if y = z then a else f y))
  by_cases e : y = z
  · rw [if_pos (congrArg Sum.inr e), if_pos e]
  · rw [if_neg (fun q => e (Sum.inr.inj q)), if_neg e]
/-! ### refusals: PollError's and NoShare's __init__ -/
theorem fld_putF2 (n o : V) : putF "over" o (putF "num" n []) = ([("num", n), ("over", o)] : List (Str × V)) := by
  have h : ¬ (("num" : Str) = "over") := by decide +kernel
  show (if ("num" : Str) = "over" then [(("num" : Str), o)] else (("num" : Str), n) :: putF "over" o []) = ([("num", n), ("over", o)] : List (Str × V))
  rw [if_neg h] <;> rfl
/-- a share's fields -/
def shF (r : Int × Int) : List (Str × V) := putF "over" (.int r.2) (putF "num" (.int r.1) [])
theorem shF_num (r : Int × Int) : (shF r).lookup ("num" : Str) = some (.int r.1) := by
  unfold shF
  rw [lookup_putF, if_neg (by decide +kernel), lookup_putF, if_pos rfl]
theorem shF_over (r : Int × Int) : (shF r).lookup ("over" : Str) = some (.int r.2) := by
  unfold shF
  rw [lookup_putF, if_pos rfl]
theorem shF_no (r : Int × Int) {m : Str} (h1 : ¬ m = "over") (h2 : ¬ m = "num") : (shF r).lookup m = none := by
  unfold shF
  rw [lookup_putF, if_neg h1, lookup_putF, if_neg h2] <;> rfl
/-- the share r stands at p -/
def ShAt (C : Addr) (H : Hp) (p : Addr) (r : Int × Int) : Prop := ∃ dx, H p = some (.ins C dx (shF r))
theorem ShAt.same {C : Addr} {H H' : Hp} {p : Addr} {r : Int × Int} (s : Same H H') (h : ShAt C H p r) : ShAt C H' p r := by
  obtain ⟨dx, h⟩ := h
  exact ⟨dx, s _ _ h⟩
/-- the dict of a NoShare -/
def NoF (n : Int) (fs : List (Str × V)) : Prop := fs.lookup ("num" : Str) = some (.int n) ∧ fs.lookup ("over" : Str) = some (.int 0)
section
variable {P : Program} {w : World} {K : PySem.W.Frag} {mg : Str → Option Value} {base : Heap}
def sp_NoShare_init (K : PySem.W.Frag) (C : Addr) : Sp := fun vs H Q _ => ∃ (a : Addr) (n o : Int), vs = [.ref a, .int n, .int o] ∧ H a = some (exo a C none) ∧
  ∀ (dx : Addr) (z : Str) (H' : Hp), H dx = none → dx ≠ a → But a H H' → H' a = some (exo a C (some dx)) → H' dx = some (exd dx [("over", .int o), ("num", .int n), ("why", .str z)]) → Q .non H'
theorem ok_NoShare_init (T : Txt K mg) : FnOk P w K mg base CX0 2 T.f_NoShare_init T.fd_NoShare_init ["self", "num", "over"] (sp_NoShare_init K T.C_NoShare) := by
  refine T.F_NoShare_init.ok sc_NoShare_init (fun vs H Q E h => ?_) (fun cdv A outer s H vs Q E hr h => ?_)
  · obtain ⟨a, n, o, rfl, _⟩ := h
    rfl
  · obtain ⟨a, n, o, rfl, ha, q⟩ := h
    refine ⟨_, (pss_cons
 (ps_expr (pcl_pos (by rfl) T.k_PollError T.rd_PollError T.ga_PollError T.fc_PollError_init T.F_PollError_init.kp (ok_PollError_init T) (hr.mono (by decide)) T.kb_PollError_init_2 (fun σ => at0 σ) (pa_cons (pv 0) (pa_cons pe_str pa_nil))))
 (pss_cons
 (ps_ost (pv 0) (pv 1))
 (pss_one
 (ps_ost (pv 0) (pv 2))))), ?_⟩
    refine ⟨.ref a, rfl, rfl, rfl, a, T.C_NoShare, _, rfl, ha, T.ox_NoShare, T.nf_NoShare_why, fun dx n1 n2 => ?_⟩
    have h1 : (upd (upd H dx (exd dx [("why", V.str "no share over nought")])) a (exo a T.C_NoShare (some dx))) a = some (exo a T.C_NoShare (some dx)) := upd_same
    have h2 : (upd (upd H dx (exd dx [("why", V.str "no share over nought")])) a (exo a T.C_NoShare (some dx))) dx = some (exd dx [("why", V.str "no share over nought")]) := by rw [upd_ne n2, upd_same]
    refine ⟨.int n, rfl, .ref a, rfl, a, T.C_NoShare, rfl, T.ox_NoShare, T.nf_NoShare_num, .inr ⟨dx, _, h1, h2, (by show 1 ≤ 900; decide), ?_⟩⟩
    refine ⟨.int o, rfl, .ref a, rfl, a, T.C_NoShare, rfl, T.ox_NoShare, T.nf_NoShare_over, .inr ⟨dx, _, by rw [upd_ne n2.symm]; exact h1, upd_same, (by show 2 ≤ 900; decide), ?_⟩⟩
    refine q dx _ _ n1 n2 (fun b x hb hx => ?_) (by rw [upd_ne n2.symm, upd_ne n2.symm]; exact h1) upd_same
    have hbd : b ≠ dx := ne_of_none hx n1
    rw [upd_ne hbd, upd_ne hbd, upd_ne hb, upd_ne hbd]
    exact hx
/-! ### a share is made -/
def sp_Share_init (C CN : Addr) : Sp := fun vs H Q E => ∃ (p dx : Addr) (a b : Int) (m : Nat), vs = [.ref p, .int a, .int b] ∧ H p = some (.ins C dx []) ∧ b.natAbs < 2 ^ m ∧ 0 < m ∧ m ≤ 9000 ∧
  (b = 0 → ∀ (d : Addr) (fs : List (Str × V)) (H' : Hp), Same H H' → H d = none → H' d = some (.xd fs) → NoF a fs → E (.ref CN) (some d) H') ∧
  (b ≠ 0 → ∀ H', But p H H' → H' p = some (.ins C dx (shF (low a b))) → Q .non H')
theorem ok_Share_init (T : Txt K mg) : FnOk P w K mg base (L2.CX P w) 4 T.f_Share_init T.fd_Share_init ["self", "num", "over"] (sp_Share_init T.C_Share T.C_NoShare) := by
  refine T.F_Share_init.ok (CX := L2.CX P w) sc_Share_init (fun vs H Q E h => ?_) (fun cdv A outer s H vs Q E hr h => ?_)
  · obtain ⟨p, dx, a, b, m, rfl, _⟩ := h
    rfl
  · obtain ⟨p, dx, a, b, m, rfl, hp, hm, hm0, hm9, q0, q1⟩ := h
    refine ⟨_, (pss_cons
 (ps_if (pt_cmpR op_eq (pv 2) pe_int (nomark _))
 (pss_one
 (ps_raise rfl (takes_of rfl rfl rfl rfl) (px_both T.ex_NoShare (ok_NoShare_init T) (hr.mono (by decide)) (by rfl) T.k_NoShare T.kb_NoShare_init_2_over (fun σ => at0 σ) (pa_cons (pv 1) pa_nil) (pk_cons pe_int pk_nil))))
 pss_nil)
 (pss_cons
 (ps_set (i := 3) sc_Share_init.nd rfl (Or.inl rfl) (pe_callBfun cr_gcd (by rfl) T.gcd (pa_cons (pv 1) (pa_cons (pv 2) pa_nil))))
 (pss_cons
 (ps_if (pt_cmpR op_lt (pv 2) pe_int (nomark _))
 (pss_one
 (ps_set (i := 3) sc_Share_init.nd rfl (Or.inl rfl) (pe_un un_neg (pv 3))))
 pss_nil)
 (pss_cons
 (ps_fld (pv 0) (pe_op op_fdivX (pv 1) (pv 3)) rfl)
 (pss_one
 (ps_fld (pv 0) (pe_op op_fdivX (pv 2) (pv 3)) rfl)))))), ?_⟩
    refine ⟨.int b, rfl, rfl, _, rfl, ite2 (fun e => ?_) (fun e => ?_)⟩
    · have hb : b = 0 := V.int.inj (of_decide_eq_true e)
      refine ⟨.int a, rfl, rfl, rfl, by decide, fun x nx => ?_⟩
      refine ⟨x, a, 0, rfl, upd_same, fun dy z H' n1 n2 bt e1 e2 => ⟨rfl, dy, _, e1, e2, ?_, ?_⟩⟩
      · rw [upd_ne n2] at n1
        exact n1
      · rw [upd_ne n2] at n1
        refine q0 hb dy _ _ (fun y o ho => ?_) n1 upd_same ⟨rfl, rfl⟩
        have y1 : y ≠ dy := ne_of_none ho n1
        have y2 : y ≠ x := ne_of_none ho nx
        rw [upd_ne y1, del_ne y2]
        exact bt y o y2 (by rw [upd_ne y2]; exact ho)
    · have hb : b ≠ 0 := fun z => e (by rw [z]; exact decide_eq_true rfl)
      have hc0 := cg_ne (a := a) hb
      have hcl : (cg a b).natAbs < 2 ^ m := Nat.lt_of_le_of_lt (cg_le hb) hm
      refine ⟨.int a, rfl, .int b, rfl, a, b, rfl, .int b, rfl, b, 0, rfl, rfl, _, rfl, ite2 (fun e2 => ?_) (fun e2 => ?_)⟩
      · have ec : cg a b = -((Nat.gcd a.natAbs b.natAbs : Nat) : Int) := if_pos (of_decide_eq_true e2)
        refine ⟨_, rfl, _, rfl, ?_⟩
        refine ⟨.int a, rfl,   .int (cg a b), (by rw [ec]; rfl), a, _, rfl, rfl, div_ok hc0 hcl hm0 hm9, .ref p, rfl, p, T.C_Share, dx, [], rfl, hp, T.cl_Share, T.n_Share_num, by decide, ?_⟩
        refine ⟨.int b, rfl, .int (cg a b), (by rw [ec]; rfl), b, _, rfl, rfl, div_ok hc0 hcl hm0 hm9, .ref p, rfl, p, T.C_Share, dx, _, rfl, upd_same, T.cl_Share, T.n_Share_over, (by show 1 < 1000; decide), ?_⟩
        refine q1 hb _ (fun y o hy ho => ?_) upd_same
        rw [upd_ne hy, upd_ne hy]
        exact ho
      · have ec : cg a b = ((Nat.gcd a.natAbs b.natAbs : Nat) : Int) := if_neg (fun z => e2 (decide_eq_true z))
        refine ⟨.int a, rfl,   .int (cg a b), (by rw [ec]; rfl), a, _, rfl, rfl, div_ok hc0 hcl hm0 hm9, .ref p, rfl, p, T.C_Share, dx, [], rfl, hp, T.cl_Share, T.n_Share_num, by decide, ?_⟩
        refine ⟨.int b, rfl, .int (cg a b), (by rw [ec]; rfl), b, _, rfl, rfl, div_ok hc0 hcl hm0 hm9, .ref p, rfl, p, T.C_Share, dx, _, rfl, upd_same, T.cl_Share, T.n_Share_over, (by show 1 < 1000; decide), ?_⟩
        refine q1 hb _ (fun y o hy ho => ?_) upd_same
        rw [upd_ne hy, upd_ne hy]
        exact ho
end
/-! ### what a share does: plus -/
theorem made_same {H H' : Hp} {a dx : Addr} {o u : HO} (n1 : H a = none) (n2 : H dx = none) (b : But a (upd (upd H dx u) a o) H') : Same H H' := fun y x h => by
  have y1 : y ≠ a := ne_of_none h n1
  exact b y x y1 (by rw [upd_ne y1, upd_ne (ne_of_none h n2)]; exact h)
theorem prod_bd {a b : Int} {n m : Nat} (ha : a.natAbs < 2 ^ n) (hb : b.natAbs < 2 ^ m) (h : n + m + 1 ≤ 8000) : (a * b).natAbs < 2 ^ 8001 :=
  Nat.lt_of_lt_of_le (mul_lt ha hb) (Nat.pow_le_pow_right (by decide) (by omega))
theorem low01 : low 0 1 = (0, 1) := by decide
section
variable {P : Program} {w : World} {K : PySem.W.Frag} {mg : Str → Option Value} {base : Heap}
/-- an operation of two shares -/
def sp_bin (C : Addr) (f : Int × Int → Int × Int → Int × Int) : Sp := fun vs H Q _ => ∃ (p q : Addr) (r s : Int × Int) (n m : Nat), vs = [.ref p, .ref q] ∧ ShAt C H p r ∧ ShAt C H q s ∧ Bd n r ∧ Bd m s ∧ 0 < r.2 ∧ 0 < s.2 ∧ n + m + 1 ≤ 8000 ∧
  ∀ (x : Addr) (H' : Hp), Same H H' → H x = none → ShAt C H' x (low (f r s).1 (f r s).2) → Q (.ref x) H'
theorem ok_Share_plus (T : Txt K mg) : FnOk P w K mg base CX0 6 T.f_Share_plus T.fd_Share_plus ["self", "other"] (sp_bin T.C_Share fun r s => (r.1 * s.2 + s.1 * r.2, r.2 * s.2)) := by
  refine T.F_Share_plus.ok sc_Share_plus (fun vs H Q E h => ?_) (fun cdv A outer s H vs Q E hr h => ?_)
  · obtain ⟨p, q, r, s, n, m, rfl, _⟩ := h
    rfl
  · obtain ⟨p, q, r, s, n, m, rfl, ⟨dp, hp⟩, ⟨dq, hq⟩, br, bs, r0, s0, hnm, h⟩ := h
    refine ⟨_, (pss_one
 (ps_ret (pc_pos T.mk_Share (ok_Share_init T) (hr.mono (by decide)) (by rfl) T.k_Share T.kb_Share_init_3 (fun σ => atN σ) (pa_cons (pe_op op_add (pe_op op_mulW (pe_fld (pv 0) rfl) (pe_fld (pv 1) rfl)) (pe_op op_mulW (pe_fld (pv 1) rfl) (pe_fld (pv 0) rfl))) (pa_cons (pe_op op_mulW (pe_fld (pv 0) rfl) (pe_fld (pv 1) rfl)) pa_nil))))), ?_⟩
    refine ⟨.ref p, rfl, p, T.C_Share, dp, _, .int r.1, rfl, hp, T.cl_Share, T.n_Share_num, shF_num r, .ref q, rfl, q, T.C_Share, dq, _, .int s.2, rfl, hq, T.cl_Share, T.n_Share_over, shF_over s, _, _, rfl, rfl, mulOk br.1 bs.2 hnm, ?_⟩
    refine ⟨.ref q, rfl, q, T.C_Share, dq, _, .int s.1, rfl, hq, T.cl_Share, T.n_Share_num, shF_num s, .ref p, rfl, p, T.C_Share, dp, _, .int r.2, rfl, hp, T.cl_Share, T.n_Share_over, shF_over r, _, _, rfl, rfl, mulOk bs.1 br.2 (by omega), _, _, rfl, rfl, ?_⟩
    refine ⟨.ref p, rfl, p, T.C_Share, dp, _, .int r.2, rfl, hp, T.cl_Share, T.n_Share_over, shF_over r, .ref q, rfl, q, T.C_Share, dq, _, .int s.2, rfl, hq, T.cl_Share, T.n_Share_over, shF_over s, _, _, rfl, rfl, mulOk br.2 bs.2 hnm, ?_⟩
    have hne : r.2 * s.2 ≠ 0 := by have := Int.mul_pos r0 s0; omega
    refine ⟨rfl, rfl, fun a dx n1 n2 n3 => ⟨a, dx, _, _, 8001, rfl, upd_same, prod_bd br.2 bs.2 hnm, by decide, by decide, fun z => absurd z hne, fun _ H' bt e => ⟨rfl, ?_⟩⟩⟩
    exact h a H' (made_same n1 n2 bt) n1 ⟨dx, e⟩
end
section
variable {P : Program} {w : World} {K : PySem.W.Frag} {mg : Str → Option Value} {base : Heap}
/-! ### weights, or none -/
def sp_are_weights : Sp := fun vs H Q _ => ∃ (o : Addr) (zs : List Str) (v : V) (d : PyData), vs = [.ref o, v] ∧ H o = some (.tup (zs.map V.str)) ∧ DAt H d v ∧ (parts d).length ≤ 20 ∧ ∀ H', Same H H' → Q (.bl (weightsD zs.length d)) H'
theorem ok_are_weights (T : Txt K mg) : FnOk P w K mg base CX0 2 T.f_are_weights T.fd_are_weights ["options", "thing"] sp_are_weights := by
  refine T.F_are_weights.ok sc_are_weights (fun vs H Q E h => ?_) (fun cdv A outer s H vs Q E hr h => ?_)
  · obtain ⟨o, zs, v, d, rfl, _⟩ := h
    rfl
  · obtain ⟨o, zs, v, d, rfl, ho, hd, l20, q⟩ := h
    refine ⟨_, (pss_cons
 (ps_if (PW.pt (pw_or (pt_not (pt_val (pe_call (ok_is_tuple_of T) (hr.mono (by decide)) (by rfl) T.g_is_tuple_of T.F_is_tuple_of.kp T.b_is_tuple_of .nil pass0 (pa_cons (pv 1) (pa_cons (pe_callB call_len_seq (by rfl) T.z_len (by decide +kernel) (pa_cons (pv 0) pa_nil)) pa_nil))))) (pw_or1 (pt_not (pt_val (pe_callB (cr_all rfl) (by rfl) T.z_all (by decide +kernel) (pa_cons (pe_lc (own := [("weight", 2)]) (g := gName 2) (tt := tYes) rfl sc_are_weights.nd (pi_tup (pv 1)) (blkOk_by (own := [("weight", 2)]) (N := ["options", "thing", "weight", "before"]) (sc := (defScope s_are_weights)) (by decide +kernel)) (fun _ _ _ _ _ => pg_name (i := 2) sc_are_weights.nd rfl (Or.inl rfl)) (fun _ _ _ _ _ => pts_nil) (fun _ _ _ _ _ => (pe_call (ok_is_whole T) (hr.mono (by decide)) (by rfl) T.g_is_whole T.F_is_whole.kp T.b_is_whole .nil pass0 (pa_cons (pv 2) pa_nil)))) pa_nil)))))))
 (pss_one
 (ps_ret pe_bl))
 pss_nil)
 (pss_one
 (ps_ret (pe_callB (cr_all rfl) (by rfl) T.z_all (by decide +kernel) (pa_cons (pe_lc (own := [("before", 3), ("weight", 2)]) (tt := tYes) rfl sc_are_weights.nd (RZ.pi_zipA (by rfl) T.z_zip (pa_cons (pv 1) (pa_cons (pe_slice sl_tupA (pv 1) (po_some pe_int) po_none) pa_nil))) (blkOk_by (own := [("before", 3), ("weight", 2)]) (N := ["options", "thing", "weight", "before"]) (sc := (defScope s_are_weights)) (by decide +kernel)) (fun s0 H0 C0 cl0 fp0 => (by have h := (pg_tup (n := 2) rfl (pgs_cons (pg_name (i := 3) sc_are_weights.nd rfl (Or.inl rfl)) (pgs_cons (pg_name (i := 2) sc_are_weights.nd rfl (Or.inl rfl)) pgs_nil)) : PG ((cxOf CX0 P w K mg base ["options", "thing", "weight", "before"] "are_weights" (defScope s_are_weights) T.f_are_weights cdv A outer s H E).nox.blk s0 H0 (lcScope (subE (rootE ((defBody s_are_weights).getD 1 (.Pass ⟨0, 0, 0, 0⟩))) 1)) (compEnvC (lcScope (subE (rootE ((defBody s_are_weights).getD 1 (.Pass ⟨0, 0, 0, 0⟩))) 1)) cl0 C0 (cxOf CX0 P w K mg base ["options", "thing", "weight", "before"] "are_weights" (defScope s_are_weights) T.f_are_weights cdv A outer s H E).nox.env) fp0) (subE (subE (rootE ((defBody s_are_weights).getD 1 (.Pass ⟨0, 0, 0, 0⟩))) 1) 2) _); dsimp only [Cx.blk, Cx.tr, Cx.suite, Cx.nox, Cx.wish, cxOf] at h; exact h)) (fun _ _ _ _ _ => pts_nil) (fun _ _ _ _ _ => (pe_cmpR op_le (pv 2) (pv 3) (nomark _)))) pa_nil))))), ?_⟩
    refine ⟨v, rfl, .ref o, rfl, o, _, rfl, .inr (.of ho), v, (zs.map V.str).length, d, rfl, hd, _, rfl, ?_⟩
    rw [List.length_map]
    have no : tupD d zs.length = false → weightsD zs.length d = false := fun h => by
      cases d with
      | tuple ds =>
        show (decide (ds.length = zs.length) && ds.all wholeD && fallI (ds.filterMap unI)) = false
        rw [show decide (ds.length = zs.length) = false from h] <;> rfl
      | _ => rfl
    cases hb : tupD d zs.length with
    | false =>
      have := q H (Same.refl _)
      rw [no hb] at this
      exact iteT this
    | true =>
      obtain ⟨ds, rfl⟩ : ∃ ds, d = .tuple ds := by
        cases d with
        | tuple ds => exact ⟨ds, rfl⟩
        | _ => cases hb
      have l20 : ds.length ≤ 20 := l20
      obtain ⟨t, xs, rfl, ht, ha⟩ := hd
      have lx : xs.length = ds.length := ha.len
      refine iteF ⟨.ref t, rfl, t, rfl, ⟨_, .of ht⟩, fun D nD => ?_⟩
      refine lc_tup (K := K) (a := t) (xs := xs) (fun i H' => Same H H' ∧ H' D = some (.lst (((ds.take i).map wholeD).map V.bl))) ⟨same_upd nD, upd_same⟩ (fun _ _ _ h => .of (h.1 _ _ ht)) ?_ ?_
      · rintro i x H1 hi ⟨s1, e1⟩
        obtain ⟨kk, hkk, hx⟩ := ha.get hi
        refine ⟨rfl, x, rfl, x, kk, rfl, DAt.same s1 _ hx, _, e1, ?_, same_mut s1 nD, ?_⟩
        · rw [List.length_map, List.length_map, List.length_take]
          exact small1000 (by omega)
        · rw [upd_same, take_more hkk, List.map_append, List.map_append]
          rfl
      · rintro H1 ⟨s1, e1⟩
        rw [lx, List.take_length] at e1
        refine ⟨D, _, rfl, .of e1, _, rfl, ?_⟩
        have ea : (ds.map wholeD).all id = ds.all wholeD := by rw [List.all_map]; rfl
        rw [ea]
        have ew : weightsD zs.length (.tuple ds) = (ds.all wholeD && fallI (ds.filterMap unI)) := by
          show (decide (ds.length = zs.length) && ds.all wholeD && fallI (ds.filterMap unI)) = _
          rw [show decide (ds.length = zs.length) = true from hb, Bool.true_and]
        rw [ew] at q
        cases hs : ds.all wholeD with
        | false =>
          rw [hs] at q
          exact iteT (q _ s1)
        | true =>
          rw [hs] at q
          refine iteF ?_
          have es := whole_ints hs
          generalize hns : ds.filterMap unI = ns at es q
          have ex : xs = ns.map V.int := by rw [es] at ha; exact ha.of_ints
          have ln : ns.length ≤ 20 := by
            have := congrArg List.length es
            rw [List.length_map] at this
            omega
          subst ex
          have ht1 := s1 _ _ ht
          refine ⟨.ref t, rfl, .ref t, rfl, 1, rfl, ?_⟩
          dsimp only [tNoPart]
          refine slX_of ht1 fun s2 H2 e2 s12 => ?_
          have et : cutV (ns.map V.int) (some 1) none = ns.tail.map V.int := by
            cases ns with
            | nil => rfl
            | cons a l => exact cut_from (xs := (a :: l).map V.int) (k := 1) (by simp)
          rw [et] at e2
          have ht2 := s12 _ _ ht1
          refine ⟨t, s2, _, _, rfl, .inr ⟨.of ht2, .of e2, fun D2 nD2 => ?_⟩⟩
          have lz : (ns.zip ns.tail).length = min (ns.map V.int).length (ns.tail.map V.int).length := by rw [List.length_zip, List.length_map, List.length_map]
          refine lc_it (walk_zipT (K := K) (a := t) (b := s2) lz) (fun i H' => Same H2 H' ∧ H' D2 = some (.lst (((ns.zip ns.tail).take i).map (fun p => V.bl (decide (p.2 ≤ p.1)))))) ⟨same_upd nD2, upd_same⟩ (fun _ _ _ h => ⟨.of (h.1 _ _ ht2), .of (h.1 _ _ e2)⟩) ?_ ?_
          · rintro i x H3 H4 hi ⟨s3, e3⟩ ⟨Tt, a, b, rfl, nT, rfl, ea, eb⟩
            obtain ⟨a, ha', rfl⟩ := item_map ea
            obtain ⟨b, hb', rfl⟩ := item_map eb
            have hz : (ns.zip ns.tail)[i]? = some (a, b) := by
              rw [List.getElem?_zip_eq_some]
              exact ⟨ha', hb'⟩
            have s4 := same_upd (o := HO.tup [V.int a, V.int b]) nT
            refine ⟨Tt, _, rfl, .of upd_same, rfl, _, _, rfl, _, _, rfl, rfl, rfl, ?_⟩
            refine ⟨.int b, rfl, .int a, rfl, _, _, rfl, rfl, _, s4 _ _ e3, ?_, same_mut (s3.trans s4) nD2, ?_⟩
            · rw [List.length_map, List.length_take]
              have := List.length_zip (l₁ := ns) (l₂ := ns.tail)
              exact small1000 (by omega)
            · rw [upd_same, take_more hz, List.map_append]
              rfl
          · rintro H3 ⟨s3, e3⟩
            rw [List.take_length] at e3
            refine ⟨D2, (ns.zip ns.tail).map (fun p => decide (p.2 ≤ p.1)), rfl, .of (by rw [e3, List.map_map]; rfl), ?_⟩
            have ef : ((ns.zip ns.tail).map (fun p => decide (p.2 ≤ p.1))).all id = fallI ns := by rw [List.all_map]; rfl
            rw [ef]
            exact q _ (s1.trans (s12.trans s3))
end
theorem lev_few {zs : List Str} {f : Str → Int} {ls : List Int} (h : Lev zs f ls) : ls.length ≤ zs.length := by
  have nd : ls.Nodup := h.1.imp fun {a b} lt => by omega
  have := nd.length_le_of_subset (l₂ := zs.map f) fun k hk => by
    obtain ⟨z, hz, rfl⟩ := (h.2 k).mp hk
    exact List.mem_map.mpr ⟨z, hz, rfl⟩
  rw [List.length_map] at this
  exact this
/-- the dict at D holds, for each name, a share's address -/
def Held (C : Addr) (H : Hp) (D : Addr) (zs : List Str) (f : Str → Int × Int) (n : Nat) : Prop := ∃ g : Str → Addr, H D = some (.dK (tabR zs g)) ∧ ∀ z ∈ zs, ShAt C H (g z) (f z) ∧ 0 < (f z).2 ∧ Bd n (f z)
theorem Held.but {C : Addr} {H H' : Hp} {D : Addr} {zs : List Str} {f : Str → Int × Int} {n : Nat} (s : Same H H') (h : Held C H D zs f n) : Held C H' D zs f n := by
  obtain ⟨g, e, k⟩ := h
  exact ⟨g, s _ _ e, fun z hz => ⟨(k z hz).1.same s, (k z hz).2⟩⟩
theorem Held.congr {C : Addr} {H : Hp} {D : Addr} {zs : List Str} {f f' : Str → Int × Int} {n n' : Nat} (h : Held C H D zs f n) (e : ∀ z ∈ zs, f z = f' z) (l : n ≤ n') : Held C H D zs f' n' := by
  obtain ⟨g, ed, k⟩ := h
  exact ⟨g, ed, fun z hz => by rw [← e z hz]; exact ⟨(k z hz).1, (k z hz).2.1, (k z hz).2.2.mono l⟩⟩
theorem ShAt.offD {C : Addr} {H : Hp} {D c : Addr} {kvs kvs' : List (Key × V)} {r : Int × Int} (ed : H D = some (.dK kvs)) (h : ShAt C H c r) : ShAt C (upd H D (.dK kvs')) c r := by
  obtain ⟨dz, hz⟩ := h
  exact ⟨dz, by rw [upd_ne (fun q => by rw [q, ed] at hz; cases hz)]; exact hz⟩
theorem held_put {C : Addr} {H : Hp} {D a : Addr} {zs : List Str} {g : Str → Addr} {f : Str → Int × Int} {n n' : Nat} {z : Str} {r : Int × Int} (ed : H D = some (.dK (tabR zs g))) (k : ∀ z ∈ zs, ShAt C H (g z) (f z) ∧ 0 < (f z).2 ∧ Bd n (f z)) (hz : z ∈ zs)
    (e : ShAt C H a r) (pos : 0 < r.2) (bd : Bd n' r) (l : n ≤ n') : Held C (upd H D (.dK (putK (tabR zs g) (.inr z) (.ref a)))) D zs (fun y => if y = z then r else f y) n' := by
  refine ⟨fun y => if y = z then a else g y, by rw [upd_same, tabR_put hz], fun y hy => ?_⟩
  show ShAt C _ (if y = z then a else g y) (if y = z then r else f y) ∧ 0 < (if y = z then r else f y).2 ∧ Bd n' (if y = z then r else f y)
  by_cases c : y = z
  · rw [if_pos c, if_pos c]
    exact ⟨e.offD ed, pos, bd⟩
  · rw [if_neg c, if_neg c]
    exact ⟨(k y hy).1.offD ed, (k y hy).2.1, (k y hy).2.2.mono l⟩
theorem held_new {C : Addr} {H : Hp} {D a : Addr} {zs : List Str} {g : Str → Addr} {f : Str → Int × Int} {n : Nat} {z : Str} (ed : H D = some (.dK (tabR zs g))) (k : ∀ z ∈ zs, ShAt C H (g z) (f z) ∧ 0 < (f z).2 ∧ Bd n (f z)) (hz : z ∉ zs)
    (e : ShAt C H a (f z)) (pos : 0 < (f z).2) (bd : Bd n (f z)) : Held C (upd H D (.dK (putK (tabR zs g) (.inr z) (.ref a)))) D (zs ++ [z]) f n := by
  refine ⟨fun y => if y = z then a else g y, by rw [upd_same, tabR_new hz], fun y hy => ?_⟩
  show ShAt C _ (if y = z then a else g y) (f y) ∧ _
  by_cases c : y = z
  · rw [if_pos c, c]
    exact ⟨e.offD ed, pos, bd⟩
  · rw [if_neg c]
    rcases List.mem_append.mp hy with hy | hy
    · exact ⟨(k y hy).1.offD ed, (k y hy).2⟩
    · exact absurd (List.mem_singleton.mp hy) c
section
variable {P : Program} {w : World} {K : PySem.W.Frag} {mg : Str → Option Value} {base : Heap}
/-! ### weighed -/
def sp_weighed (C CS CB : Addr) : Sp := fun vs H Q E => ∃ (p o u : Addr) (zs : List Str) (rows : List (Bal × Int)) (v : V) (d : PyData), vs = [.ref p, v] ∧ PollOk C H p o u zs rows ∧ rows.length ≤ 8 ∧ DAt H d v ∧ (parts d).length ≤ 20 ∧
  (weightsD zs.length d = false → BadE CB H E) ∧
  (weightsD zs.length d = true → ∃ ws : List Int, d = .tuple (ws.map PyData.int) ∧ (∀ x ∈ ws, x.natAbs < 2 ^ 101) ∧ ∀ (D : Addr) (H' : Hp), Same H H' → H D = none → Held CS H' D zs (sumW zs ws rows) 8000 → Q (.ref D) H')
theorem ok_weighed (T : Txt K mg) : FnOk P w K mg base (L2.CX P w) 7 T.f_weighed T.fd_weighed ["poll", "weights"] (sp_weighed T.C_Poll T.C_Share T.C_BadRule) := by
  refine T.F_weighed.okX sc_weighed (fun vs H Q E h => ?_) (fun cdv A outer s H vs Q E hr h => ?_)
  · obtain ⟨p, o, u, zs, rows, v, d, rfl, _⟩ := h
    rfl
  · obtain ⟨p, o, u, zs, rows, v, d, rfl, pk, l8, hd, l20, qf, qt⟩ := h
    refine ⟨_, (pss_cons
 (ps_if (pt_not (pt_val (pe_call (ok_are_weights T) (hr.mono (by decide)) (by rfl) T.g_are_weights T.F_are_weights.kp T.b_are_weights .nil pass0 (pa_cons (pe_fld (pv 0) rfl) (pa_cons (pv 1) pa_nil)))))
 (pss_one
 (ps_raise rfl (takes_of rfl rfl rfl rfl) (px_pos T.ex_BadRule (ok_PollError_init T) (hr.mono (by decide)) (by rfl) T.k_BadRule T.kb_PollError_init_2 (fun σ => at0 σ) (pa_cons pe_str pa_nil))))
 pss_nil)
 (pss_cons
 (ps_setDc (i := 2) (own := [("name", 8)]) (g := gName 8) (tt := tYes) rfl sc_weighed.nd rfl rfl (swD_true rfl rfl rfl (by decide +kernel)) (pi_tup (pe_fld (pv 0) rfl)) (blkOk_by (own := [("name", 8)]) (N := ["poll", "weights", "found", "ballot", "many", "at", "tier", "mean", "name"]) (sc := (defScope s_weighed)) (by decide +kernel)) (fun _ _ _ _ _ => pg_name (i := 8) sc_weighed.nd rfl (Or.inl rfl)) (fun _ _ _ _ _ => pts_nil) (fun _ _ _ _ _ => (pv 8)) (fun _ _ _ _ _ => (pc_pos T.mk_Share (ok_Share_init T) (hr.mono (by decide)) (by rfl) T.k_Share T.kb_Share_init_2 (fun σ => atN σ) (pa_cons pe_int pa_nil))))
 (pss_cons
 (ps_for (passes_of rfl) rfl (pi_tup (pe_fld (pv 0) rfl)) (pg_tup rfl (pgs_cons (pg_name (i := 3) sc_weighed.nd rfl (Or.inl rfl)) (pgs_cons (pg_name (i := 4) sc_weighed.nd rfl (Or.inl rfl)) pgs_nil)))
 (pss_cons
 (ps_set (i := 5) sc_weighed.nd rfl (Or.inl rfl) pe_int)
 (pss_one
 (ps_for (passes_of rfl) rfl (pi_tup (pe_call (ok_tiers T) (hr.mono (by decide)) (by rfl) T.g_tiers T.F_tiers.kp T.b_tiers .nil pass0 (pa_cons (pe_fld (pv 0) rfl) (pa_cons (pv 3) pa_nil)))) (pg_name (i := 6) sc_weighed.nd rfl (Or.inl rfl))
 (pss_cons
 (ps_set (i := 7) sc_weighed.nd rfl (Or.inl rfl) (pc_pos T.mk_Share (ok_Share_init T) (hr.mono (by decide)) (by rfl) T.k_Share T.kb_Share_init_3 (fun σ => atN σ) (pa_cons (pe_op op_mulW (pv 4) (pe_callB (cr_sumT rfl) (by rfl) T.z_sum (by decide +kernel) (pa_cons (pe_slice sl_tupA (pv 1) (po_some (pv 5)) (po_some (pe_op op_add (pv 5) (pe_callB call_len_seq (by rfl) T.z_len (by decide +kernel) (pa_cons (pv 6) pa_nil))))) pa_nil))) (pa_cons (pe_callB call_len_seq (by rfl) T.z_len (by decide +kernel) (pa_cons (pv 6) pa_nil)) pa_nil))))
 (pss_cons
 (ps_for (passes_of rfl) rfl (pi_tup (pv 6)) (pg_name (i := 8) sc_weighed.nd rfl (Or.inl rfl))
 (pss_one
 (ps_dput (hu_of hr) (pv 2) (pv 8) (pm_pos (pe_dget (hu_of hr) (pv 2) (pv 8) (fun _ _ => rfl)) T.cl_Share T.me_Share_plus (ok_Share_plus T) (hr.mono (by decide)) T.kb_Share_plus_2 (fun σ => at0 σ) (pa_cons (pv 7) pa_nil)) (by rfl))))
 (pss_one
 (ps_aug (i := 5) sc_weighed.nd rfl (Or.inl rfl) (pe_callB call_len_seq (by rfl) T.z_len (by decide +kernel) (pa_cons (pv 6) pa_nil)) ip_add))))))))
 (pss_one
 (ps_ret (pv 2)))))), ?_⟩
    obtain ⟨⟨dx, hp⟩, ho, ⟨as, hu, ha, hm⟩, ok, rok⟩ := id pk
    have nd := ok.nodup
    have few := ok.few
    have la : as.length = rows.length := by rw [← hm, List.length_map]
    refine ⟨.ref p, rfl, p, T.C_Poll, dx, _, .ref o, rfl, hp, T.cl_Poll, T.n_Poll_options, pollF_options o u, v, rfl, o, zs, v, d, rfl, ho, hd, l20, fun H1 s1 => ⟨_, rfl, ?_⟩⟩
    cases hb : weightsD zs.length d with
    | false =>
      refine iteT ⟨rfl, rfl, by decide, fun x nx => ⟨x, T.C_BadRule, _, rfl, upd_same, T.ox_BadRule, T.nf_BadRule_why, fun dx n1 n2 => ⟨rfl, dx, _, upd_same, by rw [upd_ne n2, upd_same], ?_, ?_⟩⟩⟩
      · rw [upd_ne n2] at n1
        exact n1
      · rw [upd_ne n2] at n1
        refine qf hb dx _ _ (s1.trans fun y o ho => ?_) (s1.free n1) upd_same
        have y1 : y ≠ dx := ne_of_none ho n1
        have y2 : y ≠ x := ne_of_none ho nx
        rw [upd_ne y1, del_ne y2, upd_ne y2, upd_ne y1, upd_ne y2]
        exact ho
    | true =>
      obtain ⟨ws, rfl, bits, q⟩ := qt hb
      obtain ⟨tw, xsw, rfl, hw, aw⟩ := hd
      obtain rfl := aw.of_ints
      have hp1 := s1 _ _ hp
      have ho1 := s1 _ _ ho
      refine iteF ⟨.ref p, rfl, p, T.C_Poll, dx, _, .ref o, rfl, hp1, T.cl_Poll, T.n_Poll_options, pollF_options o u, o, rfl, ⟨_, .of ho1⟩, fun D nD => ?_⟩
      have nDH := s1.free nD
      refine dc_tup (K := K) (a := o) (xs := zs.map V.str) (fun i H' => Same H1 H' ∧ Held T.C_Share H' D (zs.take i) (fun _ => (0, 1)) 1) ⟨same_upd nD, fun _ => 0, upd_same, fun z hz => by rw [List.take_zero] at hz; cases hz⟩ (fun _ _ _ h => .of (h.1 _ _ ho1)) ?_ ?_
      · rintro i x H2 hi ⟨s2, g, e2, k2⟩
        obtain ⟨z, hz, rfl⟩ := item_map hi
        have zn : z ∉ zs.take i := fun m => nodup_out nd hz m
        refine ⟨rfl, .str z, rfl, rfl, rfl, fun a dy n1 n2 n3 => ⟨a, dy, 0, 1, 1, rfl, upd_same, by decide, by decide, by decide, fun z => (by cases z), fun _ H3 bt e => ⟨rfl, ?_⟩⟩⟩
        have s3 := made_same n1 n2 bt
        rw [low01] at e
        refine ⟨_, .inr z, rfl, s3 _ _ e2, ?_, same_mut (s2.trans s3) nD, ?_⟩
        · rw [tabR_len, List.length_take]
          exact small1000 (by omega)
        · rw [take_more hz]
          exact held_new (f := fun _ => ((0, 1) : Int × Int)) (s3 _ _ e2) (fun y hy => ⟨(k2 y hy).1.same s3, (k2 y hy).2⟩) zn ⟨dy, e⟩ (show (0 : Int) < 1 by decide) ⟨(show (0 : Nat) < 2 by decide), (show (1 : Nat) < 2 by decide)⟩
      · rintro H2 ⟨s2, h2⟩
        rw [List.length_map, List.take_length] at h2
        have hp2 := s2 _ _ hp1
        have hu2 := s2 _ _ (s1 _ _ hu)
        refine ⟨.ref p, rfl, p, T.C_Poll, dx, _, .ref u, rfl, hp2, T.cl_Poll, T.n_Poll_voices, pollF_voices o u, u, rfl, ⟨_, .of hu2⟩, for_tup (K := K) (a := u) (xs := as.map fun a => V.ref a.1) (fun i σ H' => ∃ x3 x4 x5 x6 x7 x8 : Option V, σ = [some (.ref p), some (.ref tw), some (.ref D), x3, x4, x5, x6, x7, x8] ∧ Same H1 H' ∧ Held T.C_Share H' D zs (sumW zs ws (rows.take i)) (1 + 756 * i))
          ⟨none, none, none, none, none, none, rfl, s2, h2⟩ (fun _ _ _ _ ⟨_, _, _, _, _, _, _, h, _⟩ => .of (h _ _ (s1 _ _ hu))) ?_ ?_⟩
        · rintro i x σ H3 hi ⟨x3, x4, x5, x6, x7, x8, rfl, s3, h3⟩
          obtain ⟨a, hai, rfl⟩ := item_map hi
          obtain ⟨r1, r2⟩ := ha a (List.mem_of_getElem? hai)
          have mem : a.2.2 ∈ rows := by rw [← hm]; exact List.mem_map.mpr ⟨a, List.mem_of_getElem? hai, rfl⟩
          have ri : rows[i]? = some a.2.2 := by rw [← hm, List.getElem?_map, hai]; rfl
          have il : i < rows.length := (List.getElem?_eq_some_iff.mp ri).1
          obtain ⟨bok, m1, m2⟩ := rok.2 a.2.2 mem
          have s03 := s1.trans s3
          refine ⟨a.1, _, rfl, .of (s03 _ _ r1), rfl, _, _, rfl, _, _, rfl, rfl, ?_⟩
          refine ⟨.ref p, rfl, p, T.C_Poll, dx, _, .ref o, rfl, s03 _ _ hp, T.cl_Poll, T.n_Poll_options, pollF_options o u, .ref a.2.1, rfl, o, a.2.1, zs, a.2.2.1, rfl, s03 _ _ ho, r2.same s03, bok, nd, few, fun Tt bs ls H4 lev s4 eT ht em => ?_⟩
          have h4 := h3.but s4
          have s04 := s03.trans s4
          have hts : tiersOf zs a.2.2.1 = bs.map (·.2) := (tiersOf_eq lev).trans em.symm
          have lbs : bs.length ≤ 6 := by
            have := congrArg List.length em
            unfold cutBy at this
            rw [List.length_map, List.length_map] at this
            have := lev_few lev
            omega
          have nDH1 : H1 D = none := nD
          have offD : ∀ {Hc : Hp}, But D H4 Hc → Same H1 Hc := fun b => But.ext (s3.trans s4) nDH1 b
          obtain ⟨g4, e4, _⟩ := id h4
          refine ⟨Tt, rfl, ⟨_, .of eT⟩, for_tup (K := K) (a := Tt) (xs := bs.map fun b => V.ref b.1) (fun j σ H' => ∃ x6 x7 x8 : Option V, σ = [some (.ref p), some (.ref tw), some (.ref D), some (.ref a.2.1), some (.int a.2.2.2), some (.int (offW ((bs.map (·.2)).take j) : Nat)), x6, x7, x8] ∧ But D H4 H' ∧
              Held T.C_Share H' D zs (fun z => (rowW ws a.2.2.2 z (sumW zs ws (rows.take i) z) ((bs.map (·.2)).take j)).2) (1 + 756 * i + 126 * j))
            ⟨x6, x7, x8, rfl, But.refl _ _, h4⟩ (fun _ _ _ _ ⟨_, _, _, _, h, _⟩ => .of (h _ _ (ne_of eT e4 (by intro z; cases z)) eT)) ?_ ?_⟩
          · rintro j x σ H5 hj ⟨x6, x7, x8, rfl, b5, h5⟩
            obtain ⟨bb, hbb, rfl⟩ := item_map hj
            have mb := List.mem_of_getElem? hbb
            have jl : j < bs.length := (List.getElem?_eq_some_iff.mp hbb).1
            have tj : (bs.map (·.2))[j]? = some bb.2 := by rw [List.getElem?_map, hbb]; rfl
            obtain ⟨tb1, tb2⟩ := ht bb mb
            have tlen : bb.2.length ≤ zs.length := by
              have : bb.2 ∈ cutBy zs a.2.2.1.rk ls := by rw [← em]; exact List.mem_map.mpr ⟨bb, mb, rfl⟩
              obtain ⟨k, _, e⟩ := List.mem_map.mp this
              rw [← e]
              exact List.length_filter_le _ _
            have tsub : ∀ y ∈ bb.2, y ∈ zs := fun y hy => by
              have : bb.2 ∈ cutBy zs a.2.2.1.rk ls := by rw [← em]; exact List.mem_map.mpr ⟨bb, mb, rfl⟩
              obtain ⟨k, _, e⟩ := List.mem_map.mp this
              rw [← e] at hy
              exact (List.mem_filter.mp hy).1
            have tnd : bb.2.Nodup := by
              have : bb.2 ∈ cutBy zs a.2.2.1.rk ls := by rw [← em]; exact List.mem_map.mpr ⟨bb, mb, rfl⟩
              obtain ⟨k, _, e⟩ := List.mem_map.mp this
              rw [← e]
              exact nd.filter _
            have tpos := List.length_pos_iff.mpr tb2
            have s15 := offD b5
            have hw5 := s15 _ _ (s1 _ _ hw)
            have tb5 := b5 _ _ (ne_of tb1 e4 (by intro z; cases z)) tb1
            generalize hoff : offW ((bs.map (·.2)).take j) = off
            -- the mean
            refine ⟨.int a.2.2.2, rfl, .ref tw, rfl, .int off, rfl, _, rfl, .int off, rfl, .ref bb.1, rfl, bb.1, _, rfl, .inr (.of tb5), _, _, rfl, rfl, _, rfl, ?_⟩
            refine slX_of hw5 fun sl H6 esl s6 => ?_
            rw [List.length_map, cut_part, ← List.map_drop, ← List.map_take] at esl
            have mb20 : a.2.2.2.natAbs < 2 ^ 20 := Nat.lt_of_le_of_lt (show a.2.2.2.natAbs ≤ 1000000 by omega) (by decide)
            have sb := part_bits bits off bb.2.length (by omega)
            refine ⟨sl, (ws.drop off).take bb.2.length, rfl, .of esl, _, _, rfl, rfl, mulOk mb20 sb (by decide), .ref bb.1, rfl, bb.1, _, rfl, .inr (.of (s6 _ _ tb5)), ?_⟩
            rw [List.length_map]
            have lne : (bb.2.length : Int) ≠ 0 := by omega
            refine ⟨rfl, rfl, fun me dm n1 n2 n3 => ⟨me, dm, _, _, 10, rfl, upd_same, Nat.lt_of_le_of_lt (show ((bb.2.length : Nat) : Int).natAbs ≤ 6 by omega) (by decide), by decide, by decide, fun z => absurd z lne, fun _ H7 bt eme => ⟨rfl, ?_⟩⟩⟩
            have s7 := s6.trans (made_same n1 n2 bt)
            have hme : ShAt T.C_Share H7 me (meanW ws a.2.2.2 off bb.2) := ⟨dm, eme⟩
            have mpos := mean_pos (ws := ws) (m := a.2.2.2) (at0 := off) tb2
            have mbd := mean_bd (at0 := off) tb2 (by omega) bits mb20
            generalize hmean : meanW ws a.2.2.2 off bb.2 = mean at hme mpos mbd
            obtain ⟨g7, e7, k7⟩ := h5.but s7
            have e57 : ∀ {Hc : Hp}, But D H7 Hc → But D H4 Hc := fun b => (b5.same s7).trans b
            have tb7 := s7 _ _ tb5
            have i8 : i < 8 := by omega
            -- each of the tier gets it
            refine ⟨.ref bb.1, rfl, bb.1, rfl, ⟨_, .of tb7⟩, for_tup (K := K) (a := bb.1) (xs := bb.2.map V.str) (fun k σ H' => ∃ x8 : Option V, σ = [some (.ref p), some (.ref tw), some (.ref D), some (.ref a.2.1), some (.int a.2.2.2), some (.int off), some (.ref bb.1), some (.ref me), x8] ∧ But D H7 H' ∧
                Held T.C_Share H' D zs (fun z => if z ∈ bb.2.take k then addL (rowW ws a.2.2.2 z (sumW zs ws (rows.take i) z) ((bs.map (·.2)).take j)).2 mean else (rowW ws a.2.2.2 z (sumW zs ws (rows.take i) z) ((bs.map (·.2)).take j)).2) (1 + 756 * i + 126 * j + 126))
              ⟨x8, rfl, But.refl _ _, (h5.but s7).congr (fun z _ => by rw [List.take_zero, if_neg (by simp)]) (by omega)⟩ (fun _ _ _ _ ⟨_, _, h, _⟩ => .of (h _ _ (ne_of tb7 e7 (by intro z; cases z)) tb7)) ?_ ?_⟩
            · rintro k y σ H8 hk ⟨x8, rfl, b8, g8, e8, k8⟩
              obtain ⟨y, hy, rfl⟩ := item_map hk
              have my := List.mem_of_getElem? hy
              have mz := tsub y my
              have yout : y ∉ bb.2.take k := nodup_out tnd hy
              obtain ⟨sh8, p8, d8⟩ := k8 y mz
              dsimp only at sh8 p8 d8
              rw [if_neg yout] at sh8 p8 d8
              have d7 := (k7 y mz).2.2
              dsimp only at d7
              obtain ⟨_, me7⟩ := id hme
              have hme8 : ShAt T.C_Share H8 me mean := ⟨_, b8 _ _ (ne_of me7 e7 (by intro z; cases z)) me7⟩
              have got : DGet H8 D (.str y) (some (.ref (g8 y))) := by
                have := DGet.k (k := .inr y) e8
                rw [tabR_val, if_pos mz] at this
                exact this
              obtain ⟨dz, hz8⟩ := id sh8
              refine ⟨.ref D, rfl, .str y, rfl, D, _, rfl, got, g8 y, dz, _, rfl, hz8, shF_no _ (by decide +kernel) (by decide +kernel), .ref me, rfl, rfl, rfl, ?_⟩
              refine ⟨g8 y, me, _, _, _, _, rfl, sh8, hme8, d7, mbd, p8, mpos, by omega, fun sn H9 s9 nsn hsn => ?_⟩
              have e9 := s9 _ _ e8
              refine ⟨.ref D, rfl, .str y, rfl, D, _, rfl, DPut.k (k := .inr y) e9 ?_, some (.str y), rfl, (b8.same s9).upd _, ?_⟩
              · rw [tabR_len]
                exact small1000 (by omega)
              · refine (held_put e9 (fun z hz => ⟨(k8 z hz).1.same s9, (k8 z hz).2⟩) mz hsn (addL_red p8 mpos).1 (bd_add d7 mbd p8 mpos) (by omega)).congr (fun z _ => ?_) (by omega)
                have em2 : (z ∈ bb.2.take (k + 1)) ↔ z = y ∨ z ∈ bb.2.take k := by
                  rw [take_more hy, List.mem_append, List.mem_singleton]
                  exact Or.comm
                by_cases c : z = y
                · rw [if_pos c, if_pos (em2.mpr (.inl c)), c]
                  rfl
                · rw [if_neg c]
                  by_cases m : z ∈ bb.2.take k
                  · rw [if_pos m, if_pos (em2.mpr (.inr m))]
                  · rw [if_neg m, if_neg fun q => (em2.mp q).elim c m]
            · rintro σ H8 ⟨x8, rfl, b8, h8⟩
              rw [List.length_map, List.take_length] at h8
              refine ⟨_, rfl, .ref bb.1, rfl, bb.1, _, rfl, .inr (.of (b8 _ _ (ne_of tb7 e7 (by intro z; cases z)) tb7)), _, _, rfl, rfl, some (.ref bb.1), some (.ref me), x8, ?_, e57 b8, h8.congr (fun z _ => ?_) (by omega)⟩
              · rw [off_more tj, hoff, List.length_map, Int.natCast_add]
                rfl
              · rw [row_more tj, hoff, hmean]
          · rintro σ H5 ⟨x6, x7, x8, rfl, b5, h5⟩
            rw [List.length_map] at h5
            have et : (bs.map (·.2)).take bs.length = bs.map (·.2) := List.take_of_length_le (by rw [List.length_map]; exact Nat.le_refl _)
            rw [et] at h5
            refine ⟨_, _, _, _, _, _, rfl, offD b5, h5.congr (fun z _ => ?_) (by omega)⟩
            rw [sum_more ri, hts]
        · rintro σ H3 ⟨x3, x4, x5, x6, x7, x8, rfl, s3, h3⟩
          rw [List.length_map, la, List.take_length] at h3
          exact ⟨.ref D, rfl, q D H3 (s1.trans s3) nDH (h3.congr (fun _ _ => rfl) (by omega))⟩
end
/-! ### how deep data goes -/
structure Lay (n : Nat) (d : PyData) : Prop where
  lay : d.canLay0 = true
  dep : d.depth ≤ n
structure LayA (n : Nat) (ds : List PyData) : Prop where
  lay : PyData.canLayAll0 ds = true
  dep : PyData.depthAll ds ≤ n
theorem LayA.nil {n : Nat} : LayA n [] := ⟨rfl, Nat.zero_le _⟩
theorem LayA.cons {n : Nat} {d : PyData} {ds : List PyData} (a : Lay n d) (b : LayA n ds) : LayA n (d :: ds) := by
  refine ⟨?_, ?_⟩
  · rw [PyData.canLayAll0, a.lay, b.lay] <;> rfl
  · rw [PyData.depthAll]
    exact Nat.max_le.mpr ⟨a.dep, b.dep⟩
theorem LayA.of {n : Nat} : ∀ {l : List PyData}, (∀ d ∈ l, Lay n d) → LayA n l
  | [], _ => .nil
  | d :: l, h => .cons (h d List.mem_cons_self) (LayA.of fun e he => h e (List.mem_cons_of_mem _ he))
theorem LayA.tuple {n : Nat} {ds : List PyData} (h : LayA n ds) : Lay (n + 1) (.tuple ds) := by
  refine ⟨by rw [PyData.canLay0]; exact h.lay, ?_⟩
  have := h.dep
  rw [PyData.depth]
  omega
theorem Lay.mono {n m : Nat} {d : PyData} (h : Lay n d) (g : n ≤ m) : Lay m d := ⟨h.lay, Nat.le_trans h.dep g⟩
theorem Lay.shaped {n : Nat} {d : PyData} (h : Lay n d) (hn : n ≤ 64) : SeqAt.shaped d = true := by
  unfold SeqAt.shaped
  rw [h.lay, Bool.true_and]
  exact decide_eq_true (Nat.le_trans h.dep hn)
theorem Ok.lays {n m : Nat} {d : PyData} (h : Own.Ok n m d) : Lay n d := ⟨h.lay, h.dep⟩
/-! ### the law's own lowest terms -/
section
variable {P : Program} {w : World} {K : PySem.W.Frag} {mg : Str → Option Value} {base : Heap}
def sp_law_lowest : Sp := fun vs H Q _ => ∃ (a b : Int) (m : Nat), vs = [.int a, .int b] ∧ b ≠ 0 ∧ b.natAbs < 2 ^ m ∧ 0 < m ∧ m ≤ 9000 ∧
  ∀ t, H t = none → Q (.ref t) (upd H t (.tup [.int (low a b).1, .int (low a b).2]))
def restOf : L2.St → Nat
  | [_, _, _, some (.int y)] => y.toNat
  | _ => 0
theorem abs_nat (a : Int) : (if a < 0 then -a else a) = ((a.natAbs : Nat) : Int) := by split <;> omega
theorem ok_law_lowest (T : Txt K mg) : FnOk P w K mg base CX0 1 T.f_law_lowest T.fd_law_lowest ["_law_top", "_law_ground"] sp_law_lowest := by
  refine T.F_law_lowest.ok sc_law_lowest (fun vs H Q E h => ?_) (fun cdv A outer s H vs Q E hr h => ?_)
  · obtain ⟨a, b, m, rfl, _⟩ := h
    rfl
  · obtain ⟨a, b, m, rfl, hb, hm, hm0, hm9, q⟩ := h
    refine ⟨_, (pss_cons
 (ps_par (i := 2) (j := 3) (by rfl) sc_law_lowest.nd rfl rfl (by decide) rfl rfl (pa_cons (pe_callB call_abs (by rfl) T.z_abs (by decide +kernel) (pa_cons (pv 0) pa_nil)) (pa_cons (pe_callB call_abs (by rfl) T.z_abs (by decide +kernel) (pa_cons (pv 1) pa_nil)) pa_nil)) (by rfl))
 (pss_cons
 (ps_while PassesOwn.never (pt_cmpR op_gt (pv 3) pe_int (nomark _))
 (pss_one
 (ps_par (i := 2) (j := 3) (by rfl) sc_law_lowest.nd rfl rfl (by decide) rfl rfl (pa_cons (pv 3) (pa_cons (pe_op op_mod (pv 2) (pv 3)) pa_nil)) (by rfl))))
 (pss_cons
 (ps_if (pt_cmpR op_lt (pv 1) pe_int (nomark _))
 (pss_one
 (ps_set (i := 2) sc_law_lowest.nd rfl (Or.inl rfl) (pe_op op_sub pe_int (pv 2))))
 pss_nil)
 (pss_one
 (ps_ret (pe_tup (pa_cons (pe_op op_fdivX (pv 0) (pv 2)) (pa_cons (pe_op op_fdivX (pv 1) (pv 2)) pa_nil)))))))), ?_⟩
    refine ⟨.int a, rfl, a, rfl, .int b, rfl, b, rfl, _, _, rfl, ?_⟩
    rw [abs_nat, abs_nat]
    refine while_by (fun σ H' => H' = H ∧ ∃ x y : Nat, σ = [some (.int a), some (.int b), some (.int (x : Int)), some (.int (y : Int))] ∧ Nat.gcd x y = Nat.gcd a.natAbs b.natAbs) (fun σ _ => restOf σ) ⟨rfl, _, _, rfl, rfl⟩ ?_
      (fun σ H Q Q' imp ⟨v, h1, i, j, h2, h3, k, h4, h5⟩ => ⟨v, h1, i, j, h2, h3, k, h4, imp _ _ h5⟩)
    rintro σ H1 ⟨rfl, x, y, rfl, hg⟩
    refine ⟨_, rfl, (y : Int), 0, rfl, rfl, _, rfl, ite2 (fun e => ?_) (fun e => ?_)⟩
    · have hy : (0 : Int) < y := of_decide_eq_true e
      refine ⟨_, rfl, _, rfl, _, rfl, (x : Int), (y : Int), rfl, rfl, hy, _, _, rfl, ⟨rfl, y, x % y, ?_, ?_⟩, ?_⟩
      · show [some (V.int a), some (V.int b), some (V.int (y : Int)), some (V.int ((x : Int) % (y : Int)))] = _
        rw [← Int.natCast_emod]
      · rw [gcd_step, hg]
      · show ((x : Int) % (y : Int)).toNat < (y : Int).toNat
        have := Int.emod_lt_of_pos (x : Int) hy
        have := Int.emod_nonneg (x : Int) (show (y : Int) ≠ 0 by omega)
        omega
    · have hy : y = 0 := by
        have : ¬ (0 : Int) < y := fun z => e (decide_eq_true z)
        omega
      subst hy
      rw [Nat.gcd_zero_right] at hg
      have hc0 := cg_ne (a := a) hb
      have hcl : (cg a b).natAbs < 2 ^ m := Nat.lt_of_le_of_lt (cg_le hb) hm
      refine ⟨.int b, rfl, b, 0, rfl, rfl, _, rfl, ite2 (fun e2 => ?_) (fun e2 => ?_)⟩
      · have ec : cg a b = 0 - (x : Int) := by
          unfold cg
          rw [if_pos (of_decide_eq_true e2), ← hg]
          omega
        refine ⟨_, rfl, 0, (x : Int), rfl, rfl, ?_⟩
        refine ⟨.int a, rfl, .int (cg a b), (by rw [ec]; rfl), a, _, rfl, rfl, div_ok hc0 hcl hm0 hm9, .int b, rfl, .int (cg a b), (by rw [ec]; rfl), b, _, rfl, rfl, div_ok hc0 hcl hm0 hm9, line_of (show 2 ≤ 1000 by decide), fun t nt => q t nt⟩
      · have ec : cg a b = (x : Int) := by
          unfold cg
          rw [if_neg (fun z => e2 (decide_eq_true z)), ← hg]
        refine ⟨.int a, rfl, .int (cg a b), (by rw [ec]; rfl), a, _, rfl, rfl, div_ok hc0 hcl hm0 hm9, .int b, rfl, .int (cg a b), (by rw [ec]; rfl), b, _, rfl, rfl, div_ok hc0 hcl hm0 hm9, line_of (show 2 ≤ 1000 by decide), fun t nt => q t nt⟩
end
theorem fall_two (a b : Int) (l : List Int) : fallI (a :: b :: l) = (decide (b ≤ a) && fallI (b :: l)) := rfl
theorem fall_more {t : Int} : ∀ {ws : List Int}, fallI ws = true → (∀ w ∈ ws, t ≤ w) → fallI (ws ++ [t]) = true
  | [], _, _ => rfl
  | [a], _, h => by
    show (decide (t ≤ a) && true) = true
    rw [decide_eq_true (h a List.mem_cons_self)] <;> rfl
  | a :: b :: l, g, h => by
    rw [fall_two, Bool.and_eq_true] at g
    show fallI (a :: b :: (l ++ [t])) = true
    rw [fall_two, g.1, Bool.true_and]
    exact fall_more (ws := b :: l) g.2 fun w hw => h w (List.mem_cons_of_mem _ hw)
theorem fall_bad (b : Int) : ∀ l : List Int, fallI (l ++ [b, b + 1]) = false
  | [] => by
    show (decide (b + 1 ≤ b) && true) = false
    rw [decide_eq_false (by omega)] <;> rfl
  | [a] => by
    show (decide (b ≤ a) && (decide (b + 1 ≤ b) && true)) = false
    rw [decide_eq_false (show ¬ b + 1 ≤ b by omega), Bool.false_and, Bool.and_false]
  | a :: c :: l => by
    show fallI (a :: c :: (l ++ [b, b + 1])) = false
    rw [fall_two, show fallI (c :: (l ++ [b, b + 1])) = false from fall_bad b (c :: l), Bool.and_false]
section
variable {P : Program} {w : World} {K : PySem.W.Frag} {mg : Str → Option Value} {base : Heap}
/-! ### weights drawn -/
def sp_law_weights : Sp := fun vs H Q _ => ∃ (p : Addr) (n : Int) (x : List V) (k : Nat), vs = [.ref p, .int n] ∧ H p = some (.lst x) ∧ WellL x k ∧ k ≤ 800000 ∧ 0 ≤ n ∧ n ≤ 6 ∧
  ∀ (t : Addr) (ws : List Int) (y : List V) (H' : Hp), ws.length = n.toNat → fallI ws = true → (∀ x ∈ ws, x.natAbs < 2 ^ 101) → But p H H' → H t = none → H' t = some (.tup (ws.map V.int)) → H' p = some (.lst y) → WellL y (k + 30) → Q (.ref t) H'
theorem ok_law_weights (T : Txt K mg) : FnOk P w K mg base CX0 2 T.f_law_weights T.fd_law_weights ["_law_well_here", "_law_size"] sp_law_weights := by
  refine T.F_law_weights.ok sc_law_weights (fun vs H Q E h => ?_) (fun cdv A outer s H vs Q E hr h => ?_)
  · obtain ⟨p, n, x, k, rfl, _⟩ := h
    rfl
  · obtain ⟨p, n, x, k, rfl, hp, hx, hk, n0, n6, q⟩ := h
    refine ⟨_, (pss_cons
 (ps_set (i := 2) sc_law_weights.nd rfl (Or.inl rfl) (pe_ix ix_list (pe_lst (pa_cons (pe_call (ok_law_draw T) (hr.mono (by decide)) (by rfl) T.g_law_draw T.F_law_draw.kp T.b_law_draw .nil pass0 (pa_cons (pv 0) (pa_cons pe_int pa_nil))) (pa_cons (pe_call (ok_law_draw T) (hr.mono (by decide)) (by rfl) T.g_law_draw T.F_law_draw.kp T.b_law_draw .nil pass0 (pa_cons (pv 0) (pa_cons pe_int pa_nil))) (pa_cons (pe_call (ok_law_draw T) (hr.mono (by decide)) (by rfl) T.g_law_draw T.F_law_draw.kp T.b_law_draw .nil pass0 (pa_cons (pv 0) (pa_cons (pe_op op_pow pe_int pe_int) pa_nil))) pa_nil)))) (pe_call (ok_law_draw T) (hr.mono (by decide)) (by rfl) T.g_law_draw T.F_law_draw.kp T.b_law_draw .nil pass0 (pa_cons (pv 0) (pa_cons pe_int pa_nil))) (fun _ _ => rfl)))
 (pss_cons
 (ps_set (i := 3) sc_law_weights.nd rfl (Or.inl rfl) (pe_lst pa_nil))
 (pss_cons
 (ps_for PassesOwn.never rfl (pi_range1 rfl T.z_range (pa_cons (pv 1) pa_nil)) (pg_name (i := 4) sc_law_weights.nd rfl (Or.inl rfl))
 (pss_cons
 (ps_expr (pe_bm PySem.F.plainAttrs_list PySem.F.slot_list_append PySem.F.type_list_append mt_append (pv 3) (pa_cons (pv 2) pa_nil)))
 (pss_one
 (ps_set (i := 2) sc_law_weights.nd rfl (Or.inl rfl) (pe_op op_sub (pv 2) (pe_ix ix_list (pe_lst (pa_cons pe_int (pa_cons pe_int (pa_cons (pe_call (ok_law_draw T) (hr.mono (by decide)) (by rfl) T.g_law_draw T.F_law_draw.kp T.b_law_draw .nil pass0 (pa_cons (pv 0) (pa_cons pe_int pa_nil))) (pa_cons (pe_call (ok_law_draw T) (hr.mono (by decide)) (by rfl) T.g_law_draw T.F_law_draw.kp T.b_law_draw .nil pass0 (pa_cons (pv 0) (pa_cons (pe_op op_pow pe_int pe_int) pa_nil))) pa_nil))))) (pe_call (ok_law_draw T) (hr.mono (by decide)) (by rfl) T.g_law_draw T.F_law_draw.kp T.b_law_draw .nil pass0 (pa_cons (pv 0) (pa_cons pe_int pa_nil))) (fun _ _ => rfl)))))))
 (pss_one
 (ps_ret (pe_callTy call_tuple_of (by rfl) T.z_tuple (by decide +kernel) (pa_cons (pv 3) pa_nil))))))), ?_⟩
    refine ⟨.ref p, rfl, p, 9, x, k, rfl, hp, hx, by omega, by decide, size_ok (by decide) (by decide), fun d1 x1 a1 b1 w1 => ?_⟩
    refine ⟨.ref p, rfl, p, 9, x1, _, rfl, upd_same, w1, by omega, by decide, size_ok (by decide) (by decide), fun d2 x2 a2 b2 w2 => ?_⟩
    refine ⟨.ref p, rfl, 10, 30, rfl, rfl, ⟨by decide, by decide, by decide⟩, p, _, x2, _, rfl, upd_same, w2, by omega, by decide +kernel, by decide +kernel, fun d3 x3 a3 b3 w3 => ?_⟩
    rw [upd_upd, upd_upd]
    have b3 : d3 < 10 ^ 30 := b3
    refine ⟨line_of (show 3 ≤ 1000 by decide), fun l nl => ?_⟩
    have hp1 : (upd H p (.lst x3)) p = some (.lst x3) := upd_same
    have pl := ne_of_none hp1 nl
    refine ⟨.ref p, rfl, p, 3, x3, _, rfl, by rw [upd_ne pl]; exact hp1, w3, by omega, by decide, size_ok (by decide) (by decide), fun d4 x4 a4 b4 w4 => ?_⟩
    obtain ⟨top, htop, t0, t1⟩ : ∃ top : Int, atI [V.int d1, V.int d2, V.int d3] d4 = some (.int top) ∧ 0 ≤ top ∧ top ≤ 10 ^ 30 := by
      rcases (show d4 = 0 ∨ d4 = 1 ∨ d4 = 2 by omega) with rfl | rfl | rfl
      · exact ⟨d1, atI_nat (j := 0) rfl, a1, Int.le_trans (Int.le_of_lt b1) (by decide +kernel)⟩
      · exact ⟨d2, atI_nat (j := 1) rfl, a2, Int.le_trans (Int.le_of_lt b2) (by decide +kernel)⟩
      · exact ⟨d3, atI_nat (j := 2) rfl, a3, Int.le_of_lt b3⟩
    refine ⟨l, _, d4, _, rfl, rfl, .of (by rw [upd_ne pl.symm, upd_same]), htop, ?_⟩
    have bt : But p H (upd (upd (upd H p (.lst x3)) l (.lst [V.int d1, V.int d2, V.int d3])) p (.lst x4)) := (((But.refl p H).upd _).new nl _).upd _
    have hp4 : (upd (upd (upd H p (.lst x3)) l (.lst [V.int d1, V.int d2, V.int d3])) p (.lst x4)) p = some (.lst x4) := upd_same
    generalize upd (upd (upd H p (.lst x3)) l (.lst [V.int d1, V.int d2, V.int d3])) p (.lst x4) = H4 at bt hp4 ⊢
    refine ⟨line_of (show 0 ≤ 1000 by decide), fun L nL => ?_⟩
    have pL := ne_of_none hp4 nL
    have nLH : H L = none := bt.free hp4 nL
    refine ⟨.int n, rfl, n, rfl, by omega, by omega, for_range (fun i σ H' => ∃ (x4 : Option V) (tp : Int) (ws : List Int) (y : List V), σ = [some (.ref p), some (.int n), some (.int tp), some (.ref L), x4] ∧ H' L = some (.lst (ws.map V.int)) ∧ ws.length = i ∧ fallI ws = true ∧ (∀ v ∈ ws, tp ≤ v ∧ v ≤ 10 ^ 30 ∧ -(10 ^ 20 * 6) ≤ v) ∧
        tp ≤ 10 ^ 30 ∧ -(10 ^ 20 * (i : Int)) ≤ tp ∧ But p H H' ∧ H' p = some (.lst y) ∧ WellL y (k + 4 + 3 * i))
      ⟨none, top, [], x4, rfl, upd_same, rfl, rfl, fun _ h => (by cases h), t1, by omega, bt.mut nLH, by rw [upd_ne pL]; exact hp4, w4⟩ ?_ ?_⟩
    · rintro i σ H5 hi ⟨y4, tp, ws, y, rfl, hL, lw, fw, bw, u1, u2, b5, hp5, w5⟩
      have i6 : i < 6 := by omega
      refine ⟨.ref L, rfl, .inl ⟨rfl, _, .of hL⟩, .int tp, rfl, L, _, _, rfl, rfl, hL, small1000 (by rw [List.length_map]; omega), ?_⟩
      have b6 : But p H (upd H5 L (.lst (ws.map V.int ++ [V.int tp]))) := b5.mut nLH
      have hL6 : (upd H5 L (.lst (ws.map V.int ++ [V.int tp]))) L = some (.lst ((ws ++ [tp]).map V.int)) := by rw [upd_same, List.map_append] <;> rfl
      have hp6 : (upd H5 L (.lst (ws.map V.int ++ [V.int tp]))) p = some (.lst y) := by rw [upd_ne pL]; exact hp5
      generalize upd H5 L (.lst (ws.map V.int ++ [V.int tp])) = H6 at b6 hL6 hp6 ⊢
      refine ⟨.int tp, rfl, ?_⟩
      refine ⟨.ref p, rfl, p, 5, y, _, rfl, hp6, w5, by omega, by decide, size_ok (by decide) (by decide), fun e1 z1 c1 f1 v1 => ?_⟩
      refine ⟨.ref p, rfl, 10, 20, rfl, rfl, ⟨by decide, by decide, by decide⟩, p, _, z1, _, rfl, upd_same, v1, by omega, by decide +kernel, by decide +kernel, fun e2 z2 c2 f2 v2 => ?_⟩
      rw [upd_upd]
      have f2 : e2 < 10 ^ 20 := f2
      refine ⟨line_of (show 4 ≤ 1000 by decide), fun m nm => ?_⟩
      have hp7 : (upd H6 p (.lst z2)) p = some (.lst z2) := upd_same
      have pm := ne_of_none hp7 nm
      refine ⟨.ref p, rfl, p, 4, z2, _, rfl, by rw [upd_ne pm]; exact hp7, v2, by omega, by decide, size_ok (by decide) (by decide), fun e3 z3 c3 f3 v3 => ?_⟩
      obtain ⟨dn, hdn, g0, g1⟩ : ∃ dn : Int, atI [V.int 0, V.int 1, V.int e1, V.int e2] e3 = some (.int dn) ∧ 0 ≤ dn ∧ dn ≤ 10 ^ 20 := by
        rcases (show e3 = 0 ∨ e3 = 1 ∨ e3 = 2 ∨ e3 = 3 by omega) with rfl | rfl | rfl | rfl
        · exact ⟨0, atI_nat (j := 0) rfl, by decide, by decide⟩
        · exact ⟨1, atI_nat (j := 1) rfl, by decide, by decide⟩
        · exact ⟨e1, atI_nat (j := 2) rfl, c1, Int.le_trans (Int.le_of_lt f1) (by decide +kernel)⟩
        · exact ⟨e2, atI_nat (j := 3) rfl, c2, Int.le_of_lt f2⟩
      refine ⟨m, _, e3, _, rfl, rfl, .of (by rw [upd_ne pm.symm, upd_same]), hdn, _, _, rfl, rfl, ?_⟩
      have L6 : (upd H6 p (.lst z2)) L = some (.lst ((ws ++ [tp]).map V.int)) := by rw [upd_ne pL.symm]; exact hL6
      have mL := ne_of_none L6 nm
      refine ⟨_, tp - dn, ws ++ [tp], z3, rfl, ?_, by rw [List.length_append, lw]; rfl, fall_more fw (fun v hv => (bw v hv).1), ?_, by omega, by push_cast; omega, ((b6.upd _).new nm _).upd _, upd_same, v3.mono (by omega)⟩
      · rw [upd_ne pL.symm, upd_ne mL]
        exact L6
      · intro v hv
        rcases List.mem_append.mp hv with hv | hv
        · have := bw v hv
          exact ⟨by omega, this.2⟩
        · rw [List.mem_singleton.mp hv]
          exact ⟨by omega, u1, by omega⟩
    · rintro σ H5 ⟨y4, tp, ws, y, rfl, hL, lw, fw, bw, u1, u2, b5, hp5, w5⟩
      refine ⟨.ref L, rfl, L, _, rfl, .inl ⟨.of hL, fun t nt => ?_⟩⟩
      refine q t ws y _ lw fw (fun v hv => ?_) (b5.new nt _) (b5.free hp5 nt) upd_same (by rw [upd_ne (ne_of_none hp5 nt)]; exact hp5) (w5.mono (by omega))
      obtain ⟨v1, v2, v3⟩ := bw v hv
      exact Nat.lt_of_le_of_lt (show v.natAbs ≤ 10 ^ 30 by omega) (by decide +kernel)
end
/-! ### data at hand, one after another: what stands is kept as one list -/
theorem DAll.nth {H : Hp} : ∀ {l : List PyData} {xs : List V}, DAll H l xs → ∀ (i : Nat) {d : PyData} {v : V}, l[i]? = some d → xs[i]? = some v → DAt H d v
  | [], _, _, i, _, _, h, _ => by cases h
  | _ :: _, _, ⟨v, r, e, a, b⟩, 0, _, _, h, g => by
    cases e
    cases h
    cases g
    exact a
  | _ :: _, _, ⟨v, r, e, a, b⟩, i + 1, _, _, h, g => by
    cases e
    exact DAll.nth b i h g
theorem DAt.puts {p : Addr} {Hc : Hp} {o : HO} {d : PyData} {v : V} (s : DAt (hide p Hc) d v) : DAt (hide p (upd Hc p o)) d v := by
  rw [hide_upd]
  exact s
theorem DAll.puts {p : Addr} {Hc : Hp} {o : HO} {d : List PyData} {v : List V} (s : DAll (hide p Hc) d v) : DAll (hide p (upd Hc p o)) d v := by
  rw [hide_upd]
  exact s
theorem pushT {p t : Addr} {H Hc : Hp} {y xs V0 : List V} {l L : List PyData} (c : On p H y Hc) (n : Hc t = none) (a : DAll (hide p Hc) l xs) (A : DAll (hide p Hc) L V0) :
    On p H y (upd Hc t (.tup xs)) ∧ DAll (hide p (upd Hc t (.tup xs))) (.tuple l :: L) (.ref t :: V0) :=
  have s := hid_same (p := p) (same_upd (o := HO.tup xs) n)
  ⟨c.new n, da1 ⟨t, xs, rfl, c.hid n, DAll.same s _ a⟩ (DAll.same s _ A)⟩
theorem pushL {p t : Addr} {H Hc : Hp} {y xs V0 : List V} {l L : List PyData} (c : On p H y Hc) (n : Hc t = none) (a : DAll (hide p Hc) l xs) (A : DAll (hide p Hc) L V0) :
    On p H y (upd Hc t (.lst xs)) ∧ DAll (hide p (upd Hc t (.lst xs))) (.list l :: L) (.ref t :: V0) :=
  have s := hid_same (p := p) (same_upd (o := HO.lst xs) n)
  ⟨c.new n, da1 ⟨t, xs, rfl, c.hid n, DAll.same s _ a⟩ (DAll.same s _ A)⟩
theorem slD {K : PySem.W.Frag} {p t : Addr} {H Hc : Hp} {y V0 : List V} {l m L : List PyData} {lo hi : Option Int} {Q : VK} (c : On p H y Hc) (a : DAt (hide p Hc) (.tuple l) (.ref t)) (A : DAll (hide p Hc) L V0)
    (hc : ∀ us : List V, us.length = l.length → ∀ G, DAll G l us → DAll G m (cutV us lo hi))
    (k : ∀ (s : Addr) (H' : Hp), On p H y H' → DAll (hide p H') (.tuple m :: L) (.ref s :: V0) → Q (.ref s) H') : rSlA K (.ref t) lo hi Hc Q := by
  obtain ⟨t', us, e, ht, ha⟩ := a
  cases e
  refine slX_of (hide_sub _ _ _ _ ht) fun s H' e s1 => ?_
  have o1 := c.same s1
  have s2 := hid_same (p := p) s1
  exact k s H' o1 (da1 ⟨s, _, rfl, hid_tup o1.2 e, hc us ha.len _ (DAll.same s2 _ ha)⟩ (DAll.same s2 _ A))
theorem cut_toD {l : List PyData} {i : Nat} (h : i ≤ l.length) : ∀ us : List V, us.length = l.length → ∀ G, DAll G l us → DAll G (l.take i) (cutV us none (some (i : Int))) := fun us e G a => by
  rw [cut_to (by omega)]
  exact a.take i
theorem cut_fromD {l : List PyData} {i : Nat} {j : Int} (e : j = (i : Int)) (h : i ≤ l.length) : ∀ us : List V, us.length = l.length → ∀ G, DAll G l us → DAll G (l.drop i) (cutV us (some j) none) := fun us e1 G a => by
  rw [e, cut_from (by omega)]
  exact a.drop i
theorem cut_oneD {l : List PyData} {i : Nat} (h : i < l.length) : ∀ us : List V, us.length = l.length → ∀ G, DAll G l us → DAll G ((l.drop i).take 1) (cutV us (some (i : Int)) (some ((i : Int) + 1))) := fun us e1 G a => by
  have e : cutV us (some (i : Int)) (some ((i : Int) + 1)) = (us.drop i).take 1 := by
    have e2 : HT.sIx us.length 0 (some (i : Int)) = i := by
      show (if (i : Int) < 0 then ((i : Int) + (us.length : Int)).toNat else min (i : Int).toNat us.length) = i
      rw [if_neg (by omega)]
      omega
    have e3 : HT.sIx us.length us.length (some ((i : Int) + 1)) = i + 1 := by
      show (if (i : Int) + 1 < 0 then ((i : Int) + 1 + (us.length : Int)).toNat else min ((i : Int) + 1).toNat us.length) = i + 1
      rw [if_neg (by omega)]
      omega
    unfold cutV
    rw [e2, e3, show i + 1 - i = 1 by omega]
  rw [e]
  exact (a.drop i).take 1
theorem catD {K : PySem.W.Frag} {p q r : Addr} {H Hc : Hp} {y V0 : List V} {l m L : List PyData} {Q : VK} (c : On p H y Hc) (a : DAt (hide p Hc) (.tuple l) (.ref q)) (b : DAt (hide p Hc) (.tuple m) (.ref r)) (A : DAll (hide p Hc) L V0)
    (hz : l.length + m.length ≤ 1000) (k : ∀ (s : Addr) (H' : Hp), On p H y H' → DAll (hide p H') (.tuple (l ++ m) :: L) (.ref s :: V0) → Q (.ref s) H') : rCatA K (.ref q) (.ref r) Hc Q := by
  obtain ⟨_, us, e, ht, ha⟩ := a
  cases e
  obtain ⟨_, ws, e, hr, hb⟩ := b
  cases e
  refine catA_of (hide_sub _ _ _ _ ht) (hide_sub _ _ _ _ hr) (by rw [ha.len, hb.len]; first | exact hz | exact line_of hz) fun s H' e s1 => ?_
  have o1 := c.same s1
  have s2 := hid_same (p := p) s1
  exact k s H' o1 (da1 ⟨s, _, rfl, hid_tup o1.2 e, (DAll.same s2 _ ha).append (DAll.same s2 _ hb)⟩ (DAll.same s2 _ A))
theorem oneD {p q : Addr} {H Hc : Hp} {y V0 : List V} {l L : List PyData} (c : On p H y Hc) (a : DAt (hide p Hc) (.list l) (.ref q)) (A : DAll (hide p Hc) L V0) (h1 : l ≠ []) (h2 : l.length ≤ 1000) :
    ∃ xs : List V, hide p Hc q = some (.lst xs) ∧ xs ≠ [] ∧ xs.length ≤ 1000 ∧ ∀ (i : Nat) (v : V) (y' : List V), xs[i]? = some v → ∃ d, d ∈ l ∧ On p H y' (upd Hc p (.lst y')) ∧ DAll (hide p (upd Hc p (.lst y'))) (d :: L) (v :: V0) := by
  obtain ⟨_, us, e, ht, ha⟩ := a
  cases e
  have le := ha.len
  refine ⟨us, ht, (fun z => h1 (List.length_eq_zero_iff.mp (by rw [← le, z]; rfl))), by omega, fun i v y' hi => ?_⟩
  obtain ⟨d, hd, ad⟩ := ha.get hi
  exact ⟨d, List.mem_of_getElem? hd, c.put, da1 ad.puts A.puts⟩
section
variable {P : Program} {w : World} {K : PySem.W.Frag} {mg : Str → Option Value} {base : Heap}
theorem slL {K : PySem.W.Frag} {p q : Addr} {H Hc : Hp} {y V0 : List V} {l m L : List PyData} {lo hi : Option Int} {Q : VK} (c : On p H y Hc) (a : DAt (hide p Hc) (.list l) (.ref q)) (A : DAll (hide p Hc) L V0)
    (hc : ∀ us : List V, us.length = l.length → ∀ G, DAll G l us → DAll G m (cutV us lo hi))
    (k : ∀ (s : Addr) (H' : Hp), On p H y H' → DAll (hide p H') (.list m :: L) (.ref s :: V0) → Q (.ref s) H') : rSlL K (.ref q) lo hi Hc Q := by
  obtain ⟨_, us, e, ht, ha⟩ := a
  cases e
  refine ⟨q, us, rfl, .of (hide_sub _ _ _ _ ht), fun s n => ?_⟩
  obtain ⟨o, B⟩ := pushL c n (hc us ha.len _ ha) A
  exact k s _ o B
theorem catL {p q r : Addr} {H Hc : Hp} {y V0 : List V} {l m L : List PyData} {Q : VK} (c : On p H y Hc) (a : DAt (hide p Hc) (.list l) (.ref q)) (b : DAt (hide p Hc) (.list m) (.ref r)) (A : DAll (hide p Hc) L V0)
    (hz : l.length + m.length ≤ 1000) (k : ∀ (s : Addr) (H' : Hp), On p H y H' → DAll (hide p H') (.list (l ++ m) :: L) (.ref s :: V0) → Q (.ref s) H') : rCat (.ref q) (.ref r) Hc Q := by
  obtain ⟨_, us, e, ht, ha⟩ := a
  cases e
  obtain ⟨_, ws, e, hr, hb⟩ := b
  cases e
  refine ⟨q, r, us, ws, rfl, rfl, hide_sub _ _ _ _ ht, hide_sub _ _ _ _ hr, line_of (by rw [ha.len, hb.len]; exact hz), fun s n => ?_⟩
  obtain ⟨o, B⟩ := pushL c n (ha.append hb) A
  exact k s _ o B
theorem cut_fromA {l : List PyData} {i : Nat} {j : Int} (e : j = (i : Int)) : ∀ us : List V, us.length = l.length → ∀ G, DAll G l us → DAll G (l.drop i) (cutV us (some j) none) := fun us e1 G a => by
  have e2 : cutV us (some j) none = us.drop i := by
    rw [e]
    unfold cutV
    rw [HT.sIx_nat, HT.sIx_none]
    by_cases h : i ≤ us.length
    · rw [Nat.min_eq_left h, List.take_of_length_le (by rw [List.length_drop]; exact Nat.le_refl _)]
    · rw [Nat.min_eq_right (by omega), List.drop_eq_nil_of_le (Nat.le_refl _), List.drop_eq_nil_of_le (by omega), List.take_nil]
  rw [e2]
  exact a.drop i
theorem DAll.tail1 {H : Hp} {d : PyData} {l : List PyData} {v : V} {xs : List V} (h : DAll H (d :: l) (v :: xs)) : DAll H l xs := by
  obtain ⟨v', r, e, _, h2⟩ := h
  cases e
  exact h2
end
/-- what is no weights for so many options, and not deep -/
structure NoW (n : Nat) (d : PyData) : Prop where
  no : weightsD n d = false
  few : (parts d).length ≤ 20
  lay : Lay 3 d
theorem lay_int (n : Nat) (i : Int) : Lay n (.int i) := ⟨rfl, Nat.zero_le _⟩
theorem lay_ints (l : List Int) : LayA 0 (l.map PyData.int) := LayA.of fun d hd => by
  obtain ⟨i, _, rfl⟩ := List.mem_map.mp hd
  exact lay_int _ _
theorem LayA.append {n : Nat} : ∀ {a b : List PyData}, LayA n a → LayA n b → LayA n (a ++ b)
  | [], _, _, h => h
  | d :: a, b, h, g => by
    obtain ⟨h1, h2⟩ := h
    rw [PyData.canLayAll0, Bool.and_eq_true] at h1
    rw [PyData.depthAll] at h2
    exact .cons ⟨h1.1, (Nat.max_le.mp h2).1⟩ (LayA.append ⟨h1.2, (Nat.max_le.mp h2).2⟩ g)
theorem now_len {n : Nat} {l : List PyData} (h : l.length ≠ n) (f : l.length ≤ 20) (y : LayA 0 l) : NoW n (.tuple l) := by
  refine ⟨?_, f, y.tuple.mono (by decide)⟩
  show (decide (l.length = n) && l.all wholeD && fallI (l.filterMap unI)) = false
  rw [decide_eq_false h] <;> rfl
theorem now_odd {n : Nat} {l : List PyData} {d : PyData} (h : d ∈ l) (e : wholeD d = false) (f : l.length ≤ 20) (y : LayA 0 l) : NoW n (.tuple l) := by
  refine ⟨?_, f, y.tuple.mono (by decide)⟩
  show (decide (l.length = n) && l.all wholeD && fallI (l.filterMap unI)) = false
  have : l.all wholeD = false := by
    rw [List.all_eq_false]
    exact ⟨d, h, by rw [e]; exact Bool.false_ne_true⟩
  rw [this, Bool.and_false] <;> rfl
theorem now_rise {n : Nat} {l : List Int} (h : fallI l = false) (f : l.length ≤ 20) : NoW n (.tuple (l.map PyData.int)) := by
  refine ⟨?_, by show (l.map PyData.int).length ≤ 20; rw [List.length_map]; exact f, (lay_ints l).tuple.mono (by decide)⟩
  show (decide ((l.map PyData.int).length = n) && (l.map PyData.int).all wholeD && fallI ((l.map PyData.int).filterMap unI)) = false
  rw [unI_ints, h, Bool.and_false]
theorem cut_lastA {l : List PyData} (h : l ≠ []) : ∀ us : List V, us.length = l.length → ∀ G, DAll G l us → DAll G (l.drop (l.length - 1)) (cutV us (some (-1)) none) := fun us e G a => by
  have hp := List.length_pos_iff.mpr h
  have e2 : cutV us (some (-1)) none = us.drop (l.length - 1) := by
    unfold cutV
    have e1 : HT.sIx us.length 0 (some (-1)) = l.length - 1 := by
      show (if (-1 : Int) < 0 then ((-1 : Int) + (us.length : Int)).toNat else min (-1 : Int).toNat us.length) = l.length - 1
      rw [if_pos (by decide)]
      omega
    rw [e1, HT.sIx_none, List.take_of_length_le (by rw [List.length_drop]; exact Nat.le_refl _)]
  rw [e2]
  exact a.drop _
theorem cut_initA {l : List PyData} (h : l ≠ []) : ∀ us : List V, us.length = l.length → ∀ G, DAll G l us → DAll G (l.take (l.length - 1)) (cutV us none (some (-1))) := fun us e G a => by
  have hp := List.length_pos_iff.mpr h
  have e2 : cutV us none (some (-1)) = us.take (l.length - 1) := by
    unfold cutV
    have e1 : HT.sIx us.length us.length (some (-1)) = l.length - 1 := by
      show (if (-1 : Int) < 0 then ((-1 : Int) + (us.length : Int)).toNat else min (-1 : Int).toNat us.length) = l.length - 1
      rw [if_pos (by decide)]
      omega
    rw [e1, HT.sIx_none, List.drop_zero, Nat.sub_zero]
  rw [e2]
  exact a.take _
theorem atI_two (xs : List V) (u v : V) : atI (xs ++ [u, v]) (-2) = some u := by
  have hl : (xs ++ [u, v]).length = xs.length + 2 := by rw [List.length_append] <;> rfl
  unfold atI ixN
  rw [hl, if_neg (by omega), if_pos (by omega)]
  show (xs ++ [u, v])[(-2 + ((xs.length + 2 : Nat) : Int)).toNat]? = some u
  rw [show (-2 + ((xs.length + 2 : Nat) : Int)).toNat = xs.length by omega, List.getElem?_append_right (Nat.le_refl _), Nat.sub_self] <;> rfl
theorem many_of2 {K : PySem.W.Frag} {H : Hp} {l : Addr} {k : Int} {xs : List V} {Q : VK} (h : H l = some (.tup xs)) (h1 : xs ≠ []) (h2 : 2 ≤ k) (h3 : k ≤ 1000) (h4 : xs.length ≤ 1000) (c : ∀ (s : Addr), H s = none → Q (.ref s) (upd H s (.tup (List.replicate k.toNat xs).flatten))) : rMany K (.ref l) (.int k) H Q :=
  ⟨l, k, xs, rfl, rfl, .of h, h1, by omega, h3, h4, fun e => absurd e (by omega), fun _ p n => c p n⟩
theorem split_list {F : L2.St → Hp → Prop} {σ : L2.St} {H : Hp} {c : Bool} {A : Prop} {G : V → Hp → Prop} {v0 : V} (S : V → L2.St) (main : ∀ v H', G v H' → F (S v) H') (hS : S v0 = σ) (h0 : c = false → G v0 H) (h1 : c = true → (∀ v H', G v H' → F (S v) H') → A) : if c = true then A else F σ H := by
  subst hS
  cases c with
  | true => exact h1 rfl main
  | false => exact main _ _ (h0 rfl)
theorem DAll.rep1 {H : Hp} {d : PyData} {v : V} (a : DAt H d v) : ∀ n : Nat, DAll H (List.replicate n d) (List.replicate n [v]).flatten
  | 0 => rfl
  | n + 1 => by
    rw [List.replicate_succ, List.replicate_succ, List.flatten_cons]
    exact da1 a (DAll.rep1 a n)
theorem DAll.rep {H : Hp} {l : List PyData} {us : List V} (a : DAll H l us) : ∀ n : Nat, DAll H (List.replicate n l).flatten (List.replicate n us).flatten
  | 0 => rfl
  | n + 1 => by
    rw [List.replicate_succ, List.replicate_succ, List.flatten_cons, List.flatten_cons]
    exact a.append (DAll.rep a n)
section
variable {P : Program} {w : World} {K : PySem.W.Frag} {mg : Str → Option Value} {base : Heap}
def sp_law_bad : Sp := fun vs H Q _ => ∃ (p t : Addr) (ws : List Int) (x : List V) (k : Nat), vs = [.ref p, .ref t] ∧ H p = some (.lst x) ∧ hide p H t = some (.tup (ws.map V.int)) ∧ ws ≠ [] ∧ ws.length ≤ 6 ∧ WellL x k ∧ k ≤ 800000 ∧
  ∀ (v : V) (d : PyData) (y : List V) (H' : Hp), On p H y H' → WellL y (k + 1) → DAt (hide p H') d v → NoW ws.length d → Q v H'
theorem ok_law_bad (T : Txt K mg) : FnOk P w K mg base CX0 3 T.f_law_bad T.fd_law_bad ["_law_well_here", "_law_weights_here"] sp_law_bad := by
  refine T.F_law_bad.ok sc_law_bad (fun vs H Q E h => ?_) (fun cdv A outer s H vs Q E hr h => ?_)
  · obtain ⟨p, t, ws, x, k, rfl, _⟩ := h
    rfl
  · obtain ⟨p, t, ws, x, k, rfl, hp, ht, hne, n6, wx, hk, c⟩ := h
    refine ⟨_, (pss_cons
 (ps_set (i := 2) sc_law_bad.nd rfl (Or.inl rfl) (pe_lst (pa_cons (pe_op op_catA (pv 1) (pe_slice sl_tupA (pv 1) (po_some (pe_un un_neg pe_int)) po_none)) (pa_cons (pe_slice sl_tupA (pv 1) (po_some pe_int) po_none) (pa_cons (pe_callTy call_list_of (by rfl) T.z_list (by decide +kernel) (pa_cons (pv 1) pa_nil)) (pa_cons pe_non (pa_cons (pe_op op_catA (pe_slice sl_tupA (pv 1) po_none (po_some (pe_un un_neg pe_int))) (pe_tup (pa_cons pe_bl pa_nil))) (pa_cons (pe_op op_catA (pe_slice sl_tupA (pv 1) po_none (po_some (pe_un un_neg pe_int))) (pe_tup (pa_cons pe_str pa_nil))) pa_nil))))))))
 (pss_cons
 (ps_set (i := 2) sc_law_bad.nd rfl (Or.inl rfl) (pe_op op_cat (pv 2) (pe_lst (pa_cons (pe_tup pa_nil) (pa_cons (pe_op op_many (pe_tup (pa_cons (pe_ix ix_tup (pv 1) pe_int (fun _ _ => rfl)) pa_nil)) (pe_op op_add (pe_callB call_len_seq (by rfl) T.z_len (by decide +kernel) (pa_cons (pv 1) pa_nil)) pe_int)) (pa_cons pe_str (pa_cons pe_int pa_nil)))))))
 (pss_cons
 (ps_if (pt_cmpR op_gt (pe_callB call_len_seq (by rfl) T.z_len (by decide +kernel) (pa_cons (pv 1) pa_nil)) pe_int (nomark _))
 (pss_one
 (ps_set (i := 2) sc_law_bad.nd rfl (Or.inl rfl) (pe_op op_cat (pv 2) (pe_op op_rep (pe_lst (pa_cons (pe_op op_catA (pe_slice sl_tupA (pv 1) po_none (po_some (pe_un un_neg pe_int))) (pe_tup (pa_cons (pe_op op_add (pe_ix ix_tup (pv 1) (pe_un un_neg pe_int) (fun _ _ => rfl)) pe_int) pa_nil))) (pa_cons (pe_op op_catA (pe_tup (pa_cons (pe_op op_sub (pe_ix ix_tup (pv 1) pe_int (fun _ _ => rfl)) pe_int) pa_nil)) (pe_slice sl_tupA (pv 1) (po_some pe_int) po_none)) pa_nil))) pe_int))))
 pss_nil)
 (pss_cons
 (ps_set (i := 3) sc_law_bad.nd rfl (Or.inl rfl) (pe_call (ok_law_one T) (hr.mono (by decide)) (by rfl) T.g_law_one T.F_law_one.kp T.b_law_one .nil pass0 (pa_cons (pv 0) (pa_cons (pv 2) pa_nil))))
 (pss_cons
 (ps_if (pt_cmpR (op_eqD hr.units) (pv 3) (pe_tup pa_nil) (nomark _))
 (pss_one
 (ps_ret pe_non))
 pss_nil)
 (pss_one
 (ps_ret (pv 3)))))))), ?_⟩
    have hpos := List.length_pos_iff.mpr hne
    have hW : (ws.map PyData.int) ≠ [] := fun e => hne (List.map_eq_nil_iff.mp e)
    have lW : (ws.map PyData.int).length = ws.length := List.length_map ..
    generalize hWd : ws.map PyData.int = W at hW lW
    have aW : DAll (hide p H) [.tuple W] [.ref t] := da1 ⟨t, _, rfl, ht, by rw [← hWd]; exact DAll.ints ws⟩ da0
    have tAt : ∀ {Hc : Hp} {L : List PyData} {V0 : List V} (i : Nat), DAll (hide p Hc) L V0 → L[i]? = some (.tuple W) → V0[i]? = some (.ref t) → Hc t = some (.tup (ws.map V.int)) := fun {Hc L V0} i a h1 h2 => by
      obtain ⟨t', us, e, hu, au⟩ := a.nth i h1 h2
      cases e
      rw [← hWd] at au
      rw [hide_sub _ _ _ _ hu, au.of_ints]
    have lW0 : LayA 0 W := by rw [← hWd]; exact lay_ints ws
    refine ⟨.ref t, rfl, .ref t, rfl, 1, rfl, _, rfl, ?_⟩
    dsimp only [tNoPart]
    refine slD (On.start hp) (aW.nth 0 rfl rfl) aW (cut_lastA hW) fun s1 H1 o1 A1 => ?_
    refine catD o1 (A1.nth 1 rfl rfl) (A1.nth 0 rfl rfl) A1 (by rw [List.length_drop]; omega) fun s2 H2 o2 A2 => ?_
    refine ⟨.ref t, rfl, 1, rfl, ?_⟩
    dsimp only [tNoPart]
    refine slD o2 (A2.nth 2 rfl rfl) A2 (cut_fromD (i := 1) rfl (by omega)) fun s3 H3 o3 A3 => ?_
    refine ⟨.ref t, rfl, t, _, rfl, .inr (.of (tAt 3 A3 rfl rfl)), fun l4 n4 => ?_⟩
    obtain ⟨o4, A4⟩ := pushL (l := W) o3 n4 (by rw [← hWd]; exact DAll.ints ws) A3
    refine ⟨.ref t, rfl, 1, rfl, _, rfl, ?_⟩
    refine slD o4 (A4.nth 4 rfl rfl) A4 (cut_initA hW) fun s5 H5 o5 A5 => ?_
    refine ⟨line_of (show 1 ≤ 1000 by decide), fun t6 n6' => ?_⟩
    obtain ⟨o6, A6⟩ := pushT (l := [.bool true]) o5 n6' (da1 rfl da0) A5
    refine catD o6 (A6.nth 1 rfl rfl) (A6.nth 0 rfl rfl) A6 (by rw [List.length_take]; show _ + 1 ≤ 1000; omega) fun s7 H7 o7 A7 => ?_
    refine ⟨.ref t, rfl, 1, rfl, _, rfl, ?_⟩
    refine slD o7 (A7.nth 7 rfl rfl) A7 (cut_initA hW) fun s8 H8 o8 A8 => ?_
    refine ⟨line_of (show 1 ≤ 1000 by decide), fun t9 n9 => ?_⟩
    obtain ⟨o9, A9⟩ := pushT (l := [.str "1"]) o8 n9 (da1 rfl da0) A8
    refine catD o9 (A9.nth 1 rfl rfl) (A9.nth 0 rfl rfl) A9 (by rw [List.length_take]; show _ + 1 ≤ 1000; omega) fun s10 H10 o10 A10 => ?_
    refine ⟨line_of (show 6 ≤ 1000 by decide), fun l11 n11 => ?_⟩
    obtain ⟨o11, A11⟩ := pushL (l := [.tuple (W ++ W.drop (W.length - 1)), .tuple (W.drop 1), .list W, .none, .tuple (W.take (W.length - 1) ++ [.bool true]), .tuple (W.take (W.length - 1) ++ [.str "1"])]) o10 n11
      (da1 (A10.nth 8 rfl rfl) (da1 (A10.nth 7 rfl rfl) (da1 (A10.nth 6 rfl rfl) (da1 rfl (da1 (A10.nth 3 rfl rfl) (da1 (A10.nth 0 rfl rfl) da0)))))) A10
    generalize upd H10 l11 _ = H11 at o11 A11 ⊢
    have B11 := da1 (A11.nth 0 rfl rfl) (da1 (A11.nth 11 rfl rfl) da0)
    have y0 : LayA 0 (W.drop (W.length - 1)) := by rw [← hWd, ← List.map_drop]; exact lay_ints _
    have y1 : LayA 0 (W.take (W.length - 1)) := by rw [← hWd, ← List.map_take]; exact lay_ints _
    have y2 : LayA 0 (W.drop 1) := by rw [← hWd, ← List.map_drop]; exact lay_ints _
    have good1 : ∀ d ∈ [PyData.tuple (W ++ W.drop (W.length - 1)), .tuple (W.drop 1), .list W, .none, .tuple (W.take (W.length - 1) ++ [.bool true]), .tuple (W.take (W.length - 1) ++ [.str "1"])], NoW ws.length d := by
      intro d hd
      simp only [List.mem_cons, List.not_mem_nil, or_false] at hd
      rcases hd with rfl | rfl | rfl | rfl | rfl | rfl
      · exact now_len (by rw [List.length_append, List.length_drop]; omega) (by rw [List.length_append, List.length_drop]; omega) (lW0.append y0)
      · exact now_len (by rw [List.length_drop]; omega) (by rw [List.length_drop]; omega) y2
      · refine ⟨rfl, Nat.zero_le _, ?_⟩
        have := lW0.tuple
        refine ⟨by rw [PyData.canLay0]; exact lW0.lay, ?_⟩
        rw [PyData.depth]
        have := lW0.dep
        omega
      · exact ⟨rfl, Nat.zero_le _, rfl, Nat.zero_le _⟩
      · exact now_odd (d := .bool true) (List.mem_append_right _ (List.mem_singleton.mpr rfl)) rfl (by rw [List.length_append, List.length_take]; show _ + 1 ≤ 20; omega) (y1.append (.cons ⟨rfl, Nat.zero_le _⟩ .nil))
      · exact now_odd (d := .str "1") (List.mem_append_right _ (List.mem_singleton.mpr rfl)) rfl (by rw [List.length_append, List.length_take]; show _ + 1 ≤ 20; omega) (y1.append (.cons ⟨by decide +kernel, Nat.zero_le _⟩ .nil))
    generalize hG1 : [PyData.tuple (W ++ W.drop (W.length - 1)), .tuple (W.drop 1), .list W, .none, .tuple (W.take (W.length - 1) ++ [.bool true]), .tuple (W.take (W.length - 1) ++ [.str "1"])] = G1 at B11 good1
    have l1 : G1.length = 6 := by rw [← hG1]; rfl
    clear hG1 A11 A10 A9 A8 A7 A6 A5 A4 A3 A2 A1
    obtain ⟨w0, wr, ew⟩ : ∃ a l, ws = a :: l := by cases ws with | nil => exact absurd rfl hne | cons a l => exact ⟨a, l, rfl⟩
    have e0 : (ws.map V.int)[0]? = some (V.int w0) := by rw [ew]; rfl
    refine ⟨.ref l11, rfl, line_of (show 0 ≤ 1000 by decide), fun t12 n12 => ?_⟩
    obtain ⟨o12, A12⟩ := pushT (l := []) o11 n12 da0 B11
    refine ⟨.ref t, rfl, t, _, 0, _, rfl, rfl, .of (tAt 2 A12 rfl rfl), atI_nat (j := 0) e0, line_of (show 1 ≤ 1000 by decide), fun t13 n13 => ?_⟩
    obtain ⟨o13, A13⟩ := pushT (l := [.int w0]) o12 n13 (da1 rfl da0) A12
    refine ⟨.ref t, rfl, t, _, rfl, .inr (.of (tAt 3 A13 rfl rfl)), _, 1, rfl, rfl, ?_⟩
    refine many_of2 (xs := [V.int w0]) upd_same (by simp) (by rw [List.length_map]; omega) (by rw [List.length_map]; omega) (by show 1 ≤ 1000; decide) fun t14 n14 => ?_
    have rr := DAll.rep1 (H := hide p (upd (upd H11 t12 (.tup [])) t13 (.tup [V.int w0]))) (d := .int w0) (v := .int w0) rfl ((((ws.map V.int).length : Nat) : Int) + 1).toNat
    obtain ⟨o14, A14⟩ := pushT o13 n14 rr A13
    refine ⟨line_of (show 4 ≤ 1000 by decide), fun l15 n15 => ?_⟩
    obtain ⟨o15, A15⟩ := pushL (l := [.tuple [], .tuple (List.replicate ((((ws.map V.int).length : Nat) : Int) + 1).toNat (.int w0)), .str "weights", .int 5]) o14 n15 (da1 (A14.nth 2 rfl rfl) (da1 (A14.nth 0 rfl rfl) (da1 rfl (da1 rfl da0)))) A14
    refine catL o15 (A15.nth 4 rfl rfl) (A15.nth 0 rfl rfl) A15 (by show G1.length + 4 ≤ 1000; omega) fun l16 H16 o16 A16 => ?_
    have B16 := da1 (A16.nth 0 rfl rfl) (da1 (A16.nth 6 rfl rfl) da0)
    have lrep : ((((ws.map V.int).length : Nat) : Int) + 1).toNat = ws.length + 1 := by rw [List.length_map]; omega
    rw [lrep] at B16
    have good2 : ∀ d ∈ G1 ++ [PyData.tuple [], .tuple (List.replicate (ws.length + 1) (.int w0)), .str "weights", .int 5], NoW ws.length d := by
      intro d hd
      rcases List.mem_append.mp hd with hd | hd
      · exact good1 d hd
      · simp only [List.mem_cons, List.not_mem_nil, or_false] at hd
        rcases hd with rfl | rfl | rfl | rfl
        · exact now_len (show 0 ≠ ws.length by omega) (Nat.zero_le _) .nil
        · refine now_len (by rw [List.length_replicate]; omega) (by rw [List.length_replicate]; omega) ?_
          rw [← List.map_replicate]
          exact lay_ints _
        · exact ⟨rfl, Nat.zero_le _, ⟨by decide +kernel, Nat.zero_le _⟩⟩
        · exact ⟨rfl, Nat.zero_le _, lay_int _ _⟩
    have l2 : (G1 ++ [PyData.tuple [], .tuple (List.replicate (ws.length + 1) (.int w0)), .str "weights", .int 5]).length = 10 := by rw [List.length_append, l1]; rfl
    generalize G1 ++ [PyData.tuple [], .tuple (List.replicate (ws.length + 1) (.int w0)), .str "weights", .int 5] = G2 at B16 good2 l2
    clear A16 A15 A14 A13 A12
    refine ⟨.ref t, rfl, t, _, rfl, .inr (.of (tAt 1 B16 rfl rfl)), _, _, rfl, rfl, _, rfl, ?_⟩
    refine split_list (G := fun v H' => ∃ G3, On p H x H' ∧ DAt (hide p H') (.list G3) v ∧ G3 ≠ [] ∧ G3.length ≤ 1000 ∧ ∀ d ∈ G3, NoW ws.length d) (fun v => [some (.ref p), some (.ref t), some v, none]) ?main rfl (fun _ => ⟨G2, o16, B16.nth 0 rfl rfl, (fun e => by rw [e] at l2; cases l2), by omega, good2⟩) ?more
    case more =>
      intro hc main
      have n2 : 1 < ws.length := by
        have := of_decide_eq_true hc
        rw [List.length_map] at this
        omega
      have f1 : ws.length - 2 < ws.length := by omega
      have f2 : ws.length - 1 < ws.length := by omega
      have ends : ∃ (l : List Int) (b c : Int), ws = l ++ [b, c] := by
        refine ⟨ws.take (ws.length - 2), ws[ws.length - 2], ws[ws.length - 1], ?_⟩
        conv => lhs; rw [← List.take_append_drop (ws.length - 2) ws]
        congr 1
        rw [List.drop_eq_getElem_cons f1]
        congr 1
        have e : ws.length - 2 + 1 = ws.length - 1 := by omega
        rw [e, List.drop_eq_getElem_cons f2, List.drop_eq_nil_of_le (by omega)]
      obtain ⟨li, b, cc, elast⟩ := ends
      have ib : atI (ws.map V.int) (-2) = some (.int b) := by
        rw [elast, List.map_append]
        exact atI_two _ _ _
      have et : W.take (W.length - 1) = (li ++ [b]).map PyData.int := by
        rw [← hWd, elast, List.map_append, List.map_append, List.length_append, List.length_map]
        show ((li.map PyData.int) ++ [PyData.int b, PyData.int cc]).take (li.length + 1) = _
        rw [List.take_append, List.length_map, List.take_of_length_le (by rw [List.length_map]; omega), show li.length + 1 - li.length = 1 by omega] <;> rfl
      obtain ⟨a0, a1, ar, ehead⟩ : ∃ a0 a1 ar, ws = a0 :: a1 :: ar := by
        match ws, n2 with
        | a0 :: a1 :: ar, _ => exact ⟨a0, a1, ar, rfl⟩
      have i1 : (ws.map V.int)[1]? = some (V.int a1) := by rw [ehead]; rfl
      have ed : W.drop 1 = (a1 :: ar).map PyData.int := by rw [← hWd, ehead]; rfl
      refine ⟨.ref l16, rfl, .ref t, rfl, 1, rfl, _, rfl, ?_⟩
      refine slD o16 (B16.nth 1 rfl rfl) B16 (cut_initA hW) fun s20 H20 o20 A20 => ?_
      refine ⟨.ref t, rfl, 2, rfl, t, _, -2, .int b, rfl, rfl, .of (tAt 2 A20 rfl rfl), ib, b, 1, rfl, rfl, line_of (show 1 ≤ 1000 by decide), fun t21 n21 => ?_⟩
      obtain ⟨o21, A21⟩ := pushT (l := [.int (b + 1)]) o20 n21 (da1 rfl da0) A20
      refine catD o21 (A21.nth 1 rfl rfl) (A21.nth 0 rfl rfl) A21 (by rw [List.length_take]; show _ + 1 ≤ 1000; omega) fun s22 H22 o22 A22 => ?_
      refine ⟨.ref t, rfl, t, _, 1, .int a1, rfl, rfl, .of (tAt 4 A22 rfl rfl), atI_nat (j := 1) i1, a1, 1, rfl, rfl, line_of (show 1 ≤ 1000 by decide), fun t23 n23 => ?_⟩
      obtain ⟨o23, A23⟩ := pushT (l := [.int (a1 - 1)]) o22 n23 (da1 rfl da0) A22
      refine ⟨.ref t, rfl, 1, rfl, ?_⟩
      dsimp only [tNoPart]
      refine slD o23 (A23.nth 5 rfl rfl) A23 (cut_fromD (i := 1) rfl (by omega)) fun s24 H24 o24 A24 => ?_
      refine catD o24 (A24.nth 1 rfl rfl) (A24.nth 0 rfl rfl) A24 (by rw [List.length_drop]; show 1 + _ ≤ 1000; omega) fun s25 H25 o25 A25 => ?_
      refine ⟨line_of (show 2 ≤ 1000 by decide), fun l26 n26 => ?_⟩
      obtain ⟨o26, A26⟩ := pushL (l := [.tuple (W.take (W.length - 1) ++ [.int (b + 1)]), .tuple ([.int (a1 - 1)] ++ W.drop 1)]) o25 n26 (da1 (A25.nth 3 rfl rfl) (da1 (A25.nth 0 rfl rfl) da0)) A25
      refine ⟨l26, 3, _, rfl, rfl, upd_same, by decide, by decide, line_of (show 2 * 3 ≤ 1000 by decide), fun l27 n27 => ?_⟩
      obtain ⟨l26', us26, e26, h26, a26⟩ := A26.nth 0 rfl rfl
      cases e26
      have h26' := hide_sub _ _ _ _ h26
      rw [upd_same] at h26'
      cases h26'
      obtain ⟨o27, A27⟩ := pushL o26 n27 (DAll.rep a26 3) A26
      refine catL o27 (A27.nth 8 rfl rfl) (A27.nth 0 rfl rfl) A27 (by show G2.length + 6 ≤ 1000; omega) fun l28 H28 o28 A28 => ?_
      have six : (List.replicate 3 [PyData.tuple (W.take (W.length - 1) ++ [.int (b + 1)]), .tuple ([.int (a1 - 1)] ++ W.drop 1)]).flatten.length = 6 := rfl
      refine main _ _ ⟨_, o28, A28.nth 0 rfl rfl, (fun e => ?_), ?_, ?_⟩
      · have := congrArg List.length e
        rw [List.length_append, l2, six] at this
        cases this
      · rw [List.length_append, l2, six]
        decide
      · intro d hd
        rcases List.mem_append.mp hd with hd | hd
        · exact good2 d hd
        · have two : d = .tuple (W.take (W.length - 1) ++ [.int (b + 1)]) ∨ d = .tuple ([.int (a1 - 1)] ++ W.drop 1) := by
            simp only [List.replicate, List.flatten_cons, List.flatten_nil, List.append_nil, List.mem_append, List.mem_cons, List.not_mem_nil, or_false] at hd
            rcases hd with (h | h) | (h | h) | h | h
            all_goals first | exact .inl h | exact .inr h
          have ll := congrArg List.length elast
          rw [List.length_append] at ll
          have ll : ws.length = li.length + 2 := ll
          rcases two with rfl | rfl
          · rw [et, show (li ++ [b]).map PyData.int ++ [.int (b + 1)] = (li ++ [b, b + 1]).map PyData.int by simp]
            exact now_rise (fall_bad b li) (by rw [List.length_append]; show li.length + 2 ≤ 20; omega)
          · rw [ed, show [PyData.int (a1 - 1)] ++ (a1 :: ar).map PyData.int = ((a1 - 1) :: a1 :: ar).map PyData.int from rfl]
            have lh := congrArg List.length ehead
            have lh : ws.length = ar.length + 2 := lh
            refine now_rise ?_ (by show ar.length + 2 ≤ 20; omega)
            rw [fall_two, decide_eq_false (by omega)] <;> rfl
    rintro v H' ⟨G3, o17, a17, hne3, len3, good3⟩
    obtain ⟨l17, us, rfl, h17, au⟩ := id a17
    obtain ⟨xs, hxs, xne, xle, pickd⟩ := oneD o17 a17 (da0 (H := hide p H')) hne3 len3
    refine ⟨.ref p, rfl, .ref l17, rfl, p, l17, x, xs, k, rfl, o17.2, .inl hxs, xne, xle, wx, by omega, fun i v y hi wy => ?_⟩
    obtain ⟨d, hd, od, Ad⟩ := pickd i v y hi
    have gd := good3 d hd
    generalize upd H' p (.lst y) = H18 at od Ad ⊢
    have ad := Ad.nth 0 rfl rfl
    refine ⟨v, rfl, line_of (show 0 ≤ 1000 by decide), fun te ne => ?_⟩
    have s19 := same_upd (o := HO.tup []) ne
    have o19 := od.same s19
    have ad19 := DAt.same (hid_same (p := p) s19) _ ad
    refine ⟨d, .tuple [], DAt.dp _ (DAt.same (hide_sub p _) _ ad19), DAt.dp _ ⟨te, [], rfl, upd_same, rfl⟩, gd.lay.shaped (by decide), rfl, _, rfl, ?_⟩
    generalize upd H18 te (.tup []) = H19 at o19 ad19 ⊢
    cases PyData.eqv d (.tuple []) with
    | true => exact iteT (c .non .none y H19 o19 wy rfl ⟨rfl, Nat.zero_le _, ⟨rfl, Nat.zero_le _⟩⟩)
    | false => exact iteF ⟨v, rfl, c v d y H19 o19 wy ad19 gd⟩
end
section
variable {P : Program} {w : World} {K : PySem.W.Frag} {mg : Str → Option Value} {base : Heap}
/-! ### what is due -/
def dueD (f : Str → Int × Int) (z : Str) : PyData := .tuple [.str z, .tuple [.int (f z).1, .int (f z).2]]
/-- a list of pairs of a name and two numbers -/
def DueAt (H : Hp) (L : Addr) (f : Str → Int × Int) (qs : List (Addr × Addr × Str)) : Prop := H L = some (.lst (qs.map fun q => V.ref q.1)) ∧ ∀ q ∈ qs, H q.1 = some (.tup [.str q.2.2, .ref q.2.1]) ∧ H q.2.1 = some (.tup [.int (f q.2.2).1, .int (f q.2.2).2])
theorem DueAt.same {H H' : Hp} {L : Addr} {f : Str → Int × Int} {qs : List (Addr × Addr × Str)} (s : Same H H') (h : DueAt H L f qs) : DueAt H' L f qs := ⟨s _ _ h.1, fun q hq => ⟨s _ _ (h.2 q hq).1, s _ _ (h.2 q hq).2⟩⟩
theorem DueAt.data {H : Hp} {L : Addr} {f : Str → Int × Int} {qs : List (Addr × Addr × Str)} (h : DueAt H L f qs) : DAt H (.list ((qs.map (·.2.2)).map (dueD f))) (.ref L) := by
  refine ⟨L, _, rfl, h.1, ?_⟩
  rw [List.map_map]
  exact DAll.of_map fun q hq => ⟨_, _, rfl, (h.2 q hq).1, da1 rfl (da1 ⟨_, _, rfl, (h.2 q hq).2, da1 rfl (da1 rfl da0)⟩ da0)⟩
theorem DueAt.more {H : Hp} {L t1 t2 : Addr} {f : Str → Int × Int} {qs : List (Addr × Addr × Str)} {z : Str} (h : DueAt H L f qs) (h1 : H t1 = some (.tup [.str z, .ref t2])) (h2 : H t2 = some (.tup [.int (f z).1, .int (f z).2])) :
    DueAt (upd H L (.lst (qs.map (fun q => V.ref q.1) ++ [V.ref t1]))) L f (qs ++ [(t1, t2, z)]) := by
  refine ⟨by rw [upd_same, List.map_append] <;> rfl, fun q hq => ?_⟩
  have both : H q.1 = some (.tup [.str q.2.2, .ref q.2.1]) ∧ H q.2.1 = some (.tup [.int (f q.2.2).1, .int (f q.2.2).2]) := by
    rcases List.mem_append.mp hq with hq | hq
    · exact h.2 q hq
    · rw [List.mem_singleton.mp hq]
      exact ⟨h1, h2⟩
  rw [upd_ne (fun e => by rw [e, h.1] at both; cases both.1), upd_ne (fun e => by rw [e, h.1] at both; cases both.2)]
  exact both
def sp_law_due : Sp := fun vs H Q _ => ∃ (o u t : Addr) (zs : List Str) (rows : List (Bal × Int)) (ws : List Int), vs = [.ref o, .ref u, .ref t] ∧ H o = some (.tup (zs.map V.str)) ∧ RowsAt H u rows ∧ OptsOk zs ∧ RowsOk zs 30 rows ∧ rows.length ≤ 8 ∧ H t = some (.tup (ws.map V.int)) ∧ (∀ x ∈ ws, x.natAbs < 2 ^ 101) ∧
  ∀ (L : Addr) (qs : List (Addr × Addr × Str)) (H' : Hp), Same H H' → H L = none → DueAt H' L (sumW zs ws rows) qs → qs.map (·.2.2) = zs → Q (.ref L) H'
theorem ok_law_due (T : Txt K mg) : FnOk P w K mg base CX0 3 T.f_law_due T.fd_law_due ["_law_drawn", "_law_rows_here", "_law_weights_here"] sp_law_due := by
  refine T.F_law_due.ok sc_law_due (fun vs H Q E h => ?_) (fun cdv A outer s H vs Q E hr h => ?_)
  · obtain ⟨o, u, t, zs, rows, ws, rfl, _⟩ := h
    rfl
  · obtain ⟨o, u, t, zs, rows, ws, rfl, ho, ⟨as, hu, ha, hm⟩, ok, rok, l8, hw, bits, q⟩ := h
    refine ⟨_, (pss_cons
 (ps_set (i := 3) sc_law_due.nd rfl (Or.inl rfl) (pe_lst pa_nil))
 (pss_cons
 (ps_for PassesOwn.never rfl (pi_tup (pv 0)) (pg_name (i := 4) sc_law_due.nd rfl (Or.inl rfl))
 (pss_cons
 (ps_set (i := 5) sc_law_due.nd rfl (Or.inl rfl) (pe_tup (pa_cons pe_int (pa_cons pe_int pa_nil))))
 (pss_cons
 (ps_for PassesOwn.never rfl (pi_tup (pv 1)) (pg_tup rfl (pgs_cons (pg_name (i := 6) sc_law_due.nd rfl (Or.inl rfl)) (pgs_cons (pg_name (i := 7) sc_law_due.nd rfl (Or.inl rfl)) pgs_nil)))
 (pss_cons
 (ps_set (i := 8) sc_law_due.nd rfl (Or.inl rfl) pe_int)
 (pss_one
 (ps_for PassesOwn.never rfl (pi_tup (pe_call (ok_law_tiers T) (hr.mono (by decide)) (by rfl) T.g_law_tiers T.F_law_tiers.kp T.b_law_tiers .nil pass0 (pa_cons (pv 0) (pa_cons (pv 6) pa_nil)))) (pg_name (i := 9) sc_law_due.nd rfl (Or.inl rfl))
 (pss_cons
 (ps_if (pt_cmpR op_in_seq (pv 4) (pv 9) rfl)
 (pss_cons
 (ps_set (i := 10) sc_law_due.nd rfl (Or.inl rfl) (pe_op op_mulW (pv 7) (pe_callB (cr_sumT rfl) (by rfl) T.z_sum (by decide +kernel) (pa_cons (pe_slice sl_tupA (pv 2) (po_some (pv 8)) (po_some (pe_op op_add (pv 8) (pe_callB call_len_seq (by rfl) T.z_len (by decide +kernel) (pa_cons (pv 9) pa_nil))))) pa_nil))))
 (pss_one
 (ps_set (i := 5) sc_law_due.nd rfl (Or.inl rfl) (pe_call (ok_law_lowest T) (hr.mono (by decide)) (by rfl) T.g_law_lowest T.F_law_lowest.kp T.b_law_lowest .nil pass0 (pa_cons (pe_op op_add (pe_op op_mulW (pe_ix ix_tup (pv 5) pe_int (fun _ _ => rfl)) (pe_callB call_len_seq (by rfl) T.z_len (by decide +kernel) (pa_cons (pv 9) pa_nil))) (pe_op op_mulW (pv 10) (pe_ix ix_tup (pv 5) pe_int (fun _ _ => rfl)))) (pa_cons (pe_op op_mulW (pe_ix ix_tup (pv 5) pe_int (fun _ _ => rfl)) (pe_callB call_len_seq (by rfl) T.z_len (by decide +kernel) (pa_cons (pv 9) pa_nil))) pa_nil))))))
 pss_nil)
 (pss_one
 (ps_set (i := 8) sc_law_due.nd rfl (Or.inl rfl) (pe_op op_add (pv 8) (pe_callB call_len_seq (by rfl) T.z_len (by decide +kernel) (pa_cons (pv 9) pa_nil))))))))))
 (pss_one
 (ps_expr (pe_bm PySem.F.plainAttrs_list PySem.F.slot_list_append PySem.F.type_list_append mt_append (pv 3) (pa_cons (pe_tup (pa_cons (pv 4) (pa_cons (pv 5) pa_nil))) pa_nil)))))))
 (pss_one
 (ps_ret (pv 3))))), ?_⟩
    have nd := ok.nodup
    have few := ok.few
    have la : as.length = rows.length := by rw [← hm, List.length_map]
    refine ⟨line_of (show 0 ≤ 1000 by decide), fun L nL => ?_⟩
    refine ⟨.ref o, rfl, o, rfl, ⟨_, .of (same_upd nL _ _ ho)⟩, for_tup (K := K) (a := o) (xs := zs.map V.str) (fun i σ H' => ∃ (x4 x5 x6 x7 x8 x9 x10 : Option V) (qs : List (Addr × Addr × Str)), σ = [some (.ref o), some (.ref u), some (.ref t), some (.ref L), x4, x5, x6, x7, x8, x9, x10] ∧ Same H H' ∧ DueAt H' L (sumW zs ws rows) qs ∧ qs.map (·.2.2) = zs.take i)
      ⟨none, none, none, none, none, none, none, [], rfl, same_upd nL, ⟨upd_same, fun _ h => (by cases h)⟩, rfl⟩ (fun _ _ _ _ ⟨_, _, _, _, _, _, _, _, _, h, _⟩ => .of (h _ _ ho)) ?_ ?_⟩
    · rintro i x σ H1 hi ⟨x4, x5, x6, x7, x8, x9, x10, qs, rfl, s1, dq, mq⟩
      obtain ⟨z, hz, rfl⟩ := item_map hi
      have mz := List.mem_of_getElem? hz
      have lq : qs.length ≤ 6 := by
        have := congrArg List.length mq
        rw [List.length_map, List.length_take] at this
        omega
      refine ⟨line_of (show 2 ≤ 1000 by decide), fun t0 nt0 => ?_⟩
      have s2 := same_upd (o := HO.tup [V.int 0, V.int 1]) nt0
      have e2 : (upd H1 t0 (.tup [V.int 0, V.int 1])) t0 = some (.tup [V.int 0, V.int 1]) := upd_same
      generalize upd H1 t0 (.tup [V.int 0, V.int 1]) = H2 at s2 e2 ⊢
      have s02 := s1.trans s2
      refine ⟨.ref u, rfl, u, rfl, ⟨_, .of (s02 _ _ hu)⟩, for_tup (K := K) (a := u) (xs := as.map fun a => V.ref a.1) (fun j σ H' => ∃ (x6 x7 x8 x9 x10 : Option V) (tt : Addr) (r : Int × Int), σ = [some (.ref o), some (.ref u), some (.ref t), some (.ref L), some (.str z), some (.ref tt), x6, x7, x8, x9, x10] ∧ Same H2 H' ∧
          H' tt = some (.tup [.int r.1, .int r.2]) ∧ r = sumW zs ws (rows.take j) z ∧ 0 < r.2 ∧ Bd (1 + 756 * j) r)
        ⟨x6, x7, x8, x9, x10, t0, (0, 1), rfl, Same.refl _, e2, rfl, (by decide), ⟨(show (0 : Nat) < 2 by decide), (show (1 : Nat) < 2 by decide)⟩⟩ (fun _ _ _ _ ⟨_, _, _, _, _, _, _, _, h, _⟩ => .of (h _ _ (s02 _ _ hu))) ?_ ?_⟩
      · rintro j x σ H3 hj ⟨x6, x7, x8, x9, x10, tt, r, rfl, s3, e3, er, rp, rb⟩
        obtain ⟨a, hai, rfl⟩ := item_map hj
        obtain ⟨r1, r2⟩ := ha a (List.mem_of_getElem? hai)
        have mem : a.2.2 ∈ rows := by rw [← hm]; exact List.mem_map.mpr ⟨a, List.mem_of_getElem? hai, rfl⟩
        have ri : rows[j]? = some a.2.2 := by rw [← hm, List.getElem?_map, hai]; rfl
        have jl : j < rows.length := (List.getElem?_eq_some_iff.mp ri).1
        obtain ⟨bok, m1, m2⟩ := rok.2 a.2.2 mem
        have s03 := s02.trans s3
        refine ⟨a.1, _, rfl, .of (s03 _ _ r1), rfl, _, _, rfl, _, _, rfl, rfl, ?_⟩
        refine ⟨.ref o, rfl, .ref a.2.1, rfl, o, a.2.1, zs, a.2.2.1, rfl, s03 _ _ ho, r2.same s03, bok, nd, few, fun Tt bs ms H4 lev s4 eT ht em => ?_⟩
        have s04 := s03.trans s4
        have hts : tiersOf zs a.2.2.1 = bs.map (·.2) := by
          obtain ⟨ls, lr⟩ := lev_any a.2.2.1.rk zs
          rw [tiersOf_eq lr, em, ← cut_neg (f := a.2.2.1.hi) ms.reverse]
          exact cut_same lr lev.neg fun y _ z _ => by
            have := Bal.turn few bok y z
            show a.2.2.1.rk y < a.2.2.1.rk z ↔ -a.2.2.1.hi y < -a.2.2.1.hi z
            omega
        have lbs : bs.length ≤ 6 := by
          have := congrArg List.length em
          unfold cutBy at this
          rw [List.length_map, List.length_map, List.length_reverse] at this
          have := lev_few lev
          omega
        refine ⟨Tt, rfl, ⟨_, .of eT⟩, for_tup (K := K) (a := Tt) (xs := bs.map fun b => V.ref b.1) (fun k σ H' => ∃ (x9 x10 : Option V) (tt : Addr) (r : Int × Int), σ = [some (.ref o), some (.ref u), some (.ref t), some (.ref L), some (.str z), some (.ref tt), some (.ref a.2.1), some (.int a.2.2.2), some (.int (offW ((bs.map (·.2)).take k) : Nat)), x9, x10] ∧ Same H4 H' ∧
            H' tt = some (.tup [.int r.1, .int r.2]) ∧ r = (rowW ws a.2.2.2 z (sumW zs ws (rows.take j) z) ((bs.map (·.2)).take k)).2 ∧ 0 < r.2 ∧ Bd (1 + 756 * j + 126 * k) r)
          ⟨x9, x10, tt, r, rfl, Same.refl _, s4 _ _ e3, er, rp, rb⟩ (fun _ _ _ _ ⟨_, _, _, _, _, h, _⟩ => .of (h _ _ eT)) ?_ ?_⟩
        · rintro k x σ H5 hk ⟨x9, x10, tt, r, rfl, s5, e5, er, rp, rb⟩
          obtain ⟨bb, hbb, rfl⟩ := item_map hk
          have mb := List.mem_of_getElem? hbb
          have kl : k < bs.length := (List.getElem?_eq_some_iff.mp hbb).1
          have tk : (bs.map (·.2))[k]? = some bb.2 := by rw [List.getElem?_map, hbb]; rfl
          obtain ⟨tb1, tb2⟩ := ht bb mb
          have tlen : bb.2.length ≤ zs.length := by
            have : bb.2 ∈ cutBy zs a.2.2.1.hi ms.reverse := by rw [← em]; exact List.mem_map.mpr ⟨bb, mb, rfl⟩
            obtain ⟨c, _, e⟩ := List.mem_map.mp this
            rw [← e]
            exact List.length_filter_le _ _
          have tpos := List.length_pos_iff.mpr tb2
          have tb5 := s5 _ _ tb1
          have hw5 := s5 _ _ (s04 _ _ hw)
          have more := row_more (ws := ws) (m := a.2.2.2) (z := z) (acc := sumW zs ws (rows.take j) z) tk
          have offm := off_more tk
          generalize offW ((bs.map (·.2)).take k) = off at more offm ⊢
          have castm : ((off : Int) + ((bb.2.map V.str).length : Int)) = ((offW ((bs.map (·.2)).take (k + 1)) : Nat) : Int) := by rw [offm, List.length_map, Int.natCast_add]
          refine ⟨.str z, rfl, .ref bb.1, rfl, bb.1, _, rfl, .inr (.of tb5), rfl, flat_strs bb.2, _, rfl, ?_⟩
          rw [inV_str]
          by_cases m : z ∈ bb.2
          · rw [decide_eq_true m]
            rw [if_pos m] at more
            refine iteT ⟨.int a.2.2.2, rfl, .ref t, rfl, .int off, rfl, _, rfl, .int off, rfl, .ref bb.1, rfl, bb.1, _, rfl, .inr (.of tb5), _, _, rfl, rfl, _, rfl, ?_⟩
            refine slX_of hw5 fun sl H6 esl s6 => ?_
            rw [List.length_map, cut_part, ← List.map_drop, ← List.map_take] at esl
            have mb20 : a.2.2.2.natAbs < 2 ^ 20 := Nat.lt_of_le_of_lt (show a.2.2.2.natAbs ≤ 1000000 by omega) (by decide)
            have sb := part_bits bits off bb.2.length (by omega)
            have tb6 := s6 _ _ tb5
            have e6 := s6 _ _ e5
            have l3 : ((bb.2.length : Nat) : Int).natAbs < 2 ^ 3 := by show _ < 8; omega
            have j8 : j < 8 := by omega
            have topb : (a.2.2.2 * ((ws.drop off).take bb.2.length).sum).natAbs < 2 ^ 125 := Nat.lt_of_lt_of_le (mul_lt mb20 sb) (Nat.pow_le_pow_right (by decide) (by decide))
            have mpos := mean_pos (ws := ws) (m := a.2.2.2) (at0 := off) tb2
            have mbd := mean_bd (at0 := off) tb2 (by omega) bits mb20
            have step := low_step (p := r) (a := a.2.2.2 * ((ws.drop off).take bb.2.length).sum) (b := (bb.2.length : Int)) rp (by omega)
            refine ⟨sl, (ws.drop off).take bb.2.length, rfl, .of esl, _, _, rfl, rfl, mulOk mb20 sb (by decide), ?_⟩
            dsimp only
            unfold meanW at mpos mbd more
            generalize a.2.2.2 * ((ws.drop off).take bb.2.length).sum = top at topb mpos mbd more step ⊢
            refine ⟨.ref tt, rfl, tt, _, 0, .int r.1, rfl, rfl, .of e6, atI_nat (j := 0) rfl, .ref bb.1, rfl, bb.1, _, rfl, .inr (.of tb6), _, _, rfl, rfl, ?_⟩
            rw [List.length_map]
            refine ⟨mulOk rb.1 l3 (by omega), .int top, rfl, .ref tt, rfl, tt, _, 1, .int r.2, rfl, rfl, .of e6, atI_nat (j := 1) rfl, _, _, rfl, rfl, mulOk topb rb.2 (by omega), _, _, rfl, rfl, ?_⟩
            have gne : r.2 * (bb.2.length : Int) ≠ 0 := by
              have := Int.mul_pos rp (show (0 : Int) < bb.2.length by omega)
              omega
            refine ⟨.ref tt, rfl, tt, _, 1, .int r.2, rfl, rfl, .of e6, atI_nat (j := 1) rfl, .ref bb.1, rfl, bb.1, _, rfl, .inr (.of tb6), _, _, rfl, rfl, ?_⟩
            rw [List.length_map]
            refine ⟨mulOk rb.2 l3 (by omega), _, _, 8001, rfl, gne, prod_bd rb.2 l3 (by omega), by decide, by decide, fun tn ntn => ?_⟩
            dsimp only
            rw [step]
            have s7 := s6.trans (same_upd (o := HO.tup [.int (addL r (low top (bb.2.length : Int))).1, .int (addL r (low top (bb.2.length : Int))).2]) ntn)
            refine ⟨.int off, rfl, .ref bb.1, rfl, bb.1, _, rfl, .inr (.of (s7 _ _ tb5)), _, _, rfl, rfl, some (.ref bb.1), some (.int top), tn, addL r (low top (bb.2.length : Int)), ?_, s5.trans s7, upd_same, ?_, (addL_red rp mpos).1, (bd_add rb mbd rp mpos).mono (by omega)⟩
            · rw [← castm]
              rfl
            · rw [more, er]
          · rw [decide_eq_false m]
            rw [if_neg m] at more
            refine iteF ⟨.int off, rfl, .ref bb.1, rfl, bb.1, _, rfl, .inr (.of tb5), _, _, rfl, rfl, some (.ref bb.1), x10, tt, r, ?_, s5, e5, ?_, rp, rb.mono (by omega)⟩
            · rw [← castm]
              rfl
            · rw [more, er]
        · rintro σ H5 ⟨x9, x10, tt, r, rfl, s5, e5, er, rp, rb⟩
          rw [List.length_map] at er rb
          have et : (bs.map (·.2)).take bs.length = bs.map (·.2) := List.take_of_length_le (by rw [List.length_map]; exact Nat.le_refl _)
          rw [et, ← hts] at er
          refine ⟨_, _, _, _, _, tt, r, rfl, s3.trans (s4.trans s5), e5, ?_, rp, rb.mono (by omega)⟩
          rw [sum_more ri, er]
      · rintro σ H3 ⟨x6, x7, x8, x9, x10, tt, r, rfl, s3, e3, er, rp, rb⟩
        rw [List.length_map, la, List.take_length] at er
        subst er
        have s13 := s2.trans s3
        refine ⟨.ref L, rfl, .inl ⟨rfl, _, .of (dq.same s13).1⟩, .str z, rfl, .ref tt, rfl, line_of (show 2 ≤ 1000 by decide), fun t1 nt1 => ?_⟩
        have s4 := same_upd (o := HO.tup [V.str z, V.ref tt]) nt1
        have dq4 := (dq.same s13).same s4
        refine ⟨L, _, _, rfl, rfl, dq4.1, small1000 (by rw [List.length_map]; omega), _, _, _, _, _, _, _, qs ++ [(t1, tt, z)], rfl, same_mut (s1.trans (s13.trans s4)) nL, dq4.more upd_same (s4 _ _ e3), by rw [List.map_append, mq, take_more hz]; rfl⟩
    · rintro σ H1 ⟨x4, x5, x6, x7, x8, x9, x10, qs, rfl, s1, dq, mq⟩
      rw [List.length_map, List.take_length] at mq
      exact ⟨.ref L, rfl, q L qs H1 s1 nL dq mq⟩
end
section
variable {P : Program} {w : World} {K : PySem.W.Frag} {mg : Str → Option Value} {base : Heap}
theorem kit_none (T : Txt K mg) : PySem.W.kitAny K (.ref T.C_BadRule) [.ref T.C_BadBallot, .ref T.C_BadOrder, .ref T.C_BadPoll] = some false :=
  kitAny_cons T.kt_BadRule_BadBallot (fun _ => kitAny_cons T.kt_BadRule_BadOrder (fun _ => kitAny_cons T.kt_BadRule_BadPoll (fun _ => kitAny_nil) (fun z => (by cases z))) (fun z => (by cases z))) (fun z => (by cases z))
def sp_law_refused (C : Addr) : Sp := fun vs H Q _ => ∃ (p o u : Addr) (zs : List Str) (rows : List (Bal × Int)) (v : V) (d : PyData), vs = [.ref p, v] ∧ PollOk C H p o u zs rows ∧ rows.length ≤ 8 ∧ DAt H d v ∧ NoW zs.length d ∧ ∀ H', Same H H' → Q (.str "refused") H'
theorem ok_law_refused (T : Txt K mg) : FnOk P w K mg base CX0 8 T.f_law_refused T.fd_law_refused ["_law_poll", "_law_weights_here"] (sp_law_refused T.C_Poll) := by
  refine T.F_law_refused.ok sc_law_refused (fun vs H Q E h => ?_) (fun cdv A outer s H vs Q E hr h => ?_)
  · obtain ⟨p, o, u, zs, rows, v, d, rfl, _⟩ := h
    rfl
  · obtain ⟨p, o, u, zs, rows, v, d, rfl, pk, l8, hd, no, q⟩ := h
    refine ⟨_, (pss_cons
 (ps_set (i := 2) sc_law_refused.nd rfl (Or.inl rfl) pe_str)
 (pss_cons
 (ps_try_as (i := 3) rfl rfl sc_law_refused.nd rfl rfl ⟨rfl, by decide, Or.inl T.k_PollError⟩ takes0
 (fun W pn xe tk _ => (by have h := ((pss_one
 (ps_expr (pf_pos (ok_weighed T) (hr.mono (by decide)) (by rfl) T.g_weighed T.F_weighed.kp T.kb_weighed_2 (fun σ => atE tk σ) (pa_cons (pv 0) (pa_cons (pv 1) pa_nil))))) : PSs ((cxOf CX0 P w K mg base ["_law_poll", "_law_weights_here", "_law_told", "e"] "_law_refused" (defScope s_law_refused) T.f_law_refused cdv A outer s H E).nox.tr pn xe) (blkOf ((defBody s_law_refused).getD 1 (.Pass ⟨0, 0, 0, 0⟩)) 0) _); dsimp only [Cx.tr, Cx.suite, Cx.nox, Cx.wish, cxOf] at h; exact h))
 (fun a oe cls d pn hz hf => (by have h := ((pss_one
 (ps_set (i := 2) sc_law_refused.nd rfl (Or.inl rfl) (pe_ix ix_list (pe_lst (pa_cons pe_str (pa_cons pe_str pa_nil))) (pe_callTy call_int1 (by rfl) T.z_int (by decide +kernel) (pa_cons (pe_and (pe_callB (call_isX T.ic_BadRule hz hf) (by rfl) T.z_isinstance (by decide +kernel) (pa_cons (pv 3) (pa_cons (pe_glob (v := .ref T.C_BadRule) rfl T.k_BadRule rfl) pa_nil))) (pe_one (pe_not (pe_callB (call_isXT T.ic_BadRule hz hf) (by rfl) T.z_isinstance (by decide +kernel) (pa_cons (pv 3) (pa_cons (pe_tup (pa_cons (pe_glob (v := .ref T.C_BadBallot) rfl T.k_BadBallot rfl) (pa_cons (pe_glob (v := .ref T.C_BadOrder) rfl T.k_BadOrder rfl) (pa_cons (pe_glob (v := .ref T.C_BadPoll) rfl T.k_BadPoll rfl) pa_nil)))) pa_nil)))))) pa_nil)) (fun _ _ => rfl)))) : PSs ((cxOf CX0 P w K mg base ["_law_poll", "_law_weights_here", "_law_told", "e"] "_law_refused" (defScope s_law_refused) T.f_law_refused cdv A outer s H E).nox.suite a ((a, oe) :: pn)) (blkOf ((defBody s_law_refused).getD 1 (.Pass ⟨0, 0, 0, 0⟩)) 1) _); dsimp only [Cx.tr, Cx.suite, Cx.nox, Cx.wish, cxOf] at h; exact h)))
 (pss_one
 (ps_ret (pv 2))))), ?_⟩
    refine ⟨.ref p, rfl, v, rfl, rfl, rfl, p, o, u, zs, rows, v, d, rfl, pk, l8, hd, no.few, fun _ => ?_, fun hb => absurd hb (by rw [no.no]; exact Bool.false_ne_true)⟩
    refine fun dd fs H' s1 nd hd => ?_
    refine ⟨true, T.te_BadRule_PollError, fun _ x _ => ⟨line_of (show 2 ≤ 1000 by decide), fun l nl => ⟨.ref x, rfl, _, _, true, dd, fs, rfl, fun _ h => h, rfl, rfl, same_upd nl _ _ hd, T.kt_BadRule_BadRule, true, rfl, iteT ?_⟩⟩, fun q => Bool.noConfusion q⟩
    refine ⟨.ref x, rfl, line_of (show 3 ≤ 1000 by decide), fun tp ntp => ⟨tp, _, _, false, dd, fs, rfl, upd_same, .cons (.own _) (.cons (.own _) (.cons (.own _) .nil)), rfl, rfl, same_upd ntp _ _ (same_upd nl _ _ hd), kit_none T, ?_⟩⟩
    exact ⟨_, rfl, .inr ⟨_, rfl, l, _, 1, _, rfl, rfl, .of (same_upd ntp _ _ upd_same), atI_nat (j := 1) rfl, _, rfl, q _ (s1.trans ((same_upd nl).trans (same_upd ntp)))⟩⟩
end
theorem eqv_same (d : PyData) (h : SeqAt.shaped d = true) : PyData.eqv d d = true := SeqAt.eqv_refl d (SeqAt.canLay_of_shaped h)
theorem lock_same {H H' : Hp} {d : Addr} {u : HO} (od : Obj) (h : H d = some u) (s : Same (upd H d (.frz od u)) H') : Same H (upd H' d u) := fun b o e => by
  by_cases c : b = d
  · subst c
    rw [h] at e
    rw [upd_same]
    exact e
  · rw [upd_ne c]
    exact s b o (by rw [upd_ne c]; exact e)
theorem walk_itemsR {D : Addr} {od : Obj} {zs : List Str} {g : Str → Addr} : Walk (Iti D od (tabR zs g)) zs.length (fun H => H D = some (.frz od (.dK (tabR zs g)))) (YPair (fun i => (zs[i]?).map V.str) (fun i => (zs[i]?).map fun z => V.ref (g z))) := by
  have w := walk_items (d := D) (o := od) (kvs := tabR zs g)
  rw [tabR_len] at w
  refine w.mono (fun _ h => h) fun i H x H' _ _ h => ?_
  obtain ⟨T, a, b, e1, e2, e3, e4, e5⟩ := h
  refine ⟨T, a, b, e1, e2, e3, ?_, ?_⟩
  · rw [← e4]
    show (zs[i]?).map V.str = Option.map (fun kv => kV kv.1) ((zs.map fun z => ((.inr z : Key), V.ref (g z)))[i]?)
    rw [List.getElem?_map, Option.map_map] <;> rfl
  · rw [← e5]
    show (zs[i]?).map (fun z => V.ref (g z)) = Option.map Prod.snd ((zs.map fun z => ((.inr z : Key), V.ref (g z)))[i]?)
    rw [List.getElem?_map, Option.map_map] <;> rfl
theorem shaped_due {zs : List Str} (h : ∀ z ∈ zs, NameOk z) (f : Str → Int × Int) : SeqAt.shaped (.list (zs.map (dueD f))) = true := by
  have l : LayA 2 (zs.map (dueD f)) := LayA.of fun d hd => by
    obtain ⟨z, hz, rfl⟩ := List.mem_map.mp hd
    exact (LayA.cons ((ok_small (h z hz)).lays.mono (Nat.zero_le _)) (LayA.cons ((LayA.cons (lay_int 0 _) (LayA.cons (lay_int 0 _) .nil)).tuple) .nil)).tuple
  refine Lay.shaped (n := 3) ⟨by rw [PyData.canLay0]; exact l.lay, ?_⟩ (by decide)
  rw [PyData.depth]
  have := l.dep
  omega
section
variable {P : Program} {w : World} {K : PySem.W.Frag} {mg : Str → Option Value} {base : Heap}
def FrL (a : Addr) (σ : L2.St) : Prop := ∃ y1 y2 y3 y4 y5 y6 y7 y8 y9 y10 : Option V, σ = [some (.ref a), y1, y2, y3, y4, y5, y6, y7, y8, y9, y10]
def sp_law (K : PySem.W.Frag) : Sp := fun vs H Q _ => ∃ (a : Addr) (ns : List Int), vs = [.ref a] ∧ SqL K H a (ns.map V.int) ∧ ns.length ≤ 63 ∧ ∀ H', Q (.bl true) H'
theorem ok_law (T : Txt K mg) : FnOk P w K mg base CX0 9 T.f_law T.fd_law ["_law_script"] (sp_law K) := by
  refine T.F_law.ok sc_law (fun vs H Q E h => ?_) (fun cdv A outer s H vs Q E hr h => ?_)
  · obtain ⟨a, ns, rfl, _⟩ := h
    rfl
  · obtain ⟨a, ns, rfl, hS, hlen, q⟩ := h
    refine ⟨_, (pss_cons
 (ps_for PassesOwn.never rfl (pi_list (pe_op op_cat (pe_lst (pa_cons (pe_call (ok_law_cell_at T) (hr.mono (by decide)) (by rfl) T.g_law_cell_at T.F_law_cell_at.kp T.b_law_cell_at .nil pass0 (pa_cons (pv 0) (pa_cons pe_int pa_nil))) pa_nil)) (pe_slice sl_list (pv 0) (po_some pe_int) (po_some pe_int)))) (pg_name (i := 1) sc_law.nd rfl (Or.inl rfl))
 (pss_cons
 (ps_set (i := 2) sc_law.nd rfl (Or.inl rfl) (pe_call (ok_law_well T) (hr.mono (by decide)) (by rfl) T.g_law_well T.F_law_well.kp T.b_law_well .nil pass0 (pa_cons (pv 1) pa_nil)))
 (pss_cons
 (ps_set (i := 3) sc_law.nd rfl (Or.inl rfl) (pe_call (ok_law_options T) (hr.mono (by decide)) (by rfl) T.g_law_options T.F_law_options.kp T.b_law_options .nil pass0 (pa_cons (pv 2) (pa_cons (pe_op op_add pe_int (pe_call (ok_law_draw T) (hr.mono (by decide)) (by rfl) T.g_law_draw T.F_law_draw.kp T.b_law_draw .nil pass0 (pa_cons (pv 2) (pa_cons pe_int pa_nil)))) pa_nil))))
 (pss_cons
 (ps_set (i := 4) sc_law.nd rfl (Or.inl rfl) (pe_call (ok_law_rows T) (hr.mono (by decide)) (by rfl) T.g_law_rows T.F_law_rows.kp T.b_law_rows .nil pass0 (pa_cons (pv 2) (pa_cons (pv 3) (pa_cons pe_int pa_nil)))))
 (pss_cons
 (ps_set (i := 5) sc_law.nd rfl (Or.inl rfl) (pc_pos T.mk_Poll (ok_Poll_init T) (hr.mono (by decide)) (by rfl) T.k_Poll T.kb_Poll_init_3 (fun σ => atN σ) (pa_cons (pv 3) (pa_cons (pv 4) pa_nil))))
 (pss_cons
 (ps_set (i := 6) sc_law.nd rfl (Or.inl rfl) (pe_call (ok_law_weights T) (hr.mono (by decide)) (by rfl) T.g_law_weights T.F_law_weights.kp T.b_law_weights .nil pass0 (pa_cons (pv 2) (pa_cons (pe_callB call_len_seq (by rfl) T.z_len (by decide +kernel) (pa_cons (pv 3) pa_nil)) pa_nil))))
 (pss_cons
 (ps_for PassesOwn.never rfl (pi_range1 rfl T.z_range (pa_cons pe_int pa_nil)) (pg_name (i := 7) sc_law.nd rfl (Or.inl rfl))
 (pss_cons
 (ps_set (i := 8) sc_law.nd rfl (Or.inl rfl) (pf_pos (ok_weighed T) (hr.mono (by decide)) (by rfl) T.g_weighed T.F_weighed.kp T.kb_weighed_2 (fun σ => atN σ) (pa_cons (pv 5) (pa_cons (pv 6) pa_nil))))
 (pss_cons
 (ps_if (pt_cmpR (op_neD hr.units) (pe_lock (pe_lc (own := [("_law_word", 9), ("_law_share", 10)]) (tt := tYes) rfl sc_law.nd (pi_items (pv 8)) (blkOk_by (own := [("_law_word", 9), ("_law_share", 10)]) (N := ["_law_script", "_law_cell", "_law_well_here", "_law_drawn", "_law_rows_here", "_law_poll", "_law_weights_here", "_law_turn", "_law_found", "_law_word", "_law_share"]) (sc := (defScope s_law)) (by decide +kernel)) (fun s0 H0 C0 cl0 fp0 => (by have h := (pg_tup (n := 2) rfl (pgs_cons (pg_name (i := 9) sc_law.nd rfl (Or.inl rfl)) (pgs_cons (pg_name (i := 10) sc_law.nd rfl (Or.inl rfl)) pgs_nil)) : PG ((cxOf CX0 P w K mg base ["_law_script", "_law_cell", "_law_well_here", "_law_drawn", "_law_rows_here", "_law_poll", "_law_weights_here", "_law_turn", "_law_found", "_law_word", "_law_share"] "law" (defScope s_law) T.f_law cdv A outer s H E).nox.blk s0 H0 (lcScope (subE (rootE ((blkOf ((blkOf ((defBody s_law).getD 0 (.Pass ⟨0, 0, 0, 0⟩)) 0).getD 5 (.Pass ⟨0, 0, 0, 0⟩)) 0).getD 1 (.Pass ⟨0, 0, 0, 0⟩))) 0)) (compEnvC (lcScope (subE (rootE ((blkOf ((blkOf ((defBody s_law).getD 0 (.Pass ⟨0, 0, 0, 0⟩)) 0).getD 5 (.Pass ⟨0, 0, 0, 0⟩)) 0).getD 1 (.Pass ⟨0, 0, 0, 0⟩))) 0)) cl0 C0 (cxOf CX0 P w K mg base ["_law_script", "_law_cell", "_law_well_here", "_law_drawn", "_law_rows_here", "_law_poll", "_law_weights_here", "_law_turn", "_law_found", "_law_word", "_law_share"] "law" (defScope s_law) T.f_law cdv A outer s H E).nox.env) fp0) (subE (subE (rootE ((blkOf ((blkOf ((defBody s_law).getD 0 (.Pass ⟨0, 0, 0, 0⟩)) 0).getD 5 (.Pass ⟨0, 0, 0, 0⟩)) 0).getD 1 (.Pass ⟨0, 0, 0, 0⟩))) 0) 2) _); dsimp only [Cx.blk, Cx.tr, Cx.suite, Cx.nox, Cx.wish, cxOf] at h; exact h)) (fun _ _ _ _ _ => pts_nil) (fun s0 H0 C0 cl0 fp0 => (by have h := ((pe_tup (pa_cons (pv 9) (pa_cons (pe_tup (pa_cons (pe_fld (pv 10) rfl) (pa_cons (pe_fld (pv 10) rfl) pa_nil))) pa_nil))) : PE ((cxOf CX0 P w K mg base ["_law_script", "_law_cell", "_law_well_here", "_law_drawn", "_law_rows_here", "_law_poll", "_law_weights_here", "_law_turn", "_law_found", "_law_word", "_law_share"] "law" (defScope s_law) T.f_law cdv A outer s H E).nox.blk s0 H0 (lcScope (subE (rootE ((blkOf ((blkOf ((defBody s_law).getD 0 (.Pass ⟨0, 0, 0, 0⟩)) 0).getD 5 (.Pass ⟨0, 0, 0, 0⟩)) 0).getD 1 (.Pass ⟨0, 0, 0, 0⟩))) 0)) (compEnvC (lcScope (subE (rootE ((blkOf ((blkOf ((defBody s_law).getD 0 (.Pass ⟨0, 0, 0, 0⟩)) 0).getD 5 (.Pass ⟨0, 0, 0, 0⟩)) 0).getD 1 (.Pass ⟨0, 0, 0, 0⟩))) 0)) cl0 C0 (cxOf CX0 P w K mg base ["_law_script", "_law_cell", "_law_well_here", "_law_drawn", "_law_rows_here", "_law_poll", "_law_weights_here", "_law_turn", "_law_found", "_law_word", "_law_share"] "law" (defScope s_law) T.f_law cdv A outer s H E).nox.env) fp0) (subE (subE (rootE ((blkOf ((blkOf ((defBody s_law).getD 0 (.Pass ⟨0, 0, 0, 0⟩)) 0).getD 5 (.Pass ⟨0, 0, 0, 0⟩)) 0).getD 1 (.Pass ⟨0, 0, 0, 0⟩))) 0) 0) _); dsimp only [Cx.blk, Cx.tr, Cx.suite, Cx.nox, Cx.wish, cxOf] at h; exact h)))) (pe_call (ok_law_due T) (hr.mono (by decide)) (by rfl) T.g_law_due T.F_law_due.kp T.b_law_due .nil pass0 (pa_cons (pv 3) (pa_cons (pv 4) (pa_cons (pv 6) pa_nil)))) (nomark _))
 (pss_one
 (ps_ret pe_bl))
 pss_nil)
 (pss_one
 (ps_expr (pe_dclear (pv 8)))))))
 (pss_one
 (ps_for PassesOwn.never rfl (pi_range1 rfl T.z_range (pa_cons pe_int pa_nil)) (pg_name (i := 7) sc_law.nd rfl (Or.inl rfl))
 (pss_one
 (ps_if (pt_cmpR op_ne (pe_call (ok_law_refused T) (hr.mono (by decide)) (by rfl) T.g_law_refused T.F_law_refused.kp T.b_law_refused .nil pass0 (pa_cons (pv 5) (pa_cons (pe_call (ok_law_bad T) (hr.mono (by decide)) (by rfl) T.g_law_bad T.F_law_bad.kp T.b_law_bad .nil pass0 (pa_cons (pv 2) (pa_cons (pv 6) pa_nil))) pa_nil))) pe_str (nomark _))
 (pss_one
 (ps_ret pe_bl))
 pss_nil)))))))))))
 (pss_one
 (ps_ret pe_bl))), ?_⟩
    refine ⟨.ref a, rfl, a, ns, rfl, hS, hlen, fun z => ?_⟩
    refine ⟨line_of (show 1 ≤ 1000 by decide), fun l1 n1 => ?_⟩
    have s1 : Same H (upd H l1 (.lst [V.int z])) := same_upd n1
    obtain ⟨ms, em, lm⟩ := cut_ints ns (some 1) (some 10)
    refine ⟨.ref a, rfl, 1, rfl, 10, rfl, a, _, rfl, s1.seq hS, fun l2 n2 => ?_⟩
    rw [em]
    have hl12 : l1 ≠ l2 := fun e => by rw [← e, upd_same] at n2; cases n2
    refine ⟨l1, l2, _, _, rfl, rfl, (by rw [upd_ne hl12, upd_same]), upd_same, ?_, fun l3 n3 => ?_⟩
    · rw [List.length_map]
      exact line_of (show 1 + ms.length ≤ 1000 by omega)
    have e3 : ([V.int z] ++ ms.map V.int) = (z :: ms).map V.int := rfl
    rw [e3]
    generalize hH0 : upd (upd (upd H l1 (.lst [V.int z])) l2 (.lst (ms.map V.int))) l3 (.lst ((z :: ms).map V.int)) = H0
    have h3 : H0 l3 = some (.lst ((z :: ms).map V.int)) := by rw [← hH0, upd_same]
    refine ⟨l3, rfl, ⟨_, .of h3⟩, for_list (K := K) (a := l3) (xs := (z :: ms).map V.int) (fun _ σ H' => FrL a σ ∧ Same H0 H') ⟨⟨none, none, none, none, none, none, none, none, none, none, rfl⟩, Same.refl _⟩ (fun _ _ _ _ h => .of (h.2 _ _ h3)) ?_ ?_⟩
    · rintro i x σ H1 hi ⟨⟨y1, y2, y3, y4, y5, y6, y7, y8, y9, y10, rfl⟩, s2⟩
      obtain ⟨nn, _, rfl⟩ := item_map hi
      refine ⟨.int nn, rfl, nn, rfl, fun p x H2 np s3 hp hx => ?_⟩
      have np0 : H0 p = none := s2.free np
      have s4 : Same H0 H2 := s2.trans s3
      refine ⟨.ref p, rfl, .ref p, rfl, p, 6, x, 0, rfl, hp, hx, by decide, by decide, size_ok (by decide) (by decide), fun sz x1 b0 b1 w1 => ?_⟩
      have o1 : On p H2 x1 (upd H2 p (.lst x1)) := (On.start hp).put
      generalize upd H2 p (HO.lst x1) = H3 at o1 ⊢
      refine ⟨1, sz, rfl, rfl, p, 1 + sz, x1, _, rfl, o1.2, w1, by omega, by omega, by omega, fun t zs x2 H4 lz nd okz but nt ht hp4 w2 => ?_⟩
      have o2 : On p H2 x2 H4 := o1.trans ⟨But.hid but, hp4⟩
      have n6 : zs.length ≤ 6 := by omega
      have hne : zs ≠ [] := fun e => by rw [e] at lz; simp at lz; omega
      have ok : OptsOk zs := ⟨hne, n6, nd, okz⟩
      refine ⟨.ref p, rfl, .ref t, rfl, p, t, 8, zs, x2, _, rfl, hp4, ht, n6, nd, okz, by decide, by decide, w2, by omega, fun u rows x3 H5 hrow rok but2 nu hp5 w3 => ?_⟩
      have o3 : On p H2 x3 H5 := o2.trans ⟨But.hid but2, hp5⟩
      have l8 : rows.length ≤ 8 := rok.1
      have rok30 : RowsOk zs 30 rows := ⟨by omega, rok.2⟩
      have ht5 : H5 t = some (.tup (zs.map V.str)) := but2 _ _ (fun e => by rw [e, hp4] at ht; cases ht) ht
      refine ⟨.ref t, rfl, .ref u, rfl, rfl, rfl, fun pp dx n1 n2 n3 => ?_⟩
      have s5m : Same H5 (upd (upd H5 dx (.own pp)) pp (.ins T.C_Poll dx [])) := made_same n1 n2 (But.refl _ _)
      refine ⟨pp, dx, t, u, zs, rows, rfl, upd_same, s5m _ _ ht5, hrow.same s5m, ok, rok30, fun H6 b6 e6 => ?_⟩
      have s6 : Same H5 H6 := made_same n1 n2 b6
      have pk6 : PollOk T.C_Poll H6 pp t u zs rows := ⟨⟨dx, e6⟩, s6 _ _ ht5, hrow.same s6, ok, rok30⟩
      have hp6 := s6 _ _ hp5
      refine ⟨rfl, .ref p, rfl, .ref t, rfl, t, _, rfl, .inr (.of (s6 _ _ ht5)), ?_⟩
      rw [List.length_map]
      refine ⟨p, _, x3, _, rfl, hp6, w3, by omega, by omega, by omega, fun tw ws x4 H7 lw fw bits b7 ntw htw hp7 w4 => ?_⟩
      have lw : ws.length = zs.length := by rw [lw]; omega
      have o7 : On p H2 x4 H7 := (o3.same s6).trans ⟨But.hid b7, hp7⟩
      -- the poll and the weights, apart from the well
      have pkG : PollOk T.C_Poll (hide p H7) pp t u zs rows := by
        have hb := But.hid b7
        obtain ⟨⟨dy, h1⟩, h2, h3, _, _⟩ := pk6
        have keep : ∀ {c : Addr} {o : HO}, (∀ xs, o ≠ .lst xs) → H6 c = some o → hide p H7 c = some o := fun {c o} n h => hb _ _ (by rw [hide_ne (fun e => by rw [e, hp6] at h; cases h; exact n _ rfl)]; exact h)
        exact ⟨⟨dy, keep (fun _ e => by cases e) h1⟩, keep (fun _ e => by cases e) h2, h3.keep fun _ _ e => keep (fun _ e => by cases e) e, ok, rok30⟩
      have htG : hide p H7 tw = some (.tup (ws.map V.int)) := hid_tup hp7 htw
      have sub7 := hide_sub p H7
      generalize hG : hide p H7 = G at pkG htG sub7
      have dW : ∀ {Hc : Hp}, Same G Hc → DAt Hc (.tuple (ws.map PyData.int)) (.ref tw) := fun s => ⟨tw, _, rfl, s _ _ htG, DAll.ints ws⟩
      have wt : weightsD zs.length (.tuple (ws.map PyData.int)) = true := by
        show (decide ((ws.map PyData.int).length = zs.length) && (ws.map PyData.int).all wholeD && fallI ((ws.map PyData.int).filterMap unI)) = true
        rw [decide_eq_true (by rw [List.length_map, lw]), wholes, unI_ints, fw] <;> rfl
      have wf : (parts (.tuple (ws.map PyData.int))).length ≤ 20 := by
        show (ws.map PyData.int).length ≤ 20
        rw [List.length_map]
        omega
      have shd := shaped_due okz (sumW zs ws rows)
      refine ⟨2, rfl, by decide, by decide, for_range (fun i σ H' => ∃ (z7 z8 z9 z10 : Option V), σ = [some (.ref a), some (.int nn), some (.ref p), some (.ref t), some (.ref u), some (.ref pp), some (.ref tw), z7, z8, z9, z10] ∧ Same H7 H')
        ⟨_, _, _, _, rfl, Same.refl _⟩ ?_ ?_⟩
      · rintro j σ H8 hj ⟨z7, z8, z9, z10, rfl, s8⟩
        have g8 := sub7.trans s8
        refine ⟨.ref pp, rfl, .ref tw, rfl, rfl, rfl, pp, t, u, zs, rows, .ref tw, _, rfl, pkG.same g8, l8, dW g8, wf, fun h => absurd wt (by rw [h]; exact Bool.false_ne_true), fun _ => ⟨ws, rfl, bits, fun D H9 s9 nD held => ?_⟩⟩
        obtain ⟨g, eD, kD⟩ := held
        refine ⟨D, _, eD, trivial, fun od => ?_⟩
        refine ⟨.ref D, rfl, D, od, tabR zs g, rfl, upd_same, fun L nL => ?_⟩
        have LD : L ≠ D := fun e => by rw [e, upd_same] at nL; cases nL
        have nL9 : H9 L = none := by rw [upd_ne LD] at nL; exact nL
        have off : ∀ {c : Addr} {o : HO}, H9 c = some o → (∀ kvs, o ≠ .dK kvs) → (upd H9 D (.frz od (.dK (tabR zs g)))) c = some o := fun {c o} h n => by
          rw [upd_ne (fun e => by rw [e, eD] at h; cases h; exact n _ rfl)]
          exact h
        refine lc_it walk_itemsR (fun k H' => ∃ qs : List (Addr × Addr × Str), Same (upd H9 D (.frz od (.dK (tabR zs g)))) H' ∧ DueAt H' L (sumW zs ws rows) qs ∧ qs.map (·.2.2) = zs.take k) ⟨[], same_upd nL, ⟨upd_same, fun _ h => (by cases h)⟩, rfl⟩ (fun _ _ _ ⟨_, h, _⟩ => h _ _ upd_same) ?_ ?_
        · rintro k x HA HB hk ⟨qs, sA, dq, mq⟩ ⟨Tt, va, vb, rfl, nT, rfl, ea, eb⟩
          obtain ⟨z, hz⟩ : ∃ z, zs[k]? = some z := ⟨zs[k], List.getElem?_eq_getElem hk⟩
          have ea : (zs[k]?).map V.str = some va := ea
          have eb : (zs[k]?).map (fun z => V.ref (g z)) = some vb := eb
          rw [hz] at ea eb
          cases ea
          cases eb
          have mz := List.mem_of_getElem? hz
          obtain ⟨⟨dz, sh⟩, _, _⟩ := kD z mz
          have sT := same_upd (o := HO.tup [V.str z, V.ref (g z)]) nT
          have shB := (sA.trans sT) _ _ (off sh (fun _ e => by cases e))
          have dqB := dq.same sT
          have lq : qs.length ≤ 6 := by
            have := congrArg List.length mq
            rw [List.length_map, List.length_take] at this
            omega
          refine ⟨Tt, _, rfl, .of upd_same, rfl, _, _, rfl, _, _, rfl, rfl, rfl, ?_⟩
          refine ⟨.str z, rfl, .ref (g z), rfl, g z, T.C_Share, dz, _, .int (sumW zs ws rows z).1, rfl, shB, T.cl_Share, T.n_Share_num, shF_num _, .ref (g z), rfl, g z, T.C_Share, dz, _, .int (sumW zs ws rows z).2, rfl, shB, T.cl_Share, T.n_Share_over, shF_over _, line_of (show 2 ≤ 1000 by decide), fun t2 n2 => ?_⟩
          have s2 := same_upd (o := HO.tup [V.int (sumW zs ws rows z).1, V.int (sumW zs ws rows z).2]) n2
          refine ⟨line_of (show 2 ≤ 1000 by decide), fun t1 n1 => ?_⟩
          have s1 := same_upd (o := HO.tup [V.str z, V.ref t2]) n1
          have dq2 := (dqB.same s2).same s1
          refine ⟨_, dq2.1, small1000 (by rw [List.length_map]; omega), qs ++ [(t1, t2, z)], same_mut (sA.trans (sT.trans (s2.trans s1))) nL, dq2.more upd_same (s1 _ _ upd_same), by rw [List.map_append, mq, take_more hz]; rfl⟩
        · rintro HA ⟨qs, sA, dq, mq⟩
          rw [List.take_length] at mq
          refine ⟨sA _ _ upd_same, ?_⟩
          have s9A := lock_same od eD sA
          have dqC : DueAt (upd HA D (.dK (tabR zs g))) L (sumW zs ws rows) qs := by
            have hD := sA _ _ upd_same
            refine ⟨by rw [upd_ne LD]; exact dq.1, fun q hq => ?_⟩
            obtain ⟨q1, q2⟩ := dq.2 q hq
            rw [upd_ne (fun e => by rw [e, hD] at q1; cases q1), upd_ne (fun e => by rw [e, hD] at q2; cases q2)]
            exact ⟨q1, q2⟩
          have eDC : (upd HA D (.dK (tabR zs g))) D = some (.dK (tabR zs g)) := upd_same
          generalize upd HA D (.dK (tabR zs g)) = HC at s9A dqC eDC ⊢
          have s8C := s9.trans s9A
          have gC := g8.trans s8C
          have pkC := pkG.same gC
          refine ⟨.ref t, rfl, .ref u, rfl, .ref tw, rfl, t, u, tw, zs, rows, ws, rfl, pkC.opts, pkC.votes, ok, rok30, l8, gC _ _ htG, bits, fun Ld qd HD sD nLd dd md => ?_⟩
          have d1 := (dqC.same sD).data
          rw [mq] at d1
          have d2 := dd.data
          rw [md] at d2
          refine ⟨_, _, DAt.dp _ d1, DAt.dp _ d2, shd, shd, _, rfl, ?_⟩
          rw [eqv_same _ shd]
          refine iteF ?_
          have eDD := sD _ _ eDC
          have nDH8 : H8 D = none := nD
          refine ⟨.ref D, rfl, .inr (.inr (.inl ⟨rfl, .inl ⟨_, eDD⟩⟩)), D, _, rfl, rfl, eDD, ?_⟩
          exact ⟨_, _, _, _, rfl, s8.trans (same_mut (s8C.trans sD) nDH8)⟩
      · rintro σ H8 ⟨z7, z8, z9, z10, rfl, s8⟩
        have o8 := o7.same s8
        refine ⟨3, rfl, by decide, by decide, for_range (fun i σ H' => ∃ (z7 z8 z9 z10 : Option V) (yy : List V), σ = [some (.ref a), some (.int nn), some (.ref p), some (.ref t), some (.ref u), some (.ref pp), some (.ref tw), z7, z8, z9, z10] ∧ On p H7 yy H' ∧ WellL yy (600 + i))
          ⟨_, _, _, _, x4, rfl, (On.start hp7).same s8, w4.mono (by omega)⟩ ?_ ?_⟩
        · rintro j σ H9 hj ⟨z7, z8, z9, z10, yy, rfl, o9, w9⟩
          have h9 := o9.1
          rw [hG] at h9
          have n9 := List.length_pos_iff.mpr hne
          refine ⟨.ref pp, rfl, .ref p, rfl, .ref tw, rfl, p, tw, ws, yy, _, rfl, o9.2, h9 _ _ htG, (fun e => by rw [e] at lw; simp at lw; omega), by omega, w9, by omega, fun v d y9 HA oA wA ad no => ?_⟩
          have oA7 := o9.trans oA
          have hA := oA7.1
          rw [hG] at hA
          have gA := hA.trans (hide_sub p HA)
          rw [lw] at no
          refine ⟨pp, t, u, zs, rows, v, d, rfl, pkG.same gA, l8, DAt.same (hide_sub p HA) _ ad, no, fun HB sB => ?_⟩
          refine ⟨rfl, _, rfl, iteNS rfl ?_⟩
          exact ⟨_, _, _, _, y9, rfl, oA7.same sB, wA.mono (by omega)⟩
        · rintro σ H9 ⟨z7, z8, z9, z10, yy, rfl, o9, w9⟩
          exact ⟨⟨_, _, _, _, _, _, _, _, _, _, rfl⟩, But.ext s4 np0 (hid_but (o7.1.trans o9.1))⟩
    · rintro σ H1 ⟨_, _⟩
      exact q _
end
theorem all_mk {l : PySem.W.OpenLaw} {w : World} {K : PySem.W.Frag} {h : Heap} {mg : Str → Option Value} {fa : Addr} (X : K.In h) (G : h.Ns mainGlobals mg) (hfa : mg "law" = some (.ref fa))
    {f_PollError_init : Addr} {od_PollError_init an_PollError_init : Option Addr} {sl_PollError_init : Array (Option Value)} {oc_PollError_init kV_PollError_init dc_PollError_init pm_PollError_init cd_PollError_init ct_PollError_init : Value}
    {T_PollError_init : Addr} {to_PollError_init : Value} {td_PollError_init : Option Addr} {tn_PollError_init : Nat} {tsl_PollError_init : Array (Option Value)} {tk0_PollError_init : Tok}
    (lt_PollError_init : K.lookup T_PollError_init = some ⟨to_PollError_init, td_PollError_init, .seq #[.str "" tk0_PollError_init] tn_PollError_init, tsl_PollError_init⟩)
    (l_PollError_init : K.lookup f_PollError_init = some ⟨oc_PollError_init, od_PollError_init, .func (PySem.W.fnOf "__init__" "PollError.__init__" (defArgs s_PollError_init) (defBody s_PollError_init) (defScope s_PollError_init) (.ref T_PollError_init) kV_PollError_init dc_PollError_init pm_PollError_init an_PollError_init cd_PollError_init ct_PollError_init), sl_PollError_init⟩)
    (c_PollError_init : PySem.W.codeIn K cd_PollError_init "PollError.__init__" = true) (k_PollError_init : PySem.W.keepIn K (.ref f_PollError_init) = true)
    {f_NoShare_init : Addr} {od_NoShare_init an_NoShare_init : Option Addr} {sl_NoShare_init : Array (Option Value)} {oc_NoShare_init kV_NoShare_init dc_NoShare_init pm_NoShare_init cd_NoShare_init ct_NoShare_init : Value}
    (l_NoShare_init : K.lookup f_NoShare_init = some ⟨oc_NoShare_init, od_NoShare_init, .func (PySem.W.fnOf "__init__" "NoShare.__init__" (defArgs s_NoShare_init) (defBody s_NoShare_init) (defScope s_NoShare_init) .none kV_NoShare_init dc_NoShare_init pm_NoShare_init an_NoShare_init cd_NoShare_init ct_NoShare_init), sl_NoShare_init⟩)
    (c_NoShare_init : PySem.W.codeIn K cd_NoShare_init "NoShare.__init__" = true) (k_NoShare_init : PySem.W.keepIn K (.ref f_NoShare_init) = true)
    {f_is_whole : Addr} {od_is_whole an_is_whole : Option Addr} {sl_is_whole : Array (Option Value)} {oc_is_whole kV_is_whole dc_is_whole pm_is_whole cd_is_whole ct_is_whole : Value}
    (a_is_whole : PySem.W.nsIn K mainGlobals "is_whole" = some (some (.ref f_is_whole)))
    (l_is_whole : K.lookup f_is_whole = some ⟨oc_is_whole, od_is_whole, .func (PySem.W.fnOf "is_whole" "is_whole" (defArgs s_is_whole) (defBody s_is_whole) (defScope s_is_whole) .none kV_is_whole dc_is_whole pm_is_whole an_is_whole cd_is_whole ct_is_whole), sl_is_whole⟩)
    (c_is_whole : PySem.W.codeIn K cd_is_whole "is_whole" = true) (k_is_whole : PySem.W.keepIn K (.ref f_is_whole) = true)
    {f_is_name : Addr} {od_is_name an_is_name : Option Addr} {sl_is_name : Array (Option Value)} {oc_is_name kV_is_name dc_is_name pm_is_name cd_is_name ct_is_name : Value}
    (a_is_name : PySem.W.nsIn K mainGlobals "is_name" = some (some (.ref f_is_name)))
    (l_is_name : K.lookup f_is_name = some ⟨oc_is_name, od_is_name, .func (PySem.W.fnOf "is_name" "is_name" (defArgs s_is_name) (defBody s_is_name) (defScope s_is_name) .none kV_is_name dc_is_name pm_is_name an_is_name cd_is_name ct_is_name), sl_is_name⟩)
    (c_is_name : PySem.W.codeIn K cd_is_name "is_name" = true) (k_is_name : PySem.W.keepIn K (.ref f_is_name) = true)
    {f_is_tuple_of : Addr} {od_is_tuple_of an_is_tuple_of : Option Addr} {sl_is_tuple_of : Array (Option Value)} {oc_is_tuple_of kV_is_tuple_of dc_is_tuple_of pm_is_tuple_of cd_is_tuple_of ct_is_tuple_of : Value}
    (a_is_tuple_of : PySem.W.nsIn K mainGlobals "is_tuple_of" = some (some (.ref f_is_tuple_of)))
    (l_is_tuple_of : K.lookup f_is_tuple_of = some ⟨oc_is_tuple_of, od_is_tuple_of, .func (PySem.W.fnOf "is_tuple_of" "is_tuple_of" (defArgs s_is_tuple_of) (defBody s_is_tuple_of) (defScope s_is_tuple_of) .none kV_is_tuple_of dc_is_tuple_of pm_is_tuple_of an_is_tuple_of cd_is_tuple_of ct_is_tuple_of), sl_is_tuple_of⟩)
    (c_is_tuple_of : PySem.W.codeIn K cd_is_tuple_of "is_tuple_of" = true) (k_is_tuple_of : PySem.W.keepIn K (.ref f_is_tuple_of) = true)
    {f_are_names : Addr} {od_are_names an_are_names : Option Addr} {sl_are_names : Array (Option Value)} {oc_are_names kV_are_names dc_are_names pm_are_names cd_are_names ct_are_names : Value}
    (a_are_names : PySem.W.nsIn K mainGlobals "are_names" = some (some (.ref f_are_names)))
    (l_are_names : K.lookup f_are_names = some ⟨oc_are_names, od_are_names, .func (PySem.W.fnOf "are_names" "are_names" (defArgs s_are_names) (defBody s_are_names) (defScope s_are_names) .none kV_are_names dc_are_names pm_are_names an_are_names cd_are_names ct_are_names), sl_are_names⟩)
    (c_are_names : PySem.W.codeIn K cd_are_names "are_names" = true) (k_are_names : PySem.W.keepIn K (.ref f_are_names) = true)
    {f_are_options : Addr} {od_are_options an_are_options : Option Addr} {sl_are_options : Array (Option Value)} {oc_are_options kV_are_options dc_are_options pm_are_options cd_are_options ct_are_options : Value}
    (a_are_options : PySem.W.nsIn K mainGlobals "are_options" = some (some (.ref f_are_options)))
    (l_are_options : K.lookup f_are_options = some ⟨oc_are_options, od_are_options, .func (PySem.W.fnOf "are_options" "are_options" (defArgs s_are_options) (defBody s_are_options) (defScope s_are_options) .none kV_are_options dc_are_options pm_are_options an_are_options cd_are_options ct_are_options), sl_are_options⟩)
    (c_are_options : PySem.W.codeIn K cd_are_options "are_options" = true) (k_are_options : PySem.W.keepIn K (.ref f_are_options) = true)
    {f_is_option : Addr} {od_is_option an_is_option : Option Addr} {sl_is_option : Array (Option Value)} {oc_is_option kV_is_option dc_is_option pm_is_option cd_is_option ct_is_option : Value}
    (a_is_option : PySem.W.nsIn K mainGlobals "is_option" = some (some (.ref f_is_option)))
    (l_is_option : K.lookup f_is_option = some ⟨oc_is_option, od_is_option, .func (PySem.W.fnOf "is_option" "is_option" (defArgs s_is_option) (defBody s_is_option) (defScope s_is_option) .none kV_is_option dc_is_option pm_is_option an_is_option cd_is_option ct_is_option), sl_is_option⟩)
    (c_is_option : PySem.W.codeIn K cd_is_option "is_option" = true) (k_is_option : PySem.W.keepIn K (.ref f_is_option) = true)
    {f_are_unlike_options : Addr} {od_are_unlike_options an_are_unlike_options : Option Addr} {sl_are_unlike_options : Array (Option Value)} {oc_are_unlike_options kV_are_unlike_options dc_are_unlike_options pm_are_unlike_options cd_are_unlike_options ct_are_unlike_options : Value}
    (a_are_unlike_options : PySem.W.nsIn K mainGlobals "are_unlike_options" = some (some (.ref f_are_unlike_options)))
    (l_are_unlike_options : K.lookup f_are_unlike_options = some ⟨oc_are_unlike_options, od_are_unlike_options, .func (PySem.W.fnOf "are_unlike_options" "are_unlike_options" (defArgs s_are_unlike_options) (defBody s_are_unlike_options) (defScope s_are_unlike_options) .none kV_are_unlike_options dc_are_unlike_options pm_are_unlike_options an_are_unlike_options cd_are_unlike_options ct_are_unlike_options), sl_are_unlike_options⟩)
    (c_are_unlike_options : PySem.W.codeIn K cd_are_unlike_options "are_unlike_options" = true) (k_are_unlike_options : PySem.W.keepIn K (.ref f_are_unlike_options) = true)
    {f_is_mark : Addr} {od_is_mark an_is_mark : Option Addr} {sl_is_mark : Array (Option Value)} {oc_is_mark kV_is_mark dc_is_mark pm_is_mark cd_is_mark ct_is_mark : Value}
    (a_is_mark : PySem.W.nsIn K mainGlobals "is_mark" = some (some (.ref f_is_mark)))
    (l_is_mark : K.lookup f_is_mark = some ⟨oc_is_mark, od_is_mark, .func (PySem.W.fnOf "is_mark" "is_mark" (defArgs s_is_mark) (defBody s_is_mark) (defScope s_is_mark) .none kV_is_mark dc_is_mark pm_is_mark an_is_mark cd_is_mark ct_is_mark), sl_is_mark⟩)
    (c_is_mark : PySem.W.codeIn K cd_is_mark "is_mark" = true) (k_is_mark : PySem.W.keepIn K (.ref f_is_mark) = true)
    {f_are_tiers : Addr} {od_are_tiers an_are_tiers : Option Addr} {sl_are_tiers : Array (Option Value)} {oc_are_tiers kV_are_tiers dc_are_tiers pm_are_tiers cd_are_tiers ct_are_tiers : Value}
    (a_are_tiers : PySem.W.nsIn K mainGlobals "are_tiers" = some (some (.ref f_are_tiers)))
    (l_are_tiers : K.lookup f_are_tiers = some ⟨oc_are_tiers, od_are_tiers, .func (PySem.W.fnOf "are_tiers" "are_tiers" (defArgs s_are_tiers) (defBody s_are_tiers) (defScope s_are_tiers) .none kV_are_tiers dc_are_tiers pm_are_tiers an_are_tiers cd_are_tiers ct_are_tiers), sl_are_tiers⟩)
    (c_are_tiers : PySem.W.codeIn K cd_are_tiers "are_tiers" = true) (k_are_tiers : PySem.W.keepIn K (.ref f_are_tiers) = true)
    {f_are_marks : Addr} {od_are_marks an_are_marks : Option Addr} {sl_are_marks : Array (Option Value)} {oc_are_marks kV_are_marks dc_are_marks pm_are_marks cd_are_marks ct_are_marks : Value}
    (a_are_marks : PySem.W.nsIn K mainGlobals "are_marks" = some (some (.ref f_are_marks)))
    (l_are_marks : K.lookup f_are_marks = some ⟨oc_are_marks, od_are_marks, .func (PySem.W.fnOf "are_marks" "are_marks" (defArgs s_are_marks) (defBody s_are_marks) (defScope s_are_marks) .none kV_are_marks dc_are_marks pm_are_marks an_are_marks cd_are_marks ct_are_marks), sl_are_marks⟩)
    (c_are_marks : PySem.W.codeIn K cd_are_marks "are_marks" = true) (k_are_marks : PySem.W.keepIn K (.ref f_are_marks) = true)
    {f_is_ballot : Addr} {od_is_ballot an_is_ballot : Option Addr} {sl_is_ballot : Array (Option Value)} {oc_is_ballot kV_is_ballot dc_is_ballot pm_is_ballot cd_is_ballot ct_is_ballot : Value}
    (a_is_ballot : PySem.W.nsIn K mainGlobals "is_ballot" = some (some (.ref f_is_ballot)))
    (l_is_ballot : K.lookup f_is_ballot = some ⟨oc_is_ballot, od_is_ballot, .func (PySem.W.fnOf "is_ballot" "is_ballot" (defArgs s_is_ballot) (defBody s_is_ballot) (defScope s_is_ballot) .none kV_is_ballot dc_is_ballot pm_is_ballot an_is_ballot cd_is_ballot ct_is_ballot), sl_is_ballot⟩)
    (c_is_ballot : PySem.W.codeIn K cd_is_ballot "is_ballot" = true) (k_is_ballot : PySem.W.keepIn K (.ref f_is_ballot) = true)
    {f_is_row : Addr} {od_is_row an_is_row : Option Addr} {sl_is_row : Array (Option Value)} {oc_is_row kV_is_row dc_is_row pm_is_row cd_is_row ct_is_row : Value}
    (a_is_row : PySem.W.nsIn K mainGlobals "is_row" = some (some (.ref f_is_row)))
    (l_is_row : K.lookup f_is_row = some ⟨oc_is_row, od_is_row, .func (PySem.W.fnOf "is_row" "is_row" (defArgs s_is_row) (defBody s_is_row) (defScope s_is_row) .none kV_is_row dc_is_row pm_is_row an_is_row cd_is_row ct_is_row), sl_is_row⟩)
    (c_is_row : PySem.W.codeIn K cd_is_row "is_row" = true) (k_is_row : PySem.W.keepIn K (.ref f_is_row) = true)
    {f_check_poll : Addr} {od_check_poll an_check_poll : Option Addr} {sl_check_poll : Array (Option Value)} {oc_check_poll kV_check_poll dc_check_poll pm_check_poll cd_check_poll ct_check_poll : Value}
    (a_check_poll : PySem.W.nsIn K mainGlobals "check_poll" = some (some (.ref f_check_poll)))
    (l_check_poll : K.lookup f_check_poll = some ⟨oc_check_poll, od_check_poll, .func (PySem.W.fnOf "check_poll" "check_poll" (defArgs s_check_poll) (defBody s_check_poll) (defScope s_check_poll) .none kV_check_poll dc_check_poll pm_check_poll an_check_poll cd_check_poll ct_check_poll), sl_check_poll⟩)
    (c_check_poll : PySem.W.codeIn K cd_check_poll "check_poll" = true) (k_check_poll : PySem.W.keepIn K (.ref f_check_poll) = true)
    {f_Poll_init : Addr} {od_Poll_init an_Poll_init : Option Addr} {sl_Poll_init : Array (Option Value)} {oc_Poll_init kV_Poll_init dc_Poll_init pm_Poll_init cd_Poll_init ct_Poll_init : Value}
    {e_Poll_init : Addr}
    {T_Poll_init : Addr} {to_Poll_init : Value} {td_Poll_init : Option Addr} {tn_Poll_init : Nat} {tsl_Poll_init : Array (Option Value)} 
    (lt_Poll_init : K.lookup T_Poll_init = some ⟨to_Poll_init, td_Poll_init, .seq #[.ref e_Poll_init] tn_Poll_init, tsl_Poll_init⟩)
    (l_Poll_init : K.lookup f_Poll_init = some ⟨oc_Poll_init, od_Poll_init, .func (PySem.W.fnOf "__init__" "Poll.__init__" (defArgs s_Poll_init) (defBody s_Poll_init) (defScope s_Poll_init) (.ref T_Poll_init) kV_Poll_init dc_Poll_init pm_Poll_init an_Poll_init cd_Poll_init ct_Poll_init), sl_Poll_init⟩)
    (c_Poll_init : PySem.W.codeIn K cd_Poll_init "Poll.__init__" = true) (k_Poll_init : PySem.W.keepIn K (.ref f_Poll_init) = true)
    {f_order_ranks : Addr} {od_order_ranks an_order_ranks : Option Addr} {sl_order_ranks : Array (Option Value)} {oc_order_ranks kV_order_ranks dc_order_ranks pm_order_ranks cd_order_ranks ct_order_ranks : Value}
    (a_order_ranks : PySem.W.nsIn K mainGlobals "order_ranks" = some (some (.ref f_order_ranks)))
    (l_order_ranks : K.lookup f_order_ranks = some ⟨oc_order_ranks, od_order_ranks, .func (PySem.W.fnOf "order_ranks" "order_ranks" (defArgs s_order_ranks) (defBody s_order_ranks) (defScope s_order_ranks) .none kV_order_ranks dc_order_ranks pm_order_ranks an_order_ranks cd_order_ranks ct_order_ranks), sl_order_ranks⟩)
    (c_order_ranks : PySem.W.codeIn K cd_order_ranks "order_ranks" = true) (k_order_ranks : PySem.W.keepIn K (.ref f_order_ranks) = true)
    {f_ranks : Addr} {od_ranks an_ranks : Option Addr} {sl_ranks : Array (Option Value)} {oc_ranks kV_ranks dc_ranks pm_ranks cd_ranks ct_ranks : Value}
    (a_ranks : PySem.W.nsIn K mainGlobals "ranks" = some (some (.ref f_ranks)))
    (l_ranks : K.lookup f_ranks = some ⟨oc_ranks, od_ranks, .func (PySem.W.fnOf "ranks" "ranks" (defArgs s_ranks) (defBody s_ranks) (defScope s_ranks) .none kV_ranks dc_ranks pm_ranks an_ranks cd_ranks ct_ranks), sl_ranks⟩)
    (c_ranks : PySem.W.codeIn K cd_ranks "ranks" = true) (k_ranks : PySem.W.keepIn K (.ref f_ranks) = true)
    {f_tiers : Addr} {od_tiers an_tiers : Option Addr} {sl_tiers : Array (Option Value)} {oc_tiers kV_tiers dc_tiers pm_tiers cd_tiers ct_tiers : Value}
    (a_tiers : PySem.W.nsIn K mainGlobals "tiers" = some (some (.ref f_tiers)))
    (l_tiers : K.lookup f_tiers = some ⟨oc_tiers, od_tiers, .func (PySem.W.fnOf "tiers" "tiers" (defArgs s_tiers) (defBody s_tiers) (defScope s_tiers) .none kV_tiers dc_tiers pm_tiers an_tiers cd_tiers ct_tiers), sl_tiers⟩)
    (c_tiers : PySem.W.codeIn K cd_tiers "tiers" = true) (k_tiers : PySem.W.keepIn K (.ref f_tiers) = true)
    {f_Share_init : Addr} {od_Share_init an_Share_init : Option Addr} {sl_Share_init : Array (Option Value)} {oc_Share_init kV_Share_init dc_Share_init pm_Share_init cd_Share_init ct_Share_init : Value}
    {T_Share_init : Addr} {to_Share_init : Value} {td_Share_init : Option Addr} {tn_Share_init : Nat} {tsl_Share_init : Array (Option Value)} {tk0_Share_init : Tok}
    (lt_Share_init : K.lookup T_Share_init = some ⟨to_Share_init, td_Share_init, .seq #[.int 1 tk0_Share_init] tn_Share_init, tsl_Share_init⟩)
    (l_Share_init : K.lookup f_Share_init = some ⟨oc_Share_init, od_Share_init, .func (PySem.W.fnOf "__init__" "Share.__init__" (defArgs s_Share_init) (defBody s_Share_init) (defScope s_Share_init) (.ref T_Share_init) kV_Share_init dc_Share_init pm_Share_init an_Share_init cd_Share_init ct_Share_init), sl_Share_init⟩)
    (c_Share_init : PySem.W.codeIn K cd_Share_init "Share.__init__" = true) (k_Share_init : PySem.W.keepIn K (.ref f_Share_init) = true)
    {f_Share_plus : Addr} {od_Share_plus an_Share_plus : Option Addr} {sl_Share_plus : Array (Option Value)} {oc_Share_plus kV_Share_plus dc_Share_plus pm_Share_plus cd_Share_plus ct_Share_plus : Value}
    (l_Share_plus : K.lookup f_Share_plus = some ⟨oc_Share_plus, od_Share_plus, .func (PySem.W.fnOf "plus" "Share.plus" (defArgs s_Share_plus) (defBody s_Share_plus) (defScope s_Share_plus) .none kV_Share_plus dc_Share_plus pm_Share_plus an_Share_plus cd_Share_plus ct_Share_plus), sl_Share_plus⟩)
    (c_Share_plus : PySem.W.codeIn K cd_Share_plus "Share.plus" = true) (k_Share_plus : PySem.W.keepIn K (.ref f_Share_plus) = true)
    {f_are_weights : Addr} {od_are_weights an_are_weights : Option Addr} {sl_are_weights : Array (Option Value)} {oc_are_weights kV_are_weights dc_are_weights pm_are_weights cd_are_weights ct_are_weights : Value}
    (a_are_weights : PySem.W.nsIn K mainGlobals "are_weights" = some (some (.ref f_are_weights)))
    (l_are_weights : K.lookup f_are_weights = some ⟨oc_are_weights, od_are_weights, .func (PySem.W.fnOf "are_weights" "are_weights" (defArgs s_are_weights) (defBody s_are_weights) (defScope s_are_weights) .none kV_are_weights dc_are_weights pm_are_weights an_are_weights cd_are_weights ct_are_weights), sl_are_weights⟩)
    (c_are_weights : PySem.W.codeIn K cd_are_weights "are_weights" = true) (k_are_weights : PySem.W.keepIn K (.ref f_are_weights) = true)
    {f_weighed : Addr} {od_weighed an_weighed : Option Addr} {sl_weighed : Array (Option Value)} {oc_weighed kV_weighed dc_weighed pm_weighed cd_weighed ct_weighed : Value}
    (a_weighed : PySem.W.nsIn K mainGlobals "weighed" = some (some (.ref f_weighed)))
    (l_weighed : K.lookup f_weighed = some ⟨oc_weighed, od_weighed, .func (PySem.W.fnOf "weighed" "weighed" (defArgs s_weighed) (defBody s_weighed) (defScope s_weighed) .none kV_weighed dc_weighed pm_weighed an_weighed cd_weighed ct_weighed), sl_weighed⟩)
    (c_weighed : PySem.W.codeIn K cd_weighed "weighed" = true) (k_weighed : PySem.W.keepIn K (.ref f_weighed) = true)
    {f_law_cell_at : Addr} {od_law_cell_at an_law_cell_at : Option Addr} {sl_law_cell_at : Array (Option Value)} {oc_law_cell_at kV_law_cell_at dc_law_cell_at pm_law_cell_at cd_law_cell_at ct_law_cell_at : Value}
    (a_law_cell_at : PySem.W.nsIn K mainGlobals "_law_cell_at" = some (some (.ref f_law_cell_at)))
    (l_law_cell_at : K.lookup f_law_cell_at = some ⟨oc_law_cell_at, od_law_cell_at, .func (PySem.W.fnOf "_law_cell_at" "_law_cell_at" (defArgs s_law_cell_at) (defBody s_law_cell_at) (defScope s_law_cell_at) .none kV_law_cell_at dc_law_cell_at pm_law_cell_at an_law_cell_at cd_law_cell_at ct_law_cell_at), sl_law_cell_at⟩)
    (c_law_cell_at : PySem.W.codeIn K cd_law_cell_at "_law_cell_at" = true) (k_law_cell_at : PySem.W.keepIn K (.ref f_law_cell_at) = true)
    {f_law_well : Addr} {od_law_well an_law_well : Option Addr} {sl_law_well : Array (Option Value)} {oc_law_well kV_law_well dc_law_well pm_law_well cd_law_well ct_law_well : Value}
    (a_law_well : PySem.W.nsIn K mainGlobals "_law_well" = some (some (.ref f_law_well)))
    (l_law_well : K.lookup f_law_well = some ⟨oc_law_well, od_law_well, .func (PySem.W.fnOf "_law_well" "_law_well" (defArgs s_law_well) (defBody s_law_well) (defScope s_law_well) .none kV_law_well dc_law_well pm_law_well an_law_well cd_law_well ct_law_well), sl_law_well⟩)
    (c_law_well : PySem.W.codeIn K cd_law_well "_law_well" = true) (k_law_well : PySem.W.keepIn K (.ref f_law_well) = true)
    {f_law_draw : Addr} {od_law_draw an_law_draw : Option Addr} {sl_law_draw : Array (Option Value)} {oc_law_draw kV_law_draw dc_law_draw pm_law_draw cd_law_draw ct_law_draw : Value}
    (a_law_draw : PySem.W.nsIn K mainGlobals "_law_draw" = some (some (.ref f_law_draw)))
    (l_law_draw : K.lookup f_law_draw = some ⟨oc_law_draw, od_law_draw, .func (PySem.W.fnOf "_law_draw" "_law_draw" (defArgs s_law_draw) (defBody s_law_draw) (defScope s_law_draw) .none kV_law_draw dc_law_draw pm_law_draw an_law_draw cd_law_draw ct_law_draw), sl_law_draw⟩)
    (c_law_draw : PySem.W.codeIn K cd_law_draw "_law_draw" = true) (k_law_draw : PySem.W.keepIn K (.ref f_law_draw) = true)
    {f_law_one : Addr} {od_law_one an_law_one : Option Addr} {sl_law_one : Array (Option Value)} {oc_law_one kV_law_one dc_law_one pm_law_one cd_law_one ct_law_one : Value}
    (a_law_one : PySem.W.nsIn K mainGlobals "_law_one" = some (some (.ref f_law_one)))
    (l_law_one : K.lookup f_law_one = some ⟨oc_law_one, od_law_one, .func (PySem.W.fnOf "_law_one" "_law_one" (defArgs s_law_one) (defBody s_law_one) (defScope s_law_one) .none kV_law_one dc_law_one pm_law_one an_law_one cd_law_one ct_law_one), sl_law_one⟩)
    (c_law_one : PySem.W.codeIn K cd_law_one "_law_one" = true) (k_law_one : PySem.W.keepIn K (.ref f_law_one) = true)
    {f_law_options : Addr} {od_law_options an_law_options : Option Addr} {sl_law_options : Array (Option Value)} {oc_law_options kV_law_options dc_law_options pm_law_options cd_law_options ct_law_options : Value}
    (a_law_options : PySem.W.nsIn K mainGlobals "_law_options" = some (some (.ref f_law_options)))
    (l_law_options : K.lookup f_law_options = some ⟨oc_law_options, od_law_options, .func (PySem.W.fnOf "_law_options" "_law_options" (defArgs s_law_options) (defBody s_law_options) (defScope s_law_options) .none kV_law_options dc_law_options pm_law_options an_law_options cd_law_options ct_law_options), sl_law_options⟩)
    (c_law_options : PySem.W.codeIn K cd_law_options "_law_options" = true) (k_law_options : PySem.W.keepIn K (.ref f_law_options) = true)
    {f_law_shuffled : Addr} {od_law_shuffled an_law_shuffled : Option Addr} {sl_law_shuffled : Array (Option Value)} {oc_law_shuffled kV_law_shuffled dc_law_shuffled pm_law_shuffled cd_law_shuffled ct_law_shuffled : Value}
    (a_law_shuffled : PySem.W.nsIn K mainGlobals "_law_shuffled" = some (some (.ref f_law_shuffled)))
    (l_law_shuffled : K.lookup f_law_shuffled = some ⟨oc_law_shuffled, od_law_shuffled, .func (PySem.W.fnOf "_law_shuffled" "_law_shuffled" (defArgs s_law_shuffled) (defBody s_law_shuffled) (defScope s_law_shuffled) .none kV_law_shuffled dc_law_shuffled pm_law_shuffled an_law_shuffled cd_law_shuffled ct_law_shuffled), sl_law_shuffled⟩)
    (c_law_shuffled : PySem.W.codeIn K cd_law_shuffled "_law_shuffled" = true) (k_law_shuffled : PySem.W.keepIn K (.ref f_law_shuffled) = true)
    {f_law_tiers_drawn : Addr} {od_law_tiers_drawn an_law_tiers_drawn : Option Addr} {sl_law_tiers_drawn : Array (Option Value)} {oc_law_tiers_drawn kV_law_tiers_drawn dc_law_tiers_drawn pm_law_tiers_drawn cd_law_tiers_drawn ct_law_tiers_drawn : Value}
    (a_law_tiers_drawn : PySem.W.nsIn K mainGlobals "_law_tiers_drawn" = some (some (.ref f_law_tiers_drawn)))
    (l_law_tiers_drawn : K.lookup f_law_tiers_drawn = some ⟨oc_law_tiers_drawn, od_law_tiers_drawn, .func (PySem.W.fnOf "_law_tiers_drawn" "_law_tiers_drawn" (defArgs s_law_tiers_drawn) (defBody s_law_tiers_drawn) (defScope s_law_tiers_drawn) .none kV_law_tiers_drawn dc_law_tiers_drawn pm_law_tiers_drawn an_law_tiers_drawn cd_law_tiers_drawn ct_law_tiers_drawn), sl_law_tiers_drawn⟩)
    (c_law_tiers_drawn : PySem.W.codeIn K cd_law_tiers_drawn "_law_tiers_drawn" = true) (k_law_tiers_drawn : PySem.W.keepIn K (.ref f_law_tiers_drawn) = true)
    {f_law_ballot : Addr} {od_law_ballot an_law_ballot : Option Addr} {sl_law_ballot : Array (Option Value)} {oc_law_ballot kV_law_ballot dc_law_ballot pm_law_ballot cd_law_ballot ct_law_ballot : Value}
    (a_law_ballot : PySem.W.nsIn K mainGlobals "_law_ballot" = some (some (.ref f_law_ballot)))
    (l_law_ballot : K.lookup f_law_ballot = some ⟨oc_law_ballot, od_law_ballot, .func (PySem.W.fnOf "_law_ballot" "_law_ballot" (defArgs s_law_ballot) (defBody s_law_ballot) (defScope s_law_ballot) .none kV_law_ballot dc_law_ballot pm_law_ballot an_law_ballot cd_law_ballot ct_law_ballot), sl_law_ballot⟩)
    (c_law_ballot : PySem.W.codeIn K cd_law_ballot "_law_ballot" = true) (k_law_ballot : PySem.W.keepIn K (.ref f_law_ballot) = true)
    {f_law_rows : Addr} {od_law_rows an_law_rows : Option Addr} {sl_law_rows : Array (Option Value)} {oc_law_rows kV_law_rows dc_law_rows pm_law_rows cd_law_rows ct_law_rows : Value}
    (a_law_rows : PySem.W.nsIn K mainGlobals "_law_rows" = some (some (.ref f_law_rows)))
    (l_law_rows : K.lookup f_law_rows = some ⟨oc_law_rows, od_law_rows, .func (PySem.W.fnOf "_law_rows" "_law_rows" (defArgs s_law_rows) (defBody s_law_rows) (defScope s_law_rows) .none kV_law_rows dc_law_rows pm_law_rows an_law_rows cd_law_rows ct_law_rows), sl_law_rows⟩)
    (c_law_rows : PySem.W.codeIn K cd_law_rows "_law_rows" = true) (k_law_rows : PySem.W.keepIn K (.ref f_law_rows) = true)
    {f_law_high : Addr} {od_law_high an_law_high : Option Addr} {sl_law_high : Array (Option Value)} {oc_law_high kV_law_high dc_law_high pm_law_high cd_law_high ct_law_high : Value}
    (a_law_high : PySem.W.nsIn K mainGlobals "_law_high" = some (some (.ref f_law_high)))
    (l_law_high : K.lookup f_law_high = some ⟨oc_law_high, od_law_high, .func (PySem.W.fnOf "_law_high" "_law_high" (defArgs s_law_high) (defBody s_law_high) (defScope s_law_high) .none kV_law_high dc_law_high pm_law_high an_law_high cd_law_high ct_law_high), sl_law_high⟩)
    (c_law_high : PySem.W.codeIn K cd_law_high "_law_high" = true) (k_law_high : PySem.W.keepIn K (.ref f_law_high) = true)
    {f_law_tiers : Addr} {od_law_tiers an_law_tiers : Option Addr} {sl_law_tiers : Array (Option Value)} {oc_law_tiers kV_law_tiers dc_law_tiers pm_law_tiers cd_law_tiers ct_law_tiers : Value}
    (a_law_tiers : PySem.W.nsIn K mainGlobals "_law_tiers" = some (some (.ref f_law_tiers)))
    (l_law_tiers : K.lookup f_law_tiers = some ⟨oc_law_tiers, od_law_tiers, .func (PySem.W.fnOf "_law_tiers" "_law_tiers" (defArgs s_law_tiers) (defBody s_law_tiers) (defScope s_law_tiers) .none kV_law_tiers dc_law_tiers pm_law_tiers an_law_tiers cd_law_tiers ct_law_tiers), sl_law_tiers⟩)
    (c_law_tiers : PySem.W.codeIn K cd_law_tiers "_law_tiers" = true) (k_law_tiers : PySem.W.keepIn K (.ref f_law_tiers) = true)
    {f_law_lowest : Addr} {od_law_lowest an_law_lowest : Option Addr} {sl_law_lowest : Array (Option Value)} {oc_law_lowest kV_law_lowest dc_law_lowest pm_law_lowest cd_law_lowest ct_law_lowest : Value}
    (a_law_lowest : PySem.W.nsIn K mainGlobals "_law_lowest" = some (some (.ref f_law_lowest)))
    (l_law_lowest : K.lookup f_law_lowest = some ⟨oc_law_lowest, od_law_lowest, .func (PySem.W.fnOf "_law_lowest" "_law_lowest" (defArgs s_law_lowest) (defBody s_law_lowest) (defScope s_law_lowest) .none kV_law_lowest dc_law_lowest pm_law_lowest an_law_lowest cd_law_lowest ct_law_lowest), sl_law_lowest⟩)
    (c_law_lowest : PySem.W.codeIn K cd_law_lowest "_law_lowest" = true) (k_law_lowest : PySem.W.keepIn K (.ref f_law_lowest) = true)
    {f_law_weights : Addr} {od_law_weights an_law_weights : Option Addr} {sl_law_weights : Array (Option Value)} {oc_law_weights kV_law_weights dc_law_weights pm_law_weights cd_law_weights ct_law_weights : Value}
    (a_law_weights : PySem.W.nsIn K mainGlobals "_law_weights" = some (some (.ref f_law_weights)))
    (l_law_weights : K.lookup f_law_weights = some ⟨oc_law_weights, od_law_weights, .func (PySem.W.fnOf "_law_weights" "_law_weights" (defArgs s_law_weights) (defBody s_law_weights) (defScope s_law_weights) .none kV_law_weights dc_law_weights pm_law_weights an_law_weights cd_law_weights ct_law_weights), sl_law_weights⟩)
    (c_law_weights : PySem.W.codeIn K cd_law_weights "_law_weights" = true) (k_law_weights : PySem.W.keepIn K (.ref f_law_weights) = true)
    {f_law_bad : Addr} {od_law_bad an_law_bad : Option Addr} {sl_law_bad : Array (Option Value)} {oc_law_bad kV_law_bad dc_law_bad pm_law_bad cd_law_bad ct_law_bad : Value}
    (a_law_bad : PySem.W.nsIn K mainGlobals "_law_bad" = some (some (.ref f_law_bad)))
    (l_law_bad : K.lookup f_law_bad = some ⟨oc_law_bad, od_law_bad, .func (PySem.W.fnOf "_law_bad" "_law_bad" (defArgs s_law_bad) (defBody s_law_bad) (defScope s_law_bad) .none kV_law_bad dc_law_bad pm_law_bad an_law_bad cd_law_bad ct_law_bad), sl_law_bad⟩)
    (c_law_bad : PySem.W.codeIn K cd_law_bad "_law_bad" = true) (k_law_bad : PySem.W.keepIn K (.ref f_law_bad) = true)
    {f_law_due : Addr} {od_law_due an_law_due : Option Addr} {sl_law_due : Array (Option Value)} {oc_law_due kV_law_due dc_law_due pm_law_due cd_law_due ct_law_due : Value}
    (a_law_due : PySem.W.nsIn K mainGlobals "_law_due" = some (some (.ref f_law_due)))
    (l_law_due : K.lookup f_law_due = some ⟨oc_law_due, od_law_due, .func (PySem.W.fnOf "_law_due" "_law_due" (defArgs s_law_due) (defBody s_law_due) (defScope s_law_due) .none kV_law_due dc_law_due pm_law_due an_law_due cd_law_due ct_law_due), sl_law_due⟩)
    (c_law_due : PySem.W.codeIn K cd_law_due "_law_due" = true) (k_law_due : PySem.W.keepIn K (.ref f_law_due) = true)
    {f_law_refused : Addr} {od_law_refused an_law_refused : Option Addr} {sl_law_refused : Array (Option Value)} {oc_law_refused kV_law_refused dc_law_refused pm_law_refused cd_law_refused ct_law_refused : Value}
    (a_law_refused : PySem.W.nsIn K mainGlobals "_law_refused" = some (some (.ref f_law_refused)))
    (l_law_refused : K.lookup f_law_refused = some ⟨oc_law_refused, od_law_refused, .func (PySem.W.fnOf "_law_refused" "_law_refused" (defArgs s_law_refused) (defBody s_law_refused) (defScope s_law_refused) .none kV_law_refused dc_law_refused pm_law_refused an_law_refused cd_law_refused ct_law_refused), sl_law_refused⟩)
    (c_law_refused : PySem.W.codeIn K cd_law_refused "_law_refused" = true) (k_law_refused : PySem.W.keepIn K (.ref f_law_refused) = true)
    {f_law : Addr} {od_law an_law : Option Addr} {sl_law : Array (Option Value)} {oc_law kV_law dc_law pm_law cd_law ct_law : Value}
    (a_law : PySem.W.nsIn K mainGlobals "law" = some (some (.ref f_law)))
    (l_law : K.lookup f_law = some ⟨oc_law, od_law, .func (PySem.W.fnOf "law" "law" (defArgs s_law) (defBody s_law) (defScope s_law) .none kV_law dc_law pm_law an_law cd_law ct_law), sl_law⟩)
    (c_law : PySem.W.codeIn K cd_law "law" = true) (k_law : PySem.W.keepIn K (.ref f_law) = true)
    {C_PollError : Addr}
    (aC_PollError : PySem.W.nsIn K mainGlobals "PollError" = some (some (.ref C_PollError)))
    {nm_PollError q_PollError : Str} {N_PollError : Addr} {bs_PollError : List Value} {sn_PollError : List Str} {sub_PollError : List Value} {ab_PollError : Bool} {col_PollError : Option Bool} {dd_PollError : Option Addr} {m0_PollError m1_PollError m2_PollError m3_PollError m5_PollError : Option Value}
    (xL_PollError : K.lookup C_PollError = some (excClassObj nm_PollError q_PollError C_PollError N_PollError bs_PollError [.type "ValueError", .type "Exception", .type "BaseException", .type "object"] true sn_PollError sub_PollError ab_PollError col_PollError dd_PollError m0_PollError m1_PollError m2_PollError m3_PollError m5_PollError "ValueError.__new__"))
    (sa_PollError : PySem.W.findIn K (.ref C_PollError) "__setattr__" = some (some (.builtin "object.__setattr__")))
    (gt_PollError : PySem.W.findIn K (.ref C_PollError) "__getattribute__" = some (some (.builtin "BaseException.__getattribute__")))
    (gg_PollError : PySem.W.findIn K (.ref C_PollError) "__getattr__" = some none)
    (ai_PollError : PySem.W.findIn K (.ref C_PollError) "__init__" = some (some (.ref f_PollError_init)))
    (ti_PollError : PySem.W.typeIn K (.ref f_PollError_init) = some (.type "function"))
    (kC_PollError : PySem.W.keepIn K (.ref C_PollError) = true)
    (eC_PollError : PySem.W.subIn K (.ref C_PollError) (.type "BaseException") = some true)
    (tC_PollError : PySem.W.typeIn K (.ref C_PollError) = some (.type "type"))
    (hC_PollError : PySem.W.hasDictIn K C_PollError = true)
    (nf_PollError_why : PySem.W.findIn K (.ref C_PollError) "why" = some none)
    (rd_PollError : PySem.W.readsIn K C_PollError (.type "type") = true)
    (ga_PollError : PySem.W.specialIn K (.ref C_PollError) "__getattribute__" = some (some (.builtin "type.__getattribute__")))
    (fc_PollError_init : PySem.W.findCls K (.ref C_PollError) (.type "type") "__init__" = some (.val (.ref f_PollError_init)))
    {C_NoShare : Addr}
    (aC_NoShare : PySem.W.nsIn K mainGlobals "NoShare" = some (some (.ref C_NoShare)))
    {nm_NoShare q_NoShare : Str} {N_NoShare : Addr} {bs_NoShare : List Value} {sn_NoShare : List Str} {sub_NoShare : List Value} {ab_NoShare : Bool} {col_NoShare : Option Bool} {dd_NoShare : Option Addr} {m0_NoShare m1_NoShare m2_NoShare m3_NoShare m5_NoShare : Option Value}
    (xL_NoShare : K.lookup C_NoShare = some (excClassObj nm_NoShare q_NoShare C_NoShare N_NoShare bs_NoShare [.ref C_PollError, .type "ValueError", .type "Exception", .type "BaseException", .type "object"] true sn_NoShare sub_NoShare ab_NoShare col_NoShare dd_NoShare m0_NoShare m1_NoShare m2_NoShare m3_NoShare m5_NoShare "ValueError.__new__"))
    (sa_NoShare : PySem.W.findIn K (.ref C_NoShare) "__setattr__" = some (some (.builtin "object.__setattr__")))
    (gt_NoShare : PySem.W.findIn K (.ref C_NoShare) "__getattribute__" = some (some (.builtin "BaseException.__getattribute__")))
    (gg_NoShare : PySem.W.findIn K (.ref C_NoShare) "__getattr__" = some none)
    (ai_NoShare : PySem.W.findIn K (.ref C_NoShare) "__init__" = some (some (.ref f_NoShare_init)))
    (ti_NoShare : PySem.W.typeIn K (.ref f_NoShare_init) = some (.type "function"))
    (kC_NoShare : PySem.W.keepIn K (.ref C_NoShare) = true)
    (eC_NoShare : PySem.W.subIn K (.ref C_NoShare) (.type "BaseException") = some true)
    (tC_NoShare : PySem.W.typeIn K (.ref C_NoShare) = some (.type "type"))
    (hC_NoShare : PySem.W.hasDictIn K C_NoShare = true)
    (nf_NoShare_why : PySem.W.findIn K (.ref C_NoShare) "why" = some none)
    (nf_NoShare_num : PySem.W.findIn K (.ref C_NoShare) "num" = some none)
    (nf_NoShare_over : PySem.W.findIn K (.ref C_NoShare) "over" = some none)
    {C_BadBallot : Addr}
    (aC_BadBallot : PySem.W.nsIn K mainGlobals "BadBallot" = some (some (.ref C_BadBallot)))
    {nm_BadBallot q_BadBallot : Str} {N_BadBallot : Addr} {bs_BadBallot : List Value} {sn_BadBallot : List Str} {sub_BadBallot : List Value} {ab_BadBallot : Bool} {col_BadBallot : Option Bool} {dd_BadBallot : Option Addr} {m0_BadBallot m1_BadBallot m2_BadBallot m3_BadBallot m5_BadBallot : Option Value}
    (xL_BadBallot : K.lookup C_BadBallot = some (excClassObj nm_BadBallot q_BadBallot C_BadBallot N_BadBallot bs_BadBallot [.ref C_PollError, .type "ValueError", .type "Exception", .type "BaseException", .type "object"] true sn_BadBallot sub_BadBallot ab_BadBallot col_BadBallot dd_BadBallot m0_BadBallot m1_BadBallot m2_BadBallot m3_BadBallot m5_BadBallot "ValueError.__new__"))
    (sa_BadBallot : PySem.W.findIn K (.ref C_BadBallot) "__setattr__" = some (some (.builtin "object.__setattr__")))
    (gt_BadBallot : PySem.W.findIn K (.ref C_BadBallot) "__getattribute__" = some (some (.builtin "BaseException.__getattribute__")))
    (gg_BadBallot : PySem.W.findIn K (.ref C_BadBallot) "__getattr__" = some none)
    (ai_BadBallot : PySem.W.findIn K (.ref C_BadBallot) "__init__" = some (some (.ref f_PollError_init)))
    (ti_BadBallot : PySem.W.typeIn K (.ref f_PollError_init) = some (.type "function"))
    (kC_BadBallot : PySem.W.keepIn K (.ref C_BadBallot) = true)
    (eC_BadBallot : PySem.W.subIn K (.ref C_BadBallot) (.type "BaseException") = some true)
    (tC_BadBallot : PySem.W.typeIn K (.ref C_BadBallot) = some (.type "type"))
    (hC_BadBallot : PySem.W.hasDictIn K C_BadBallot = true)
    (nf_BadBallot_why : PySem.W.findIn K (.ref C_BadBallot) "why" = some none)
    {C_BadOrder : Addr}
    (aC_BadOrder : PySem.W.nsIn K mainGlobals "BadOrder" = some (some (.ref C_BadOrder)))
    {nm_BadOrder q_BadOrder : Str} {N_BadOrder : Addr} {bs_BadOrder : List Value} {sn_BadOrder : List Str} {sub_BadOrder : List Value} {ab_BadOrder : Bool} {col_BadOrder : Option Bool} {dd_BadOrder : Option Addr} {m0_BadOrder m1_BadOrder m2_BadOrder m3_BadOrder m5_BadOrder : Option Value}
    (xL_BadOrder : K.lookup C_BadOrder = some (excClassObj nm_BadOrder q_BadOrder C_BadOrder N_BadOrder bs_BadOrder [.ref C_PollError, .type "ValueError", .type "Exception", .type "BaseException", .type "object"] true sn_BadOrder sub_BadOrder ab_BadOrder col_BadOrder dd_BadOrder m0_BadOrder m1_BadOrder m2_BadOrder m3_BadOrder m5_BadOrder "ValueError.__new__"))
    (sa_BadOrder : PySem.W.findIn K (.ref C_BadOrder) "__setattr__" = some (some (.builtin "object.__setattr__")))
    (gt_BadOrder : PySem.W.findIn K (.ref C_BadOrder) "__getattribute__" = some (some (.builtin "BaseException.__getattribute__")))
    (gg_BadOrder : PySem.W.findIn K (.ref C_BadOrder) "__getattr__" = some none)
    (ai_BadOrder : PySem.W.findIn K (.ref C_BadOrder) "__init__" = some (some (.ref f_PollError_init)))
    (ti_BadOrder : PySem.W.typeIn K (.ref f_PollError_init) = some (.type "function"))
    (kC_BadOrder : PySem.W.keepIn K (.ref C_BadOrder) = true)
    (eC_BadOrder : PySem.W.subIn K (.ref C_BadOrder) (.type "BaseException") = some true)
    (tC_BadOrder : PySem.W.typeIn K (.ref C_BadOrder) = some (.type "type"))
    (hC_BadOrder : PySem.W.hasDictIn K C_BadOrder = true)
    (nf_BadOrder_why : PySem.W.findIn K (.ref C_BadOrder) "why" = some none)
    {C_BadPoll : Addr}
    (aC_BadPoll : PySem.W.nsIn K mainGlobals "BadPoll" = some (some (.ref C_BadPoll)))
    {nm_BadPoll q_BadPoll : Str} {N_BadPoll : Addr} {bs_BadPoll : List Value} {sn_BadPoll : List Str} {sub_BadPoll : List Value} {ab_BadPoll : Bool} {col_BadPoll : Option Bool} {dd_BadPoll : Option Addr} {m0_BadPoll m1_BadPoll m2_BadPoll m3_BadPoll m5_BadPoll : Option Value}
    (xL_BadPoll : K.lookup C_BadPoll = some (excClassObj nm_BadPoll q_BadPoll C_BadPoll N_BadPoll bs_BadPoll [.ref C_PollError, .type "ValueError", .type "Exception", .type "BaseException", .type "object"] true sn_BadPoll sub_BadPoll ab_BadPoll col_BadPoll dd_BadPoll m0_BadPoll m1_BadPoll m2_BadPoll m3_BadPoll m5_BadPoll "ValueError.__new__"))
    (sa_BadPoll : PySem.W.findIn K (.ref C_BadPoll) "__setattr__" = some (some (.builtin "object.__setattr__")))
    (gt_BadPoll : PySem.W.findIn K (.ref C_BadPoll) "__getattribute__" = some (some (.builtin "BaseException.__getattribute__")))
    (gg_BadPoll : PySem.W.findIn K (.ref C_BadPoll) "__getattr__" = some none)
    (ai_BadPoll : PySem.W.findIn K (.ref C_BadPoll) "__init__" = some (some (.ref f_PollError_init)))
    (ti_BadPoll : PySem.W.typeIn K (.ref f_PollError_init) = some (.type "function"))
    (kC_BadPoll : PySem.W.keepIn K (.ref C_BadPoll) = true)
    (eC_BadPoll : PySem.W.subIn K (.ref C_BadPoll) (.type "BaseException") = some true)
    (tC_BadPoll : PySem.W.typeIn K (.ref C_BadPoll) = some (.type "type"))
    (hC_BadPoll : PySem.W.hasDictIn K C_BadPoll = true)
    (nf_BadPoll_why : PySem.W.findIn K (.ref C_BadPoll) "why" = some none)
    {C_BadRule : Addr}
    (aC_BadRule : PySem.W.nsIn K mainGlobals "BadRule" = some (some (.ref C_BadRule)))
    {nm_BadRule q_BadRule : Str} {N_BadRule : Addr} {bs_BadRule : List Value} {sn_BadRule : List Str} {sub_BadRule : List Value} {ab_BadRule : Bool} {col_BadRule : Option Bool} {dd_BadRule : Option Addr} {m0_BadRule m1_BadRule m2_BadRule m3_BadRule m5_BadRule : Option Value}
    (xL_BadRule : K.lookup C_BadRule = some (excClassObj nm_BadRule q_BadRule C_BadRule N_BadRule bs_BadRule [.ref C_PollError, .type "ValueError", .type "Exception", .type "BaseException", .type "object"] true sn_BadRule sub_BadRule ab_BadRule col_BadRule dd_BadRule m0_BadRule m1_BadRule m2_BadRule m3_BadRule m5_BadRule "ValueError.__new__"))
    (sa_BadRule : PySem.W.findIn K (.ref C_BadRule) "__setattr__" = some (some (.builtin "object.__setattr__")))
    (gt_BadRule : PySem.W.findIn K (.ref C_BadRule) "__getattribute__" = some (some (.builtin "BaseException.__getattribute__")))
    (gg_BadRule : PySem.W.findIn K (.ref C_BadRule) "__getattr__" = some none)
    (ai_BadRule : PySem.W.findIn K (.ref C_BadRule) "__init__" = some (some (.ref f_PollError_init)))
    (ti_BadRule : PySem.W.typeIn K (.ref f_PollError_init) = some (.type "function"))
    (kC_BadRule : PySem.W.keepIn K (.ref C_BadRule) = true)
    (eC_BadRule : PySem.W.subIn K (.ref C_BadRule) (.type "BaseException") = some true)
    (tC_BadRule : PySem.W.typeIn K (.ref C_BadRule) = some (.type "type"))
    (hC_BadRule : PySem.W.hasDictIn K C_BadRule = true)
    (nf_BadRule_why : PySem.W.findIn K (.ref C_BadRule) "why" = some none)
    (ha_BadRule : PySem.W.findIn K (.ref C_BadRule) "__class__" = some (some (.builtin "object.__class__")))
    (hn_BadRule : PySem.W.specialIn K (.builtin "object.__class__") "__get__" = some (some (.builtin "getset_descriptor.__get__")))
    (ht_BadRule : PySem.W.takesIn K (.builtin "object.__class__") = some true)
    (ob_BadRule : PySem.W.mroIn K C_BadRule (.type "object") = some true)
    {C_Share : Addr}
    (aC_Share : PySem.W.nsIn K mainGlobals "Share" = some (some (.ref C_Share)))
    (pg_Share : PySem.W.plainGet K C_Share Str.empty = true)
    (hd_Share : PySem.W.hasDictIn K C_Share = true)
    (po_Share : PySem.W.plainOver K C_Share = true)
    (sa_Share : PySem.W.findIn K (.ref C_Share) "__setattr__" = some (some (.builtin "object.__setattr__")))
    (mk_Share : PySem.W.makesIn K C_Share = true)
    (kc_Share : PySem.W.keepIn K (.ref C_Share) = true)
    (ai_Share : PySem.W.findIn K (.ref C_Share) "__init__" = some (some (.ref f_Share_init)))
    (ii_Share : PySem.W.isFn K (.ref f_Share_init) = true)
    (n_Share_num : PySem.W.findIn K (.ref C_Share) "num" = some none)
    (n_Share_over : PySem.W.findIn K (.ref C_Share) "over" = some none)
    (am_Share_plus : PySem.W.findIn K (.ref C_Share) "plus" = some (some (.ref f_Share_plus)))
    (im_Share_plus : PySem.W.isFn K (.ref f_Share_plus) = true)
    {C_Poll : Addr}
    (aC_Poll : PySem.W.nsIn K mainGlobals "Poll" = some (some (.ref C_Poll)))
    (pg_Poll : PySem.W.plainGet K C_Poll Str.empty = true)
    (hd_Poll : PySem.W.hasDictIn K C_Poll = true)
    (po_Poll : PySem.W.plainOver K C_Poll = true)
    (sa_Poll : PySem.W.findIn K (.ref C_Poll) "__setattr__" = some (some (.builtin "object.__setattr__")))
    (mk_Poll : PySem.W.makesIn K C_Poll = true)
    (kc_Poll : PySem.W.keepIn K (.ref C_Poll) = true)
    (ai_Poll : PySem.W.findIn K (.ref C_Poll) "__init__" = some (some (.ref f_Poll_init)))
    (ii_Poll : PySem.W.isFn K (.ref f_Poll_init) = true)
    (n_Poll_options : PySem.W.findIn K (.ref C_Poll) "options" = some none)
    (n_Poll_voices : PySem.W.findIn K (.ref C_Poll) "voices" = some none)
    (sb_BadRule_PollError : PySem.W.subIn K (.ref C_BadRule) (.ref C_PollError) = some true)
    (kt_BadRule_BadRule : PySem.W.kitOne K (.ref C_BadRule) (.ref C_BadRule) = some true)
    (kt_BadRule_BadBallot : PySem.W.kitOne K (.ref C_BadRule) (.ref C_BadBallot) = some false)
    (kt_BadRule_BadOrder : PySem.W.kitOne K (.ref C_BadRule) (.ref C_BadOrder) = some false)
    (kt_BadRule_BadPoll : PySem.W.kitOne K (.ref C_BadRule) (.ref C_BadPoll) = some false)
    (vV : PySem.W.findCls K (.type "ValueError") (.type "type") "__init__" = some (.val (.builtin "ValueError.__init__")))
    (gcd : PySem.W.nsIn K mainGlobals "gcd" = some (some (.builtin "math.gcd")))
    (z_ValueError : PySem.W.nsIn K mainGlobals "ValueError" = some none)
    (z_isinstance : PySem.W.nsIn K mainGlobals "isinstance" = some none)
    (z_bool : PySem.W.nsIn K mainGlobals "bool" = some none)
    (z_int : PySem.W.nsIn K mainGlobals "int" = some none)
    (z_str : PySem.W.nsIn K mainGlobals "str" = some none)
    (z_len : PySem.W.nsIn K mainGlobals "len" = some none)
    (z_all : PySem.W.nsIn K mainGlobals "all" = some none)
    (z_tuple : PySem.W.nsIn K mainGlobals "tuple" = some none)
    (z_enumerate : PySem.W.nsIn K mainGlobals "enumerate" = some none)
    (z_sorted : PySem.W.nsIn K mainGlobals "sorted" = some none)
    (z_set : PySem.W.nsIn K mainGlobals "set" = some none)
    (z_list : PySem.W.nsIn K mainGlobals "list" = some none)
    (z_sum : PySem.W.nsIn K mainGlobals "sum" = some none)
    (z_range : PySem.W.nsIn K mainGlobals "range" = some none)
    (z_dict : PySem.W.nsIn K mainGlobals "dict" = some none)
    (z_abs : PySem.W.nsIn K mainGlobals "abs" = some none)
    (z_zip : PySem.W.nsIn K mainGlobals "zip" = some none)
    {t_LONGEST_NAME : Tok} (cc_LONGEST_NAME : PySem.W.nsIn K mainGlobals "LONGEST_NAME" = some (some (.int 8 t_LONGEST_NAME)))
    {t_MOST_OPTIONS : Tok} (cc_MOST_OPTIONS : PySem.W.nsIn K mainGlobals "MOST_OPTIONS" = some (some (.int 6 t_MOST_OPTIONS)))
    {t_GREATEST_MARK : Tok} (cc_GREATEST_MARK : PySem.W.nsIn K mainGlobals "GREATEST_MARK" = some (some (.int 9 t_GREATEST_MARK)))
    {t_MOST_VOICES : Tok} (cc_MOST_VOICES : PySem.W.nsIn K mainGlobals "MOST_VOICES" = some (some (.int 1000000 t_MOST_VOICES)))
    {t_MOST_ROWS : Tok} (cc_MOST_ROWS : PySem.W.nsIn K mainGlobals "MOST_ROWS" = some (some (.int 30 t_MOST_ROWS)))
    : ∃ fd : FuncData, (∀ (s : Shared) (v : Value), BindsTo s fd ⟨[v], []⟩ [("_law_script", v)]) ∧ ∀ base : Heap, K.In base → base.Ns mainGlobals mg → FnOk l.prog w K mg base CX0 9 fa fd ["_law_script"] (sp_law K) := by
  have e := hfa.symm.trans (PySem.W.mg_of X G a_law)
  cases e
  have F_PollError_init : FunD K "__init__" "PollError.__init__" (defArgs s_PollError_init) (defBody s_PollError_init) (defScope s_PollError_init) [V.str ""] [] f_PollError_init _ := ⟨⟨_, _, _, _, _, _, _, _, _, _, rfl, l_PollError_init, c_PollError_init, .inr ⟨by simp, _, _, [.str "" tk0_PollError_init], _, rfl, lt_PollError_init, rfl, (.cons ⟨_, rfl⟩ Paired.nil)⟩, .inl rfl⟩, k_PollError_init⟩
  obtain ⟨ikb_PollError_init_2, kb_PollError_init_2⟩ := F_PollError_init.kbindsD (ps := ["self", "why"]) 2 [] (fun us its ws => us) (by simp) (fun r1 r2 r3 => r1) (fun _ _ _ _ _ _ _ us its ws l1 l2 l3 => match us, its, ws, l1, l2, l3 with | [_, _], [_], [], _, _, _ => ⟨_, rfl, rfl⟩)
  have F_NoShare_init := fun_mk (st := s_NoShare_init) l_NoShare_init c_NoShare_init k_NoShare_init
  have kb_NoShare_init_2_over : KBn K (PySem.W.fnOf "__init__" "NoShare.__init__" (defArgs s_NoShare_init) (defBody s_NoShare_init) (defScope s_NoShare_init) .none kV_NoShare_init dc_NoShare_init pm_NoShare_init an_NoShare_init cd_NoShare_init ct_NoShare_init) ["self", "num", "over"] 2 ["over"] (fun us ws => us ++ ((ws.drop 0).take 1)) (fun vs zs => vs ++ ((zs.drop 0).take 1)) := ⟨fun s us ws _ l1 l2 => .of_eq (match us, ws, l1, l2 with | [_, _], [_], _, _ => rfl), fun r1 r3 => r1.append (((r3.drop 0).take 1))⟩
  have F_is_whole := fun_mk (st := s_is_whole) l_is_whole c_is_whole k_is_whole
  have b_is_whole := F_is_whole.binds (ps := ["thing"]) fun _ _ _ _ _ _ us hl => match us, hl with | [_], _ => rfl
  have F_is_name := fun_mk (st := s_is_name) l_is_name c_is_name k_is_name
  have b_is_name := F_is_name.binds (ps := ["thing"]) fun _ _ _ _ _ _ us hl => match us, hl with | [_], _ => rfl
  have F_is_tuple_of := fun_mk (st := s_is_tuple_of) l_is_tuple_of c_is_tuple_of k_is_tuple_of
  have b_is_tuple_of := F_is_tuple_of.binds (ps := ["thing", "many"]) fun _ _ _ _ _ _ us hl => match us, hl with | [_, _], _ => rfl
  have F_are_names := fun_mk (st := s_are_names) l_are_names c_are_names k_are_names
  have b_are_names := F_are_names.binds (ps := ["thing"]) fun _ _ _ _ _ _ us hl => match us, hl with | [_], _ => rfl
  have F_are_options := fun_mk (st := s_are_options) l_are_options c_are_options k_are_options
  have b_are_options := F_are_options.binds (ps := ["thing"]) fun _ _ _ _ _ _ us hl => match us, hl with | [_], _ => rfl
  have F_is_option := fun_mk (st := s_is_option) l_is_option c_is_option k_is_option
  have b_is_option := F_is_option.binds (ps := ["options", "thing"]) fun _ _ _ _ _ _ us hl => match us, hl with | [_, _], _ => rfl
  have F_are_unlike_options := fun_mk (st := s_are_unlike_options) l_are_unlike_options c_are_unlike_options k_are_unlike_options
  have b_are_unlike_options := F_are_unlike_options.binds (ps := ["options", "names"]) fun _ _ _ _ _ _ us hl => match us, hl with | [_, _], _ => rfl
  have F_is_mark := fun_mk (st := s_is_mark) l_is_mark c_is_mark k_is_mark
  have b_is_mark := F_is_mark.binds (ps := ["thing"]) fun _ _ _ _ _ _ us hl => match us, hl with | [_], _ => rfl
  have F_are_tiers := fun_mk (st := s_are_tiers) l_are_tiers c_are_tiers k_are_tiers
  have b_are_tiers := F_are_tiers.binds (ps := ["options", "told"]) fun _ _ _ _ _ _ us hl => match us, hl with | [_, _], _ => rfl
  have F_are_marks := fun_mk (st := s_are_marks) l_are_marks c_are_marks k_are_marks
  have b_are_marks := F_are_marks.binds (ps := ["options", "told"]) fun _ _ _ _ _ _ us hl => match us, hl with | [_, _], _ => rfl
  have F_is_ballot := fun_mk (st := s_is_ballot) l_is_ballot c_is_ballot k_is_ballot
  have b_is_ballot := F_is_ballot.binds (ps := ["options", "thing"]) fun _ _ _ _ _ _ us hl => match us, hl with | [_, _], _ => rfl
  have F_is_row := fun_mk (st := s_is_row) l_is_row c_is_row k_is_row
  have b_is_row := F_is_row.binds (ps := ["options", "thing"]) fun _ _ _ _ _ _ us hl => match us, hl with | [_, _], _ => rfl
  have F_check_poll := fun_mk (st := s_check_poll) l_check_poll c_check_poll k_check_poll
  have b_check_poll := F_check_poll.binds (ps := ["options", "voices"]) fun _ _ _ _ _ _ us hl => match us, hl with | [_, _], _ => rfl
  have kb_check_poll_2 : KBn K (PySem.W.fnOf "check_poll" "check_poll" (defArgs s_check_poll) (defBody s_check_poll) (defScope s_check_poll) .none kV_check_poll dc_check_poll pm_check_poll an_check_poll cd_check_poll ct_check_poll) ["options", "voices"] 2 [] (fun us ws => us) (fun vs zs => vs) := ⟨fun s us ws _ l1 l2 => .of_eq (match us, ws, l1, l2 with | [_, _], [], _, _ => rfl), fun r1 r3 => r1⟩
  have F_Poll_init : FunD K "__init__" "Poll.__init__" (defArgs s_Poll_init) (defBody s_Poll_init) (defScope s_Poll_init) [V.ref e_Poll_init] [] f_Poll_init _ := ⟨⟨_, _, _, _, _, _, _, _, _, _, rfl, l_Poll_init, c_Poll_init, .inr ⟨by simp, _, _, [.ref e_Poll_init], _, rfl, lt_Poll_init, rfl, (.cons rfl Paired.nil)⟩, .inl rfl⟩, k_Poll_init⟩
  obtain ⟨ikb_Poll_init_3, kb_Poll_init_3⟩ := F_Poll_init.kbindsD (ps := ["self", "options", "voices"]) 3 [] (fun us its ws => us) (by simp) (fun r1 r2 r3 => r1) (fun _ _ _ _ _ _ _ us its ws l1 l2 l3 => match us, its, ws, l1, l2, l3 with | [_, _, _], [_], [], _, _, _ => ⟨_, rfl, rfl⟩)
  have F_order_ranks := fun_mk (st := s_order_ranks) l_order_ranks c_order_ranks k_order_ranks
  have b_order_ranks := F_order_ranks.binds (ps := ["options", "told"]) fun _ _ _ _ _ _ us hl => match us, hl with | [_, _], _ => rfl
  have F_ranks := fun_mk (st := s_ranks) l_ranks c_ranks k_ranks
  have b_ranks := F_ranks.binds (ps := ["options", "ballot"]) fun _ _ _ _ _ _ us hl => match us, hl with | [_, _], _ => rfl
  have F_tiers := fun_mk (st := s_tiers) l_tiers c_tiers k_tiers
  have b_tiers := F_tiers.binds (ps := ["options", "ballot"]) fun _ _ _ _ _ _ us hl => match us, hl with | [_, _], _ => rfl
  have F_Share_init : FunD K "__init__" "Share.__init__" (defArgs s_Share_init) (defBody s_Share_init) (defScope s_Share_init) [V.int 1] [] f_Share_init _ := ⟨⟨_, _, _, _, _, _, _, _, _, _, rfl, l_Share_init, c_Share_init, .inr ⟨by simp, _, _, [.int 1 tk0_Share_init], _, rfl, lt_Share_init, rfl, (.cons ⟨_, rfl⟩ Paired.nil)⟩, .inl rfl⟩, k_Share_init⟩
  obtain ⟨ikb_Share_init_3, kb_Share_init_3⟩ := F_Share_init.kbindsD (ps := ["self", "num", "over"]) 3 [] (fun us its ws => us) (by simp) (fun r1 r2 r3 => r1) (fun _ _ _ _ _ _ _ us its ws l1 l2 l3 => match us, its, ws, l1, l2, l3 with | [_, _, _], [_], [], _, _, _ => ⟨_, rfl, rfl⟩)
  obtain ⟨ikb_Share_init_2, kb_Share_init_2⟩ := F_Share_init.kbindsD (ps := ["self", "num", "over"]) 2 [] (fun us its ws => us ++ ((its.drop 0).take 1)) (by simp) (fun r1 r2 r3 => r1.append (((r2.drop 0).take 1))) (fun _ _ _ _ _ _ _ us its ws l1 l2 l3 => match us, its, ws, l1, l2, l3 with | [_, _], [_], [], _, _, _ => ⟨_, rfl, rfl⟩)
  have F_Share_plus := fun_mk (st := s_Share_plus) l_Share_plus c_Share_plus k_Share_plus
  have b_Share_plus := F_Share_plus.binds (ps := ["self", "other"]) fun _ _ _ _ _ _ us hl => match us, hl with | [_, _], _ => rfl
  have kb_Share_plus_2 : KBn K (PySem.W.fnOf "plus" "Share.plus" (defArgs s_Share_plus) (defBody s_Share_plus) (defScope s_Share_plus) .none kV_Share_plus dc_Share_plus pm_Share_plus an_Share_plus cd_Share_plus ct_Share_plus) ["self", "other"] 2 [] (fun us ws => us) (fun vs zs => vs) := ⟨fun s us ws _ l1 l2 => .of_eq (match us, ws, l1, l2 with | [_, _], [], _, _ => rfl), fun r1 r3 => r1⟩
  have F_are_weights := fun_mk (st := s_are_weights) l_are_weights c_are_weights k_are_weights
  have b_are_weights := F_are_weights.binds (ps := ["options", "thing"]) fun _ _ _ _ _ _ us hl => match us, hl with | [_, _], _ => rfl
  have F_weighed := fun_mk (st := s_weighed) l_weighed c_weighed k_weighed
  have b_weighed := F_weighed.binds (ps := ["poll", "weights"]) fun _ _ _ _ _ _ us hl => match us, hl with | [_, _], _ => rfl
  have kb_weighed_2 : KBn K (PySem.W.fnOf "weighed" "weighed" (defArgs s_weighed) (defBody s_weighed) (defScope s_weighed) .none kV_weighed dc_weighed pm_weighed an_weighed cd_weighed ct_weighed) ["poll", "weights"] 2 [] (fun us ws => us) (fun vs zs => vs) := ⟨fun s us ws _ l1 l2 => .of_eq (match us, ws, l1, l2 with | [_, _], [], _, _ => rfl), fun r1 r3 => r1⟩
  have F_law_cell_at := fun_mk (st := s_law_cell_at) l_law_cell_at c_law_cell_at k_law_cell_at
  have b_law_cell_at := F_law_cell_at.binds (ps := ["_law_script", "_law_k"]) fun _ _ _ _ _ _ us hl => match us, hl with | [_, _], _ => rfl
  have F_law_well := fun_mk (st := s_law_well) l_law_well c_law_well k_law_well
  have b_law_well := F_law_well.binds (ps := ["_law_cell"]) fun _ _ _ _ _ _ us hl => match us, hl with | [_], _ => rfl
  have F_law_draw := fun_mk (st := s_law_draw) l_law_draw c_law_draw k_law_draw
  have b_law_draw := F_law_draw.binds (ps := ["_law_well_here", "_law_size"]) fun _ _ _ _ _ _ us hl => match us, hl with | [_, _], _ => rfl
  have F_law_one := fun_mk (st := s_law_one) l_law_one c_law_one k_law_one
  have b_law_one := F_law_one.binds (ps := ["_law_well_here", "_law_some"]) fun _ _ _ _ _ _ us hl => match us, hl with | [_, _], _ => rfl
  have F_law_options := fun_mk (st := s_law_options) l_law_options c_law_options k_law_options
  have b_law_options := F_law_options.binds (ps := ["_law_well_here", "_law_size"]) fun _ _ _ _ _ _ us hl => match us, hl with | [_, _], _ => rfl
  have F_law_shuffled := fun_mk (st := s_law_shuffled) l_law_shuffled c_law_shuffled k_law_shuffled
  have b_law_shuffled := F_law_shuffled.binds (ps := ["_law_well_here", "_law_some"]) fun _ _ _ _ _ _ us hl => match us, hl with | [_, _], _ => rfl
  have F_law_tiers_drawn := fun_mk (st := s_law_tiers_drawn) l_law_tiers_drawn c_law_tiers_drawn k_law_tiers_drawn
  have b_law_tiers_drawn := F_law_tiers_drawn.binds (ps := ["_law_well_here", "_law_some"]) fun _ _ _ _ _ _ us hl => match us, hl with | [_, _], _ => rfl
  have F_law_ballot := fun_mk (st := s_law_ballot) l_law_ballot c_law_ballot k_law_ballot
  have b_law_ballot := F_law_ballot.binds (ps := ["_law_well_here", "_law_options_here"]) fun _ _ _ _ _ _ us hl => match us, hl with | [_, _], _ => rfl
  have F_law_rows := fun_mk (st := s_law_rows) l_law_rows c_law_rows k_law_rows
  have b_law_rows := F_law_rows.binds (ps := ["_law_well_here", "_law_options_here", "_law_size"]) fun _ _ _ _ _ _ us hl => match us, hl with | [_, _, _], _ => rfl
  have F_law_high := fun_mk (st := s_law_high) l_law_high c_law_high k_law_high
  have b_law_high := F_law_high.binds (ps := ["_law_options_here", "_law_ballot_here"]) fun _ _ _ _ _ _ us hl => match us, hl with | [_, _], _ => rfl
  have F_law_tiers := fun_mk (st := s_law_tiers) l_law_tiers c_law_tiers k_law_tiers
  have b_law_tiers := F_law_tiers.binds (ps := ["_law_options_here", "_law_ballot_here"]) fun _ _ _ _ _ _ us hl => match us, hl with | [_, _], _ => rfl
  have F_law_lowest := fun_mk (st := s_law_lowest) l_law_lowest c_law_lowest k_law_lowest
  have b_law_lowest := F_law_lowest.binds (ps := ["_law_top", "_law_ground"]) fun _ _ _ _ _ _ us hl => match us, hl with | [_, _], _ => rfl
  have F_law_weights := fun_mk (st := s_law_weights) l_law_weights c_law_weights k_law_weights
  have b_law_weights := F_law_weights.binds (ps := ["_law_well_here", "_law_size"]) fun _ _ _ _ _ _ us hl => match us, hl with | [_, _], _ => rfl
  have F_law_bad := fun_mk (st := s_law_bad) l_law_bad c_law_bad k_law_bad
  have b_law_bad := F_law_bad.binds (ps := ["_law_well_here", "_law_weights_here"]) fun _ _ _ _ _ _ us hl => match us, hl with | [_, _], _ => rfl
  have F_law_due := fun_mk (st := s_law_due) l_law_due c_law_due k_law_due
  have b_law_due := F_law_due.binds (ps := ["_law_drawn", "_law_rows_here", "_law_weights_here"]) fun _ _ _ _ _ _ us hl => match us, hl with | [_, _, _], _ => rfl
  have F_law_refused := fun_mk (st := s_law_refused) l_law_refused c_law_refused k_law_refused
  have b_law_refused := F_law_refused.binds (ps := ["_law_poll", "_law_weights_here"]) fun _ _ _ _ _ _ us hl => match us, hl with | [_, _], _ => rfl
  have F_law := fun_mk (st := s_law) l_law c_law k_law
  have b_law := F_law.binds (ps := ["_law_script"]) fun _ _ _ _ _ _ us hl => match us, hl with | [_], _ => rfl
  have ox_PollError : OexC K C_PollError := ⟨⟨_, _, _, _, _, _, _, _, _, _, _, _, _, _, _, xL_PollError, rfl⟩, sa_PollError, eC_PollError, tC_PollError, kC_PollError⟩
  have ox_NoShare : OexC K C_NoShare := ⟨⟨_, _, _, _, _, _, _, _, _, _, _, _, _, _, _, xL_NoShare, rfl⟩, sa_NoShare, eC_NoShare, tC_NoShare, kC_NoShare⟩
  have ox_BadBallot : OexC K C_BadBallot := ⟨⟨_, _, _, _, _, _, _, _, _, _, _, _, _, _, _, xL_BadBallot, rfl⟩, sa_BadBallot, eC_BadBallot, tC_BadBallot, kC_BadBallot⟩
  have ox_BadOrder : OexC K C_BadOrder := ⟨⟨_, _, _, _, _, _, _, _, _, _, _, _, _, _, _, xL_BadOrder, rfl⟩, sa_BadOrder, eC_BadOrder, tC_BadOrder, kC_BadOrder⟩
  have ox_BadPoll : OexC K C_BadPoll := ⟨⟨_, _, _, _, _, _, _, _, _, _, _, _, _, _, _, xL_BadPoll, rfl⟩, sa_BadPoll, eC_BadPoll, tC_BadPoll, kC_BadPoll⟩
  have ox_BadRule : OexC K C_BadRule := ⟨⟨_, _, _, _, _, _, _, _, _, _, _, _, _, _, _, xL_BadRule, rfl⟩, sa_BadRule, eC_BadRule, tC_BadRule, kC_BadRule⟩
  let T : Txt K mg := {
    f_PollError_init := _, fd_PollError_init := _, F_PollError_init := F_PollError_init, gkb_PollError_init_2 := _, kb_PollError_init_2 := kb_PollError_init_2,
    f_NoShare_init := _, fd_NoShare_init := _, F_NoShare_init := F_NoShare_init, gkb_NoShare_init_2_over := _, kb_NoShare_init_2_over := kb_NoShare_init_2_over,
    f_is_whole := _, fd_is_whole := _, F_is_whole := F_is_whole, b_is_whole := b_is_whole, g_is_whole := PySem.W.mg_of X G a_is_whole,
    f_is_name := _, fd_is_name := _, F_is_name := F_is_name, b_is_name := b_is_name, g_is_name := PySem.W.mg_of X G a_is_name,
    f_is_tuple_of := _, fd_is_tuple_of := _, F_is_tuple_of := F_is_tuple_of, b_is_tuple_of := b_is_tuple_of, g_is_tuple_of := PySem.W.mg_of X G a_is_tuple_of,
    f_are_names := _, fd_are_names := _, F_are_names := F_are_names, b_are_names := b_are_names, g_are_names := PySem.W.mg_of X G a_are_names,
    f_are_options := _, fd_are_options := _, F_are_options := F_are_options, b_are_options := b_are_options, g_are_options := PySem.W.mg_of X G a_are_options,
    f_is_option := _, fd_is_option := _, F_is_option := F_is_option, b_is_option := b_is_option, g_is_option := PySem.W.mg_of X G a_is_option,
    f_are_unlike_options := _, fd_are_unlike_options := _, F_are_unlike_options := F_are_unlike_options, b_are_unlike_options := b_are_unlike_options, g_are_unlike_options := PySem.W.mg_of X G a_are_unlike_options,
    f_is_mark := _, fd_is_mark := _, F_is_mark := F_is_mark, b_is_mark := b_is_mark, g_is_mark := PySem.W.mg_of X G a_is_mark,
    f_are_tiers := _, fd_are_tiers := _, F_are_tiers := F_are_tiers, b_are_tiers := b_are_tiers, g_are_tiers := PySem.W.mg_of X G a_are_tiers,
    f_are_marks := _, fd_are_marks := _, F_are_marks := F_are_marks, b_are_marks := b_are_marks, g_are_marks := PySem.W.mg_of X G a_are_marks,
    f_is_ballot := _, fd_is_ballot := _, F_is_ballot := F_is_ballot, b_is_ballot := b_is_ballot, g_is_ballot := PySem.W.mg_of X G a_is_ballot,
    f_is_row := _, fd_is_row := _, F_is_row := F_is_row, b_is_row := b_is_row, g_is_row := PySem.W.mg_of X G a_is_row,
    f_check_poll := _, fd_check_poll := _, F_check_poll := F_check_poll, b_check_poll := b_check_poll, gkb_check_poll_2 := _, kb_check_poll_2 := kb_check_poll_2, g_check_poll := PySem.W.mg_of X G a_check_poll,
    f_Poll_init := _, fd_Poll_init := _, e_Poll_init := _, F_Poll_init := F_Poll_init, gkb_Poll_init_3 := _, kb_Poll_init_3 := kb_Poll_init_3,
    f_order_ranks := _, fd_order_ranks := _, F_order_ranks := F_order_ranks, b_order_ranks := b_order_ranks, g_order_ranks := PySem.W.mg_of X G a_order_ranks,
    f_ranks := _, fd_ranks := _, F_ranks := F_ranks, b_ranks := b_ranks, g_ranks := PySem.W.mg_of X G a_ranks,
    f_tiers := _, fd_tiers := _, F_tiers := F_tiers, b_tiers := b_tiers, g_tiers := PySem.W.mg_of X G a_tiers,
    f_Share_init := _, fd_Share_init := _, F_Share_init := F_Share_init, gkb_Share_init_3 := _, kb_Share_init_3 := kb_Share_init_3, gkb_Share_init_2 := _, kb_Share_init_2 := kb_Share_init_2,
    f_Share_plus := _, fd_Share_plus := _, F_Share_plus := F_Share_plus, b_Share_plus := b_Share_plus, gkb_Share_plus_2 := _, kb_Share_plus_2 := kb_Share_plus_2,
    f_are_weights := _, fd_are_weights := _, F_are_weights := F_are_weights, b_are_weights := b_are_weights, g_are_weights := PySem.W.mg_of X G a_are_weights,
    f_weighed := _, fd_weighed := _, F_weighed := F_weighed, b_weighed := b_weighed, gkb_weighed_2 := _, kb_weighed_2 := kb_weighed_2, g_weighed := PySem.W.mg_of X G a_weighed,
    f_law_cell_at := _, fd_law_cell_at := _, F_law_cell_at := F_law_cell_at, b_law_cell_at := b_law_cell_at, g_law_cell_at := PySem.W.mg_of X G a_law_cell_at,
    f_law_well := _, fd_law_well := _, F_law_well := F_law_well, b_law_well := b_law_well, g_law_well := PySem.W.mg_of X G a_law_well,
    f_law_draw := _, fd_law_draw := _, F_law_draw := F_law_draw, b_law_draw := b_law_draw, g_law_draw := PySem.W.mg_of X G a_law_draw,
    f_law_one := _, fd_law_one := _, F_law_one := F_law_one, b_law_one := b_law_one, g_law_one := PySem.W.mg_of X G a_law_one,
    f_law_options := _, fd_law_options := _, F_law_options := F_law_options, b_law_options := b_law_options, g_law_options := PySem.W.mg_of X G a_law_options,
    f_law_shuffled := _, fd_law_shuffled := _, F_law_shuffled := F_law_shuffled, b_law_shuffled := b_law_shuffled, g_law_shuffled := PySem.W.mg_of X G a_law_shuffled,
    f_law_tiers_drawn := _, fd_law_tiers_drawn := _, F_law_tiers_drawn := F_law_tiers_drawn, b_law_tiers_drawn := b_law_tiers_drawn, g_law_tiers_drawn := PySem.W.mg_of X G a_law_tiers_drawn,
    f_law_ballot := _, fd_law_ballot := _, F_law_ballot := F_law_ballot, b_law_ballot := b_law_ballot, g_law_ballot := PySem.W.mg_of X G a_law_ballot,
    f_law_rows := _, fd_law_rows := _, F_law_rows := F_law_rows, b_law_rows := b_law_rows, g_law_rows := PySem.W.mg_of X G a_law_rows,
    f_law_high := _, fd_law_high := _, F_law_high := F_law_high, b_law_high := b_law_high, g_law_high := PySem.W.mg_of X G a_law_high,
    f_law_tiers := _, fd_law_tiers := _, F_law_tiers := F_law_tiers, b_law_tiers := b_law_tiers, g_law_tiers := PySem.W.mg_of X G a_law_tiers,
    f_law_lowest := _, fd_law_lowest := _, F_law_lowest := F_law_lowest, b_law_lowest := b_law_lowest, g_law_lowest := PySem.W.mg_of X G a_law_lowest,
    f_law_weights := _, fd_law_weights := _, F_law_weights := F_law_weights, b_law_weights := b_law_weights, g_law_weights := PySem.W.mg_of X G a_law_weights,
    f_law_bad := _, fd_law_bad := _, F_law_bad := F_law_bad, b_law_bad := b_law_bad, g_law_bad := PySem.W.mg_of X G a_law_bad,
    f_law_due := _, fd_law_due := _, F_law_due := F_law_due, b_law_due := b_law_due, g_law_due := PySem.W.mg_of X G a_law_due,
    f_law_refused := _, fd_law_refused := _, F_law_refused := F_law_refused, b_law_refused := b_law_refused, g_law_refused := PySem.W.mg_of X G a_law_refused,
    f_law := _, fd_law := _, F_law := F_law, b_law := b_law, g_law := PySem.W.mg_of X G a_law,
    C_PollError := _, k_PollError := PySem.W.mg_of X G aC_PollError,
    ox_PollError := ox_PollError, ex_PollError := exK_ve ox_PollError ai_PollError ti_PollError,
    xf_PollError := ⟨gt_PollError, gg_PollError, eC_PollError, hC_PollError⟩,
    nf_PollError_why := nf_PollError_why,
    rd_PollError := rd_PollError, ga_PollError := ga_PollError, fc_PollError_init := fc_PollError_init,
    C_NoShare := _, k_NoShare := PySem.W.mg_of X G aC_NoShare,
    ox_NoShare := ox_NoShare, ex_NoShare := exK_ve ox_NoShare ai_NoShare ti_NoShare,
    xf_NoShare := ⟨gt_NoShare, gg_NoShare, eC_NoShare, hC_NoShare⟩,
    nf_NoShare_why := nf_NoShare_why,
    nf_NoShare_num := nf_NoShare_num,
    nf_NoShare_over := nf_NoShare_over,
    C_BadBallot := _, k_BadBallot := PySem.W.mg_of X G aC_BadBallot,
    ox_BadBallot := ox_BadBallot, ex_BadBallot := exK_ve ox_BadBallot ai_BadBallot ti_BadBallot,
    xf_BadBallot := ⟨gt_BadBallot, gg_BadBallot, eC_BadBallot, hC_BadBallot⟩,
    nf_BadBallot_why := nf_BadBallot_why,
    C_BadOrder := _, k_BadOrder := PySem.W.mg_of X G aC_BadOrder,
    ox_BadOrder := ox_BadOrder, ex_BadOrder := exK_ve ox_BadOrder ai_BadOrder ti_BadOrder,
    xf_BadOrder := ⟨gt_BadOrder, gg_BadOrder, eC_BadOrder, hC_BadOrder⟩,
    nf_BadOrder_why := nf_BadOrder_why,
    C_BadPoll := _, k_BadPoll := PySem.W.mg_of X G aC_BadPoll,
    ox_BadPoll := ox_BadPoll, ex_BadPoll := exK_ve ox_BadPoll ai_BadPoll ti_BadPoll,
    xf_BadPoll := ⟨gt_BadPoll, gg_BadPoll, eC_BadPoll, hC_BadPoll⟩,
    nf_BadPoll_why := nf_BadPoll_why,
    C_BadRule := _, k_BadRule := PySem.W.mg_of X G aC_BadRule,
    ox_BadRule := ox_BadRule, ex_BadRule := exK_ve ox_BadRule ai_BadRule ti_BadRule,
    xf_BadRule := ⟨gt_BadRule, gg_BadRule, eC_BadRule, hC_BadRule⟩,
    nf_BadRule_why := nf_BadRule_why,
    ic_BadRule := ⟨gt_BadRule, gg_BadRule, eC_BadRule, hC_BadRule, ha_BadRule, hn_BadRule, ht_BadRule, ob_BadRule⟩,
    C_Share := _, k_Share := PySem.W.mg_of X G aC_Share,
    cl_Share := ⟨pg_Share, hd_Share, po_Share, sa_Share⟩, mk_Share := ⟨mk_Share, ai_Share, ii_Share, kc_Share⟩,
    n_Share_num := n_Share_num,
    n_Share_over := n_Share_over,
    me_Share_plus := ⟨am_Share_plus, im_Share_plus, k_Share_plus⟩,
    C_Poll := _, k_Poll := PySem.W.mg_of X G aC_Poll,
    cl_Poll := ⟨pg_Poll, hd_Poll, po_Poll, sa_Poll⟩, mk_Poll := ⟨mk_Poll, ai_Poll, ii_Poll, kc_Poll⟩,
    n_Poll_options := n_Poll_options,
    n_Poll_voices := n_Poll_voices,
    te_BadRule_PollError := PySem.W.exm_ref eC_PollError hC_PollError tC_PollError sb_BadRule_PollError,
    kt_BadRule_BadRule := kt_BadRule_BadRule,
    kt_BadRule_BadBallot := kt_BadRule_BadBallot,
    kt_BadRule_BadOrder := kt_BadRule_BadOrder,
    kt_BadRule_BadPoll := kt_BadRule_BadPoll,
    vV := vV,
    gcd := PySem.W.mg_of X G gcd,
    z_ValueError := PySem.W.mg_none_of X G z_ValueError,
    z_isinstance := PySem.W.mg_none_of X G z_isinstance,
    z_bool := PySem.W.mg_none_of X G z_bool,
    z_int := PySem.W.mg_none_of X G z_int,
    z_str := PySem.W.mg_none_of X G z_str,
    z_len := PySem.W.mg_none_of X G z_len,
    z_all := PySem.W.mg_none_of X G z_all,
    z_tuple := PySem.W.mg_none_of X G z_tuple,
    z_enumerate := PySem.W.mg_none_of X G z_enumerate,
    z_sorted := PySem.W.mg_none_of X G z_sorted,
    z_set := PySem.W.mg_none_of X G z_set,
    z_list := PySem.W.mg_none_of X G z_list,
    z_sum := PySem.W.mg_none_of X G z_sum,
    z_range := PySem.W.mg_none_of X G z_range,
    z_dict := PySem.W.mg_none_of X G z_dict,
    z_abs := PySem.W.mg_none_of X G z_abs,
    z_zip := PySem.W.mg_none_of X G z_zip,
    t_LONGEST_NAME := t_LONGEST_NAME, c_LONGEST_NAME := PySem.W.mg_of X G cc_LONGEST_NAME,
    t_MOST_OPTIONS := t_MOST_OPTIONS, c_MOST_OPTIONS := PySem.W.mg_of X G cc_MOST_OPTIONS,
    t_GREATEST_MARK := t_GREATEST_MARK, c_GREATEST_MARK := PySem.W.mg_of X G cc_GREATEST_MARK,
    t_MOST_VOICES := t_MOST_VOICES, c_MOST_VOICES := PySem.W.mg_of X G cc_MOST_VOICES,
    t_MOST_ROWS := t_MOST_ROWS, c_MOST_ROWS := PySem.W.mg_of X G cc_MOST_ROWS }
  exact ⟨PySem.W.fnOf "law" "law" (defArgs s_law) (defBody s_law) (defScope s_law) .none kV_law dc_law pm_law an_law cd_law ct_law, fun s v => .of_eq rfl, fun base _ _ => ok_law T⟩
end Own
open PySem PySem.W PyProof.Rows
set_option maxHeartbeats 0 in
theorem PySem.Challenge.cw_voicefold_k22_weights_and_shares_holds : PySem.Challenge.rw_voicefold_k22_weights_and_shares.Holds := by
  w_on; o_law; k_head; (case hw => w_witness2)
  k_fill
  refine L2.walk_of (l := PySem.Challenge.rw_voicefold_k22_weights_and_shares) (n := 63) (k := 9) (x := "_law_script") (CX := fun _ => L2.CX0) (sp := fun w => Own.sp_law _) rfl (by decide) rfl ⟨rfl, by decide, by decide⟩ (fun w h Y => PySem.W.kIn_of Y) ?F (fun _ _ a ns hl _ hS => ⟨a, ns, rfl, hS, hl, fun _ => rfl⟩) (fun _ _ _ _ _ h => h)
  case F =>
    intro w mg fa h KX G hmg
    refine' Own.all_mk KX G hmg ?lt_PollError_init ?l_PollError_init ?c_PollError_init ?k_PollError_init ?l_NoShare_init ?c_NoShare_init ?k_NoShare_init ?a_is_whole ?l_is_whole ?c_is_whole ?k_is_whole ?a_is_name ?l_is_name ?c_is_name ?k_is_name ?a_is_tuple_of ?l_is_tuple_of ?c_is_tuple_of ?k_is_tuple_of ?a_are_names ?l_are_names ?c_are_names ?k_are_names ?a_are_options ?l_are_options ?c_are_options ?k_are_options ?a_is_option ?l_is_option ?c_is_option ?k_is_option ?a_are_unlike_options ?l_are_unlike_options ?c_are_unlike_options ?k_are_unlike_options ?a_is_mark ?l_is_mark ?c_is_mark ?k_is_mark ?a_are_tiers ?l_are_tiers ?c_are_tiers ?k_are_tiers ?a_are_marks ?l_are_marks ?c_are_marks ?k_are_marks ?a_is_ballot ?l_is_ballot ?c_is_ballot ?k_is_ballot ?a_is_row ?l_is_row ?c_is_row ?k_is_row ?a_check_poll ?l_check_poll ?c_check_poll ?k_check_poll ?lt_Poll_init ?l_Poll_init ?c_Poll_init ?k_Poll_init ?a_order_ranks ?l_order_ranks ?c_order_ranks ?k_order_ranks ?a_ranks ?l_ranks ?c_ranks ?k_ranks ?a_tiers ?l_tiers ?c_tiers ?k_tiers ?lt_Share_init ?l_Share_init ?c_Share_init ?k_Share_init ?l_Share_plus ?c_Share_plus ?k_Share_plus ?a_are_weights ?l_are_weights ?c_are_weights ?k_are_weights ?a_weighed ?l_weighed ?c_weighed ?k_weighed ?a_law_cell_at ?l_law_cell_at ?c_law_cell_at ?k_law_cell_at ?a_law_well ?l_law_well ?c_law_well ?k_law_well ?a_law_draw ?l_law_draw ?c_law_draw ?k_law_draw ?a_law_one ?l_law_one ?c_law_one ?k_law_one ?a_law_options ?l_law_options ?c_law_options ?k_law_options ?a_law_shuffled ?l_law_shuffled ?c_law_shuffled ?k_law_shuffled ?a_law_tiers_drawn ?l_law_tiers_drawn ?c_law_tiers_drawn ?k_law_tiers_drawn ?a_law_ballot ?l_law_ballot ?c_law_ballot ?k_law_ballot ?a_law_rows ?l_law_rows ?c_law_rows ?k_law_rows ?a_law_high ?l_law_high ?c_law_high ?k_law_high ?a_law_tiers ?l_law_tiers ?c_law_tiers ?k_law_tiers ?a_law_lowest ?l_law_lowest ?c_law_lowest ?k_law_lowest ?a_law_weights ?l_law_weights ?c_law_weights ?k_law_weights ?a_law_bad ?l_law_bad ?c_law_bad ?k_law_bad ?a_law_due ?l_law_due ?c_law_due ?k_law_due ?a_law_refused ?l_law_refused ?c_law_refused ?k_law_refused ?a_law ?l_law ?c_law ?k_law ?aC_PollError ?xL_PollError ?sa_PollError ?gt_PollError ?gg_PollError ?ai_PollError ?ti_PollError ?kC_PollError ?eC_PollError ?tC_PollError ?hC_PollError ?nf_PollError_why ?rd_PollError ?ga_PollError ?fc_PollError_init ?aC_NoShare ?xL_NoShare ?sa_NoShare ?gt_NoShare ?gg_NoShare ?ai_NoShare ?ti_NoShare ?kC_NoShare ?eC_NoShare ?tC_NoShare ?hC_NoShare ?nf_NoShare_why ?nf_NoShare_num ?nf_NoShare_over ?aC_BadBallot ?xL_BadBallot ?sa_BadBallot ?gt_BadBallot ?gg_BadBallot ?ai_BadBallot ?ti_BadBallot ?kC_BadBallot ?eC_BadBallot ?tC_BadBallot ?hC_BadBallot ?nf_BadBallot_why ?aC_BadOrder ?xL_BadOrder ?sa_BadOrder ?gt_BadOrder ?gg_BadOrder ?ai_BadOrder ?ti_BadOrder ?kC_BadOrder ?eC_BadOrder ?tC_BadOrder ?hC_BadOrder ?nf_BadOrder_why ?aC_BadPoll ?xL_BadPoll ?sa_BadPoll ?gt_BadPoll ?gg_BadPoll ?ai_BadPoll ?ti_BadPoll ?kC_BadPoll ?eC_BadPoll ?tC_BadPoll ?hC_BadPoll ?nf_BadPoll_why ?aC_BadRule ?xL_BadRule ?sa_BadRule ?gt_BadRule ?gg_BadRule ?ai_BadRule ?ti_BadRule ?kC_BadRule ?eC_BadRule ?tC_BadRule ?hC_BadRule ?nf_BadRule_why ?ha_BadRule ?hn_BadRule ?ht_BadRule ?ob_BadRule ?aC_Share ?pg_Share ?hd_Share ?po_Share ?sa_Share ?mk_Share ?kc_Share ?ai_Share ?ii_Share ?n_Share_num ?n_Share_over ?am_Share_plus ?im_Share_plus ?aC_Poll ?pg_Poll ?hd_Poll ?po_Poll ?sa_Poll ?mk_Poll ?kc_Poll ?ai_Poll ?ii_Poll ?n_Poll_options ?n_Poll_voices ?sb_BadRule_PollError ?kt_BadRule_BadRule ?kt_BadRule_BadBallot ?kt_BadRule_BadOrder ?kt_BadRule_BadPoll ?vV ?gcd ?z_ValueError ?z_isinstance ?z_bool ?z_int ?z_str ?z_len ?z_all ?z_tuple ?z_enumerate ?z_sorted ?z_set ?z_list ?z_sum ?z_range ?z_dict ?z_abs ?z_zip ?cc_LONGEST_NAME ?cc_MOST_OPTIONS ?cc_GREATEST_MARK ?cc_MOST_VOICES ?cc_MOST_ROWS
    (case a_is_whole => k_is); (case a_is_name => k_is); (case a_is_tuple_of => k_is); (case a_are_names => k_is); (case a_are_options => k_is); (case a_is_option => k_is); (case a_are_unlike_options => k_is); (case a_is_mark => k_is); (case a_are_tiers => k_is); (case a_are_marks => k_is); (case a_is_ballot => k_is); (case a_is_row => k_is); (case a_check_poll => k_is); (case a_order_ranks => k_is); (case a_ranks => k_is); (case a_tiers => k_is); (case a_are_weights => k_is); (case a_weighed => k_is); (case a_law_cell_at => k_is); (case a_law_well => k_is); (case a_law_draw => k_is); (case a_law_one => k_is); (case a_law_options => k_is); (case a_law_shuffled => k_is); (case a_law_tiers_drawn => k_is); (case a_law_ballot => k_is); (case a_law_rows => k_is); (case a_law_high => k_is); (case a_law_tiers => k_is); (case a_law_lowest => k_is); (case a_law_weights => k_is); (case a_law_bad => k_is); (case a_law_due => k_is); (case a_law_refused => k_is); (case a_law => k_is); (case aC_PollError => k_is); (case aC_NoShare => k_is); (case aC_BadBallot => k_is); (case aC_BadOrder => k_is); (case aC_BadPoll => k_is); (case aC_BadRule => k_is); (case aC_Share => k_is); (case aC_Poll => k_is); (case ai_PollError => k_is); (case ai_NoShare => k_is); (case ai_BadBallot => k_is); (case ai_BadOrder => k_is); (case ai_BadPoll => k_is); (case ai_BadRule => k_is); (case ai_Share => k_is); (case am_Share_plus => k_is); (case ai_Poll => k_is); (case l_PollError_init => k_is); (case l_NoShare_init => k_is); (case l_is_whole => k_is); (case l_is_name => k_is); (case l_is_tuple_of => k_is); (case l_are_names => k_is); (case l_are_options => k_is); (case l_is_option => k_is); (case l_are_unlike_options => k_is); (case l_is_mark => k_is); (case l_are_tiers => k_is); (case l_are_marks => k_is); (case l_is_ballot => k_is); (case l_is_row => k_is); (case l_check_poll => k_is); (case l_Poll_init => k_is); (case l_order_ranks => k_is); (case l_ranks => k_is); (case l_tiers => k_is); (case l_Share_init => k_is); (case l_Share_plus => k_is); (case l_are_weights => k_is); (case l_weighed => k_is); (case l_law_cell_at => k_is); (case l_law_well => k_is); (case l_law_draw => k_is); (case l_law_one => k_is); (case l_law_options => k_is); (case l_law_shuffled => k_is); (case l_law_tiers_drawn => k_is); (case l_law_ballot => k_is); (case l_law_rows => k_is); (case l_law_high => k_is); (case l_law_tiers => k_is); (case l_law_lowest => k_is); (case l_law_weights => k_is); (case l_law_bad => k_is); (case l_law_due => k_is); (case l_law_refused => k_is); (case l_law => k_is); (case xL_PollError => k_is); (case xL_NoShare => k_is); (case xL_BadBallot => k_is); (case xL_BadOrder => k_is); (case xL_BadPoll => k_is); (case xL_BadRule => k_is); (case lt_PollError_init => k_is); (case lt_Poll_init => k_is); (case lt_Share_init => k_is); (case c_PollError_init => k_is); (case k_PollError_init => k_is); (case c_NoShare_init => k_is); (case k_NoShare_init => k_is); (case c_is_whole => k_is); (case k_is_whole => k_is); (case c_is_name => k_is); (case k_is_name => k_is); (case c_is_tuple_of => k_is); (case k_is_tuple_of => k_is); (case c_are_names => k_is); (case k_are_names => k_is); (case c_are_options => k_is); (case k_are_options => k_is); (case c_is_option => k_is); (case k_is_option => k_is); (case c_are_unlike_options => k_is); (case k_are_unlike_options => k_is); (case c_is_mark => k_is); (case k_is_mark => k_is); (case c_are_tiers => k_is); (case k_are_tiers => k_is); (case c_are_marks => k_is); (case k_are_marks => k_is); (case c_is_ballot => k_is); (case k_is_ballot => k_is); (case c_is_row => k_is); (case k_is_row => k_is); (case c_check_poll => k_is); (case k_check_poll => k_is); (case c_Poll_init => k_is); (case k_Poll_init => k_is); (case c_order_ranks => k_is); (case k_order_ranks => k_is); (case c_ranks => k_is); (case k_ranks => k_is); (case c_tiers => k_is); (case k_tiers => k_is); (case c_Share_init => k_is); (case k_Share_init => k_is); (case c_Share_plus => k_is); (case k_Share_plus => k_is); (case c_are_weights => k_is); (case k_are_weights => k_is); (case c_weighed => k_is); (case k_weighed => k_is); (case c_law_cell_at => k_is); (case k_law_cell_at => k_is); (case c_law_well => k_is); (case k_law_well => k_is); (case c_law_draw => k_is); (case k_law_draw => k_is); (case c_law_one => k_is); (case k_law_one => k_is); (case c_law_options => k_is); (case k_law_options => k_is); (case c_law_shuffled => k_is); (case k_law_shuffled => k_is); (case c_law_tiers_drawn => k_is); (case k_law_tiers_drawn => k_is); (case c_law_ballot => k_is); (case k_law_ballot => k_is); (case c_law_rows => k_is); (case k_law_rows => k_is); (case c_law_high => k_is); (case k_law_high => k_is); (case c_law_tiers => k_is); (case k_law_tiers => k_is); (case c_law_lowest => k_is); (case k_law_lowest => k_is); (case c_law_weights => k_is); (case k_law_weights => k_is); (case c_law_bad => k_is); (case k_law_bad => k_is); (case c_law_due => k_is); (case k_law_due => k_is); (case c_law_refused => k_is); (case k_law_refused => k_is); (case c_law => k_is); (case k_law => k_is); (case sa_PollError => k_is); (case gt_PollError => k_is); (case gg_PollError => k_is); (case ti_PollError => k_is); (case kC_PollError => k_is); (case eC_PollError => k_is); (case tC_PollError => k_is); (case hC_PollError => k_is); (case nf_PollError_why => first | k_is | rfl | decide +kernel); (case rd_PollError => k_is); (case ga_PollError => k_is); (case fc_PollError_init => first | k_is | rfl | decide +kernel); (case sa_NoShare => k_is); (case gt_NoShare => k_is); (case gg_NoShare => k_is); (case ti_NoShare => k_is); (case kC_NoShare => k_is); (case eC_NoShare => k_is); (case tC_NoShare => k_is); (case hC_NoShare => k_is); (case nf_NoShare_why => first | k_is | rfl | decide +kernel); (case nf_NoShare_num => first | k_is | rfl | decide +kernel); (case nf_NoShare_over => first | k_is | rfl | decide +kernel); (case sa_BadBallot => k_is); (case gt_BadBallot => k_is); (case gg_BadBallot => k_is); (case ti_BadBallot => k_is); (case kC_BadBallot => k_is); (case eC_BadBallot => k_is); (case tC_BadBallot => k_is); (case hC_BadBallot => k_is); (case nf_BadBallot_why => first | k_is | rfl | decide +kernel); (case sa_BadOrder => k_is); (case gt_BadOrder => k_is); (case gg_BadOrder => k_is); (case ti_BadOrder => k_is); (case kC_BadOrder => k_is); (case eC_BadOrder => k_is); (case tC_BadOrder => k_is); (case hC_BadOrder => k_is); (case nf_BadOrder_why => first | k_is | rfl | decide +kernel); (case sa_BadPoll => k_is); (case gt_BadPoll => k_is); (case gg_BadPoll => k_is); (case ti_BadPoll => k_is); (case kC_BadPoll => k_is); (case eC_BadPoll => k_is); (case tC_BadPoll => k_is); (case hC_BadPoll => k_is); (case nf_BadPoll_why => first | k_is | rfl | decide +kernel); (case sa_BadRule => k_is); (case gt_BadRule => k_is); (case gg_BadRule => k_is); (case ti_BadRule => k_is); (case kC_BadRule => k_is); (case eC_BadRule => k_is); (case tC_BadRule => k_is); (case hC_BadRule => k_is); (case nf_BadRule_why => first | k_is | rfl | decide +kernel); (case ha_BadRule => k_is); (case hn_BadRule => k_is); (case ht_BadRule => first | k_is | rfl | decide +kernel); (case ob_BadRule => k_is); (case pg_Share => k_is); (case hd_Share => k_is); (case po_Share => k_is); (case sa_Share => k_is); (case mk_Share => k_is); (case kc_Share => k_is); (case ii_Share => k_is); (case n_Share_num => k_is); (case n_Share_over => k_is); (case im_Share_plus => k_is); (case pg_Poll => k_is); (case hd_Poll => k_is); (case po_Poll => k_is); (case sa_Poll => k_is); (case mk_Poll => k_is); (case kc_Poll => k_is); (case ii_Poll => k_is); (case n_Poll_options => k_is); (case n_Poll_voices => k_is); (case sb_BadRule_PollError => first | k_is | rfl | decide +kernel); (case kt_BadRule_BadRule => first | k_is | rfl | decide +kernel); (case kt_BadRule_BadBallot => first | k_is | rfl | decide +kernel); (case kt_BadRule_BadOrder => first | k_is | rfl | decide +kernel); (case kt_BadRule_BadPoll => first | k_is | rfl | decide +kernel); (case vV => first | k_is | rfl | decide +kernel); (case gcd => k_is); (case z_ValueError => k_is); (case z_isinstance => k_is); (case z_bool => k_is); (case z_int => k_is); (case z_str => k_is); (case z_len => k_is); (case z_all => k_is); (case z_tuple => k_is); (case z_enumerate => k_is); (case z_sorted => k_is); (case z_set => k_is); (case z_list => k_is); (case z_sum => k_is); (case z_range => k_is); (case z_dict => k_is); (case z_abs => k_is); (case z_zip => k_is); (case cc_LONGEST_NAME => k_is); (case cc_MOST_OPTIONS => k_is); (case cc_GREATEST_MARK => k_is); (case cc_MOST_VOICES => k_is); (case cc_MOST_ROWS => k_is)
