import PyProof.Rows.All
import Wide.All
import OpenK.AllK
import Wide.FinOn
import HandS.ForMost
import HandS.Wide
import HandS.IsInst
import HandS.Style
import HandS.Walk
import HandS.LawCells
import HandS.TupAny
import HandS.Deep
import HandS.Strs
import HandS.DictComp
import HandS.ListItems
import HandS.DictTup
import HandS.Lambda
import HandS.EndBits
import HandS.EndTab
import HandS.ForExc
import HandS.Defaults
import HandS.ExcInit
import HandS.CallSlots
import HandS.ExcIs
import HandS.ExcField
import HandS.MakeKw
import HandS.FStr
import HandS.RaiseMore
import HandS.SetFor
import HandS.Base
import HandS.Dict
import HandS.Finally
import PyProof.ReprLen
import KE.KExcIs
import KE.KCallOwn
import KE.KDictList
import KE.KDictPairs
import KE.DataEq
import PySem.Challenge.RW_voicefold_k21_counts_one_by_one
set_option Elab.async false
set_option linter.all false
set_option maxRecDepth 100000
set_option maxHeartbeats 4000000
/-! Own rules: exceptions of own classes made with keywords, in any place; calls with keywords that may raise. -/
namespace PySem
namespace OwnK
open PySem.W PySem.Calls PyProof.Rows PySem.HandSPX
section
variable {M : Model} {A : Around} {E : Value → Shared → Prop} {h : Heap} {g : Array GenState} {d : Drawn} {t : Nat} {os : OsState}
variable {nm q : Str} {C N : Addr} {bs bm bmB : List Value} {hd : Bool} {sn : List Str} {sub : List Value} {ab : Bool} {col : Option Bool} {dd : Option Addr} {k0 k1 k2 k3 k5 : Option Value} {B newId initId : String}
/-- the look ahead of the base's __new__, keywords or none -/
theorem newLook (F : ExcBaseFacts B newId initId bmB) (hT : bm.contains (.type B) = true ∧ bm.contains (.type "AttributeError") = false ∧ bm.contains (.type "NameError") = false) {rest : List Value} {kw : List (Str × Value)} {Q : Unit → Shared → Prop}
    (hC : h.get? C = some (excClassObj nm q C N bs bm hd sn sub ab col dd k0 k1 k2 k3 k5 newId)) (z : Q () ⟨h, g, d, t, os⟩) : wpAny M A (checkBuiltinCall newId ⟨.ref C :: rest, kw⟩) Q E ⟨h, g, d, t, os⟩ := by
  have hB : (Value.ref C :: bm).contains (.type B) = true := by
    rw [List.contains_cons, hT.1]
    exact Bool.or_true _
  have st := F.noStar
  simp only [checkBuiltinCall, F.newKind, F.newSplit, F.newRow]
  repeat (first
    | refine wpAny_loadPart_at hC ?_
    | (refine wpAny_isSubtype_exc hC ?_; rw [hB])
    | refine wpAny_staticBase_exc hC ?_
    | refine wpAny_madeBy_exc hC ?_
    | simp only [bne_self_eq_false, Bool.false_eq_true, if_false]
    | wp_step)
  exact z
end
section
variable {prog : Program} {w : World} {A : Around} {E : Value → Shared → Prop} {R : Result → Shared → Prop} {h : Heap} {g : Array GenState} {d : Drawn} {t : Nat} {os : OsState}
variable {nm q : Str} {C N : Addr} {bs bm bmB : List Value} {hd : Bool} {sn : List Str} {sub : List Value} {ab : Bool} {col : Option Bool} {dd : Option Addr} {k0 k1 k2 k3 k5 : Option Value} {B newId initId : String}
theorem newRun (F : ExcBaseFacts B newId initId bmB) (hT : bm.contains (.type B) = true ∧ bm.contains (.type "AttributeError") = false ∧ bm.contains (.type "NameError") = false) {rest : List Value} {kw : List (Str × Value)}
    (hC : h.get? C = some (excClassObj nm q C N bs bm hd sn sub ab col dd k0 k1 k2 k3 k5 newId))
    (z : R (.ok (.ret (.ref (h.objs.size + 1)))) ⟨(h.push (kdv_tup rest)).push (excO C h.objs.size), g, d, t, os⟩) (hr : rest.length ≤ sizeLine) :
    codeAny (model prog w) A (.builtin newId ⟨.ref C :: rest, kw⟩) R ⟨h, g, d, t, os⟩ := by
  have en := F.ends
  have hB : (Value.ref C :: bm).contains (.type B) = true := by
    rw [List.contains_cons, hT.1]
    exact Bool.or_true _
  have hA : (Value.ref C :: bm).contains (.type "AttributeError") = false := by
    rw [List.contains_cons, hT.2.1] <;> rfl
  have hN : (Value.ref C :: bm).contains (.type "NameError") = false := by
    rw [List.contains_cons, hT.2.2] <;> rfl
  refine codeAny_builtinAt F.entry ?_
  unfold Builtin.«BaseException.__new__»
  refine wpAt_bind ?_
  show wpAt _ _ _ (stack >>= _) _ _ _
  refine wpAt_bind (wpAt_stack fun p below => wpAt_of_wpAny ?_)
  wp_walk
  refine wpAt_of_wpAny ?_
  rw [F.owner]
  repeat (first
    | with_reducible refine wpAny_madeHere_exc F.canon hC ?_
    | with_reducible refine wpAny_loadPart_at hC ?_
    | (with_reducible refine wpAny_isSubtype_exc hC ?_; first | rw [hB] | rw [hA] | rw [hN])
    | wp_step)
  show R _ _
  rw [Heap.size_push]
  exact z
/-- the base's type.__call__, then the own __init__ -/
theorem typeCallRun (F : ExcBaseFacts B newId initId bmB) (hT : bm.contains (.type B) = true ∧ bm.contains (.type "AttributeError") = false ∧ bm.contains (.type "NameError") = false) {rest : List Value} {kw : List (Str × Value)} {fI : Addr} {Q : Fin → Shared → Prop}
    (hC : h.get? C = some (excClassObj nm q C N bs bm hd sn sub ab col dd k0 k1 k2 k3 k5 newId))
    (hi : Looks (model prog w) h (typeLookup (.ref C) "__init__") (some (.ref fI))) (hb : ∀ self, Looks (model prog w) h (bindSpecial (.ref fI) self) (.ref fI, [self])) (hr : rest.length ≤ sizeLine)
    (z : codeAny (model prog w) A (.call (.ref fI) ⟨.ref (h.objs.size + 1) :: rest, kw⟩)
      (fun r s' => match r with | .ok (.ret v) => v = .none ∧ Q (.done (.ret (.ref (h.objs.size + 1)))) s' | .ok _ => False | .error e => E e s')
      ⟨(h.push (kdv_tup rest)).push (excO C h.objs.size), g, d, t, os⟩) :
    wpAny (model prog w) A (Builtin.«type.__call__» ⟨.ref C :: rest, kw⟩) Q E ⟨h, g, d, t, os⟩ := by
  repeat (first
    | with_reducible refine wpAny_loadPart_at hC ?_
    | with_reducible refine wpAny_madeBy_exc hC ?_
    | wp_step)
  refine codeAny_call_builtin_code (Code.quiet_builtin _ F.quiet) (newLook F hT hC ?_)
  refine newRun F hT hC ?_ hr
  show wpAny _ _ _ _ _ _
  have kk : ∀ b o, h.get? b = some o → ((h.push (kdv_tup rest)).push (excO C h.objs.size)).get? b = some o := fun b o e => Heap.get?_push_of_some _ (Heap.get?_push_of_some _ e)
  have hC1 := kk _ _ hC
  have hx : ((h.push (kdv_tup rest)).push (excO C h.objs.size)).get? (h.objs.size + 1) = some (excO C h.objs.size) := by heap_get
  have hs : (Value.ref C :: bm).contains (.ref C) = true := by simp
  have i1 := hi.keeps kk
  have b1 := (hb (.ref (h.objs.size + 1))).keeps kk
  unfold isInstance
  repeat (first
    | with_reducible refine wpAny_loadPart_at hx ?_
    | (with_reducible refine wpAny_isSubtype_exc hC1 ?_; rw [hs])
    | wp_step)
  show wpAny _ _ (typeLookup (.ref C) _) _ _ _
  refine i1.at (wpAny_holding (wpAny_bind (b1.at ?_)))
  refine wpAny_bind (wpAny_call (codeAny_mono z fun r s' y => ?_))
  rcases r with e | fl
  · exact y
  cases fl with
  | ret v =>
    obtain ⟨rfl, y⟩ := y
    first
    | exact wpAny_pure (wpAny_pure y)
    | (wp_walk; exact y)
  | next => exact y.elim
  | brk => exact y.elim
  | cont => exact y.elim
theorem excCall (F : ExcBaseFacts B newId initId bmB) (hT : bm.contains (.type B) = true ∧ bm.contains (.type "AttributeError") = false ∧ bm.contains (.type "NameError") = false) {rest : List Value} {kw : List (Str × Value)} {fI : Addr}
    (hC : h.get? C = some (excClassObj nm q C N bs bm hd sn sub ab col dd k0 k1 k2 k3 k5 newId))
    (hi : Looks (model prog w) h (typeLookup (.ref C) "__init__") (some (.ref fI))) (hb : ∀ self, Looks (model prog w) h (bindSpecial (.ref fI) self) (.ref fI, [self])) (hr : rest.length ≤ sizeLine)
    (z : codeAny (model prog w) (A.under (.builtin "type.__call__" ⟨.ref C :: rest, kw⟩)) (.call (.ref fI) ⟨.ref (h.objs.size + 1) :: rest, kw⟩) (InitBack (h.objs.size + 1) R)
      ⟨(h.push (kdv_tup rest)).push (excO C h.objs.size), g, d, t, os⟩) :
    codeAny (model prog w) A (.call (.ref C) ⟨rest, kw⟩) R ⟨h, g, d, t, os⟩ := by
  have f1 := tc_lookup
  have f2 := tc_bind (.ref C)
  have ty : (⟨h, g, d, t, os⟩ : Shared).TypeIs (.ref C) "type" := ⟨_, hC, rfl⟩
  refine codeAny_of_tree ?_
  show wpAny _ _ (callAny (.ref C) _) _ _ _
  repeat (any_goals (first
    | assumption
    | with_reducible refine wpAny_loadPart_at hC ?_
    | wp_step))
  refine ⟨rfl, ?_⟩
  have look : ∀ {Q : Unit → Shared → Prop} {E : Value → Shared → Prop} {A : Around}, Q () ⟨h, g, d, t, os⟩ → wpAny (model prog w) A (checkBuiltinCall "type.__call__" ⟨.ref C :: rest, kw⟩) Q E ⟨h, g, d, t, os⟩ := by
    intro Q E A hq
    have f3 := tc_sub
    simp only [checkBuiltinCall, tc_kind, tc_split]
    repeat (any_goals (first
      | assumption
      | with_reducible refine wpAny_loadPart_at hC ?_
      | with_reducible refine wpAny_onRaise ?_
      | with_reducible refine wpAny_map ?_
      | wp_step))
  refine codeAny_call_builtin_at (Code.quiet_builtin _ (by decide +kernel)) entry_typeCall (look (typeCallRun F hT hC hi hb hr ?_))
  refine codeAny_mono z fun r s' y => ?_
  rcases r with e | (v | _ | _ | _) <;> exact y
end
end OwnK
end PySem

namespace Own
open PySem PySem.Spec PyProof.Rows L2
/-! ### calls of any form: positional values and keywords bound by KBn; what is raised is wished for at the caller's slots -/
theorem at0 {X : Cx} (σ : L2.St) : PassesAt CX0 X σ E0 := fun _ _ _ _ _ _ z => z.elim
theorem atE {X : Cx} {W : WX} (tk : Takes X W) (σ : L2.St) : PassesAt (L2.CX X.prog X.w) X σ (WE W σ) := passAt tk σ
theorem atN {X : Cx} (σ : L2.St) : PassesAt (L2.CX X.prog X.w) X σ E0 := fun _ _ _ _ _ _ z => by
  obtain ⟨_, _, _, _, _, _, _, _, _, _, _, _, y⟩ := z
  exact y.elim
section
variable {X : Cx} {CX : CXT} {k n : Nat} {f C : Addr} {fd : FuncData} {ps ks : List Str} {sp : Sp} {E : L2.St → XK} {E1 : XK} {x m : Str} {p pos apos : Pos} {e o : Expr} {es : List Expr} {kws : List Keyword} {t tk : TA} {to : TE}
variable {g : List Value → List Value → List Value} {gV : List V → List V → List V} {pins : List (Addr × Obj)} {σ : L2.St} {H : Hp} {s : Shared} {Q : VK} {us ws : List Value} {vs zs : List V}
theorem runF (F : FnOk X.prog X.w X.K X.mg X.base CX k f fd ps sp) (hr : Room k X.A) (hb : KBn X.K fd ps n ks g gV) (hx : PassesAt CX X σ E1) (I : Inv X pins σ H s) (r : Vals vs us) (rz : Vals zs ws) (l1 : vs.length = n) (l2 : zs.length = ks.length)
    (h : sp (gV vs zs) H Q E1) : wpAny (model X.prog X.w) X.A (call (.ref f) us (ks.zip ws)) (EP X pins σ Q) X.xe s := by
  have b := hb.to s us ws I.kIn (r.length.symm.trans l1) (rz.length.symm.trans l2)
  refine wpAny_call (codeAny_mono (F.run X.A X.stack s H _ (g us ws) (gV vs zs) Q E1 hr I.env0 b (hb.rel r rz) h) fun r s' y => ?_)
  cases r with
  | error e => exact hx pins H s e s' I y
  | ok fl =>
    cases fl with
    | ret u => exact I.after y
    | next => exact y.elim
    | brk => exact y.elim
    | cont => exact y.elim
theorem runM (M : Mk X.K C f) (F : FnOk X.prog X.w X.K X.mg X.base CX k f fd ps sp) (hr : Room (k + 1) X.A) (hb : KBn X.K fd ps (n + 1) ks g gV) (hx : PassesAt CX X σ E1) (I : Inv X pins σ H s) (r : Vals vs us) (rz : Vals zs ws) (l1 : vs.length = n) (l2 : zs.length = ks.length)
    (h : ∀ a dx, H a = none → H dx = none → dx ≠ a → sp (gV (.ref a :: vs) zs) (upd (upd H dx (.own a)) a (.ins C dx [])) (fun v H2 => v = .non ∧ Q (.ref a) H2) E1) :
    wpAny (model X.prog X.w) X.A (call (.ref C) us (ks.zip ws)) (EP X pins σ Q) X.xe s := by
  have hq := h (s.heap.objs.size + 1) s.heap.objs.size (I.hok.fresh (Nat.le_succ _)) (I.hok.fresh (Nat.le_refl _)) (Nat.ne_of_lt (Nat.lt_succ_self _))
  have J := Inv.made (C := C) I
  have r1 : Vals (V.ref (s.heap.objs.size + 1) :: vs) (Value.ref (s.heap.objs.size + 1) :: us) := .cons rfl r
  have n1 : (Value.ref (s.heap.objs.size + 1) :: us).length = n + 1 := r1.length.symm.trans (congrArg Nat.succ l1)
  have b := hb.to _ (Value.ref (s.heap.objs.size + 1) :: us) ws J.kIn n1 (rz.length.symm.trans l2)
  refine wpAny_call (make_map (f := f) I.kIn M.makes M.init (beq_iff_eq.mp M.fn) (codeAny_mono (F.run _ X.stack _ _ _ _ _ _ E1 (hr.make C us (ks.zip ws)) (J.env0.make C us (ks.zip ws)) b (hb.rel r1 rz) hq) fun r s' y => ?_))
  cases r with
  | error e => exact hx pins _ _ e s' J y
  | ok fl =>
    cases fl with
    | ret u =>
      obtain ⟨v, H', I3, rv, ev, q3⟩ := J.after y
      subst ev
      exact ⟨rv, ⟨V.ref (s.heap.objs.size + 1), H', I3, rfl, q3⟩⟩
    | next => exact y.elim
    | brk => exact y.elim
    | cont => exact y.elim
/-- f(e, .., k = v, ..) -/
def tFn (n m : Nat) (sp : Sp) (gV : List V → List V → List V) (E : L2.St → XK) (t tk : TA) : TE := fun σ H Q => t σ H fun vs H1 => tk σ H1 fun zs H2 => vs.length = n ∧ zs.length = m ∧ sp (gV vs zs) H2 Q (E σ)
theorem pf_pos (F : FnOk X.prog X.w X.K X.mg X.base CX k f fd ps sp) (hr : Room k X.A) (hg : Gl X x) (hm : X.mg x = some (.ref f)) (hk : PySem.W.keepIn X.K (.ref f) = true) (hb : KBn X.K fd ps n [] g gV) (hx : ∀ σ, PassesAt CX X σ (E σ)) (ha : PA X (e :: es) t)
    (hdb : (x == ("__debug__" : Str)) = false := by decide) (he : starEach (e :: es) X.env = (false, eval e X.env) :: starEach es X.env := by rfl) (hpl : (backTo pos (starEach es X.env)).any (·.1) = false := by rfl) :
    PE X (.Call (.Name x p) (e :: es) [] pos) (tFn n 0 sp gV E t tNil) := by
  refine ⟨fun pins s σ H Q I h => wpAny_Call_Name_kw (ld_glob I hg hm ?_ hdb)⟩
  exact PySem.W.callWith_K (h₀ := X.base) I.ok.mod.kin hk (thn (ha.run pos pins s σ H _ I h) fun us s1 ⟨vs, H1, I1, r, l1, l2, q⟩ => ⟨I1.kIn, runF (ks := []) F hr hb (hx σ) I1 r (.nil : Vals [] []) l1 rfl q⟩) he hpl
theorem pf_both (F : FnOk X.prog X.w X.K X.mg X.base CX k f fd ps sp) (hr : Room k X.A) (hg : Gl X x) (hm : X.mg x = some (.ref f)) (hk : PySem.W.keepIn X.K (.ref f) = true) (hb : KBn X.K fd ps n ks g gV) (hx : ∀ σ, PassesAt CX X σ (E σ)) (ha : PA X (e :: es) t) (hkw : PK X kws tk)
    (hall : (backToKw pos (keywordEach kws X.env)).all (·.1.isSome) = true := by rfl) (hks : (backToKw pos (keywordEach kws X.env)).filterMap (·.1) = ks := by rfl) (hdb : (x == ("__debug__" : Str)) = false := by decide)
    (he : starEach (e :: es) X.env = (false, eval e X.env) :: starEach es X.env := by rfl) (hpl : ((backTo pos (starEach (e :: es) X.env)).any (·.1) || (backToKw pos (keywordEach kws X.env)).any (·.1.isNone)) = false := by rfl) :
    PE X (.Call (.Name x p) (e :: es) kws pos) (tFn n ks.length sp gV E t tk) := by
  refine ⟨fun pins s σ H Q I h => wpAny_Call_Name_kw (ld_glob I hg hm ?_ hdb)⟩
  refine PySem.W.callWith_KW (h₀ := X.base) I.ok.mod.kin hk hall (thn (ha.run pos pins s σ H _ I h) fun us s1 ⟨vs, H1, I1, r, q⟩ => ?_) hpl he
  refine thn (hkw.run pos pins s1 σ H1 _ I1 q) fun ws s2 ⟨zs, H2, I2, rz, l1, l2, q2⟩ => ⟨I2.kIn, ?_⟩
  rw [hks]
  exact runF F hr hb (hx σ) I2 r rz l1 l2 q2
theorem pf_kw (F : FnOk X.prog X.w X.K X.mg X.base CX k f fd ps sp) (hr : Room k X.A) (hg : Gl X x) (hm : X.mg x = some (.ref f)) (hk : PySem.W.keepIn X.K (.ref f) = true) (hb : KBn X.K fd ps 0 ks g gV) (hx : ∀ σ, PassesAt CX X σ (E σ)) (hkw : PK X kws tk)
    (hall : (backToKw pos (keywordEach kws X.env)).all (·.1.isSome) = true := by rfl) (hks : (backToKw pos (keywordEach kws X.env)).filterMap (·.1) = ks := by rfl) (hdb : (x == ("__debug__" : Str)) = false := by decide)
    (hpl : ((backTo pos (starEach [] X.env)).any (·.1) || (backToKw pos (keywordEach kws X.env)).any (·.1.isNone)) = false := by rfl) :
    PE X (.Call (.Name x p) [] kws pos) (tFn 0 ks.length sp gV E tNil tk) := by
  refine ⟨fun pins s σ H Q I h => wpAny_Call_Name_kw (ld_glob I hg hm ?_ hdb)⟩
  refine PySem.W.callWith_KW0 (h₀ := X.base) I.ok.mod.kin hk hall ?_ hpl
  refine thn (hkw.run pos pins s σ H _ I h) fun ws s2 ⟨zs, H2, I2, rz, l1, l2, q2⟩ => ⟨I2.kIn, ?_⟩
  rw [hks]
  exact runF (us := []) (vs := []) F hr hb (hx σ) I2 .nil rz rfl l2 q2
/-- o.m(e, .., k = v, ..) -/
def tMt (C : Addr) (m : Str) (n j : Nat) (sp : Sp) (gV : List V → List V → List V) (E : L2.St → XK) (to : TE) (t tk : TA) : TE := fun σ H Q => to σ H fun x H0 => ∃ a dx fs, x = .ref a ∧ H0 a = some (.ins C dx fs) ∧ fs.lookup m = none ∧
  t σ H0 fun vs H1 => tk σ H1 fun zs H2 => vs.length = n ∧ zs.length = j ∧ sp (gV (.ref a :: vs) zs) H2 Q (E σ)
theorem pm_pos {pl : Sem Bool} (ho : PE X o to) (c : Cls X.K C) (hm : Meth X.K C m f) (F : FnOk X.prog X.w X.K X.mg X.base CX k f fd ps sp) (hr : Room k X.A) (hb : KBn X.K fd ps (n + 1) [] g gV) (hx : ∀ σ, PassesAt CX X σ (E σ)) (ha : PA X (e :: es) t)
    (hst : starEach (e :: es) X.env = (false, eval e X.env) :: starEach es X.env := by rfl) (hpl : (backTo pos (starEach es X.env)).any (·.1) = false := by rfl)
    (ht : eval (.Call (.Attribute o m apos) (e :: es) [] pos) X.env = (do
      let ov ← eval o X.env
      standAt apos.atName
      let (f, first) ← holding [ov] (getMethod ov m pl)
      callWith pos f first (backTo pos (starEach (e :: es) X.env)) (backToKw pos (keywordEach [] X.env))) := by rfl) :
    PE X (.Call (.Attribute o m apos) (e :: es) [] pos) (tMt C m n 0 sp gV E to t tNil) := by
  refine ⟨fun pins s σ H Q I h => ?_⟩
  refine PySem.W.methodCall_KW (pl := pl) (thn (ho.run pins s σ H _ I h) fun u s1 ⟨x, H1, I1, rx, a, dx, fs, ex, ea, l, q⟩ => ?_) ht
  subst ex
  obtain rfl : u = Value.ref a := rx
  refine getmeth_ok I1 ea c hm l ?_
  exact PySem.W.callWith_K (first := [.ref a]) (h₀ := X.base) I.ok.mod.kin hm.kp (thn (ha.run pos pins s1 σ H1 _ I1 q) fun us s2 ⟨vs, H2, I2, r, l1, l2, q2⟩ =>
    ⟨I2.kIn, runF (ks := []) (us := .ref a :: us) (vs := .ref a :: vs) F hr hb (hx σ) I2 (.cons rfl r) (.nil : Vals [] []) (congrArg Nat.succ l1) rfl q2⟩) hst hpl
theorem pm_kw {pl : Sem Bool} (ho : PE X o to) (c : Cls X.K C) (hm : Meth X.K C m f) (F : FnOk X.prog X.w X.K X.mg X.base CX k f fd ps sp) (hr : Room k X.A) (hb : KBn X.K fd ps 1 ks g gV) (hx : ∀ σ, PassesAt CX X σ (E σ)) (hkw : PK X kws tk)
    (hall : (backToKw pos (keywordEach kws X.env)).all (·.1.isSome) = true := by rfl) (hks : (backToKw pos (keywordEach kws X.env)).filterMap (·.1) = ks := by rfl)
    (hpl : ((backTo pos (starEach [] X.env)).any (·.1) || (backToKw pos (keywordEach kws X.env)).any (·.1.isNone)) = false := by rfl)
    (ht : eval (.Call (.Attribute o m apos) [] kws pos) X.env = (do
      let ov ← eval o X.env
      standAt apos.atName
      let (f, first) ← holding [ov] (getMethod ov m pl)
      callWith pos f first (backTo pos (starEach [] X.env)) (backToKw pos (keywordEach kws X.env))) := by rfl) :
    PE X (.Call (.Attribute o m apos) [] kws pos) (tMt C m 0 ks.length sp gV E to tNil tk) := by
  refine ⟨fun pins s σ H Q I h => ?_⟩
  refine PySem.W.methodCall_KW (pl := pl) (thn (ho.run pins s σ H _ I h) fun u s1 ⟨x, H1, I1, rx, a, dx, fs, ex, ea, l, q⟩ => ?_) ht
  subst ex
  obtain rfl : u = Value.ref a := rx
  refine getmeth_ok I1 ea c hm l ?_
  refine PySem.W.callWith_KW0 (first := [.ref a]) (h₀ := X.base) I.ok.mod.kin hm.kp hall ?_ hpl
  refine thn (hkw.run pos pins s1 σ H1 _ I1 q) fun ws s2 ⟨zs, H2, I2, rz, l1, l2, q2⟩ => ⟨I2.kIn, ?_⟩
  rw [hks]
  exact runF (us := [.ref a]) (vs := [.ref a]) F hr hb (hx σ) I2 (.cons rfl .nil) rz rfl l2 q2
/-- C(e, .., k = v, ..) -/
def tMk (C : Addr) (n m : Nat) (sp : Sp) (gV : List V → List V → List V) (E : L2.St → XK) (t tk : TA) : TE := fun σ H Q => t σ H fun vs H1 => tk σ H1 fun zs H2 => vs.length = n ∧ zs.length = m ∧ ∀ a dx, H2 a = none → H2 dx = none → dx ≠ a →
  sp (gV (.ref a :: vs) zs) (upd (upd H2 dx (.own a)) a (.ins C dx [])) (fun v H3 => v = .non ∧ Q (.ref a) H3) (E σ)
theorem pc_pos (M : Mk X.K C f) (F : FnOk X.prog X.w X.K X.mg X.base CX k f fd ps sp) (hr : Room (k + 1) X.A) (hg : Gl X x) (hm : X.mg x = some (.ref C)) (hb : KBn X.K fd ps (n + 1) [] g gV) (hx : ∀ σ, PassesAt CX X σ (E σ)) (ha : PA X (e :: es) t)
    (hdb : (x == ("__debug__" : Str)) = false := by decide) (he : starEach (e :: es) X.env = (false, eval e X.env) :: starEach es X.env := by rfl) (hpl : (backTo pos (starEach es X.env)).any (·.1) = false := by rfl) :
    PE X (.Call (.Name x p) (e :: es) [] pos) (tMk C n 0 sp gV E t tNil) := by
  refine ⟨fun pins s σ H Q I h => wpAny_Call_Name_kw (ld_glob I hg hm ?_ hdb)⟩
  exact PySem.W.callWith_K (h₀ := X.base) I.ok.mod.kin M.kp (thn (ha.run pos pins s σ H _ I h) fun us s1 ⟨vs, H1, I1, r, l1, l2, q⟩ =>
    ⟨I1.kIn, runM (ks := []) M F hr hb (hx σ) I1 r (.nil : Vals [] []) l1 rfl q⟩) he hpl
theorem pc_both (M : Mk X.K C f) (F : FnOk X.prog X.w X.K X.mg X.base CX k f fd ps sp) (hr : Room (k + 1) X.A) (hg : Gl X x) (hm : X.mg x = some (.ref C)) (hb : KBn X.K fd ps (n + 1) ks g gV) (hx : ∀ σ, PassesAt CX X σ (E σ)) (ha : PA X (e :: es) t) (hkw : PK X kws tk)
    (hall : (backToKw pos (keywordEach kws X.env)).all (·.1.isSome) = true := by rfl) (hks : (backToKw pos (keywordEach kws X.env)).filterMap (·.1) = ks := by rfl) (hdb : (x == ("__debug__" : Str)) = false := by decide)
    (he : starEach (e :: es) X.env = (false, eval e X.env) :: starEach es X.env := by rfl) (hpl : ((backTo pos (starEach (e :: es) X.env)).any (·.1) || (backToKw pos (keywordEach kws X.env)).any (·.1.isNone)) = false := by rfl) :
    PE X (.Call (.Name x p) (e :: es) kws pos) (tMk C n ks.length sp gV E t tk) := by
  refine ⟨fun pins s σ H Q I h => wpAny_Call_Name_kw (ld_glob I hg hm ?_ hdb)⟩
  refine PySem.W.callWith_KW (h₀ := X.base) I.ok.mod.kin M.kp hall (thn (ha.run pos pins s σ H _ I h) fun us s1 ⟨vs, H1, I1, r, q⟩ => ?_) hpl he
  refine thn (hkw.run pos pins s1 σ H1 _ I1 q) fun ws s2 ⟨zs, H2, I2, rz, l1, l2, q2⟩ => ⟨I2.kIn, ?_⟩
  rw [hks]
  exact runM M F hr hb (hx σ) I2 r rz l1 l2 q2
theorem pc_kw (M : Mk X.K C f) (F : FnOk X.prog X.w X.K X.mg X.base CX k f fd ps sp) (hr : Room (k + 1) X.A) (hg : Gl X x) (hm : X.mg x = some (.ref C)) (hb : KBn X.K fd ps 1 ks g gV) (hx : ∀ σ, PassesAt CX X σ (E σ)) (hkw : PK X kws tk)
    (hall : (backToKw pos (keywordEach kws X.env)).all (·.1.isSome) = true := by rfl) (hks : (backToKw pos (keywordEach kws X.env)).filterMap (·.1) = ks := by rfl) (hdb : (x == ("__debug__" : Str)) = false := by decide)
    (hpl : ((backTo pos (starEach [] X.env)).any (·.1) || (backToKw pos (keywordEach kws X.env)).any (·.1.isNone)) = false := by rfl) :
    PE X (.Call (.Name x p) [] kws pos) (tMk C 0 ks.length sp gV E tNil tk) := by
  refine ⟨fun pins s σ H Q I h => wpAny_Call_Name_kw (ld_glob I hg hm ?_ hdb)⟩
  refine PySem.W.callWith_KW0 (h₀ := X.base) I.ok.mod.kin M.kp hall ?_ hpl
  refine thn (hkw.run pos pins s σ H _ I h) fun ws s2 ⟨zs, H2, I2, rz, l1, l2, q2⟩ => ⟨I2.kIn, ?_⟩
  rw [hks]
  exact runM (n := 0) (us := []) (vs := []) M F hr hb (hx σ) I2 .nil rz rfl l2 q2
/-- C0.m(e, ..), the def read off an own class -/
theorem pcl_pos {C0 : Addr} {mc : Value} {pl : Sem Bool} (hg : Gl X x) (hm : X.mg x = some (.ref C0)) (rd : PySem.W.readsIn X.K C0 mc = true) (ga : PySem.W.specialIn X.K (.ref C0) "__getattribute__" = some (some (.builtin "type.__getattribute__")))
    (fc : PySem.W.findCls X.K (.ref C0) mc m = some (.val (.ref f))) (hk : PySem.W.keepIn X.K (.ref f) = true) (F : FnOk X.prog X.w X.K X.mg X.base CX k f fd ps sp) (hr : Room k X.A) (hb : KBn X.K fd ps n [] g gV) (hx : ∀ σ, PassesAt CX X σ (E σ)) (ha : PA X (e :: es) t)
    (hdb : (x == ("__debug__" : Str)) = false := by decide) (hst : starEach (e :: es) X.env = (false, eval e X.env) :: starEach es X.env := by rfl) (hpl : (backTo pos (starEach es X.env)).any (·.1) = false := by rfl)
    (ht : eval (.Call (.Attribute (.Name x p) m apos) (e :: es) [] pos) X.env = (do
      let ov ← eval (.Name x p) X.env
      standAt apos.atName
      let (f, first) ← holding [ov] (getMethod ov m pl)
      callWith pos f first (backTo pos (starEach (e :: es) X.env)) (backToKw pos (keywordEach [] X.env))) := by rfl) :
    PE X (.Call (.Attribute (.Name x p) m apos) (e :: es) [] pos) (tFn n 0 sp gV E t tNil) := by
  refine ⟨fun pins s σ H Q I h => ?_⟩
  refine PySem.W.methodCall_KW (pl := pl) (ld_glob I hg hm ?_ hdb) ht
  refine PySem.W.method_cls I.kIn ga (PySem.W.cls_value I.kIn rd fc rfl ?_)
  exact PySem.W.callWith_K (first := []) (h₀ := X.base) I.ok.mod.kin hk (thn (ha.run pos pins _ σ H _ (I.tok _) h) fun us s2 ⟨vs, H2, I2, r, l1, l2, q2⟩ => ⟨I2.kIn, runF (ks := []) F hr hb (hx σ) I2 r (.nil : Vals [] []) l1 rfl q2⟩) hst hpl
end

/-! ### raise C(..) of an own class over ValueError: positional values, keywords, none -/
section
variable {X : Cx} {CX : CXT} {k n : Nat} {fI C : Addr} {fd : FuncData} {ps ks : List Str} {sp : Sp} {x : Str} {p pos : Pos} {e : Expr} {es : List Expr} {kws : List Keyword} {t tk : TA}
variable {g : List Value → List Value → List Value} {gV : List V → List V → List V} {pins : List (Addr × Obj)} {σ : L2.St} {H : Hp} {s : Shared} {Q : XK} {us ws : List Value} {vs zs : List V}
abbrev NoE : XK := fun _ _ _ => False
/-- what the written part says of C and its __init__ -/
structure ExK (K : PySem.W.Frag) (C fI : Addr) : Prop where
  made : ∃ (B newId initId : String) (bmB : List Value) (nm q : Str) (N : Addr) (bs bm : List Value) (sn : List Str) (sub : List Value) (ab : Bool) (col : Option Bool) (dd : Option Addr) (k0 k1 k2 k3 k5 : Option Value),
    ExcBaseFacts B newId initId bmB ∧ K.lookup C = some (excClassObj nm q C N bs bm true sn sub ab col dd k0 k1 k2 k3 k5 newId) ∧
    (bm.contains (.type B) = true ∧ bm.contains (.type "AttributeError") = false ∧ bm.contains (.type "NameError") = false)
  exC : PySem.W.subIn K (.ref C) (.type "BaseException") = some true
  tyC : PySem.W.typeIn K (.ref C) = some (.type "type")
  kC : PySem.W.keepIn K (.ref C) = true
  init : PySem.W.findIn K (.ref C) "__init__" = some (some (.ref fI))
  fn : PySem.W.typeIn K (.ref fI) = some (.type "function")
theorem exK_ve {K : PySem.W.Frag} {C fI : Addr} (T : OexC K C) (i : PySem.W.findIn K (.ref C) "__init__" = some (some (.ref fI))) (f : PySem.W.typeIn K (.ref fI) = some (.type "function")) : ExK K C fI := by
  obtain ⟨nm, q, N, bs, bm, sn, sub, ab, col, dd, k0, k1, k2, k3, k5, hC, hbm⟩ := T.cls
  have F := PySem.F.excBase_ValueError
  have c := fun Y => PySem.HandSPX.refsVE_contains Y bm hbm
  exact ⟨⟨_, _, _, _, _, _, _, _, _, _, _, _, _, _, _, _, _, _, _, F, hC, (c _).trans F.hasB, (c _).trans F.noAttr, (c _).trans F.noName⟩, T.exC, T.tyC, T.kC, i, f⟩
def BackX (a C : Addr) (H2 : Hp) (Q : XK) : VK := fun v H3 => v = .non ∧ ∃ (d : Addr) (fs : List (Str × V)), H3 a = some (exo a C (some d)) ∧ H3 d = some (exd d fs) ∧ H2 d = none ∧ Q (.ref C) (some d) (upd (del H3 a) d (.xd fs))
theorem runX (T : ExK X.K C fI) (F : FnOk X.prog X.w X.K X.mg X.base CX k fI fd ps sp) (hr : Room (k + 1) X.A) (hb : KBn X.K fd ps (n + 1) ks g gV) (hx : PassesAt CX X σ NoE) (I : Inv X pins σ H s) (r : Vals vs us) (rz : Vals zs ws) (l1 : vs.length = n) (l2 : zs.length = ks.length) (hn : n ≤ 1000)
    (h : ∀ a, H a = none → sp (gV (.ref a :: vs) zs) (upd H a (exo a C none)) (BackX a C H Q) NoE) : wpAny (model X.prog X.w) X.A (call (.ref C) us (ks.zip ws)) (MkP X pins σ Q) X.xe s := by
  obtain ⟨B, newId, initId, bmB, nm, q, N, bs, bm, sn, sub, ab, col, dd, k0, k1, k2, k3, k5, F0, hC, hbm⟩ := T.made
  obtain ⟨hp, gs, dr, tk, os⟩ := s
  have sz : hp.objs.size ≤ hp.objs.size + 1 := Nat.le_succ _
  have hq := h (hp.objs.size + 1) (I.hok.fresh sz)
  have kk : ∀ b o, hp.get? b = some o → ((hp.push (PySem.W.kdv_tup us)).push (PySem.HandSPX.excO C hp.objs.size)).get? b = some o := fun b o e => Heap.get?_push_of_some _ (Heap.get?_push_of_some _ e)
  have hat : ((hp.push (PySem.W.kdv_tup us)).push (PySem.HandSPX.excO C hp.objs.size)).get? (hp.objs.size + 1) = some (PySem.HandSPX.excO C hp.objs.size) := by heap_get
  have J : Inv X pins σ (upd H (hp.objs.size + 1) (exo (hp.objs.size + 1) C none)) ⟨(hp.push (PySem.W.kdv_tup us)).push (PySem.HandSPX.excO C hp.objs.size), gs, dr, tk, os⟩ :=
    I.laid (t' := tk) (a := hp.objs.size + 1) (o := exo (hp.objs.size + 1) C none) kk sz (exo_ok hat)
  have r1 : Vals (V.ref (hp.objs.size + 1) :: vs) (Value.ref (hp.objs.size + 1) :: us) := .cons rfl r
  have b := hb.to _ (Value.ref (hp.objs.size + 1) :: us) ws J.kIn (r1.length.symm.trans (congrArg Nat.succ l1)) (rz.length.symm.trans l2)
  have hus : us.length ≤ sizeLine := by
    rw [← r.length, l1, sizeLine_eq]
    omega
  refine wpAny_call (PySem.OwnK.excCall F0 hbm (I.kIn _ _ hC) (PySem.W.looks_findIn I.kIn T.init) (fun self => PySem.W.bind_fn I.kIn self T.fn) hus
    (codeAny_mono (F.run _ X.stack _ _ _ _ _ _ NoE (hr.make C us (ks.zip ws)) (J.env0.make C us (ks.zip ws)) b (hb.rel r1 rz) hq) fun r s' y => ?_))
  cases r with
  | error er => exact hx pins _ _ er s' J y
  | ok fl =>
    cases fl with
    | ret u =>
      obtain ⟨v, H2, os2, bare2, un2, hok2, rv, ev, d, fs, ea, ed, hd1, q2⟩ := y
      subst ev
      obtain ⟨h2, g2, d2, t2, os'⟩ := s'
      exact ⟨rv, mk_end (raises_own T.exC T.tyC) I sz kk un2 hok2 os2 bare2 ea ed hd1 q2⟩
    | next => exact y.elim
    | brk => exact y.elim
    | cont => exact y.elim
def tRz (C : Addr) (n m : Nat) (sp : Sp) (gV : List V → List V → List V) (t tk : TA) : L2.St → Hp → XK → Prop := fun σ H Q => t σ H fun vs H1 => tk σ H1 fun zs H2 => vs.length = n ∧ zs.length = m ∧ n ≤ 1000 ∧
  ∀ a, H2 a = none → sp (gV (.ref a :: vs) zs) (upd H2 a (exo a C none)) (BackX a C H2 Q) NoE
theorem px_pos (T : ExK X.K C fI) (F : FnOk X.prog X.w X.K X.mg X.base CX k fI fd ps sp) (hr : Room (k + 1) X.A) (hg : Gl X x) (hm : X.mg x = some (.ref C)) (hb : KBn X.K fd ps (n + 1) [] g gV) (hx : ∀ σ, PassesAt CX X σ NoE) (ha : PA X (e :: es) t)
    (hdb : (x == ("__debug__" : Str)) = false := by decide) (he : starEach (e :: es) X.env = (false, eval e X.env) :: starEach es X.env := by rfl) (hpl : (backTo pos (starEach es X.env)).any (·.1) = false := by rfl) :
    PMk X (.Call (.Name x p) (e :: es) [] pos) (tRz C n 0 sp gV t tNil) := by
  intro pins s σ H Q I h
  refine wpAny_Call_Name_kw (ld_glob I hg hm ?_ hdb)
  exact PySem.W.callWith_K (h₀ := X.base) I.ok.mod.kin T.kC (thn (ha.run pos pins s σ H _ I h) fun us s1 ⟨vs, H1, I1, r, l1, l2, l3, q⟩ => ⟨I1.kIn, runX (ks := []) T F hr hb (hx σ) I1 r (.nil : Vals [] []) l1 rfl l3 q⟩) he hpl
theorem px_both (T : ExK X.K C fI) (F : FnOk X.prog X.w X.K X.mg X.base CX k fI fd ps sp) (hr : Room (k + 1) X.A) (hg : Gl X x) (hm : X.mg x = some (.ref C)) (hb : KBn X.K fd ps (n + 1) ks g gV) (hx : ∀ σ, PassesAt CX X σ NoE) (ha : PA X (e :: es) t) (hkw : PK X kws tk)
    (hall : (backToKw pos (keywordEach kws X.env)).all (·.1.isSome) = true := by rfl) (hks : (backToKw pos (keywordEach kws X.env)).filterMap (·.1) = ks := by rfl) (hdb : (x == ("__debug__" : Str)) = false := by decide)
    (he : starEach (e :: es) X.env = (false, eval e X.env) :: starEach es X.env := by rfl) (hpl : ((backTo pos (starEach (e :: es) X.env)).any (·.1) || (backToKw pos (keywordEach kws X.env)).any (·.1.isNone)) = false := by rfl) :
    PMk X (.Call (.Name x p) (e :: es) kws pos) (tRz C n ks.length sp gV t tk) := by
  intro pins s σ H Q I h
  refine wpAny_Call_Name_kw (ld_glob I hg hm ?_ hdb)
  refine PySem.W.callWith_KW (h₀ := X.base) I.ok.mod.kin T.kC hall (thn (ha.run pos pins s σ H _ I h) fun us s1 ⟨vs, H1, I1, r, q⟩ => ?_) hpl he
  refine thn (hkw.run pos pins s1 σ H1 _ I1 q) fun ws s2 ⟨zs, H2, I2, rz, l1, l2, l3, q2⟩ => ⟨I2.kIn, ?_⟩
  rw [hks]
  exact runX T F hr hb (hx σ) I2 r rz l1 l2 l3 q2
theorem px_kw (T : ExK X.K C fI) (F : FnOk X.prog X.w X.K X.mg X.base CX k fI fd ps sp) (hr : Room (k + 1) X.A) (hg : Gl X x) (hm : X.mg x = some (.ref C)) (hb : KBn X.K fd ps 1 ks g gV) (hx : ∀ σ, PassesAt CX X σ NoE) (hkw : PK X kws tk)
    (hall : (backToKw pos (keywordEach kws X.env)).all (·.1.isSome) = true := by rfl) (hks : (backToKw pos (keywordEach kws X.env)).filterMap (·.1) = ks := by rfl) (hdb : (x == ("__debug__" : Str)) = false := by decide)
    (hpl : ((backTo pos (starEach [] X.env)).any (·.1) || (backToKw pos (keywordEach kws X.env)).any (·.1.isNone)) = false := by rfl) :
    PMk X (.Call (.Name x p) [] kws pos) (tRz C 0 ks.length sp gV tNil tk) := by
  intro pins s σ H Q I h
  refine wpAny_Call_Name_kw (ld_glob I hg hm ?_ hdb)
  refine PySem.W.callWith_KW0 (h₀ := X.base) I.ok.mod.kin T.kC hall ?_ hpl
  refine thn (hkw.run pos pins s σ H _ I h) fun ws s2 ⟨zs, H2, I2, rz, l1, l2, l3, q2⟩ => ⟨I2.kIn, ?_⟩
  rw [hks]
  exact runX (n := 0) (us := []) (vs := []) T F hr hb (hx σ) I2 .nil rz rfl l2 l3 q2
theorem px_none (T : ExK X.K C fI) (F : FnOk X.prog X.w X.K X.mg X.base CX k fI fd ps sp) (hr : Room (k + 1) X.A) (hg : Gl X x) (hm : X.mg x = some (.ref C)) (hb : KBn X.K fd ps 1 [] g gV) (hx : ∀ σ, PassesAt CX X σ NoE)
    (hdb : (x == ("__debug__" : Str)) = false := by decide) : PMk X (.Call (.Name x p) [] [] pos) (tRz C 0 0 sp gV tNil tNil) := by
  intro pins s σ H Q I h
  refine wpAny_Call_Name_kw (ld_glob I hg hm ?_ hdb)
  obtain ⟨l1, l2, l3, q⟩ := h
  exact PySem.W.callWith_K0 I.kIn T.kC (runX (n := 0) (ks := []) (us := []) (vs := []) T F hr hb (hx σ) I .nil (.nil : Vals [] []) rfl rfl l3 q)
end
end Own

/-! Own rules: an own exception straight under KeyError, whose __init__ stores one field and calls no base. -/
namespace PySem
namespace OwnKy
open PySem.W PyProof.Rows Builtin Builtin.ObjectAttr HandSPX
abbrev kyTail : List Value := [.type "KeyError", .type "LookupError", .type "Exception", .type "BaseException", .type "object"]
theorem ky_pass (C : Addr) (self : Value) : refuseLoop self "__setattr__" (.ref C :: kyTail) = pure () := by
  rw [refuseLoop_ref]
  kernel_rfl
section
variable {prog : Program} {w : World} {A : Around} {R : Result → Shared → Prop} {h0 : Heap} {g : Array GenState} {d : Drawn} {t : Nat} {os : OsState} {K : Frag} {f : Str} {tk : Tok} {y : Value} {a C : Addr} {fv : Array Value} {cd : ClassData}
/-- the first field of an exception without a dict, whatever built-in classes stand above its own one -/
theorem first_field (X : K.In h0) (ea : h0.get? a = some { cls := .ref C, data := .fields fv }) (ec : clsIn K C = some cd) (pass : ∀ self, refuseLoop self "__setattr__" cd.mro = pure ()) (ob : cd.mro.contains (.type "object") = true) (ne : cd.mro.isEmpty = false)
    (dict : cd.hasDict = true) (no : findIn K (.ref C) f = some none)
    (k : ∀ h1 tk1 dx, (∀ b o, b ≠ a → h0.get? b = some o → h1.get? b = some o) → h0.objs.size ≤ dx → dx ≠ a → h1.get? a = some { cls := .ref C, dict := some dx, data := .fields fv } →
      h1.Ns1 dx (fun z => if z = f then some y else none) → R (.ok (.ret .none)) ⟨h1, g, d, tk1, os⟩) :
    codeAny (model prog w) A (.call (.builtin "object.__setattr__") ⟨[.ref a, .str f tk, y], []⟩) R ⟨h0, g, d, t, os⟩ := by
  have J : InstAt h0 a { cls := .ref C, data := .fields fv } C none := ⟨ea, rfl, rfl, trivial⟩
  have nea : h0.objs.size ≠ a := (Nat.ne_of_lt (Heap.lt_size ea)).symm
  have G := F.store_object
  have isO : Looks (model prog w) h0 (isInstance (.ref a) (.type "object")) true := J.type.andThen (looks_mroIn X (by unfold mroIn; rw [ec, Option.bind_some, if_neg (by rw [ne]; exact Bool.false_ne_true), ob]))
  have order : Looks (model prog w) h0 (mroOf (.ref C)) cd.mro := (looks_clsIn X ec).andThen .now
  have data : Looks (model prog w) h0 (classData C) cd := looks_clsIn X ec
  have nobody : Looks (model prog w) h0 (storeTaker? none) none := .now
  refine codeAny_call_builtin G.slot.plain G.entry (@check_slot (model prog w) _ _ ⟨h0, g, d, t, os⟩ "object.__setattr__" "object" "__setattr__" (.ref a) [.str f tk, y] [] _ G.kind G.split isO (G.args _ _ _) ?_)
  rw [osa_eq, refuse_eq]
  refine wpAny_bind (wpAny_bind (J.type.at (wpAny_bind (order.at ?_))))
  rw [pass]
  refine wpAny_pure (wpAny_bind (J.type.at (wpAny_bind ((looks_findIn X no).at (wpAny_bind (nobody.at ?_))))))
  show wpAny _ _ (storeInOwnDict (.ref a) (.ref C) (.str f tk) f y false) _ _ _
  obtain ⟨cnm, cbs, cmro, cns, cqn, chd, csn, csb, cab, ccol, cdel⟩ := cd
  obtain rfl : chd = true := dict
  unfold storeInOwnDict ownDictForStores
  repeat (first | with_reducible refine store_in_new ?_ ?_ | with_reducible refine wpAny_loadPart_at ea ?_ | with_reducible refine data.at ?_ | wp_step)
  · exact ⟨_, #[], _, (Heap.get?_update_ne _ _ _ _ nea).trans (Heap.get?_push_at rfl rfl), rfl, fun e he => absurd he (by simp), fun _ => rfl⟩
  · intro h1 tk1 hn sb
    have ea1 : (h0.push { cls := .type "dict", data := .dict #[] }).get? a = some { cls := .ref C, data := .fields fv } := Heap.get?_push_of_some _ ea
    exact k h1 tk1 h0.objs.size (fun b o hb ho => (sb.2 b (Nat.ne_of_lt (Heap.lt_size ho))).trans ((Heap.get?_update_ne _ _ _ _ hb).trans (Heap.get?_push_of_some _ ho))) (Nat.le_refl _) nea
      ((sb.2 a nea.symm).trans (Heap.get?_update_self _ ea1 rfl)) hn
end
end OwnKy
end PySem
namespace Own
open PySem PySem.Spec PyProof.Rows L2
/-- what the written part says of a class straight under KeyError -/
structure OkyC (K : PySem.W.Frag) (C : Addr) : Prop where
  cls : ∃ (nm q : Str) (N : Addr) (bs : List Value) (sn : List Str) (sub : List Value) (ab : Bool) (col : Option Bool) (dd : Option Addr) (k0 k1 k2 k3 k5 : Option Value),
    K.lookup C = some (excClassObj nm q C N bs PySem.OwnKy.kyTail true sn sub ab col dd k0 k1 k2 k3 k5 "LookupError.__new__")
  sa : PySem.W.findIn K (.ref C) "__setattr__" = some (some (.builtin "object.__setattr__"))
  exC : PySem.W.subIn K (.ref C) (.type "BaseException") = some true
  tyC : PySem.W.typeIn K (.ref C) = some (.type "type")
  kC : PySem.W.keepIn K (.ref C) = true
theorem exK_ky {K : PySem.W.Frag} {C fI : Addr} (T : OkyC K C) (i : PySem.W.findIn K (.ref C) "__init__" = some (some (.ref fI))) (f : PySem.W.typeIn K (.ref fI) = some (.type "function")) : ExK K C fI := by
  obtain ⟨nm, q, N, bs, sn, sub, ab, col, dd, k0, k1, k2, k3, k5, hC⟩ := T.cls
  exact ⟨⟨_, _, _, _, _, _, _, _, _, _, _, _, _, _, _, _, _, _, _, PySem.F.excBase_LookupError, hC, by decide +kernel, by decide +kernel, by decide +kernel⟩, T.exC, T.tyC, T.kC, i, f⟩
section
variable {X : Cx} {pins : List (Addr × Obj)} {σ : L2.St} {H : Hp} {s : Shared} {a C : Addr} {f : Str} {y : V} {u : Value} {Q : Unit → Shared → Prop} {E : Value → Shared → Prop} {A : Around}
theorem ky_first (T : OkyC X.K C) (I : Inv X pins σ H s) (e : H a = some (exo a C none)) (no : PySem.W.findIn X.K (.ref C) f = some none) (ry : RelV y u)
    (z : ∀ dx s', H dx = none → dx ≠ a → Inv X pins σ (upd (upd H dx (exd dx [(f, y)])) a (exo a C (some dx))) s' → Q () s') : wpAny (model X.prog X.w) A (setAttr (.ref a) f u) Q E s := by
  obtain ⟨nm, q, N, bs, sn, sub, ab, col, dd, k0, k1, k2, k3, k5, hC⟩ := T.cls
  have cl : PySem.W.clsIn X.K C = some { name := nm, bases := bs, mro := .ref C :: PySem.OwnKy.kyTail, ns := N, qualname := q, hasDict := true, slotNames := sn, subclasses := sub, abstract := ab, collection := col, hasDel := false } := by
    unfold PySem.W.clsIn
    rw [hC] <;> rfl
  obtain ⟨t1, ea⟩ := exo_at I.hok e
  obtain ⟨h0, g0, d0, t0, os0⟩ := s
  refine PySem.W.set_plain I.kIn (ox := ⟨.ref C, none, .fields #[.ref t1, .none, .none, .none, .bool false, .none], _⟩) (od := none) ⟨ea, rfl, rfl, trivial⟩ T.sa ?_
  refine PySem.OwnKy.first_field I.kIn ea cl (fun self => PySem.OwnKy.ky_pass C self) rfl rfl rfl no fun h1 tk1 dx k dn dne hx hn => ?_
  have fresh : H dx = none := I.hok.fresh dn
  have older : ∀ {b : Addr} {o : Obj}, h0.get? b = some o → b ≠ dx := fun ho => Nat.ne_of_lt (Nat.lt_of_lt_of_le (Heap.lt_size ho) dn)
  have other : ∀ {b : Addr}, H b = none → b ≠ a := fun hb z => by rw [z, e] at hb; cases hb
  have two : ∀ {b : Addr} {o : HO}, H b = some o → exo a C none ≠ o → (upd (upd H dx (exd dx [(f, y)])) a (exo a C (some dx))) b = some o := fun hb ne => by
    rw [upd_ne (at_ne e hb ne), upd_ne (ne_of_none hb fresh)]
    exact hb
  refine z dx ⟨h1, g0, d0, tk1, os0⟩ fresh dne (I.un (t' := tk1) ?_ fun b o hb => ?_)
  · exact ⟨fun b o ho hb _ _ => k b o (other hb) ho, fun b o ho hb _ _ => ⟨o.slots, k b o (other hb) ho⟩, fun b o ho hb _ => by rw [upd_ne (other hb), upd_ne (older ho)]; exact hb,
      fun b o ho _ => if h : b = a then ⟨_, (congrArg h1.get? h).trans hx⟩ else ⟨o, k b o h ho⟩, fun b xs hb => two hb exo_tup, fun b o v hb => two hb exo_frz, fun b ps hb => ⟨#[], by rw [two hb exo_tbl]; simp⟩⟩
  · by_cases ha : b = a
    · rw [ha, upd_same] at hb
      cases hb
      rw [ha]
      exact exo_ok hx
    · rw [upd_ne ha] at hb
      by_cases hd : b = dx
      · rw [hd, upd_same] at hb
        cases hb
        rw [hd]
        exact exd_ok hn (relO_put (fs := []) ry fun _ => True.intro)
      · rw [upd_ne hd] at hb
        exact (I.hok b o hb).stay (fun c v hc w => k c v (hc.elim (fun q => by rw [q]; exact ha) fun q => at_ne e q exo_own) w) (fun c hc => two hc exo_own) (fun c xs hc => two hc exo_tup)
end
/-- self.f = e, the first field of an exception straight under KeyError -/
def tKst (K : PySem.W.Frag) (f : Str) (to te : TE) : TS := fun D σ H => te σ H fun y H1 => to σ H1 fun x H2 => ∃ a C : Addr, x = .ref a ∧ OkyC K C ∧ PySem.W.findIn K (.ref C) f = some none ∧ H2 a = some (exo a C none) ∧
  ∀ dx, H2 dx = none → dx ≠ a → D.nx σ (upd (upd H2 dx (exd dx [(f, y)])) a (exo a C (some dx)))
theorem ps_kst {X : Cx} {o e : Expr} {to te : TE} {f : Str} {p' pos : Pos} (ho : PE X o to) (he : PE X e te) (hs : swapsWith e (some (.Attribute o f p')) pos.line X.env = pure false := by rfl) : PS X (.Assign [.Attribute o f p'] e pos) (tKst X.K f to te) := by
  refine ⟨fun pins s σ H D I h => plainObj_wpAny_Assign_Attribute (thn (he.run pins s σ H _ I h) fun v s1 ⟨y, H1, I1, r1, q1⟩ => thn (ho.run pins s1 σ H1 _ I1 q1) fun u s2 ⟨x, H2, I2, r2, q2⟩ => ?_) hs⟩
  obtain ⟨a, C, rfl, T, no, ea, q⟩ := q2
  cases r2
  exact ky_first T I2 ea no r1 fun dx s' n ne J => ⟨σ, _, J, q dx n ne⟩
end Own

/-! Own rules: repr and str of an instance with own __repr__, __str__; a text times 0 or 1; isinstance of a caught own exception that has fields. -/
namespace Own
open PySem PySem.Spec PyProof.Rows L2
section
variable {X : Cx} {CX : CXT} {k : Nat} {C f : Addr} {fd : FuncData} {ps : List Str} {sp : Sp} {E : XK}
/-- what repr or str by an own def asks of the written part -/
structure TxtOwn (K : PySem.W.Frag) (C f : Addr) (nm : Str) : Prop where
  fd : PySem.W.findIn K (.ref C) nm = some (some (.ref f))
  fn : PySem.W.isFn K (.ref f) = true
def rTxO (C : Addr) (sp : Sp) (E : XK) : List V → Hp → VK → Prop := fun xs H Q => ∃ (a dx : Addr) (fs : List (Str × V)), xs = [.ref a] ∧ H a = some (.ins C dx fs) ∧
  sp [.ref a] H (fun v H' => ∃ y : Str, v = .str y ∧ Q (.str y) H') E
theorem call_reprO (T : TxtOwn X.K C f "__repr__") (F : FnOk X.prog X.w X.K X.mg X.base CX k f fd ps sp) (hr : Room (k + 1) X.A) (hb : Binds X.K fd ps []) (hx : Passes CX X E) : CallR X (.builtin "repr") (rTxO C sp E) := by
  intro pins s σ H xs us Q I r h
  obtain ⟨a, dx, fs, rfl, ha, q⟩ := h
  obtain ⟨mA, J, _⟩ := ins_get I.hok ha
  obtain ⟨od, J, _⟩ := J.look
  obtain ⟨m, hF⟩ := I.fr
  obtain ⟨u, rfl, ru⟩ := vals1 r
  cases ru
  have r2 : Vals [V.ref a] [Value.ref a] := .cons rfl .nil
  refine PySem.W.repr_K hr.in1.units0 hF I.ok.mod.kin J T.fd T.fn ?_
  have hl : ([Value.ref a] : List Value).length = ps.length := (Paired.length r2).symm.trans (F.len _ _ _ _ q)
  have b0 := hb s [.ref a] I.kIn (by simpa using hl)
  rw [List.append_nil] at b0
  refine wpAny_call (codeAny_mono (F.run X.A.in1 X.stack s H ⟨[.ref a], []⟩ [.ref a] [.ref a] _ E hr.in1 I.env0.in1 b0 r2 q) fun r s' z => ?_)
  cases r with
  | error e => exact hx pins σ H s e s' I z
  | ok fl =>
    cases fl with
    | ret w =>
      obtain ⟨v', H', I', rv, y, ev, q'⟩ := I.after z
      subst ev
      obtain ⟨t, rfl⟩ := rv
      exact ⟨.str y, H', I', ⟨t, rfl⟩, q'⟩
    | next => exact z.elim
    | brk => exact z.elim
    | cont => exact z.elim
theorem call_strO (T : TxtOwn X.K C f "__str__") (F : FnOk X.prog X.w X.K X.mg X.base CX k f fd ps sp) (hr : Room (k + 2) X.A) (hb : Binds X.K fd ps []) (hx : Passes CX X E) : CallR X (.type "str") (rTxO C sp E) := by
  intro pins s σ H xs us Q I r h
  obtain ⟨a, dx, fs, rfl, ha, q⟩ := h
  obtain ⟨mA, J, _⟩ := ins_get I.hok ha
  obtain ⟨od, J, _⟩ := J.look
  obtain ⟨u, rfl, ru⟩ := vals1 r
  cases ru
  have r2 : Vals [V.ref a] [Value.ref a] := .cons rfl .nil
  refine PySem.W.kso_call hr.in1.in1.units0 I.kIn J T.fd T.fn ?_
  have hl : ([Value.ref a] : List Value).length = ps.length := (Paired.length r2).symm.trans (F.len _ _ _ _ q)
  have b0 := hb s [.ref a] I.kIn (by simpa using hl)
  rw [List.append_nil] at b0
  refine wpAny_call (codeAny_mono (F.run X.A.in1.in1 X.stack s H ⟨[.ref a], []⟩ [.ref a] [.ref a] _ E hr.in1.in1 I.env0.in1.in1 b0 r2 q) fun r s' z => ?_)
  cases r with
  | error e => exact hx pins σ H s e s' I z
  | ok fl =>
    cases fl with
    | ret w =>
      obtain ⟨v', H', I', rv, y, ev, q'⟩ := I.after z
      subst ev
      obtain ⟨t, rfl⟩ := rv
      exact ⟨.str y, H', I', ⟨t, rfl⟩, q'⟩
    | next => exact z.elim
    | brk => exact z.elim
    | cont => exact z.elim
/-- a text times int(a truth) -/
theorem op_mul01 : OpR X (binaryOp .Mult) (fun x y H Q => ∃ (z : Str) (n : Int), x = .str z ∧ y = .int n ∧ (n = 0 ∨ n = 1) ∧ Q (.str (if n = 1 then z else Str.empty)) H) := by
  intro pins s σ H x y v u Q I rx ry h
  obtain ⟨z, n, rfl, rfl, hn, q⟩ := h
  obtain ⟨t, rfl⟩ := rx
  obtain ⟨t', rfl⟩ := ry
  rcases hn with rfl | rfl
  · exact PySem.P.mul_str_none (by decide) (by decide) ⟨.str Str.empty, H, I.tok _, ⟨_, rfl⟩, q⟩
  · exact PySem.P.mul_str (by decide) (fun _ h => by simp at h) (fun _ h => by simp at h) (by rw [if_neg (by decide), if_pos (by rfl)]; exact ⟨.str z, H, I, ⟨_, rfl⟩, q⟩)
end
/-- isinstance(e, c), e the caught exception, of the class D, with the dict d -/
def rIsX (K : PySem.W.Frag) (D a : Addr) (cls : Value) (d : Option Addr) : List V → Hp → VK → Prop := fun xs H Q => ∃ (c : V) (cv : Value) (b : Bool) (dd : Addr) (fs : List (Str × V)), xs = [.ref a, c] ∧ (∀ u, RelV c u → u = cv) ∧ cls = .ref D ∧ d = some dd ∧ H dd = some (.xd fs) ∧
  PySem.W.kitOne K (.ref D) cv = some b ∧ Q (.bl b) H
theorem suite_inst {X : Cx} {a D dd : Addr} {oe : Obj} {cls : Value} {d : Option Addr} {pn pins : List (Addr × Obj)} {σ : L2.St} {H : Hp} {s : Shared} {fs : List (Str × V)} (hz : Zc cls d oe) (hf : ∃ vs, oe.data = .fields vs) (I : Inv (X.suite a ((a, oe) :: pn)) pins σ H s)
    (ec : cls = .ref D) (ed : d = some dd) (ea : H dd = some (.xd fs)) : ∃ od, PySem.W.InstAt s.heap a oe D (some od) := by
  subst ec
  subst ed
  obtain ⟨hget, _⟩ := I.pin (a, oe) (List.mem_append_left _ List.mem_cons_self)
  obtain ⟨vs, hv⟩ := hf
  have hx : ObjOk X.prog X.w H s.heap dd (.xd fs) := I.hok dd _ ea
  obtain ⟨mA, hns, hr⟩ := hx
  obtain ⟨od, ho, hl⟩ := lookIn_ns hns
  exact ⟨od, hget, hz.1, by unfold PySem.W.notCls; rw [hv] <;> rfl, by rw [hz.2]; exact ho⟩
theorem excC_cls {K : PySem.W.Frag} {D : Addr} (C : ExcC K D) : (PySem.W.clsIn K D).isSome = true := by
  obtain ⟨cd, hc, _⟩ := PySem.W.any_some C.hd
  rw [hc]
  rfl
theorem call_isX {X : Cx} {a D : Addr} {oe : Obj} {cls : Value} {d : Option Addr} {pn : List (Addr × Obj)} (C : ExcC X.K D) (hz : Zc cls d oe) (hf : ∃ vs, oe.data = .fields vs) : CallR (X.suite a ((a, oe) :: pn)) (.builtin "isinstance") (rIsX X.K D a cls d) := by
  intro pins s σ H xs us Q I r h
  obtain ⟨c, cv, b, dd, fs, rfl, hcv, ec, ed, ea, e, q⟩ := h
  obtain ⟨u1, u2, rfl, rx, rt⟩ := vals2 r
  cases rx
  have e2 := hcv _ rt
  subst e2
  obtain ⟨od, J⟩ := suite_inst hz hf I ec ed ea
  exact PySem.W.kia_one (PySem.W.kitx_exc (excC_cls C) C.hg C.hk C.hs C.ha C.hn C.ht C.hm) I.kIn J e (fun z => nomatch z) fun tk => ⟨.bl b, H, I.kept (t' := tk) fun _ _ z => z, rfl, q⟩
/-- isinstance(e, (c1, c2, ..)), the tuple just laid -/
def rIsXT (K : PySem.W.Frag) (D a : Addr) (cls : Value) (d : Option Addr) : List V → Hp → VK → Prop := fun xs H Q => ∃ (tp : Addr) (cs : List V) (us : List Value) (b : Bool) (dd : Addr) (fs : List (Str × V)), xs = [.ref a, .ref tp] ∧ H tp = some (.tup cs) ∧ Paired ClsV cs us ∧ cls = .ref D ∧ d = some dd ∧ H dd = some (.xd fs) ∧
  PySem.W.kitAny K (.ref D) us = some b ∧ Q (.bl b) H
theorem call_isXT {X : Cx} {a D : Addr} {oe : Obj} {cls : Value} {d : Option Addr} {pn : List (Addr × Obj)} (C : ExcC X.K D) (hz : Zc cls d oe) (hf : ∃ vs, oe.data = .fields vs) : CallR (X.suite a ((a, oe) :: pn)) (.builtin "isinstance") (rIsXT X.K D a cls d) := by
  intro pins s σ H xs us Q I r h
  obtain ⟨tp, cs, ws, b, dd, fs, rfl, hT, k, ec, ed, ea, e, q⟩ := h
  obtain ⟨u1, u2, rfl, rx, rt⟩ := vals2 r
  cases rx
  cases (show u2 = Value.ref tp from rt)
  obtain ⟨od, J⟩ := suite_inst hz hf I ec ed ea
  have ht : ObjOk X.prog X.w H s.heap tp (.tup cs) := I.hok tp _ hT
  obtain ⟨_, its, rv, o, h1, h2, n, h3⟩ := ht
  have e3 := ClsV.all k rv
  subst e3
  obtain ⟨oc, odd, dt, sl⟩ := o
  dsimp only at h2 h3
  subst h2 h3
  exact PySem.W.kia_tup (PySem.W.kitx_exc (excC_cls C) C.hg C.hk C.hs C.ha C.hn C.ht C.hm) I.kIn J h1 e (fun z => nomatch z) fun tk => ⟨.bl b, H, I.kept (t' := tk) fun _ _ z => z, rfl, q⟩
end Own

/-! Own rules: one reading for things of several kinds. -/
namespace Own
open PySem PySem.Spec PyProof.Rows L2
section
variable {X : Cx}
def orR (r1 r2 : R2) : R2 := fun x y H Q => r1 x y H Q ∨ r2 x y H Q
theorem ix_or {r1 r2 : R2} (h1 : IxR X r1) (h2 : IxR X r2) : IxR X (orR r1 r2) := by
  intro value slice pins s σ H x y v u Q I rx ry h hs
  rcases h with h | h
  · exact h1 _ _ _ _ _ _ _ _ _ _ _ I rx ry h hs
  · exact h2 _ _ _ _ _ _ _ _ _ _ _ I rx ry h hs
theorem op_or {op : Value → Value → Sem Value} {r1 r2 : R2} (h1 : OpR X op r1) (h2 : OpR X op r2) : OpR X op (orR r1 r2) := by
  intro pins s σ H x y v u Q I rx ry h
  rcases h with h | h
  · exact h1 _ _ _ _ _ _ _ _ _ I rx ry h
  · exact h2 _ _ _ _ _ _ _ _ _ I rx ry h
theorem call_or {f : Value} {r1 r2 : List V → Hp → VK → Prop} (h1 : CallR X f r1) (h2 : CallR X f r2) : CallR X f (fun xs H Q => r1 xs H Q ∨ r2 xs H Q) := by
  intro pins s σ H xs us Q I r h
  rcases h with h | h
  · exact h1 _ _ _ _ _ _ _ I r h
  · exact h2 _ _ _ _ _ _ _ I r h
end
end Own

/-! set(names) and len(set(names)), names a list or a tuple of texts, however many. -/
namespace Own
open PySem PySem.Spec PyProof.Rows L2
/-- one more text is met -/
def meet (acc : List Str) (x : Str) : List Str := if acc.contains x then acc else acc ++ [x]
/-- the unlike ones, each where it is met first -/
def met (xs : List Str) : List Str := xs.foldl meet []
theorem met_more (xs : List Str) (x : Str) : met (xs ++ [x]) = meet (met xs) x := by
  unfold met
  rw [List.foldl_append]
  rfl
theorem meet_mem (acc : List Str) (x k : Str) : k ∈ meet acc x ↔ k ∈ acc ∨ k = x := by
  unfold meet
  by_cases h : acc.contains x = true
  · rw [if_pos h]
    exact ⟨.inl, fun q => q.elim id fun e => by rw [e]; exact List.contains_iff_mem.mp h⟩
  · rw [if_neg h, List.mem_append, List.mem_singleton]
theorem meet_len (acc : List Str) (x : Str) : (meet acc x).length = if acc.contains x = true then acc.length else acc.length + 1 := by
  unfold meet
  split
  · rfl
  · rw [List.length_append] <;> rfl
theorem foldl_meet_mem (k : Str) : ∀ (xs acc : List Str), k ∈ xs.foldl meet acc ↔ k ∈ acc ∨ k ∈ xs
  | [], acc => by simp
  | x :: xs, acc => by
    rw [List.foldl_cons, foldl_meet_mem k xs, meet_mem, List.mem_cons, or_assoc]
theorem met_mem (k : Str) (xs : List Str) : k ∈ met xs ↔ k ∈ xs := by
  unfold met
  rw [foldl_meet_mem]
  simp
theorem foldl_meet_nodup : ∀ (xs acc : List Str), acc.Nodup → (xs.foldl meet acc).Nodup
  | [], _, h => h
  | x :: xs, acc, h => by
    refine foldl_meet_nodup xs _ ?_
    unfold meet
    by_cases c : acc.contains x = true
    · rw [if_pos c]
      exact h
    · rw [if_neg c]
      refine List.nodup_append.mpr ⟨h, by simp, fun a ha b hb e => ?_⟩
      rw [List.mem_singleton.mp hb] at e
      exact c (List.contains_iff_mem.mpr (e ▸ ha))
theorem met_nodup (xs : List Str) : (met xs).Nodup := foldl_meet_nodup xs [] List.nodup_nil
theorem foldl_meet_le : ∀ (xs acc : List Str), (xs.foldl meet acc).length ≤ acc.length + xs.length
  | [], _ => Nat.le_refl _
  | x :: xs, acc => by
    have h := foldl_meet_le xs (meet acc x)
    have g := meet_len acc x
    rw [List.foldl_cons, List.length_cons]
    split at g <;> omega
theorem met_le (xs : List Str) : (met xs).length ≤ xs.length := by
  have := foldl_meet_le xs []
  rw [List.length_nil, Nat.zero_add] at this
  exact this
theorem foldl_meet_all : ∀ (xs acc : List Str), (acc ++ xs).Nodup → xs.foldl meet acc = acc ++ xs
  | [], acc, _ => by simp
  | x :: xs, acc, h => by
    have hx : ¬ acc.contains x = true := fun c => by
      have := (List.nodup_append.mp h).2.2 x (List.contains_iff_mem.mp c) x List.mem_cons_self
      exact this rfl
    have e : meet acc x = acc ++ [x] := if_neg hx
    have e2 : acc ++ [x] ++ xs = acc ++ x :: xs := by rw [List.append_assoc] <;> rfl
    rw [List.foldl_cons, e, foldl_meet_all xs (acc ++ [x]) (by rw [e2]; exact h), e2]
theorem met_all {xs : List Str} (h : xs.Nodup) : met xs = xs := foldl_meet_all xs [] h
theorem foldl_meet_full : ∀ (xs acc : List Str), acc.Nodup → (xs.foldl meet acc).length = acc.length + xs.length → (acc ++ xs).Nodup
  | [], acc, h, _ => by rw [List.append_nil]; exact h
  | x :: xs, acc, h, e => by
    have g := foldl_meet_le xs (meet acc x)
    have l := meet_len acc x
    rw [List.foldl_cons, List.length_cons] at e
    by_cases c : acc.contains x = true
    · rw [if_pos c] at l
      omega
    · rw [if_neg c] at l
      have e1 : meet acc x = acc ++ [x] := if_neg c
      have n : (meet acc x).Nodup := foldl_meet_nodup [x] acc h
      have := foldl_meet_full xs (meet acc x) n (by omega)
      rw [e1, List.append_assoc] at this
      exact this
theorem met_full {xs : List Str} (h : (met xs).length = xs.length) : xs.Nodup := foldl_meet_full xs [] List.nodup_nil (by rw [List.length_nil, Nat.zero_add]; exact h)
theorem met_iff (xs : List Str) : decide ((met xs).length = xs.length) = decide xs.Nodup := decide_eq_decide.mpr ⟨met_full, fun h => by rw [met_all h]⟩
section
variable {prog : Program} {w : World} {A : Around} {R : Result → Shared → Prop} {it S : Addr} {fp wr : List Addr} {G : Array GenState → Array GenState → Prop} {n : Nat} {P : Nat → Value → Prop} {St : Nat → Shared → Prop} {xs : List Str}
/-- what the set holds behind i texts -/
abbrev Holds (prog : Program) (w : World) (S : Addr) (l : List Str) (h : Heap) : Prop := h.SetOf (PySem.strKind prog w) S (fun k => decide (k ∈ met l)) (met l).length
theorem Holds.moved {l : List Str} {s s' : Shared} (h : Holds prog w S l s.heap) (m : ∀ o, s.heap.get? S = some o → s'.heap.get? S = some o) : Holds prog w S l s'.heap := by
  obtain ⟨o, es, ep, t, ho, r⟩ := h
  exact ⟨o, es, ep, t, m _ ho, r⟩
theorem fill (W : WalksS prog w A.in1 it fp wr G n P St) (out : S ∉ fp) (hn : xs.length = n) (small : n < 1000) (val : ∀ i v, P i v → ∃ t, v = .str (xs.getD i Str.empty) t) :
    ∀ (k i : Nat) (s : Shared), n - i = k → i ≤ n → St i s → Holds prog w S (xs.take i) s.heap →
      (∀ s', Moved (S :: wr) G s s' → Holds prog w S xs s'.heap → R (.ok (.ret .none)) s') → codeAny (model prog w) A (.builtin "set.update.loop" ⟨[.ref S, .ref it], []⟩) R s := by
  have nw : S ∉ wr := fun h => out (W.sub _ h)
  have more : ∀ b ∈ wr, b ∈ S :: wr := fun b hb => List.mem_cons_of_mem _ hb
  intro k
  induction k with
  | zero =>
    intro i s hk hi st hS hR
    obtain rfl : i = n := by omega
    refine codeAny_builtin PyProof.Rows.F.entry_set_update_loop ?_
    rw [Around.under_plainId PyProof.Rows.F.plain_set_update_loop _]
    refine wpAny_bind (m := pyNext (.ref it)) (W.done s _ _ st fun s' m => ?_)
    have hS' := hS.moved (s' := s') fun o e => m.heap S o nw e
    rw [← hn, List.take_length] at hS'
    exact wpAny_pure (hR s' (m.mono more) hS')
  | succ k ih =>
    intro i s hk hi st hS hR
    have lt : i < n := by omega
    refine codeAny_builtin PyProof.Rows.F.entry_set_update_loop ?_
    rw [Around.under_plainId PyProof.Rows.F.plain_set_update_loop _]
    refine wpAny_bind (m := pyNext (.ref it)) (W.item i s _ _ lt st fun v s' pv st' m => ?_)
    obtain ⟨t, rfl⟩ := val i v pv
    have hS' := hS.moved (s' := s') fun o e => m.heap S o nw e
    generalize hx : xs.getD i Str.empty = x at *
    have gx : xs[i]? = some x := by
      have l : i < xs.length := by omega
      rw [← hx, List.getD_eq_getElem?_getD, List.getElem?_eq_getElem l] <;> rfl
    have tk : xs.take (i + 1) = xs.take i ++ [x] := by rw [List.take_add_one, gx] <;> rfl
    refine wpAny_bind (m := holding [Value.str x t] (setAdd S (.str x t))) (wpAny_holding ?_)
    unfold setAdd
    refine wpAny_holding (wpAny_bind ((PySem.strKind prog w).pyHash (k := x) (strKind_is _ _ _ _) ?_))
    have room : (met (xs.take i)).length + 1 < scanBound := by
      have := met_le (xs.take i)
      rw [List.length_take] at this
      show _ < 4096
      omega
    refine wpAny_setAddHashed_of (knd := PySem.strKind prog w) (s := { s' with toks := s'.toks + 1 }) (strKind_is _ _ _ _) rfl hS' room fun h' sb hS2 => ?_
    have next : Holds prog w S (xs.take (i + 1)) h' := by
      refine PyProof.Rows.SetOf_congr hS2 (fun j => ?_) ?_
      · rw [tk, met_more, ← Bool.decide_or]
        exact decide_eq_decide.mpr (meet_mem _ x j).symm
      · rw [tk, met_more, meet_len]
        by_cases a : x ∈ met (xs.take i)
        · rw [if_pos (decide_eq_true a), if_pos (List.contains_iff_mem.mpr a)]
        · rw [if_neg (fun z => a (of_decide_eq_true z)), if_neg (fun z => a (List.contains_iff_mem.mp z))]
    refine wpAny_pure ⟨plainId_quiet PyProof.Rows.F.plain_set_update_loop _, ih (i + 1) _ (by omega) lt (W.frame _ s' _ _ st' (Nat.le_succ _) fun b hb o e => ?_) next fun s2 m2 hS3 => ?_⟩
    · exact (sb.2 b (fun z => out (z ▸ hb))).trans e
    · exact hR s2 (Moved.trans W.gtrans ((m.mono more).then_heap (Nat.le_succ _) fun b o hb e => (sb.2 b fun z => hb (z ▸ List.mem_cons_self)).trans e) m2) hS3
end
section
variable {prog : Program} {w : World} {A : Around} {E : Value → Shared → Prop} {s : Shared}
set_option maxHeartbeats 3200000 in
theorem set_of_list {l : Addr} {its : Array Value} {xs : List Str} {Q : Value → Shared → Prop} (hh : A.handled = none) (hl : s.heap.IsList l its) (hi : PyProof.Rows.StrsAre its.toList xs) (small : xs.length < 1000)
    (h : ∀ (h' : Heap) (tk : Nat), Holds prog w s.heap.objs.size xs h' → (∀ b o, b < s.heap.objs.size → s.heap.get? b = some o → h'.get? b = some o) → Q (.ref s.heap.objs.size) { s with heap := h', toks := tk }) :
    wpAny (model prog w) A (call (.type "set") [.ref l]) Q E s := by
  obtain ⟨c, tl, hmro⟩ := PySem.F.called_set.mro
  have hmade := PySem.F.called_set.made
  have hsub := PySem.F.called_set.sub
  refine wpAny_call (codeAny_of_tree (wpAny_pure ⟨Code.quiet_builtin _ (by decide +kernel), codeAny_builtin PySem.F.entry_type_call ?_⟩))
  rw [Around.under_plain (weight_type_call_type "set" [.ref l] []) rfl]
  have g1 := PySem.F.called_set.notType
  have g2 := PySem.F.called_set.canCreate
  have g3 := PySem.F.typeCall_set_1 (.ref l)
  repeat (any_goals (first | assumption | wp_step))
  -- the empty set is made
  refine codeAny_mono (code_set_new_1 (.ref l) (E := E) (Q₁ := fun v s₁ => ∃ led : Bool, v = .ref s.heap.objs.size ∧ s₁ = { s with heap := s.heap.push { cls := .type "set", dict := none, data := .set #[] 0 (.fresh 0 0 led) } }) fun led => ⟨led, rfl, rfl⟩) ?_
  rintro (e | _ | _ | _ | v) s₁ z
  · exact z
  · exact z.elim
  · exact z.elim
  · exact z.elim
  · obtain ⟨led, rfl, rfl⟩ := z
    have at0 : (s.heap.push { cls := .type "set", dict := none, data := .set #[] 0 (.fresh 0 0 led) }).get? s.heap.objs.size = some { cls := .type "set", dict := none, data := .set #[] 0 (.fresh 0 0 led) } := Heap.get?_push_size _ rfl
    have ty : Shared.TypeIs { s with heap := s.heap.push { cls := .type "set", dict := none, data := .set #[] 0 (.fresh 0 0 led) } } (.ref s.heap.objs.size) "set" := ⟨_, at0, rfl⟩
    have g4 := PySem.F.called_set.init.lookup
    have g5 := PySem.F.called_set.init.bind (.ref s.heap.objs.size)
    repeat (any_goals (first | assumption | wp_step))
    -- and filled
    refine codeAny_mono (codeAny_call_builtin (R := wants (fun r s₂ => r = .none ∧ ∃ h' tk, s₂ = { s with heap := h', toks := tk } ∧ Holds prog w s.heap.objs.size xs h' ∧ (∀ b o, b < s.heap.objs.size → s.heap.get? b = some o → h'.get? b = some o)) E)
      PySem.F.called_set.init.plain PySem.F.entry_set_init (check_set_init_1 ty ?_)) ?_
    · obtain ⟨⟨cls, dd, dat, sl⟩, hol, hc, nl, hd⟩ := hl
      simp only at hc hd
      subst hc hd
      have old := Heap.lt_size hol
      have hol2 : (s.heap.push { cls := .type "set", dict := none, data := .set #[] 0 (.fresh 0 0 led) }).get? l = some { cls := .type "list", dict := dd, data := .seq its nl, slots := sl } := Heap.get?_push_of_some _ hol
      have hl2 : (s.heap.push { cls := .type "set", dict := none, data := .set #[] 0 (.fresh 0 0 led) }).IsList l its := ⟨_, hol2, rfl, nl, rfl⟩
      have f1 := PySem.F.sub_list_set
      have f2 := PySem.F.sub_list_frozenset
      have f3 : (Value.type "list" == Value.type "dict") = false := by decide
      unfold Builtin.«set.__init__» noKeywords Builtin.Frozenset.updateFrom
      generalize hit : pyIter = itf
      wp_walk
      subst hit
      refine wpAny_pyIter_list hl2 ?_
      refine wpAny_bind (wpAny_runValue ?_)
      have top : (s.heap.push { cls := .type "set", dict := none, data := .set #[] 0 (.fresh 0 0 led) }).objs.size = s.heap.objs.size + 1 := Heap.size_push ..
      have ne1 : l ≠ (s.heap.push { cls := .type "set", dict := none, data := .set #[] 0 (.fresh 0 0 led) }).objs.size := by rw [top]; exact Nat.ne_of_lt (Nat.lt_succ_of_lt old)
      have out : s.heap.objs.size ∉ [(s.heap.push { cls := .type "set", dict := none, data := .set #[] 0 (.fresh 0 0 led) }).objs.size, l] := by
        rw [top]
        intro m
        rcases List.mem_cons.mp m with e | m
        · exact absurd e (Nat.ne_of_lt (Nat.lt_succ_self _))
        · exact absurd (List.mem_singleton.mp m) (Nat.ne_of_gt old)
      have len : xs.length = its.size := by rw [← StrsAre.len_eq hi, Array.length_toList]
      have val : ∀ (i : Nat) (v : Value), its[i]? = some v → ∃ t, v = .str (xs.getD i Str.empty) t := fun i v hv => SS.strs_at hi i v (by rw [Array.getElem?_toList]; exact hv)
      refine fill ((Walks.list (show A.in1.in1.in1.handled = none by simp [hh]) _ l ne1 its).toS) out len (by rw [← len]; exact small) val (its.size - 0) 0 _ (by omega) (Nat.zero_le _) ⟨⟨_, Heap.get?_push_size _ rfl, rfl, rfl⟩, hl2.push _⟩ ?_ ?_
      · have z : ((s.heap.push { cls := .type "set", dict := none, data := .set #[] 0 (.fresh 0 0 led) }).push { cls := .type "list_iterator", data := .fields #[.ref l, .int 0 0] }).get? s.heap.objs.size = some { cls := .type "set", dict := none, data := .set #[] 0 (.fresh 0 0 led) } := Heap.get?_push_of_some _ at0
        exact PyProof.Rows.SetOf_congr ((PyProof.Rows.setObjOf_fresh (knd := PySem.strKind prog w) led).setOf z (by unfold scanBound; omega)) (fun k => rfl) rfl
      · rintro ⟨h', g', d', tk', os'⟩ m hS'
        obtain rfl : g' = s.gens := m.gens
        obtain rfl : d' = s.drawn := m.drawn
        obtain rfl : os' = s.os := m.os
        refine wpAny_pure (wpAny_pure ⟨rfl, h', tk', rfl, hS', fun b o hb e => ?_⟩)
        refine m.heap b o (fun mm => ?_) (Heap.get?_push_of_some _ (Heap.get?_push_of_some _ e))
        rcases List.mem_cons.mp mm with e1 | mm
        · exact absurd e1 (Nat.ne_of_lt hb)
        · have e2 : b = (s.heap.push { cls := .type "set", dict := none, data := .set #[] 0 (.fresh 0 0 led) }).objs.size := List.mem_singleton.mp mm
          rw [top] at e2
          omega
    · rintro (e | _ | _ | _ | v) s₂ z
      · exact z
      · exact z.elim
      · exact z.elim
      · exact z.elim
      · obtain ⟨rfl, h', tk, rfl, hS', kp⟩ := z
        repeat (any_goals (first | assumption | wp_step))
        exact h _ _ hS' kp
end
section
variable {prog : Program} {w : World} {A : Around} {E : Value → Shared → Prop} {s : Shared}
set_option maxHeartbeats 3200000 in
theorem set_of_tuple {l : Addr} {its : Array Value} {xs : List Str} {Q : Value → Shared → Prop} (hh : A.handled = none) (hl : s.heap.IsTuple l its) (hi : PyProof.Rows.StrsAre its.toList xs) (small : xs.length < 1000)
    (h : ∀ (h' : Heap) (tk : Nat), Holds prog w s.heap.objs.size xs h' → (∀ b o, b < s.heap.objs.size → s.heap.get? b = some o → h'.get? b = some o) → Q (.ref s.heap.objs.size) { s with heap := h', toks := tk }) :
    wpAny (model prog w) A (call (.type "set") [.ref l]) Q E s := by
  obtain ⟨c, tl, hmro⟩ := PySem.F.called_set.mro
  have hmade := PySem.F.called_set.made
  have hsub := PySem.F.called_set.sub
  refine wpAny_call (codeAny_of_tree (wpAny_pure ⟨Code.quiet_builtin _ (by decide +kernel), codeAny_builtin PySem.F.entry_type_call ?_⟩))
  rw [Around.under_plain (weight_type_call_type "set" [.ref l] []) rfl]
  have g1 := PySem.F.called_set.notType
  have g2 := PySem.F.called_set.canCreate
  have g3 := PySem.F.typeCall_set_1 (.ref l)
  repeat (any_goals (first | assumption | wp_step))
  -- the empty set is made
  refine codeAny_mono (code_set_new_1 (.ref l) (E := E) (Q₁ := fun v s₁ => ∃ led : Bool, v = .ref s.heap.objs.size ∧ s₁ = { s with heap := s.heap.push { cls := .type "set", dict := none, data := .set #[] 0 (.fresh 0 0 led) } }) fun led => ⟨led, rfl, rfl⟩) ?_
  rintro (e | _ | _ | _ | v) s₁ z
  · exact z
  · exact z.elim
  · exact z.elim
  · exact z.elim
  · obtain ⟨led, rfl, rfl⟩ := z
    have at0 : (s.heap.push { cls := .type "set", dict := none, data := .set #[] 0 (.fresh 0 0 led) }).get? s.heap.objs.size = some { cls := .type "set", dict := none, data := .set #[] 0 (.fresh 0 0 led) } := Heap.get?_push_size _ rfl
    have ty : Shared.TypeIs { s with heap := s.heap.push { cls := .type "set", dict := none, data := .set #[] 0 (.fresh 0 0 led) } } (.ref s.heap.objs.size) "set" := ⟨_, at0, rfl⟩
    have g4 := PySem.F.called_set.init.lookup
    have g5 := PySem.F.called_set.init.bind (.ref s.heap.objs.size)
    repeat (any_goals (first | assumption | wp_step))
    -- and filled
    refine codeAny_mono (codeAny_call_builtin (R := wants (fun r s₂ => r = .none ∧ ∃ h' tk, s₂ = { s with heap := h', toks := tk } ∧ Holds prog w s.heap.objs.size xs h' ∧ (∀ b o, b < s.heap.objs.size → s.heap.get? b = some o → h'.get? b = some o)) E)
      PySem.F.called_set.init.plain PySem.F.entry_set_init (check_set_init_1 ty ?_)) ?_
    · obtain ⟨⟨cls, dd, dat, sl⟩, hol, hc, nl, hd⟩ := hl
      simp only at hc hd
      subst hc hd
      have old := Heap.lt_size hol
      have hol2 : (s.heap.push { cls := .type "set", dict := none, data := .set #[] 0 (.fresh 0 0 led) }).get? l = some { cls := .type "tuple", dict := dd, data := .seq its nl, slots := sl } := Heap.get?_push_of_some _ hol
      have hl2 : (s.heap.push { cls := .type "set", dict := none, data := .set #[] 0 (.fresh 0 0 led) }).IsTuple l its := ⟨_, hol2, rfl, nl, rfl⟩
      have f1 := PySem.F.sub_tuple_set
      have f2 := PySem.F.sub_tuple_frozenset
      have f3 : (Value.type "tuple" == Value.type "dict") = false := by decide
      unfold Builtin.«set.__init__» noKeywords Builtin.Frozenset.updateFrom
      generalize hit : pyIter = itf
      wp_walk
      subst hit
      refine wpAny_pyIter_tuple hl2 ?_
      refine wpAny_bind (wpAny_runValue ?_)
      have top : (s.heap.push { cls := .type "set", dict := none, data := .set #[] 0 (.fresh 0 0 led) }).objs.size = s.heap.objs.size + 1 := Heap.size_push ..
      have ne1 : l ≠ (s.heap.push { cls := .type "set", dict := none, data := .set #[] 0 (.fresh 0 0 led) }).objs.size := by rw [top]; exact Nat.ne_of_lt (Nat.lt_succ_of_lt old)
      have out : s.heap.objs.size ∉ [(s.heap.push { cls := .type "set", dict := none, data := .set #[] 0 (.fresh 0 0 led) }).objs.size, l] := by
        rw [top]
        intro m
        rcases List.mem_cons.mp m with e | m
        · exact absurd e (Nat.ne_of_lt (Nat.lt_succ_self _))
        · exact absurd (List.mem_singleton.mp m) (Nat.ne_of_gt old)
      have len : xs.length = its.size := by rw [← StrsAre.len_eq hi, Array.length_toList]
      have val : ∀ (i : Nat) (v : Value), its[i]? = some v → ∃ t, v = .str (xs.getD i Str.empty) t := fun i v hv => SS.strs_at hi i v (by rw [Array.getElem?_toList]; exact hv)
      refine fill ((Walks.tuple (show A.in1.in1.in1.handled = none by simp [hh]) _ l ne1 its).toS) out len (by rw [← len]; exact small) val (its.size - 0) 0 _ (by omega) (Nat.zero_le _) ⟨⟨_, Heap.get?_push_size _ rfl, rfl, rfl⟩, hl2.push _⟩ ?_ ?_
      · have z : ((s.heap.push { cls := .type "set", dict := none, data := .set #[] 0 (.fresh 0 0 led) }).push { cls := .type "tuple_iterator", data := .fields #[.ref l, .int 0 0] }).get? s.heap.objs.size = some { cls := .type "set", dict := none, data := .set #[] 0 (.fresh 0 0 led) } := Heap.get?_push_of_some _ at0
        exact PyProof.Rows.SetOf_congr ((PyProof.Rows.setObjOf_fresh (knd := PySem.strKind prog w) led).setOf z (by unfold scanBound; omega)) (fun k => rfl) rfl
      · rintro ⟨h', g', d', tk', os'⟩ m hS'
        obtain rfl : g' = s.gens := m.gens
        obtain rfl : d' = s.drawn := m.drawn
        obtain rfl : os' = s.os := m.os
        refine wpAny_pure (wpAny_pure ⟨rfl, h', tk', rfl, hS', fun b o hb e => ?_⟩)
        refine m.heap b o (fun mm => ?_) (Heap.get?_push_of_some _ (Heap.get?_push_of_some _ e))
        rcases List.mem_cons.mp mm with e1 | mm
        · exact absurd e1 (Nat.ne_of_lt hb)
        · have e2 : b = (s.heap.push { cls := .type "set", dict := none, data := .set #[] 0 (.fresh 0 0 led) }).objs.size := List.mem_singleton.mp mm
          rw [top] at e2
          omega
    · rintro (e | _ | _ | _ | v) s₂ z
      · exact z
      · exact z.elim
      · exact z.elim
      · exact z.elim
      · obtain ⟨rfl, h', tk, rfl, hS', kp⟩ := z
        repeat (any_goals (first | assumption | wp_step))
        exact h _ _ hS' kp
end
end Own

/-! len(set(names)) as a rule; a loop over a list or a tuple. -/
namespace Own
open PySem PySem.Spec PyProof.Rows L2
section
variable {X : Cx}
def tUnlike (K : PySem.W.Frag) (ta : TE) : TE := fun σ H Q => ta σ H fun x H1 => ∃ (l : Addr) (xs : List Str), x = .ref l ∧ (SqL K H1 l (xs.map V.str) ∨ SqT K H1 l (xs.map V.str)) ∧ xs.length < 1000 ∧ Q (.int (met xs).length) H1
theorem pe_unlike {a : Expr} {ta : TE} {p p2 q pos : Pos} (hc : X.calm = true) (hg : Gl X "len") (hm : X.mg "len" = none) (hg2 : Gl X "set") (hm2 : X.mg "set" = none) (ha : PE X a ta)
    (na : starEach [a] X.env = (false, eval a X.env) :: starEach [] X.env := by rfl) : PE X (.Call (.Name "len" p) [.Call (.Name "set" p2) [a] [] q] [] pos) (tUnlike X.K ta) := by
  refine ⟨fun pins s σ H Q I h => ?_⟩
  refine Call_ (ld_blt I hg hm boot_len (PyProof.Rows.callWith_builtin1 (PyProof.Rows.args_cons ?_ rfl) rfl rfl))
  refine Call_ (ld_blt I hg2 hm2 boot_set (PyProof.Rows.callWith_type1 (PyProof.Rows.args_cons (thn (ha.run pins s σ H _ I h) fun v s1 ⟨x, H1, J, rx, z⟩ => PyProof.Rows.args_nil ?_) na) na rfl))
  obtain ⟨l, xs, rfl, seq, small, q⟩ := z
  cases rx
  have done : ∀ (h' : Heap) (tk : Nat), Holds X.prog X.w s1.heap.objs.size xs h' → (∀ b o, b < s1.heap.objs.size → s1.heap.get? b = some o → h'.get? b = some o) →
      wpAny (model X.prog X.w) X.A (spliced (backTo pos (starEach [] X.env))) (fun vs s₂ => wpAny (model X.prog X.w) X.A (call (.builtin "len") (Value.ref s1.heap.objs.size :: vs)) (EP X pins σ Q) X.xe s₂) X.xe { s1 with heap := h', toks := tk } := fun h' tk hS kp => by
    obtain ⟨o, es, ep, t, ho, ex, hd, _, _, _, fits, hn⟩ := hS
    have J2 : Inv X pins σ H1 { s1 with heap := h', toks := tk } := J.kept fun b o e => kp b o (Heap.lt_size e) e
    have le := met_le xs
    exact PyProof.Rows.args_nil (call_len_set ho ex hd fits (by rw [hn]; omega) ⟨.int (met xs).length, H1, J2.tok _, ⟨_, by rw [hn]⟩, q⟩)
  rcases seq with hq | hq
  · obtain ⟨its, r, pl, _⟩ := J.list hq
    exact set_of_list (J.ok.hd hc) pl.isList (by simpa using strsAre_of r) small done
  · obtain ⟨its, r, pl, _⟩ := J.tuple hq
    exact set_of_tuple (J.ok.hd hc) pl (by simpa using strsAre_of r) small done
/-- what is walked may be of two kinds -/
theorem pi_or {tg e : Expr} {w1 w2 : TI} (h1 : PI X tg e w1) (h2 : PI X tg e w2) : PI X tg e (fun σ H R => w1 σ H R ∨ w2 σ H R) := ⟨fun pins s σ H R I h => h.elim (h1.run pins s σ H R I) (h2.run pins s σ H R I)⟩
end
end Own

/-! The law's own def, as the judge calls it: there nothing is being shown, so repr of data is told in full. -/
namespace Own
open PySem PySem.Spec PyProof.Rows L2
/-- a promise of the law's def at that one call -/
def TopOk (P : Program) (w : World) (K : PySem.W.Frag) (mg : Str → Option Value) (base : Heap) (f : Addr) (fd : FuncData) (x : Str) (sp : Sp) : Prop :=
  ∀ (s : Shared) (H : Hp) (v : V) (u : Value) (Q : VK), Env0 P w K mg base callerA [] s H → BindsTo s fd ⟨[u], []⟩ [(x, u)] → RelV v u → sp [v] H Q E0 →
    codeAny (model P w) callerA (.call (.ref f) ⟨[u], []⟩) (CR CX0 [] P w H s Q E0) s
section
variable {P : Program} {w : World} {K : PySem.W.Frag} {mg : Str → Option Value} {base : Heap} {f : Addr} {fd : FuncData} {x name qual : Str} {st : Stmt} {N : List Str} {k : Nat} {sp : Sp}
theorem top_of (F : Fun K name qual st f fd) (S : FnScope N [x] (defScope st)) (hr : Room (k + 1) callerA)
    (body : ∀ (cdv : Value) (s : Shared) (H : Hp) (v : V) (Q : VK), Room k (callerA.deeper (envOfC qual (defScope st) s.heap.objs.size f cdv)) → (callerA.deeper (envOfC qual (defScope st) s.heap.objs.size f cdv)).guards = some [] → sp [v] H Q E0 →
      ∃ t, PSs (cxOf CX0 P w K mg base N qual (defScope st) f cdv callerA [] s H E0).nox (defBody st) t ∧ t { nx := fun _ H' => Q .non H', rt := Q } (L2.start N [v]) H) : TopOk P w K mg base f fd x sp := by
  intro s H v u Q e0 hb rv hsp
  obtain ⟨oc, od, kV, doc, pm, an, cdv, ct, osl, rfl, lk, hcd⟩ := F.ex
  have grow : ∀ b o, base.get? b = some o → s.heap.get? b = some o := fun b o e => (e0.bs b o e).1
  have inK : K.In s.heap := e0.mod.kin.keeps grow
  have kinds : ∀ y ∈ [(x, u)], (defScope st).names.lookup y.1 = some .local ∨ ((defScope st).names.lookup y.1 = some .cell ∧ ((cellsFrom (s.heap.objs.size + 1) (defScope st).names []).lookup y.1).isSome = true) := fun y hy => by
    rw [List.mem_singleton.mp hy]
    exact (S.par x List.mem_cons_self).imp id fun c => ⟨c, PySem.W.cellsFrom_some _ _ _ (.inl c)⟩
  refine codeAny_call_function hr.depth (inK _ _ lk) rfl S.co S.gen rfl (PySem.W.codeRec_of inK hcd) (hb _ _ _ _ (wpAny_newFunctionEnv_cells S.kind kinds ?_))
  rintro env rfl s1 made
  refine ⟨(e0.mod.nolimit.keeps grow).keeps made.toInCall.keep, codeAny_func ?_⟩
  obtain ⟨t, ht, hq⟩ := body cdv s H v Q (hr.deeper _) rfl hsp
  have J0 : Inv (cxOf CX0 P w K mg base N qual (defScope st) f cdv callerA [] s H E0) [] (L2.start N [v]) H s1 := inv_start S hr.hd e0 rfl (.cons rv .nil) made
  have back := ht.nox.run [] s1 (L2.start N [v]) H _ J0 hq
  refine wpAny_mono back ?_ fun _ _ z => z
  rintro (_ | _ | _ | r) s' z
  · obtain ⟨_, H', J, q⟩ := z
    exact ⟨.non, H', J.os, J.bare, J.base, J.hok, rfl, q⟩
  · obtain ⟨_, _, _, q⟩ := z
    exact q.elim
  · obtain ⟨_, _, _, q⟩ := z
    exact q.elim
  · obtain ⟨y, _, H', J, ry, q⟩ := z
    exact ⟨y, H', J.os, J.bare, J.base, J.hok, ry, q⟩
end
/-- the call, from an abstract heap that knows the script at most -/
theorem top_core {P : Program} {w : World} {K : PySem.W.Frag} {mg mb : Str → Option Value} {fa a : Addr} {fd : FuncData} {x : Str} {sp : Sp} {s₁ : Shared} {vs : List Value} {H : Hp}
    (KX : K.In s₁.heap) (hns : s₁.heap.Ns mainGlobals mg) (hb : s₁.heap.Ns builtinsNs mb) (hbb : ∀ x : Str, x ≠ "__name__" → mb x = bootBuiltins x) (hlim : s₁.heap.NoLimit) (hg : s₁.gens = #[])
    (ha : s₁.heap.get? a = some { cls := .type "list", data := .seq vs.toArray })
    (F : ∀ base : Heap, K.In base → base.Ns mainGlobals mg → TopOk P w K mg base fa fd x sp) (hbind : ∀ (s : Shared) (u : Value), BindsTo s fd ⟨[u], []⟩ [(x, u)])
    (only : Only H) (hok : HOk P w H s₁.heap) (own : ∀ b u, H b = some u → b = a ∧ K.lookup a = none) (hsp : sp [.ref a] H (fun v _ => v = .bl true) E0) :
    codeAny (model P w) callerA (.call (.ref fa) ⟨[.ref a], []⟩) (fun r s' => r = .ok (.ret (.bool true)) ∧ OldK s₁.heap s'.heap ∧ s'.os = s₁.os ∧ AllBare s'.gens) s₁ := by
  -- what is no list is not tracked
  have untr : ∀ {b : Addr} {o : Obj}, s₁.heap.get? b = some o → o.data ≠ .seq vs.toArray → H b = none := fun {b o} e ne => by
    cases g : H b with
    | none => rfl
    | some u =>
      obtain ⟨rfl, _⟩ := own b u g
      rw [ha] at e
      cases e
      exact absurd rfl ne
  have spaces : ∀ {b : Addr} {m : Str → Option Value}, s₁.heap.Ns b m → (hidT s₁.heap H).Ns b m := fun {b m} ⟨o, es, ep, e, dd, r⟩ =>
    ⟨o, es, ep, hidT_get e (untr e (by rw [dd]; intro z; cases z)), dd, r⟩
  have inK : K.In (hidT s₁.heap H) := fun b o e => hidT_get (KX b o e) (by
    cases g : H b with
    | none => rfl
    | some u =>
      obtain ⟨rfl, nk⟩ := own b u g
      rw [nk] at e
      cases e)
  have md : Mod K mg (hidT s₁.heap H) := ⟨inK, spaces hns, ⟨mb, spaces hb, hbb⟩, hlim.imp fun mc z => ⟨spaces z.1, z.2⟩⟩
  have e0 : Env0 P w K mg (hidT s₁.heap H) callerA [] s₁ H := ⟨rfl, md, fun b o e => of_hidT e, Nat.le_of_eq (hidT_size _ _), trivial, fun b z => (by cases z), hok, .of_eq hg⟩
  refine codeAny_mono (F _ inK (spaces hns) s₁ H (.ref a) (.ref a) _ e0 (hbind s₁ (.ref a)) rfl hsp) ?_
  rintro (e | _ | _ | _ | u) s' z
  · exact False.elim z
  · exact False.elim z
  · exact False.elim z
  · exact False.elim z
  · obtain ⟨v, H', os, bare, un, hok', rv, rfl⟩ := z
    cases rv
    refine ⟨rfl, OldK.of_keep fun b o e => ?_, os, bare⟩
    cases g : H b with
    | none => exact un.keep b o e g (fun z => by cases z) (fun z => by cases z)
    | some y =>
      rcases only b with z | ⟨ob, xs, z⟩
      · rw [g] at z
        cases z
      · have before := (hok b _ z).1
        have after := (hok' b _ (un.frzs b ob _ z)).1
        rw [e] at before
        cases before
        exact after
/-- from the call's heap: what is tracked there is the script, or nothing -/
theorem top_call {P : Program} {w : World} {K : PySem.W.Frag} {mg mb : Str → Option Value} {fa a : Addr} {fd : FuncData} {x : Str} {sp : Sp} {s₁ : Shared} {vs : List Value} {ns : List Int}
    (KX : K.In s₁.heap) (hns : s₁.heap.Ns mainGlobals mg) (hb : s₁.heap.Ns builtinsNs mb) (hbb : ∀ x : Str, x ≠ "__name__" → mb x = bootBuiltins x) (hlim : s₁.heap.NoLimit) (hg : s₁.gens = #[])
    (ha : s₁.heap.get? a = some { cls := .type "list", data := .seq vs.toArray }) (hi : IntsAre vs ns) (hl : ns.length ≤ sizeLine)
    (F : ∀ base : Heap, K.In base → base.Ns mainGlobals mg → TopOk P w K mg base fa fd x sp) (hbind : ∀ (s : Shared) (u : Value), BindsTo s fd ⟨[u], []⟩ [(x, u)])
    (hsp : ∀ H : Hp, Only H → SqL K H a (ns.map V.int) → sp [.ref a] H (fun v _ => v = .bl true) E0) :
    codeAny (model P w) callerA (.call (.ref fa) ⟨[.ref a], []⟩) (fun r s' => r = .ok (.ret (.bool true)) ∧ OldK s₁.heap s'.heap ∧ s'.os = s₁.os ∧ AllBare s'.gens) s₁ := by
  have rv := vals_ints hi
  have hlv : vs.length ≤ sizeLine := by rw [hi.length]; exact hl
  cases hk : K.lookup a with
  | some o =>
    have e := KX a o hk
    rw [ha] at e
    cases e
    have hS : SqL K (fun _ => none) a (ns.map V.int) := .inr ⟨_, vs.toArray, _, hk, rfl, rfl, rfl, by rw [List.size_toArray]; exact hlv, by simpa using rv⟩
    exact top_core KX hns hb hbb hlim hg ha F hbind (fun _ => .inl rfl) (fun _ _ z => by cases z) (fun _ _ z => by cases z) (hsp _ (fun _ => .inl rfl) hS)
  | none =>
    have at_ : ∀ {b : Addr} {u : HO}, (if b = a then some (HO.frz { cls := .type "list", data := .seq vs.toArray } (.lst (ns.map V.int))) else none) = some u → b = a ∧ u = .frz { cls := .type "list", data := .seq vs.toArray } (.lst (ns.map V.int)) := fun {b u} z => by
      by_cases q : b = a
      · rw [if_pos q] at z
        exact ⟨q, (Option.some.inj z).symm⟩
      · rw [if_neg q] at z
        cases z
    have hO : Only (fun b => if b = a then some (.frz { cls := .type "list", data := .seq vs.toArray } (.lst (ns.map V.int))) else none) := fun b => by
      by_cases q : b = a
      · exact .inr ⟨_, _, if_pos q⟩
      · exact .inl (if_neg q)
    refine top_core KX hns hb hbb hlim hg ha F hbind hO (fun b u z => ?_) (fun b u z => ⟨(at_ z).1, hk⟩) (hsp _ hO (.inl (.inr ⟨_, if_pos rfl⟩)))
    obtain ⟨rfl, rfl⟩ := at_ z
    exact ⟨ha, by rw [List.length_map]; exact hl, vs, _, rv, ha⟩
theorem top_walk {l : PySem.W.OpenLaw} {n : Nat} {q : Program} {loose : List Str} {XP : (Str → Option Value) → Heap → Prop} {YP : World → Heap → Prop} {d : DefRec} {K : Params → PySem.W.Frag} {sp : PySem.W.Frag → Sp} {x : Str}
    (hn : l.most = some n) (hn2 : n ≤ sizeLine) (hdf : d.params.defaults = []) (hY : ∀ (w : World) (h : Heap), YP w h → (K w.params).In h)
    (F : ∀ (w : World) (mg : Str → Option Value) (fa : Addr) (h : Heap), (K w.params).In h → h.Ns mainGlobals mg → mg d.name = some (.ref fa) →
      ∃ fd : FuncData, (∀ (s : Shared) (u : Value), BindsTo s fd ⟨[u], []⟩ [(x, u)]) ∧ ∀ base : Heap, (K w.params).In base → base.Ns mainGlobals mg → TopOk l.prog w (K w.params) mg base fa fd x (sp (K w.params)))
    (hsp : ∀ (K : PySem.W.Frag) (H : Hp) (a : Addr) (ns : List Int), ns.length ≤ n → SqL K H a (ns.map V.int) → sp K [.ref a] H (fun v _ => v = .bl true) E0) :
    PySem.W.WalkO q loose XP YP l.row.toRowW d [] (fun f vs => PySem.call f vs) := by
  refine Att.attach_call hn hdf fun w s₀ s₁ mg mb fa o pm cd doc a vs ns G Y ho hd hcd hmg hobj hints hlen hg => ?_
  have KX := hY w _ Y
  obtain ⟨fd, hb, hF⟩ := F w mg fa _ KX G.T.g hmg
  exact top_call KX G.T.g G.T.b G.T.builtins G.T.nolimit hg hobj hints (Nat.le_trans hlen hn2) hF hb fun H _ hS => hsp _ H a ns hlen hS
section
variable {X : Cx}
theorem call_reprD (hg : X.A.guards = some []) (hu : X.A.units + 66 < cLine) : CallR X (.builtin "repr") (fun xs H Q => ∃ (a : Addr) (d : PyData), xs = [.ref a] ∧ Dp X.K H (.ref a) d ∧ d.showable = true ∧ SeqAt.shaped d = true ∧ d.shown.length ≤ sizeLine ∧ Q (.str d.shown) H) := by
  intro pins s σ H xs us Q I r h
  obtain ⟨a, d, rfl, hd, hs, hf, hz, q⟩ := h
  obtain ⟨u, rfl, ru⟩ := vals1 r
  cases ru
  obtain ⟨as, rd⟩ := Dp.reads I d _ _ hd rfl
  have dep := SeqAt.depth_of_shaped hf
  exact repr_of_reads' rd hs (PyData.noDict_hsm (PyData.hasDict_of_canLay _ (SeqAt.canLay_of_shaped hf))) hg (by omega) (fun _ _ e => e) (fun h' u tk hk => ⟨.str _, H, I.kept (t' := tk) hk, ⟨u, rfl⟩, q⟩) hz
end
theorem hu65 {A : Around} {k : Nat} (hr : Room k A) : A.units + 65 < cLine := by
  have := hr.un
  omega
theorem hu66 {A : Around} {k : Nat} (hr : Room k A) : A.units + 66 < cLine := by
  have := hr.un
  omega
end Own

/-! enumerate over a tuple: its making, its turns, the rule for a loop or a comprehension (pi_enumT). -/
namespace L2
open PySem PySem.Spec PyProof.Rows
theorem enum_newT (l : Addr) (items : Array Value) :
    Meets (Builtin.«enumerate.__new__» ⟨[.type "enumerate", .ref l], []⟩) (fun _ R s => s.heap.IsTuple l items ∧ R (.ok (.ret (.ref (s.heap.push { cls := .type "tuple_iterator", data := .fields #[.ref l, .int 0 0] }).objs.size)))
      { s with heap := (s.heap.push { cls := .type "tuple_iterator", data := .fields #[.ref l, .int 0 0] }).push { cls := .type "enumerate", data := .fields #[.none, .bool false, .ref s.heap.objs.size, rawInt 0, .none, .none] } }) :=
  .of_wp fun prog w A R s h => by
    obtain ⟨hp, g, d, tk, os⟩ := s
    obtain ⟨ht, h⟩ := h
    have f1 := sub_enumerate
    wp_walk using wpAny_pyIter_tuple ht
    refine wpAny_stack_any fun st => ?_
    wp_walk
    split
    · wp_walk
      split
      · wp_walk using wpAny_pyIter_tuple ht
        exact ⟨_, rfl, h⟩
      · wp_walk using wpAny_pyIter_tuple ht
        exact ⟨_, rfl, h⟩
    · wp_walk using wpAny_pyIter_tuple ht
      exact ⟨_, rfl, h⟩
theorem call_enumT {prog : Program} {w : World} {A : Around} {E : Value → Shared → Prop} {s : Shared} {l : Addr} {items : Array Value} {Q : Value → Shared → Prop} (ht : s.heap.IsTuple l items)
    (k : ∀ h' : Heap, IsEnum h' (s.heap.objs.size + 1) s.heap.objs.size 0 .none → h'.IsTupleIter s.heap.objs.size l 0 → h'.objs.size = s.heap.objs.size + 2 → (∀ (b : Addr) (o : Obj), s.heap.get? b = some o → h'.get? b = some o) →
      Q (.ref (s.heap.objs.size + 1)) { s with heap := h' }) : wpAny (model prog w) A (call (.type "enumerate") [.ref l]) Q E s := by
  have sz : ∀ (h : Heap) (o : Obj), (h.push o).objs.size = h.objs.size + 1 := fun h o => by unfold Heap.push; exact Array.size_push _
  refine callType_new F.called_enumerate (by decide) (F.typeCall_enumerate_1 _) (F.newCall_enumerate_1 _) (fun obj => F.args_object_init_2 _ _) F.entry_enumerate_new (enum_newT l items) ⟨ht, ?_⟩
  generalize ho1 : ({ cls := .type "tuple_iterator", data := .fields #[.ref l, .int 0 0] } : Obj) = o1
  generalize ho2 : ({ cls := .type "enumerate", data := .fields #[.none, .bool false, .ref s.heap.objs.size, rawInt 0, .none, .none] } : Obj) = o2
  have f1 : o1.isFreed = false := by rw [← ho1]; rfl
  have f2 : o2.isFreed = false := by rw [← ho2]; rfl
  have g2 : ((s.heap.push o1).push o2).get? (s.heap.push o1).objs.size = some o2 := Heap.get?_push_size _ f2
  have g1 : ((s.heap.push o1).push o2).get? s.heap.objs.size = some o1 := Heap.get?_push_of_some _ (Heap.get?_push_size _ f1)
  refine ⟨⟨o2, g2, by rw [← ho2]⟩, ?_⟩
  rw [sz] at g2 ⊢
  exact k _ (g2.trans (by rw [← ho2])) ⟨o1, g1, by rw [← ho1], by rw [← ho1]; rfl⟩ (by rw [sz, sz]) (fun b o e => Heap.get?_push_of_some _ (Heap.get?_push_of_some _ e))
theorem tup_next_item (it t : Addr) (i : Nat) (items : Array Value) (x : Value) :
    Meets (Builtin.«tuple_iterator.__next__» ⟨[.ref it], []⟩) (fun _ R s => s.heap.IsTupleIter it t i ∧ s.heap.IsTuple t items ∧ items[i]? = some x ∧ ∀ h' : Heap, h'.IsTupleIter it t (i + 1) → Heap.SameBut it s.heap h' → R (.ok (.ret x)) { s with heap := h' }) :=
  .of_wp fun prog w A R s h => by
    obtain ⟨hp, g, d, tk, os⟩ := s
    obtain ⟨hi, ht, hx, h⟩ := h
    obtain ⟨⟨cls, dd, data, sl⟩, ho, hc, hd⟩ := hi
    obtain ⟨⟨cls2, dd2, data2, sl2⟩, ho2, hc2, n2, hd2⟩ := ht
    simp only at hc hd hc2 hd2
    subst hc hd hc2 hd2
    have q2 : (#[Value.ref t, Value.int (↑i) 0] : Array Value)[1]? = some (Value.int (↑i) 0) := rfl
    wp_walk using wpAny_load' ho
    rw [Int.toNat_natCast, hx]
    refine wpAny_bind (wpAny_setField ho rfl (by show 1 < 2; decide) ?_)
    wp_walk
    exact ⟨_, rfl, h _ ⟨_, Heap.get?_update_self _ ho rfl, rfl, rfl⟩ (Heap.SameBut.update _ _ _)⟩
theorem tup_next_end (it t : Addr) (i : Nat) (items : Array Value) :
    Meets (Builtin.«tuple_iterator.__next__» ⟨[.ref it], []⟩) (fun A R s => A.handled = none ∧ s.heap.IsTupleIter it t i ∧ s.heap.IsTuple t items ∧ items[i]? = none ∧ ∀ (h' : Heap) (e : Addr), Heap.ExtBut it s.heap h' → (∃ o, h'.get? e = some o ∧ o.cls = .type "StopIteration") → R (.error (.ref e)) { s with heap := h' }) :=
  .of_wp fun prog w A R s h => by
    obtain ⟨hp, g, d, tk, os⟩ := s
    obtain ⟨hh, hi, ht, hx, h⟩ := h
    obtain ⟨⟨cls, dd, data, sl⟩, ho, hc, hd⟩ := hi
    obtain ⟨⟨cls2, dd2, data2, sl2⟩, ho2, hc2, n2, hd2⟩ := ht
    simp only at hc hd hc2 hd2
    subst hc hd hc2 hd2
    have q2 : (#[Value.ref t, Value.int (↑i) 0] : Array Value)[1]? = some (Value.int (↑i) 0) := rfl
    wp_walk using wpAny_load' ho
    rw [Int.toNat_natCast, hx]
    have hh1 : A.in1.handled = none := hh
    wp_walk using wpAny_raiseNew_none hh1
    refine h _ _ ?_ ?_
    · exact fun b o nb e => Heap.get?_push_of_some _ (Heap.get?_push_of_some _ ((Heap.get?_update_other _ _ (Ne.symm nb)).trans e))
    · exact ⟨_, Heap.get?_push_size _ rfl, rfl⟩
theorem nextOf_tup_item {prog : Program} {w : World} {A : Around} {E : Value → Shared → Prop} {s : Shared} {it t : Addr} {i : Nat} {items : Array Value} {x : Value} {Q : Value → Shared → Prop} (hi : s.heap.IsTupleIter it t i) (ht : s.heap.IsTuple t items) (hx : items[i]? = some x)
    (k : ∀ h' : Heap, h'.IsTupleIter it t (i + 1) → Heap.SameBut it s.heap h' → Q x { s with heap := h' }) : wpAny (model prog w) A (Builtin.SmallTypes.nextOf (.ref it)) Q E s := by
  unfold Builtin.SmallTypes.nextOf
  refine wpAny_bind (wpAny_callSpecial?_slot hi.typeIs F.slot_tuple_iterator_next (call_meets F.slot_tuple_iterator_next hi.typeIs F.entry_tuple_iterator_next (F.args_tuple_iterator_next_1 _) (tup_next_item it t i items x) ⟨hi, ht, hx, fun h' a b => ?_⟩))
  exact wpAny_pure (k h' a b)
theorem nextOf_tup_end {prog : Program} {w : World} {A : Around} {E : Value → Shared → Prop} {s : Shared} {it t : Addr} {i : Nat} {items : Array Value} {Q : Value → Shared → Prop} (hh : A.handled = none) (hi : s.heap.IsTupleIter it t i) (ht : s.heap.IsTuple t items) (hx : items[i]? = none)
    (k : ∀ (h' : Heap) (e : Addr), Heap.ExtBut it s.heap h' → (∃ o, h'.get? e = some o ∧ o.cls = .type "StopIteration") → E (.ref e) { s with heap := h' }) : wpAny (model prog w) A (Builtin.SmallTypes.nextOf (.ref it)) Q E s := by
  unfold Builtin.SmallTypes.nextOf
  exact wpAny_bind (wpAny_callSpecial?_slot hi.typeIs F.slot_tuple_iterator_next (call_meets F.slot_tuple_iterator_next hi.typeIs F.entry_tuple_iterator_next (F.args_tuple_iterator_next_1 _) (tup_next_end it t i items) ⟨hh, hi, ht, hx, k⟩))
theorem drawsTup {prog : Program} {w : World} {A : Around} (hh : A.handled = none) (it t : Addr) (ne : t ≠ it) (items : Array Value) :
    Draws prog w A it [it, t] items.size (fun i v => items[i]? = some v) (fun i h => h.IsTupleIter it t i ∧ h.IsTuple t items) where
  live := fun i h z => z.1.imp fun o y => y.1
  frame := fun i h h' z k => ⟨z.1.at fun o e => k it List.mem_cons_self o e, z.2.imp fun o y => ⟨k t (List.mem_cons_of_mem _ List.mem_cons_self) o y.1, y.2⟩⟩
  item := fun i s Q E hi z k => nextOf_tup_item z.1 z.2 (Array.getElem?_eq_getElem hi) fun h' a b => k _ h' s.toks (Array.getElem?_eq_getElem hi) ⟨a, z.2.imp fun o y => ⟨(b.2 t ne).trans y.1, y.2⟩⟩ b
  done := fun s Q E z k => nextOf_tup_end hh z.1 z.2 (Array.getElem?_eq_none (Nat.le_refl _)) k
def IteT (K : PySem.W.Frag) (a : Addr) : It where
  go := fun i H => ∃ xs x, SqT K H a xs ∧ xs[i]? = some x
  yld := fun i H v H' => ∃ T x, v = .ref T ∧ H T = none ∧ H' = upd H T (.tup [.int i, x]) ∧ ∀ xs, SqT K H a xs → xs[i]? = some x
  stop := fun i H => ∃ xs, SqT K H a xs ∧ xs.length ≤ i
theorem turn_enumT {P : Program} {w : World} {K : PySem.W.Frag} {elts : List Expr} {kk : Nat} {tpos : Pos} (a e it : Addr) :
    Turn P w K (.Tuple elts kk tpos) (IteT K a) [e, it] e (fun i h => (∃ old, IsEnum h e it (i : Int) old) ∧ h.IsTupleIter it a i ∧ e ≠ it) where
  mem := List.mem_cons_self
  obj := fun i h ⟨⟨old, h1⟩, ⟨o, h2, _, h4⟩, _⟩ b hb => by
    rcases List.mem_cons.mp hb with rfl | hb
    · exact ⟨_, h1, fun v z => by cases z⟩
    · rw [List.mem_singleton.mp hb]
      exact ⟨o, h2, fun v z => by rw [h4] at z; cases z⟩
  keep := fun i h h' ⟨⟨old, h1⟩, h2, ne⟩ k => ⟨⟨old, k e List.mem_cons_self _ h1⟩, h2.at fun o z => k it (List.mem_cons_of_mem _ List.mem_cons_self) o z, ne⟩
  item := fun X hP hw hK hc i pins s σ H E I hf ⟨⟨old, h1⟩, h2, ne⟩ ⟨xs, x, hx, hi⟩ => by
    subst hP hw hK
    obtain ⟨its, rv, ht, hl⟩ := I.tuple hx
    obtain ⟨u, hu, ru⟩ := Vals.get rv hi
    have hu' : its.toArray[i]? = some u := by rw [List.getElem?_toArray]; exact hu
    have hlt : i < its.toArray.size := by
      rcases Nat.lt_or_ge i its.toArray.size with z | z
      · exact z
      · rw [Array.getElem?_eq_none z] at hu'; cases hu'
    obtain ⟨oi, gi, ci, di⟩ := h2
    obtain ⟨ot, gt, ct, nt, dt⟩ := ht
    have ae : a ≠ e := fun z => by rw [z, h1] at gt; cases gt; exact absurd (Value.type.inj ct) (by decide)
    have ai : a ≠ it := fun z => by rw [z, gi] at gt; cases gt; rw [ci] at ct; exact absurd (Value.type.inj ct) (by decide)
    refine wpAny_pyNext_enum_itemD (drawsTup (A := X.A.in1) (I.ok.hd hc) it a ai its.toArray) h1 ⟨⟨oi, gi, ci, di⟩, ⟨ot, gt, ct, nt, dt⟩⟩ hlt ne (by simp [ne, ae.symm]) fun y h' tk hy out st gT sz keep => ?_
    rw [hu'] at hy
    cases hy
    have eT : e ≠ s.heap.objs.size := fun z => by rw [← z, out] at gT; exact absurd (Value.type.inj (congrArg Obj.cls (Option.some.inj gT))) (by decide)
    have iT : it ≠ s.heap.objs.size := fun z => by obtain ⟨o, g, c, _⟩ := st.1; rw [z, gT] at g; cases g; exact absurd (Value.type.inj c) (by decide)
    refine ⟨_, rfl, wpAny_letOwnedTupleGo_enum out fun h2 hE same => ⟨.ref s.heap.objs.size, upd H s.heap.objs.size (.tup [.int i, x]), ?_, rfl, ⟨_, x, rfl, I.fresh, rfl, fun ys hy => ?_⟩, ⟨⟨_, hE⟩, ?_, ne⟩, fun b hb => ?_⟩⟩
    · refine I.turnedNew (ch := [e, it]) (fun b o nb g => ?_) hf (Nat.le_refl _) ?_
      · have b1 : b ≠ e := fun z => nb (by rw [z]; exact List.mem_cons_self)
        have b2 : b ≠ it := fun z => nb (by rw [z]; exact List.mem_cons_of_mem _ List.mem_cons_self)
        exact (same.2 b b1).trans (keep b o b1 b2 g)
      · have g2 : h2.get? s.heap.objs.size = _ := (same.2 _ (Ne.symm eT)).trans gT
        exact ⟨by show 2 ≤ 16777216; decide, [.int i tk, u], .cons ⟨tk, rfl⟩ (.cons ru .nil), ⟨_, g2, rfl, _, rfl⟩⟩
    · rw [I.tuple_inj hy hx]
      exact hi
    · exact st.1.at fun o g => (same.2 it ne.symm).trans g
    · rcases List.mem_cons.mp hb with rfl | hb
      · rw [upd_ne eT]
        exact (hf _ List.mem_cons_self).1
      · rw [List.mem_singleton.mp hb, upd_ne iT]
        exact (hf it (List.mem_cons_of_mem _ List.mem_cons_self)).1
  done := fun X hP hw hK hc i pins s σ H E I hf ⟨⟨old, h1⟩, h2, ne⟩ ⟨xs, hx, hi⟩ => by
    subst hP hw hK
    obtain ⟨its, rv, ht, hl⟩ := I.tuple hx
    have hn : its.toArray[i]? = none := Array.getElem?_eq_none (by have := rv.length; simp; omega)
    have D : Draws X.prog X.w X.A.in1 it [it, a] i (fun _ _ => True) (fun j h => j = i ∧ h.IsTupleIter it a i ∧ h.IsTuple a its.toArray) :=
      { live := fun j h z => z.2.1.imp fun o y => y.1
        frame := fun j h h' z k => ⟨z.1, z.2.1.at fun o g => k it List.mem_cons_self o g, z.2.2.imp fun o y => ⟨k a (List.mem_cons_of_mem _ List.mem_cons_self) o y.1, y.2⟩⟩
        item := fun j s Q E hj z _ => absurd z.1 (Nat.ne_of_lt hj)
        done := fun s Q E z k => nextOf_tup_end (I.ok.hd hc) z.2.1 z.2.2 hn k }
    refine wpAny_pyNext_enum_endD D h1 ⟨rfl, h2, ht⟩ fun h' ext => ⟨rfl, I.turnedL (ch := [e, it]) (fun b o nb g => ext b o (fun z => nb (by rw [z]; exact List.mem_cons_of_mem _ List.mem_cons_self)) g) hf⟩
  self := fun A i s Q E ⟨⟨old, h1⟩, h2, ne⟩ q => wpAny_pyIter_enum h1 q
def iEnumT (K : PySem.W.Frag) (ta : TE) : TI := fun σ H R => ta σ H fun x H1 => ∃ (a : Addr) (xs : List V), x = .ref a ∧ SqT K H1 a xs ∧ R (IteT K a) H1
theorem pi_enumT {X : Cx} {e : Expr} {ta : TE} {p pos tpos : Pos} {elts : List Expr} {kk : Nat} (hg : Gl X "enumerate") (hm : X.mg "enumerate" = none) (ha : PE X e ta)
    (na : starEach [e] X.env = (false, eval e X.env) :: starEach [] X.env := by rfl) : PI X (.Tuple elts kk tpos) (.Call (.Name "enumerate" p) [e] [] pos) (iEnumT X.K ta) := by
  refine ⟨fun pins s σ H R I h => ?_⟩
  refine Call_ (ld_blt I hg hm PyProof.Rows.boot_enumerate (PyProof.Rows.callWith_type1 (PyProof.Rows.args_cons (thn (ha.run pins s σ H _ I h) fun v s1 ⟨x, H1, J, rx, z⟩ => PyProof.Rows.args_nil ?_) na) na rfl))
  obtain ⟨a, xs, rfl, hx, q⟩ := z
  cases rx
  obtain ⟨its, rv, ht, hl⟩ := J.tuple hx
  refine call_enumT ht fun h' hE hI sz kp => wpAny_pyIter_enum hE ?_
  have J2 : Inv X pins σ H1 { s1 with heap := h' } := J.kept fun b o e => kp b o e
  have f1 : H1 s1.heap.objs.size = none := J.fresh
  have J1 : Inv X pins σ H1 { s1 with heap := s1.heap.push { cls := .type "tuple", data := .seq #[] } } := J.kept fun b o e => Heap.get?_push_of_some _ e
  have f2 : H1 (s1.heap.objs.size + 1) = none := by
    have := J1.fresh
    rw [show (s1.heap.push { cls := .type "tuple", data := .seq #[] }).objs.size = s1.heap.objs.size + 1 from Array.size_push _] at this
    exact this
  refine ⟨_, [s1.heap.objs.size + 1, s1.heap.objs.size], _, IteT X.K a, H1, rfl, J2, turn_enumT a _ _, ⟨⟨.none, hE⟩, hI, Nat.succ_ne_self _⟩, fun b hb => ?_, q⟩
  rcases List.mem_cons.mp hb with rfl | hb
  · exact J.fpOk (Nat.le_succ _) f2
  · rw [List.mem_singleton.mp hb]
    exact J.fpOk (Nat.le_refl _) f1
/-- enumerate of a tuple, for for_it and lc_it -/
theorem walk_enumT {K : PySem.W.Frag} {a : Addr} {xs : List V} : Walk (IteT K a) xs.length (fun H => SqT K H a xs) (YPair (fun i => some (V.int i)) fun i => xs[i]?) where
  goes := fun i H hi h => ⟨xs, xs[i], h, List.getElem?_eq_getElem hi⟩
  stops := fun H h => ⟨xs, h, Nat.le_refl _⟩
  yields := fun i H x H' hi h ⟨T, y, e, n, u, k⟩ => ⟨T, _, y, e, n, u, rfl, k xs h⟩
end L2

/-! set(numbers) of a list; list(d.values()). -/
namespace Own
open PySem PySem.Spec PyProof.Rows L2
section
variable {prog : Program} {w : World} {A : Around} {E : Value → Shared → Prop} {s : Shared}
set_option maxHeartbeats 3200000 in
theorem ints_of_list {l : Addr} {its : Array Value} {ns : List Int} {Q : Value → Shared → Prop} (hh : A.handled = none) (hl : s.heap.IsList l its) (hi : PyProof.Rows.IntsAre its.toList ns) (small : ns.length < 1000)
    (h : ∀ (h' : Heap) (tk c : Nat), SetR w h' s.heap.objs.size (fun j => decide (j ∈ ns)) c → c ≤ ns.length → (∀ b o, b < s.heap.objs.size → s.heap.get? b = some o → h'.get? b = some o) → Q (.ref s.heap.objs.size) { s with heap := h', toks := tk }) :
    wpAny (model prog w) A (call (.type "set") [.ref l]) Q E s := by
  obtain ⟨c, tl, hmro⟩ := PySem.F.called_set.mro
  have hmade := PySem.F.called_set.made
  have hsub := PySem.F.called_set.sub
  refine wpAny_call (codeAny_of_tree (wpAny_pure ⟨Code.quiet_builtin _ (by decide +kernel), codeAny_builtin PySem.F.entry_type_call ?_⟩))
  rw [Around.under_plain (weight_type_call_type "set" [.ref l] []) rfl]
  have g1 := PySem.F.called_set.notType
  have g2 := PySem.F.called_set.canCreate
  have g3 := PySem.F.typeCall_set_1 (.ref l)
  repeat (any_goals (first | assumption | wp_step))
  -- the empty set is made
  generalize hled : (!w.params.followText "set-order") = led
  have made : ∀ {M : Value → Shared → Prop}, M (.ref s.heap.objs.size) { s with heap := s.heap.push { cls := .type "set", dict := none, data := .set #[] 0 (.fresh 0 0 led) } } → codeAny (model prog w) A.in1 (.call (.builtin "set.__new__") ⟨[.type "set", .ref l], []⟩) (wants M E) s := fun z => code_set_led1 (.ref l) (by rw [hled]; exact z)
  refine codeAny_mono (made (M := fun v s₁ => v = .ref s.heap.objs.size ∧ s₁ = { s with heap := s.heap.push { cls := .type "set", dict := none, data := .set #[] 0 (.fresh 0 0 led) } }) ⟨rfl, rfl⟩) ?_
  rintro (e | _ | _ | _ | v) s₁ z
  · exact z
  · exact z.elim
  · exact z.elim
  · exact z.elim
  · obtain ⟨rfl, rfl⟩ := z
    have at0 : (s.heap.push { cls := .type "set", dict := none, data := .set #[] 0 (.fresh 0 0 led) }).get? s.heap.objs.size = some { cls := .type "set", dict := none, data := .set #[] 0 (.fresh 0 0 led) } := Heap.get?_push_size _ rfl
    have ty : Shared.TypeIs { s with heap := s.heap.push { cls := .type "set", dict := none, data := .set #[] 0 (.fresh 0 0 led) } } (.ref s.heap.objs.size) "set" := ⟨_, at0, rfl⟩
    have g4 := PySem.F.called_set.init.lookup
    have g5 := PySem.F.called_set.init.bind (.ref s.heap.objs.size)
    repeat (any_goals (first | assumption | wp_step))
    -- and filled
    refine codeAny_mono (codeAny_call_builtin (R := wants (fun r s₂ => r = .none ∧ ∃ h' tk c, s₂ = { s with heap := h', toks := tk } ∧ SetR w h' s.heap.objs.size (fun j => decide (j ∈ ns)) c ∧ c ≤ ns.length ∧ (∀ b o, b < s.heap.objs.size → s.heap.get? b = some o → h'.get? b = some o)) E)
      PySem.F.called_set.init.plain PySem.F.entry_set_init (check_set_init_1 ty ?_)) ?_
    · obtain ⟨⟨cls, dd, dat, sl⟩, hol, hc, nl, hd⟩ := hl
      simp only at hc hd
      subst hc hd
      have old := Heap.lt_size hol
      have hol2 : (s.heap.push { cls := .type "set", dict := none, data := .set #[] 0 (.fresh 0 0 led) }).get? l = some { cls := .type "list", dict := dd, data := .seq its nl, slots := sl } := Heap.get?_push_of_some _ hol
      have hl2 : (s.heap.push { cls := .type "set", dict := none, data := .set #[] 0 (.fresh 0 0 led) }).IsList l its := ⟨_, hol2, rfl, nl, rfl⟩
      have f1 := PySem.F.sub_list_set
      have f2 := PySem.F.sub_list_frozenset
      have f3 : (Value.type "list" == Value.type "dict") = false := by decide
      unfold Builtin.«set.__init__» noKeywords Builtin.Frozenset.updateFrom
      generalize hit : pyIter = itf
      wp_walk
      subst hit
      refine wpAny_pyIter_list hl2 ?_
      refine wpAny_bind (wpAny_runValue ?_)
      have top : (s.heap.push { cls := .type "set", dict := none, data := .set #[] 0 (.fresh 0 0 led) }).objs.size = s.heap.objs.size + 1 := Heap.size_push ..
      have ne1 : l ≠ (s.heap.push { cls := .type "set", dict := none, data := .set #[] 0 (.fresh 0 0 led) }).objs.size := by rw [top]; exact Nat.ne_of_lt (Nat.lt_succ_of_lt old)
      have out : s.heap.objs.size ∉ [(s.heap.push { cls := .type "set", dict := none, data := .set #[] 0 (.fresh 0 0 led) }).objs.size, l] := by
        rw [top]
        intro m
        rcases List.mem_cons.mp m with e | m
        · exact absurd e (Nat.ne_of_lt (Nat.lt_succ_self _))
        · exact absurd (List.mem_singleton.mp m) (Nat.ne_of_gt old)
      have len : its.size = ns.length := by rw [← PyProof.Rows.IntsAre.length hi, Array.length_toList]
      have val : ∀ (i : Nat) (v : Value), its[i]? = some v → ∃ k t, ns[i]? = some k ∧ v = .int k t := fun i v hv => by
        have lt : i < ns.length := by rw [← len]; exact (Array.getElem?_eq_some_iff.mp hv).1
        obtain ⟨t, e⟩ := PyProof.Rows.IntsAre.int_at hi i v (by rw [Array.getElem?_toList]; exact hv)
        rw [List.getD_eq_getElem?_getD, List.getElem?_eq_getElem lt] at e
        exact ⟨ns[i], t, List.getElem?_eq_getElem lt, e⟩
      refine set_update_ints ((Walks.list (show A.in1.in1.in1.handled = none by simp [hh]) _ l ne1 its).toS) s.heap.objs.size out ns len (by show _ < 4096; omega) val (its.size - 0) 0 _ (by omega) (Nat.zero_le _) ⟨⟨_, Heap.get?_push_size _ rfl, rfl, rfl⟩, hl2.push _⟩ ⟨0, Nat.le_refl 0, setR_new_at ?_⟩ ?_
      · rw [hled]
        exact Heap.get?_push_of_some _ at0
      · rintro ⟨h', g', d', tk', os'⟩ c m hc hS'
        obtain rfl : g' = s.gens := m.gens
        obtain rfl : d' = s.drawn := m.drawn
        obtain rfl : os' = s.os := m.os
        refine wpAny_pure (wpAny_pure ⟨rfl, h', tk', c, rfl, hS', by omega, fun b o hb e => ?_⟩)
        refine m.heap b o (fun mm => ?_) (Heap.get?_push_of_some _ (Heap.get?_push_of_some _ e))
        rcases List.mem_cons.mp mm with e1 | mm
        · exact absurd e1 (Nat.ne_of_lt hb)
        · have e2 : b = (s.heap.push { cls := .type "set", dict := none, data := .set #[] 0 (.fresh 0 0 led) }).objs.size := List.mem_singleton.mp mm
          rw [top] at e2
          omega
    · rintro (e | _ | _ | _ | v) s₂ z
      · exact z
      · exact z.elim
      · exact z.elim
      · exact z.elim
      · obtain ⟨rfl, h', tk, c, rfl, hS', hc, kp⟩ := z
        repeat (any_goals (first | assumption | wp_step))
        exact h _ _ _ hS' hc kp
end
section
variable {X : Cx}
def rSetL (w : World) (K : PySem.W.Frag) : List V → Hp → VK → Prop := fun vs H Q => ∃ (l : Addr) (ns : List Int), vs = [.ref l] ∧ SqL K H l (ns.map V.int) ∧ ns.length < 1000 ∧
  ∀ (p : Addr) (c : Nat), H p = none → c ≤ ns.length → Q (.ref p) (upd H p (SetO w p (fun j => decide (j ∈ ns)) c))
/-- set(numbers) of a list -/
theorem cr_setL {w : World} (hc : X.calm = true) (hw : X.w = w) : CallR X (.type "set") (rSetL w X.K) := by
  subst hw
  intro pins s σ H vs us Q I r h
  obtain ⟨l, ns, rfl, hq, small, q⟩ := h
  rw [Vals.ref1 r]
  obtain ⟨its, rv, pl, _⟩ := I.list hq
  refine ints_of_list (I.ok.hd hc) pl.isList (by simpa using ints_of_vals rv) small fun h' tk c hS le kp => ?_
  have n := I.hok.fresh (Nat.le_refl s.heap.objs.size)
  exact ⟨.ref _, upd H s.heap.objs.size (SetO X.w s.heap.objs.size (fun j => decide (j ∈ ns)) c), I.laid (t' := tk) (fun b u e => kp b u (Heap.lt_size e) e) (Nat.le_refl _) (setO_new hS), rfl, q _ c n le⟩
theorem vals_snd : ∀ {kvs : List (Key × V)} {vs : List (Key × Value)}, KV kvs vs → Vals (kvs.map (·.2)) (vs.map (·.2))
  | _, _, .nil => .nil
  | _, _, .cons h t => .cons h.2 (vals_snd t)
variable {e : Expr} {te : TE} {p apos cpos pos : Pos}
def tListVals (te : TE) : TE := fun σ H Q => te σ H fun x H1 => ∃ (d : Addr) (kvs : List (Key × V)), x = .ref d ∧ H1 d = some (.dK kvs) ∧ ∀ l, H1 l = none → Q (.ref l) (upd H1 l (.lst (kvs.map (·.2))))
/-- list(e.values()) -/
theorem pe_listVals (hc : X.calm = true) (he : PE X e te) (hg : Gl X "list") (hm : X.mg "list" = none) (hv : bootBuiltins "list" = some (.type "list")) (hbase : attributeBase e "values" X.env (eval e X.env) = eval e X.env := by rfl) (hline : (apos.endLine == cpos.line) = true := by rfl)
    (hs : starEach [.Call (.Attribute e "values" apos) [] [] cpos] X.env = (false, eval (.Call (.Attribute e "values" apos) [] [] cpos) X.env) :: starEach [] X.env := by rfl) :
    PE X (.Call (.Name "list" p) [.Call (.Attribute e "values" apos) [] [] cpos] [] pos) (tListVals te) := by
  refine ⟨fun pins s σ H Q I z => wpAny_Call_Name_kw (ld_blt I hg hm hv (PyProof.Rows.callWith_type1 ?_ hs rfl))⟩
  rw [hs]
  refine Calls.spliced_cons (wpAny_Call_method (T := "dict") (id := "dict.values") hbase rfl hline PySem.F.plainAttrs_dict PySem.F.slot_dict_values PySem.F.type_dict_values (thn (he.run pins s σ H _ I z) ?_))
  rintro u s1 ⟨x, H1, I1, rx, d, kvs, rfl, hd, q⟩
  cases rx
  obtain ⟨len, notMods, vs, kv, isDict⟩ := I1.hok d _ hd
  obtain ⟨ep, stands⟩ := isDict.dictAt
  have same : kvs.length = vs.length := Paired.length kv
  refine ⟨isDict.typeIs, isDict.mapOf.noDict, method_meetsIn PySem.F.slot_dict_values PySem.F.entry_dict_values rfl (PySem.evalArgs_none ⟨rfl, isDict.typeIs, PySem.F.args_dict_values_1 _, _, meets_dict_values (mixKind X.prog X.w) d notMods, ⟨vs, isDict⟩, Calls.spliced_nil ?_⟩)⟩
  have J : Inv X pins σ H1 { s1 with heap := s1.heap.push { cls := .type "dict_values", data := .fields #[.ref d] } } := I1.kept (t' := s1.toks) fun _ _ there => Heap.get?_push_of_some _ there
  refine PySem.W.kdl_call (PySem.W.kdl_values (knd := mixKind X.prog X.w) (kvs := vs) (ep := ep) (r := s1.heap.objs.size) (d := d)) (I1.ok.hd hc) ⟨⟨_, Heap.get?_push_size _ rfl, rfl, rfl⟩, stands.push _⟩ (by omega) fun h' tk acc c' kp at0 its => ?_
  have all : acc.toList = vs.map (·.2) := PySem.W.kdl_vals_eq acc.toList (by rw [Array.length_toList]; exact its.1) fun j v e => its.2 j v (by rw [← Array.getElem?_toList]; exact e)
  refine ⟨.ref _, upd H1 _ (.lst (kvs.map (·.2))), J.laid (t' := tk) kp (Nat.le_refl _) ⟨by rw [List.length_map]; exact len, acc.toList, c', by rw [all]; exact vals_snd kv, ?_⟩, rfl, q _ (J.hok.fresh (Nat.le_refl _))⟩
  rw [Array.toArray_toList]
  exact at0
end
end Own

/-! x in t, t a tuple, all of any depth. -/
namespace Own
open PySem PySem.Spec PyProof.Rows L2
def rInT (K : PySem.W.Frag) : R2 := fun x y H Q => ∃ (d : PyData) (ds : List PyData), Dp K H x d ∧ Dp K H y (.tuple ds) ∧ SeqAt.shaped d = true ∧ SeqAt.shaped (.tuple ds) = true ∧ Q (.bl (ds.any fun z => PyData.eqv z d)) H
theorem op_inT {X : Cx} (room : X.A.units + 65 < cLine) : OpR X (compareOp .In) (rInT X.K) := by
  rintro pins s σ H x y v u Q I rx ry ⟨d, ds, dx, dy, sx, sy, q⟩
  obtain ⟨_, seen⟩ := Dp.reads I d x v dx rx
  obtain ⟨_, held⟩ := Dp.reads I (.tuple ds) y u dy ry
  exact SeqAt.in_tuple_reads held seen (SeqAt.canLay_of_shaped sy) (SeqAt.canLay_of_shaped sx) (room_in_shaped sx room) ⟨.bl _, H, I, rfl, q⟩
def rNotInT (K : PySem.W.Frag) : R2 := fun x y H Q => ∃ (d : PyData) (ds : List PyData), Dp K H x d ∧ Dp K H y (.tuple ds) ∧ SeqAt.shaped d = true ∧ SeqAt.shaped (.tuple ds) = true ∧ Q (.bl (!ds.any fun z => PyData.eqv z d)) H
theorem op_notInT {X : Cx} (room : X.A.units + 65 < cLine) : OpR X (compareOp .NotIn) (rNotInT X.K) := by
  rintro pins s σ H x y v u Q I rx ry ⟨d, ds, dx, dy, sx, sy, q⟩
  obtain ⟨_, there⟩ := Dp.reads I (.tuple ds) y u dy ry
  obtain ⟨_, own⟩ := Dp.reads I d x v dx rx
  exact SeqAt.notIn_tuple_reads there own (SeqAt.canLay_of_shaped sy) (SeqAt.canLay_of_shaped sx) (room_in_shaped sx room) ⟨.bl _, H, I, rfl, q⟩
end Own

/-! name = {k: v for ..} on one line, the name a local. -/
namespace Own
open PySem PySem.Spec PyProof.Rows L2
theorem swD_true {kx vx : Expr} {gs : List Comprehension} {scope : Scope} {pos py : Pos} {y : Str} {l : Nat} {env : Env} (fn : env.scope.kind = .function) (loc : env.scope.names.lookup y = some .local) (row : (py.line == pos.line) = true)
    (out : (scope.names.any fun (n, k) => n == y && (k == .local || k == .cell)) = false) : swapsWith (.DictComp kx vx gs scope pos) (some (.Name y py)) l env = pure true := by
  have kind : env.kindOf y = some .local := loc
  have block : env.blockKind = .function := by rw [Env.blockKind, fn] <;> rfl
  unfold swapsWith
  simp only [block, kind, out, Expr.pos, row]
  rfl
/-- a comprehension within a comprehension: what stands around it is told anew -/
theorem look_re {env : Env} {x : Str} : ∀ {names : List (Str × NameKind)}, names.lookup x = some .cell ∨ names.lookup x = some .free →
    (names.map fun (n, k) => if (k == NameKind.free && env.scope.kind == .function && env.kindOf n == some .cell) then (n, NameKind.cell) else (n, k)).lookup x = some .cell ∨
    (names.map fun (n, k) => if (k == NameKind.free && env.scope.kind == .function && env.kindOf n == some .cell) then (n, NameKind.cell) else (n, k)).lookup x = some .free
  | [], h => by rcases h with h | h <;> cases h
  | (n, k) :: r, h => by
    have ih := @look_re env x r
    have pair : ∀ c : Bool, (if c = true then (n, NameKind.cell) else (n, k)) = (n, if c = true then NameKind.cell else k) := fun c => by cases c <;> rfl
    rw [List.map_cons]
    dsimp only
    rw [pair]
    generalize (k == NameKind.free && env.scope.kind == .function && env.kindOf n == some .cell) = c
    by_cases e : x = n
    · subst e
      rw [List.lookup_cons_self] at h
      rw [List.lookup_cons_self]
      cases c with
      | true => exact .inl rfl
      | false => exact h
    · have b : (x == n) = false := beq_eq_false_iff_ne.mpr e
      rw [List.lookup_cons, b] at h
      rw [List.lookup_cons, b]
      exact ih h
theorem blkOk_re {N : List Str} {sc scope : Scope} {own : List (Str × Nat)} {env : Env} (h : BlkOk N sc scope own) : BlkOk N (relabel sc env) scope own :=
  ⟨h.kind, h.uniq, h.ix, fun y hy e => look_re (h.free y hy e), h.own⟩
section
variable {X : Cx} {i : Nat} {y : Str} {py : Pos} {kx vx tg iter : Expr} {ifs : List Expr} {scope : Scope} {own : List (Str × Nat)} {pos spos : Pos} {wi : TI} {g : TG} {tt : TT} {tk tv : TE}
theorem ps_setDc (hc : X.calm = true) (hN : X.N.Nodup) (hy : X.N[i]? = some y) (hyl : X.env.scope.names.lookup y = some .local) (hsw : swapsWith (.DictComp kx vx [⟨tg, iter, ifs, 0⟩] scope pos) (some (.Name y py)) spos.line X.env = pure true)
    (hi : PI X tg iter wi) (ok : BlkOk X.N X.env.scope scope own)
    (hg : ∀ (s : Shared) (H : Hp) (C : Addr) (cl : List (Str × Addr)) (fp : List Addr), PG (X.blk s H scope (compEnvC scope cl C X.env) fp) tg g)
    (ht : ∀ (s : Shared) (H : Hp) (C : Addr) (cl : List (Str × Addr)) (fp : List Addr), PTs (X.blk s H scope (compEnvC scope cl C X.env) fp) ifs tt)
    (hk : ∀ (s : Shared) (H : Hp) (C : Addr) (cl : List (Str × Addr)) (fp : List Addr), PE (X.blk s H scope (compEnvC scope cl C X.env) fp) kx tk)
    (he : ∀ (s : Shared) (H : Hp) (C : Addr) (cl : List (Str × Addr)) (fp : List Addr), PE (X.blk s H scope (compEnvC scope cl C X.env) fp) vx tv) (hs : ∀ x, foldedSetIterable iter X.env x = pure x := by intro _; rfl) :
    PS X (.Assign [.Name y py] (.DictComp kx vx [⟨tg, iter, ifs, 0⟩] scope pos) spos) (tAsg (tDc wi g tt tk tv (own.map (·.2))) (gName i)) := by
  refine ⟨fun pins s σ H D I given => ?_⟩
  rw [exec_Assign_Name_used _ _ _ _ hsw]
  refine wpAny_bind (wpAny_standAt (wpAny_bind (wpAny_bind ?_)))
  have given : tDc wi g tt tk tv (own.map (·.2)) σ H (fun x H1 => gName i x σ H1 D.nx) := given
  refine thn (dc_core (use := some (assign (.Name y py) X.env)) (Qf := fun _ s' => SP X pins D .next s') hc hN I hi ok hg ht hk he hs given ?_) fun _ s' done => wpAny_pure (wpAny_pure done)
  intro L C s' m H' J next held ⟨c0, c1, c2, c3, c4, c5⟩
  refine wpAny_assign_Name (store_ok2 (v := V.ref L) J hN hy (.inl hyl) rfl (fun s2 J2 ⟨a, same, which⟩ => ?_) (.inr hyl))
  have apart : C ≠ a := which.elim (fun z => by rw [z]; exact c1) fun z e => c4 y a z e.symm
  exact ⟨m, held.sameBut same apart, fun h3 sb => ⟨_, H', J2.turned (t' := s2.toks) (fun b o hb e => (sb.2 b hb).trans e) c0 c1 c3 c4 c5, next⟩⟩
end
end Own

namespace Own
open PySem PySem.Spec PyProof.Rows L2
/-! ### levels: the numbers that some things have, and the things cut by them -/
section
variable {α : Type} [DecidableEq α]
def Lev (zs : List α) (f : α → Int) (ls : List Int) : Prop := ls.Pairwise (· < ·) ∧ ∀ k, k ∈ ls ↔ ∃ z ∈ zs, f z = k
def cutBy (zs : List α) (f : α → Int) (ls : List Int) : List (List α) := ls.map fun k => zs.filter fun z => decide (f z = k)
theorem rise_eq : ∀ {a b : List Int}, a.Pairwise (· < ·) → b.Pairwise (· < ·) → (∀ k, k ∈ a ↔ k ∈ b) → a = b
  | [], [], _, _, _ => rfl
  | [], y :: b, _, _, h => by have := (h y).mpr List.mem_cons_self; cases this
  | x :: a, [], _, _, h => by have := (h x).mp List.mem_cons_self; cases this
  | x :: a, y :: b, h1, h2, h => by
    have p1 := List.pairwise_cons.mp h1
    have p2 := List.pairwise_cons.mp h2
    have e : x = y := by
      have a1 := (h x).mp List.mem_cons_self
      have a2 := (h y).mpr List.mem_cons_self
      rcases List.mem_cons.mp a1 with e | a1
      · exact e
      · rcases List.mem_cons.mp a2 with e | a2
        · exact e.symm
        · have := p2.1 x a1
          have := p1.1 y a2
          omega
    subst e
    refine congrArg _ (rise_eq p1.2 p2.2 fun k => ?_)
    have hk := h k
    constructor
    · intro m
      rcases List.mem_cons.mp (hk.mp (List.mem_cons_of_mem _ m)) with e | m'
      · have := p1.1 k m
        omega
      · exact m'
    · intro m
      rcases List.mem_cons.mp (hk.mpr (List.mem_cons_of_mem _ m)) with e | m'
      · have := p2.1 k m
        omega
      · exact m'
theorem Lev.uniq {zs : List α} {f : α → Int} {a b : List Int} (h : Lev zs f a) (g : Lev zs f b) : a = b := rise_eq h.1 g.1 fun k => (h.2 k).trans (g.2 k).symm
def pick (zs : List α) (f : α → Int) (g : α → Int) (k : Int) : Int := match zs.find? fun z => decide (f z = k) with
  | some z => g z
  | none => 0
theorem pick_at {zs : List α} {f g : α → Int} {z : α} (hz : z ∈ zs) : ∃ y ∈ zs, f y = f z ∧ pick zs f g (f z) = g y := by
  unfold pick
  cases e : zs.find? fun y => decide (f y = f z) with
  | none => exact absurd (List.find?_eq_none.mp e z hz) (by simp)
  | some y => exact ⟨y, List.mem_of_find?_eq_some e, (by have := List.find?_some e; simpa using this), rfl⟩
theorem cut_same {zs : List α} {f g : α → Int} {a b : List Int} (h : Lev zs f a) (k : Lev zs g b) (iso : ∀ y ∈ zs, ∀ z ∈ zs, (f y < f z ↔ g y < g z)) : cutBy zs f a = cutBy zs g b := by
  have eqv : ∀ y ∈ zs, ∀ z ∈ zs, (f y = f z ↔ g y = g z) := fun y hy z hz => by
    have h1 := iso y hy z hz
    have h2 := iso z hz y hy
    omega
  have e : b = a.map (pick zs f g) := by
    refine rise_eq k.1 (List.pairwise_map.mpr (h.1.imp_of_mem fun {i j} hi hj lt => ?_)) fun n => ?_
    · obtain ⟨y, hy, rfl⟩ := (h.2 i).mp hi
      obtain ⟨z, hz, rfl⟩ := (h.2 j).mp hj
      obtain ⟨y', hy', e1, e2⟩ := pick_at (g := g) (f := f) hy
      obtain ⟨z', hz', e3, e4⟩ := pick_at (g := g) (f := f) hz
      rw [e2, e4]
      exact (iso y' hy' z' hz').mp (by omega)
    · rw [k.2, List.mem_map]
      constructor
      · rintro ⟨z, hz, rfl⟩
        obtain ⟨y, hy, e1, e2⟩ := pick_at (g := g) (f := f) hz
        exact ⟨f z, (h.2 _).mpr ⟨z, hz, rfl⟩, e2.trans ((eqv y hy z hz).mp e1)⟩
      · rintro ⟨i, hi, rfl⟩
        obtain ⟨z, hz, rfl⟩ := (h.2 i).mp hi
        obtain ⟨y, hy, e1, e2⟩ := pick_at (g := g) (f := f) hz
        exact ⟨y, hy, e2.symm⟩
  rw [e]
  unfold cutBy
  rw [List.map_map]
  refine List.map_congr_left fun i hi => List.filter_congr fun z hz => ?_
  obtain ⟨y, hy, rfl⟩ := (h.2 i).mp hi
  obtain ⟨y', hy', e1, e2⟩ := pick_at (g := g) (f := f) hy
  show decide (f z = f y) = decide (g z = pick zs f g (f y))
  rw [e2]
  refine decide_eq_decide.mpr ?_
  rw [← eqv z hz y' hy', e1]
theorem cut_ne {zs : List α} {f : α → Int} {a : List Int} (h : Lev zs f a) : ∀ t ∈ cutBy zs f a, t ≠ [] := by
  intro t ht e
  obtain ⟨k, hk, rfl⟩ := List.mem_map.mp ht
  obtain ⟨z, hz, rfl⟩ := (h.2 k).mp hk
  have : z ∈ zs.filter fun y => decide (f y = f z) := List.mem_filter.mpr ⟨hz, decide_eq_true rfl⟩
  rw [e] at this
  cases this
theorem cut_mem {zs : List α} {f : α → Int} {a : List Int} (h : Lev zs f a) (z : α) : z ∈ (cutBy zs f a).flatten ↔ z ∈ zs := by
  rw [List.mem_flatten]
  constructor
  · rintro ⟨t, ht, hz⟩
    obtain ⟨k, hk, rfl⟩ := List.mem_map.mp ht
    exact (List.mem_filter.mp hz).1
  · intro hz
    exact ⟨_, List.mem_map.mpr ⟨f z, (h.2 _).mpr ⟨z, hz, rfl⟩, rfl⟩, List.mem_filter.mpr ⟨hz, decide_eq_true rfl⟩⟩
theorem cut_nodup {zs : List α} {f : α → Int} (n : zs.Nodup) : ∀ {a : List Int}, a.Pairwise (· < ·) → (cutBy zs f a).flatten.Nodup
  | [], _ => List.nodup_nil
  | k :: a, h => by
    have p := List.pairwise_cons.mp h
    show ((zs.filter fun z => decide (f z = k)) ++ (cutBy zs f a).flatten).Nodup
    refine List.nodup_append.mpr ⟨n.filter _, cut_nodup n p.2, fun x hx y hy e => ?_⟩
    subst e
    have h1 := of_decide_eq_true (List.mem_filter.mp hx).2
    obtain ⟨t, ht, hz⟩ := List.mem_flatten.mp hy
    obtain ⟨j, hj, rfl⟩ := List.mem_map.mp ht
    have h2 := of_decide_eq_true (List.mem_filter.mp hz).2
    have := p.1 j hj
    omega
/-- the place of the first part that has it -/
def place : List (List α) → α → Nat
  | [], _ => 0
  | t :: ts, z => if z ∈ t then 0 else place ts z + 1
theorem place_le (z : α) : ∀ ts : List (List α), place ts z ≤ ts.length
  | [] => Nat.le_refl _
  | t :: ts => by
    have := place_le z ts
    unfold place
    rw [List.length_cons]
    split <;> omega
theorem place_lt {z : α} : ∀ {ts : List (List α)}, z ∈ ts.flatten → place ts z < ts.length
  | [], h => by cases h
  | t :: ts, h => by
    unfold place
    rw [List.length_cons]
    by_cases e : z ∈ t
    · rw [if_pos e]; omega
    · rw [if_neg e]
      have h : z ∈ t ++ ts.flatten := h
      have := place_lt (ts := ts) ((List.mem_append.mp h).resolve_left e)
      omega
theorem place_out {z : α} : ∀ {ts : List (List α)}, z ∉ ts.flatten → place ts z = ts.length
  | [], _ => rfl
  | t :: ts, h => by
    have h : z ∉ t ++ ts.flatten := h
    unfold place
    rw [if_neg (fun e => h (List.mem_append_left _ e)), place_out (ts := ts) fun e => h (List.mem_append_right _ e)] <;> rfl
theorem place_at {z : α} : ∀ {ts : List (List α)} {i : Nat} {t : List α}, ts.flatten.Nodup → ts[i]? = some t → z ∈ t → place ts z = i
  | [], i, t, _, h, _ => by cases h
  | s :: ts, 0, t, _, h, hz => by
    cases h
    unfold place
    rw [if_pos hz]
  | s :: ts, i + 1, t, n, h, hz => by
    have n : (s ++ ts.flatten).Nodup := n
    have n2 := List.nodup_append.mp n
    have ht : ts[i]? = some t := h
    have hf : z ∈ ts.flatten := List.mem_flatten.mpr ⟨t, List.mem_of_getElem? ht, hz⟩
    unfold place
    rw [if_neg (fun e => n2.2.2 z e z hf rfl), place_at n2.2.1 ht hz]
theorem place_mem {z : α} : ∀ {ts : List (List α)} {i : Nat} {t : List α}, ts[i]? = some t → place ts z = i → z ∈ t
  | [], i, t, h, _ => by cases h
  | s :: ts, 0, t, h, hz => by
    cases h
    unfold place at hz
    by_cases e : z ∈ s
    · exact e
    · rw [if_neg e] at hz
      omega
  | s :: ts, i + 1, t, h, hz => by
    unfold place at hz
    by_cases e : z ∈ s
    · rw [if_pos e] at hz
      omega
    · rw [if_neg e] at hz
      exact place_mem (ts := ts) h (by omega)
/-- the places in what is cut rise as the numbers do -/
theorem cut_place {zs : List α} {f : α → Int} {a : List Int} (n : zs.Nodup) (h : Lev zs f a) {y z : α} (hy : y ∈ zs) (hz : z ∈ zs) : f y < f z ↔ place (cutBy zs f a) y < place (cutBy zs f a) z := by
  have nd := cut_nodup (f := f) n h.1
  have at' : ∀ {x : α}, x ∈ zs → ∃ i, a[i]? = some (f x) ∧ place (cutBy zs f a) x = i := fun {x} hx => by
    obtain ⟨i, hi⟩ := List.mem_iff_getElem?.mp ((h.2 (f x)).mpr ⟨x, hx, rfl⟩)
    refine ⟨i, hi, place_at nd (t := zs.filter fun z => decide (f z = f x)) ?_ (List.mem_filter.mpr ⟨hx, decide_eq_true rfl⟩)⟩
    unfold cutBy
    rw [List.getElem?_map, hi] <;> rfl
  obtain ⟨i, e1, e2⟩ := at' hy
  obtain ⟨j, e3, e4⟩ := at' hz
  rw [e2, e4]
  have up : ∀ {p q : Nat} {u v : Int}, a[p]? = some u → a[q]? = some v → p < q → u < v := fun {p q u v} hp hq lt => by
    obtain ⟨hp1, hp2⟩ := List.getElem?_eq_some_iff.mp hp
    obtain ⟨hq1, hq2⟩ := List.getElem?_eq_some_iff.mp hq
    rw [← hp2, ← hq2]
    exact List.pairwise_iff_getElem.mp h.1 p q hp1 hq1 lt
  constructor
  · intro lt
    rcases Nat.lt_trichotomy i j with c | c | c
    · exact c
    · subst c
      rw [e1] at e3
      have := Option.some.inj e3
      omega
    · have := up e3 e1 c
      omega
  · intro lt
    exact up e1 e3 lt
/-- numbers turned about -/
theorem Lev.neg {zs : List α} {f : α → Int} {a : List Int} (h : Lev zs f a) : Lev zs (fun z => -f z) (a.reverse.map fun k => -k) := by
  refine ⟨List.pairwise_map.mpr (List.pairwise_reverse.mpr (h.1.imp fun {i j} lt => by omega)), fun k => ?_⟩
  rw [List.mem_map]
  constructor
  · rintro ⟨j, hj, rfl⟩
    obtain ⟨z, hz, rfl⟩ := (h.2 j).mp (List.mem_reverse.mp hj)
    exact ⟨z, hz, rfl⟩
  · rintro ⟨z, hz, rfl⟩
    exact ⟨f z, List.mem_reverse.mpr ((h.2 _).mpr ⟨z, hz, rfl⟩), rfl⟩
theorem cut_neg {zs : List α} {f : α → Int} (a : List Int) : cutBy zs (fun z => -f z) (a.map fun k => -k) = cutBy zs f a := by
  unfold cutBy
  rw [List.map_map]
  refine List.map_congr_left fun k _ => List.filter_congr fun z _ => ?_
  show decide (-f z = -k) = decide (f z = k)
  exact decide_eq_decide.mpr ⟨fun e => by omega, fun e => by omega⟩
end
theorem nodup_out {α : Type} : ∀ {l : List α}, l.Nodup → ∀ {i : Nat} {z : α}, l[i]? = some z → z ∉ l.take i
  | [], _, i, z, h => by cases h
  | a :: l, n, 0, z, h => by rw [List.take_zero]; exact fun q => nomatch q
  | a :: l, n, i + 1, z, h => by
    have n2 := List.nodup_cons.mp n
    have h : l[i]? = some z := h
    rw [List.take_succ_cons]
    intro q
    rcases List.mem_cons.mp q with e | q
    · exact n2.1 (e ▸ List.mem_of_getElem? h)
    · exact nodup_out n2.2 h q
/-! ### a dict of names, each with its number -/
def tab (zs : List Str) (f : Str → Int) : List (Key × V) := zs.map fun z => (.inr z, .int (f z))
theorem tab_val (f : Str → Int) (z : Str) : ∀ zs : List Str, valV (tab zs f) (.inr z) = if z ∈ zs then some (.int (f z)) else none
  | [] => rfl
  | a :: zs => by
    by_cases e : a = z
    · subst e
      rw [if_pos List.mem_cons_self]
      exact valV_pos (p := (Sum.inr a, V.int (f a))) (r := tab zs f) rfl
    · have h : valV (tab (a :: zs) f) (.inr z) = valV (tab zs f) (.inr z) := valV_neg (p := (Sum.inr a, V.int (f a))) (r := tab zs f) (fun q => e (Sum.inr.inj q))
      rw [h, tab_val f z zs]
      by_cases m : z ∈ zs
      · rw [if_pos m, if_pos (List.mem_cons_of_mem _ m)]
      · rw [if_neg m, if_neg (fun q => (List.mem_cons.mp q).elim (fun q => e q.symm) m)]
theorem tab_len (zs : List Str) (f : Str → Int) : (tab zs f).length = zs.length := List.length_map ..
theorem tab_congr {zs : List Str} {f g : Str → Int} (h : ∀ z ∈ zs, f z = g z) : tab zs f = tab zs g := List.map_congr_left fun z hz => by rw [h z hz]
theorem tab_new {zs : List Str} {f : Str → Int} {z : Str} {n : Int} (h : z ∉ zs) (e : n = f z) : putK (tab zs f) (.inr z) (.int n) = tab (zs ++ [z]) f := by
  rw [putK_new _ (by rw [tab_val, if_neg h]), e]
  unfold tab
  rw [List.map_append]
  rfl
theorem tab_put {zs : List Str} {f : Str → Int} {z : Str} {n : Int} (h : z ∈ zs) : putK (tab zs f) (.inr z) (.int n) = tab zs (fun y => if y = z then n else f y) := by
  have a : ((tab zs f).any fun kv => decide (kv.1 = (.inr z : Key))) = true := by rw [valV_any, tab_val, if_pos h]; rfl
  unfold putK
  rw [if_pos a]
  unfold tab
  rw [List.map_map]
  refine List.map_congr_left fun y _ => ?_
  show (if (Sum.inr y : Key) = .inr z then ((Sum.inr y : Key), V.int n) else (.inr y, .int (f y))) = (.inr y, .int (if y = z then n else f y))
  by_cases e : y = z
  · rw [if_pos (congrArg Sum.inr e), if_pos e]
  · rw [if_neg (fun q => e (Sum.inr.inj q)), if_neg e]
theorem tab_merge (f : Str → Int) : ∀ (zs acc : List Str), (acc ++ zs).Nodup → mergeK (tab acc f) (tab zs f) = tab (acc ++ zs) f
  | [], acc, _ => by rw [List.append_nil] <;> rfl
  | z :: zs, acc, h => by
    have n : z ∉ acc := fun m => (List.nodup_append.mp h).2.2 z m z List.mem_cons_self rfl
    have e : acc ++ z :: zs = (acc ++ [z]) ++ zs := by rw [List.append_assoc] <;> rfl
    show mergeK (putK (tab acc f) (.inr z) (.int (f z))) (tab zs f) = _
    rw [tab_new n rfl, tab_merge f zs (acc ++ [z]) (by rw [← e]; exact h), e]
theorem tab_vals (zs : List Str) (f : Str → Int) : (tab zs f).map (·.2) = (zs.map f).map V.int := by
  unfold tab
  rw [List.map_map, List.map_map]
  rfl
end Own

/-! list(d.items()) of a dict whose keys are tuples. -/
namespace OwnIt
open PySem PySem.W PySem.Calls PyProof.Rows PyProof.V PySem.Spec
section
variable {prog : Program} {w : World} {A : Around} {E : Value → Shared → Prop} {s : Shared} {r d : Addr} {es : Array DictEntry} {ep : Nat}
theorem init_items {R : Result → Shared → Prop} (hh : A.handled = none) (hv : s.heap.IsItemsView r d) (hm : DT.Raw s.heap d es ep) (S : Addr) (hSr : S ≠ r) (hSd : d ≠ S) (hS : s.heap.get? S = some { cls := .type "list", data := .seq #[] })
    (hR : ∀ h' tk acc c as, (∀ b o, b ≠ S → s.heap.get? b = some o → h'.get? b = some o) → h'.get? S = some { cls := .type "list", dict := none, data := .seq acc c, slots := #[] } → as.length = es.size → DT.Made es S h' as →
      acc.toList = as.map Value.ref → R (.ok (.ret .none)) { s with heap := h', toks := tk }) (hn : es.size ≤ sizeLine) :
    wpAny (model prog w) A.in1 (Builtin.«list.__init__» ⟨[.ref S, .ref r], []⟩)
      (fun fin s' => match fin with | .done f => R (.ok f) s' | .again c' => c'.quiet = true ∧ codeAny (model prog w) A c' R s') (fun e s' => R (.error e) s') s := by
  show wpAny _ _ (do let old ← Builtin.List.listItems (.ref S); Builtin.List.listUpdate (.ref S) (fun _ => #[]); letGo old.toList.reverse; Builtin.List.listExtendWith (.ref S) (.ref r) .none) _ _ s
  refine wpAny_bind ?_
  unfold Builtin.List.listItems
  refine wpAny_bind (wpAny_seqItems hS rfl (wpAny_pure ?_))
  show wpAny _ _ (updateSeq S (fun _ => #[]) >>= fun _ => letGo (#[] : Array Value).toList.reverse >>= fun _ => Builtin.List.listExtendWith (.ref S) (.ref r) .none) _ _ s
  refine wpAny_bind (wpAny_updateSeq hS rfl ?_)
  have made := Heap.get?_update_self (Obj.mapSeq (fun _ => (#[] : Array Value))) hS rfl
  have other : ∀ b o, b ≠ S → s.heap.get? b = some o → (s.heap.update S (Obj.mapSeq (fun _ => (#[] : Array Value)))).get? b = some o := fun b o n e => (Heap.get?_update_other _ _ (Ne.symm n)).trans e
  refine wpAny_bind (wpAny_letGo ?_)
  exact DT.extI (es := es) (ep := ep) hh (hv.imp fun o x => ⟨other r o hSr.symm x.1, x.2⟩) (hm.at' fun o e => other d o hSd e) S hSr hSd .none _ made
    (fun h' tk acc c as hk hS' hl hG hacc => hR h' tk acc c as (fun b o n e => hk b o n (other b o n e)) hS' hl (hG.low (Nat.le_of_lt (Heap.lt_size made))) hacc) hn
theorem call_items {Q : Value → Shared → Prop} (hh : A.handled = none) (hv : s.heap.IsItemsView r d) (hm : DT.Raw s.heap d es ep) (hn : es.size ≤ sizeLine)
    (hQ : ∀ h' tk acc c as, (∀ b o, s.heap.get? b = some o → h'.get? b = some o) → h'.get? s.heap.objs.size = some { cls := .type "list", dict := none, data := .seq acc c, slots := #[] } → as.length = es.size → DT.Made es s.heap.objs.size h' as →
      acc.toList = as.map Value.ref → Q (.ref s.heap.objs.size) { s with heap := h', toks := tk }) :
    wpAny (model prog w) A (call (.type "list") [.ref r]) Q E s := by
  refine callType_codes (Q₁ := fun obj s₁ => obj = .ref s.heap.objs.size ∧ s₁ = { s with heap := s.heap.push { cls := .type "list", data := .seq #[] } }) PySem.F.called_list (PySem.F.typeCall_list_1 _) PySem.F.entry_list_init
    (code_list_new _ ⟨rfl, rfl⟩) fun obj s₁ h₁ => ?_
  obtain ⟨rfl, rfl⟩ := h₁
  have new : (s.heap.push { cls := .type "list", data := .seq #[] }).get? s.heap.objs.size = some { cls := .type "list", data := .seq #[] } := Heap.get?_push_size _ rfl
  have lr : r < s.heap.objs.size := hv.elim fun _ x => Heap.lt_size x.1
  refine ⟨⟨_, new, rfl⟩, PySem.F.args_list_init_2 _ _, init_items (es := es) (ep := ep) (A := A.in1) hh (hv.imp fun o x => ⟨Heap.get?_push_of_some _ x.1, x.2⟩) (hm.push _) _ (Nat.ne_of_gt lr) (Nat.ne_of_lt hm.lt) new (fun h' tk acc c as hk hS' hl hG hacc => ?_) hn⟩
  exact ⟨rfl, hQ h' tk acc c as (fun b o e => hk b o (Nat.ne_of_lt (Heap.lt_size e)) (Heap.get?_push_of_some _ e)) hS' hl hG hacc⟩
end
end OwnIt
namespace Own
open PySem PySem.Spec PyProof.Rows L2
/-- objects laid at addresses, one after another -/
def layO : Hp → List Addr → List HO → Hp
  | H, a :: as, o :: os => layO (upd H a o) as os
  | H, _, _ => H
theorem layO_off {b : Addr} : ∀ (as : List Addr) (os : List HO) (H : Hp), b ∉ as → layO H as os b = H b
  | [], _, _, _ => rfl
  | _ :: _, [], _, _ => rfl
  | a :: as, o :: os, H, h => by
    show layO (upd H a o) as os b = H b
    rw [layO_off as os _ fun m => h (List.mem_cons_of_mem _ m), upd_ne fun e => h (by rw [e]; exact List.mem_cons_self)]
theorem layO_at : ∀ (as : List Addr) (os : List HO) (H : Hp), as.Nodup → ∀ (j : Nat) {a : Addr} {o : HO}, as[j]? = some a → os[j]? = some o → layO H as os a = some o
  | [], _, _, _, _, _, _, h, _ => by cases h
  | _ :: _, [], _, _, _, _, _, _, h => by cases h
  | b :: as, u :: os, H, nd, 0, a, o, h, g => by
    cases h
    cases g
    show layO (upd H b u) as os b = some u
    rw [layO_off as os _ (List.nodup_cons.mp nd).1, upd_same]
  | b :: as, u :: os, H, nd, j + 1, a, o, h, g => layO_at as os _ (List.nodup_cons.mp nd).2 j h g
section
variable {X : Cx}
/-- the pairs that list(d.items()) lays: a key that stands, its value -/
def PairsT (H H' : Hp) (ts : List Addr) (kvs : List (List L2.Key × V)) : Prop := ts.length = kvs.length ∧ ∀ (j : Nat) (t : Addr) (q : List L2.Key × V), ts[j]? = some t → kvs[j]? = some q → ∃ kq, H kq = some (.tup (q.1.map kV)) ∧ H' t = some (.tup [.ref kq, q.2])
theorem call_listItT (hc : X.calm = true) : CallR X (.type "list") (fun xs H Q => ∃ (p a : Addr) (kvs : List (List L2.Key × V)), xs = [.ref p] ∧ H p = some (L2.DX.itemsO p a) ∧ H a = some (.dT kvs) ∧
    ∀ (H' : Hp) (L : Addr) (ts : List Addr), (∀ b o, H b = some o → H' b = some o) → H L = none → H' L = some (.lst (ts.map V.ref)) → PairsT H H' ts kvs → Q (.ref L) H') := by
  intro pins s σ H xs us Q I r h
  obtain ⟨p, a, kvs, rfl, hp, ha, q⟩ := h
  obtain rfl := Vals.ref1 r
  have view : s.heap.IsItemsView p a := (show ObjOk X.prog X.w H s.heap p (L2.DX.itemsO p a) from I.hok p _ hp).1
  obtain ⟨z, hd, ks, rel, o, es, ep, ho, hx, hdat, hes, his, hn⟩ := dt_of I.hok ha
  have l1 : kvs.length = ks.length := Paired.length rel
  have l2 : es.size = ks.length := size_of_entries hes
  refine OwnIt.call_items (es := es) (ep := ep) (I.ok.hd hc) view ⟨o, ho, hx, hdat⟩ (by omega) fun h' tk acc c as hk hS hl hG hacc => ?_
  have nd : as.Nodup := List.Pairwise.imp (fun {a b} (h : a < b) => Nat.ne_of_lt h) hG.rise
  have Sn : s.heap.objs.size ∉ as := fun z => Nat.lt_irrefl _ (hG.above _ z)
  have new : ∀ t ∈ as, H t = none := fun t ht => I.hok.fresh (Nat.le_of_lt (hG.above t ht))
  have newS : H s.heap.objs.size = none := I.hok.fresh (Nat.le_refl _)
  let os : List HO := (ks.zip kvs).map fun z => HO.tup [.ref z.1.2.1, z.2.2]
  have osj : ∀ (j : Nat) (x : List L2.Key × Addr × Value) (y : List L2.Key × V), ks[j]? = some x → kvs[j]? = some y → os[j]? = some (.tup [.ref x.2.1, y.2]) := fun j x y h1 h2 => by
    show ((ks.zip kvs).map fun z => HO.tup [.ref z.1.2.1, z.2.2])[j]? = _
    have e : (ks.zip kvs)[j]? = some (x, y) := List.getElem?_zip_eq_some.mpr ⟨h1, h2⟩
    rw [List.getElem?_map, e]
    rfl
  generalize hF : layO (upd H s.heap.objs.size (.lst (as.map V.ref))) as os = F
  have off : ∀ b, b ∉ as → b ≠ s.heap.objs.size → F b = H b := fun b h1 h2 => by rw [← hF, layO_off as os _ h1, upd_ne h2]
  have kp : ∀ b u, H b = some u → F b = some u := fun b u e => by
    rw [off b (fun z => by rw [new b z] at e; cases e) (fun z => by rw [z, newS] at e; cases e)]
    exact e
  have eS : F s.heap.objs.size = some (.lst (as.map V.ref)) := by rw [← hF, layO_off as os _ Sn, upd_same]
  -- what was made, one by one
  have each : ∀ (j : Nat) (t : Addr), as[j]? = some t → ∃ (x : List L2.Key × Addr × Value) (y : List L2.Key × V), ks[j]? = some x ∧ kvs[j]? = some y ∧ H x.2.1 = some (.tup (y.1.map kV)) ∧ RelV y.2 x.2.2 ∧ h'.get? t = some { cls := .type "tuple", data := .seq #[Value.ref x.2.1, x.2.2] } ∧ F t = some (.tup [.ref x.2.1, y.2]) := by
    intro j t hj
    obtain ⟨en, he, hg⟩ := hG.pairs j t hj
    rw [entry_at hes j] at he
    cases hxj : ks[j]? with
    | none =>
      rw [hxj] at he
      exact nomatch (show (none : Option DictEntry) = some en from he)
    | some x =>
      rw [hxj] at he
      have een : entryOfKey (tupleKind (mixKind X.prog X.w)) x = en := Option.some.inj he
      obtain ⟨y, hy, r1, r2, r3⟩ := DX.pget rel hxj
      refine ⟨x, y, rfl, hy, r2, r3, ?_, ?_⟩
      · rw [hg, ← een]
        rfl
      · rw [← hF]
        exact layO_at as os _ nd j hj (osj j x y hxj hy)
  have J : Inv X pins σ F { s with heap := h', toks := tk } := by
    refine I.call' (ch := []) rfl ⟨fun b o q _ _ _ => hk b o q, fun b o q _ _ _ => ⟨o.slots, hk b o q⟩, fun b o q n _ => ?_, fun b o q _ => ⟨o, hk b o q⟩, fun b xs q => kp b _ q, fun b o u q => kp b _ q, fun b ps q => ⟨#[], by rw [kp b _ q]; simp⟩⟩ (fun b u q => ?_) I.bare fun b z => by simp at z
    · have lt := Heap.lt_size q
      rw [off b (fun z => absurd lt (Nat.not_lt.mpr (Nat.le_of_lt (hG.above b z)))) (Nat.ne_of_lt lt)]
      exact n
    · by_cases hb : b ∈ as
      · obtain ⟨j, hj⟩ := List.mem_iff_getElem?.mp hb
        obtain ⟨x, y, _, _, _, e4, e5, e6⟩ := each j b hj
        rw [e6] at q
        cases q
        exact ⟨by show 2 ≤ sizeLine; decide, [Value.ref x.2.1, x.2.2], .cons rfl (.cons e4 .nil), ⟨_, e5, rfl, _, rfl⟩⟩
      · by_cases hb2 : b = s.heap.objs.size
        · rw [hb2] at q ⊢
          rw [eS] at q
          cases q
          refine ⟨by rw [List.length_map]; omega, acc.toList, c, by rw [hacc]; exact LiI.vals_refs as, ?_⟩
          rw [Array.toArray_toList]
          exact hS
        · rw [off b hb hb2] at q
          exact (I.hok b u q).stay (fun d v _ y => hk d v y) (fun d y => kp d _ y) fun d xs y => kp d _ y
  refine ⟨.ref _, F, J, rfl, q F _ as kp newS eS ⟨by omega, fun j t qv h1 h2 => ?_⟩⟩
  obtain ⟨x, y, _, e2, e3, _, _, e6⟩ := each j t h1
  rw [h2] at e2
  cases e2
  exact ⟨x.2.1, e3, e6⟩
end
end Own

/-! Lambdas handed to an own def: the end of a law with the tables of code objects; a def whose code object is known. -/
namespace Own
open PySem PySem.Spec PyProof.Rows L2
/-- the ones that a lambda stands in: name, code object, its table -/
abbrev Tabs3 := List (Str × Addr × Addr)
/-- the law's end, with tables -/
theorem lam_walk {l : PySem.W.OpenLaw} {n k : Nat} {q : Program} {loose : List Str} {XP : (Str → Option Value) → Heap → Prop} {YP : World → Heap → Prop} {d : DefRec} {K : Params → PySem.W.Frag} {sp : PySem.W.Frag → Tabs3 → Sp} {x : Str}
    (hn : l.most = some n) (hn2 : n ≤ sizeLine) (hdf : d.params.defaults = []) (hr : Room k callerA) (hY : ∀ (w : World) (h : Heap), YP w h → (K w.params).In h)
    (F : ∀ (w : World) (mg : Str → Option Value) (fa : Addr) (h : Heap), (K w.params).In h → h.Ns mainGlobals mg → mg d.name = some (.ref fa) →
      ∃ (fd : FuncData) (cs : Tabs3), (∀ t ∈ cs, (∃ r, (recsOf q).find? (fun e => e.name == t.1) = some r) ∧ PySem.W.tabIn (K w.params) t.1 = some t.2 ∧ (K w.params).lookup t.2.2 = none) ∧ (∀ (s : Shared) (u : Value), BindsTo s fd ⟨[u], []⟩ [(x, u)]) ∧
        ∀ base : Heap, (K w.params).In base → base.Ns mainGlobals mg → (∀ t ∈ cs, LamX.TabB base mg t.2.1 t.2.2) → FnOk l.prog w (K w.params) mg base CX0 k fa fd [x] (sp (K w.params) cs))
    (hsp : ∀ (K : PySem.W.Frag) (cs : Tabs3) (H : Hp) (a : Addr) (ns : List Int), ns.length ≤ n → (∀ t ∈ cs, H t.2.2 = some (.tbl #[])) → SqL K H a (ns.map V.int) → sp K cs [.ref a] H (fun v _ => v = .bl true) E0) :
    PySem.W.WalkO q loose XP YP l.row.toRowW d [] (fun f vs => PySem.call f vs) := by
  refine Att.attach_callB hn hdf fun w s₀ s₁ mg mb fa o pm cd doc a vs ns G Y ho hd hcd hmg hobj hints hlen hbits hg => ?_
  have KX := hY w _ Y
  obtain ⟨fd, cs, facts, hb, hF⟩ := F w mg fa _ KX G.T.g hmg
  have both : ∀ t ∈ cs, PySem.W.CodeHd s₁.heap t.2.1 t.2.2 ∧ s₁.heap.get? t.2.2 = some { cls := .none, data := .fields #[] } := fun t ht => by
    obtain ⟨⟨r, hrec⟩, htab, _⟩ := facts t ht
    exact PySem.W.tab_of (x := t.1) (c := t.2.1) (P := t.2.2) G.T KX hrec htab
  have pull : ∀ {Z : Addr × Addr → Prop}, (∀ t ∈ cs, Z t.2) → ∀ p ∈ cs.map (·.2), Z p := fun {Z} h p hp => by
    obtain ⟨t, ht, rfl⟩ := List.mem_map.mp hp
    exact h t ht
  have back : ∀ {Z : Addr × Addr → Prop}, (∀ p ∈ cs.map (·.2), Z p) → ∀ t ∈ cs, Z t.2 := fun h t ht => h t.2 (List.mem_map.mpr ⟨t, ht, rfl⟩)
  refine LamX.law_callTs (cs := cs.map (·.2)) (CX := CX0) KX G.T.g G.T.b G.T.builtins G.T.nolimit hg (pull (Z := fun p => s₁.heap.get? p.2 = _) fun t ht => (both t ht).2) (pull (Z := fun p => (K w.params).lookup p.2 = none) fun t ht => (facts t ht).2.2) (pull (Z := fun p => PySem.W.CodeHd s₁.heap p.1 p.2) fun t ht => (both t ht).1)
    G.T.bmain hobj hints (Nat.le_trans hlen hn2) hr (fun base h1 h2 h3 => hF base h1 h2 (back (Z := fun p => LamX.TabB base mg p.1 p.2) h3)) hb (fun H hH hS => hsp _ cs H a ns hlen (back (Z := fun p => H p.2 = some (.tbl #[])) hH) hS) fun H e s' h => h
/-- a def by its body, its code object known -/
theorem ok_code {P : Program} {w : World} {K : PySem.W.Frag} {mg : Str → Option Value} {base : Heap} {x qual : Str} {st : Stmt} {f c : Addr} {fd : FuncData} {N ps : List Str} {k : Nat} {sp : Sp} (F : Fun K x qual st f fd) (hc : fd.code = .ref c) (S : FnScope N ps (defScope st)) (len : ∀ vs H Q E, sp vs H Q E → vs.length = ps.length)
    (hbody : ∀ (A : Around) (outer : List Env) (s : Shared) (H : Hp) (vs : List V) (Q : VK) (E : XK), Room k (A.deeper (envOfC qual (defScope st) s.heap.objs.size f (.ref c))) → sp vs H Q E →
      ∃ t, PSs (cxOf CX0 P w K mg base N qual (defScope st) f (.ref c) A outer s H E).nox (defBody st) t ∧ t { nx := fun _ H' => Q .non H', rt := Q } (L2.start N vs) H) : FnOk P w K mg base CX0 (k + 1) f fd ps sp := by
  obtain ⟨oc, od, kV, doc, pm, an, cdv, ct, osl, rfl, lk, hcd⟩ := F.ex
  have e : cdv = .ref c := hc
  subst e
  refine fn_of lk hcd S len fun A outer s H vs Q E hr hsp => ?_
  obtain ⟨t, h, q⟩ := hbody A outer s H vs Q E hr hsp
  exact ⟨t, h.nox, q⟩
/-- where a def's code object and its table stand, by what is written -/
theorem tab_by {K : PySem.W.Frag} {x : Str} {f c P : Addr} {oc o2 : Value} {od d2 : Option Addr} {sl s2 : Array (Option Value)} {fd : FuncData} {vs : Array Value} (a : PySem.W.nsIn K mainGlobals x = some (some (.ref f))) (l : K.lookup f = some ⟨oc, od, .func fd, sl⟩) (kd : fd.code = .ref c)
    (lc : K.lookup c = some ⟨o2, d2, .fields vs, s2⟩) (vp : (vs[11]? : Option Value) = some (.ref P)) : PySem.W.tabIn K x = some (c, P) := by
  unfold PySem.W.tabIn
  rw [a]
  dsimp only
  rw [l]
  dsimp only
  rw [kd]
  dsimp only
  rw [lc]
  dsimp only
  rw [vp]
/-- what is let out is taken of states of the right length alone -/
theorem takes_len {X : Cx} {W : WX} {n : Nat} (hn : X.N.length = n) (t : Takes X W) : Takes X (fun c d σ H => σ.length = n → W c d σ H) := fun u s' ⟨a, B, sI, pins, σ, H, cls, d, e, I, nb, up, sky, na, os, ag, w⟩ =>
  t u s' ⟨a, B, sI, pins, σ, H, cls, d, e, I, nb, up, sky, na, os, ag, w (I.len.trans hn)⟩
end Own

/-! A list comprehension of two fors, over whatever can be walked. -/
namespace Own
open PySem PySem.Spec PyProof.Rows L2
section
variable {J J1 : It} {n n1 : Nat} {G G1 : Hp → Prop} {Y Y1 : Nat → Hp → V → Hp → Prop} {σ : L2.St} {D : Addr} {vs vs1 : List Nat}
/-- the inner for -/
theorem in_it (w : Walk J1 n1 G1 Y1) {g1 : TG} {tt1 : TT} {te : TE} {H4 : Hp} {Nx : Hp → Prop} (Pw : Nat → Hp → Prop) (h0 : Pw 0 H4) (hG : ∀ j H, j ≤ n1 → Pw j H → G1 H)
    (hs : ∀ j y H H', j < n1 → Pw j H → Y1 j H y H' → g1 y (wipe σ vs1) H' fun σ3 H5 => wipe σ3 vs1 = wipe σ vs1 ∧ tt1 σ3 H5 fun c H6 => if c = true then te σ3 H6 fun z H7 => ∃ acc, H7 D = some (.lst acc) ∧ acc.length < sizeLine ∧ Pw (j + 1) (upd H7 D (.lst (acc ++ [z]))) else Pw (j + 1) H6)
    (hd : ∀ H, Pw n1 H → Nx H) :
    ∃ W1 : Nat → Nat → Hp → Prop, (∃ m, W1 0 m H4) ∧ ∀ j k H, W1 j k H → (J1.stop j H ∧ Nx H) ∨ (J1.go j H ∧ ∃ Nx1 : Hp → Prop, (∀ H', Nx1 H' → ∃ k', k' < k ∧ W1 (j + 1) k' H') ∧
      ∀ x H', J1.yld j H x H' → g1 x (wipe σ vs1) H' fun σ3 H5 => wipe σ3 vs1 = wipe σ vs1 ∧ tt1 σ3 H5 fun c H6 => if c = true then te σ3 H6 fun z H7 => ∃ acc, H7 D = some (.lst acc) ∧ acc.length < sizeLine ∧ Nx1 (upd H7 D (.lst (acc ++ [z]))) else Nx1 H6) := by
  refine ⟨fun j k H => k = n1 - j ∧ j ≤ n1 ∧ Pw j H, ⟨n1, by simp, Nat.zero_le _, h0⟩, ?_⟩
  rintro j k H ⟨rfl, hj, p⟩
  have q := hG j H hj p
  rcases Nat.lt_or_ge j n1 with lt | ge
  · exact .inr ⟨w.goes j H lt q, Pw (j + 1), fun H' p' => ⟨n1 - (j + 1), by omega, rfl, lt, p'⟩, fun x H' y => hs j x H H' lt p (w.yields j H x H' lt q y)⟩
  · have e : j = n1 := by omega
    subst e
    exact .inl ⟨w.stops H q, hd H p⟩
/-- the outer for -/
theorem out_it (w : Walk J n G Y) {g g1 : TG} {tt tt1 : TT} {wi1 : TI} {te : TE} {H1 : Hp} {Qd : Hp → Prop} (Pv : Nat → Hp → Prop) (h0 : Pv 0 (upd H1 D (.lst []))) (hG : ∀ i H, i ≤ n → Pv i H → G H)
    (hs : ∀ i x H H0, i < n → Pv i H → Y i H x H0 → g x (wipe σ vs) H0 fun σ2 H2 => wipe σ2 vs = wipe σ vs ∧ tt σ2 H2 fun c H3 => if c = true then wi1 σ2 H3 fun J1 H4 => ∃ W1 : Nat → Nat → Hp → Prop, (∃ m, W1 0 m H4) ∧ ∀ j k H, W1 j k H → (J1.stop j H ∧ Pv (i + 1) H) ∨ (J1.go j H ∧ ∃ Nx1 : Hp → Prop, (∀ H', Nx1 H' → ∃ k', k' < k ∧ W1 (j + 1) k' H') ∧
      ∀ x H', J1.yld j H x H' → g1 x (wipe σ2 vs1) H' fun σ3 H5 => wipe σ3 vs1 = wipe σ2 vs1 ∧ tt1 σ3 H5 fun c H6 => if c = true then te σ3 H6 fun z H7 => ∃ acc, H7 D = some (.lst acc) ∧ acc.length < sizeLine ∧ Nx1 (upd H7 D (.lst (acc ++ [z]))) else Nx1 H6) else Pv (i + 1) H3)
    (hd : ∀ H, Pv n H → Qd H) :
    ∃ W : Nat → Nat → Hp → Prop, (∃ m, W 0 m (upd H1 D (.lst []))) ∧ ∀ i m H, W i m H → (J.stop i H ∧ Qd H) ∨ (J.go i H ∧ ∃ Nx : Hp → Prop, (∀ H', Nx H' → ∃ m', m' < m ∧ W (i + 1) m' H') ∧
      ∀ x H', J.yld i H x H' → g x (wipe σ vs) H' fun σ2 H2 => wipe σ2 vs = wipe σ vs ∧ tt σ2 H2 fun c H3 => if c = true then wi1 σ2 H3 fun J1 H4 => ∃ W1 : Nat → Nat → Hp → Prop, (∃ m, W1 0 m H4) ∧ ∀ j k H, W1 j k H → (J1.stop j H ∧ Nx H) ∨ (J1.go j H ∧ ∃ Nx1 : Hp → Prop, (∀ H', Nx1 H' → ∃ k', k' < k ∧ W1 (j + 1) k' H') ∧
        ∀ x H', J1.yld j H x H' → g1 x (wipe σ2 vs1) H' fun σ3 H5 => wipe σ3 vs1 = wipe σ2 vs1 ∧ tt1 σ3 H5 fun c H6 => if c = true then te σ3 H6 fun z H7 => ∃ acc, H7 D = some (.lst acc) ∧ acc.length < sizeLine ∧ Nx1 (upd H7 D (.lst (acc ++ [z]))) else Nx1 H6) else Nx H3) := by
  refine ⟨fun i m H => m = n - i ∧ i ≤ n ∧ Pv i H, ⟨n, by simp, Nat.zero_le _, h0⟩, ?_⟩
  rintro i m H ⟨rfl, hi, p⟩
  have q := hG i H hi p
  rcases Nat.lt_or_ge i n with lt | ge
  · exact .inr ⟨w.goes i H lt q, Pv (i + 1), fun H' p' => ⟨n - (i + 1), by omega, rfl, lt, p'⟩, fun x H' y => hs i x H H' lt p (w.yields i H x H' lt q y)⟩
  · have e : i = n := by omega
    subst e
    exact .inl ⟨w.stops H q, hd H p⟩
end
end Own

namespace Own
/-! ### ways of which no step loses, and the top lot -/
section
variable {α : Type} [DecidableEq α]
inductive WayTo (f : α → α → Int) (zs : List α) (s : α) : α → List α → Prop
  | start : s ∈ zs → WayTo f zs s s [s]
  | step {x y : α} {w : List α} : WayTo f zs s x w → y ∈ zs → y ∉ w → 0 ≤ f x y → WayTo f zs s y (w ++ [y])
def Reach (f : α → α → Int) (zs : List α) (s y : α) : Prop := ∃ w, WayTo f zs s y w
variable {f : α → α → Int} {zs : List α}
theorem WayTo.last {s x : α} {w : List α} (h : WayTo f zs s x w) : x ∈ w := by
  cases h with
  | start _ => exact List.mem_singleton.mpr rfl
  | step _ _ _ _ => exact List.mem_append_right _ (List.mem_singleton.mpr rfl)
theorem WayTo.in {s x : α} {w : List α} (h : WayTo f zs s x w) : x ∈ zs := by
  cases h with
  | start h => exact h
  | step _ h _ _ => exact h
theorem WayTo.within {s x : α} {w : List α} (h : WayTo f zs s x w) : ∀ y ∈ w, Reach f zs s y := by
  induction h with
  | start h =>
    intro y hy
    rw [List.mem_singleton.mp hy]
    exact ⟨_, .start h⟩
  | step h m n e ih =>
    intro y hy
    rcases List.mem_append.mp hy with hy | hy
    · exact ih y hy
    · rw [List.mem_singleton.mp hy]
      exact ⟨_, .step h m n e⟩
theorem Reach.step {s x y : α} (h : Reach f zs s x) (m : y ∈ zs) (e : 0 ≤ f x y) : Reach f zs s y := by
  obtain ⟨w, h⟩ := h
  by_cases c : y ∈ w
  · exact h.within y c
  · exact ⟨_, .step h m c e⟩
theorem Reach.closed {s y : α} {S : α → Prop} (h : Reach f zs s y) (h0 : S s) (hs : ∀ x y, S x → y ∈ zs → 0 ≤ f x y → S y) : S y := by
  obtain ⟨w, h⟩ := h
  induction h with
  | start _ => exact h0
  | step _ m _ e ih => exact hs _ _ ih m e
theorem Reach.refl {s : α} (h : s ∈ zs) : Reach f zs s s := ⟨_, .start h⟩
theorem Reach.trans {s x y : α} (h : Reach f zs s x) (g : Reach f zs x y) : Reach f zs s y := g.closed h fun _ _ a m e => a.step m e
theorem Reach.in {s y : α} (h : Reach f zs s y) : y ∈ zs := h.elim fun _ w => w.in
theorem WayTo.nodup {s x : α} {w : List α} (h : WayTo f zs s x w) : w.Nodup := by
  induction h with
  | start _ => simp
  | step _ _ n _ ih => exact List.nodup_append.mpr ⟨ih, by simp, fun a ha b hb e => by rw [List.mem_singleton.mp hb] at e; exact n (e ▸ ha)⟩
theorem WayTo.all {s x : α} {w : List α} (h : WayTo f zs s x w) : ∀ y ∈ w, y ∈ zs := fun y hy => (h.within y hy).in
theorem nodup_le {a b : List α} (n : a.Nodup) (s : ∀ x ∈ a, x ∈ b) : a.length ≤ b.length := by
  induction a generalizing b with
  | nil => exact Nat.zero_le _
  | cons x a ih =>
    have n2 := List.nodup_cons.mp n
    have mx := s x List.mem_cons_self
    have := ih (b := b.erase x) n2.2 fun y hy => (List.mem_erase_of_ne (fun e => n2.1 (by rw [← e]; exact hy))).mpr (s y (List.mem_cons_of_mem _ hy))
    rw [List.length_erase_of_mem mx] at this
    have pos := List.length_pos_of_mem mx
    rw [List.length_cons]
    omega
theorem WayTo.len {s x : α} {w : List α} (h : WayTo f zs s x w) : w.length ≤ zs.length := nodup_le h.nodup h.all
theorem pairwise_two {R : α → α → Prop} : ∀ {l : List α}, l.Pairwise R → ∀ {a b : α}, a ∈ l → b ∈ l → a ≠ b → R a b ∨ R b a
  | [], _, _, _, h, _, _ => by cases h
  | c :: l, p, a, b, ha, hb, n => by
    have p2 := List.pairwise_cons.mp p
    rcases List.mem_cons.mp ha with e1 | h1
    · rcases List.mem_cons.mp hb with e2 | h2
      · exact absurd (e1.trans e2.symm) n
      · rw [e1]
        exact .inl (p2.1 b h2)
    · rcases List.mem_cons.mp hb with e2 | h2
      · rw [e2]
        exact .inr (p2.1 a h1)
      · exact pairwise_two p2.2 h1 h2 n
theorem Reach.mono {zs ws : List α} {s y : α} (h : Reach f zs s y) (m : ∀ x, x ∈ zs → x ∈ ws) : Reach f ws s y := by
  obtain ⟨w, h⟩ := h
  induction h with
  | start h => exact ⟨_, .start (m _ h)⟩
  | step _ i _ e ih => exact ih.step (m _ i) e
def Tops (f : α → α → Int) (zs : List α) (s : α) : Prop := ∀ y ∈ zs, Reach f zs s y
theorem tops_some (anti : ∀ x y, f x y = -f y x) : ∀ {l : List α}, l ≠ [] → (∀ x ∈ l, x ∈ zs) → ∃ s ∈ l, ∀ y ∈ l, Reach f zs s y
  | [], h, _ => absurd rfl h
  | [a], _, m => ⟨a, List.mem_singleton.mpr rfl, fun y hy => by rw [List.mem_singleton.mp hy]; exact .refl (m a List.mem_cons_self)⟩
  | a :: b :: l, _, m => by
    obtain ⟨s, hs, all⟩ := tops_some anti (l := b :: l) (by simp) fun x hx => m x (List.mem_cons_of_mem _ hx)
    have ma := m a List.mem_cons_self
    have ms := m s (List.mem_cons_of_mem _ hs)
    by_cases c : 0 ≤ f s a
    · refine ⟨s, List.mem_cons_of_mem _ hs, fun y hy => ?_⟩
      rcases List.mem_cons.mp hy with rfl | hy
      · exact (Reach.refl ms).step ma c
      · exact all y hy
    · have c : 0 ≤ f a s := by have := anti a s; omega
      refine ⟨a, List.mem_cons_self, fun y hy => ?_⟩
      rcases List.mem_cons.mp hy with rfl | hy
      · exact .refl ma
      · exact ((Reach.refl ma).step ms c).trans (all y hy)
/-- each of these beats each one that is not among them -/
def Dom (f : α → α → Int) (zs S : List α) : Prop := ∀ x ∈ S, ∀ y ∈ zs, y ∉ S → 0 < f x y
theorem Dom.holds (anti : ∀ x y, f x y = -f y x) {S : List α} (h : Dom f zs S) (n : S ≠ []) (sub : ∀ x ∈ S, x ∈ zs) {t : α} (ht : t ∈ zs) (a : Tops f zs t) : t ∈ S := by
  refine Classical.byContradiction fun out => ?_
  obtain ⟨s, hs⟩ := List.exists_mem_of_ne_nil S n
  have := (a s (sub s hs)).closed (S := fun x => x ∉ S ∧ x ∈ zs) ⟨out, ht⟩ fun x y ⟨nx, mx⟩ my e => ⟨fun hy => by
    have h1 := h y hy x mx nx
    have h2 := anti x y
    omega, my⟩
  exact this.1 hs
open Classical in
noncomputable def topB (f : α → α → Int) (zs : List α) (s : α) : Bool := decide (Tops f zs s)
open Classical in
theorem topB_iff {s : α} : topB f zs s = true ↔ Tops f zs s := by
  unfold topB
  exact decide_eq_true_iff
theorem top_dom (anti : ∀ x y, f x y = -f y x) : Dom f zs (zs.filter (topB f zs)) := by
  intro x hx y hy out
  obtain ⟨mx, tx⟩ := List.mem_filter.mp hx
  have tx : Tops f zs x := topB_iff.mp tx
  refine Classical.byContradiction fun c => out (List.mem_filter.mpr ⟨hy, ?_⟩)
  have e : 0 ≤ f y x := by have := anti x y; omega
  exact topB_iff.mpr fun z hz => ((Reach.refl hy).step mx e).trans (tx z hz)
theorem top_ne (anti : ∀ x y, f x y = -f y x) (n : zs ≠ []) : zs.filter (topB f zs) ≠ [] := by
  obtain ⟨s, hs, all⟩ := tops_some (f := f) (zs := zs) anti n fun _ h => h
  have : s ∈ zs.filter (topB f zs) := List.mem_filter.mpr ⟨hs, topB_iff.mpr all⟩
  intro e
  rw [e] at this
  cases this
/-- the lots of some names, as they are gone through -/
def lotsOf (zs : List α) : List (List α) := zs.foldl (fun acc z => acc ++ acc.map fun t => t ++ [z]) [[]]
theorem lots_more (zs : List α) (z : α) : lotsOf (zs ++ [z]) = lotsOf zs ++ (lotsOf zs).map fun t => t ++ [z] := by
  unfold lotsOf
  rw [List.foldl_append]
  rfl
theorem snoc_ind {P : List α → Prop} (h0 : P []) (hs : ∀ l a, P l → P (l ++ [a])) : ∀ l, P l := by
  have : ∀ l : List α, P l.reverse := fun l => by
    induction l with
    | nil => exact h0
    | cons a l ih =>
      rw [List.reverse_cons]
      exact hs _ _ ih
  intro l
  have h := this l.reverse
  rw [List.reverse_reverse] at h
  exact h
theorem lots_len : ∀ zs : List α, (lotsOf zs).length = 2 ^ zs.length := snoc_ind rfl fun l a h => by
  rw [lots_more, List.length_append, List.length_map, h, List.length_append, List.length_singleton, Nat.pow_succ]
  omega
theorem lots_sub : ∀ zs : List α, ∀ S ∈ lotsOf zs, S.Sublist zs := snoc_ind (fun S h => by rw [List.mem_singleton.mp h]; exact List.Sublist.refl _) fun l a ih S h => by
  rw [lots_more] at h
  rcases List.mem_append.mp h with h | h
  · exact (ih S h).trans (List.sublist_append_left _ _)
  · obtain ⟨t, ht, rfl⟩ := List.mem_map.mp h
    exact List.Sublist.append (ih t ht) (List.Sublist.refl _)
theorem lots_filter (B : α → Bool) : ∀ zs : List α, zs.filter B ∈ lotsOf zs := snoc_ind (List.mem_singleton.mpr rfl) fun l a ih => by
  rw [lots_more, List.filter_append]
  cases e : B a with
  | true => 
    rw [List.filter_cons_of_pos e, List.filter_nil]
    exact List.mem_append_right _ (List.mem_map.mpr ⟨_, ih, rfl⟩)
  | false =>
    rw [List.filter_cons_of_neg (by rw [e]; exact Bool.false_ne_true), List.filter_nil, List.append_nil]
    exact List.mem_append_left _ ih
theorem sub_filter {zs : List α} (nd : zs.Nodup) : ∀ {S : List α}, S.Sublist zs → S = zs.filter fun z => decide (z ∈ S) := by
  intro S h
  induction h with
  | slnil => rfl
  | cons a h ih =>
    have n := List.nodup_cons.mp nd
    rename_i l1 l2
    have out : a ∉ l1 := fun m => n.1 (h.subset m)
    rw [List.filter_cons_of_neg (by simpa using out)]
    exact ih n.2
  | cons_cons a h ih =>
    have n := List.nodup_cons.mp nd
    rename_i l1 l2
    rw [List.filter_cons_of_pos (by simp)]
    refine congrArg _ ((ih n.2).trans (List.filter_congr fun z hz => ?_))
    have : z ≠ a := fun e => n.1 (e ▸ hz)
    simp [this]
/-- the first lot that beats all others is the top one -/
theorem top_least (anti : ∀ x y, f x y = -f y x) (nd : zs.Nodup) {S : List α} (hS : S ∈ lotsOf zs) (n : S ≠ []) (d : Dom f zs S) (least : ∀ L ∈ lotsOf zs, L ≠ [] → L.length < S.length → ¬ Dom f zs L) : S = zs.filter (topB f zs) := by
  have sub := lots_sub zs S hS
  have e := sub_filter nd sub
  have hold : ∀ t ∈ zs, topB f zs t = true → t ∈ S := fun t ht b => d.holds anti n (fun x hx => sub.subset hx) ht (topB_iff.mp b)
  have ne : zs ≠ [] := fun z => n (by rw [z] at sub; exact List.sublist_nil.mp sub)
  have small : (zs.filter (topB f zs)).Sublist S := by
    rw [e]
    have : zs.filter (topB f zs) = (zs.filter fun z => decide (z ∈ S)).filter (topB f zs) := by
      rw [List.filter_filter]
      refine List.filter_congr fun z hz => ?_
      cases c : topB f zs z with
      | false => rfl
      | true => simp [hold z hz c]
    rw [this]
    exact List.filter_sublist
  have len := small.length_le
  rcases Nat.lt_or_ge (zs.filter (topB f zs)).length S.length with c | c
  · exact absurd (top_dom anti) (least _ (lots_filter _ zs) (top_ne anti ne) c)
  · exact (small.eq_of_length (by omega)).symm
end
end Own

/-! dict(xs) of a list of pairs whose keys are tuples. -/
namespace Own
open PySem PySem.Spec PyProof.Rows L2
theorem paired_at {α β : Type} {F : α → β → Prop} : ∀ {xs : List α} {ys : List β}, Paired F xs ys → ∀ {i : Nat} {y : β}, ys[i]? = some y → ∃ x, xs[i]? = some x ∧ F x y
  | _, _, .nil, i, y, h => by cases h
  | _, _, .cons r t, 0, y, h => by
    cases h
    exact ⟨_, rfl, r⟩
  | _, _, .cons r t, i + 1, y, h => paired_at t h
/-- a pair's tuple, its key's tuple, the key and the value -/
abbrev Trip := Addr × Addr × (List Key × V)
def mergeT (kvs more : List (List Key × V)) : List (List Key × V) := more.foldl (fun acc kv => putK acc kv.1 kv.2) kvs
theorem length_mergeT : ∀ (more kvs : List (List Key × V)), (mergeT kvs more).length ≤ kvs.length + more.length
  | [], _ => Nat.le_refl _
  | a :: more, kvs => by
    have h := length_mergeT more (putK kvs a.1 a.2)
    have g := length_putK kvs a.1 a.2
    show (mergeT (putK kvs a.1 a.2) more).length ≤ _
    rw [List.length_cons]
    omega
section
variable {X : Cx} {pins : List (Addr × Obj)} {σ : L2.St} {H : Hp} {s : Shared}
theorem trips_of (I : Inv X pins σ H s) : ∀ {ts : List Trip}, (∀ t ∈ ts, H t.1 = some (.tup [.ref t.2.1, t.2.2.2]) ∧ H t.2.1 = some (.tup (t.2.2.1.map kV))) →
    ∃ ps : List (List Key × Addr × Value), Paired (fun (t : Trip) q => t.2.2.1 = q.1 ∧ t.2.1 = q.2.1 ∧ RelV t.2.2.2 q.2.2 ∧ s.heap.IsTuple t.1 #[.ref q.2.1, q.2.2]) ts ps
  | [], _ => ⟨[], .nil⟩
  | t :: ts, h => by
    obtain ⟨ps, r⟩ := trips_of I fun t ht => h t (List.mem_cons_of_mem _ ht)
    obtain ⟨its, rv, isT, _⟩ := I.tuple (.of (h t List.mem_cons_self).1)
    obtain ⟨u, y, rfl, ru, ry⟩ := vals2 rv
    cases ru
    exact ⟨(t.2.2.1, t.2.1, y) :: ps, .cons ⟨rfl, rfl, ry, isT⟩ r⟩
theorem KT.all : ∀ {ts : List Trip} {ps : List (List Key × Addr × Value)} {kvs : List (List Key × V)} {xs : List (List Key × Addr × Value)},
    Paired (fun (t : Trip) q => t.2.2.1 = q.1 ∧ t.2.1 = q.2.1 ∧ RelV t.2.2.2 q.2.2 ∧ s.heap.IsTuple t.1 #[.ref q.2.1, q.2.2]) ts ps → (∀ t ∈ ts, H t.2.1 = some (.tup (t.2.2.1.map kV))) → KT H kvs xs → KT H (mergeT kvs (ts.map (·.2.2))) (storedAllH xs ps)
  | _, _, _, _, .nil, _, r => r
  | _, _, kvs, xs, .cons (a := t) (b := q) ⟨e1, e2, e3, _⟩ tl, h, r => by
    have h1 := h t List.mem_cons_self
    have step := r.put t.2.2.1 (b := q.2.1) (y := t.2.2.2) (u := q.2.2) (by rw [← e2]; exact h1) e3
    have rest := KT.all tl (fun t ht => h t (List.mem_cons_of_mem _ ht)) step
    rw [e1] at rest
    show KT H (mergeT (putK kvs t.2.2.1 t.2.2.2) _) (storedAllH (storedH xs q.1 q.2.1 q.2.2) _)
    rw [e1]
    exact rest
theorem call_dictT (calm : X.calm = true) (room : X.A.units + 3 < cLine) : CallR X (.type "dict") (fun xs H Q => ∃ (a : Addr) (ts : List Trip), xs = [.ref a] ∧ SqL X.K H a (ts.map fun t => V.ref t.1) ∧ (∀ t ∈ ts, H t.1 = some (.tup [.ref t.2.1, t.2.2.2]) ∧ H t.2.1 = some (.tup (t.2.2.1.map kV))) ∧
    ∀ p, H p = none → Q (.ref p) (upd H p (.dT (mergeT [] (ts.map (·.2.2)))))) := by
  rintro pins s σ H xs us Q I r ⟨a, ts, rfl, seq, pairs, q⟩
  obtain ⟨u, rfl, rx⟩ := vals1 r
  cases rx
  obtain ⟨its, rv, plain, len⟩ := I.list seq
  obtain ⟨ps, all⟩ := trips_of I pairs
  have lp := Paired.length all
  have refs : its = ts.map fun t => Value.ref t.1 := by
    have : ∀ {l : List Trip} {us : List Value}, Vals (l.map fun t => V.ref t.1) us → us = l.map fun t => Value.ref t.1 := by
      intro l
      induction l with
      | nil => intro us r; cases r; rfl
      | cons t l ih =>
        intro us r
        cases r with
        | cons h tl =>
          cases h
          rw [List.map_cons, ← ih tl]
    exact this rv
  rw [List.length_map] at len
  have arg := PairArg.list (prog := X.prog) (w := X.w) a its.toArray (fun j => (ts.map (·.1)).getD j 0) (ps.map fun q => (Value.ref q.2.1, q.2.2))
  have keys : ∀ x ∈ ps, (tupleKind (mixKind X.prog X.w)).is s.heap x.1 x.2.1 := fun x hx => by
    obtain ⟨j, hj⟩ := List.mem_iff_getElem?.mp hx
    obtain ⟨t, ht, e1, e2, _⟩ := paired_at all hj
    rw [← e1, ← e2]
    exact key_of I.hok (pairs t (List.mem_of_getElem? ht)).2
  refine call_dict_pairsH (knd := tupleKind (mixKind X.prog X.w)) (ps := ps) arg (I.ok.hd calm) (show X.A.in1.in1.units < cLine by show X.A.units + 1 + 1 < cLine; omega) ⟨?_, ?_, ?_⟩ ⟨by rw [List.length_map], ?_⟩ ?_ (by rw [List.length_map]; omega) ?_
  · exact plain
  · rw [refs]
    simp [lp]
  · intro j k v e
    rw [List.getElem?_map] at e
    cases hj : ps[j]? with
    | none => rw [hj] at e; cases e
    | some y =>
      rw [hj] at e
      cases e
      obtain ⟨t, ht, e1, e2, e3, e4⟩ := paired_at all hj
      have gd : (ts.map (·.1)).getD j 0 = t.1 := by rw [List.getD_eq_getElem?_getD, List.getElem?_map, ht] <;> rfl
      refine ⟨?_, .inl ?_⟩
      · dsimp only
        rw [List.getElem?_toArray, refs, List.getElem?_map, ht, gd] <;> rfl
      · dsimp only
        rw [gd]
        exact e4
  · intro i key v rel
    have rel : (ps.map fun q => (Value.ref q.2.1, q.2.2))[i]? = some (key, v) := rel
    rw [List.getElem?_map] at rel
    cases hj : ps[i]? with
    | none => rw [hj] at rel; cases rel
    | some y =>
      rw [hj] at rel
      cases rel
      exact ⟨y.1, y.2.1, rfl, rfl⟩
  · intro h' kp x hx
    obtain ⟨o, items, n, z1, z2, z3, z4⟩ := keys x hx
    exact ⟨o, items, n, kp _ _ (Nat.ne_of_lt (Heap.lt_size z1)) (by simp) z1, z2, z3, z4⟩
  · intro h' tk dd kp
    obtain ⟨o, es, ep, ho, z2, z3, z4, _, z5⟩ := dd
    have notMods : (s.heap.objs.size == sysModules) = false := beq_eq_false_iff_ne.mpr (Nat.ne_of_gt I.big)
    have fresh : H s.heap.objs.size = none := I.hok.fresh (Nat.le_refl _)
    have len2 : (mergeT [] (ts.map (·.2.2))).length ≤ sizeLine := by
      have := length_mergeT (ts.map (·.2.2)) []
      rw [List.length_map, List.length_nil] at this
      omega
    have rel := KT.all (H := H) (kvs := []) (xs := []) all (fun t ht => (pairs t ht).2) .nil
    refine ⟨.ref s.heap.objs.size, upd H s.heap.objs.size (.dT (mergeT [] (ts.map (·.2.2)))), I.laid (t' := tk) (fun b u e => kp b u (by simp) e) (Nat.le_refl _) ⟨len2, notMods, _, rel.keeps fun c ys e => ?_, o, es, ep, ho, z2, z3, z4, z5⟩, rfl, q _ fresh⟩
    rw [upd_ne (fun z => by rw [z, fresh] at e; cases e)]
    exact e
end
theorem room3 {A : Around} {k : Nat} (hr : Room k A) : A.units + 3 < cLine := by
  have := hr.units
  omega
end Own

/-! {k: v for a in xs if .. for b in ys if ..}, whatever the keys are. -/
namespace Own
open PySem PySem.Spec PyProof.Rows L2
section
variable {X : Cx} {pins : List (Addr × Obj)} {σ : L2.St} {H H' : Hp} {s : Shared} {E : Value → Shared → Prop} {D : Addr} {y v : V} {u r : Value} {Q : Unit → Shared → Prop}
/-- d[y] = v by a comprehension -/
theorem put_dict (room : X.A.units + 1 < cLine) (I : Inv X pins σ H s) (g : DPut H D y v H') (ry : RelV y u) (rv : RelV v r) (k : ∀ s', Inv X pins σ H' s' → Q () s') : wpAny (model X.prog X.w) X.A (dictSet D u r) Q E s := by
  rcases g with ⟨kvs, key, here, rfl, len, rfl⟩ | ⟨kvs, key, b, here, rfl, tup, len, rfl⟩
  · exact d_dictSet I here len ry rv k
  · cases ry
    obtain ⟨_, notMods, xs, rel, isDict⟩ := dt_of I.hok here
    have le := Paired.length rel
    have grow := length_putK kvs key v
    refine wpAny_dictSet_heap (hsz := by omega) (show X.A.units < cLine by omega) (key_of I.hok tup) isDict fun h' dd sb => k _ ?_
    obtain ⟨o, es, ep, ho, z2, z3, z4, _, z5⟩ := dd
    refine d_write I (by rw [here]; exact True.intro) sb ⟨o, ho⟩ ⟨by omega, notMods, _, (rel.put key tup rv).keeps fun c ys e => ?_, o, es, ep, ho, z2, z3, z4, z5⟩
    rw [upd_ne (fun z => by rw [z, here] at e; cases e)]
    exact e
end
section
variable {kx vx t0 i0 t1 i1 : Expr} {ifs0 ifs1 : List Expr} {scope : Scope} {pos : Pos} {it acc : Value} {env : Env} {D : Addr}
theorem turn_out : compTurn (.DictComp kx vx [⟨t0, i0, ifs0, 0⟩, ⟨t1, i1, ifs1, 0⟩] scope pos) 0 it acc env = (do
    standAt i0.pos
    match ← pyNext it with
    | none => pure (.done .next)
    | some item =>
      letOwnedTupleGo t0 it item
      assign t0 env item
      let mut go := true
      for t in ifs0 do
        if go then go ← isTrue t env (eval t env)
      if go then
        let xs ← eval i1 env
        standAt i1.pos
        let xs ← foldedSetIterable i1 env xs
        let _ ← runOwn (.compStart (.DictComp kx vx [⟨t0, i0, ifs0, 0⟩, ⟨t1, i1, ifs1, 0⟩] scope pos) 1 (← holding [xs] (pyIter xs)) acc env) env
      again (.compLoop (.DictComp kx vx [⟨t0, i0, ifs0, 0⟩, ⟨t1, i1, ifs1, 0⟩] scope pos) 0 it acc env)) := by rfl
theorem turn_in : compTurn (.DictComp kx vx [⟨t0, i0, ifs0, 0⟩, ⟨t1, i1, ifs1, 0⟩] scope pos) 1 it (.ref D) env = (do
    standAt i1.pos
    match ← pyNext it with
    | none => pure (.done .next)
    | some item =>
      letOwnedTupleGo t1 it item
      assign t1 env item
      let mut go := true
      for t in ifs1 do
        if go then go ← isTrue t env (eval t env)
      if go then
        (do
          let key ← eval kx env
          let val ← holding [key] (eval vx env)
          standAt { kx.pos with endLine := vx.pos.endLine, endCol := vx.pos.endCol }
          holding [key, val] (dictSet D key val))
      again (.compLoop (.DictComp kx vx [⟨t0, i0, ifs0, 0⟩, ⟨t1, i1, ifs1, 0⟩] scope pos) 1 it (.ref D) env)) := by rfl
end
section
variable {prog : Program} {w : World} {A : Around} {R : Result → Shared → Prop} {s : Shared} {kx vx t0 i0 t1 i1 : Expr} {ifs0 ifs1 : List Expr} {scope : Scope} {pos : Pos} {it acc : Value} {env : Env} {D : Addr}
/-- what an error within the comprehension comes to -/
abbrev Fell (prog : Program) (w : World) (A : Around) (env : Env) (R : Result → Shared → Prop) : Value → Shared → Prop := notedBy (model prog w) A env fun e s' => R (.error e) s'
/-- the tests of a clause -/
abbrev tests (ts : List Expr) (env : Env) : Sem Bool := forIn ts true fun t go => if go = true then do let ok ← isTrue t env (eval t env); pure (ForInStep.yield ok) else pure (ForInStep.yield go)
theorem loop_out (noFold : ∀ x, foldedSetIterable i1 env x = pure x) (Inn : Nat → Shared → Prop)
    (step : ∀ n s, Inn n s → wpAny (model prog w) A (pyNext it) (fun got s₁ => match got with
      | none => R (.ok .next) s₁
      | some x => wpAny (model prog w) A (letOwnedTupleGo t0 it x) (fun _ s₂ => wpAny (model prog w) A (assign t0 env x) (fun _ s₃ => wpAny (model prog w) A (tests ifs0 env) (fun go s₄ =>
          if go = true then wpAny (model prog w) A (eval i1 env) (fun xs s₅ => wpAny (model prog w) A (pyIter xs) (fun inner s₆ =>
            codeAny (model prog w) A (.compStart (.DictComp kx vx [⟨t0, i0, ifs0, 0⟩, ⟨t1, i1, ifs1, 0⟩] scope pos) 1 inner acc env) (fun res s' => match res with
              | .ok _ => ∃ m, m < n ∧ Inn m s'
              | .error _ => False) s₆) (Fell prog w A env R) s₅) (Fell prog w A env R) s₄
          else ∃ m, m < n ∧ Inn m s₄) (Fell prog w A env R) s₃) (Fell prog w A env R) s₂) (Fell prog w A env R) s₁) (Fell prog w A env R) s)
    (n : Nat) (start : Inn n s) : codeAny (model prog w) A (.compLoop (.DictComp kx vx [⟨t0, i0, ifs0, 0⟩, ⟨t1, i1, ifs1, 0⟩] scope pos) 0 it acc env) R s := by
  refine codeAny_loop rfl Inn (fun n s now => ?_) n start
  show wpAny _ A ((compTurn (.DictComp kx vx [⟨t0, i0, ifs0, 0⟩, ⟨t1, i1, ifs1, 0⟩] scope pos) 0 it acc env).onRaise (fun e => do noteFrame e env; theTreesLotGoes e)) _ _ s
  refine wpAny_noted ?_
  rw [turn_out]
  refine wpAny_bind (wpAny_standAt (wpAny_bind (wpAny_mono (step n s now) ?_ fun _ _ z => z)))
  rintro (_ | x) s₁ z₁
  · exact wpAny_pure z₁
  · refine wpAny_bind (wpAny_mono z₁ (fun _ s₂ z₂ => wpAny_bind (wpAny_mono z₂ (fun _ s₃ z₃ => wpAny_bind (wpAny_mono z₃ ?_ fun _ _ z => z)) fun _ _ z => z)) fun _ _ z => z)
    rintro (_ | _) s₄ z₄
    · exact wpAny_pure ⟨rfl, z₄⟩
    · refine wpAny_bind (wpAny_mono z₄ (fun xs s₅ z₅ => ?_) fun _ _ z => z)
      refine wpAny_bind (wpAny_standAt (wpAny_bind (wpAny_of_eq (noFold xs) (wpAny_bind (wpAny_holding (wpAny_mono z₅ (fun inner s₆ z₆ => ?_) fun _ _ z => z))))))
      refine wpAny_bind (wpAny_runOwn ?_)
      rw [Around.mark_none]
      refine codeAny_mono z₆ ?_
      rintro (e | f) s' done
      · exact done.elim
      · first
          | exact wpAny_pure ⟨rfl, done⟩
          | exact wpAny_bind (wpAny_pure (wpAny_pure ⟨rfl, done⟩))
theorem loop_in (Inn : Nat → Shared → Prop)
    (step : ∀ n s, Inn n s → wpAny (model prog w) A (pyNext it) (fun got s₁ => match got with
      | none => R (.ok .next) s₁
      | some x => wpAny (model prog w) A (letOwnedTupleGo t1 it x) (fun _ s₂ => wpAny (model prog w) A (assign t1 env x) (fun _ s₃ => wpAny (model prog w) A (tests ifs1 env) (fun go s₄ =>
          if go = true then wpAny (model prog w) A (eval kx env) (fun key s₅ => wpAny (model prog w) A (eval vx env) (fun val s₆ =>
            wpAny (model prog w) A (dictSet D key val) (fun _ s₇ => ∃ m, m < n ∧ Inn m s₇) (Fell prog w A env R) s₆) (Fell prog w A env R) s₅) (Fell prog w A env R) s₄
          else ∃ m, m < n ∧ Inn m s₄) (Fell prog w A env R) s₃) (Fell prog w A env R) s₂) (Fell prog w A env R) s₁) (Fell prog w A env R) s)
    (n : Nat) (start : Inn n s) : codeAny (model prog w) A (.compLoop (.DictComp kx vx [⟨t0, i0, ifs0, 0⟩, ⟨t1, i1, ifs1, 0⟩] scope pos) 1 it (.ref D) env) R s := by
  refine codeAny_loop rfl Inn (fun n s now => ?_) n start
  show wpAny _ A ((compTurn (.DictComp kx vx [⟨t0, i0, ifs0, 0⟩, ⟨t1, i1, ifs1, 0⟩] scope pos) 1 it (.ref D) env).onRaise (fun e => do noteFrame e env; theTreesLotGoes e)) _ _ s
  refine wpAny_noted ?_
  rw [turn_in]
  refine wpAny_bind (wpAny_standAt (wpAny_bind (wpAny_mono (step n s now) ?_ fun _ _ z => z)))
  rintro (_ | x) s₁ z₁
  · exact wpAny_pure z₁
  · refine wpAny_bind (wpAny_mono z₁ (fun _ s₂ z₂ => wpAny_bind (wpAny_mono z₂ (fun _ s₃ z₃ => wpAny_bind (wpAny_mono z₃ ?_ fun _ _ z => z)) fun _ _ z => z)) fun _ _ z => z)
    rintro (_ | _) s₄ z₄
    · exact wpAny_pure ⟨rfl, z₄⟩
    · exact wpAny_bind (wpAny_bind (wpAny_mono z₄ (fun key s₅ z₅ => wpAny_bind (wpAny_holding (wpAny_mono z₅ (fun val s₆ z₆ => wpAny_bind (wpAny_standAt (wpAny_holding (wpAny_mono z₆ (fun _ s₇ z₇ => wpAny_pure ⟨rfl, z₇⟩) fun _ _ z => z)))) fun _ _ z => z))) fun _ _ z => z))
theorem start_in (self : codeAny (model prog w) A (.compLoop (.DictComp kx vx [⟨t0, i0, ifs0, 0⟩, ⟨t1, i1, ifs1, 0⟩] scope pos) 1 it acc env) R s)
    (anew : wpAny (model prog w) A (pyIter it) (fun it' s' => codeAny (model prog w) A (.compLoop (.DictComp kx vx [⟨t0, i0, ifs0, 0⟩, ⟨t1, i1, ifs1, 0⟩] scope pos) 1 it' acc env) R s') (Fell prog w A env R) s) :
    codeAny (model prog w) A (.compStart (.DictComp kx vx [⟨t0, i0, ifs0, 0⟩, ⟨t1, i1, ifs1, 0⟩] scope pos) 1 it acc env) R s := by
  refine codeAny_of_tree ?_
  show wpAny _ _ ((compStart (.DictComp kx vx [⟨t0, i0, ifs0, 0⟩, ⟨t1, i1, ifs1, 0⟩] scope pos) 1 it acc env).onRaise (fun e => do noteFrame e env; standAt theWindowsPlace)) _ _ s
  refine wpAny_notedAt ?_
  unfold compStart
  show wpAny _ _ (ask >>= _) _ _ s
  refine wpAny_bind (wpAny_askSetting (wpAny_ite ?_))
  split
  · first
      | exact wpAny_bind (wpAny_pure (wpAny_pure (And.intro rfl self)))
      | exact wpAny_pure (And.intro rfl self)
  · first
      | exact wpAny_bind (wpAny_rule (wpAny_bind (wpAny_standAt (wpAny_bind (wpAny_mono anew (fun it' s' z => wpAny_pure (And.intro rfl z)) fun _ _ z => z)))))
      | (refine wpAny_bind (wpAny_rule ?_); show wpAny _ _ (standAt i1.pos >>= _) _ _ s; exact wpAny_bind (wpAny_standAt (wpAny_bind (wpAny_mono anew (fun it' s' z => wpAny_pure (And.intro rfl z)) fun _ _ z => z))))
end
/-- within the comprehension's block -/
abbrev InBlk (X : Cx) (scope : Scope) (J : Cx → Prop) : Prop := ∀ (s : Shared) (H : Hp) (C : Addr) (cl : List (Str × Addr)) (fp : List Addr), J (X.blk s H scope (compEnvC scope cl C X.env) fp)
/-- {k: v for tg in iter if .. for tg1 in iter1 if ..}: D the new dict, of keys of the one sort or of the other -/
def tDc2 (e0 : HO) (wi : TI) (g : TG) (tt : TT) (wi1 : TI) (g1 : TG) (tt1 : TT) (tk tv : TE) (vs vs1 : List Nat) : TE := fun σ H Q => wi σ H fun J H1 => ∀ D, H1 D = none → ∃ W : Nat → Nat → Hp → Prop, (∃ m, W 0 m (upd H1 D e0)) ∧ ∀ i m H, W i m H →
  (J.stop i H ∧ Q (.ref D) H) ∨ (J.go i H ∧ ∃ Nx : Hp → Prop, (∀ H', Nx H' → ∃ m', m' < m ∧ W (i + 1) m' H') ∧ ∀ x H', J.yld i H x H' → g x (wipe σ vs) H' fun σ2 H2 => wipe σ2 vs = wipe σ vs ∧ tt σ2 H2 fun b H3 =>
    if b = true then wi1 σ2 H3 fun J1 H4 => ∃ W1 : Nat → Nat → Hp → Prop, (∃ m, W1 0 m H4) ∧ ∀ j k H, W1 j k H →
      (J1.stop j H ∧ Nx H) ∨ (J1.go j H ∧ ∃ Nx1 : Hp → Prop, (∀ H', Nx1 H' → ∃ k', k' < k ∧ W1 (j + 1) k' H') ∧ ∀ x H', J1.yld j H x H' → g1 x (wipe σ2 vs1) H' fun σ3 H5 => wipe σ3 vs1 = wipe σ2 vs1 ∧ tt1 σ3 H5 fun b H6 =>
        if b = true then tk σ3 H6 fun y H7 => tv σ3 H7 fun z H8 => ∃ H9, DPut H8 D y z H9 ∧ Nx1 H9 else Nx1 H6)
    else Nx H3)
section
variable {X : Cx} {pins : List (Addr × Obj)} {s : Shared} {σ : L2.St} {H : Hp} {Q : VK} {kx vx tg iter tg1 iter1 : Expr} {ifs ifs1 : List Expr} {scope : Scope} {own : List (Str × Nat)} {vs1 : List Nat} {pos pos' : Pos} {wi wi1 : TI} {g g1 : TG} {tt tt1 : TT} {tk tv : TE} {e0 : HO}
  {use : Option (Value → Sem Unit)} {Qf : Value → Shared → Prop}
theorem dc2_core (he0 : e0 = .dK [] ∨ e0 = .dT []) (room : X.A.units + 1 < cLine) (calm : X.calm = true) (nd : X.N.Nodup) (I : Inv X pins σ H s) (src : PI X tg iter wi) (ok : BlkOk X.N X.env.scope scope own) (sub : ∀ i ∈ vs1, i ∈ own.map (·.2))
    (hg : InBlk X scope fun B => PG B tg g) (ht : InBlk X scope fun B => PTs B ifs tt) (src1 : InBlk X scope fun B => PI B tg1 iter1 wi1) (hg1 : InBlk X scope fun B => PG B tg1 g1) (ht1 : InBlk X scope fun B => PTs B ifs1 tt1)
    (hk : InBlk X scope fun B => PE B kx tk) (hv : InBlk X scope fun B => PE B vx tv) (noFold : ∀ x, foldedSetIterable iter X.env x = pure x) (noFold1 : ∀ env x, foldedSetIterable iter1 env x = pure x)
    (given : tDc2 e0 wi g tt wi1 g1 tt1 tk tv (own.map (·.2)) vs1 σ H Q)
    (after : ∀ D C s' m H', Inv X pins σ H' s' → Q (.ref D) H' → s'.heap.Ns C m → FpOk X pins H' C → compPost (model X.prog X.w) X.A X.xe use Qf (.ref D) C (.ok .next) s') :
    wpAny (model X.prog X.w) X.A (comprehension (.DictComp kx vx [⟨tg, iter, ifs, 0⟩, ⟨tg1, iter1, ifs1, 0⟩] scope pos) scope X.env pos' newDict false (eval iter X.env) use) Qf X.xe s := by
  have caught : ∀ y ∈ scope.names, y.2 = .free → ∃ c, X.env.cells.lookup y.1 = some c := fun y hy e => (ok.free y hy e).elim (fun k => I.ok.has _ (.inl k)) fun k => I.ok.has _ (.inr k)
  refine wpAny_comprehension_free (use := use) rfl noFold (closure_ok caught) ok.kind (fun y hy e => by rw [ok.uniq y hy, e]) (thn (src.run pins s σ H _ I given) fun xv s1 z1 => thn z1 fun itv s2 z2 => ?_)
  obtain ⟨it, fp, tn, J, H2, rfl, I2, T, st2, f2, q⟩ := z2
  refine wpAny_newObj_type (newEnv_comp ?_)
  generalize hD : s2.heap.objs.size = D
  obtain ⟨W, ⟨m0, w0⟩, turn⟩ := q D (I2.hok.fresh (Nat.le_of_eq hD))
  generalize hs3 : ({ s2 with heap := s2.heap.push { cls := .type "dict", data := .dict #[] } } : Shared) = s3
  have I3 : Inv X pins σ (upd H2 D e0) s3 := by
    rw [← hs3]
    refine I2.laid (t' := s2.toks) (fun b o e => Heap.get?_push_of_some _ e) (Nat.le_of_eq hD) ?_
    rw [← hD]
    rcases he0 with rfl | rfl
    · exact dk_empty s2.heap I2.big
    · exact dt_empty s2.heap I2.big
  have grown : s3.heap = s2.heap.push { cls := .type "dict", data := .dict #[] } := by rw [← hs3]
  have f3 : ∀ b ∈ fp, FpOk X pins (upd H2 D e0) b ∧ b < s3.heap.objs.size := fun b hb => by
    obtain ⟨o, e, _⟩ := T.obj _ _ st2 b hb
    have lt := Heap.lt_size e
    refine ⟨⟨?_, (f2 b hb).2⟩, by rw [grown, Heap.size_push]; exact Nat.lt_succ_of_lt lt⟩
    rw [upd_ne (by rw [← hD]; exact Nat.ne_of_lt lt)]
    exact (f2 b hb).1
  have st3 : tn 0 s3.heap := T.keep _ _ _ st2 fun b _ o e => by rw [grown]; exact Heap.get?_push_of_some _ e
  have I4 := block_start I3 ok nd f3
  generalize hcl : cellsFrom (s3.heap.objs.size + 1) scope.names (cloFrom X.env.cells scope.names []) = cl at I4 ⊢
  have pg := hg s3 (upd H2 D e0) s3.heap.objs.size cl fp
  have pt := ht s3 (upd H2 D e0) s3.heap.objs.size cl fp
  have ps1 := src1 s3 (upd H2 D e0) s3.heap.objs.size cl fp
  have pg1 := hg1 s3 (upd H2 D e0) s3.heap.objs.size cl fp
  have pt1 := ht1 s3 (upd H2 D e0) s3.heap.objs.size cl fp
  have pk := hk s3 (upd H2 D e0) s3.heap.objs.size cl fp
  have pv' := hv s3 (upd H2 D e0) s3.heap.objs.size cl fp
  show codeAny _ _ (.compStart (.DictComp kx vx [⟨tg, iter, ifs, 0⟩, ⟨tg1, iter1, ifs1, 0⟩] scope pos) 0 (.ref it) (.ref D) (compEnvC scope cl s3.heap.objs.size X.env)) (compPost (model X.prog X.w) X.A X.xe use Qf (.ref D) s3.heap.objs.size) { s3 with heap := pushCells (s3.heap.push { cls := .type "dict", data := .dict #[] }) scope.names }
  have nfp : ∀ b ∈ fp, (upd H2 D e0) b = none := fun b hb => (f3 b hb).1.1
  generalize hce : compEnvC scope cl s3.heap.objs.size X.env = ce at I4 pg pt ps1 pg1 pt1 pk pv' ⊢
  have cL : ce.locals = s3.heap.objs.size := by rw [← hce] <;> rfl
  generalize hH3 : upd H2 D e0 = H3 at I3 I4 pg pt ps1 pg1 pt1 pk pv' w0 nfp f3
  generalize hs4 : ({ s3 with heap := pushCells (s3.heap.push { cls := .type "dict", data := .dict #[] }) scope.names } : Shared) = s4 at I4 ⊢
  have st4 : tn 0 s4.heap := T.keep _ _ _ st3 fun b _ o e => by rw [← hs4]; exact pushCells_keeps _ _ _ _ (Heap.get?_push_of_some _ e)
  have still : ∀ {σ' : L2.St} {H' : Hp} {s' : Shared}, Inv (X.blk s3 H3 scope ce fp) [] σ' H' s' → (∀ b ∈ fp, H' b = none) → ∀ b ∈ fp, FpOk (X.blk s3 H3 scope ce fp) [] H' b := fun {σ' H' s'} I' out b hb =>
    ⟨out b hb, (I'.ok.exf b hb).1, I'.ok.exfs b hb, .inl hb, fun x c e => (I'.ok.exf b hb).2 x c e, fun p hp => absurd (show p ∈ ([] : List (Addr × Obj)) ++ [] from hp) (by simp)⟩
  have loop : codeAny (model X.prog X.w) X.A (.compLoop (.DictComp kx vx [⟨tg, iter, ifs, 0⟩, ⟨tg1, iter1, ifs1, 0⟩] scope pos) 0 (.ref it) (.ref D) ce) (compPost (model X.prog X.w) X.A X.xe use Qf (.ref D) s3.heap.objs.size) s4 := by
    refine loop_out (noFold1 ce) (fun n s' => ∃ i H', Inv (X.blk s3 H3 scope ce fp) [] (wipe σ (own.map (·.2))) H' s' ∧ tn i s'.heap ∧ (∀ b ∈ fp, H' b = none) ∧ W i n H') ?_ m0 ⟨0, H3, I4, st4, nfp, w0⟩
    rintro n s5 ⟨i, H5, I5, st5, n5, w5⟩
    rcases turn i n H5 w5 with ⟨stop, told⟩ | ⟨go, Nx, less, step⟩
    · refine thnF (T.done (X.blk s3 H3 scope ce fp) rfl rfl rfl calm i [] s5 _ H5 (fun _ _ => False) I5 (still I5 n5) st5 stop) fun r s6 ⟨hr, I6⟩ => ?_
      subst hr
      have I7 : Inv X pins σ H5 s6 := I3.call' (ch := fp) I6.os I6.base I6.hok I6.bare fun b hb => ⟨(f3 b hb).1.2.2.2.1, (f3 b hb).1.2.1, (f3 b hb).1.2.2.2.2.1, (f3 b hb).1.2.2.2.2.2⟩
      have nC : H5 s3.heap.objs.size = none := by
        rw [← cL]
        exact I6.free
      obtain ⟨m, held, _⟩ := I6.loc
      have held : s6.heap.Ns ce.locals m := held
      rw [cL] at held
      exact after D s3.heap.objs.size s6 m H5 I7 told held (I3.fpOk (Nat.le_refl _) nC)
    · refine thnF (T.item (X.blk s3 H3 scope ce fp) rfl rfl rfl calm i [] s5 _ H5 (fun _ _ => False) I5 (still I5 n5) st5 go) fun r s6 ⟨u, hr, z6⟩ => ?_
      subst hr
      refine thnF z6 fun _ s7 ⟨x, H7, I7, r7, y7, st7, n7⟩ => ?_
      have I7' := I7.pinned (still I7 n7) (T.obj _ _ st7)
      refine thnF (pg.run _ s7 _ H7 x u _ I7' r7 (step x H7 y7)) fun _ s8 ⟨σ8, H8, I8, as8, q8⟩ => ?_
      refine thnF (pt.run _ s8 σ8 H8 _ I8 q8) fun b s9 ⟨H9, I9, q9⟩ => ?_
      -- back at the loop's head, from whatever slots
      have head : ∀ {σ9 : L2.St} {s' : Shared} {H' : Hp}, Inv (X.blk s3 H3 scope ce fp) ([] ++ pinsAt fp s7.heap) σ9 H' s' → (wipe σ (own.map (·.2))).length = σ9.length → (∀ (j : Nat) v, (wipe σ (own.map (·.2)))[j]? = some (some v) → σ9[j]? = some (some v)) → Nx H' →
          ∃ m, m < n ∧ ∃ i H', Inv (X.blk s3 H3 scope ce fp) [] (wipe σ (own.map (·.2))) H' s' ∧ tn i s'.heap ∧ (∀ b ∈ fp, H' b = none) ∧ W i m H' := fun {σ9 s' H'} I' len keep nx => by
        obtain ⟨m', lt, w'⟩ := less H' nx
        have there : ∀ b ∈ fp, ∀ o, s7.heap.get? b = some o → s'.heap.get? b = some o ∧ H' b = none := fun b hb o e =>
          have z := I'.pin (b, o) (List.mem_append_right _ (List.mem_append_right _ (mem_pinsAt hb e)))
          ⟨z.1, z.2.1⟩
        refine ⟨m', lt, i + 1, H', (I'.unpinned (pins := [])).weak len keep, T.keep _ _ _ st7 fun b hb o e => (there b hb o e).1, fun b hb => ?_, w'⟩
        obtain ⟨o, e, _⟩ := T.obj _ _ st7 b hb
        exact (there b hb o e).2
      have len8 : (wipe σ (own.map (·.2))).length = σ8.length := by rw [← as8, wipe_length]
      have keep8 : ∀ (j : Nat) v, (wipe σ (own.map (·.2)))[j]? = some (some v) → σ8[j]? = some (some v) := fun j v e => (wipe_some (by rw [as8]; exact e)).1
      have keep9 : ∀ (j : Nat) v, (wipe σ (own.map (·.2)))[j]? = some (some v) → (wipe σ8 vs1)[j]? = some (some v) := fun j v e => by
        obtain ⟨z1, z2⟩ := wipe_some (by rw [as8]; exact e)
        exact (wipe_out fun z => z2 (sub j z)).trans z1
      cases b with
      | false =>
        simp only [Bool.false_eq_true, if_false] at q9 ⊢
        exact head I9 len8 keep8 q9
      | true =>
        simp only [if_true] at q9 ⊢
        refine thnF (ps1.run _ s9 σ8 H9 _ I9 q9) fun xv s10 z10 => thnF z10 fun itv s11 z11 => ?_
        obtain ⟨it1, fp1, tn1, J1, H11, rfl, I11, T1, st11, f11, W1, ⟨m1, w1⟩, turn1⟩ := z11
        have still1 : ∀ {H' : Hp}, (∀ b ∈ fp1, H' b = none) → ∀ b ∈ fp1, FpOk (X.blk s3 H3 scope ce fp) ([] ++ pinsAt fp s7.heap) H' b := fun out b hb => ⟨out b hb, (f11 b hb).2⟩
        have inner : codeAny (model X.prog X.w) X.A (.compLoop (.DictComp kx vx [⟨tg, iter, ifs, 0⟩, ⟨tg1, iter1, ifs1, 0⟩] scope pos) 1 (.ref it1) (.ref D) ce)
            (fun res s' => match res with
              | .ok _ => ∃ m, m < n ∧ ∃ i H', Inv (X.blk s3 H3 scope ce fp) [] (wipe σ (own.map (·.2))) H' s' ∧ tn i s'.heap ∧ (∀ b ∈ fp, H' b = none) ∧ W i m H'
              | .error _ => False) s11 := by
          refine loop_in (fun k s' => ∃ j H', Inv (X.blk s3 H3 scope ce fp) ([] ++ pinsAt fp s7.heap) (wipe σ8 vs1) H' s' ∧ tn1 j s'.heap ∧ (∀ b ∈ fp1, H' b = none) ∧ W1 j k H') ?_ m1 ⟨0, H11, I11.weak (wipe_length _ _) (fun j v e => (wipe_some e).1), st11, fun b hb => (f11 b hb).1, w1⟩
          rintro k s12 ⟨j, H12, I12, st12, n12, w12⟩
          rcases turn1 j k H12 w12 with ⟨stop1, nx1⟩ | ⟨go1, Nx1, less1, step1⟩
          · refine thnF (T1.done (X.blk s3 H3 scope ce fp) rfl rfl rfl calm j _ s12 (wipe σ8 vs1) H12 (fun _ _ => False) I12 (still1 n12) st12 stop1) fun r s13 ⟨hr, I13⟩ => ?_
            subst hr
            exact head I13 (len8.trans (wipe_length σ8 vs1).symm) keep9 nx1
          · refine thnF (T1.item (X.blk s3 H3 scope ce fp) rfl rfl rfl calm j _ s12 (wipe σ8 vs1) H12 (fun _ _ => False) I12 (still1 n12) st12 go1) fun r s13 ⟨u1, hr, z13⟩ => ?_
            subst hr
            refine thnF z13 fun _ s14 ⟨x1, H14, I14, r14, y14, st14, n14⟩ => ?_
            have I14' := I14.pinned (still1 n14) (T1.obj _ _ st14)
            refine thnF (pg1.run _ s14 (wipe σ8 vs1) H14 x1 u1 _ I14' r14 (step1 x1 H14 y14)) fun _ s15 ⟨σ15, H15, I15, as15, q15⟩ => ?_
            refine thnF (pt1.run _ s15 σ15 H15 _ I15 q15) fun b1 s16 ⟨H16, I16, q16⟩ => ?_
            have head1 : ∀ {s' : Shared} {H' : Hp}, Inv (X.blk s3 H3 scope ce fp) (([] ++ pinsAt fp s7.heap) ++ pinsAt fp1 s14.heap) σ15 H' s' → Nx1 H' →
                ∃ m, m < k ∧ ∃ j H', Inv (X.blk s3 H3 scope ce fp) ([] ++ pinsAt fp s7.heap) (wipe σ8 vs1) H' s' ∧ tn1 j s'.heap ∧ (∀ b ∈ fp1, H' b = none) ∧ W1 j m H' := fun {s' H'} I' nx => by
              obtain ⟨m', lt, w'⟩ := less1 H' nx
              have there : ∀ b ∈ fp1, ∀ o, s14.heap.get? b = some o → s'.heap.get? b = some o ∧ H' b = none := fun b hb o e =>
                have z := I'.pin (b, o) (List.mem_append_right _ (List.mem_append_right _ (mem_pinsAt hb e)))
                ⟨z.1, z.2.1⟩
              refine ⟨m', lt, j + 1, H', I'.unpinned.weak (by rw [← as15, wipe_length]) (fun j v e => (wipe_some (by rw [as15]; exact e)).1), T1.keep _ _ _ st14 fun b hb o e => (there b hb o e).1, fun b hb => ?_, w'⟩
              obtain ⟨o, e, _⟩ := T1.obj _ _ st14 b hb
              exact (there b hb o e).2
            cases b1 with
            | false =>
              simp only [Bool.false_eq_true, if_false] at q16 ⊢
              exact head1 I16 q16
            | true =>
              simp only [if_true] at q16 ⊢
              refine thnF (pk.run _ s16 σ15 H16 _ I16 q16) fun key s17 ⟨yk, H17, I17, r17, q17⟩ => ?_
              refine thnF (pv'.run _ s17 σ15 H17 _ I17 q17) fun val s18 ⟨yv, H18, I18, r18, H19, put, nx⟩ => ?_
              exact put_dict (X := X.blk s3 H3 scope ce fp) room I18 put r17 r18 fun s19 I19 => head1 I19 nx
        exact start_in inner (T1.self X.A 0 _ _ _ st11 inner)
  exact codeAny_compStart_dict loop (T.self X.A 0 _ _ _ st4 loop)
theorem pe_dc2 {pos : Pos} (he0 : e0 = .dK [] ∨ e0 = .dT []) (room : X.A.units + 1 < cLine) (calm : X.calm = true) (nd : X.N.Nodup) (src : PI X tg iter wi) (ok : BlkOk X.N X.env.scope scope own) (sub : ∀ i ∈ vs1, i ∈ own.map (·.2))
    (hg : InBlk X scope fun B => PG B tg g) (ht : InBlk X scope fun B => PTs B ifs tt) (src1 : InBlk X scope fun B => PI B tg1 iter1 wi1) (hg1 : InBlk X scope fun B => PG B tg1 g1) (ht1 : InBlk X scope fun B => PTs B ifs1 tt1)
    (hk : InBlk X scope fun B => PE B kx tk) (hv : InBlk X scope fun B => PE B vx tv) (noFold : ∀ x, foldedSetIterable iter X.env x = pure x := by intro _; rfl) (noFold1 : ∀ env x, foldedSetIterable iter1 env x = pure x := by intro _ _; rfl) :
    PE X (.DictComp kx vx [⟨tg, iter, ifs, 0⟩, ⟨tg1, iter1, ifs1, 0⟩] scope pos) (tDc2 e0 wi g tt wi1 g1 tt1 tk tv (own.map (·.2)) vs1) := by
  refine ⟨fun pins s σ H Q I given => ?_⟩
  rw [arm_eval_DictComp]
  refine dc2_core he0 room calm nd I src ok sub hg ht src1 hg1 ht1 hk hv noFold noFold1 given ?_
  intro D C s' m H' J told held ⟨c0, c1, c2, c3, c4, c5⟩
  exact ⟨m, held, fun h'' sb => ⟨.ref D, H', J.turned (t' := s'.toks) (fun b o hb e => (sb.2 b hb).trans e) c0 c1 c3 c4 c5, rfl, told⟩⟩
end
/-! both sources tuples -/
section
variable {K : PySem.W.Frag} {σ : L2.St} {D : Addr} {vs vs1 : List Nat}
/-- the second for, over a tuple that stays -/
theorem dIn_tup {b : Addr} {ys : List V} {g1 : TG} {tt1 : TT} {tk tv : TE} {H4 : Hp} {Nx : Hp → Prop} (Pw : Nat → Hp → Prop) (h0 : Pw 0 H4) (hl : ∀ j H, Pw j H → SqT K H b ys)
    (hs : ∀ j y H, ys[j]? = some y → Pw j H → g1 y (wipe σ vs1) H fun σ3 H5 => wipe σ3 vs1 = wipe σ vs1 ∧ tt1 σ3 H5 fun c H6 => if c = true then tk σ3 H6 fun y H7 => tv σ3 H7 fun z H8 => ∃ H9, DPut H8 D y z H9 ∧ Pw (j + 1) H9 else Pw (j + 1) H6)
    (hd : ∀ H, Pw ys.length H → Nx H) :
    ∃ W1 : Nat → Nat → Hp → Prop, (∃ m, W1 0 m H4) ∧ ∀ j k H, W1 j k H → ((Itt K b).stop j H ∧ Nx H) ∨ ((Itt K b).go j H ∧ ∃ Nx1 : Hp → Prop, (∀ H', Nx1 H' → ∃ k', k' < k ∧ W1 (j + 1) k' H') ∧
      ∀ x H', (Itt K b).yld j H x H' → g1 x (wipe σ vs1) H' fun σ3 H5 => wipe σ3 vs1 = wipe σ vs1 ∧ tt1 σ3 H5 fun c H6 => if c = true then tk σ3 H6 fun y H7 => tv σ3 H7 fun z H8 => ∃ H9, DPut H8 D y z H9 ∧ Nx1 H9 else Nx1 H6) := by
  refine ⟨fun j k H => k + j = ys.length ∧ Pw j H, ⟨ys.length, rfl, h0⟩, ?_⟩
  rintro j k H ⟨hk, p⟩
  cases k with
  | zero =>
    have e : j = ys.length := by omega
    rw [e] at p ⊢
    exact .inl ⟨⟨ys, hl _ _ p, Nat.le_refl _⟩, hd H p⟩
  | succ k =>
    have lt : j < ys.length := by omega
    refine .inr ⟨⟨ys, ys[j], hl _ _ p, List.getElem?_eq_getElem lt⟩, Pw (j + 1), fun H' p' => ⟨k, Nat.lt_succ_self _, by omega, p'⟩, ?_⟩
    rintro x H' ⟨rfl, y⟩
    exact hs j x _ (y ys (hl _ _ p)) p
/-- the first for -/
theorem dOut_tup {a : Addr} {xs : List V} {g g1 : TG} {tt tt1 : TT} {wi1 : TI} {e0 : HO} {tk tv : TE} {H1 : Hp} {Qd : Hp → Prop} (Pv : Nat → Hp → Prop) (h0 : Pv 0 (upd H1 D e0)) (hl : ∀ i H, Pv i H → SqT K H a xs)
    (hs : ∀ i x H, xs[i]? = some x → Pv i H → g x (wipe σ vs) H fun σ2 H2 => wipe σ2 vs = wipe σ vs ∧ tt σ2 H2 fun c H3 => if c = true then wi1 σ2 H3 fun J1 H4 => ∃ W1 : Nat → Nat → Hp → Prop, (∃ m, W1 0 m H4) ∧ ∀ j k H, W1 j k H → (J1.stop j H ∧ Pv (i + 1) H) ∨ (J1.go j H ∧ ∃ Nx1 : Hp → Prop, (∀ H', Nx1 H' → ∃ k', k' < k ∧ W1 (j + 1) k' H') ∧
      ∀ x H', J1.yld j H x H' → g1 x (wipe σ2 vs1) H' fun σ3 H5 => wipe σ3 vs1 = wipe σ2 vs1 ∧ tt1 σ3 H5 fun c H6 => if c = true then tk σ3 H6 fun y H7 => tv σ3 H7 fun z H8 => ∃ H9, DPut H8 D y z H9 ∧ Nx1 H9 else Nx1 H6) else Pv (i + 1) H3)
    (hd : ∀ H, Pv xs.length H → Qd H) :
    ∃ W : Nat → Nat → Hp → Prop, (∃ m, W 0 m (upd H1 D e0)) ∧ ∀ i m H, W i m H → ((Itt K a).stop i H ∧ Qd H) ∨ ((Itt K a).go i H ∧ ∃ Nx : Hp → Prop, (∀ H', Nx H' → ∃ m', m' < m ∧ W (i + 1) m' H') ∧
      ∀ x H', (Itt K a).yld i H x H' → g x (wipe σ vs) H' fun σ2 H2 => wipe σ2 vs = wipe σ vs ∧ tt σ2 H2 fun c H3 => if c = true then wi1 σ2 H3 fun J1 H4 => ∃ W1 : Nat → Nat → Hp → Prop, (∃ m, W1 0 m H4) ∧ ∀ j k H, W1 j k H → (J1.stop j H ∧ Nx H) ∨ (J1.go j H ∧ ∃ Nx1 : Hp → Prop, (∀ H', Nx1 H' → ∃ k', k' < k ∧ W1 (j + 1) k' H') ∧
        ∀ x H', J1.yld j H x H' → g1 x (wipe σ2 vs1) H' fun σ3 H5 => wipe σ3 vs1 = wipe σ2 vs1 ∧ tt1 σ3 H5 fun c H6 => if c = true then tk σ3 H6 fun y H7 => tv σ3 H7 fun z H8 => ∃ H9, DPut H8 D y z H9 ∧ Nx1 H9 else Nx1 H6) else Nx H3) := by
  refine ⟨fun i k H => k + i = xs.length ∧ Pv i H, ⟨xs.length, rfl, h0⟩, ?_⟩
  rintro i k H ⟨hk, p⟩
  cases k with
  | zero =>
    have e : i = xs.length := by omega
    rw [e] at p ⊢
    exact .inl ⟨⟨xs, hl _ _ p, Nat.le_refl _⟩, hd H p⟩
  | succ k =>
    have lt : i < xs.length := by omega
    refine .inr ⟨⟨xs, xs[i], hl _ _ p, List.getElem?_eq_getElem lt⟩, Pv (i + 1), fun H' p' => ⟨k, Nat.lt_succ_self _, by omega, p'⟩, ?_⟩
    rintro x H' ⟨rfl, y⟩
    exact hs i x _ (y xs (hl _ _ p)) p
end
end Own

/-! d[text] = v into a dict whose keys are tuples; what is then told of d: some dict; d.clear() of such a one. -/
namespace Own
open PySem PySem.Spec PyProof.Rows L2
section
variable {prog : Program} {w : World} {A : Around} {E : Value → Shared → Prop} {s : Shared}
/-- a key that is an object unlike the text -/
def OffKey (prog : Program) (w : World) (A : Around) (h : Heap) (z : Str) (t : Tok) (e : DictEntry) : Prop := ∃ b, e.key = .ref b ∧
  (∀ {E : Value → Shared → Prop} {s' : Shared} {Q : Bool → Shared → Prop}, s'.heap = h → Q true s' → wpAny (model prog w) A (eqIsQuiet 8 (.ref b)) Q E s') ∧
  (∀ {E : Value → Shared → Prop} {s' : Shared} {Q : Bool → Shared → Prop}, s'.heap = h → Q false s' → wpAny (model prog w) A (eqBool (.ref b) (.str z t)) Q E s')
theorem tells_off {z : Str} {t : Tok} {stored : List Value} {Q : Bool → Shared → Prop} (hk : ∀ v ∈ stored, ∃ b, v = .ref b ∧ ∀ {E : Value → Shared → Prop} {s' : Shared} {Q : Bool → Shared → Prop}, s'.heap = s.heap → Q true s' → wpAny (model prog w) A (eqIsQuiet 8 (.ref b)) Q E s') (h : Q false s) :
    wpAny (model prog w) A (tableMayTell (.str z t) stored) Q E s := by
  unfold tableMayTell
  by_cases e : stored.isEmpty = true
  · rw [if_pos e]
    exact wpAny_pure h
  · rw [if_neg e, eqIsQuiet_byValue 8 (v := .str z t) rfl]
    refine wpAny_bind (wpAny_pure ?_)
    simp only [Bool.not_true, Bool.false_eq_true, if_false]
    refine wpAny_bind ?_
    refine wpAny_forIn_list _ (fun rest r s' => s' = s ∧ r = (none, ()) ∧ ∀ v ∈ rest, ∃ b, v = .ref b ∧ ∀ {E : Value → Shared → Prop} {s' : Shared} {Q : Bool → Shared → Prop}, s'.heap = s.heap → Q true s' → wpAny (model prog w) A (eqIsQuiet 8 (.ref b)) Q E s') _ ?_ ?_ _ _ ⟨rfl, rfl, hk⟩
    · rintro x rest r s' ⟨rfl, rfl, hr⟩
      obtain ⟨b, rfl, hb⟩ := hr x List.mem_cons_self
      refine wpAny_bind (hb rfl ?_)
      simp only [Bool.not_true, Bool.false_eq_true, if_false]
      exact wpAny_pure ⟨rfl, rfl, fun v hv => hr v (List.mem_cons_of_mem _ hv)⟩
    · rintro r s' ⟨rfl, rfl, _⟩
      exact wpAny_pure h
theorem find_off {d : Addr} {o : Obj} {es : Array DictEntry} {ep : Nat} {z : Str} {t : Tok} {hs : Int} {Q : Option Nat → Shared → Prop} (ho : s.heap.get? d = some o) (hd : o.data = .dict es ep) (hk : ∀ e ∈ es, OffKey prog w A s.heap z t e) (h : Q none s) :
    wpAny (model prog w) A (dictFind d (.str z t) hs) Q E s := by
  unfold dictFind
  try with_reducible refine wpAny_holding ?_
  refine wpAny_bind (wpAny_dictEntries ho hd ?_)
  dsimp only
  by_cases e0 : (es.all fun e => isExactStrKey e.key) = true
  · rw [if_pos e0]
    have em : es.findIdx? (fun e => e.key.isStr z) = none := by
      rw [Array.findIdx?_eq_none_iff]
      intro e he
      obtain ⟨b, eb, _⟩ := hk e he
      rw [eb]
      rfl
    unfold foundByValue
    rw [em]
    exact wpAny_bind (wpAny_pure (wpAny_pure h))
  · rw [if_neg e0]
    have off : ∀ {i : Nat} {e : DictEntry}, es[i]? = some e → OffKey prog w A s.heap z t e := fun {i e} h => hk e (Array.mem_of_getElem? h)
    by_cases e1 : ((Value.str z t :: (placesWithHash es.size (fun i => es[i]?.map (·.hash)) hs).filterMap fun i => es[i]?.map (·.key)).all carriedByValue) = true
    · rw [if_pos e1]
      have none' : ∀ i ∈ placesWithHash es.size (fun i => es[i]?.map (·.hash)) hs, es[i]? = none := fun i hi => by
        cases he : es[i]? with
        | none => rfl
        | some e =>
          obtain ⟨b, eb, _⟩ := off he
          have := List.all_eq_true.mp e1 e.key (List.mem_cons_of_mem _ (List.mem_filterMap.mpr ⟨i, hi, by rw [he]; rfl⟩))
          rw [eb] at this
          cases this
      refine wpAny_bind ?_
      refine wpAny_forIn_list _ (fun rest r s' => s' = s ∧ r = (none, ()) ∧ ∀ i ∈ rest, es[i]? = none) _ ?_ ?_ _ _ ⟨rfl, rfl, none'⟩
      · rintro x rest r s' ⟨rfl, rfl, hr⟩
        rw [hr x List.mem_cons_self]
        exact wpAny_pure ⟨rfl, rfl, fun i hi => hr i (List.mem_cons_of_mem _ hi)⟩
      · rintro r s' ⟨rfl, rfl, _⟩
        exact wpAny_pure h
    · rw [if_neg e1]
      have refs : ∀ v ∈ (placesWithHash es.size (fun i => es[i]?.map (·.hash)) hs).filterMap (fun i => es[i]?.map (·.key)), ∃ b, v = .ref b ∧ ∀ {E : Value → Shared → Prop} {s' : Shared} {Q : Bool → Shared → Prop}, s'.heap = s.heap → Q true s' → wpAny (model prog w) A (eqIsQuiet 8 (.ref b)) Q E s' := by
        intro v hv
        obtain ⟨i, _, hi⟩ := List.mem_filterMap.mp hv
        cases he : es[i]? with
        | none => rw [he] at hi; cases hi
        | some e =>
          rw [he] at hi
          obtain rfl : e.key = v := by simpa using hi
          obtain ⟨b, eb, q1, _⟩ := off he
          exact ⟨b, eb, fun a c => q1 a c⟩
      by_cases hone : ((placesWithHash es.size (fun i => es[i]?.map (·.hash)) hs).filterMap (fun i => es[i]?.map (·.key)) == [Value.str z t]) = true <;>
      (first | rw [if_pos hone] | rw [if_neg hone]) <;> (first | refine wpAny_bind (wpAny_pure ?_) | refine wpAny_bind (tells_off refs ?_)) <;> (
        rw [if_neg (by simp)]
        refine wpAny_bind ?_
        refine wpAny_forIn_list _ (fun rest b s' => s' = s ∧ b = (none, none)) _ ?_ ?_ _ _ ⟨rfl, rfl⟩
        · rintro x rest b s' ⟨rfl, rfl⟩
          cases he : es[x]? with
          | none => exact wpAny_pure ⟨rfl, rfl⟩
          | some e =>
            obtain ⟨c, ec, _, q2⟩ := off he
            dsimp only
            by_cases hh : (e.hash == hs) = true
            · rw [if_pos hh]
              refine wpAny_bind (wpAny_dictEpoch ho hd (wpAny_bind ?_))
              rw [ec]
              refine q2 rfl (wpAny_bind (wpAny_dictEpoch ho hd ?_))
              rw [if_neg (by simp)]
              simp only [Bool.false_eq_true, if_false]
              refine wpAny_bind (wpAny_rule ?_)
              first
                | exact wpAny_pure ⟨rfl, rfl⟩
                | exact wpAny_bind (wpAny_pure (wpAny_pure ⟨rfl, rfl⟩))
            · rw [if_neg hh]
              exact wpAny_pure ⟨rfl, rfl⟩
        · rintro b s' ⟨rfl, rfl⟩
          exact wpAny_pure h)
theorem set_off {d : Addr} {o : Obj} {es : Array DictEntry} {ep : Nat} {z : Str} {t : Tok} {v : Value} {Q : Unit → Shared → Prop} (ho : s.heap.get? d = some o) (hx : o.ExactDict) (hd : o.data = .dict es ep) (hz : es.size ≤ sizeLine) (hk : ∀ e ∈ es, OffKey prog w A.in1 s.heap z t e)
    (h : ∀ h' tk, (∃ o' es' ep', h'.get? d = some o' ∧ o'.ExactDict ∧ o'.data = .dict es' ep' ∧ es'.size ≤ sizeLine + 1) → Heap.SameBut d s.heap h' → Q () { s with heap := h', toks := tk }) :
    wpAny (model prog w) A (setItem (.ref d) (.str z t) v) Q E s := by
  have hT : s.TypeIs (.ref d) "dict" := ⟨o, ho, hx.1⟩
  unfold setItem
  try with_reducible refine wpAny_holding ?_
  refine wpAny_bind (wpAny_sequenceKey hT (by decide) ?_)
  refine wpAny_bind (wpAny_callSpecial?_slot (name := Str.ofString "__setitem__") hT PySem.F.slot_dict_setitem
    (wpAny_call_entry PySem.F.slot_dict_setitem hT PySem.F.entry_dict_setitem ?_ (PySem.F.args_dict_setitem_3 _ _ _)))
  show wpAny _ _ (Builtin.Dict.notOrdered "__setitem__" ⟨[.ref d, .str z t, v], []⟩ >>= _) _ _ s
  refine wpAny_bind (wpAny_notOrdered_dict hT ?_)
  show wpAny _ _ (dictSet d (.str z t) v >>= _) _ _ s
  refine wpAny_bind ?_
  unfold dictSet
  try with_reducible refine wpAny_holding ?_
  refine wpAny_bind ((mixKind prog w).pyHash (k := .inr z) (v := .str z t) (kV_is (P := prog) (w := w) (k := .inr z) ⟨t, rfl⟩) ?_)
  unfold dictSetHashed
  try with_reducible refine wpAny_holding ?_
  refine wpAny_bind (find_off (s := { s with toks := s.toks + 1 }) ho hd hk ?_)
  refine wpAny_bind (wpAny_rule (wpAny_updateDictKeys (hz := hz) (s := { s with toks := s.toks + 1 }) ho hd ?_))
  exact wpAny_pure ⟨.none, rfl, wpAny_pure (h _ _ ⟨_, _, ep + 1, Heap.get?_update_self _ ho (Obj.isFreed_of_dict (Obj.data_mapDictKeys hd _)), hx.mapDictKeys _, Obj.data_mapDictKeys hd _, by rw [Array.size_push]; omega⟩ (Heap.SameBut.update ..))⟩
end
theorem paired_snd {α β : Type} {F : α → β → Prop} : ∀ {xs : List α} {ys : List β}, Paired F xs ys → ∀ y ∈ ys, ∃ x, F x y
  | _, _, .nil, y, h => by cases h
  | _, _, .cons a r, y, h => by
    rcases List.mem_cons.mp h with rfl | h
    · exact ⟨_, a⟩
    · exact paired_snd r y h
/-- some dict stands at a -/
def SomeD (a : Addr) : HO := .ext fun h => (a == sysModules) = false ∧ ∃ o es ep, h.get? a = some o ∧ o.ExactDict ∧ o.data = .dict es ep ∧ es.size ≤ sizeLine + 1
def keyD : L2.Key → PyData
  | .inl i => .int i
  | .inr z => .str z
section
variable {X : Cx} {pins : List (Addr × Obj)} {σ : L2.St} {H : Hp} {s : Shared} {A : Around} {E : Value → Shared → Prop}
theorem dp_keys {K : PySem.W.Frag} : ∀ ks : List L2.Key, DpAll K H (ks.map kV) (ks.map keyD)
  | [] => .nil
  | .inl i :: ks => .cons (.int i) (dp_keys ks)
  | .inr z :: ks => .cons (.str z) (dp_keys ks)
theorem plain_keys : ∀ ks : List L2.Key, PyData.plainAll (ks.map keyD) = true
  | [] => rfl
  | .inl i :: ks => by
    have ih := plain_keys ks
    rw [List.map_cons, PyData.plainAll, ih]
    rfl
  | .inr z :: ks => by
    have ih := plain_keys ks
    rw [List.map_cons, PyData.plainAll, ih]
    rfl
theorem some_new {a : Addr} {H' : Hp} {h' : Heap} (hd : (a == sysModules) = false) (x : ∃ o es ep, h'.get? a = some o ∧ o.ExactDict ∧ o.data = .dict es ep ∧ es.size ≤ sizeLine + 1) : ObjOk X.prog X.w H' h' a (SomeD a) := by
  obtain ⟨o, es, ep, ho, r⟩ := id x
  exact ⟨⟨hd, x⟩, ⟨o, ho⟩, fun h1 h2 ⟨d, o, es, ep, e, r⟩ k => ⟨d, o, es, ep, k _ e, r⟩⟩
/-- a text put into a dict whose keys are tuples -/
theorem d_spoil {a : Addr} {kvs : List (List L2.Key × V)} {z : Str} {t : Tok} {v : Value} {Q : Unit → Shared → Prop} (hu : A.units + 2 < cLine) (I : Inv X pins σ H s) (e : H a = some (.dT kvs)) (h : ∀ s', Inv X pins σ (upd H a (SomeD a)) s' → Q () s') :
    wpAny (model X.prog X.w) A (setItem (.ref a) (.str z t) v) Q E s := by
  obtain ⟨zl, hd, xs, rel, o, es, ep, ho, hx, hdat, hes, his, hn⟩ := dt_of I.hok e
  have hlen := Paired.length rel
  have hsz : es.size = xs.length := size_of_entries hes
  refine set_off ho hx hdat (by omega) (fun en hen => ?_) fun h' tk new hs => h _ ?_
  · have hm : en ∈ xs.map (entryOfKey (tupleKind (mixKind X.prog X.w))) := by rw [← hes]; exact Array.mem_toList_iff.mpr hen
    obtain ⟨x, hx', rfl⟩ := List.mem_map.mp hm
    obtain ⟨j, hj⟩ := List.getElem?_of_mem hx'
    obtain ⟨p, _, hp, _⟩ := paired_snd rel x hx'
    have key := his x hx'
    refine ⟨x.2.1, rfl, fun {E s' Q} eh q => ?_, fun {E s' Q} eh q => ?_⟩
    · exact (tupleKind (mixKind X.prog X.w)).quiet (by rw [eh]; exact key) q
    · obtain ⟨as, rd⟩ := Dp.reads I (.tuple (p.1.map keyD)) (.ref x.2.1) (.ref x.2.1) (.tup (.of hp) (dp_keys _)) rfl
      have at_ := PySem.SeqAt.eqAt_plain (.tuple (p.1.map keyD)) (.str z) A.in1 s' (.ref x.2.1) (.str z t) as [] (by rw [eh]; exact rd) (.str z t) (plain_keys _) rfl (by have : PyData.depth (.str z) = 0 := rfl; rw [this, Nat.min_zero]; show A.units + 1 + 0 < cLine; omega)
      exact at_ X.prog X.w E Q q
  · obtain ⟨o', es', ep', ho', r⟩ := id new
    exact d_write (t' := tk) I (by rw [e]; exact True.intro) hs ⟨o', ho'⟩ (some_new hd new)
/-- a text put into a dict whose keys are numbers and texts -/
theorem d_spoilK {a : Addr} {kvs : List (L2.Key × V)} {z : Str} {t : Tok} {x : V} {v : Value} {Q : Unit → Shared → Prop} (hu : A.units + 1 < cLine) (I : Inv X pins σ H s) (e : H a = some (.dK kvs)) (hz : kvs.length < sizeLine) (rv : RelV x v) (h : ∀ s', Inv X pins σ (upd H a (SomeD a)) s' → Q () s') :
    wpAny (model X.prog X.w) A (setItem (.ref a) (.str z t) v) Q E s := by
  refine d_setItem hu I (DPut.k (k := .inr z) e hz) ⟨t, rfl⟩ rv fun s' I' => h s' ?_
  have e' : (upd H a (.dK (putK kvs (.inr z) x))) a = some (.dK (putK kvs (.inr z) x)) := upd_same
  obtain ⟨zl, hd, vs, rel, o, es, ep, ho, hx, hdat, hk, hp, hn⟩ := dk_of I'.hok e'
  have hes : es.size ≤ sizeLine + 1 := by
    have e1 := hp.length
    have e2 : es.toList.length = es.size := by simp
    have e3 := Paired.length rel
    omega
  have := d_write (t' := s'.toks) I' (by rw [e']; exact True.intro) (Heap.SameBut.refl _ _) ⟨o, ho⟩ (some_new (X := X) (H' := upd (upd H a (.dK (putK kvs (.inr z) x))) a (SomeD a)) hd ⟨o, es, ep, ho, hx, hdat, hes⟩)
  rw [upd_upd] at this
  exact this
end
section
variable {prog : Program} {w : World} {d : Addr}
theorem clear_some : MeetsIn prog w (Builtin.«dict.clear» ⟨[.ref d], []⟩) (fun _ R s => (∃ o es ep, s.heap.get? d = some o ∧ o.ExactDict ∧ o.data = .dict es ep ∧ es.size ≤ sizeLine + 1) ∧
    ∀ h', h'.DictOf (mixKind prog w) d [] → Heap.SameBut d s.heap h' → R (.ok (.ret .none)) { s with heap := h' }) :=
  .of_wp fun A R s ⟨⟨o, es, ep, ho, hx, hdat, hz⟩, h⟩ => by
    have hT : s.TypeIs (.ref d) "dict" := ⟨o, ho, hx.1⟩
    unfold Builtin.«dict.clear»
    refine wpAny_bind ?_
    unfold Builtin.Dict.noArgs
    refine wpAny_bind (wpAny_notOrdered_dict hT ?_)
    show wpAny _ _ (pure d) _ _ s
    refine wpAny_pure (wpAny_bind (wpAny_dictEntries ho hdat (wpAny_bind ?_)))
    unfold bearsInstanceDictMark
    refine wpAny_bind (wpAny_load ho (wpAny_pure ?_))
    refine wpAny_bind (wpAny_updateDictKeysTo ho hdat ?_ (Nat.zero_le _))
    have new : (s.heap.update d (Obj.mapDictKeys fun _ => #[])).DictOf (mixKind prog w) d [] :=
      ⟨_, _, ep + 1, Heap.get?_update_self _ ho (Obj.isFreed_of_dict (Obj.data_mapDictKeys hdat _)), hx.mapDictKeys _, Obj.data_mapDictKeys hdat _, fun _ he => by simp at he, Pairs.nil, List.nodup_nil⟩
    have fin := h _ new (Heap.SameBut.update ..)
    split
    · exact wpAny_bind (wpAny_letGo (wpAny_pure ⟨.none, rfl, fin⟩))
    · exact wpAny_bind (wpAny_pure (wpAny_pure ⟨.none, rfl, fin⟩))
end
section
variable {X : Cx}
def rClearS : V → List V → Hp → VK → Prop := fun x vs H Q => ∃ a : Addr, x = .ref a ∧ vs = [] ∧ H a = some (SomeD a) ∧ Q .non (upd H a (.dK []))
theorem mt_clearS : MtR X "dict.clear" rClearS := by
  intro pins s σ H x vs v us Q I rx rv h
  obtain ⟨a, ex, ev, e, q⟩ := h
  subst ex
  subst ev
  obtain rfl : v = Value.ref a := rx
  have hus := rv.zero
  subst hus
  obtain ⟨⟨hd, new⟩, _, _⟩ := I.hok a _ e
  obtain ⟨o, es, ep, ho, hx, r⟩ := id new
  refine call_meetsIn PySem.F.slot_dict_clear ⟨o, ho, hx.1⟩ PySem.F.entry_dict_clear (PySem.F.args_dict_clear_1 _) clear_some ⟨new, fun h' dd' hs => ?_⟩
  have he : ∃ q, h'.get? a = some q := let ⟨q, _, _, hq, _⟩ := dd'; ⟨q, hq⟩
  exact ⟨.non, _, d_write (t' := s.toks) I (by rw [e]; exact True.intro) hs he (dk_new (Nat.zero_le _) hd .nil dd'), rfl, q⟩
end
section
variable {X : Cx} {o i value : Expr} {td ty tv : TE} {pos pos' : Pos}
def tClearS (to : TE) : TE := fun σ H Q => to σ H fun x H1 => ∃ a : Addr, x = .ref a ∧ H1 a = some (SomeD a) ∧ Q .non (upd H1 a (.dK []))
theorem pe_clearS {to : TE} {apos cpos : Pos} (ho : PE X o to) (hbase : attributeBase o "clear" X.env (eval o X.env) = eval o X.env := by rfl) (hline : (apos.endLine == cpos.line) = true := by rfl) : PE X (.Call (.Attribute o "clear" apos) [] [] cpos) (tClearS to) := by
  refine ⟨fun pins s σ H Q I h => ?_⟩
  refine wpAny_Call_method0_late hbase hline (thn (ho.run pins s σ H _ I h) fun v s1 ⟨x, H1, I1, r1, a, ex, e, q⟩ => ?_)
  subst ex
  obtain rfl : v = Value.ref a := r1
  obtain ⟨⟨hd, od, es, ep, hod, hx, r⟩, _, _⟩ := I1.hok a _ e
  refine ⟨"dict", _, PySem.F.plainAttrs_dict, PySem.F.slot_dict_clear, PySem.F.type_dict_clear, ⟨od, hod, hx.1⟩, ?_, Calls.callWith_builtin rfl (PySem.evalArgs_none (mt_clearS pins s1 σ H1 (.ref a) [] (.ref a) [] Q I1 rfl .nil ⟨a, rfl, rfl, e, q⟩))⟩
  intro b eb
  cases eb
  exact ⟨od, hod, hx.2.1⟩
def sSpoil (td ty tv : TE) : TS := fun D σ H => tv σ H fun v H1 => td σ H1 fun x H2 => ty σ H2 fun y H3 => ∃ (a : Addr) (z : Str), x = .ref a ∧ y = .str z ∧ ((∃ kvs, H3 a = some (.dK kvs) ∧ kvs.length < sizeLine) ∨ ∃ kvs, H3 a = some (.dT kvs)) ∧ D.nx σ (upd H3 a (SomeD a))
theorem ps_spoil (hu : X.A.units + 2 < cLine) (ho : PE X o td) (hi : PE X i ty) (hv : PE X value tv) (hs : swapsWith value (some (.Subscript o i pos')) pos.line X.env = pure false) :
    PS X (.Assign [.Subscript o i pos'] value pos) (sSpoil td ty tv) := by
  refine ⟨fun pins s σ H D I h => ?_⟩
  refine wpAny_Assign_Subscript (thn (hv.run pins s σ H _ I h) fun r s1 ⟨v, H1, I1, rv, q1⟩ => thn (ho.run pins s1 σ H1 _ I1 q1) fun u s2 ⟨x, H2, I2, rx, q2⟩ => thn (hi.run pins s2 σ H2 _ I2 q2) fun iv s3 ⟨y, H3, I3, ry, a, z, ex, ey, g, q3⟩ => ?_) hs
  subst ex
  subst ey
  obtain rfl : u = Value.ref a := rx
  obtain ⟨t, rfl⟩ := (show ∃ t, iv = Value.str z t from ry)
  rcases g with ⟨kvs, e, l⟩ | ⟨kvs, e⟩
  · exact d_spoilK (by omega) I3 e l rv fun s4 I4 => ⟨σ, _, I4, q3⟩
  · exact d_spoil hu I3 e fun s4 I4 => ⟨σ, _, I4, q3⟩
end
end Own

/-! Law k21 over the landed ballots: by hand, over the layer. -/
namespace Own
open PySem PySem.Spec PyProof.Rows L2
/-! ### the text -/
/-- the k-th block of a statement -/
def blkOf (s : Stmt) (k : Nat) : List Stmt := match s with
  | .If _ a b _ => if k = 0 then a else b
  | .For _ _ a _ _ => a
  | .While _ a _ _ => a
  | .Try a hs _ _ _ => match k, hs with
    | 0, _ => a
    | j + 1, hs => match hs[j]? with
      | some (.ExceptHandler _ _ b _) => b
      | none => []
  | _ => []
abbrev noE : Expr := .Constant .none 0 ⟨0, 0, 0, 0⟩
/-- a statement's own expression; the k-th part of an expression -/
def rootE (s : Stmt) : Expr := match s with
  | .Assign _ v _ => v
  | .Return (some v) _ => v
  | .Expr v _ => v
  | .AugAssign _ _ v _ => v
  | .If t _ _ _ => t
  | .While t _ _ _ => t
  | .For _ i _ _ _ => i
  | _ => noE
def subE (e : Expr) (k : Nat) : Expr := match e with
  | .BinOp a _ b _ => if k = 0 then a else b
  | .BoolOp _ vs _ => vs.getD k noE
  | .UnaryOp _ a _ => a
  | .Compare a _ cs _ => (a :: cs).getD k noE
  | .Call f as kws _ => (f :: (as ++ kws.map (·.value))).getD k noE
  | .Attribute a _ _ => a
  | .Subscript a b _ => if k = 0 then a else b
  | .Tuple es _ _ => es.getD k noE
  | .List es _ => es.getD k noE
  | .IfExp c a b _ => [c, a, b].getD k noE
  | .Slice a b c _ => ([a, b, c].getD k none).getD noE
  | .ListComp a gs _ _ => match gs with
    | g :: _ => ([a, g.iter, g.target] ++ g.ifs).getD k noE
    | [] => noE
  | .DictComp a b gs _ _ => match gs with
    | g :: _ => ([a, b, g.iter, g.target] ++ g.ifs).getD k noE
    | [] => noE
  | _ => noE
def lcScope (e : Expr) : Scope := match e with
  | .ListComp _ _ sc _ => sc
  | .DictComp _ _ _ sc _ => sc
  | _ => { kind := .function, names := [], isGenerator := false, isCoroutine := false }
def lcG (e : Expr) (k : Nat) : Comprehension := match e with
  | .ListComp _ gs _ _ => gs.getD k ⟨noE, noE, [], 0⟩
  | .DictComp _ _ gs _ _ => gs.getD k ⟨noE, noE, [], 0⟩
  | _ => ⟨noE, noE, [], 0⟩
def lcIfs (e : Expr) : List Expr := match e with
  | .ListComp _ (g :: _) _ _ => g.ifs
  | .DictComp _ _ (g :: _) _ _ => g.ifs
  | _ => []
def topS (i : Nat) : Stmt := PySem.Challenge.pw_voicefold_k21_counts_one_by_one.main.body.getD i (.Pass ⟨0, 0, 0, 0⟩)
abbrev s_PollError_init : Stmt := inClass (topS 2) 0
theorem sc_PollError_init : FnScope ["self", "why"] ["self", "why"] (defScope s_PollError_init) := ⟨rfl, rfl, rfl, by decide +kernel, rfl, by decide +kernel, by decide +kernel⟩
abbrev s_NoOption_init : Stmt := inClass (topS 4) 0
theorem sc_NoOption_init : FnScope ["self", "name"] ["self", "name"] (defScope s_NoOption_init) := ⟨rfl, rfl, rfl, by decide +kernel, rfl, by decide +kernel, by decide +kernel⟩
abbrev s_is_whole : Stmt := topS 7
theorem sc_is_whole : FnScope ["thing"] ["thing"] (defScope s_is_whole) := ⟨rfl, rfl, rfl, by decide +kernel, rfl, by decide +kernel, by decide +kernel⟩
abbrev s_is_name : Stmt := topS 8
theorem sc_is_name : FnScope ["thing", "sign"] ["thing"] (defScope s_is_name) := ⟨rfl, rfl, rfl, by decide +kernel, rfl, by decide +kernel, by decide +kernel⟩
abbrev s_is_tuple_of : Stmt := topS 9
theorem sc_is_tuple_of : FnScope ["thing", "many"] ["thing", "many"] (defScope s_is_tuple_of) := ⟨rfl, rfl, rfl, by decide +kernel, rfl, by decide +kernel, by decide +kernel⟩
abbrev s_are_names : Stmt := topS 13
theorem sc_are_names : FnScope ["thing", "name"] ["thing"] (defScope s_are_names) := ⟨rfl, rfl, rfl, by decide +kernel, rfl, by decide +kernel, by decide +kernel⟩
abbrev s_are_options : Stmt := topS 14
theorem sc_are_options : FnScope ["thing"] ["thing"] (defScope s_are_options) := ⟨rfl, rfl, rfl, by decide +kernel, rfl, by decide +kernel, by decide +kernel⟩
abbrev s_is_option : Stmt := topS 15
theorem sc_is_option : FnScope ["options", "thing"] ["options", "thing"] (defScope s_is_option) := ⟨rfl, rfl, rfl, by decide +kernel, rfl, by decide +kernel, by decide +kernel⟩
abbrev s_check_option : Stmt := topS 16
theorem sc_check_option : FnScope ["options", "name"] ["options", "name"] (defScope s_check_option) := ⟨rfl, rfl, rfl, by decide +kernel, rfl, by decide +kernel, by decide +kernel⟩
abbrev s_are_unlike_options : Stmt := topS 17
theorem sc_are_unlike_options : FnScope ["options", "names", "name"] ["options", "names"] (defScope s_are_unlike_options) := ⟨rfl, rfl, rfl, by decide +kernel, rfl, by decide +kernel, by decide +kernel⟩
abbrev s_is_mark : Stmt := topS 21
theorem sc_is_mark : FnScope ["thing"] ["thing"] (defScope s_is_mark) := ⟨rfl, rfl, rfl, by decide +kernel, rfl, by decide +kernel, by decide +kernel⟩
abbrev s_are_tiers : Stmt := topS 19
theorem sc_are_tiers : FnScope ["options", "told", "tier", "name"] ["options", "told"] (defScope s_are_tiers) := ⟨rfl, rfl, rfl, by decide +kernel, rfl, by decide +kernel, by decide +kernel⟩
abbrev s_are_marks : Stmt := topS 20
theorem sc_are_marks : FnScope ["options", "told", "pair"] ["options", "told"] (defScope s_are_marks) := ⟨rfl, rfl, rfl, by decide +kernel, rfl, by decide +kernel, by decide +kernel⟩
abbrev s_is_ballot : Stmt := topS 18
theorem sc_is_ballot : FnScope ["options", "thing", "form", "told"] ["options", "thing"] (defScope s_is_ballot) := ⟨rfl, rfl, rfl, by decide +kernel, rfl, by decide +kernel, by decide +kernel⟩
abbrev s_is_row : Stmt := topS 41
theorem sc_is_row : FnScope ["options", "thing"] ["options", "thing"] (defScope s_is_row) := ⟨rfl, rfl, rfl, by decide +kernel, rfl, by decide +kernel, by decide +kernel⟩
abbrev s_check_poll : Stmt := topS 40
theorem sc_check_poll : FnScope ["options", "voices", "row"] ["options", "voices"] (defScope s_check_poll) := ⟨rfl, rfl, rfl, by decide +kernel, rfl, by decide +kernel, by decide +kernel⟩
abbrev s_Poll_init : Stmt := inClass (topS 39) 0
theorem sc_Poll_init : FnScope ["self", "options", "voices"] ["self", "options", "voices"] (defScope s_Poll_init) := ⟨rfl, rfl, rfl, by decide +kernel, rfl, by decide +kernel, by decide +kernel⟩
abbrev s_order_ranks : Stmt := topS 23
theorem sc_order_ranks : FnScope ["options", "told", "found", "at", "tier", "name"] ["options", "told"] (defScope s_order_ranks) := ⟨rfl, rfl, rfl, by decide +kernel, rfl, by decide +kernel, by decide +kernel⟩
abbrev s_ranks : Stmt := topS 22
theorem sc_ranks : FnScope ["options", "ballot", "form", "told", "marks", "name", "mark"] ["options", "ballot"] (defScope s_ranks) := ⟨rfl, rfl, rfl, by decide +kernel, rfl, by decide +kernel, by decide +kernel⟩
abbrev s_tiers : Stmt := topS 24
theorem sc_tiers : FnScope ["options", "ballot", "rank", "levels", "level", "name"] ["options", "ballot"] (defScope s_tiers) := ⟨rfl, rfl, rfl, by decide +kernel, rfl, by decide +kernel, by decide +kernel⟩
abbrev s_named : Stmt := topS 25
theorem sc_named : FnScope ["ballot", "form", "told", "tier", "name", "mark"] ["ballot"] (defScope s_named) := ⟨rfl, rfl, rfl, by decide +kernel, rfl, by decide +kernel, by decide +kernel⟩
abbrev s_ranked : Stmt := topS 29
theorem sc_ranked : FnScope ["poll", "ballot", "many"] ["poll"] (defScope s_ranked) := ⟨rfl, rfl, rfl, by decide +kernel, rfl, by decide +kernel, by decide +kernel⟩
abbrev s_margin_by : Stmt := topS 30
theorem sc_margin_by : FnScope ["rows", "one", "other", "found", "rank", "many"] ["rows", "one", "other"] (defScope s_margin_by) := ⟨rfl, rfl, rfl, by decide +kernel, rfl, by decide +kernel, by decide +kernel⟩
abbrev s_margins : Stmt := topS 28
theorem sc_margins : FnScope ["poll", "rows", "one", "other"] ["poll"] (defScope s_margins) := ⟨rfl, rfl, rfl, by decide +kernel, rfl, by decide +kernel, by decide +kernel⟩
abbrev s_alone_at : Stmt := topS 33
theorem sc_alone_at : FnScope ["poll", "at", "found", "ballot", "many", "tier", "name"] ["poll", "at"] (defScope s_alone_at) := ⟨rfl, rfl, rfl, by decide +kernel, rfl, by decide +kernel, by decide +kernel⟩
abbrev s_firsts : Stmt := topS 31
theorem sc_firsts : FnScope ["poll"] ["poll"] (defScope s_firsts) := ⟨rfl, rfl, rfl, by decide +kernel, rfl, by decide +kernel, by decide +kernel⟩
abbrev s_lasts : Stmt := topS 32
theorem sc_lasts : FnScope ["poll"] ["poll"] (defScope s_lasts) := ⟨rfl, rfl, rfl, by decide +kernel, rfl, by decide +kernel, by decide +kernel⟩
abbrev s_lets : Stmt := topS 34
theorem sc_lets : FnScope ["poll", "found", "ballot", "many", "name"] ["poll"] (defScope s_lets) := ⟨rfl, rfl, rfl, by decide +kernel, rfl, by decide +kernel, by decide +kernel⟩
abbrev s_points : Stmt := topS 35
theorem sc_points : FnScope ["poll", "held", "one", "other"] ["poll"] (defScope s_points) := ⟨rfl, rfl, rfl, by decide +kernel, rfl, by decide +kernel, by decide +kernel⟩
abbrev s_margin : Stmt := topS 27
theorem sc_margin : FnScope ["poll", "one", "other"] ["poll", "one", "other"] (defScope s_margin) := ⟨rfl, rfl, rfl, by decide +kernel, rfl, by decide +kernel, by decide +kernel⟩
abbrev s_law_cell_at : Stmt := topS 44
theorem sc_law_cell_at : FnScope ["_law_script", "_law_k"] ["_law_script", "_law_k"] (defScope s_law_cell_at) := ⟨rfl, rfl, rfl, by decide +kernel, rfl, by decide +kernel, by decide +kernel⟩
abbrev s_law_well : Stmt := topS 45
theorem sc_law_well : FnScope ["_law_cell"] ["_law_cell"] (defScope s_law_well) := ⟨rfl, rfl, rfl, by decide +kernel, rfl, by decide +kernel, by decide +kernel⟩
abbrev s_law_draw : Stmt := topS 46
theorem sc_law_draw : FnScope ["_law_well_here", "_law_size", "_law_digit", "_law_mix"] ["_law_well_here", "_law_size"] (defScope s_law_draw) := ⟨rfl, rfl, rfl, by decide +kernel, rfl, by decide +kernel, by decide +kernel⟩
abbrev s_law_one : Stmt := topS 47
theorem sc_law_one : FnScope ["_law_well_here", "_law_some"] ["_law_well_here", "_law_some"] (defScope s_law_one) := ⟨rfl, rfl, rfl, by decide +kernel, rfl, by decide +kernel, by decide +kernel⟩
abbrev s_law_options : Stmt := topS 48
theorem sc_law_options : FnScope ["_law_well_here", "_law_size", "_law_letters", "_law_first", "_law_found", "_law_k", "_law_word", "_law_j"] ["_law_well_here", "_law_size"] (defScope s_law_options) := ⟨rfl, rfl, rfl, by decide +kernel, rfl, by decide +kernel, by decide +kernel⟩
abbrev s_law_shuffled : Stmt := topS 49
theorem sc_law_shuffled : FnScope ["_law_well_here", "_law_some", "_law_left", "_law_k"] ["_law_well_here", "_law_some"] (defScope s_law_shuffled) := ⟨rfl, rfl, rfl, by decide +kernel, rfl, by decide +kernel, by decide +kernel⟩
abbrev s_law_tiers_drawn : Stmt := topS 50
theorem sc_law_tiers_drawn : FnScope ["_law_well_here", "_law_some", "_law_found", "_law_word"] ["_law_well_here", "_law_some"] (defScope s_law_tiers_drawn) := ⟨rfl, rfl, rfl, by decide +kernel, rfl, by decide +kernel, by decide +kernel⟩
abbrev s_law_ballot : Stmt := topS 51
theorem sc_law_ballot : FnScope ["_law_well_here", "_law_options_here", "_law_way", "_law_some", "_law_word"] ["_law_well_here", "_law_options_here"] (defScope s_law_ballot) := ⟨rfl, rfl, rfl, by decide +kernel, rfl, by decide +kernel, by decide +kernel⟩
abbrev s_law_rows : Stmt := topS 52
theorem sc_law_rows : FnScope ["_law_well_here", "_law_options_here", "_law_size", "_law_found", "_law_k", "_law_count"] ["_law_well_here", "_law_options_here", "_law_size"] (defScope s_law_rows) := ⟨rfl, rfl, rfl, by decide +kernel, rfl, by decide +kernel, by decide +kernel⟩
abbrev s_law_high : Stmt := topS 53
theorem sc_law_high : FnScope ["_law_options_here", "_law_ballot_here", "_law_found", "_law_at", "_law_tier", "_law_word", "_law_mark"] ["_law_options_here", "_law_ballot_here"] (defScope s_law_high) := ⟨rfl, rfl, rfl, by decide +kernel, rfl, by decide +kernel, by decide +kernel⟩
abbrev s_law_tiers : Stmt := topS 55
theorem sc_law_tiers : FnScope ["_law_options_here", "_law_ballot_here", "_law_high_here", "_law_steps", "_law_word", "_law_step"] ["_law_options_here", "_law_ballot_here"] (defScope s_law_tiers) := ⟨rfl, rfl, rfl, by decide +kernel, rfl, by decide +kernel, by decide +kernel⟩
abbrev s_law_margin : Stmt := topS 54
theorem sc_law_margin : FnScope ["_law_options_here", "_law_rows_here", "_law_one_here", "_law_other", "_law_total", "_law_ballot_here", "_law_count", "_law_high_here", "_law_is_first", "_law_is_last"] ["_law_options_here", "_law_rows_here", "_law_one_here", "_law_other"] (defScope s_law_margin) := ⟨rfl, rfl, rfl, by decide +kernel, rfl, by decide +kernel, by decide +kernel⟩
abbrev s_law_alone : Stmt := topS 56
theorem sc_law_alone : FnScope ["_law_drawn", "_law_rows_here", "_law_spot", "_law_found", "_law_word", "_law_slip", "_law_count"] ["_law_drawn", "_law_rows_here", "_law_spot"] (defScope s_law_alone) := ⟨rfl, rfl, rfl, by decide +kernel, rfl, by decide +kernel, by decide +kernel⟩
abbrev s_law_let : Stmt := topS 57
theorem sc_law_let : FnScope ["_law_drawn", "_law_rows_here", "_law_found", "_law_word", "_law_slip", "_law_count"] ["_law_drawn", "_law_rows_here"] (defScope s_law_let) := ⟨rfl, rfl, rfl, by decide +kernel, rfl, by decide +kernel, by decide +kernel⟩
abbrev s_law_refused : Stmt := topS 58
theorem sc_law_refused : FnScope ["_law_poll", "_law_first", "_law_second", "_law_found", "e"] ["_law_poll", "_law_first", "_law_second"] (defScope s_law_refused) := ⟨rfl, rfl, rfl, by decide +kernel, rfl, by decide +kernel, by decide +kernel⟩
abbrev s_law_right : Stmt := topS 59
theorem sc_law_right : FnScope ["_law_poll", "_law_drawn", "_law_rows_here", "_law_table", "_law_first", "_law_second", "_law_sums_of", "_law_row", "_law_word", "_law_pair", "_law_count"] ["_law_poll", "_law_drawn", "_law_rows_here"] (defScope s_law_right) := ⟨rfl, rfl, rfl, by decide +kernel, rfl, by decide +kernel, by decide +kernel⟩
abbrev s_law : Stmt := topS 60
theorem sc_law : FnScope ["_law_script", "_law_cell", "_law_well_here", "_law_drawn", "_law_rows_here", "_law_poll", "_law_turn", "_law_found", "_law_first", "_law_free", "_law_odd", "_law_word"] ["_law_script"] (defScope s_law) := ⟨rfl, rfl, rfl, by decide +kernel, rfl, by decide +kernel, by decide +kernel⟩
structure Txt (K : PySem.W.Frag) (mg : Str → Option Value) where
  f_PollError_init : Addr
  fd_PollError_init : FuncData
  F_PollError_init : FunD K "__init__" "PollError.__init__" (defArgs s_PollError_init) (defBody s_PollError_init) (defScope s_PollError_init) [.str ""] [] f_PollError_init fd_PollError_init
  gkb_PollError_init_2 : List Value → List Value → List Value
  kb_PollError_init_2 : KBn K fd_PollError_init ["self", "why"] 2 [] gkb_PollError_init_2 (fun vs zs => vs)
  f_NoOption_init : Addr
  fd_NoOption_init : FuncData
  F_NoOption_init : Fun K "__init__" "NoOption.__init__" s_NoOption_init f_NoOption_init fd_NoOption_init
  b_NoOption_init : Binds K fd_NoOption_init ["self", "name"] []
  gkb_NoOption_init_2 : List Value → List Value → List Value
  kb_NoOption_init_2 : KBn K fd_NoOption_init ["self", "name"] 2 [] gkb_NoOption_init_2 (fun vs zs => vs)
  f_is_whole : Addr
  fd_is_whole : FuncData
  F_is_whole : Fun K "is_whole" "is_whole" s_is_whole f_is_whole fd_is_whole
  b_is_whole : Binds K fd_is_whole ["thing"] []
  g_is_whole : mg "is_whole" = some (.ref f_is_whole)
  f_is_name : Addr
  fd_is_name : FuncData
  F_is_name : Fun K "is_name" "is_name" s_is_name f_is_name fd_is_name
  b_is_name : Binds K fd_is_name ["thing"] []
  g_is_name : mg "is_name" = some (.ref f_is_name)
  f_is_tuple_of : Addr
  fd_is_tuple_of : FuncData
  F_is_tuple_of : Fun K "is_tuple_of" "is_tuple_of" s_is_tuple_of f_is_tuple_of fd_is_tuple_of
  b_is_tuple_of : Binds K fd_is_tuple_of ["thing", "many"] []
  g_is_tuple_of : mg "is_tuple_of" = some (.ref f_is_tuple_of)
  f_are_names : Addr
  fd_are_names : FuncData
  F_are_names : Fun K "are_names" "are_names" s_are_names f_are_names fd_are_names
  b_are_names : Binds K fd_are_names ["thing"] []
  g_are_names : mg "are_names" = some (.ref f_are_names)
  f_are_options : Addr
  fd_are_options : FuncData
  F_are_options : Fun K "are_options" "are_options" s_are_options f_are_options fd_are_options
  b_are_options : Binds K fd_are_options ["thing"] []
  g_are_options : mg "are_options" = some (.ref f_are_options)
  f_is_option : Addr
  fd_is_option : FuncData
  F_is_option : Fun K "is_option" "is_option" s_is_option f_is_option fd_is_option
  b_is_option : Binds K fd_is_option ["options", "thing"] []
  g_is_option : mg "is_option" = some (.ref f_is_option)
  f_check_option : Addr
  fd_check_option : FuncData
  F_check_option : Fun K "check_option" "check_option" s_check_option f_check_option fd_check_option
  b_check_option : Binds K fd_check_option ["options", "name"] []
  g_check_option : mg "check_option" = some (.ref f_check_option)
  gkb_check_option_2 : List Value → List Value → List Value
  kb_check_option_2 : KBn K fd_check_option ["options", "name"] 2 [] gkb_check_option_2 (fun vs zs => vs)
  f_are_unlike_options : Addr
  fd_are_unlike_options : FuncData
  F_are_unlike_options : Fun K "are_unlike_options" "are_unlike_options" s_are_unlike_options f_are_unlike_options fd_are_unlike_options
  b_are_unlike_options : Binds K fd_are_unlike_options ["options", "names"] []
  g_are_unlike_options : mg "are_unlike_options" = some (.ref f_are_unlike_options)
  f_is_mark : Addr
  fd_is_mark : FuncData
  F_is_mark : Fun K "is_mark" "is_mark" s_is_mark f_is_mark fd_is_mark
  b_is_mark : Binds K fd_is_mark ["thing"] []
  g_is_mark : mg "is_mark" = some (.ref f_is_mark)
  f_are_tiers : Addr
  fd_are_tiers : FuncData
  F_are_tiers : Fun K "are_tiers" "are_tiers" s_are_tiers f_are_tiers fd_are_tiers
  b_are_tiers : Binds K fd_are_tiers ["options", "told"] []
  g_are_tiers : mg "are_tiers" = some (.ref f_are_tiers)
  f_are_marks : Addr
  fd_are_marks : FuncData
  F_are_marks : Fun K "are_marks" "are_marks" s_are_marks f_are_marks fd_are_marks
  b_are_marks : Binds K fd_are_marks ["options", "told"] []
  g_are_marks : mg "are_marks" = some (.ref f_are_marks)
  f_is_ballot : Addr
  fd_is_ballot : FuncData
  F_is_ballot : Fun K "is_ballot" "is_ballot" s_is_ballot f_is_ballot fd_is_ballot
  b_is_ballot : Binds K fd_is_ballot ["options", "thing"] []
  g_is_ballot : mg "is_ballot" = some (.ref f_is_ballot)
  f_is_row : Addr
  fd_is_row : FuncData
  F_is_row : Fun K "is_row" "is_row" s_is_row f_is_row fd_is_row
  b_is_row : Binds K fd_is_row ["options", "thing"] []
  g_is_row : mg "is_row" = some (.ref f_is_row)
  f_check_poll : Addr
  fd_check_poll : FuncData
  F_check_poll : Fun K "check_poll" "check_poll" s_check_poll f_check_poll fd_check_poll
  b_check_poll : Binds K fd_check_poll ["options", "voices"] []
  g_check_poll : mg "check_poll" = some (.ref f_check_poll)
  gkb_check_poll_2 : List Value → List Value → List Value
  kb_check_poll_2 : KBn K fd_check_poll ["options", "voices"] 2 [] gkb_check_poll_2 (fun vs zs => vs)
  f_Poll_init : Addr
  fd_Poll_init : FuncData
  e_Poll_init : Addr
  F_Poll_init : FunD K "__init__" "Poll.__init__" (defArgs s_Poll_init) (defBody s_Poll_init) (defScope s_Poll_init) [.ref e_Poll_init] [] f_Poll_init fd_Poll_init
  gkb_Poll_init_3 : List Value → List Value → List Value
  kb_Poll_init_3 : KBn K fd_Poll_init ["self", "options", "voices"] 3 [] gkb_Poll_init_3 (fun vs zs => vs)
  f_order_ranks : Addr
  fd_order_ranks : FuncData
  F_order_ranks : Fun K "order_ranks" "order_ranks" s_order_ranks f_order_ranks fd_order_ranks
  b_order_ranks : Binds K fd_order_ranks ["options", "told"] []
  g_order_ranks : mg "order_ranks" = some (.ref f_order_ranks)
  f_ranks : Addr
  fd_ranks : FuncData
  F_ranks : Fun K "ranks" "ranks" s_ranks f_ranks fd_ranks
  b_ranks : Binds K fd_ranks ["options", "ballot"] []
  g_ranks : mg "ranks" = some (.ref f_ranks)
  f_tiers : Addr
  fd_tiers : FuncData
  F_tiers : Fun K "tiers" "tiers" s_tiers f_tiers fd_tiers
  b_tiers : Binds K fd_tiers ["options", "ballot"] []
  g_tiers : mg "tiers" = some (.ref f_tiers)
  f_named : Addr
  fd_named : FuncData
  F_named : Fun K "named" "named" s_named f_named fd_named
  b_named : Binds K fd_named ["ballot"] []
  g_named : mg "named" = some (.ref f_named)
  f_ranked : Addr
  fd_ranked : FuncData
  F_ranked : Fun K "ranked" "ranked" s_ranked f_ranked fd_ranked
  b_ranked : Binds K fd_ranked ["poll"] []
  g_ranked : mg "ranked" = some (.ref f_ranked)
  f_margin_by : Addr
  fd_margin_by : FuncData
  F_margin_by : Fun K "margin_by" "margin_by" s_margin_by f_margin_by fd_margin_by
  b_margin_by : Binds K fd_margin_by ["rows", "one", "other"] []
  g_margin_by : mg "margin_by" = some (.ref f_margin_by)
  f_margins : Addr
  fd_margins : FuncData
  F_margins : Fun K "margins" "margins" s_margins f_margins fd_margins
  b_margins : Binds K fd_margins ["poll"] []
  g_margins : mg "margins" = some (.ref f_margins)
  f_alone_at : Addr
  fd_alone_at : FuncData
  F_alone_at : Fun K "alone_at" "alone_at" s_alone_at f_alone_at fd_alone_at
  b_alone_at : Binds K fd_alone_at ["poll", "at"] []
  g_alone_at : mg "alone_at" = some (.ref f_alone_at)
  f_firsts : Addr
  fd_firsts : FuncData
  F_firsts : Fun K "firsts" "firsts" s_firsts f_firsts fd_firsts
  b_firsts : Binds K fd_firsts ["poll"] []
  g_firsts : mg "firsts" = some (.ref f_firsts)
  f_lasts : Addr
  fd_lasts : FuncData
  F_lasts : Fun K "lasts" "lasts" s_lasts f_lasts fd_lasts
  b_lasts : Binds K fd_lasts ["poll"] []
  g_lasts : mg "lasts" = some (.ref f_lasts)
  f_lets : Addr
  fd_lets : FuncData
  F_lets : Fun K "lets" "lets" s_lets f_lets fd_lets
  b_lets : Binds K fd_lets ["poll"] []
  g_lets : mg "lets" = some (.ref f_lets)
  f_points : Addr
  fd_points : FuncData
  F_points : Fun K "points" "points" s_points f_points fd_points
  b_points : Binds K fd_points ["poll"] []
  g_points : mg "points" = some (.ref f_points)
  f_margin : Addr
  fd_margin : FuncData
  F_margin : Fun K "margin" "margin" s_margin f_margin fd_margin
  b_margin : Binds K fd_margin ["poll", "one", "other"] []
  g_margin : mg "margin" = some (.ref f_margin)
  gkb_margin_3 : List Value → List Value → List Value
  kb_margin_3 : KBn K fd_margin ["poll", "one", "other"] 3 [] gkb_margin_3 (fun vs zs => vs)
  f_law_cell_at : Addr
  fd_law_cell_at : FuncData
  F_law_cell_at : Fun K "_law_cell_at" "_law_cell_at" s_law_cell_at f_law_cell_at fd_law_cell_at
  b_law_cell_at : Binds K fd_law_cell_at ["_law_script", "_law_k"] []
  g_law_cell_at : mg "_law_cell_at" = some (.ref f_law_cell_at)
  f_law_well : Addr
  fd_law_well : FuncData
  F_law_well : Fun K "_law_well" "_law_well" s_law_well f_law_well fd_law_well
  b_law_well : Binds K fd_law_well ["_law_cell"] []
  g_law_well : mg "_law_well" = some (.ref f_law_well)
  f_law_draw : Addr
  fd_law_draw : FuncData
  F_law_draw : Fun K "_law_draw" "_law_draw" s_law_draw f_law_draw fd_law_draw
  b_law_draw : Binds K fd_law_draw ["_law_well_here", "_law_size"] []
  g_law_draw : mg "_law_draw" = some (.ref f_law_draw)
  f_law_one : Addr
  fd_law_one : FuncData
  F_law_one : Fun K "_law_one" "_law_one" s_law_one f_law_one fd_law_one
  b_law_one : Binds K fd_law_one ["_law_well_here", "_law_some"] []
  g_law_one : mg "_law_one" = some (.ref f_law_one)
  f_law_options : Addr
  fd_law_options : FuncData
  F_law_options : Fun K "_law_options" "_law_options" s_law_options f_law_options fd_law_options
  b_law_options : Binds K fd_law_options ["_law_well_here", "_law_size"] []
  g_law_options : mg "_law_options" = some (.ref f_law_options)
  f_law_shuffled : Addr
  fd_law_shuffled : FuncData
  F_law_shuffled : Fun K "_law_shuffled" "_law_shuffled" s_law_shuffled f_law_shuffled fd_law_shuffled
  b_law_shuffled : Binds K fd_law_shuffled ["_law_well_here", "_law_some"] []
  g_law_shuffled : mg "_law_shuffled" = some (.ref f_law_shuffled)
  f_law_tiers_drawn : Addr
  fd_law_tiers_drawn : FuncData
  F_law_tiers_drawn : Fun K "_law_tiers_drawn" "_law_tiers_drawn" s_law_tiers_drawn f_law_tiers_drawn fd_law_tiers_drawn
  b_law_tiers_drawn : Binds K fd_law_tiers_drawn ["_law_well_here", "_law_some"] []
  g_law_tiers_drawn : mg "_law_tiers_drawn" = some (.ref f_law_tiers_drawn)
  f_law_ballot : Addr
  fd_law_ballot : FuncData
  F_law_ballot : Fun K "_law_ballot" "_law_ballot" s_law_ballot f_law_ballot fd_law_ballot
  b_law_ballot : Binds K fd_law_ballot ["_law_well_here", "_law_options_here"] []
  g_law_ballot : mg "_law_ballot" = some (.ref f_law_ballot)
  f_law_rows : Addr
  fd_law_rows : FuncData
  F_law_rows : Fun K "_law_rows" "_law_rows" s_law_rows f_law_rows fd_law_rows
  b_law_rows : Binds K fd_law_rows ["_law_well_here", "_law_options_here", "_law_size"] []
  g_law_rows : mg "_law_rows" = some (.ref f_law_rows)
  f_law_high : Addr
  fd_law_high : FuncData
  F_law_high : Fun K "_law_high" "_law_high" s_law_high f_law_high fd_law_high
  b_law_high : Binds K fd_law_high ["_law_options_here", "_law_ballot_here"] []
  g_law_high : mg "_law_high" = some (.ref f_law_high)
  f_law_tiers : Addr
  fd_law_tiers : FuncData
  F_law_tiers : Fun K "_law_tiers" "_law_tiers" s_law_tiers f_law_tiers fd_law_tiers
  b_law_tiers : Binds K fd_law_tiers ["_law_options_here", "_law_ballot_here"] []
  g_law_tiers : mg "_law_tiers" = some (.ref f_law_tiers)
  f_law_margin : Addr
  fd_law_margin : FuncData
  F_law_margin : Fun K "_law_margin" "_law_margin" s_law_margin f_law_margin fd_law_margin
  b_law_margin : Binds K fd_law_margin ["_law_options_here", "_law_rows_here", "_law_one_here", "_law_other"] []
  g_law_margin : mg "_law_margin" = some (.ref f_law_margin)
  f_law_alone : Addr
  fd_law_alone : FuncData
  F_law_alone : Fun K "_law_alone" "_law_alone" s_law_alone f_law_alone fd_law_alone
  b_law_alone : Binds K fd_law_alone ["_law_drawn", "_law_rows_here", "_law_spot"] []
  g_law_alone : mg "_law_alone" = some (.ref f_law_alone)
  f_law_let : Addr
  fd_law_let : FuncData
  F_law_let : Fun K "_law_let" "_law_let" s_law_let f_law_let fd_law_let
  b_law_let : Binds K fd_law_let ["_law_drawn", "_law_rows_here"] []
  g_law_let : mg "_law_let" = some (.ref f_law_let)
  f_law_refused : Addr
  fd_law_refused : FuncData
  F_law_refused : Fun K "_law_refused" "_law_refused" s_law_refused f_law_refused fd_law_refused
  b_law_refused : Binds K fd_law_refused ["_law_poll", "_law_first", "_law_second"] []
  g_law_refused : mg "_law_refused" = some (.ref f_law_refused)
  f_law_right : Addr
  fd_law_right : FuncData
  F_law_right : Fun K "_law_right" "_law_right" s_law_right f_law_right fd_law_right
  b_law_right : Binds K fd_law_right ["_law_poll", "_law_drawn", "_law_rows_here"] []
  g_law_right : mg "_law_right" = some (.ref f_law_right)
  f_law : Addr
  fd_law : FuncData
  F_law : Fun K "law" "law" s_law f_law fd_law
  b_law : Binds K fd_law ["_law_script"] []
  g_law : mg "law" = some (.ref f_law)
  C_NoOption : Addr
  k_NoOption : mg "NoOption" = some (.ref C_NoOption)
  ex_NoOption : ExK K C_NoOption f_NoOption_init
  ok_NoOption : OkyC K C_NoOption
  xf_NoOption : XfC K C_NoOption
  nf_NoOption_name : PySem.W.findIn K (.ref C_NoOption) "name" = some none
  C_PollError : Addr
  k_PollError : mg "PollError" = some (.ref C_PollError)
  ex_PollError : ExK K C_PollError f_PollError_init
  ox_PollError : OexC K C_PollError
  xf_PollError : XfC K C_PollError
  nf_PollError_why : PySem.W.findIn K (.ref C_PollError) "why" = some none
  rd_PollError : PySem.W.readsIn K C_PollError (.type "type") = true
  ga_PollError : PySem.W.specialIn K (.ref C_PollError) "__getattribute__" = some (some (.builtin "type.__getattribute__"))
  fc_PollError_init : PySem.W.findCls K (.ref C_PollError) (.type "type") "__init__" = some (.val (.ref f_PollError_init))
  C_BadPoll : Addr
  k_BadPoll : mg "BadPoll" = some (.ref C_BadPoll)
  ex_BadPoll : ExK K C_BadPoll f_PollError_init
  ox_BadPoll : OexC K C_BadPoll
  xf_BadPoll : XfC K C_BadPoll
  nf_BadPoll_why : PySem.W.findIn K (.ref C_BadPoll) "why" = some none
  C_Poll : Addr
  k_Poll : mg "Poll" = some (.ref C_Poll)
  cl_Poll : Cls K C_Poll
  n_Poll_options : NoAttr K C_Poll "options"
  n_Poll_voices : NoAttr K C_Poll "voices"
  mk_Poll : Mk K C_Poll f_Poll_init
  te_NoOption_NoOption : PySem.W.exmOne K (.ref C_NoOption) (.ref C_NoOption) = some true
  vV : PySem.W.findCls K (.type "ValueError") (.type "type") "__init__" = some (.val (.builtin "ValueError.__init__"))
  z_ValueError : mg "ValueError" = none
  z_isinstance : mg "isinstance" = none
  z_bool : mg "bool" = none
  z_int : mg "int" = none
  z_str : mg "str" = none
  z_len : mg "len" = none
  z_all : mg "all" = none
  z_tuple : mg "tuple" = none
  z_enumerate : mg "enumerate" = none
  z_sorted : mg "sorted" = none
  z_set : mg "set" = none
  z_list : mg "list" = none
  z_sum : mg "sum" = none
  z_range : mg "range" = none
  z_dict : mg "dict" = none
  t_LONGEST_NAME : Tok
  c_LONGEST_NAME : mg "LONGEST_NAME" = some (.int 8 t_LONGEST_NAME)
  t_MOST_OPTIONS : Tok
  c_MOST_OPTIONS : mg "MOST_OPTIONS" = some (.int 6 t_MOST_OPTIONS)
  t_GREATEST_MARK : Tok
  c_GREATEST_MARK : mg "GREATEST_MARK" = some (.int 9 t_GREATEST_MARK)
  t_MOST_VOICES : Tok
  c_MOST_VOICES : mg "MOST_VOICES" = some (.int 1000000 t_MOST_VOICES)
  t_MOST_ROWS : Tok
  c_MOST_ROWS : mg "MOST_ROWS" = some (.int 30 t_MOST_ROWS)
/-! ### wells -/
/-- a well's three numbers, k a bound of how often it was drawn from -/
def WellL (w : List V) (k : Nat) : Prop := ∃ a b c : Int, w = [.int a, .int b, .int c] ∧ 0 ≤ a ∧ 0 ≤ b ∧ b < 2147483629 ∧ 0 ≤ c ∧ c ≤ k
theorem WellL.mono {w : List V} {j k : Nat} (h : WellL w j) (hk : j ≤ k) : WellL w k := by
  obtain ⟨a, b, c, e, h1, h2, h3, h4, h5⟩ := h
  exact ⟨a, b, c, e, h1, h2, h3, h4, by omega⟩
theorem mix_mod (x m : Int) (h : 0 < m) : 0 ≤ x % m ∧ x % m < m := ⟨Int.emod_nonneg x (by omega), Int.emod_lt_of_pos x h⟩
theorem div_nn {a n : Int} (h : 0 ≤ a) (hn : 0 < n) : 0 ≤ a / n := Int.ediv_nonneg h (by omega)
theorem same_upd {H : Hp} {p : Addr} {o : HO} (h : H p = none) : Same H (upd H p o) := fun b x e => by
  rw [upd_ne (ne_of_none e h)]
  exact e
theorem same_mut {H H' : Hp} {p : Addr} {o : HO} (e : Same H H') (h : H p = none) : Same H (upd H' p o) := fun b x q => by
  rw [upd_ne (ne_of_none q h)]
  exact e b x q
theorem mulOk {a b : Int} {n m : Nat} (ha : a.natAbs < 2 ^ n) (hb : b.natAbs < 2 ^ m) (h : n + m + 1 ≤ 8000) : CMulW a b :=
  wide_mul (a := n + 1) (b := m + 1) (Nat.lt_of_lt_of_le ha (Nat.pow_le_pow_right (by decide) (by omega))) (Nat.lt_of_lt_of_le hb (Nat.pow_le_pow_right (by decide) (by omega))) (by omega) (by omega) (by omega)
theorem line_of {n : Nat} (h : n ≤ 1000) : n ≤ sizeLine := Nat.le_of_lt (small1000 h)
/-- what was tracked besides p stays -/
def But (p : Addr) (H H' : Hp) : Prop := ∀ b o, b ≠ p → H b = some o → H' b = some o
theorem But.refl (p : Addr) (H : Hp) : But p H H := fun _ _ _ h => h
theorem But.upd {p : Addr} {H H' : Hp} (e : But p H H') (o : HO) : But p H (upd H' p o) := fun b u hb q => by
  rw [upd_ne hb]
  exact e b u hb q
theorem But.new {p q : Addr} {H H' : Hp} (e : But p H H') (n : H' q = none) (o : HO) : But p H (L2.upd H' q o) := fun b u hb h => by
  have h2 := e b u hb h
  rw [upd_ne (ne_of_none h2 n)]
  exact h2
theorem But.same {p : Addr} {H H1 H2 : Hp} (e : But p H H1) (s : Same H1 H2) : But p H H2 := fun b u hb h => s b u (e b u hb h)
theorem But.trans {p : Addr} {H H1 H2 : Hp} (e : But p H H1) (f : But p H1 H2) : But p H H2 := fun b u hb h => f b u hb (e b u hb h)
/-- p new to H0 -/
theorem But.ext {p : Addr} {H0 H H' : Hp} (s : Same H0 H) (n : H0 p = none) (e : But p H H') : Same H0 H' := fun b u h => e b u (ne_of_none h n) (s b u h)
theorem size_ok {n : Int} (h0 : 0 ≤ n) (h : n ≤ 1000) : n.natAbs < 2 ^ 8000 := Nat.lt_of_le_of_lt (show n.natAbs ≤ 1000 by omega) (by decide +kernel)
theorem cut_ints (ns : List Int) (lo hi : Option Int) : ∃ ms : List Int, cutV (ns.map V.int) lo hi = ms.map V.int ∧ ms.length ≤ ns.length := by
  refine ⟨(ns.drop (HT.sIx (ns.map V.int).length 0 lo)).take (HT.sIx (ns.map V.int).length (ns.map V.int).length hi - HT.sIx (ns.map V.int).length 0 lo), ?_, ?_⟩
  · unfold cutV
    rw [← List.map_drop, ← List.map_take]
  · rw [List.length_take, List.length_drop]
    omega
theorem take_more {α : Type} : ∀ {l : List α} {i : Nat} {x : α}, l[i]? = some x → l.take (i + 1) = l.take i ++ [x]
  | [], i, x, h => by simp at h
  | a :: l, 0, x, h => by
    have e : a = x := Option.some.inj h
    subst e
    rfl
  | a :: l, i + 1, x, h => by
    have ih := take_more (l := l) (i := i) (x := x) h
    show a :: l.take (i + 1) = a :: l.take i ++ [x]
    rw [ih]
    rfl
section
variable {P : Program} {w : World} {K : PySem.W.Frag} {mg : Str → Option Value} {base : Heap}
/-! ### the law's own small defs -/
def sp_law_cell_at (K : PySem.W.Frag) : Sp := fun vs H Q _ => ∃ (a : Addr) (ns : List Int), vs = [.ref a, .int 0] ∧ SqL K H a (ns.map V.int) ∧ ns.length ≤ 63 ∧ ∀ z : Int, Q (.int z) H
theorem ok_law_cell_at (T : Txt K mg) : FnOk P w K mg base CX0 1 T.f_law_cell_at T.fd_law_cell_at ["_law_script", "_law_k"] (sp_law_cell_at K) := by
  refine T.F_law_cell_at.ok sc_law_cell_at (fun vs H Q E h => ?_) (fun cdv A outer s H vs Q E hr h => ?_)
  · obtain ⟨a, ns, rfl, _⟩ := h
    rfl
  · obtain ⟨a, ns, rfl, hS, hlen, q⟩ := h
    refine ⟨_, (pss_cons
 (ps_if (pt_cmpR op_lt (pv 1) (pe_callB call_len_seq (by rfl) T.z_len (by decide +kernel) (pa_cons (pv 0) pa_nil)) (nomark _))
 (pss_one
 (ps_ret (pe_ix ix_list (pv 0) (pv 1) (fun _ _ => rfl))))
 pss_nil)
 (pss_one
 (ps_ret pe_int))), ?_⟩
    refine ⟨.int 0, rfl, .ref a, rfl, a, ns.map V.int, rfl, .inl hS, 0, _, rfl, rfl, _, rfl, ite2 (fun e => ?_) (fun e => ?_)⟩
    · have e0 := of_decide_eq_true e
      cases ns with
      | nil => simp at e0
      | cons z r => exact ⟨.ref a, rfl, .int 0, rfl, a, _, 0, .int z, rfl, rfl, hS, atI_nat (j := 0) rfl, q z⟩
    · exact q 0
def sp_law_well : Sp := fun vs H Q _ => ∃ z : Int, vs = [.int z] ∧ ∀ (p : Addr) (x : List V) (H' : Hp), H p = none → Same H H' → H' p = some (.lst x) → WellL x 0 → Q (.ref p) H'
theorem ok_law_well (T : Txt K mg) : FnOk P w K mg base CX0 1 T.f_law_well T.fd_law_well ["_law_cell"] sp_law_well := by
  refine T.F_law_well.ok sc_law_well (fun vs H Q E h => ?_) (fun cdv A outer s H vs Q E hr h => ?_)
  · obtain ⟨z, rfl, _⟩ := h
    rfl
  · obtain ⟨z, rfl, q⟩ := h
    refine ⟨_, (pss_one
 (ps_ret (pe_lst (pa_cons (pe_ix ix_list (pe_lst (pa_cons pe_int (pa_cons (pv 0) pa_nil))) (pe_callTy call_int1 (by rfl) T.z_int (by decide +kernel) (pa_cons (pe_cmpR op_ge (pv 0) (pe_op op_pow pe_int pe_int) (nomark _)) pa_nil)) (fun _ _ => rfl)) (pa_cons (pe_op op_mod (pv 0) pe_int) (pa_cons pe_int pa_nil)))))), ?_⟩
    refine ⟨.int z, rfl, Nat.le_trans (by decide : 2 ≤ 1000) (Nat.le_of_lt (small1000 (by decide))), fun t nt => ?_⟩
    have ht : (upd H t (.lst [V.int 0, V.int z])) t = some (.lst [V.int 0, V.int z]) := upd_same
    refine ⟨.int z, rfl, 10, 18, rfl, rfl, ⟨by decide, by decide, by decide⟩, z, _, rfl, rfl, .inr ⟨_, rfl, ?_⟩⟩
    have fin : ∀ a : Int, 0 ≤ a → ∀ (p : Addr), (upd H t (.lst [V.int 0, V.int z])) p = none → Q (.ref p) (upd (upd H t (.lst [V.int 0, V.int z])) p (.lst [.int a, .int (z % 2147483629), .int 0])) := fun a ha p np => by
      have hb := mix_mod z 2147483629 (by decide)
      exact q p _ _ ((same_upd nt).free np) ((same_upd nt).trans (same_upd np)) upd_same ⟨a, _, 0, rfl, ha, hb.1, hb.2, by decide, by decide⟩
    by_cases hz : (10 : Int) ^ 18 ≤ z
    · refine ⟨t, _, 1, .int z, rfl, ?_, .of ht, rfl, .int z, rfl, z, _, rfl, rfl, (by show (0 : Int) < 2147483629; decide), Nat.le_trans (by decide : 3 ≤ 1000) (Nat.le_of_lt (small1000 (by decide))), fun p np => fin z (by omega) p np⟩
      rw [show decide ((10 : Int) ^ (18 : Int).toNat ≤ z) = true from decide_eq_true hz] <;> rfl
    · refine ⟨t, _, 0, .int 0, rfl, ?_, .of ht, rfl, .int z, rfl, z, _, rfl, rfl, (by show (0 : Int) < 2147483629; decide), Nat.le_trans (by decide : 3 ≤ 1000) (Nat.le_of_lt (small1000 (by decide))), fun p np => fin 0 (by omega) p np⟩
      rw [show decide ((10 : Int) ^ (18 : Int).toNat ≤ z) = false from decide_eq_false hz] <;> rfl
/-- drawing: a number below the size; the well holds three numbers again -/
def sp_law_draw : Sp := fun vs H Q _ => ∃ (p : Addr) (n : Int) (x : List V) (k : Nat), vs = [.ref p, .int n] ∧ H p = some (.lst x) ∧ WellL x k ∧ k ≤ 1000000 ∧ 0 < n ∧ n.natAbs < 2 ^ 8000 ∧
  ∀ (d : Int) (y : List V), 0 ≤ d → d < n → WellL y (k + 1) → Q (.int d) (upd H p (.lst y))
theorem ok_law_draw (T : Txt K mg) : FnOk P w K mg base CX0 1 T.f_law_draw T.fd_law_draw ["_law_well_here", "_law_size"] sp_law_draw := by
  refine T.F_law_draw.ok sc_law_draw (fun vs H Q E h => ?_) (fun cdv A outer s H vs Q E hr h => ?_)
  · obtain ⟨p, n, x, k, rfl, _⟩ := h
    rfl
  · obtain ⟨p, n, x, k, rfl, hp, ⟨a, b, c, rfl, ha, hb, hb2, hc, hck⟩, hk, hn, hn2, q⟩ := h
    refine ⟨_, (pss_cons
 (ps_if (pt_cmpR op_gt (pe_ix ix_list (pv 0) pe_int (fun _ _ => rfl)) pe_int (nomark _))
 (pss_cons
 (ps_set (i := 2) sc_law_draw.nd rfl (Or.inl rfl) (pe_op op_mod (pe_ix ix_list (pv 0) pe_int (fun _ _ => rfl)) (pv 1)))
 (pss_cons
 (ps_asg (pe_op op_fdivW (pe_ix ix_list (pv 0) pe_int (fun _ _ => rfl)) (pv 1)) (pg_sub (pv 0) pe_int set_list))
 (pss_one
 (ps_ret (pv 2)))))
 pss_nil)
 (pss_cons
 (ps_asg (pe_op op_add (pe_ix ix_list (pv 0) pe_int (fun _ _ => rfl)) pe_int) (pg_sub (pv 0) pe_int set_list))
 (pss_cons
 (ps_set (i := 3) sc_law_draw.nd rfl (Or.inl rfl) (pe_op op_mod (pe_op op_pow (pe_op op_add (pe_op op_add (pe_ix ix_list (pv 0) pe_int (fun _ _ => rfl)) (pe_op op_mul pe_int (pe_ix ix_list (pv 0) pe_int (fun _ _ => rfl)))) pe_int) pe_int) pe_int))
 (pss_cons
 (ps_set (i := 3) sc_law_draw.nd rfl (Or.inl rfl) (pe_op op_mod (pe_op op_mul (pv 3) (pe_op op_add (pe_op op_add (pe_op op_fdiv (pv 3) pe_int) pe_int) (pe_ix ix_list (pv 0) pe_int (fun _ _ => rfl)))) pe_int))
 (pss_one
 (ps_ret (pe_op op_mod (pe_op op_mod (pe_op op_mul (pv 3) (pe_op op_add (pe_op op_fdiv (pv 3) pe_int) pe_int)) pe_int) (pv 1)))))))), ?_⟩
    refine ⟨.ref p, rfl, p, _, 0, .int a, rfl, rfl, .of hp, rfl, a, 0, rfl, rfl, _, rfl, ite2 (fun e => ?_) (fun e => ?_)⟩
    · have hd := mix_mod a n hn
      have ha2 := div_nn ha hn
      refine ⟨.ref p, rfl, p, _, 0, .int a, rfl, rfl, .of hp, rfl, .int n, rfl, a, n, rfl, rfl, hn, ?_⟩
      refine ⟨.ref p, rfl, p, _, 0, .int a, rfl, rfl, .of hp, rfl, .int n, rfl, a, n, rfl, rfl, wide_div hn hn2 (by decide) (by decide), .ref p, rfl, p, _, 0, 0, rfl, rfl, hp, rfl, ?_⟩
      exact ⟨_, rfl, q (a % n) _ hd.1 hd.2 ⟨a / n, b, c, rfl, ha2, hb, hb2, hc, by omega⟩⟩
    · refine ⟨.ref p, rfl, p, _, 2, .int c, rfl, rfl, .of hp, rfl, c, 1, rfl, rfl, .ref p, rfl, p, _, 2, 2, rfl, rfl, hp, rfl, ?_⟩
      have h1 : (upd H p (.lst [V.int a, V.int b, V.int (c + 1)])) p = some (.lst [V.int a, V.int b, V.int (c + 1)]) := upd_same
      refine ⟨.ref p, rfl, p, _, 1, .int b, rfl, rfl, .of h1, rfl, .ref p, rfl, p, _, 2, .int (c + 1), rfl, rfl, .of h1, rfl, 7919, c + 1, rfl, rfl, .inl ⟨by decide, by decide⟩, b, _, rfl, rfl, _, 1, rfl, rfl, _, 5, rfl, rfl, ⟨by decide, by decide, by omega⟩, _, 2147483647, rfl, rfl, (by show (0 : Int) < 2147483647; decide), ?_⟩
      dsimp only
      generalize hg : (_ : Int) % 2147483647 = m
      have hm : 0 ≤ m ∧ m < 2147483647 := hg ▸ mix_mod _ _ (by decide)
      refine ⟨.int m, rfl, .int m, rfl, m, 1009, rfl, rfl, ⟨by decide, by decide⟩, _, 69621, rfl, rfl, .ref p, rfl, p, _, 2, .int (c + 1), rfl, rfl, .of h1, rfl, _, c + 1, rfl, rfl, m, _, rfl, rfl, .inl ⟨by omega, by omega⟩, _, 2147483629, rfl, rfl, (by show (0 : Int) < 2147483629; decide), ?_⟩
      dsimp only
      generalize hg2 : (_ : Int) % 2147483629 = m2
      have hm2 : 0 ≤ m2 ∧ m2 < 2147483629 := hg2 ▸ mix_mod _ _ (by decide)
      refine ⟨.int m2, rfl, .int m2, rfl, m2, 2003, rfl, rfl, ⟨by decide, by decide⟩, _, 40692, rfl, rfl, m2, _, rfl, rfl, .inl ⟨by omega, by omega⟩, _, 2147483399, rfl, rfl, (by show (0 : Int) < 2147483399; decide), .int n, rfl, _, n, rfl, rfl, hn, ?_⟩
      have hd := mix_mod (m2 * (m2 / 2003 + 40692) % 2147483399) n hn
      exact q _ _ hd.1 hd.2 ⟨a, b, c + 1, rfl, ha, hb, hb2, by omega, by omega⟩
end
theorem But.mut {p q : Addr} {H H' : Hp} {o : HO} (e : But p H H') (n : H q = none) : But p H (L2.upd H' q o) := fun b u hb h => by
  have hq : b ≠ q := fun z => by rw [z, n] at h; cases h
  rw [upd_ne hq]
  exact e b u hb h
theorem But.free {p q : Addr} {H H' : Hp} {o : HO} (e : But p H H') (hp : H' p = some o) (n : H' q = none) : H q = none := by
  have hq : q ≠ p := fun z => by rw [z, hp] at n; cases n
  cases h : H q with
  | none => rfl
  | some u => rw [e q u hq h] at n; cases n
theorem pick_perm {α : Type} : ∀ (l : List α) (n : Nat) (h : n < l.length), (l[n] :: l.eraseIdx n).Perm l
  | [], _, h => absurd h (Nat.not_lt_zero _)
  | a :: l, 0, _ => List.Perm.refl _
  | a :: l, n + 1, h => (List.Perm.swap a (l[n]'(Nat.lt_of_succ_lt_succ h)) (l.eraseIdx n)).trans ((pick_perm l n (Nat.lt_of_succ_lt_succ h)).cons a)
abbrev abc : Str := "abcdefghijklmnopqrstuvwxyz"
theorem abc_len : abc.length = 26 := by decide +kernel
theorem abc_all : ∀ j : Fin 26, abc.cps.toList[j.val]? = some (97 + j.val) := by decide +kernel
theorem abc_at {d : Int} (h0 : 0 ≤ d) (h1 : d < 26) : atI abc.cps.toList d = some (97 + d.toNat) := by
  obtain ⟨j, rfl⟩ := Int.eq_ofNat_of_zero_le h0
  exact atI_nat (abc_all ⟨j, by omega⟩)
def Small (z : Str) : Prop := ∀ c ∈ z.cps.toList, 97 ≤ c ∧ c ≤ 122
def NameOk (z : Str) : Prop := 1 ≤ z.length ∧ z.length ≤ 8 ∧ Small z
def lastc (z : Str) : Nat := z.cps.toList.getLastD 0
theorem cps_more (z : Str) (c : Nat) : (z ++ ⟨#[c]⟩ : Str).cps.toList = z.cps.toList ++ [c] := by
  rw [Str.cps_append, Array.toList_append]
theorem len_more (z : Str) (c : Nat) : (z ++ ⟨#[c]⟩ : Str).length = z.length + 1 := by
  rw [Str.length_append]
  rfl
theorem small_more {z : Str} {d : Int} (h : Small z) (h0 : 0 ≤ d) (h1 : d < 26) : Small (z ++ ⟨#[97 + d.toNat]⟩) := fun c hc => by
  rw [cps_more] at hc
  rcases List.mem_append.mp hc with hc | hc
  · exact h c hc
  · rw [List.mem_singleton.mp hc]
    omega
theorem last_more (z : Str) (c : Nat) : lastc (z ++ ⟨#[c]⟩) = c := by
  unfold lastc
  rw [cps_more, List.getLastD_concat]
theorem steps_nodup (a : Int) {n : Nat} (hn : n ≤ 6) : ((List.range n).map fun j : Nat => 97 + ((a + 3 * (j : Int)) % 26).toNat).Nodup := by
  refine List.pairwise_map.mpr (List.Pairwise.imp_of_mem (fun {i j} hi hj h => ?_) (List.pairwise_lt_range (n := n)))
  have h1 := List.mem_range.mp hi
  have h2 := List.mem_range.mp hj
  intro e
  omega
def tyD (t : List Str) : PyData := .tuple (t.map PyData.str)
theorem lay_strs : ∀ t : List Str, (∀ z ∈ t, PyData.strOk z = true) → PyData.canLayAll0 (t.map PyData.str) = true ∧ PyData.depthAll (t.map PyData.str) ≤ 0
  | [], _ => ⟨rfl, by decide⟩
  | a :: l, h => by
    obtain ⟨h1, h2⟩ := lay_strs l fun z hz => h z (List.mem_cons_of_mem _ hz)
    constructor
    · rw [List.map_cons, PyData.canLayAll0, h1]
      simp [PyData.canLay0, h a List.mem_cons_self]
    · rw [List.map_cons, PyData.depthAll]
      have : PyData.depth (.str a) = 0 := rfl
      omega
theorem lay_tiers : ∀ ts : List (List Str), (∀ t ∈ ts, ∀ z ∈ t, PyData.strOk z = true) → PyData.canLayAll0 (ts.map tyD) = true ∧ PyData.depthAll (ts.map tyD) ≤ 1
  | [], _ => ⟨rfl, by decide⟩
  | a :: l, h => by
    obtain ⟨h1, h2⟩ := lay_tiers l fun t ht => h t (List.mem_cons_of_mem _ ht)
    obtain ⟨g1, g2⟩ := lay_strs a (h a List.mem_cons_self)
    constructor
    · rw [List.map_cons, PyData.canLayAll0, h1]
      simp [tyD, PyData.canLay0, g1]
    · rw [List.map_cons, PyData.depthAll]
      have : PyData.depth (tyD a) ≤ 1 := by
        show PyData.depth (.tuple (a.map PyData.str)) ≤ 1
        rw [PyData.depth]
        omega
      omega
theorem shaped_tiers {ts : List (List Str)} (h : ∀ t ∈ ts, ∀ z ∈ t, PyData.strOk z = true) : SeqAt.shaped (.list (ts.map tyD)) = true := by
  obtain ⟨h1, h2⟩ := lay_tiers ts h
  unfold SeqAt.shaped
  rw [PyData.canLay0, h1, PyData.depth]
  simp only [Bool.true_and, decide_eq_true_eq]
  omega
theorem dp_strs {K : PySem.W.Frag} {H : Hp} : ∀ t : List Str, DpAll K H (t.map V.str) (t.map PyData.str)
  | [] => .nil
  | a :: l => .cons (.str a) (dp_strs l)
def Tiers (H : Hp) (bs : List (Addr × List Str)) : Prop := ∀ b ∈ bs, H b.1 = some (.tup (b.2.map V.str)) ∧ b.2 ≠ []
theorem dp_tiers {K : PySem.W.Frag} {H : Hp} : ∀ bs : List (Addr × List Str), Tiers H bs → DpAll K H (bs.map fun b => V.ref b.1) ((bs.map (·.2)).map tyD)
  | [], _ => .nil
  | b :: l, h => .cons (.tup (.of (h b List.mem_cons_self).1) (dp_strs b.2)) (dp_tiers l fun c hc => h c (List.mem_cons_of_mem _ hc))
theorem small_ok {z : Str} (h : Small z) : PyData.strOk z = true := by
  unfold PyData.strOk
  rw [← Array.all_toList, List.all_eq_true]
  exact fun c hc => decide_eq_true (by have := (h c hc).2; omega)
theorem cut_strs (ws : List Str) (lo hi : Option Int) : ∃ ms : List Str, cutV (ws.map V.str) lo hi = ms.map V.str ∧ ms.Sublist ws := by
  refine ⟨(ws.drop (HT.sIx (ws.map V.str).length 0 lo)).take (HT.sIx (ws.map V.str).length (ws.map V.str).length hi - HT.sIx (ws.map V.str).length 0 lo), ?_, (List.take_sublist _ _).trans (List.drop_sublist _ _)⟩
  unfold cutV
  rw [← List.map_drop, ← List.map_take]
theorem perm_strs {ys : List V} {zs : List Str} (h : ys.Perm (zs.map V.str)) : ∃ ws : List Str, ys = ws.map V.str ∧ ws.Perm zs := by
  let g : V → Str := fun v => match v with | .str s => s | _ => Str.empty
  have e : ∀ l : List Str, (l.map V.str).map g = l := fun l => by
    rw [List.map_map]
    exact List.map_id l
  refine ⟨ys.map g, ?_, by have := h.map g; rw [e] at this; exact this⟩
  rw [List.map_map]
  refine (List.map_id ys).symm.trans (List.map_congr_left fun v hv => ?_)
  obtain ⟨z, _, rfl⟩ := List.mem_map.mp (h.mem_iff.mp hv)
  rfl
theorem ix_last (n : Nat) : ixN (n + 1) (-1) = some n := by
  unfold ixN
  rw [if_neg (by decide)]
  simp
  omega
theorem set_last {α : Type} : ∀ (l : List α) (a b : α), (l ++ [a]).set l.length b = l ++ [b]
  | [], _, _ => rfl
  | c :: l, a, b => congrArg (c :: ·) (set_last l a b)
theorem at_last {α : Type} (l : List α) (a : α) : atI (l ++ [a]) (-1) = some a := by
  unfold atI
  rw [List.length_append, List.length_singleton, ix_last]
  show (l ++ [a])[l.length]? = some a
  rw [List.getElem?_append_right (Nat.le_refl _), Nat.sub_self]
  rfl
/-- a ballot, as the document tells them -/
inductive Bal where
  | order (ts : List (List Str))
  | lets (ns : List Str)
  | marks (ms : List (Str × Int))
def Bal.Ok (zs : List Str) : Bal → Prop
  | .order ts => ts.flatten.Nodup ∧ (∀ z ∈ ts.flatten, z ∈ zs) ∧ ∀ t ∈ ts, t ≠ []
  | .lets ns => ns.Nodup ∧ ∀ z ∈ ns, z ∈ zs
  | .marks ms => (ms.map (·.1)).Nodup ∧ (∀ m ∈ ms, m.1 ∈ zs) ∧ ∀ m ∈ ms, 0 ≤ m.2 ∧ m.2 ≤ 9
def BalAt (H : Hp) (t : Addr) : Bal → Prop
  | .order ts => ∃ (u : Addr) (bs : List (Addr × List Str)), H t = some (.tup [.str "order", .ref u]) ∧ H u = some (.tup (bs.map fun b => V.ref b.1)) ∧ Tiers H bs ∧ bs.map (·.2) = ts
  | .lets ns => ∃ u : Addr, H t = some (.tup [.str "lets", .ref u]) ∧ H u = some (.tup (ns.map V.str))
  | .marks ms => ∃ (u : Addr) (bs : List (Addr × (Str × Int))), H t = some (.tup [.str "marks", .ref u]) ∧ H u = some (.tup (bs.map fun b => V.ref b.1)) ∧ (∀ b ∈ bs, H b.1 = some (.tup [.str b.2.1, .int b.2.2])) ∧ bs.map (·.2) = ms
theorem BalAt.keep {H H' : Hp} {t : Addr} : ∀ {b : Bal}, (∀ a xs, H a = some (.tup xs) → H' a = some (.tup xs)) → BalAt H t b → BalAt H' t b
  | .order _, k, ⟨u, bs, h1, h2, h3, h4⟩ => ⟨u, bs, k _ _ h1, k _ _ h2, fun b hb => ⟨k _ _ (h3 b hb).1, (h3 b hb).2⟩, h4⟩
  | .lets _, k, ⟨u, h1, h2⟩ => ⟨u, k _ _ h1, k _ _ h2⟩
  | .marks _, k, ⟨u, bs, h1, h2, h3, h4⟩ => ⟨u, bs, k _ _ h1, k _ _ h2, fun b hb => k _ _ (h3 b hb), h4⟩
theorem But.tups {p : Addr} {H H' : Hp} {x : List V} (b : But p H H') (hp : H p = some (.lst x)) : ∀ a xs, H a = some (.tup xs) → H' a = some (.tup xs) := fun a xs h => b a _ (fun e => by rw [e, hp] at h; cases h) h
/-- tuples stay -/
def TK (H H' : Hp) : Prop := ∀ a xs, H a = some (.tup xs) → H' a = some (.tup xs)
theorem TK.trans {H H1 H2 : Hp} (a : TK H H1) (b : TK H1 H2) : TK H H2 := fun c xs h => b c xs (a c xs h)
theorem TK.new {H : Hp} {q : Addr} {o : HO} (n : H q = none) : TK H (upd H q o) := fun c xs h => (upd_ne (ne_of_none h n)).trans h
theorem TK.lst {H : Hp} {q : Addr} {x : List V} {o : HO} (n : H q = some (.lst x)) : TK H (upd H q o) := fun c xs h => (upd_ne (fun e => by rw [e, n] at h; cases h)).trans h
def RowsAt (H : Hp) (u : Addr) (rows : List (Bal × Int)) : Prop := ∃ as : List (Addr × Addr × (Bal × Int)), H u = some (.tup (as.map fun a => V.ref a.1)) ∧ (∀ a ∈ as, H a.1 = some (.tup [.ref a.2.1, .int a.2.2.2]) ∧ BalAt H a.2.1 a.2.2.1) ∧ as.map (·.2.2) = rows
theorem RowsAt.keep {H H' : Hp} {u : Addr} {rows : List (Bal × Int)} (k : TK H H') (h : RowsAt H u rows) : RowsAt H' u rows := by
  obtain ⟨as, h1, h2, h3⟩ := h
  exact ⟨as, k _ _ h1, fun a ha => ⟨k _ _ (h2 a ha).1, (h2 a ha).2.keep k⟩, h3⟩
def RowsOk (zs : List Str) (n : Nat) (rows : List (Bal × Int)) : Prop := rows.length ≤ n ∧ ∀ r ∈ rows, r.1.Ok zs ∧ 1 ≤ r.2 ∧ r.2 ≤ 1000000
theorem two_of (a b : V) (c : Bool) : atI [a, b] (if c = true then 1 else 0) = some (if c = true then b else a) := by
  cases c with
  | true => exact atI_nat (j := 1) rfl
  | false => exact atI_nat (j := 0) rfl
theorem mill : (10 : Int) ^ (6 : Int).toNat = 1000000 := by decide +kernel
section
variable {P : Program} {w : World} {K : PySem.W.Frag} {mg : Str → Option Value} {base : Heap}
/-! ### drawn names -/
def sp_law_options : Sp := fun vs H Q _ => ∃ (p : Addr) (n : Int) (x : List V) (k : Nat), vs = [.ref p, .int n] ∧ H p = some (.lst x) ∧ WellL x k ∧ k ≤ 900000 ∧ 0 ≤ n ∧ n ≤ 6 ∧
  ∀ (t : Addr) (zs : List Str) (y : List V) (H' : Hp), zs.length = n.toNat → zs.Nodup → (∀ z ∈ zs, NameOk z) → But p H H' → H t = none → H' t = some (.tup (zs.map V.str)) → H' p = some (.lst y) → WellL y (k + 60) → Q (.ref t) H'
theorem ok_law_options (T : Txt K mg) : FnOk P w K mg base CX0 2 T.f_law_options T.fd_law_options ["_law_well_here", "_law_size"] sp_law_options := by
  refine T.F_law_options.ok sc_law_options (fun vs H Q E h => ?_) (fun cdv A outer s H vs Q E hr h => ?_)
  · obtain ⟨p, n, x, k, rfl, _⟩ := h
    rfl
  · obtain ⟨p, n, x, k, rfl, hp, hx, hk, n0, n6, q⟩ := h
    refine ⟨_, (pss_cons
 (ps_set (i := 2) sc_law_options.nd rfl (Or.inl rfl) pe_str)
 (pss_cons
 (ps_set (i := 3) sc_law_options.nd rfl (Or.inl rfl) (pe_call (ok_law_draw T) (hr.mono (by decide)) (by rfl) T.g_law_draw T.F_law_draw.kp T.b_law_draw .nil pass0 (pa_cons (pv 0) (pa_cons pe_int pa_nil))))
 (pss_cons
 (ps_set (i := 4) sc_law_options.nd rfl (Or.inl rfl) (pe_lst pa_nil))
 (pss_cons
 (ps_for PassesOwn.never rfl (pi_range1 rfl T.z_range (pa_cons (pv 1) pa_nil)) (pg_name (i := 5) sc_law_options.nd rfl (Or.inl rfl))
 (pss_cons
 (ps_set (i := 6) sc_law_options.nd rfl (Or.inl rfl) pe_str)
 (pss_cons
 (ps_for PassesOwn.never rfl (pi_range1 rfl T.z_range (pa_cons (pe_call (ok_law_draw T) (hr.mono (by decide)) (by rfl) T.g_law_draw T.F_law_draw.kp T.b_law_draw .nil pass0 (pa_cons (pv 0) (pa_cons pe_int pa_nil))) pa_nil)) (pg_name (i := 7) sc_law_options.nd rfl (Or.inl rfl))
 (pss_one
 (ps_set (i := 6) sc_law_options.nd rfl (Or.inl rfl) (pe_op op_add_str (pv 6) (pe_ix ix_str (pv 2) (pe_call (ok_law_draw T) (hr.mono (by decide)) (by rfl) T.g_law_draw T.F_law_draw.kp T.b_law_draw .nil pass0 (pa_cons (pv 0) (pa_cons pe_int pa_nil))) (fun _ _ => rfl))))))
 (pss_one
 (ps_expr (pe_bm PySem.F.plainAttrs_list PySem.F.slot_list_append PySem.F.type_list_append mt_append (pv 4) (pa_cons (pe_op op_add_str (pv 6) (pe_ix ix_str (pv 2) (pe_op op_mod (pe_op op_add (pv 3) (pe_op op_mulW pe_int (pv 5))) pe_int) (fun _ _ => rfl))) pa_nil)))))))
 (pss_one
 (ps_ret (pe_callTy call_tuple_of (by rfl) T.z_tuple (by decide +kernel) (pa_cons (pv 4) pa_nil)))))))), ?_⟩
    have lenL : abc.length ≤ sizeLine := line_of (by rw [abc_len]; decide)
    refine ⟨.ref p, rfl, p, 26, x, k, rfl, hp, hx, by omega, by decide, size_ok (by decide) (by decide), fun a x1 a0 a1 w1 => ?_⟩
    refine ⟨line_of (show 0 ≤ 1000 by decide), fun l nl => ?_⟩
    have hpl : p ≠ l := fun e => by rw [← e, upd_same] at nl; cases nl
    have nlH : H l = none := by rw [upd_ne hpl.symm] at nl; exact nl
    refine ⟨.int n, rfl, n, rfl, by omega, by omega, for_range (fun i σ H' => ∃ (x5 x6 x7 : Option V) (zs : List Str) (y : List V), σ = [some (.ref p), some (.int n), some (.str abc), some (.int a), some (.ref l), x5, x6, x7] ∧ H' l = some (.lst (zs.map V.str)) ∧
        zs.map lastc = ((List.range i).map fun j : Nat => 97 + ((a + 3 * (j : Int)) % 26).toNat) ∧ (∀ z ∈ zs, NameOk z) ∧ But p H H' ∧ H' p = some (.lst y) ∧ WellL y (k + 1 + 9 * i))
      ⟨none, none, none, [], x1, rfl, upd_same, rfl, fun _ h => (by cases h), ((But.refl p H).upd _).mut nlH, by rw [upd_ne hpl, upd_same], w1⟩ ?_ ?_⟩
    · rintro i σ H1 hi ⟨x5, x6, x7, zs, y, rfl, hl, hm, hz, hb, hp1, hw⟩
      have lz : zs.length = i := by
        have := congrArg List.length hm
        rw [List.length_map, List.length_map, List.length_range] at this
        exact this
      have hi6 : i < 6 := by omega
      refine ⟨.ref p, rfl, p, 8, y, _, rfl, hp1, hw, by omega, by decide, size_ok (by decide) (by decide), fun d y2 d0 d1 hw2 => ?_⟩
      refine ⟨d, rfl, by omega, by omega, for_range (fun j σ H' => ∃ (x7 : Option V) (wd : Str) (y : List V), σ = [some (.ref p), some (.int n), some (.str abc), some (.int a), some (.ref l), some (.int (0 + (i : Nat))), some (.str wd), x7] ∧ wd.length = j ∧ Small wd ∧
          H' l = some (.lst (zs.map V.str)) ∧ But p H H' ∧ H' p = some (.lst y) ∧ WellL y (k + 2 + 9 * i + j))
        ⟨x7, Str.empty, y2, rfl, rfl, fun c h => (by cases h), by rw [upd_ne hpl.symm]; exact hl, hb.upd _, upd_same, hw2.mono (by omega)⟩ ?_ ?_⟩
      · rintro j σ H2 hj ⟨x7, wd, y3, rfl, lw, sw, hl2, hb2, hp2, hw3⟩
        refine ⟨.str wd, rfl, .str abc, rfl, .ref p, rfl, p, 26, y3, _, rfl, hp2, hw3, by omega, by decide, size_ok (by decide) (by decide), fun c y4 c0 c1 hw4 => ?_⟩
        refine ⟨abc, c, _, rfl, rfl, lenL, abc_at c0 c1, wd, _, rfl, rfl, line_of (show wd.length + 1 ≤ 1000 by omega), ?_⟩
        refine ⟨_, _, y4, rfl, (len_more _ _).trans (by omega), small_more sw c0 c1, by rw [upd_ne hpl.symm]; exact hl2, hb2.upd _, upd_same, hw4.mono (by omega)⟩
      · rintro σ H2 ⟨x7, wd, y3, rfl, lw, sw, hl2, hb2, hp2, hw3⟩
        have m0 : 0 ≤ (a + 3 * (0 + (i : Int))) % 26 ∧ (a + 3 * (0 + (i : Int))) % 26 < 26 := mix_mod _ _ (by decide)
        refine ⟨.ref l, rfl, .inl ⟨rfl, _, .of hl2⟩, .str wd, rfl, .str abc, rfl, .int a, rfl, .int (0 + (i : Int)), rfl, _, _, rfl, rfl, mulOk (n := 2) (m := 3) (by decide) (by omega) (by decide), _, _, rfl, rfl, _, _, rfl, rfl, (by show (0 : Int) < 26; decide), ?_⟩
        refine ⟨abc, _, _, rfl, rfl, lenL, abc_at m0.1 m0.2, wd, _, rfl, rfl, line_of (show wd.length + 1 ≤ 1000 by omega), ?_⟩
        refine ⟨l, _, _, rfl, rfl, hl2, small1000 (by rw [List.length_map]; omega), ?_⟩
        refine ⟨_, _, _, zs ++ [wd ++ ⟨#[97 + ((a + 3 * (0 + (i : Int))) % 26).toNat]⟩], y3, rfl, ?_, ?_, ?_, hb2.mut nlH, by rw [upd_ne hpl]; exact hp2, hw3.mono (by omega)⟩
        · rw [upd_same, List.map_append]
          rfl
        · rw [List.map_append, hm, List.range_succ, List.map_append]
          refine congrArg _ ?_
          show [lastc _] = [_]
          rw [last_more, Int.zero_add]
        · intro z hz'
          rcases List.mem_append.mp hz' with h | h
          · exact hz z h
          · rw [List.mem_singleton.mp h]
            exact ⟨by rw [len_more]; omega, by rw [len_more]; omega, small_more sw m0.1 m0.2⟩
    · rintro σ H1 ⟨x5, x6, x7, zs, y, rfl, hl, hm, hz, hb, hp1, hw⟩
      refine ⟨.ref l, rfl, l, _, rfl, .inl ⟨.of hl, fun t nt => ?_⟩⟩
      have hpt : p ≠ t := fun e => by rw [← e, hp1] at nt; cases nt
      have lz : zs.length = n.toNat := by
        have := congrArg List.length hm
        rw [List.length_map, List.length_map, List.length_range] at this
        exact this
      refine q t zs y _ lz ?_ hz (hb.mut (hb.free hp1 nt)) (hb.free hp1 nt) upd_same (by rw [upd_ne hpt]; exact hp1) (hw.mono (by omega))
      have nd := steps_nodup a (n := n.toNat) (by omega)
      rw [← hm] at nd
      exact (List.pairwise_map.mp nd).imp fun h e => h (congrArg lastc e)
end
section
variable {P : Program} {w : World} {K : PySem.W.Frag} {mg : Str → Option Value} {base : Heap}
/-! ### any order -/
def sp_law_shuffled (K : PySem.W.Frag) : Sp := fun vs H Q _ => ∃ (p t : Addr) (xs x : List V) (k : Nat), vs = [.ref p, .ref t] ∧ H p = some (.lst x) ∧ SqT K H t xs ∧ xs.length ≤ 6 ∧ WellL x k ∧ k ≤ 900000 ∧
  ∀ (l : Addr) (ys y : List V) (H' : Hp), ys.Perm xs → But p H H' → H l = none → H' l = some (.lst ys) → H' p = some (.lst y) → WellL y (k + 6) → Q (.ref l) H'
theorem ok_law_shuffled (T : Txt K mg) : FnOk P w K mg base CX0 2 T.f_law_shuffled T.fd_law_shuffled ["_law_well_here", "_law_some"] (sp_law_shuffled K) := by
  refine T.F_law_shuffled.ok sc_law_shuffled (fun vs H Q E h => ?_) (fun cdv A outer s H vs Q E hr h => ?_)
  · obtain ⟨p, t, xs, x, k, rfl, _⟩ := h
    rfl
  · obtain ⟨p, t, xs, x, k, rfl, hp, ht, hn, hx, hk, q⟩ := h
    refine ⟨_, (pss_cons
 (ps_set (i := 2) sc_law_shuffled.nd rfl (Or.inr rfl) (pe_callTy call_list_of (by rfl) T.z_list (by decide +kernel) (pa_cons (pv 1) pa_nil)))
 (pss_one
 (ps_ret (pe_lc (own := [("_law_k", 3)]) (g := gName 3) (tt := tYes) rfl sc_law_shuffled.nd (pi_range1 rfl T.z_range (pa_cons (pe_callB call_len_seq (by rfl) T.z_len (by decide +kernel) (pa_cons (pv 2) pa_nil)) pa_nil)) (blkOk_by (own := [("_law_k", 3)]) (N := ["_law_well_here", "_law_some", "_law_left", "_law_k"]) (sc := (defScope s_law_shuffled)) (by decide +kernel)) (fun _ _ _ _ _ => pg_name (i := 3) sc_law_shuffled.nd rfl (Or.inl rfl)) (fun _ _ _ _ _ => pts_nil) (fun s0 H0 C0 cl0 fp0 => (by have h := ((pe_bm PySem.F.plainAttrs_list PySem.F.slot_list_pop PySem.F.type_list_pop mt_popAt (pv 2) (pa_cons (pe_call (ok_law_draw T) (hr.mono (by decide)) (by rfl) T.g_law_draw T.F_law_draw.kp T.b_law_draw .nil pass0 (pa_cons (pv 0) (pa_cons (pe_callB call_len_seq (by rfl) T.z_len (by decide +kernel) (pa_cons (pv 2) pa_nil)) pa_nil))) pa_nil)) : PE ((cxOf CX0 P w K mg base ["_law_well_here", "_law_some", "_law_left", "_law_k"] "_law_shuffled" (defScope s_law_shuffled) T.f_law_shuffled cdv A outer s H E).nox.blk s0 H0 (lcScope (rootE ((defBody s_law_shuffled).getD 1 (.Pass ⟨0, 0, 0, 0⟩)))) (compEnvC (lcScope (rootE ((defBody s_law_shuffled).getD 1 (.Pass ⟨0, 0, 0, 0⟩)))) cl0 C0 (cxOf CX0 P w K mg base ["_law_well_here", "_law_some", "_law_left", "_law_k"] "_law_shuffled" (defScope s_law_shuffled) T.f_law_shuffled cdv A outer s H E).nox.env) fp0) (subE (rootE ((defBody s_law_shuffled).getD 1 (.Pass ⟨0, 0, 0, 0⟩))) 0) _); dsimp only [Cx.blk, Cx.tr, Cx.suite, Cx.nox, Cx.wish, cxOf] at h; exact h)))))), ?_⟩
    refine ⟨.ref t, rfl, t, xs, rfl, .inr ht, fun l nl => ?_⟩
    have hpl : p ≠ l := fun e => by rw [← e, hp] at nl; cases nl
    refine ⟨.ref l, rfl, l, _, rfl, .inl (.of upd_same), _, rfl, by omega, by omega, fun D nD => ?_⟩
    have hlD : l ≠ D := fun e => by rw [← e, upd_same] at nD; cases nD
    have nDH : H D = none := by rw [upd_ne hlD.symm] at nD; exact nD
    have hpD : p ≠ D := fun e => by rw [← e, hp] at nDH; cases nDH
    refine lc_range (fun i H' => ∃ left done y : List V, H' l = some (.lst left) ∧ H' D = some (.lst done) ∧ (done ++ left).Perm xs ∧ done.length = i ∧ But p H H' ∧ H' p = some (.lst y) ∧ WellL y (k + i))
      ⟨xs, [], x, by rw [upd_ne hlD, upd_same], upd_same, List.Perm.refl _, rfl, ((But.refl p H).mut nl).mut nDH, by rw [upd_ne hpD, upd_ne hpl]; exact hp, hx⟩ ?_ ?_
    · rintro i H1 hi ⟨left, done, y, hl, hD, pm, ld, hb, hp1, hw⟩
      have len := pm.length_eq
      rw [List.length_append] at len
      have hi' : i < xs.length := by omega
      refine ⟨rfl, .ref l, rfl, .inl ⟨rfl, _, .of hl⟩, .ref p, rfl, .ref l, rfl, l, _, rfl, .inl (.of hl), p, _, y, _, rfl, hp1, hw, by omega, by omega, size_ok (by omega) (by omega), fun d y2 d0 d1 hw2 => ?_⟩
      have hd : d.toNat < left.length := by omega
      refine ⟨l, left, d, d.toNat, left[d.toNat], rfl, rfl, by rw [upd_ne hpl.symm]; exact hl, by omega, by omega, seqIndex_of d0 d1, List.getElem?_eq_getElem hd, done, by rw [upd_ne hlD.symm, upd_ne hpD.symm]; exact hD, small1000 (by omega), ?_⟩
      refine ⟨left.eraseIdx d.toNat, done ++ [left[d.toNat]], y2, by rw [upd_ne hlD, upd_same], upd_same, ?_, by rw [List.length_append, ld]; rfl, ((hb.upd _).mut nl).mut nDH, by rw [upd_ne hpD, upd_ne hpl, upd_same], hw2.mono (by omega)⟩
      rw [List.append_assoc]
      exact ((pick_perm left d.toNat hd).append_left done).trans pm
    · rintro H1 ⟨left, done, y, hl, hD, pm, ld, hb, hp1, hw⟩
      have len := pm.length_eq
      rw [List.length_append] at len
      have e : left = [] := List.eq_nil_of_length_eq_zero (by omega)
      rw [e, List.append_nil] at pm
      exact q D done y H1 pm hb nDH hD hp1 (hw.mono (by omega))
end
section
variable {P : Program} {w : World} {K : PySem.W.Frag} {mg : Str → Option Value} {base : Heap}
/-! ### tiers drawn -/
def sp_law_tiers_drawn : Sp := fun vs H Q _ => ∃ (p t : Addr) (zs : List Str) (x : List V) (k : Nat), vs = [.ref p, .ref t] ∧ H p = some (.lst x) ∧ H t = some (.tup (zs.map V.str)) ∧ zs.length ≤ 6 ∧ zs.Nodup ∧ (∀ z ∈ zs, NameOk z) ∧ WellL x k ∧ k ≤ 800000 ∧
  ∀ (u : Addr) (bs : List (Addr × List Str)) (y : List V) (H' : Hp), Tiers H' bs → (bs.map (·.2)).flatten.Nodup → (∀ z ∈ (bs.map (·.2)).flatten, z ∈ zs) → But p H H' → H u = none → H' u = some (.tup (bs.map fun b => V.ref b.1)) → H' p = some (.lst y) → WellL y (k + 20) → Q (.ref u) H'
theorem ok_law_tiers_drawn (T : Txt K mg) : FnOk P w K mg base CX0 3 T.f_law_tiers_drawn T.fd_law_tiers_drawn ["_law_well_here", "_law_some"] (sp_law_tiers_drawn) := by
  refine T.F_law_tiers_drawn.ok sc_law_tiers_drawn (fun vs H Q E h => ?_) (fun cdv A outer s H vs Q E hr h => ?_)
  · obtain ⟨p, t, zs, x, k, rfl, _⟩ := h
    rfl
  · obtain ⟨p, t, zs, x, k, rfl, hp, ht, hn, nd, ok, hx, hk, q⟩ := h
    refine ⟨_, (pss_cons
 (ps_set (i := 2) sc_law_tiers_drawn.nd rfl (Or.inl rfl) (pe_lst pa_nil))
 (pss_cons
 (ps_for PassesOwn.never rfl (pi_list (pe_slice sl_list (pe_call (ok_law_shuffled T) (hr.mono (by decide)) (by rfl) T.g_law_shuffled T.F_law_shuffled.kp T.b_law_shuffled .nil pass0 (pa_cons (pv 0) (pa_cons (pv 1) pa_nil))) po_none (po_some (pe_op op_sub (pe_callB call_len_seq (by rfl) T.z_len (by decide +kernel) (pa_cons (pv 1) pa_nil)) (pe_op op_mod (pe_ix ix_list (pe_lst (pa_cons pe_int (pa_cons pe_int (pa_cons pe_int (pa_cons pe_int (pa_cons pe_int pa_nil)))))) (pe_call (ok_law_draw T) (hr.mono (by decide)) (by rfl) T.g_law_draw T.F_law_draw.kp T.b_law_draw .nil pass0 (pa_cons (pv 0) (pa_cons pe_int pa_nil))) (fun _ _ => rfl)) (pe_op op_add (pe_callB call_len_seq (by rfl) T.z_len (by decide +kernel) (pa_cons (pv 1) pa_nil)) pe_int)))))) (pg_name (i := 3) sc_law_tiers_drawn.nd rfl (Or.inl rfl))
 (pss_one
 (ps_if (PW.pt (pw_and (pt_cmpR (op_neD hr.units) (pv 2) (pe_lst pa_nil) (nomark _)) (pw_and1 (pt_cmpR op_eq (pe_call (ok_law_draw T) (hr.mono (by decide)) (by rfl) T.g_law_draw T.F_law_draw.kp T.b_law_draw .nil pass0 (pa_cons (pv 0) (pa_cons pe_int pa_nil))) pe_int (nomark _)))))
 (pss_one
 (ps_asg (pe_op op_catT (pe_ix ix_list (pv 2) (pe_un un_neg pe_int) (fun _ _ => rfl)) (pe_tup (pa_cons (pv 3) pa_nil))) (pg_sub (pv 2) (pe_un un_neg pe_int) set_list)))
 (pss_one
 (ps_expr (pe_bm PySem.F.plainAttrs_list PySem.F.slot_list_append PySem.F.type_list_append mt_append (pv 2) (pa_cons (pe_tup (pa_cons (pv 3) pa_nil)) pa_nil)))))))
 (pss_one
 (ps_ret (pe_callTy call_tuple_of (by rfl) T.z_tuple (by decide +kernel) (pa_cons (pv 2) pa_nil)))))), ?_⟩
    refine ⟨line_of (show 0 ≤ 1000 by decide), fun l nl => ?_⟩
    have hpl : p ≠ l := ne_of_none hp nl
    have htl : t ≠ l := ne_of_none ht nl
    have htp : t ≠ p := fun e => by rw [e, hp] at ht; cases ht
    refine ⟨.ref p, rfl, .ref t, rfl, p, t, zs.map V.str, x, k, rfl, by rw [upd_ne hpl]; exact hp, .of (by rw [upd_ne htl]; exact ht), by rw [List.length_map]; exact hn, hx, by omega, fun l1 ys y1 H1 pm b1 n1 hl1 hp1 w1 => ?_⟩
    obtain ⟨ws, rfl, pw⟩ := perm_strs pm
    have e0 : H1 l = some (.lst []) := b1 l _ hpl.symm upd_same
    have ht1 : H1 t = some (.tup (zs.map V.str)) := b1 t _ htp (by rw [upd_ne htl]; exact ht)
    have bH1 : But p H H1 := fun b o hb ho => b1 b o hb (by rw [upd_ne (ne_of_none ho nl)]; exact ho)
    have l1l : l1 ≠ l := fun e => by rw [e, upd_same] at n1; cases n1
    have l1p : l1 ≠ p := fun e => by rw [e, upd_ne hpl, hp] at n1; cases n1
    refine ⟨.ref t, rfl, t, _, rfl, .inr (.of ht1), line_of (show 5 ≤ 1000 by decide), fun l2 n2 => ?_⟩
    have pl2 : p ≠ l2 := ne_of_none hp1 n2
    have ll2 : l ≠ l2 := ne_of_none e0 n2
    have tl2 : t ≠ l2 := ne_of_none ht1 n2
    have l12 : l1 ≠ l2 := ne_of_none hl1 n2
    refine ⟨.ref p, rfl, p, 5, y1, _, rfl, by rw [upd_ne pl2]; exact hp1, w1, by omega, by decide, size_ok (by decide) (by decide), fun d y2 d0 d1 w2 => ?_⟩
    obtain ⟨v, hv⟩ : ∃ v : Int, atI [V.int 0, V.int 0, V.int 0, V.int 1, V.int 2] d = some (.int v) := by
      rcases (show d = 0 ∨ d = 1 ∨ d = 2 ∨ d = 3 ∨ d = 4 by omega) with rfl | rfl | rfl | rfl | rfl
      · exact ⟨_, atI_nat (j := 0) rfl⟩
      · exact ⟨_, atI_nat (j := 1) rfl⟩
      · exact ⟨_, atI_nat (j := 2) rfl⟩
      · exact ⟨_, atI_nat (j := 3) rfl⟩
      · exact ⟨_, atI_nat (j := 4) rfl⟩
    refine ⟨l2, _, d, _, rfl, rfl, .of (by rw [upd_ne pl2.symm, upd_same]), hv, .ref t, rfl, t, _, rfl, .inr (.of (by rw [upd_ne htp, upd_ne tl2]; exact ht1)), _, _, rfl, rfl, _, _, rfl, rfl, (by show (0 : Int) < _ + 1; omega), _, _, rfl, rfl, _, rfl, l1, _, rfl, .of (by rw [upd_ne l1p, upd_ne l12]; exact hl1), fun l3 n3 => ?_⟩
    obtain ⟨ms, em, sub⟩ := cut_strs ws none (some ((((zs.map V.str).length : Nat) : Int) - v % ((((zs.map V.str).length : Nat) : Int) + 1)))
    rw [em]
    have bH2 : But p H (upd (upd H1 l2 (.lst [V.int 0, V.int 0, V.int 0, V.int 1, V.int 2])) p (.lst y2)) := (bH1.mut (bH1.free hp1 n2)).upd _
    have hp3 : (upd (upd H1 l2 (.lst [V.int 0, V.int 0, V.int 0, V.int 1, V.int 2])) p (.lst y2)) p = some (.lst y2) := upd_same
    have hl3 : (upd (upd H1 l2 (.lst [V.int 0, V.int 0, V.int 0, V.int 1, V.int 2])) p (.lst y2)) l = some (.lst []) := by rw [upd_ne hpl.symm, upd_ne ll2]; exact e0
    generalize hH2 : upd (upd H1 l2 (.lst [V.int 0, V.int 0, V.int 0, V.int 1, V.int 2])) p (.lst y2) = H2 at n3 bH2 hp3 hl3
    have nl3 : l ≠ l3 := ne_of_none hl3 n3
    have np3 : p ≠ l3 := ne_of_none hp3 n3
    have hms : ∀ z ∈ ms, NameOk z := fun z hz => ok z (pw.mem_iff.mp (sub.subset hz))
    have lms : ms.length ≤ 6 := by
      have := sub.length_le
      have := pw.length_eq
      omega
    refine ⟨l3, rfl, ⟨_, .of upd_same⟩, for_list (K := K) (a := l3) (xs := ms.map V.str)
      (fun i σ H' => ∃ (x3 : Option V) (fb : List (Addr × List Str)) (y : List V), σ = [some (.ref p), some (.ref t), some (.ref l), x3] ∧ H' l = some (.lst (fb.map fun b => V.ref b.1)) ∧ Tiers H' fb ∧ (fb.map (·.2)).flatten = ms.take i ∧
        H' l3 = some (.lst (ms.map V.str)) ∧ But p H H' ∧ H' p = some (.lst y) ∧ WellL y (k + 8 + i))
      ⟨none, [], y2, rfl, by rw [upd_ne nl3]; exact hl3, fun _ h => (by cases h), rfl, upd_same, bH2.mut (bH2.free hp3 n3), by rw [upd_ne np3]; exact hp3, w2.mono (by omega)⟩
      (fun _ _ _ _ h => by obtain ⟨_, _, _, _, _, _, _, z, _⟩ := h; exact .of z) ?_ ?_⟩
    · rintro i v9 σ H3 hi ⟨x3, fb, y, rfl, hl2, hfb, hflat, h3, hb, hp2, hw⟩
      obtain ⟨wd, hwd, rfl⟩ : ∃ wd, ms[i]? = some wd ∧ v9 = V.str wd := by
        rw [List.getElem?_map] at hi
        cases e : ms[i]? with
        | none => rw [e] at hi; cases hi
        | some b => rw [e] at hi; exact ⟨b, rfl, (Option.some.inj hi).symm⟩
      have il : i < ms.length := (List.getElem?_eq_some_iff.mp hwd).1
      have lfb : fb.length ≤ i := by
        have h1 : ∀ l : List (Addr × List Str), (∀ b ∈ l, b.2 ≠ []) → l.length ≤ (l.map (·.2)).flatten.length := fun l => by
          induction l with
          | nil => intro _; exact Nat.le_refl _
          | cons b r ih =>
            intro hne
            have := ih fun c hc => hne c (List.mem_cons_of_mem _ hc)
            have := List.length_pos_iff.mpr (hne b List.mem_cons_self)
            rw [List.map_cons, List.flatten_cons, List.length_append, List.length_cons]
            omega
        have := h1 fb fun b hb' => (hfb b hb').2
        rw [hflat, List.length_take] at this
        omega
      have sok : ∀ tr ∈ fb.map (·.2), ∀ z ∈ tr, PyData.strOk z = true := fun tr htr z hz => by
        have : z ∈ ms.take i := by
          rw [← hflat]
          exact List.mem_flatten.mpr ⟨tr, htr, hz⟩
        exact small_ok (hms z (List.mem_of_mem_take this)).2.2
      refine ⟨.ref l, rfl, line_of (show 0 ≤ 1000 by decide), fun le nle => ?_⟩
      have lle : l ≠ le := ne_of_none hl2 nle
      have l3e : l3 ≠ le := ne_of_none h3 nle
      have ple : p ≠ le := ne_of_none hp2 nle
      have hfe : Tiers (upd H3 le (.lst [])) fb := fun b hb' => ⟨by rw [upd_ne (ne_of_none (hfb b hb').1 nle)]; exact (hfb b hb').1, (hfb b hb').2⟩
      have hbe := hb.mut (o := HO.lst []) (hb.free hp2 nle)
      have hl2e : (upd H3 le (.lst [])) l = some (.lst (fb.map fun b => V.ref b.1)) := by rw [upd_ne lle]; exact hl2
      have h3e : (upd H3 le (.lst [])) l3 = some (.lst (ms.map V.str)) := by rw [upd_ne l3e]; exact h3
      have hp2e : (upd H3 le (.lst [])) p = some (.lst y) := by rw [upd_ne ple]; exact hp2
      refine ⟨.list ((fb.map (·.2)).map tyD), .list [], .lst (.of hl2e) (dp_tiers fb hfe), .lst (.of upd_same) .nil, shaped_tiers sok, rfl, ?_⟩
      have hke : le = le := rfl
      generalize upd H3 le (.lst []) = H4 at hfe hbe hl2e h3e hp2e
      have nlH : H l = none := nl
      clear hl2 h3 hp2 hb hfb
      have hl2 := hl2e
      have h3 := h3e
      have hp2 := hp2e
      have hb := hbe
      have hfb := hfe
      by_cases hfb0 : fb = []
      · have hc : (!PyData.eqv (.list ((fb.map (·.2)).map tyD)) (.list [])) = false := by rw [hfb0]; rfl
        rw [hc]
        refine ⟨_, rfl, iteF (iteF ?_)⟩
        refine ⟨.ref l, rfl, .inl ⟨rfl, _, .of hl2⟩, .str wd, rfl, line_of (show 1 ≤ 1000 by decide), fun b nb => ?_⟩
        have nbl : l ≠ b := ne_of_none hl2 nb
        have nb3 : l3 ≠ b := ne_of_none h3 nb
        have nbp : p ≠ b := ne_of_none hp2 nb
        refine ⟨l, _, _, rfl, rfl, by rw [upd_ne nbl]; exact hl2, small1000 (by rw [List.length_map]; omega), _, fb ++ [(b, [wd])], _, rfl, ?_, ?_, ?_, ?_, ?_, ?_, hw.mono (by omega)⟩
        · rw [upd_same, List.map_append]
          rfl
        · intro c hc
          rcases List.mem_append.mp hc with hc | hc
          · obtain ⟨g1, g2⟩ := hfb c hc
            have c1 : c.1 ≠ l := fun e => by rw [e, hl2] at g1; cases g1
            have c2 : c.1 ≠ p := fun e => by rw [e, hp2] at g1; cases g1
            refine ⟨?_, g2⟩
            rw [upd_ne c1]
            exact (upd_ne (ne_of_none (g1) nb)).trans (g1)
          · rw [List.mem_singleton.mp hc]
            exact ⟨by rw [upd_ne nbl.symm, upd_same]; rfl, List.cons_ne_nil _ _⟩
        · rw [List.map_append, List.flatten_append, hflat, take_more hwd]
          rfl
        · rw [upd_ne nl3.symm, upd_ne nb3]
          exact h3
        · exact (hb.mut (hb.free hp2 nb)).mut nlH
        · rw [upd_ne hpl, upd_ne nbp]
          exact hp2
      · obtain ⟨fi, bl, rfl⟩ : ∃ fi bl, fb = fi ++ [bl] := ⟨fb.dropLast, fb.getLast hfb0, (List.dropLast_concat_getLast hfb0).symm⟩
        have hc : (!PyData.eqv (.list (((fi ++ [bl]).map (·.2)).map tyD)) (.list [])) = true := by
          cases fi with
          | nil => rfl
          | cons a r => rfl
        rw [hc]
        refine ⟨_, rfl, iteT ?_⟩
        refine ⟨.ref p, rfl, p, 4, y, _, rfl, hp2, hw, by omega, by decide, size_ok (by decide) (by decide), fun dd yy dd0 dd1 ww => ?_⟩
        have tp : ∀ b ∈ fi ++ [bl], b.1 ≠ p := fun b hb' e => by have := (hfb b hb').1; rw [e, hp2] at this; cases this
        have hfp : Tiers (upd H4 p (.lst yy)) (fi ++ [bl]) := fun b hb' => ⟨by rw [upd_ne (tp b hb')]; exact (hfb b hb').1, (hfb b hb').2⟩
        have hbp := hb.upd (.lst yy)
        have hl2p : (upd H4 p (.lst yy)) l = some (.lst ((fi ++ [bl]).map fun b => V.ref b.1)) := by rw [upd_ne hpl.symm]; exact hl2
        have h3p : (upd H4 p (.lst yy)) l3 = some (.lst (ms.map V.str)) := by rw [upd_ne np3.symm]; exact h3
        have hp2p : (upd H4 p (.lst yy)) p = some (.lst yy) := upd_same
        generalize upd H4 p (.lst yy) = H5 at hfp hbp hl2p h3p hp2p
        clear hl2 h3 hp2 hb hfb
        have hl2 := hl2p
        have h3 := h3p
        have hp2 := hp2p
        have hb := hbp
        have hfb := hfp
        refine ⟨rfl, _, rfl, ?_⟩
        cases decide (V.int dd = V.int 0) with
        | false =>
          refine iteF ?_
          refine ⟨.ref l, rfl, .inl ⟨rfl, _, .of hl2⟩, .str wd, rfl, line_of (show 1 ≤ 1000 by decide), fun b nb => ?_⟩
          have nbl : l ≠ b := ne_of_none hl2 nb
          have nb3 : l3 ≠ b := ne_of_none h3 nb
          have nbp : p ≠ b := ne_of_none hp2 nb
          refine ⟨l, _, _, rfl, rfl, by rw [upd_ne nbl]; exact hl2, small1000 (by rw [List.length_map]; omega), _, (fi ++ [bl]) ++ [(b, [wd])], _, rfl, ?_, ?_, ?_, ?_, ?_, ?_, ww.mono (by omega)⟩
          · rw [upd_same]
            simp
          · intro c hc
            rcases List.mem_append.mp hc with hc | hc
            · obtain ⟨g1, g2⟩ := hfb c hc
              have c1 : c.1 ≠ l := fun e => by rw [e, hl2] at g1; cases g1
              have c2 : c.1 ≠ p := fun e => by rw [e, hp2] at g1; cases g1
              refine ⟨?_, g2⟩
              rw [upd_ne c1]
              exact (upd_ne (ne_of_none (g1) nb)).trans (g1)
            · rw [List.mem_singleton.mp hc]
              exact ⟨by rw [upd_ne nbl.symm, upd_same]; rfl, List.cons_ne_nil _ _⟩
          · rw [List.map_append, List.flatten_append, hflat, take_more hwd]
            rfl
          · rw [upd_ne nl3.symm, upd_ne nb3]
            exact h3
          · exact (hb.mut (hb.free hp2 nb)).mut nlH
          · rw [upd_ne hpl, upd_ne nbp]
            exact hp2
        | true =>
          rw [List.map_append] at hl2
          refine iteT ⟨.ref l, rfl, 1, rfl, l, _, _, .ref bl.1, rfl, rfl, .of hl2, at_last _ _, .str wd, rfl, line_of (show 1 ≤ 1000 by decide), fun b nb => ?_⟩
          obtain ⟨gb, nbe⟩ := hfb bl (List.mem_append_right _ List.mem_cons_self)
          have sb := same_upd (o := HO.tup [V.str wd]) nb
          have lb2 : bl.2.length ≤ 6 := by
            have h1 : ((fi ++ [bl]).map (·.2)).flatten.length = (ms.take i).length := congrArg List.length hflat
            rw [List.map_append, List.flatten_append, List.length_append, List.length_take] at h1
            have h2 : (([bl].map (·.2)).flatten).length = bl.2.length := by simp
            omega
          refine ⟨bl.1, b, bl.2.map V.str, [V.str wd], rfl, rfl, .of (sb _ _ gb), .of upd_same, by simpa using nbe, line_of (by rw [List.length_map]; show bl.2.length + 1 ≤ 1000; omega), fun h => absurd h (List.cons_ne_nil _ _), fun _ b2 nb2 => ?_⟩
          have sb2 := sb.trans (same_upd (o := HO.tup (bl.2.map V.str ++ [V.str wd])) nb2)
          have hq2 : (upd (upd H5 b (.tup [V.str wd])) b2 (.tup (bl.2.map V.str ++ [V.str wd]))) b2 = some (.tup (bl.2.map V.str ++ [V.str wd])) := upd_same
          have hbb : But p H (upd (upd H5 b (.tup [V.str wd])) b2 (.tup (bl.2.map V.str ++ [V.str wd]))) := fun c o hc ho => sb2 c o (hb c o hc ho)
          have hl5 := sb2 _ _ hl2
          have h35 := sb2 _ _ h3
          have hp5 := sb2 _ _ hp2
          have hf5 : ∀ c ∈ fi, (upd (upd H5 b (.tup [V.str wd])) b2 (.tup (bl.2.map V.str ++ [V.str wd]))) c.1 = some (.tup (c.2.map V.str)) ∧ c.2 ≠ [] := fun c hc => ⟨sb2 _ _ (hfb c (List.mem_append_left _ hc)).1, (hfb c (List.mem_append_left _ hc)).2⟩
          generalize upd (upd H5 b (.tup [V.str wd])) b2 (.tup (bl.2.map V.str ++ [V.str wd])) = H6 at hq2 hbb hl5 h35 hp5 hf5
          refine ⟨.ref l, rfl, 1, rfl, l, _, _, fi.length, rfl, rfl, hl5, by rw [List.length_append, List.length_map]; exact ix_last _, ?_⟩
          have cl : ∀ {c : Addr} {xs : List V}, H6 c = some (.tup xs) → c ≠ l := fun h e => by rw [e, hl5] at h; cases h
          refine ⟨_, fi ++ [(b2, bl.2 ++ [wd])], yy, rfl, ?_, ?_, ?_, by rw [upd_ne nl3.symm]; exact h35, hbb.mut nlH, by rw [upd_ne hpl]; exact hp5, ww.mono (by omega)⟩
          · rw [upd_same, List.map_append]
            have e := set_last (fi.map fun b => V.ref b.1) (V.ref bl.1) (V.ref b2)
            rw [List.length_map] at e
            exact congrArg (fun l => some (HO.lst l)) e
          · intro c hc
            rcases List.mem_append.mp hc with hc | hc
            · obtain ⟨g1, g2⟩ := hf5 c hc
              exact ⟨by rw [upd_ne (cl g1)]; exact g1, g2⟩
            · rw [List.mem_singleton.mp hc]
              refine ⟨?_, by simp⟩
              rw [upd_ne (cl hq2), List.map_append]
              exact hq2
          · rw [take_more hwd, ← hflat, List.map_append, List.map_append, List.flatten_append, List.flatten_append]
            simp
    · rintro σ H3 ⟨x3, fb, y, rfl, hl2, hfb, hflat, h3, hb, hp2, hw⟩
      rw [List.length_map, List.take_length] at hflat
      refine ⟨.ref l, rfl, l, _, rfl, .inl ⟨.of hl2, fun u nu => ?_⟩⟩
      have npu : p ≠ u := ne_of_none hp2 nu
      refine q u fb y _ (fun b hb' => ⟨by rw [upd_ne (ne_of_none (hfb b hb').1 nu)]; exact (hfb b hb').1, (hfb b hb').2⟩) ?_ ?_ (hb.mut (hb.free hp2 nu)) (hb.free hp2 nu) upd_same (by rw [upd_ne npu]; exact hp2) (hw.mono (by rw [List.length_map]; omega))
      · rw [hflat]
        exact ((pw.nodup_iff).mpr nd).sublist sub
      · rw [hflat]
        exact fun z hz => pw.mem_iff.mp (sub.subset hz)
end
section
variable {P : Program} {w : World} {K : PySem.W.Frag} {mg : Str → Option Value} {base : Heap}
/-! ### a ballot drawn -/
def sp_law_ballot : Sp := fun vs H Q _ => ∃ (p t : Addr) (zs : List Str) (x : List V) (k : Nat), vs = [.ref p, .ref t] ∧ H p = some (.lst x) ∧ H t = some (.tup (zs.map V.str)) ∧ zs.length ≤ 6 ∧ zs.Nodup ∧ (∀ z ∈ zs, NameOk z) ∧ WellL x k ∧ k ≤ 700000 ∧
  ∀ (u : Addr) (b : Bal) (y : List V) (H' : Hp), BalAt H' u b → b.Ok zs → But p H H' → H u = none → H' p = some (.lst y) → WellL y (k + 40) → Q (.ref u) H'
theorem ok_law_ballot (T : Txt K mg) : FnOk P w K mg base CX0 4 T.f_law_ballot T.fd_law_ballot ["_law_well_here", "_law_options_here"] (sp_law_ballot) := by
  refine T.F_law_ballot.ok sc_law_ballot (fun vs H Q E h => ?_) (fun cdv A outer s H vs Q E hr h => ?_)
  · obtain ⟨p, t, zs, x, k, rfl, _⟩ := h
    rfl
  · obtain ⟨p, t, zs, x, k, rfl, hp, ht, hn, nd, ok, hx, hk, q⟩ := h
    refine ⟨_, (pss_cons
 (ps_set (i := 2) sc_law_ballot.nd rfl (Or.inl rfl) (pe_call (ok_law_draw T) (hr.mono (by decide)) (by rfl) T.g_law_draw T.F_law_draw.kp T.b_law_draw .nil pass0 (pa_cons (pv 0) (pa_cons pe_int pa_nil))))
 (pss_cons
 (ps_set (i := 3) sc_law_ballot.nd rfl (Or.inl rfl) (pe_slice sl_list (pe_call (ok_law_shuffled T) (hr.mono (by decide)) (by rfl) T.g_law_shuffled T.F_law_shuffled.kp T.b_law_shuffled .nil pass0 (pa_cons (pv 0) (pa_cons (pv 1) pa_nil))) po_none (po_some (pe_call (ok_law_draw T) (hr.mono (by decide)) (by rfl) T.g_law_draw T.F_law_draw.kp T.b_law_draw .nil pass0 (pa_cons (pv 0) (pa_cons (pe_op op_add (pe_callB call_len_seq (by rfl) T.z_len (by decide +kernel) (pa_cons (pv 1) pa_nil)) pe_int) pa_nil))))))
 (pss_cons
 (ps_if (pt_cmpR op_eq (pv 2) pe_int (nomark _))
 (pss_one
 (ps_ret (pe_tup (pa_cons pe_str (pa_cons (pe_callTy call_tuple_of (by rfl) T.z_tuple (by decide +kernel) (pa_cons (pv 3) pa_nil)) pa_nil)))))
 pss_nil)
 (pss_cons
 (ps_if (pt_cmpR op_eq (pv 2) pe_int (nomark _))
 (pss_one
 (ps_ret (pe_tup (pa_cons pe_str (pa_cons (pe_callTy call_tuple_of (by rfl) T.z_tuple (by decide +kernel) (pa_cons (pe_lc (own := [("_law_word", 4)]) (g := gName 4) (tt := tYes) rfl sc_law_ballot.nd (pi_list (pv 3)) (blkOk_by (own := [("_law_word", 4)]) (N := ["_law_well_here", "_law_options_here", "_law_way", "_law_some", "_law_word"]) (sc := (defScope s_law_ballot)) (by decide +kernel)) (fun _ _ _ _ _ => pg_name (i := 4) sc_law_ballot.nd rfl (Or.inl rfl)) (fun _ _ _ _ _ => pts_nil) (fun _ _ _ _ _ => (pe_tup (pa_cons (pv 4) (pa_cons (pe_call (ok_law_draw T) (hr.mono (by decide)) (by rfl) T.g_law_draw T.F_law_draw.kp T.b_law_draw .nil pass0 (pa_cons (pv 0) (pa_cons pe_int pa_nil))) pa_nil))))) pa_nil)) pa_nil)))))
 pss_nil)
 (pss_one
 (ps_ret (pe_tup (pa_cons pe_str (pa_cons (pe_call (ok_law_tiers_drawn T) (hr.mono (by decide)) (by rfl) T.g_law_tiers_drawn T.F_law_tiers_drawn.kp T.b_law_tiers_drawn .nil pass0 (pa_cons (pv 0) (pa_cons (pv 1) pa_nil))) pa_nil))))))))), ?_⟩
    have htp : t ≠ p := fun e => by rw [e, hp] at ht; cases ht
    refine ⟨.ref p, rfl, p, 6, x, k, rfl, hp, hx, by omega, by decide, size_ok (by decide) (by decide), fun way x1 a0 a1 w1 => ?_⟩
    have ht1 : (upd H p (.lst x1)) t = some (.tup (zs.map V.str)) := by rw [upd_ne htp]; exact ht
    refine ⟨.ref p, rfl, .ref t, rfl, p, t, zs.map V.str, x1, _, rfl, upd_same, .of ht1, by rw [List.length_map]; exact hn, w1, by omega, fun l1 ys y1 H1 pm b1 n1 hl1 hp1 w2 => ?_⟩
    obtain ⟨ws, rfl, pw⟩ := perm_strs pm
    have ht2 : H1 t = some (.tup (zs.map V.str)) := b1 t _ htp ht1
    have bH1 : But p H H1 := ((But.refl p H).upd _).trans b1
    refine ⟨.ref p, rfl, .ref t, rfl, t, _, rfl, .inr (.of ht2), _, _, rfl, rfl, p, _, y1, _, rfl, hp1, w2, by omega, by rw [List.length_map]; omega, size_ok (by rw [List.length_map]; omega) (by rw [List.length_map]; omega), fun e y2 e0 e1 w3 => ?_⟩
    have l1p : l1 ≠ p := fun e => by rw [e, upd_same] at n1; cases n1
    refine ⟨e, rfl, l1, _, rfl, .of (by rw [upd_ne l1p]; exact hl1), fun l2 n2 => ?_⟩
    obtain ⟨ms, em, sub⟩ := cut_strs ws none (some e)
    rw [em]
    have msub : ∀ z ∈ ms, z ∈ zs := fun z hz => pw.mem_iff.mp (sub.subset hz)
    have mnd : ms.Nodup := ((pw.nodup_iff).mpr nd).sublist sub
    have lms : ms.length ≤ 6 := by
      have := sub.length_le
      have := pw.length_eq
      omega
    have hpm : (upd H1 p (.lst y2)) p = some (.lst y2) := upd_same
    have p2 : p ≠ l2 := ne_of_none hpm n2
    have htm : (upd H1 p (.lst y2)) t = some (.tup (zs.map V.str)) := by rw [upd_ne htp]; exact ht2
    have t2 : t ≠ l2 := ne_of_none htm n2
    have bH2 : But p H (upd (upd H1 p (.lst y2)) l2 (.lst (ms.map V.str))) := (bH1.upd _).mut ((bH1.upd _).free hpm n2)
    have hp2 : (upd (upd H1 p (.lst y2)) l2 (.lst (ms.map V.str))) p = some (.lst y2) := by rw [upd_ne p2]; exact hpm
    have ht3 : (upd (upd H1 p (.lst y2)) l2 (.lst (ms.map V.str))) t = some (.tup (zs.map V.str)) := by rw [upd_ne t2]; exact htm
    have hl2 : (upd (upd H1 p (.lst y2)) l2 (.lst (ms.map V.str))) l2 = some (.lst (ms.map V.str)) := upd_same
    generalize upd (upd H1 p (.lst y2)) l2 (.lst (ms.map V.str)) = H2 at bH2 hp2 ht3 hl2
    refine ⟨.int way, rfl, rfl, _, rfl, ?_⟩
    cases decide (V.int way = V.int 4) with
    | true =>
      refine iteT ⟨.ref l2, rfl, l2, _, rfl, .inl ⟨.of hl2, fun u nu => ⟨line_of (show 2 ≤ 1000 by decide), fun v nv => ?_⟩⟩⟩
      have pu := ne_of_none hp2 nu
      have bu := bH2.mut (o := HO.tup (ms.map V.str)) (bH2.free hp2 nu)
      have hpu : (upd H2 u (.tup (ms.map V.str))) p = some (.lst y2) := by rw [upd_ne pu]; exact hp2
      refine q v (.lets ms) y2 _ ⟨u, upd_same, ?_⟩ ⟨mnd, msub⟩ (bu.mut (bu.free hpu nv)) (bu.free hpu nv) (by rw [upd_ne (ne_of_none hpu nv)]; exact hpu) (w3.mono (by omega))
      rw [upd_ne (ne_of_none upd_same nv), upd_same]
    | false =>
      refine iteF ⟨.int way, rfl, rfl, _, rfl, ?_⟩
      cases decide (V.int way = V.int 5) with
      | true =>
        refine iteT ⟨.ref l2, rfl, l2, rfl, ⟨_, .of hl2⟩, fun D nD => ?_⟩
        have pD := ne_of_none hp2 nD
        have l2D := ne_of_none hl2 nD
        have nDH := bH2.free hp2 nD
        refine lc_list (K := K) (a := l2) (xs := ms.map V.str) (fun i H' => ∃ (bs : List (Addr × (Str × Int))) (y : List V), H' D = some (.lst (bs.map fun b => V.ref b.1)) ∧ (∀ b ∈ bs, H' b.1 = some (.tup [.str b.2.1, .int b.2.2])) ∧
            bs.map (·.2.1) = ms.take i ∧ (∀ b ∈ bs, 0 ≤ b.2.2 ∧ b.2.2 ≤ 9) ∧ But p H H' ∧ H' p = some (.lst y) ∧ WellL y (k + 20 + i) ∧ H' l2 = some (.lst (ms.map V.str)))
          ⟨[], y2, upd_same, fun _ h => (by cases h), rfl, fun _ h => (by cases h), bH2.mut nDH, by rw [upd_ne pD]; exact hp2, w3.mono (by omega), by rw [upd_ne l2D]; exact hl2⟩ (fun _ _ _ h => by obtain ⟨_, _, _, _, _, _, _, _, _, z⟩ := h; exact .of z) ?_ ?_
        · rintro i v9 H3 hi ⟨bs, y, hD, hbs, hm, hr9, hb, hp3, hw, hl3⟩
          obtain ⟨wd, hwd, rfl⟩ : ∃ wd, ms[i]? = some wd ∧ v9 = V.str wd := by
            rw [List.getElem?_map] at hi
            cases e : ms[i]? with
            | none => rw [e] at hi; cases hi
            | some b => rw [e] at hi; exact ⟨b, rfl, (Option.some.inj hi).symm⟩
          have il : i < ms.length := (List.getElem?_eq_some_iff.mp hwd).1
          have lbs : bs.length ≤ i := by
            have := congrArg List.length hm
            rw [List.length_map, List.length_take] at this
            omega
          refine ⟨rfl, .str wd, rfl, .ref p, rfl, p, 10, y, _, rfl, hp3, hw, by omega, by decide, size_ok (by decide) (by decide), fun d y4 d0 d1 hw4 => ⟨line_of (show 2 ≤ 1000 by decide), fun b nb => ?_⟩⟩
          have tp : ∀ c ∈ bs, c.1 ≠ p := fun c hc e => by have := hbs c hc; rw [e, hp3] at this; cases this
          have tD : ∀ c ∈ bs, c.1 ≠ D := fun c hc e => by have := hbs c hc; rw [e, hD] at this; cases this
          have hbs4 : ∀ c ∈ bs, (upd H3 p (.lst y4)) c.1 = some (.tup [.str c.2.1, .int c.2.2]) := fun c hc => by rw [upd_ne (tp c hc)]; exact hbs c hc
          have hD4 : (upd H3 p (.lst y4)) D = some (.lst (bs.map fun b => V.ref b.1)) := by rw [upd_ne pD.symm]; exact hD
          have hp4 : (upd H3 p (.lst y4)) p = some (.lst y4) := upd_same
          have hl4 : (upd H3 p (.lst y4)) l2 = some (.lst (ms.map V.str)) := by rw [upd_ne p2.symm]; exact hl3
          have hb4 := hb.upd (.lst y4)
          generalize upd H3 p (.lst y4) = H4 at nb hbs4 hD4 hp4 hl4 hb4
          have Db := ne_of_none hD4 nb
          refine ⟨bs.map fun b => V.ref b.1, by rw [upd_ne Db]; exact hD4, small1000 (by rw [List.length_map]; omega), bs ++ [(b, (wd, d))], y4, ?_, ?_, ?_, ?_, (hb4.mut (hb4.free hp4 nb)).mut nDH, by rw [upd_ne pD, upd_ne (ne_of_none hp4 nb)]; exact hp4, hw4.mono (by omega), by rw [upd_ne l2D, upd_ne (ne_of_none hl4 nb)]; exact hl4⟩
          · rw [upd_same, List.map_append]
            rfl
          · intro c hc
            rcases List.mem_append.mp hc with hc | hc
            · rw [upd_ne (tD c hc), upd_ne (ne_of_none (hbs4 c hc) nb)]
              exact hbs4 c hc
            · rw [List.mem_singleton.mp hc, upd_ne Db.symm, upd_same]
          · rw [List.map_append, hm, take_more hwd]
            rfl
          · intro c hc
            rcases List.mem_append.mp hc with hc | hc
            · exact hr9 c hc
            · rw [List.mem_singleton.mp hc]
              exact ⟨d0, by show d ≤ 9; omega⟩
        · rintro H3 ⟨bs, y, hD, hbs, hm, hr9, hb, hp3, hw, hl3⟩
          rw [List.length_map, List.take_length] at hm
          refine ⟨D, _, rfl, .inl ⟨.of hD, fun u nu => ⟨line_of (show 2 ≤ 1000 by decide), fun v nv => ?_⟩⟩⟩
          have pu := ne_of_none hp3 nu
          have bu := hb.mut (o := HO.tup (bs.map fun b => V.ref b.1)) (hb.free hp3 nu)
          have hpu : (upd H3 u (.tup (bs.map fun b => V.ref b.1))) p = some (.lst y) := by rw [upd_ne pu]; exact hp3
          have hbu : ∀ c ∈ bs, (upd H3 u (.tup (bs.map fun b => V.ref b.1))) c.1 = some (.tup [.str c.2.1, .int c.2.2]) := fun c hc => by rw [upd_ne (ne_of_none (hbs c hc) nu)]; exact hbs c hc
          have hm2 : (bs.map (·.2)).map (·.1) = ms := by rw [List.map_map]; exact hm
          refine q v (.marks (bs.map (·.2))) y _ ⟨u, bs, upd_same, by rw [upd_ne (ne_of_none upd_same nv), upd_same], fun c hc => by rw [upd_ne (ne_of_none (hbu c hc) nv)]; exact hbu c hc, rfl⟩ ⟨by rw [hm2]; exact mnd, ?_, ?_⟩ (bu.mut (bu.free hpu nv)) (bu.free hpu nv) (by rw [upd_ne (ne_of_none hpu nv)]; exact hpu) (hw.mono (by rw [List.length_map]; omega))
          · intro m hm'
            exact msub _ (by rw [← hm2]; exact List.mem_map.mpr ⟨m, hm', rfl⟩)
          · intro m hm'
            obtain ⟨c, hc, rfl⟩ := List.mem_map.mp hm'
            exact hr9 c hc
      | false =>
        refine iteF ⟨.ref p, rfl, .ref t, rfl, p, t, zs, y2, _, rfl, hp2, ht3, hn, nd, ok, w3, by omega, fun u bs y5 H5 tb bnd bsub b5 nu hu hp5 w5 => ⟨line_of (show 2 ≤ 1000 by decide), fun v nv => ?_⟩⟩
        have bu : But p H H5 := bH2.trans b5
        refine q v (.order (bs.map (·.2))) y5 _ ⟨u, bs, upd_same, by rw [upd_ne (ne_of_none hu nv)]; exact hu, fun c hc => ⟨by rw [upd_ne (ne_of_none (tb c hc).1 nv)]; exact (tb c hc).1, (tb c hc).2⟩, rfl⟩ ⟨bnd, bsub, ?_⟩ (bu.mut (bu.free hp5 nv)) (bu.free hp5 nv) (by rw [upd_ne (ne_of_none hp5 nv)]; exact hp5) (w5.mono (by omega))
        intro t ht'
        obtain ⟨c, hc, rfl⟩ := List.mem_map.mp ht'
        exact (tb c hc).2
end
section
variable {P : Program} {w : World} {K : PySem.W.Frag} {mg : Str → Option Value} {base : Heap}
/-! ### rows drawn -/
def sp_law_rows : Sp := fun vs H Q _ => ∃ (p t : Addr) (n : Int) (zs : List Str) (x : List V) (k : Nat), vs = [.ref p, .ref t, .int n] ∧ H p = some (.lst x) ∧ H t = some (.tup (zs.map V.str)) ∧ zs.length ≤ 6 ∧ zs.Nodup ∧ (∀ z ∈ zs, NameOk z) ∧ 0 ≤ n ∧ n ≤ 8 ∧ WellL x k ∧ k ≤ 600000 ∧
  ∀ (u : Addr) (rows : List (Bal × Int)) (y : List V) (H' : Hp), RowsAt H' u rows → RowsOk zs n.toNat rows → But p H H' → H u = none → H' p = some (.lst y) → WellL y (k + 400) → Q (.ref u) H'
theorem ok_law_rows (T : Txt K mg) : FnOk P w K mg base CX0 5 T.f_law_rows T.fd_law_rows ["_law_well_here", "_law_options_here", "_law_size"] (sp_law_rows) := by
  refine T.F_law_rows.ok sc_law_rows (fun vs H Q E h => ?_) (fun cdv A outer s H vs Q E hr h => ?_)
  · obtain ⟨p, t, n, zs, x, k, rfl, _⟩ := h
    rfl
  · obtain ⟨p, t, n, zs, x, k, rfl, hp, ht, hn, nd, ok, n0, n8, hx, hk, q⟩ := h
    refine ⟨_, (pss_cons
 (ps_set (i := 3) sc_law_rows.nd rfl (Or.inl rfl) (pe_lst pa_nil))
 (pss_cons
 (ps_for PassesOwn.never rfl (pi_range1 rfl T.z_range (pa_cons (pe_call (ok_law_draw T) (hr.mono (by decide)) (by rfl) T.g_law_draw T.F_law_draw.kp T.b_law_draw .nil pass0 (pa_cons (pv 0) (pa_cons (pe_op op_add (pv 2) pe_int) pa_nil))) pa_nil)) (pg_name (i := 4) sc_law_rows.nd rfl (Or.inl rfl))
 (pss_cons
 (ps_set (i := 5) sc_law_rows.nd rfl (Or.inl rfl) (pe_ix ix_list (pe_lst (pa_cons (pe_op op_add pe_int (pe_call (ok_law_draw T) (hr.mono (by decide)) (by rfl) T.g_law_draw T.F_law_draw.kp T.b_law_draw .nil pass0 (pa_cons (pv 0) (pa_cons pe_int pa_nil)))) (pa_cons (pe_op op_add pe_int (pe_call (ok_law_draw T) (hr.mono (by decide)) (by rfl) T.g_law_draw T.F_law_draw.kp T.b_law_draw .nil pass0 (pa_cons (pv 0) (pa_cons (pe_op op_pow pe_int pe_int) pa_nil)))) pa_nil))) (pe_callTy call_int1 (by rfl) T.z_int (by decide +kernel) (pa_cons (pe_cmpR op_eq (pe_call (ok_law_draw T) (hr.mono (by decide)) (by rfl) T.g_law_draw T.F_law_draw.kp T.b_law_draw .nil pass0 (pa_cons (pv 0) (pa_cons pe_int pa_nil))) pe_int (nomark _)) pa_nil)) (fun _ _ => rfl)))
 (pss_one
 (ps_expr (pe_bm PySem.F.plainAttrs_list PySem.F.slot_list_append PySem.F.type_list_append mt_append (pv 3) (pa_cons (pe_tup (pa_cons (pe_call (ok_law_ballot T) (hr.mono (by decide)) (by rfl) T.g_law_ballot T.F_law_ballot.kp T.b_law_ballot .nil pass0 (pa_cons (pv 0) (pa_cons (pv 1) pa_nil))) (pa_cons (pv 5) pa_nil))) pa_nil))))))
 (pss_one
 (ps_ret (pe_callTy call_tuple_of (by rfl) T.z_tuple (by decide +kernel) (pa_cons (pv 3) pa_nil)))))), ?_⟩
    have htp : t ≠ p := fun e => by rw [e, hp] at ht; cases ht
    refine ⟨line_of (show 0 ≤ 1000 by decide), fun l nl => ?_⟩
    have hpl := ne_of_none hp nl
    have htl := ne_of_none ht nl
    refine ⟨.ref p, rfl, .int n, rfl, _, _, rfl, rfl, p, _, x, k, rfl, by rw [upd_ne hpl]; exact hp, hx, by omega, by omega, size_ok (by omega) (by omega), fun m x1 m0 m1 w1 => ?_⟩
    refine ⟨m, rfl, by omega, by omega, for_range (fun i σ H' => ∃ (x4 x5 : Option V) (as : List (Addr × Addr × (Bal × Int))) (y : List V), σ = [some (.ref p), some (.ref t), some (.int n), some (.ref l), x4, x5] ∧ H' l = some (.lst (as.map fun a => V.ref a.1)) ∧
        (∀ a ∈ as, H' a.1 = some (.tup [.ref a.2.1, .int a.2.2.2]) ∧ BalAt H' a.2.1 a.2.2.1) ∧ (∀ a ∈ as, a.2.2.1.Ok zs ∧ 1 ≤ a.2.2.2 ∧ a.2.2.2 ≤ 1000000) ∧ as.length = i ∧ But p H H' ∧ H' p = some (.lst y) ∧ WellL y (k + 1 + 43 * i) ∧ H' t = some (.tup (zs.map V.str)))
      ⟨none, none, [], x1, rfl, by rw [upd_ne hpl.symm, upd_same]; rfl, fun _ h => (by cases h), fun _ h => (by cases h), rfl, ((But.refl p H).mut nl).upd _, upd_same, w1, by rw [upd_ne htp, upd_ne htl]; exact ht⟩ ?_ ?_⟩
    · rintro i σ H1 hi ⟨x4, x5, as, y, rfl, hl, has, hok, la, hb, hp1, hw, ht1⟩
      have hi8 : i < 9 := by omega
      refine ⟨.ref p, rfl, p, 4, y, _, rfl, hp1, hw, by omega, by decide, size_ok (by decide) (by decide), fun c1 y1 c10 c11 w1 => ?_⟩
      refine ⟨1, c1, rfl, rfl, .ref p, rfl, 10, 6, rfl, rfl, ⟨by decide, by decide, by decide⟩, p, _, y1, _, rfl, upd_same, w1, by omega, by decide +kernel, by decide +kernel, fun c2 y2 c20 c21 w2 => ?_⟩
      rw [mill] at c21
      refine ⟨1, c2, rfl, rfl, line_of (show 2 ≤ 1000 by decide), fun l1 n1 => ?_⟩
      rw [upd_upd] at n1 ⊢
      have hp1' : (upd H1 p (.lst y2)) p = some (.lst y2) := upd_same
      have pl1 := ne_of_none hp1' n1
      refine ⟨.ref p, rfl, p, 8, y2, _, rfl, by rw [upd_ne pl1]; exact hp1', w2, by omega, by decide, size_ok (by decide) (by decide), fun c3 y3 c30 c31 w3 => ?_⟩
      obtain ⟨ct, hct, t1, t2⟩ : ∃ ct : Int, (if decide (V.int c3 = V.int 7) = true then V.int (1 + c2) else V.int (1 + c1)) = V.int ct ∧ 1 ≤ ct ∧ ct ≤ 1000000 := by
        cases decide (V.int c3 = V.int 7) with
        | true => exact ⟨_, rfl, by omega, by omega⟩
        | false => exact ⟨_, rfl, by omega, by omega⟩
      refine ⟨rfl, .inr ⟨_, rfl, l1, _, _, _, rfl, rfl, .of (by rw [upd_ne pl1.symm, upd_same]), (two_of _ _ _).trans (congrArg some hct), ?_⟩⟩
      have k1 : TK H1 (upd (upd (upd H1 p (.lst y2)) l1 (.lst [V.int (1 + c1), V.int (1 + c2)])) p (.lst y3)) := ((TK.lst hp1).trans (TK.new n1)).trans (TK.lst (by rw [upd_ne pl1]; exact hp1'))
      have hbX : But p H (upd (upd (upd H1 p (.lst y2)) l1 (.lst [V.int (1 + c1), V.int (1 + c2)])) p (.lst y3)) := ((hb.upd _).mut ((hb.upd _).free hp1' n1)).upd _
      have hlX : (upd (upd (upd H1 p (.lst y2)) l1 (.lst [V.int (1 + c1), V.int (1 + c2)])) p (.lst y3)) l = some (.lst (as.map fun a => V.ref a.1)) := by
        have h2 : (upd H1 p (.lst y2)) l = some (.lst (as.map fun a => V.ref a.1)) := by rw [upd_ne hpl.symm]; exact hl
        rw [upd_ne hpl.symm, upd_ne (ne_of_none h2 n1)]
        exact h2
      have hpX : (upd (upd (upd H1 p (.lst y2)) l1 (.lst [V.int (1 + c1), V.int (1 + c2)])) p (.lst y3)) p = some (.lst y3) := upd_same
      generalize upd (upd (upd H1 p (.lst y2)) l1 (.lst [V.int (1 + c1), V.int (1 + c2)])) p (.lst y3) = H2 at k1 hbX hlX hpX
      refine ⟨.ref l, rfl, .inl ⟨rfl, _, .of hlX⟩, .ref p, rfl, .ref t, rfl, p, t, zs, y3, _, rfl, hpX, k1 _ _ ht1, hn, nd, ok, w3, by omega, fun u b y5 H5 hbal hbok b5 nu hp5 w5 => ?_⟩
      refine ⟨.int ct, rfl, line_of (show 2 ≤ 1000 by decide), fun c nc => ?_⟩
      have k2 : TK H1 (upd H5 c (.tup [.ref u, .int ct])) := (k1.trans (b5.tups hpX)).trans (TK.new nc)
      have hb5 : But p H H5 := hbX.trans b5
      have hl5 : H5 l = some (.lst (as.map fun a => V.ref a.1)) := b5 l _ hpl.symm hlX
      have lc := ne_of_none hl5 nc
      have hl6 : (upd H5 c (.tup [.ref u, .int ct])) l = some (.lst (as.map fun a => V.ref a.1)) := by rw [upd_ne lc]; exact hl5
      have k3 : TK (upd H5 c (.tup [.ref u, .int ct])) (upd (upd H5 c (.tup [.ref u, .int ct])) l (.lst ((as.map fun a => V.ref a.1) ++ [V.ref c]))) := TK.lst hl6
      refine ⟨l, _, _, rfl, rfl, hl6, small1000 (by rw [List.length_map]; omega), _, _, as ++ [(c, u, (b, ct))], y5, rfl, ?_, ?_, ?_, by rw [List.length_append, la]; rfl, (hb5.mut (hb5.free hp5 nc)).mut nl, by rw [upd_ne hpl, upd_ne (ne_of_none hp5 nc)]; exact hp5, w5.mono (by omega), (k2.trans k3) _ _ ht1⟩
      · rw [upd_same, List.map_append]
        rfl
      · intro a ha
        rcases List.mem_append.mp ha with ha | ha
        · exact ⟨(k2.trans k3) _ _ (has a ha).1, (has a ha).2.keep (k2.trans k3)⟩
        · rw [List.mem_singleton.mp ha]
          exact ⟨k3 _ _ upd_same, (hbal.keep (TK.new nc)).keep k3⟩
      · intro a ha
        rcases List.mem_append.mp ha with ha | ha
        · exact hok a ha
        · rw [List.mem_singleton.mp ha]
          exact ⟨hbok, t1, t2⟩
    · rintro σ H1 ⟨x4, x5, as, y, rfl, hl, has, hok, la, hb, hp1, hw, ht1⟩
      refine ⟨.ref l, rfl, l, _, rfl, .inl ⟨.of hl, fun u nu => ?_⟩⟩
      refine q u (as.map (·.2.2)) y _ ⟨as, upd_same, fun a ha => ⟨TK.new nu _ _ (has a ha).1, (has a ha).2.keep (TK.new nu)⟩, rfl⟩ ⟨by rw [List.length_map]; omega, ?_⟩ (hb.mut (hb.free hp1 nu)) (hb.free hp1 nu) (by rw [upd_ne (ne_of_none hp1 nu)]; exact hp1) (hw.mono (by omega))
      intro r hr'
      obtain ⟨a, ha, rfl⟩ := List.mem_map.mp hr'
      exact hok a ha
end
/-! ### what stands apart from the well -/
/-- all that is tracked, but p -/
def hide (p : Addr) (H : Hp) : Hp := fun a => if a = p then none else H a
theorem hide_ne {p a : Addr} {H : Hp} (h : a ≠ p) : hide p H a = H a := if_neg h
theorem hide_at {p : Addr} {H : Hp} : hide p H p = none := if_pos rfl
theorem hide_sub (p : Addr) (H : Hp) : Same (hide p H) H := fun b o h => by
  by_cases e : b = p
  · rw [e, hide_at] at h
    cases h
  · rw [hide_ne e] at h
    exact h
theorem But.hid {p : Addr} {H H' : Hp} (b : But p H H') : Same (hide p H) (hide p H') := fun a o h => by
  by_cases e : a = p
  · rw [e, hide_at] at h
    cases h
  · rw [hide_ne e] at h ⊢
    exact b a o e h
theorem hid_but {p : Addr} {H H' : Hp} (s : Same (hide p H) (hide p H')) : But p H H' := fun a o e h => by
  have := s a o (by rw [hide_ne e]; exact h)
  rw [hide_ne e] at this
  exact this
theorem hide_upd {p : Addr} {H : Hp} {o : HO} : hide p (upd H p o) = hide p H := by
  funext a
  by_cases e : a = p
  · rw [e, hide_at, hide_at]
  · rw [hide_ne e, hide_ne e, upd_ne e]
theorem hid_same {p : Addr} {H H' : Hp} (s : Same H H') : Same (hide p H) (hide p H') := But.hid fun a o _ h => s a o h
theorem hid_new {p a : Addr} {H : Hp} {o u : HO} (hp : H p = some o) (n : H a = none) (h : H' a = some u) : hide p H' a = some u := by
  rw [hide_ne (fun e => by rw [e, hp] at n; cases n)]
  exact h
theorem hid_tup {p a : Addr} {H : Hp} {x : List V} {xs : List V} (hp : H p = some (.lst x)) (h : H a = some (.tup xs)) : hide p H a = some (.tup xs) := by
  rw [hide_ne (fun e => by rw [e, hp] at h; cases h)]
  exact h
theorem slX_of {K : PySem.W.Frag} {H : Hp} {a : Addr} {xs : List V} {lo hi : Option Int} {Q : VK} (h : H a = some (.tup xs)) (c : ∀ (s : Addr) (H' : Hp), H' s = some (.tup (cutV xs lo hi)) → Same H H' → Q (.ref s) H') : rSlA K (.ref a) lo hi H Q := by
  refine ⟨a, xs, rfl, .of h, fun e => c a H ?_ (Same.refl _), fun _ s ns => c s _ upd_same (same_upd ns)⟩
  have e2 : cutV xs lo hi = xs := by
    unfold cutV
    rw [e.1, e.2, List.drop_zero, Nat.sub_zero, List.take_length]
  rw [e2]
  exact h
theorem catA_of {K : PySem.W.Frag} {H : Hp} {a b : Addr} {xs ys : List V} {Q : VK} (ha : H a = some (.tup xs)) (hb : H b = some (.tup ys)) (hz : xs.length + ys.length ≤ 1000) (c : ∀ (s : Addr) (H' : Hp), H' s = some (.tup (xs ++ ys)) → Same H H' → Q (.ref s) H') : rCatA K (.ref a) (.ref b) H Q := by
  refine ⟨a, b, xs, ys, rfl, rfl, .of ha, .of hb, line_of hz, fun e => ?_, fun _ e => ?_, fun _ _ s ns => c s _ upd_same (same_upd ns)⟩
  · refine c b H ?_ (Same.refl _)
    rw [e]
    exact hb
  · refine c a H ?_ (Same.refl _)
    rw [e, List.append_nil]
    exact ha
theorem cut_from {xs : List V} {k : Nat} (h : k ≤ xs.length) : cutV xs (some (k : Int)) none = xs.drop k := by
  unfold cutV
  rw [HT.sIx_nat, HT.sIx_none, Nat.min_eq_left h, List.take_of_length_le (by rw [List.length_drop]; exact Nat.le_refl _)]
theorem cut_to {xs : List V} {k : Nat} (h : k ≤ xs.length) : cutV xs none (some (k : Int)) = xs.take k := by
  unfold cutV
  rw [HT.sIx_nat, HT.sIx_none, Nat.min_eq_left h, List.drop_zero, Nat.sub_zero]
/-- as H stood, but for the well p, which holds y -/
def On (p : Addr) (H : Hp) (y : List V) (Hc : Hp) : Prop := Same (hide p H) (hide p Hc) ∧ Hc p = some (.lst y)
theorem On.start {p : Addr} {H : Hp} {y : List V} (h : H p = some (.lst y)) : On p H y H := ⟨Same.refl _, h⟩
theorem On.same {p : Addr} {H Hc H' : Hp} {y : List V} (o : On p H y Hc) (s : Same Hc H') : On p H y H' := ⟨o.1.trans (hid_same s), s _ _ o.2⟩
theorem On.new {p q : Addr} {H Hc : Hp} {y : List V} {u : HO} (o : On p H y Hc) (n : Hc q = none) : On p H y (upd Hc q u) := o.same (same_upd n)
theorem On.put {p : Addr} {H Hc : Hp} {y z : List V} (o : On p H y Hc) : On p H z (upd Hc p (.lst z)) := ⟨by rw [hide_upd]; exact o.1, upd_same⟩
theorem On.trans {p : Addr} {H H1 H2 : Hp} {y z : List V} (o : On p H y H1) (c : On p H1 z H2) : On p H z H2 := ⟨o.1.trans c.1, c.2⟩
theorem On.hid {p q : Addr} {H Hc : Hp} {y : List V} {u : HO} (o : On p H y Hc) (n : Hc q = none) : hide p (upd Hc q u) q = some u := hid_new o.2 n upd_same
theorem On.free {p q : Addr} {H Hc : Hp} {y : List V} {u : HO} (o : On p H y Hc) (h : H p = some u) (n : Hc q = none) : H q = none := by
  have e : q ≠ p := fun z => by rw [z, o.2] at n; cases n
  cases g : H q with
  | none => rfl
  | some b =>
    have z := hide_sub p Hc q b (o.1 q b (by rw [hide_ne e]; exact g))
    rw [z] at n
    cases n
/-- a list made meanwhile is changed -/
theorem On.lstD {p D : Addr} {H Hc : Hp} {y : List V} {o : HO} (h : On p H y Hc) (n : H D = none) (d : D ≠ p) : On p H y (upd Hc D o) := by
  refine ⟨fun a u g => ?_, by rw [upd_ne d.symm]; exact h.2⟩
  have ap : a ≠ p := fun e => by rw [e, hide_at] at g; cases g
  have z := h.1 a u g
  rw [hide_ne ap] at z g ⊢
  rw [upd_ne (ne_of_none g n)]
  exact z
theorem hide_put {p q : Addr} {H : Hp} {o : HO} (h : q ≠ p) : hide p (upd H q o) = upd (hide p H) q o := by
  funext a
  by_cases e : a = p
  · rw [e, hide_at, upd_ne h.symm, hide_at]
  · rw [hide_ne e]
    by_cases e3 : a = q
    · rw [e3, upd_same, upd_same]
    · rw [upd_ne e3, upd_ne e3, hide_ne e]
theorem puts {p : Addr} {G Hc : Hp} {o : HO} (s : Same G (hide p Hc)) : Same G (hide p (upd Hc p o)) := by
  rw [hide_upd]
  exact s
theorem item_map {α : Type} {f : α → V} {l : List α} {i : Nat} {v : V} (h : (l.map f)[i]? = some v) : ∃ a, l[i]? = some a ∧ v = f a := by
  rw [List.getElem?_map] at h
  cases e : l[i]? with
  | none => rw [e] at h; cases h
  | some a => rw [e] at h; exact ⟨a, rfl, (Option.some.inj h).symm⟩
theorem cut_next {xs : List V} {k : Nat} (h : k + 1 ≤ xs.length) : cutV xs (some ((k : Int) + 1)) none = xs.drop (k + 1) := cut_from (k := k + 1) h
section
variable {P : Program} {w : World} {K : PySem.W.Frag} {mg : Str → Option Value} {base : Heap}
def sp_law_one : Sp := fun vs H Q _ => ∃ (p q : Addr) (x xs : List V) (k : Nat), vs = [.ref p, .ref q] ∧ H p = some (.lst x) ∧ (hide p H q = some (.lst xs) ∨ hide p H q = some (.tup xs)) ∧ xs ≠ [] ∧ xs.length ≤ 1000 ∧ WellL x k ∧ k ≤ 900000 ∧
  ∀ (i : Nat) (v : V) (y : List V), xs[i]? = some v → WellL y (k + 1) → Q v (upd H p (.lst y))
theorem ok_law_one (T : Txt K mg) : FnOk P w K mg base CX0 2 T.f_law_one T.fd_law_one ["_law_well_here", "_law_some"] sp_law_one := by
  refine T.F_law_one.ok sc_law_one (fun vs H Q E h => ?_) (fun cdv A outer s H vs Q E hr h => ?_)
  · obtain ⟨p, q, x, xs, k, rfl, _⟩ := h
    rfl
  · obtain ⟨p, q, x, xs, k, rfl, hp, hq, hne, hl, wx, hk, c⟩ := h
    refine ⟨_, (pss_one
 (ps_ret (pe_ix (ix_or ix_list ix_tup) (pv 1) (pe_call (ok_law_draw T) (hr.mono (by decide)) (by rfl) T.g_law_draw T.F_law_draw.kp T.b_law_draw .nil pass0 (pa_cons (pv 0) (pa_cons (pe_callB call_len_seq (by rfl) T.z_len (by decide +kernel) (pa_cons (pv 1) pa_nil)) pa_nil))) (fun _ _ => rfl)))), ?_⟩
    have pos : 0 < xs.length := List.length_pos_iff.mpr hne
    rcases hq with hq | hq
    · have hq0 := hide_sub p H _ _ hq
      have qp : q ≠ p := fun e => by rw [e, hide_at] at hq; cases hq
      refine ⟨.ref q, rfl, .ref p, rfl, .ref q, rfl, q, _, rfl, .inl (.of hq0), p, _, x, k, rfl, hp, wx, by omega, by omega, size_ok (by omega) (by omega), fun d y d0 d1 wy => ?_⟩
      obtain ⟨j, rfl⟩ := Int.eq_ofNat_of_zero_le d0
      have hj : j < xs.length := by omega
      exact .inl ⟨q, xs, _, xs[j], rfl, rfl, .of (by rw [upd_ne qp]; exact hq0), atI_nat (List.getElem?_eq_getElem hj), c j _ y (List.getElem?_eq_getElem hj) wy⟩
    · have hq0 := hide_sub p H _ _ hq
      have qp : q ≠ p := fun e => by rw [e, hide_at] at hq; cases hq
      refine ⟨.ref q, rfl, .ref p, rfl, .ref q, rfl, q, _, rfl, .inr (.of hq0), p, _, x, k, rfl, hp, wx, by omega, by omega, size_ok (by omega) (by omega), fun d y d0 d1 wy => ?_⟩
      obtain ⟨j, rfl⟩ := Int.eq_ofNat_of_zero_le d0
      have hj : j < xs.length := by omega
      exact .inr ⟨q, xs, _, xs[j], rfl, rfl, .of (by rw [upd_ne qp]; exact hq0), atI_nat (List.getElem?_eq_getElem hj), c j _ y (List.getElem?_eq_getElem hj) wy⟩
end
/-! ### [e for a in t for b in a], both tuples -/
section
variable {K : PySem.W.Frag} {σ : L2.St} {D : Addr} {vs vs1 : List Nat}
/-- the second for, over a tuple that stays -/
theorem inner_tup {b : Addr} {ys : List V} {g1 : TG} {tt1 : TT} {te : TE} {H4 : Hp} {Nx : Hp → Prop} (Pw : Nat → Hp → Prop) (h0 : Pw 0 H4) (hl : ∀ j H, Pw j H → SqT K H b ys)
    (hs : ∀ j y H, ys[j]? = some y → Pw j H → g1 y (wipe σ vs1) H fun σ3 H5 => wipe σ3 vs1 = wipe σ vs1 ∧ tt1 σ3 H5 fun c H6 => if c = true then te σ3 H6 fun z H7 => ∃ acc, H7 D = some (.lst acc) ∧ acc.length < sizeLine ∧ Pw (j + 1) (upd H7 D (.lst (acc ++ [z]))) else Pw (j + 1) H6)
    (hd : ∀ H, Pw ys.length H → Nx H) :
    ∃ W1 : Nat → Nat → Hp → Prop, (∃ m, W1 0 m H4) ∧ ∀ j k H, W1 j k H → ((Itt K b).stop j H ∧ Nx H) ∨ ((Itt K b).go j H ∧ ∃ Nx1 : Hp → Prop, (∀ H', Nx1 H' → ∃ k', k' < k ∧ W1 (j + 1) k' H') ∧
      ∀ x H', (Itt K b).yld j H x H' → g1 x (wipe σ vs1) H' fun σ3 H5 => wipe σ3 vs1 = wipe σ vs1 ∧ tt1 σ3 H5 fun c H6 => if c = true then te σ3 H6 fun z H7 => ∃ acc, H7 D = some (.lst acc) ∧ acc.length < sizeLine ∧ Nx1 (upd H7 D (.lst (acc ++ [z]))) else Nx1 H6) := by
  refine ⟨fun j k H => k + j = ys.length ∧ Pw j H, ⟨ys.length, rfl, h0⟩, ?_⟩
  rintro j k H ⟨hk, p⟩
  cases k with
  | zero =>
    have e : j = ys.length := by omega
    rw [e] at p ⊢
    exact .inl ⟨⟨ys, hl _ _ p, Nat.le_refl _⟩, hd H p⟩
  | succ k =>
    have lt : j < ys.length := by omega
    refine .inr ⟨⟨ys, ys[j], hl _ _ p, List.getElem?_eq_getElem lt⟩, Pw (j + 1), fun H' p' => ⟨k, Nat.lt_succ_self _, by omega, p'⟩, ?_⟩
    rintro x H' ⟨rfl, y⟩
    exact hs j x _ (y ys (hl _ _ p)) p
/-- the first for -/
theorem outer_tup {a : Addr} {xs : List V} {g g1 : TG} {tt tt1 : TT} {wi1 : TI} {te : TE} {H1 : Hp} {Qd : Hp → Prop} (Pv : Nat → Hp → Prop) (h0 : Pv 0 (upd H1 D (.lst []))) (hl : ∀ i H, Pv i H → SqT K H a xs)
    (hs : ∀ i x H, xs[i]? = some x → Pv i H → g x (wipe σ vs) H fun σ2 H2 => wipe σ2 vs = wipe σ vs ∧ tt σ2 H2 fun c H3 => if c = true then wi1 σ2 H3 fun J1 H4 => ∃ W1 : Nat → Nat → Hp → Prop, (∃ m, W1 0 m H4) ∧ ∀ j k H, W1 j k H → (J1.stop j H ∧ Pv (i + 1) H) ∨ (J1.go j H ∧ ∃ Nx1 : Hp → Prop, (∀ H', Nx1 H' → ∃ k', k' < k ∧ W1 (j + 1) k' H') ∧
      ∀ x H', J1.yld j H x H' → g1 x (wipe σ2 vs1) H' fun σ3 H5 => wipe σ3 vs1 = wipe σ2 vs1 ∧ tt1 σ3 H5 fun c H6 => if c = true then te σ3 H6 fun z H7 => ∃ acc, H7 D = some (.lst acc) ∧ acc.length < sizeLine ∧ Nx1 (upd H7 D (.lst (acc ++ [z]))) else Nx1 H6) else Pv (i + 1) H3)
    (hd : ∀ H, Pv xs.length H → Qd H) :
    ∃ W : Nat → Nat → Hp → Prop, (∃ m, W 0 m (upd H1 D (.lst []))) ∧ ∀ i m H, W i m H → ((Itt K a).stop i H ∧ Qd H) ∨ ((Itt K a).go i H ∧ ∃ Nx : Hp → Prop, (∀ H', Nx H' → ∃ m', m' < m ∧ W (i + 1) m' H') ∧
      ∀ x H', (Itt K a).yld i H x H' → g x (wipe σ vs) H' fun σ2 H2 => wipe σ2 vs = wipe σ vs ∧ tt σ2 H2 fun c H3 => if c = true then wi1 σ2 H3 fun J1 H4 => ∃ W1 : Nat → Nat → Hp → Prop, (∃ m, W1 0 m H4) ∧ ∀ j k H, W1 j k H → (J1.stop j H ∧ Nx H) ∨ (J1.go j H ∧ ∃ Nx1 : Hp → Prop, (∀ H', Nx1 H' → ∃ k', k' < k ∧ W1 (j + 1) k' H') ∧
        ∀ x H', J1.yld j H x H' → g1 x (wipe σ2 vs1) H' fun σ3 H5 => wipe σ3 vs1 = wipe σ2 vs1 ∧ tt1 σ3 H5 fun c H6 => if c = true then te σ3 H6 fun z H7 => ∃ acc, H7 D = some (.lst acc) ∧ acc.length < sizeLine ∧ Nx1 (upd H7 D (.lst (acc ++ [z]))) else Nx1 H6) else Nx H3) := by
  refine ⟨fun i k H => k + i = xs.length ∧ Pv i H, ⟨xs.length, rfl, h0⟩, ?_⟩
  rintro i k H ⟨hk, p⟩
  cases k with
  | zero =>
    have e : i = xs.length := by omega
    rw [e] at p ⊢
    exact .inl ⟨⟨xs, hl _ _ p, Nat.le_refl _⟩, hd H p⟩
  | succ k =>
    have lt : i < xs.length := by omega
    refine .inr ⟨⟨xs, xs[i], hl _ _ p, List.getElem?_eq_getElem lt⟩, Pv (i + 1), fun H' p' => ⟨k, Nat.lt_succ_self _, by omega, p'⟩, ?_⟩
    rintro x H' ⟨rfl, y⟩
    exact hs i x _ (y xs (hl _ _ p)) p
end
/-! ### data: None, truths, numbers, texts, lists and tuples of such -/
mutual
def DAt (H : Hp) : PyData → V → Prop
  | .none, v => v = .non
  | .bool b, v => v = .bl b
  | .int i, v => v = .int i
  | .str z, v => v = .str z
  | .list ds, v => ∃ p xs, v = .ref p ∧ H p = some (.lst xs) ∧ DAll H ds xs
  | .tuple ds, v => ∃ p xs, v = .ref p ∧ H p = some (.tup xs) ∧ DAll H ds xs
  | .dict _, _ => False
def DAll (H : Hp) : List PyData → List V → Prop
  | [], xs => xs = []
  | d :: ds, xs => ∃ v r, xs = v :: r ∧ DAt H d v ∧ DAll H ds r
end
mutual
theorem DAt.same {H H' : Hp} (s : Same H H') : ∀ (d : PyData) {v : V}, DAt H d v → DAt H' d v
  | .none, _, h => h
  | .bool _, _, h => h
  | .int _, _, h => h
  | .str _, _, h => h
  | .list ds, _, ⟨p, xs, e, h, g⟩ => ⟨p, xs, e, s _ _ h, DAll.same s ds g⟩
  | .tuple ds, _, ⟨p, xs, e, h, g⟩ => ⟨p, xs, e, s _ _ h, DAll.same s ds g⟩
  | .dict _, _, h => h
theorem DAll.same {H H' : Hp} (s : Same H H') : ∀ (ds : List PyData) {xs : List V}, DAll H ds xs → DAll H' ds xs
  | [], _, h => h
  | d :: ds, _, ⟨v, r, e, h, g⟩ => ⟨v, r, e, DAt.same s d h, DAll.same s ds g⟩
end
mutual
theorem DAt.dp {K : PySem.W.Frag} {H : Hp} : ∀ (d : PyData) {v : V}, DAt H d v → Dp K H v d
  | .none, _, h => by rw [show _ = V.non from h]; exact .non
  | .bool b, _, h => by rw [show _ = V.bl b from h]; exact .bl b
  | .int i, _, h => by rw [show _ = V.int i from h]; exact .int i
  | .str z, _, h => by rw [show _ = V.str z from h]; exact .str z
  | .list ds, _, ⟨p, xs, e, h, g⟩ => by rw [e]; exact .lst (.of h) (DAll.dp ds g)
  | .tuple ds, _, ⟨p, xs, e, h, g⟩ => by rw [e]; exact .tup (.of h) (DAll.dp ds g)
  | .dict _, _, h => h.elim
theorem DAll.dp {K : PySem.W.Frag} {H : Hp} : ∀ (ds : List PyData) {xs : List V}, DAll H ds xs → DpAll K H xs ds
  | [], _, h => by rw [show _ = ([] : List V) from h]; exact .nil
  | d :: ds, _, ⟨v, r, e, h, g⟩ => by rw [e]; exact .cons (DAt.dp d h) (DAll.dp ds g)
end
theorem DAll.len {H : Hp} : ∀ {l : List PyData} {xs : List V}, DAll H l xs → xs.length = l.length
  | [], _, h => by rw [show _ = [] from h]; rfl
  | k :: l, _, ⟨v, r, e, h, g⟩ => by rw [e]; exact congrArg Nat.succ (DAll.len g)
theorem DAll.get {H : Hp} : ∀ {l : List PyData} {xs : List V}, DAll H l xs → ∀ {i : Nat} {v : V}, xs[i]? = some v → ∃ k, l[i]? = some k ∧ DAt H k v
  | [], _, h, i, v, e => by
    rw [show _ = [] from h] at e
    simp at e
  | k :: l, _, ⟨v, r, e, h, g⟩, 0, u, q => by
    rw [e] at q
    cases q
    exact ⟨k, rfl, h⟩
  | k :: l, _, ⟨v, r, e, h, g⟩, i + 1, u, q => by
    rw [e] at q
    exact DAll.get g (i := i) q
theorem DAll.append {H : Hp} : ∀ {l m : List PyData} {xs ys : List V}, DAll H l xs → DAll H m ys → DAll H (l ++ m) (xs ++ ys)
  | [], _, _, _, h, g => by rw [show _ = [] from h]; exact g
  | k :: l, _, _, _, ⟨v, r, e, h, g⟩, q => by rw [e]; exact ⟨v, _, rfl, h, DAll.append g q⟩
theorem DAll.take {H : Hp} : ∀ (n : Nat) {l : List PyData} {xs : List V}, DAll H l xs → DAll H (l.take n) (xs.take n)
  | 0, _, _, _ => by rw [List.take_zero, List.take_zero]; rfl
  | n + 1, [], _, h => by rw [show _ = [] from h]; rfl
  | n + 1, k :: l, _, ⟨v, r, e, h, g⟩ => by rw [e]; exact ⟨v, _, rfl, h, DAll.take n g⟩
theorem DAll.drop {H : Hp} : ∀ (n : Nat) {l : List PyData} {xs : List V}, DAll H l xs → DAll H (l.drop n) (xs.drop n)
  | 0, _, _, h => h
  | n + 1, [], _, h => by rw [show _ = [] from h]; rfl
  | n + 1, k :: l, _, ⟨v, r, e, h, g⟩ => by rw [e]; exact DAll.drop n g
theorem DAll.strs {H : Hp} : ∀ (zs : List Str), DAll H (zs.map PyData.str) (zs.map V.str)
  | [] => rfl
  | z :: zs => ⟨.str z, _, rfl, rfl, DAll.strs zs⟩
theorem da0 {H : Hp} : DAll H [] [] := rfl
theorem da1 {H : Hp} {k : PyData} {v : V} {l : List PyData} {xs : List V} (a : DAt H k v) (b : DAll H l xs) : DAll H (k :: l) (v :: xs) := ⟨v, xs, rfl, a, b⟩
def dT : PyData → Bool
  | .tuple _ => true
  | _ => false
def dS : PyData → Bool
  | .str _ => true
  | _ => false
def dI : PyData → Bool
  | .int _ => true
  | .bool _ => true
  | _ => false
def dB : PyData → Bool
  | .bool _ => true
  | _ => false
theorem DAt.ty {K : PySem.W.Frag} {H : Hp} : ∀ {d : PyData} {v : V}, DAt H d v → ∃ t, TyX K H v t ∧ PySem.W.kitOne K t (.type "tuple") = some (dT d) ∧ PySem.W.kitOne K t (.type "str") = some (dS d) ∧ PySem.W.kitOne K t (.type "int") = some (dI d) ∧ PySem.W.kitOne K t (.type "bool") = some (dB d)
  | .none, _, h => by
    rw [show _ = V.non from h]
    exact ⟨_, .base .non, kit_ty (show kitB "NoneType" "tuple" = some false by decide +kernel), kit_ty (show kitB "NoneType" "str" = some false by decide +kernel), kit_ty (show kitB "NoneType" "int" = some false by decide +kernel), kit_ty (show kitB "NoneType" "bool" = some false by decide +kernel)⟩
  | .bool b, _, h => by
    rw [show _ = V.bl b from h]
    exact ⟨_, .base (.bl b), kit_ty (show kitB "bool" "tuple" = some false by decide +kernel), kit_ty (show kitB "bool" "str" = some false by decide +kernel), kit_ty (show kitB "bool" "int" = some true by decide +kernel), kit_ty (show kitB "bool" "bool" = some true by decide +kernel)⟩
  | .int i, _, h => by
    rw [show _ = V.int i from h]
    exact ⟨_, .base (.int i), kit_ty (show kitB "int" "tuple" = some false by decide +kernel), kit_ty (show kitB "int" "str" = some false by decide +kernel), kit_ty (show kitB "int" "int" = some true by decide +kernel), kit_ty (show kitB "int" "bool" = some false by decide +kernel)⟩
  | .str z, _, h => by
    rw [show _ = V.str z from h]
    exact ⟨_, .base (.str z), kit_ty (show kitB "str" "tuple" = some false by decide +kernel), kit_ty (show kitB "str" "str" = some true by decide +kernel), kit_ty (show kitB "str" "int" = some false by decide +kernel), kit_ty (show kitB "str" "bool" = some false by decide +kernel)⟩
  | .list ds, _, ⟨p, xs, e, h, g⟩ => by
    rw [e]
    exact ⟨_, .base (.lst h), kit_ty (show kitB "list" "tuple" = some false by decide +kernel), kit_ty (show kitB "list" "str" = some false by decide +kernel), kit_ty (show kitB "list" "int" = some false by decide +kernel), kit_ty (show kitB "list" "bool" = some false by decide +kernel)⟩
  | .tuple ds, _, ⟨p, xs, e, h, g⟩ => by
    rw [e]
    exact ⟨_, .base (.tup h), kit_ty (show kitB "tuple" "tuple" = some true by decide +kernel), kit_ty (show kitB "tuple" "str" = some false by decide +kernel), kit_ty (show kitB "tuple" "int" = some false by decide +kernel), kit_ty (show kitB "tuple" "bool" = some false by decide +kernel)⟩
  | .dict _, _, h => h.elim
/-- data that can be laid, of some depth and weight, told in short texts -/
structure Ok (n m : Nat) (d : PyData) : Prop where
  lay : d.canLay0 = true
  dep : d.depth ≤ n
  sho : d.showable = true
  lea : d.leavesShort 40 = true
  wei : d.weight ≤ m
structure OkA (n m : Nat) (ds : List PyData) : Prop where
  lay : PyData.canLayAll0 ds = true
  dep : PyData.depthAll ds ≤ n
  sho : PyData.showableAll ds = true
  lea : PyData.leavesShortAll 40 ds = true
  wei : PyData.weightAll ds ≤ m
theorem OkA.nil {n m : Nat} : OkA n m [] := ⟨rfl, Nat.zero_le _, rfl, rfl, Nat.zero_le _⟩
theorem Ok.mono {n m n' m' : Nat} {d : PyData} (h : Ok n m d) (a : n ≤ n') (b : m ≤ m') : Ok n' m' d := ⟨h.lay, Nat.le_trans h.dep a, h.sho, h.lea, Nat.le_trans h.wei b⟩
theorem OkA.mono {n m n' m' : Nat} {d : List PyData} (h : OkA n m d) (a : n ≤ n') (b : m ≤ m') : OkA n' m' d := ⟨h.lay, Nat.le_trans h.dep a, h.sho, h.lea, Nat.le_trans h.wei b⟩
theorem OkA.cons {n m k : Nat} {d : PyData} {ds : List PyData} (a : Ok n m d) (b : OkA n k ds) : OkA n (m + 1 + k) (d :: ds) := by
  refine ⟨?_, ?_, ?_, ?_, ?_⟩
  · rw [PyData.canLayAll0, a.lay, b.lay] <;> rfl
  · rw [PyData.depthAll]
    exact Nat.max_le.mpr ⟨a.dep, b.dep⟩
  · rw [PyData.showableAll, a.sho, b.sho] <;> rfl
  · rw [PyData.leavesShortAll, a.lea, b.lea] <;> rfl
  · rw [PyData.weightAll]
    have := a.wei
    have := b.wei
    omega
theorem OkA.head {n m : Nat} {d : PyData} {ds : List PyData} (h : OkA n m (d :: ds)) : Ok n m d := by
  have h1 := h.lay
  have h2 := h.dep
  have h3 := h.sho
  have h4 := h.lea
  have h5 := h.wei
  rw [PyData.canLayAll0, Bool.and_eq_true] at h1
  rw [PyData.depthAll] at h2
  rw [PyData.showableAll, Bool.and_eq_true] at h3
  rw [PyData.leavesShortAll, Bool.and_eq_true] at h4
  rw [PyData.weightAll] at h5
  exact ⟨h1.1, (Nat.max_le.mp h2).1, h3.1, h4.1, by omega⟩
theorem OkA.tail {n m : Nat} {d : PyData} {ds : List PyData} (h : OkA n m (d :: ds)) : OkA n m ds := by
  have h1 := h.lay
  have h2 := h.dep
  have h3 := h.sho
  have h4 := h.lea
  have h5 := h.wei
  rw [PyData.canLayAll0, Bool.and_eq_true] at h1
  rw [PyData.depthAll] at h2
  rw [PyData.showableAll, Bool.and_eq_true] at h3
  rw [PyData.leavesShortAll, Bool.and_eq_true] at h4
  rw [PyData.weightAll] at h5
  exact ⟨h1.2, (Nat.max_le.mp h2).2, h3.2, h4.2, by omega⟩
theorem OkA.get {n m : Nat} : ∀ {ds : List PyData}, OkA n m ds → ∀ d ∈ ds, Ok n m d
  | [], _, _, h => by cases h
  | a :: ds, h, d, hd => by
    rcases List.mem_cons.mp hd with e | hd
    · rw [e]
      exact h.head
    · exact h.tail.get d hd
theorem OkA.append {n m k : Nat} : ∀ {a b : List PyData}, OkA n m a → OkA n k b → OkA n (m + k) (a ++ b)
  | [], b, h, g => g.mono (Nat.le_refl _) (by omega)
  | d :: a, b, h, g => by
    have e := h.wei
    rw [PyData.weightAll] at e
    have hd : Ok n d.weight d := ⟨h.head.lay, h.head.dep, h.head.sho, h.head.lea, Nat.le_refl _⟩
    have ha : OkA n (PyData.weightAll a) a := ⟨h.tail.lay, h.tail.dep, h.tail.sho, h.tail.lea, Nat.le_refl _⟩
    exact (OkA.cons hd (OkA.append ha g)).mono (Nat.le_refl _) (by omega)
theorem OkA.take {n m : Nat} : ∀ (k : Nat) {a : List PyData}, OkA n m a → OkA n m (a.take k)
  | 0, _, _ => OkA.nil
  | _ + 1, [], _ => OkA.nil
  | k + 1, d :: a, h => by
    have e := h.wei
    rw [PyData.weightAll] at e
    have hd : Ok n d.weight d := ⟨h.head.lay, h.head.dep, h.head.sho, h.head.lea, Nat.le_refl _⟩
    have ha : OkA n (PyData.weightAll a) a := ⟨h.tail.lay, h.tail.dep, h.tail.sho, h.tail.lea, Nat.le_refl _⟩
    exact (OkA.cons hd (ha.take k)).mono (Nat.le_refl _) (by omega)
theorem OkA.drop {n m : Nat} : ∀ (k : Nat) {a : List PyData}, OkA n m a → OkA n m (a.drop k)
  | 0, _, h => h
  | _ + 1, [], _ => OkA.nil
  | k + 1, _ :: _, h => h.tail.drop k
theorem OkA.tuple {n m : Nat} {ds : List PyData} (h : OkA n m ds) : Ok (n + 1) m (.tuple ds) := by
  refine ⟨?_, ?_, ?_, ?_, ?_⟩
  · rw [PyData.canLay0]; exact h.lay
  · have := h.dep
    rw [PyData.depth]
    omega
  · rw [PyData.showable]; exact h.sho
  · rw [PyData.leavesShort]; exact h.lea
  · rw [PyData.weight]; exact h.wei
theorem OkA.list {n m : Nat} {ds : List PyData} (h : OkA n m ds) : Ok (n + 1) m (.list ds) := by
  refine ⟨?_, ?_, ?_, ?_, ?_⟩
  · rw [PyData.canLay0]; exact h.lay
  · have := h.dep
    rw [PyData.depth]
    omega
  · rw [PyData.showable]; exact h.sho
  · rw [PyData.leavesShort]; exact h.lea
  · rw [PyData.weight]; exact h.wei
theorem Ok.shaped {n m : Nat} {d : PyData} (h : Ok n m d) (hn : n ≤ 64) : SeqAt.shaped d = true := by
  unfold SeqAt.shaped
  rw [h.lay, Bool.true_and]
  exact decide_eq_true (Nat.le_trans h.dep hn)
theorem Ok.fits {n m : Nat} {d : PyData} (h : Ok n m d) (hm : m ≤ 100000) : d.shown.length ≤ sizeLine := by
  have := PyData.shown_le 40 (by decide) d h.lea
  have := h.wei
  show _ ≤ 16777216
  omega
theorem ok_none {n m : Nat} : Ok n m .none := ⟨rfl, Nat.zero_le _, rfl, rfl, Nat.zero_le _⟩
theorem ok_bool {n m : Nat} (b : Bool) : Ok n m (.bool b) := ⟨rfl, Nat.zero_le _, rfl, rfl, Nat.zero_le _⟩
theorem ok_str {n m : Nat} {z : Str} (h : PyData.strOk z = true) (g : z.length ≤ m) : Ok n m (.str z) := by
  refine ⟨by rw [PyData.canLay0]; exact h, Nat.zero_le _, by rw [PyData.showable], ?_, by rw [PyData.weight]; exact g⟩
  rw [PyData.leavesShort, List.all_eq_true]
  intro c hc
  unfold PyData.strOk at h
  rw [← Array.all_toList, List.all_eq_true] at h
  have := of_decide_eq_true (h c hc)
  exact decide_eq_true (Nat.lt_trans this (by decide))
/-! ### what the program's own looks tell of data -/
def wholeD : PyData → Bool
  | .int _ => true
  | _ => false
def tupD : PyData → Nat → Bool
  | .tuple l, n => decide (l.length = n)
  | _, _ => false
def optD (zs : List Str) : PyData → Bool
  | .str z => decide (z ∈ zs)
  | _ => false
def unS : PyData → Option Str
  | .str z => some z
  | _ => none
def unlikeD (zs : List Str) (ds : List PyData) : Bool := ds.all (optD zs) && decide (ds.filterMap unS).Nodup
def markD : PyData → Bool
  | .int i => decide (0 ≤ i) && decide (i ≤ 9)
  | _ => false
def parts : PyData → List PyData
  | .tuple l => l
  | _ => []
def tierD : PyData → Bool
  | .tuple l => decide (0 < l.length)
  | _ => false
def pairD : PyData → Bool
  | .tuple [_, m] => markD m
  | _ => false
def firstD : PyData → PyData
  | .tuple (a :: _) => a
  | _ => .none
def tiersD (zs : List Str) (ds : List PyData) : Bool := ds.all tierD && unlikeD zs (ds.flatMap parts)
def marksD (zs : List Str) (ds : List PyData) : Bool := ds.all pairD && unlikeD zs (ds.map firstD)
def ballotD (zs : List Str) : PyData → Bool
  | .tuple [.str f, .tuple l] => if f = "order" then tiersD zs l else if f = "lets" then unlikeD zs l else if f = "marks" then marksD zs l else false
  | _ => false
theorem inV_str (z : Str) : ∀ zs : List Str, inV (.str z) (zs.map V.str) = decide (z ∈ zs)
  | [] => rfl
  | a :: l => by
    have ih := inV_str z l
    unfold inV at ih ⊢
    rw [List.map_cons, List.any_cons, ih]
    show ((a == z) || decide (z ∈ l)) = decide (z ∈ a :: l)
    by_cases h : a = z
    · rw [h]
      simp
    · have : (a == z) = false := beq_eq_false_iff_ne.mpr h
      rw [this, Bool.false_or]
      exact decide_eq_decide.mpr ⟨fun m => List.mem_cons_of_mem _ m, fun m => (List.mem_cons.mp m).elim (fun e => absurd e.symm h) id⟩
theorem flat_strs (zs : List Str) : (zs.map V.str).all flatV = true := by
  rw [List.all_map, List.all_eq_true]
  exact fun _ _ => rfl
theorem opt_strs {zs : List Str} : ∀ {ds : List PyData}, ds.all (optD zs) = true → ds = (ds.filterMap unS).map PyData.str
  | [], _ => rfl
  | d :: ds, h => by
    rw [List.all_cons, Bool.and_eq_true] at h
    cases d with
    | str z => exact congrArg (PyData.str z :: ·) (opt_strs h.2)
    | _ => cases h.1
theorem DAll.of_strs {H : Hp} : ∀ {zs : List Str} {xs : List V}, DAll H (zs.map PyData.str) xs → xs = zs.map V.str
  | [], _, h => h
  | z :: zs, _, ⟨v, r, e, h, g⟩ => by
    rw [e, show v = V.str z from h, DAll.of_strs g] <;> rfl
section
variable {P : Program} {w : World} {K : PySem.W.Frag} {mg : Str → Option Value} {base : Heap}
def sp_is_whole : Sp := fun vs H Q _ => ∃ (v : V) (d : PyData), vs = [v] ∧ DAt H d v ∧ Q (.bl (wholeD d)) H
theorem ok_is_whole (T : Txt K mg) : FnOk P w K mg base CX0 1 T.f_is_whole T.fd_is_whole ["thing"] sp_is_whole := by
  refine T.F_is_whole.ok sc_is_whole (fun vs H Q E h => ?_) (fun cdv A outer s H vs Q E hr h => ?_)
  · obtain ⟨v, d, rfl, _⟩ := h
    rfl
  · obtain ⟨v, d, rfl, hd, q⟩ := h
    refine ⟨_, (pss_one
 (ps_ret (pe_and (pe_callB call_isi (by rfl) T.z_isinstance (by decide +kernel) (pa_cons (pv 0) (pa_cons (pe_bltn (v := .ty "int") (u := .type "int") rfl T.z_int (by decide +kernel) rfl) pa_nil))) (pe_one (pe_not (pe_callB call_isi (by rfl) T.z_isinstance (by decide +kernel) (pa_cons (pv 0) (pa_cons (pe_bltn (v := .ty "bool") (u := .type "bool") rfl T.z_bool (by decide +kernel) rfl) pa_nil)))))))), ?_⟩
    obtain ⟨t, ht, _, _, k3, k4⟩ := hd.ty (K := K)
    refine ⟨v, rfl, v, _, t, _, dI d, rfl, .ty _, ht, k3, dI d, rfl, ?_⟩
    have e : (if dI d = true then !dB d else false) = wholeD d := by cases d <;> rfl
    rw [← e] at q
    cases h1 : dI d with
    | false =>
      rw [h1] at q
      exact iteF q
    | true =>
      rw [h1] at q
      exact iteT ⟨v, rfl, v, _, t, _, dB d, rfl, .ty _, ht, k4, dB d, rfl, q⟩
def sp_is_tuple_of : Sp := fun vs H Q _ => ∃ (v : V) (n : Nat) (d : PyData), vs = [v, .int n] ∧ DAt H d v ∧ Q (.bl (tupD d n)) H
theorem ok_is_tuple_of (T : Txt K mg) : FnOk P w K mg base CX0 1 T.f_is_tuple_of T.fd_is_tuple_of ["thing", "many"] sp_is_tuple_of := by
  refine T.F_is_tuple_of.ok sc_is_tuple_of (fun vs H Q E h => ?_) (fun cdv A outer s H vs Q E hr h => ?_)
  · obtain ⟨v, n, d, rfl, _⟩ := h
    rfl
  · obtain ⟨v, n, d, rfl, hd, q⟩ := h
    refine ⟨_, (pss_one
 (ps_ret (pe_and (pe_callB call_isi (by rfl) T.z_isinstance (by decide +kernel) (pa_cons (pv 0) (pa_cons (pe_bltn (v := .ty "tuple") (u := .type "tuple") rfl T.z_tuple (by decide +kernel) rfl) pa_nil))) (pe_one (pe_cmpR op_eq (pe_callB call_len_seq (by rfl) T.z_len (by decide +kernel) (pa_cons (pv 0) pa_nil)) (pv 1) (nomark _)))))), ?_⟩
    obtain ⟨t, ht, k1, _⟩ := hd.ty (K := K)
    refine ⟨v, rfl, v, _, t, _, dT d, rfl, .ty _, ht, k1, dT d, rfl, ?_⟩
    cases d with
    | tuple l =>
      obtain ⟨p, xs, rfl, hp, ha⟩ := hd
      refine iteT ⟨.ref p, rfl, p, _, rfl, .inr (.of hp), .int n, rfl, rfl, ?_⟩
      rw [ha.len]
      have e : decide (V.int (l.length : Int) = V.int (n : Int)) = decide (l.length = n) := decide_eq_decide.mpr ⟨fun h => by have := V.int.inj h; omega, fun h => by rw [h]⟩
      rw [e]
      exact q
    | _ => exact iteF q
def sp_is_option : Sp := fun vs H Q _ => ∃ (o : Addr) (zs : List Str) (v : V) (d : PyData), vs = [.ref o, v] ∧ H o = some (.tup (zs.map V.str)) ∧ DAt H d v ∧ Q (.bl (optD zs d)) H
theorem ok_is_option (T : Txt K mg) : FnOk P w K mg base CX0 1 T.f_is_option T.fd_is_option ["options", "thing"] sp_is_option := by
  refine T.F_is_option.ok sc_is_option (fun vs H Q E h => ?_) (fun cdv A outer s H vs Q E hr h => ?_)
  · obtain ⟨o, zs, v, d, rfl, _⟩ := h
    rfl
  · obtain ⟨o, zs, v, d, rfl, ho, hd, q⟩ := h
    refine ⟨_, (pss_one
 (ps_ret (pe_and (pe_callB call_isi (by rfl) T.z_isinstance (by decide +kernel) (pa_cons (pv 1) (pa_cons (pe_bltn (v := .ty "str") (u := .type "str") rfl T.z_str (by decide +kernel) rfl) pa_nil))) (pe_one (pe_cmpR op_in_seq (pv 1) (pv 0) rfl))))), ?_⟩
    obtain ⟨t, ht, _, k2, _⟩ := hd.ty (K := K)
    refine ⟨v, rfl, v, _, t, _, dS d, rfl, .ty _, ht, k2, dS d, rfl, ?_⟩
    cases d with
    | str z =>
      rw [show v = V.str z from hd]
      refine iteT ⟨.str z, rfl, .ref o, rfl, o, _, rfl, .inr (.of ho), rfl, flat_strs zs, ?_⟩
      show Q (.bl (inV (.str z) (zs.map V.str))) H
      rw [inV_str]
      exact q
    | _ => exact iteF q
def sp_are_unlike_options : Sp := fun vs H Q _ => ∃ (o p : Addr) (zs : List Str) (xs : List V) (ds : List PyData), vs = [.ref o, .ref p] ∧ H o = some (.tup (zs.map V.str)) ∧ (H p = some (.lst xs) ∨ H p = some (.tup xs)) ∧ DAll H ds xs ∧ ds.length ≤ 500 ∧ ∀ H', Same H H' → Q (.bl (unlikeD zs ds)) H'
theorem ok_are_unlike_options (T : Txt K mg) : FnOk P w K mg base CX0 2 T.f_are_unlike_options T.fd_are_unlike_options ["options", "names"] sp_are_unlike_options := by
  refine T.F_are_unlike_options.ok sc_are_unlike_options (fun vs H Q E h => ?_) (fun cdv A outer s H vs Q E hr h => ?_)
  · obtain ⟨o, p, zs, xs, ds, rfl, _⟩ := h
    rfl
  · obtain ⟨o, p, zs, xs, ds, rfl, ho, hp, ha, hl, q⟩ := h
    refine ⟨_, (pss_one
 (ps_ret (pe_and (pe_callB (cr_all rfl) (by rfl) T.z_all (by decide +kernel) (pa_cons (pe_lc (own := [("name", 2)]) (g := gName 2) (tt := tYes) rfl sc_are_unlike_options.nd (pi_or (pi_list (pv 1)) (pi_tup (pv 1))) (blkOk_by (own := [("name", 2)]) (N := ["options", "names", "name"]) (sc := (defScope s_are_unlike_options)) (by decide +kernel)) (fun _ _ _ _ _ => pg_name (i := 2) sc_are_unlike_options.nd rfl (Or.inl rfl)) (fun _ _ _ _ _ => pts_nil) (fun _ _ _ _ _ => (pe_call (ok_is_option T) (hr.mono (by decide)) (by rfl) T.g_is_option T.F_is_option.kp T.b_is_option .nil pass0 (pa_cons (pv 0) (pa_cons (pv 2) pa_nil))))) pa_nil)) (pe_one (pe_cmpR op_eq (pe_unlike rfl (by rfl) T.z_len (by rfl) T.z_set (pv 1)) (pe_callB call_len_seq (by rfl) T.z_len (by decide +kernel) (pa_cons (pv 1) pa_nil)) (nomark _)))))), ?_⟩
    have lx : xs.length = ds.length := ha.len
    -- behind the comprehension
    have go : ∀ (H1 : Hp), Same H H1 → ∀ (R : VK), (∀ b H', Same H H' → b = unlikeD zs ds → R (.bl b) H') →
        (ds.all (optD zs) = false → R (.bl false) H1) ∧ (ds.all (optD zs) = true → ∀ b, b = decide (V.int ((met (ds.filterMap unS)).length : Int) = V.int (xs.length : Int)) → R (.bl b) H1) := by
      intro H1 s1 R c
      refine ⟨fun e => c _ _ s1 ?_, fun e b hb => c _ _ s1 ?_⟩
      · unfold unlikeD
        rw [e] <;> rfl
      · have es := opt_strs e
        have el : (ds.filterMap unS).length = ds.length := by
          have := congrArg List.length es
          rw [List.length_map] at this
          exact this.symm
        unfold unlikeD
        rw [e, Bool.true_and, ← met_iff, hb]
        exact decide_eq_decide.mpr ⟨fun h => by have := V.int.inj h; omega, fun h => by rw [h, el, ← lx]⟩
    have turn : ∀ (D : Addr) (nD : H D = none) (i : Nat) (x : V) (H1 : Hp), xs[i]? = some x → (Same H H1 ∧ H1 D = some (.lst (((ds.take i).map (optD zs)).map V.bl))) → ∃ kk, ds[i]? = some kk ∧ DAt H1 kk x ∧ H1 o = some (.tup (zs.map V.str)) ∧
        H1 D = some (.lst (((ds.take i).map (optD zs)).map V.bl)) ∧ (((ds.take i).map (optD zs)).map V.bl).length < sizeLine ∧ Same H (upd H1 D (.lst (((ds.take i).map (optD zs)).map V.bl ++ [V.bl (optD zs kk)]))) ∧
        (upd H1 D (.lst (((ds.take i).map (optD zs)).map V.bl ++ [V.bl (optD zs kk)]))) D = some (.lst (((ds.take (i + 1)).map (optD zs)).map V.bl)) := by
      rintro D nD i x H1 hi ⟨s1, e1⟩
      obtain ⟨kk, hkk, hx⟩ := ha.get hi
      refine ⟨kk, hkk, DAt.same s1 _ hx, s1 _ _ ho, e1, ?_, same_mut s1 nD, ?_⟩
      · rw [List.length_map, List.length_map, List.length_take]
        exact small1000 (by omega)
      · rw [upd_same, take_more hkk, List.map_append, List.map_append]
        rfl
    rcases hp with hp | hp
    · refine .inl ⟨.ref p, rfl, p, rfl, ⟨_, .of hp⟩, fun D nD => ?_⟩
      refine lc_list (K := K) (a := p) (xs := xs) (fun i H' => Same H H' ∧ H' D = some (.lst (((ds.take i).map (optD zs)).map V.bl))) ⟨same_upd nD, upd_same⟩ (fun _ _ _ h => .of (h.1 _ _ hp)) ?_ ?_
      · intro i x H1 hi h
        obtain ⟨kk, hkk, hx, ho1, e1, z1, z2, z3⟩ := turn D nD i x H1 hi h
        exact ⟨rfl, .ref o, rfl, x, rfl, o, zs, x, kk, rfl, ho1, hx, _, e1, z1, z2, z3⟩
      · rintro H1 ⟨s1, e1⟩
        rw [lx, List.take_length] at e1
        refine ⟨D, _, rfl, .of e1, _, rfl, ?_⟩
        have ea : (ds.map (optD zs)).all id = ds.all (optD zs) := by rw [List.all_map]; rfl
        rw [ea]
        obtain ⟨g1, g2⟩ := go H1 s1 Q (fun b H' s e => by rw [e]; exact q _ s)
        cases hs : ds.all (optD zs) with
        | false => exact iteF (g1 hs)
        | true =>
          have es := opt_strs hs
          have ex : xs = (ds.filterMap unS).map V.str := by rw [es] at ha; exact ha.of_strs
          have lw : (ds.filterMap unS).length ≤ 500 := Nat.le_trans (List.length_filterMap_le _ _) hl
          exact iteT ⟨.ref p, rfl, p, ds.filterMap unS, rfl, .inl (.of (by rw [← ex]; exact s1 _ _ hp)), by omega, .ref p, rfl, p, _, rfl, .inl (.of (s1 _ _ hp)), rfl, g2 hs _ rfl⟩
    · refine .inr ⟨.ref p, rfl, p, rfl, ⟨_, .of hp⟩, fun D nD => ?_⟩
      refine lc_tup (K := K) (a := p) (xs := xs) (fun i H' => Same H H' ∧ H' D = some (.lst (((ds.take i).map (optD zs)).map V.bl))) ⟨same_upd nD, upd_same⟩ (fun _ _ _ h => .of (h.1 _ _ hp)) ?_ ?_
      · intro i x H1 hi h
        obtain ⟨kk, hkk, hx, ho1, e1, z1, z2, z3⟩ := turn D nD i x H1 hi h
        exact ⟨rfl, .ref o, rfl, x, rfl, o, zs, x, kk, rfl, ho1, hx, _, e1, z1, z2, z3⟩
      · rintro H1 ⟨s1, e1⟩
        rw [lx, List.take_length] at e1
        refine ⟨D, _, rfl, .of e1, _, rfl, ?_⟩
        have ea : (ds.map (optD zs)).all id = ds.all (optD zs) := by rw [List.all_map]; rfl
        rw [ea]
        obtain ⟨g1, g2⟩ := go H1 s1 Q (fun b H' s e => by rw [e]; exact q _ s)
        cases hs : ds.all (optD zs) with
        | false => exact iteF (g1 hs)
        | true =>
          have es := opt_strs hs
          have ex : xs = (ds.filterMap unS).map V.str := by rw [es] at ha; exact ha.of_strs
          have lw : (ds.filterMap unS).length ≤ 500 := Nat.le_trans (List.length_filterMap_le _ _) hl
          exact iteT ⟨.ref p, rfl, p, ds.filterMap unS, rfl, .inr (.of (by rw [← ex]; exact s1 _ _ hp)), by omega, .ref p, rfl, p, _, rfl, .inr (.of (s1 _ _ hp)), rfl, g2 hs _ rfl⟩
end
section
variable {P : Program} {w : World} {K : PySem.W.Frag} {mg : Str → Option Value} {base : Heap}
def sp_is_mark : Sp := fun vs H Q _ => ∃ (v : V) (d : PyData), vs = [v] ∧ DAt H d v ∧ Q (.bl (markD d)) H
theorem ok_is_mark (T : Txt K mg) : FnOk P w K mg base CX0 2 T.f_is_mark T.fd_is_mark ["thing"] sp_is_mark := by
  refine T.F_is_mark.ok sc_is_mark (fun vs H Q E h => ?_) (fun cdv A outer s H vs Q E hr h => ?_)
  · obtain ⟨v, d, rfl, _⟩ := h
    rfl
  · obtain ⟨v, d, rfl, hd, q⟩ := h
    refine ⟨_, (pss_one
 (ps_ret (pe_and (pe_call (ok_is_whole T) (hr.mono (by decide)) (by rfl) T.g_is_whole T.F_is_whole.kp T.b_is_whole .nil pass0 (pa_cons (pv 0) pa_nil)) (pe_one (pe_chain op_le op_le pe_int (pv 0) (pe_glob (v := .int 9) rfl T.c_GREATEST_MARK ⟨_, rfl⟩)))))), ?_⟩
    refine ⟨v, rfl, v, d, rfl, hd, wholeD d, rfl, ?_⟩
    cases d with
    | int i =>
      rw [show v = V.int i from hd]
      have e : markD (.int i) = if decide (0 ≤ i) = true then decide (i ≤ 9) else false := by
        show (decide (0 ≤ i) && decide (i ≤ 9)) = _
        by_cases h : 0 ≤ i <;> simp [h]
      rw [e] at q
      refine iteT ⟨.int i, rfl, _, _, rfl, rfl, _, rfl, ?_⟩
      by_cases h : 0 ≤ i
      · rw [decide_eq_true h] at q ⊢
        exact iteT ⟨_, _, rfl, rfl, q⟩
      · rw [decide_eq_false h] at q ⊢
        exact iteF q
    | _ => exact iteF q
/-- a tuple of which no part is long -/
def Wide (ds : List PyData) : Prop := ds.length ≤ 20 ∧ ∀ d ∈ ds, (parts d).length ≤ 20
def sp_are_tiers : Sp := fun vs H Q _ => ∃ (o t : Addr) (zs : List Str) (xs : List V) (ds : List PyData), vs = [.ref o, .ref t] ∧ H o = some (.tup (zs.map V.str)) ∧ H t = some (.tup xs) ∧ DAll H ds xs ∧ Wide ds ∧ ∀ H', Same H H' → Q (.bl (tiersD zs ds)) H'
theorem flat_le {ds : List PyData} (h : Wide ds) : (ds.flatMap parts).length ≤ 400 := by
  obtain ⟨h1, h2⟩ := h
  have : ∀ l : List PyData, (∀ d ∈ l, (parts d).length ≤ 20) → (l.flatMap parts).length ≤ 20 * l.length := by
    intro l
    induction l with
    | nil => intro _; exact Nat.le_refl _
    | cons a l ih =>
      intro g
      have a1 := g a List.mem_cons_self
      have a2 := ih fun d hd => g d (List.mem_cons_of_mem _ hd)
      rw [List.flatMap_cons, List.length_append, List.length_cons]
      omega
  have := this ds h2
  omega
theorem ok_are_tiers (T : Txt K mg) : FnOk P w K mg base CX0 3 T.f_are_tiers T.fd_are_tiers ["options", "told"] sp_are_tiers := by
  refine T.F_are_tiers.ok sc_are_tiers (fun vs H Q E h => ?_) (fun cdv A outer s H vs Q E hr h => ?_)
  · obtain ⟨o, t, zs, xs, ds, rfl, _⟩ := h
    rfl
  · obtain ⟨o, t, zs, xs, ds, rfl, ho, ht, ha, hw, q⟩ := h
    refine ⟨_, (pss_cons
 (ps_if (pt_not (pt_val (pe_callB (cr_all rfl) (by rfl) T.z_all (by decide +kernel) (pa_cons (pe_lc (own := [("tier", 2)]) (g := gName 2) (tt := tYes) rfl sc_are_tiers.nd (pi_tup (pv 1)) (blkOk_by (own := [("tier", 2)]) (N := ["options", "told", "tier", "name"]) (sc := (defScope s_are_tiers)) (by decide +kernel)) (fun _ _ _ _ _ => pg_name (i := 2) sc_are_tiers.nd rfl (Or.inl rfl)) (fun _ _ _ _ _ => pts_nil) (fun s0 H0 C0 cl0 fp0 => (by have h := ((pe_and (pe_callB call_isi (by rfl) T.z_isinstance (by decide +kernel) (pa_cons (pv 2) (pa_cons (pe_bltn (v := .ty "tuple") (u := .type "tuple") rfl T.z_tuple (by decide +kernel) rfl) pa_nil))) (pe_one (pe_cmpR op_gt (pe_callB call_len_seq (by rfl) T.z_len (by decide +kernel) (pa_cons (pv 2) pa_nil)) pe_int (nomark _)))) : PE ((cxOf CX0 P w K mg base ["options", "told", "tier", "name"] "are_tiers" (defScope s_are_tiers) T.f_are_tiers cdv A outer s H E).nox.blk s0 H0 (lcScope (subE (subE (rootE ((defBody s_are_tiers).getD 0 (.Pass ⟨0, 0, 0, 0⟩))) 0) 1)) (compEnvC (lcScope (subE (subE (rootE ((defBody s_are_tiers).getD 0 (.Pass ⟨0, 0, 0, 0⟩))) 0) 1)) cl0 C0 (cxOf CX0 P w K mg base ["options", "told", "tier", "name"] "are_tiers" (defScope s_are_tiers) T.f_are_tiers cdv A outer s H E).nox.env) fp0) (subE (subE (subE (rootE ((defBody s_are_tiers).getD 0 (.Pass ⟨0, 0, 0, 0⟩))) 0) 1) 0) _); dsimp only [Cx.blk, Cx.tr, Cx.suite, Cx.nox, Cx.wish, cxOf] at h; exact h))) pa_nil))))
 (pss_one
 (ps_ret pe_bl))
 pss_nil)
 (pss_one
 (ps_ret (pe_call (ok_are_unlike_options T) (hr.mono (by decide)) (by rfl) T.g_are_unlike_options T.F_are_unlike_options.kp T.b_are_unlike_options .nil pass0 (pa_cons (pv 0) (pa_cons (pe_lc2 (own := [("tier", 2), ("name", 3)]) (vs1 := [3]) (g := gName 2) (g1 := gName 3) (tt := tYes) (tt1 := tYes) rfl sc_are_tiers.nd (pi_tup (pv 1)) (blkOk_by (own := [("tier", 2), ("name", 3)]) (N := ["options", "told", "tier", "name"]) (sc := (defScope s_are_tiers)) (by decide +kernel)) (by decide) (fun _ _ _ _ _ => pg_name (i := 2) sc_are_tiers.nd rfl (Or.inl rfl)) (fun _ _ _ _ _ => pts_nil) (fun s0 H0 C0 cl0 fp0 => (by have h := ((pi_tup (pv 2)) : PI ((cxOf CX0 P w K mg base ["options", "told", "tier", "name"] "are_tiers" (defScope s_are_tiers) T.f_are_tiers cdv A outer s H E).nox.blk s0 H0 (lcScope (subE (rootE ((defBody s_are_tiers).getD 1 (.Pass ⟨0, 0, 0, 0⟩))) 2)) (compEnvC (lcScope (subE (rootE ((defBody s_are_tiers).getD 1 (.Pass ⟨0, 0, 0, 0⟩))) 2)) cl0 C0 (cxOf CX0 P w K mg base ["options", "told", "tier", "name"] "are_tiers" (defScope s_are_tiers) T.f_are_tiers cdv A outer s H E).nox.env) fp0) (lcG (subE (rootE ((defBody s_are_tiers).getD 1 (.Pass ⟨0, 0, 0, 0⟩))) 2) 1).target (lcG (subE (rootE ((defBody s_are_tiers).getD 1 (.Pass ⟨0, 0, 0, 0⟩))) 2) 1).iter _); dsimp only [Cx.blk, Cx.tr, Cx.suite, Cx.nox, Cx.wish, cxOf] at h; exact h)) (fun _ _ _ _ _ => pg_name (i := 3) sc_are_tiers.nd rfl (Or.inl rfl)) (fun _ _ _ _ _ => pts_nil) (fun _ _ _ _ _ => (pv 3))) pa_nil)))))), ?_⟩
    have lx : xs.length = ds.length := ha.len
    have l20 := hw.1
    refine ⟨.ref t, rfl, t, rfl, ⟨_, .of ht⟩, fun D nD => ?_⟩
    refine lc_tup (K := K) (a := t) (xs := xs) (fun i H' => Same H H' ∧ H' D = some (.lst (((ds.take i).map tierD).map V.bl))) ⟨same_upd nD, upd_same⟩ (fun _ _ _ h => .of (h.1 _ _ ht)) ?_ ?_
    · rintro i x H1 hi ⟨s1, e1⟩
      obtain ⟨kk, hkk, hx⟩ := ha.get hi
      have hx := DAt.same s1 _ hx
      obtain ⟨ty, hty, k1, _⟩ := hx.ty (K := K)
      have fin : ∀ b, b = tierD kk → ∃ acc, H1 D = some (.lst acc) ∧ acc.length < sizeLine ∧ Same H (upd H1 D (.lst (acc ++ [V.bl b]))) ∧ (upd H1 D (.lst (acc ++ [V.bl b]))) D = some (.lst (((ds.take (i + 1)).map tierD).map V.bl)) := fun b e => by
        refine ⟨_, e1, ?_, same_mut s1 nD, ?_⟩
        · rw [List.length_map, List.length_map, List.length_take]
          exact small1000 (by omega)
        · rw [upd_same, take_more hkk, List.map_append, List.map_append, e]
          rfl
      refine ⟨rfl, x, rfl, x, _, ty, _, dT kk, rfl, .ty _, hty, k1, dT kk, rfl, ?_⟩
      cases kk with
      | tuple l =>
        obtain ⟨a1, ys, rfl, h1, h2⟩ := hx
        refine iteT ⟨.ref a1, rfl, a1, _, rfl, .inr (.of h1), _, _, rfl, rfl, fin _ ?_⟩
        rw [h2.len]
        exact decide_eq_decide.mpr ⟨fun h => by omega, fun h => by omega⟩
      | _ => exact iteF (fin _ rfl)
    · rintro H1 ⟨s1, e1⟩
      rw [lx, List.take_length] at e1
      refine ⟨D, _, rfl, .of e1, _, rfl, ?_⟩
      have ea : (ds.map tierD).all id = ds.all tierD := by rw [List.all_map]; rfl
      rw [ea]
      cases hs : ds.all tierD with
      | false =>
        refine iteT ?_
        have := q H1 s1
        unfold tiersD at this
        rw [hs] at this
        exact this
      | true =>
        have q : ∀ H', Same H H' → Q (.bl (unlikeD zs (ds.flatMap parts))) H' := fun H' s' => by
          have := q H' s'
          unfold tiersD at this
          rw [hs] at this
          exact this
        refine iteF ⟨.ref o, rfl, .ref t, rfl, t, rfl, ⟨_, .of (s1 _ _ ht)⟩, fun D2 nD2 => ?_⟩
        have every : ∀ {i : Nat} {k : PyData}, ds[i]? = some k → ∃ l, k = .tuple l := fun {i k} h => by
          have := List.all_eq_true.mp hs _ (List.mem_of_getElem? h)
          cases k with
          | tuple l => exact ⟨l, rfl⟩
          | _ => cases this
        refine outer_tup (K := K) (a := t) (xs := xs) (fun i H' => ∃ ys, Same H1 H' ∧ H' D2 = some (.lst ys) ∧ DAll H1 ((ds.take i).flatMap parts) ys) ⟨[], same_upd nD2, upd_same, rfl⟩ (fun _ _ ⟨_, h, _⟩ => .of (h _ _ (s1 _ _ ht))) ?_ ?_
        · rintro i x H2 hi ⟨ys, s2, e2, d2⟩
          obtain ⟨kk, hkk, hx⟩ := ha.get hi
          obtain ⟨l, rfl⟩ := every hkk
          obtain ⟨a1, us, rfl, h1, h2⟩ := hx
          have h1 := s1 _ _ h1
          have h2 := DAll.same s1 _ h2
          have lu : us.length = l.length := h2.len
          refine ⟨rfl, .ref a1, rfl, a1, rfl, ⟨_, .of (s2 _ _ h1)⟩, inner_tup (K := K) (b := a1) (ys := us) (fun j H' => ∃ zs', Same H1 H' ∧ H' D2 = some (.lst (ys ++ zs')) ∧ DAll H1 (l.take j) zs') ⟨[], s2, by rw [List.append_nil]; exact e2, rfl⟩ (fun _ _ ⟨_, h, _⟩ => .of (h _ _ h1)) ?_ ?_⟩
          · rintro j u H3 hj ⟨zs', s3, e3, d3⟩
            obtain ⟨ku, hku, hu⟩ := h2.get hj
            refine ⟨rfl, u, rfl, _, e3, ?_, zs' ++ [u], same_mut s3 nD2, by rw [upd_same, List.append_assoc], ?_⟩
            · have z1 := d2.len
              have z2 := d3.len
              have z3 : ((ds.take i).flatMap parts).length ≤ 400 := flat_le ⟨by rw [List.length_take]; omega, fun d hd => hw.2 d (List.mem_of_mem_take hd)⟩
              have z4 := hw.2 _ (List.mem_of_getElem? hkk)
              have z5 : (parts (.tuple l)).length = l.length := rfl
              rw [List.length_take] at z2
              rw [List.length_append]
              exact small1000 (by omega)
            · rw [take_more hku]
              exact d3.append (da1 hu da0)
          · rintro H3 ⟨zs', s3, e3, d3⟩
            rw [lu, List.take_length] at d3
            refine ⟨_, s3, e3, ?_⟩
            rw [take_more hkk, List.flatMap_append]
            exact d2.append (by simpa [parts] using d3)
        · rintro H2 ⟨ys, s2, e2, d2⟩
          rw [lx, List.take_length] at d2
          exact ⟨o, D2, zs, ys, _, rfl, s2 _ _ (s1 _ _ ho), .inl e2, DAll.same s2 _ d2, by have := flat_le hw; omega, fun H3 s3 => q H3 (s1.trans (s2.trans s3))⟩
end
section
variable {P : Program} {w : World} {K : PySem.W.Frag} {mg : Str → Option Value} {base : Heap}
theorem tupD_two : ∀ {d : PyData}, tupD d 2 = true → ∃ a b, d = .tuple [a, b]
  | .tuple [a, b], _ => ⟨a, b, rfl⟩
  | .tuple [], h => (by cases h)
  | .tuple [_], h => (by cases h)
  | .tuple (_ :: _ :: _ :: _), h => (by simp [tupD] at h)
  | .none, h => (by cases h)
  | .bool _, h => (by cases h)
  | .int _, h => (by cases h)
  | .str _, h => (by cases h)
  | .list _, h => (by cases h)
  | .dict _, h => (by cases h)
theorem pairD_two {d : PyData} (h : tupD d 2 = false) : pairD d = false := by
  unfold pairD
  split
  · simp [tupD] at h
  · rfl
theorem ballotD_two {zs : List Str} {d : PyData} (h : tupD d 2 = false) : ballotD zs d = false := by
  unfold ballotD
  split
  · simp [tupD] at h
  · rfl
def sp_are_marks : Sp := fun vs H Q _ => ∃ (o t : Addr) (zs : List Str) (xs : List V) (ds : List PyData), vs = [.ref o, .ref t] ∧ H o = some (.tup (zs.map V.str)) ∧ H t = some (.tup xs) ∧ DAll H ds xs ∧ ds.length ≤ 20 ∧ ∀ H', Same H H' → Q (.bl (marksD zs ds)) H'
theorem ok_are_marks (T : Txt K mg) : FnOk P w K mg base CX0 3 T.f_are_marks T.fd_are_marks ["options", "told"] sp_are_marks := by
  refine T.F_are_marks.ok sc_are_marks (fun vs H Q E h => ?_) (fun cdv A outer s H vs Q E hr h => ?_)
  · obtain ⟨o, t, zs, xs, ds, rfl, _⟩ := h
    rfl
  · obtain ⟨o, t, zs, xs, ds, rfl, ho, ht, ha, l20, q⟩ := h
    refine ⟨_, (pss_cons
 (ps_if (pt_not (pt_val (pe_callB (cr_all rfl) (by rfl) T.z_all (by decide +kernel) (pa_cons (pe_lc (own := [("pair", 2)]) (g := gName 2) (tt := tYes) rfl sc_are_marks.nd (pi_tup (pv 1)) (blkOk_by (own := [("pair", 2)]) (N := ["options", "told", "pair"]) (sc := (defScope s_are_marks)) (by decide +kernel)) (fun _ _ _ _ _ => pg_name (i := 2) sc_are_marks.nd rfl (Or.inl rfl)) (fun _ _ _ _ _ => pts_nil) (fun s0 H0 C0 cl0 fp0 => (by have h := ((pe_and (pe_call (ok_is_tuple_of T) (hr.mono (by decide)) (by rfl) T.g_is_tuple_of T.F_is_tuple_of.kp T.b_is_tuple_of .nil pass0 (pa_cons (pv 2) (pa_cons pe_int pa_nil))) (pe_one (pe_call (ok_is_mark T) (hr.mono (by decide)) (by rfl) T.g_is_mark T.F_is_mark.kp T.b_is_mark .nil pass0 (pa_cons (pe_ix ix_tup (pv 2) pe_int (fun _ _ => rfl)) pa_nil)))) : PE ((cxOf CX0 P w K mg base ["options", "told", "pair"] "are_marks" (defScope s_are_marks) T.f_are_marks cdv A outer s H E).nox.blk s0 H0 (lcScope (subE (subE (rootE ((defBody s_are_marks).getD 0 (.Pass ⟨0, 0, 0, 0⟩))) 0) 1)) (compEnvC (lcScope (subE (subE (rootE ((defBody s_are_marks).getD 0 (.Pass ⟨0, 0, 0, 0⟩))) 0) 1)) cl0 C0 (cxOf CX0 P w K mg base ["options", "told", "pair"] "are_marks" (defScope s_are_marks) T.f_are_marks cdv A outer s H E).nox.env) fp0) (subE (subE (subE (rootE ((defBody s_are_marks).getD 0 (.Pass ⟨0, 0, 0, 0⟩))) 0) 1) 0) _); dsimp only [Cx.blk, Cx.tr, Cx.suite, Cx.nox, Cx.wish, cxOf] at h; exact h))) pa_nil))))
 (pss_one
 (ps_ret pe_bl))
 pss_nil)
 (pss_one
 (ps_ret (pe_call (ok_are_unlike_options T) (hr.mono (by decide)) (by rfl) T.g_are_unlike_options T.F_are_unlike_options.kp T.b_are_unlike_options .nil pass0 (pa_cons (pv 0) (pa_cons (pe_lc (own := [("pair", 2)]) (g := gName 2) (tt := tYes) rfl sc_are_marks.nd (pi_tup (pv 1)) (blkOk_by (own := [("pair", 2)]) (N := ["options", "told", "pair"]) (sc := (defScope s_are_marks)) (by decide +kernel)) (fun _ _ _ _ _ => pg_name (i := 2) sc_are_marks.nd rfl (Or.inl rfl)) (fun _ _ _ _ _ => pts_nil) (fun s0 H0 C0 cl0 fp0 => (by have h := ((pe_ix ix_tup (pv 2) pe_int (fun _ _ => rfl)) : PE ((cxOf CX0 P w K mg base ["options", "told", "pair"] "are_marks" (defScope s_are_marks) T.f_are_marks cdv A outer s H E).nox.blk s0 H0 (lcScope (subE (rootE ((defBody s_are_marks).getD 1 (.Pass ⟨0, 0, 0, 0⟩))) 2)) (compEnvC (lcScope (subE (rootE ((defBody s_are_marks).getD 1 (.Pass ⟨0, 0, 0, 0⟩))) 2)) cl0 C0 (cxOf CX0 P w K mg base ["options", "told", "pair"] "are_marks" (defScope s_are_marks) T.f_are_marks cdv A outer s H E).nox.env) fp0) (subE (subE (rootE ((defBody s_are_marks).getD 1 (.Pass ⟨0, 0, 0, 0⟩))) 2) 0) _); dsimp only [Cx.blk, Cx.tr, Cx.suite, Cx.nox, Cx.wish, cxOf] at h; exact h))) pa_nil)))))), ?_⟩
    have lx : xs.length = ds.length := ha.len
    refine ⟨.ref t, rfl, t, rfl, ⟨_, .of ht⟩, fun D nD => ?_⟩
    refine lc_tup (K := K) (a := t) (xs := xs) (fun i H' => Same H H' ∧ H' D = some (.lst (((ds.take i).map pairD).map V.bl))) ⟨same_upd nD, upd_same⟩ (fun _ _ _ h => .of (h.1 _ _ ht)) ?_ ?_
    · rintro i x H1 hi ⟨s1, e1⟩
      obtain ⟨kk, hkk, hx⟩ := ha.get hi
      have hx := DAt.same s1 _ hx
      have fin : ∀ b, b = pairD kk → ∃ acc, H1 D = some (.lst acc) ∧ acc.length < sizeLine ∧ Same H (upd H1 D (.lst (acc ++ [V.bl b]))) ∧ (upd H1 D (.lst (acc ++ [V.bl b]))) D = some (.lst (((ds.take (i + 1)).map pairD).map V.bl)) := fun b e => by
        refine ⟨_, e1, ?_, same_mut s1 nD, ?_⟩
        · rw [List.length_map, List.length_map, List.length_take]
          exact small1000 (by omega)
        · rw [upd_same, take_more hkk, List.map_append, List.map_append, e]
          rfl
      refine ⟨rfl, x, rfl, x, 2, kk, rfl, hx, tupD kk 2, rfl, ?_⟩
      cases h2 : tupD kk 2 with
      | false => exact iteF (fin _ (pairD_two h2).symm)
      | true =>
        obtain ⟨a, b, rfl⟩ := tupD_two h2
        obtain ⟨a1, ys, rfl, h1, v0, r, rfl, _, v1, r2, rfl, hb, rfl⟩ := hx
        exact iteT ⟨.ref a1, rfl, a1, _, 1, v1, rfl, rfl, .of h1, atI_nat (j := 1) rfl, v1, b, rfl, hb, fin _ rfl⟩
    · rintro H1 ⟨s1, e1⟩
      rw [lx, List.take_length] at e1
      refine ⟨D, _, rfl, .of e1, _, rfl, ?_⟩
      have ea : (ds.map pairD).all id = ds.all pairD := by rw [List.all_map]; rfl
      rw [ea]
      cases hs : ds.all pairD with
      | false =>
        refine iteT ?_
        have := q H1 s1
        unfold marksD at this
        rw [hs] at this
        exact this
      | true =>
        have q : ∀ H', Same H H' → Q (.bl (unlikeD zs (ds.map firstD))) H' := fun H' s' => by
          have := q H' s'
          unfold marksD at this
          rw [hs] at this
          exact this
        refine iteF ⟨.ref o, rfl, .ref t, rfl, t, rfl, ⟨_, .of (s1 _ _ ht)⟩, fun D2 nD2 => ?_⟩
        refine lc_tup (K := K) (a := t) (xs := xs) (fun i H' => ∃ ys, Same H1 H' ∧ H' D2 = some (.lst ys) ∧ DAll H1 ((ds.take i).map firstD) ys) ⟨[], same_upd nD2, upd_same, rfl⟩ (fun _ _ _ ⟨_, h, _⟩ => .of (h _ _ (s1 _ _ ht))) ?_ ?_
        · rintro i x H2 hi ⟨ys, s2, e2, d2⟩
          obtain ⟨kk, hkk, hx⟩ := ha.get hi
          have hp := List.all_eq_true.mp hs _ (List.mem_of_getElem? hkk)
          have h2 : tupD kk 2 = true := by
            cases h : tupD kk 2 with
            | true => rfl
            | false => rw [pairD_two h] at hp; cases hp
          obtain ⟨a, b, rfl⟩ := tupD_two h2
          obtain ⟨a1, us, rfl, h1, v0, r, rfl, hv, v1, r2, rfl, _, rfl⟩ := hx
          refine ⟨rfl, .ref a1, rfl, a1, _, 0, v0, rfl, rfl, .of ((s1.trans s2) _ _ h1), atI_nat (j := 0) rfl, _, e2, ?_, ys ++ [v0], same_mut s2 nD2, upd_same, ?_⟩
          · rw [d2.len, List.length_map, List.length_take]
            exact small1000 (by omega)
          · rw [take_more hkk, List.map_append]
            exact d2.append (da1 (DAt.same s1 _ hv) da0)
        · rintro H2 ⟨ys, s2, e2, d2⟩
          rw [lx, List.take_length] at d2
          exact ⟨o, D2, zs, ys, _, rfl, s2 _ _ (s1 _ _ ho), .inl e2, DAll.same s2 _ d2, by rw [List.length_map]; omega, fun H3 s3 => q H3 (s1.trans (s2.trans s3))⟩
/-- no part too long: what a ballot's second half may be -/
def Fit : PyData → Prop
  | .tuple [_, .tuple l] => Wide l
  | _ => True
def sp_is_ballot : Sp := fun vs H Q _ => ∃ (o : Addr) (zs : List Str) (v : V) (d : PyData), vs = [.ref o, v] ∧ H o = some (.tup (zs.map V.str)) ∧ DAt H d v ∧ Fit d ∧ ∀ H', Same H H' → Q (.bl (ballotD zs d)) H'
theorem ok_is_ballot (T : Txt K mg) : FnOk P w K mg base CX0 4 T.f_is_ballot T.fd_is_ballot ["options", "thing"] sp_is_ballot := by
  refine T.F_is_ballot.ok sc_is_ballot (fun vs H Q E h => ?_) (fun cdv A outer s H vs Q E hr h => ?_)
  · obtain ⟨o, zs, v, d, rfl, _⟩ := h
    rfl
  · obtain ⟨o, zs, v, d, rfl, ho, hd, hf, q⟩ := h
    refine ⟨_, (pss_cons
 (ps_if (PW.pt (pw_or (pt_not (pt_val (pe_call (ok_is_tuple_of T) (hr.mono (by decide)) (by rfl) T.g_is_tuple_of T.F_is_tuple_of.kp T.b_is_tuple_of .nil pass0 (pa_cons (pv 1) (pa_cons pe_int pa_nil))))) (pw_or (pt_not (pt_val (pe_callB call_isi (by rfl) T.z_isinstance (by decide +kernel) (pa_cons (pe_ix ix_tup (pv 1) pe_int (fun _ _ => rfl)) (pa_cons (pe_bltn (v := .ty "str") (u := .type "str") rfl T.z_str (by decide +kernel) rfl) pa_nil))))) (pw_or1 (pt_not (pt_val (pe_callB call_isi (by rfl) T.z_isinstance (by decide +kernel) (pa_cons (pe_ix ix_tup (pv 1) pe_int (fun _ _ => rfl)) (pa_cons (pe_bltn (v := .ty "tuple") (u := .type "tuple") rfl T.z_tuple (by decide +kernel) rfl) pa_nil)))))))))
 (pss_one
 (ps_ret pe_bl))
 pss_nil)
 (pss_cons
 (ps_asg (pv 1) (pg_tup rfl (pgs_cons (pg_name (i := 2) sc_is_ballot.nd rfl (Or.inl rfl)) (pgs_cons (pg_name (i := 3) sc_is_ballot.nd rfl (Or.inl rfl)) pgs_nil))))
 (pss_cons
 (ps_if (pt_cmpR op_eq (pv 2) pe_str (nomark _))
 (pss_one
 (ps_ret (pe_call (ok_are_tiers T) (hr.mono (by decide)) (by rfl) T.g_are_tiers T.F_are_tiers.kp T.b_are_tiers .nil pass0 (pa_cons (pv 0) (pa_cons (pv 3) pa_nil)))))
 pss_nil)
 (pss_cons
 (ps_if (pt_cmpR op_eq (pv 2) pe_str (nomark _))
 (pss_one
 (ps_ret (pe_call (ok_are_unlike_options T) (hr.mono (by decide)) (by rfl) T.g_are_unlike_options T.F_are_unlike_options.kp T.b_are_unlike_options .nil pass0 (pa_cons (pv 0) (pa_cons (pv 3) pa_nil)))))
 pss_nil)
 (pss_cons
 (ps_if (pt_cmpR op_eq (pv 2) pe_str (nomark _))
 (pss_one
 (ps_ret (pe_call (ok_are_marks T) (hr.mono (by decide)) (by rfl) T.g_are_marks T.F_are_marks.kp T.b_are_marks .nil pass0 (pa_cons (pv 0) (pa_cons (pv 3) pa_nil)))))
 pss_nil)
 (pss_one
 (ps_ret pe_bl))))))), ?_⟩
    have q0 := q H (Same.refl H)
    refine ⟨v, rfl, v, 2, d, rfl, hd, tupD d 2, rfl, ?_⟩
    cases h2 : tupD d 2 with
    | false =>
      rw [ballotD_two h2] at q0
      exact iteT q0
    | true =>
      obtain ⟨a, b, rfl⟩ := tupD_two h2
      obtain ⟨p, xs, rfl, hp, v0, r, rfl, ha, v1, r2, rfl, hb, rfl⟩ := hd
      obtain ⟨t0, ht0, _, k0, _⟩ := ha.ty (K := K)
      refine iteF ⟨.ref p, rfl, p, _, 0, v0, rfl, rfl, .of hp, atI_nat (j := 0) rfl, v0, _, t0, _, dS a, rfl, .ty _, ht0, k0, dS a, rfl, ?_⟩
      cases a with
      | str f =>
        obtain ⟨t1, ht1, k1, _⟩ := hb.ty (K := K)
        refine iteF ⟨.ref p, rfl, p, _, 1, v1, rfl, rfl, .of hp, atI_nat (j := 1) rfl, v1, _, t1, _, dT b, rfl, .ty _, ht1, k1, dT b, rfl, ?_⟩
        cases b with
        | tuple l =>
          obtain ⟨pt, us, rfl, hpt, hl⟩ := hb
          rw [show v0 = V.str f from ha] at hp
          have wl : Wide l := hf
          refine iteF ⟨.ref p, rfl, p, _, rfl, .of hp, rfl, _, _, rfl, _, _, rfl, rfl, ?_⟩
          have es : ∀ z : Str, decide (V.str f = V.str z) = decide (f = z) := fun z => decide_eq_decide.mpr ⟨fun h => V.str.inj h, fun h => by rw [h]⟩
          have eq : ballotD zs (.tuple [.str f, .tuple l]) = if f = "order" then tiersD zs l else if f = "lets" then unlikeD zs l else if f = "marks" then marksD zs l else false := rfl
          rw [eq] at q q0
          refine ⟨.str f, rfl, rfl, _, rfl, ?_⟩
          rw [es]
          by_cases e1 : f = "order"
          · rw [decide_eq_true e1]
            rw [if_pos e1] at q
            exact iteT ⟨.ref o, rfl, .ref pt, rfl, o, pt, zs, us, l, rfl, ho, hpt, hl, wl, q⟩
          · rw [decide_eq_false e1]
            rw [if_neg e1] at q q0
            refine iteF ⟨.str f, rfl, rfl, _, rfl, ?_⟩
            rw [es]
            by_cases e2 : f = "lets"
            · rw [decide_eq_true e2]
              rw [if_pos e2] at q
              exact iteT ⟨.ref o, rfl, .ref pt, rfl, o, pt, zs, us, l, rfl, ho, .inr hpt, hl, by have := wl.1; omega, q⟩
            · rw [decide_eq_false e2]
              rw [if_neg e2] at q q0
              refine iteF ⟨.str f, rfl, rfl, _, rfl, ?_⟩
              rw [es]
              by_cases e3 : f = "marks"
              · rw [decide_eq_true e3]
                rw [if_pos e3] at q
                exact iteT ⟨.ref o, rfl, .ref pt, rfl, o, pt, zs, us, l, rfl, ho, hpt, hl, wl.1, q⟩
              · rw [decide_eq_false e3]
                rw [if_neg e3] at q0
                exact iteF q0
        | none => exact iteT q0
        | bool _ => exact iteT q0
        | int _ => exact iteT q0
        | str _ => exact iteT q0
        | list _ => exact iteT q0
        | dict _ => exact iteT q0
      | none => exact iteT q0
      | bool _ => exact iteT q0
      | int _ => exact iteT q0
      | tuple _ => exact iteT q0
      | list _ => exact iteT q0
      | dict _ => exact iteT q0
def BadE (C : Addr) (H : Hp) (E : XK) : Prop := ∀ (d : Addr) (fs : List (Str × V)) (H' : Hp), Same H H' → H d = none → H' d = some (.xd fs) → E (.ref C) (some d) H'
def sp_PollError_init (K : PySem.W.Frag) : Sp := fun vs H Q _ => ∃ (a C : Addr) (z : Str), vs = [.ref a, .str z] ∧ H a = some (exo a C none) ∧ OexC K C ∧ PySem.W.findIn K (.ref C) "why" = some none ∧
  ∀ dx, H dx = none → dx ≠ a → Q .non (upd (upd H dx (exd dx [("why", .str z)])) a (exo a C (some dx)))
theorem ok_PollError_init (T : Txt K mg) : FnOk P w K mg base CX0 1 T.f_PollError_init T.fd_PollError_init ["self", "why"] (sp_PollError_init K) := by
  refine T.F_PollError_init.ok (CX := CX0) sc_PollError_init (fun vs H Q E h => ?_) (fun cdv A outer s H vs Q E hr h => ?_)
  · obtain ⟨a, C, z, rfl, _⟩ := h
    rfl
  · obtain ⟨a, C, z, rfl, ha, hT, hno, q⟩ := h
    refine ⟨_, (pss_cons
 (ps_expr (pe_veinit (by rfl) T.z_ValueError T.vV (pa_cons (pv 0) (pa_cons (pv 1) pa_nil))))
 (pss_one
 (ps_ost (pv 0) (pv 1)))), ?_⟩
    refine ⟨.ref a, rfl, .str z, rfl, a, C, [.str z], rfl, (by show 1 ≤ 1000; decide), hT, ha, ?_⟩
    exact ⟨.str z, rfl, .ref a, rfl, a, C, rfl, hT, hno, .inl ⟨ha, fun dx n1 n2 => q dx n1 n2⟩⟩
end
theorem ok_int {n m : Nat} {i : Int} (h : PyData.leavesShort 40 (.int i) = true) (g : (PyData.int i).weight ≤ m) (f : (PyData.int i).showable = true) : Ok n m (.int i) := ⟨rfl, Nat.zero_le _, f, h, g⟩
theorem ok_small {z : Str} (h : NameOk z) : Ok 0 8 (.str z) := ok_str (small_ok h.2.2) h.2.1
def PieceD (wd : Str) (d : PyData) : Prop := (parts d).length ≤ 6 ∧ (((∃ z, d = .str z) ∧ wd ≠ "marks") ∨ ∃ a l, d = .tuple (a :: l))
/-! ### good ballots as data -/
def tyT (t : List Str) : PyData := .tuple (t.map PyData.str)
def mkT (m : Str × Int) : PyData := .tuple [.str m.1, .int m.2]
def Bal.word : Bal → Str
  | .order _ => "order"
  | .lets _ => "lets"
  | .marks _ => "marks"
def Bal.things : Bal → List PyData
  | .order ts => ts.map tyT
  | .lets ns => ns.map PyData.str
  | .marks ms => ms.map mkT
def Bal.data (b : Bal) : PyData := .tuple [.str b.word, .tuple b.things]
theorem DAll.of_map {α : Type} {H : Hp} {f : α → PyData} {g : α → V} : ∀ {l : List α}, (∀ a ∈ l, DAt H (f a) (g a)) → DAll H (l.map f) (l.map g)
  | [], _ => rfl
  | a :: l, h => ⟨_, _, rfl, h a List.mem_cons_self, DAll.of_map fun b hb => h b (List.mem_cons_of_mem _ hb)⟩
theorem BalAt.things {H : Hp} {t : Addr} : ∀ {b : Bal}, BalAt H t b → ∃ (u : Addr) (xs : List V), H t = some (.tup [.str b.word, .ref u]) ∧ H u = some (.tup xs) ∧ DAll H b.things xs
  | .order ts, ⟨u, bs, h1, h2, h3, h4⟩ => by
    refine ⟨u, _, h1, h2, ?_⟩
    show DAll H (ts.map tyT) _
    rw [← h4, List.map_map]
    exact DAll.of_map fun b hb => ⟨b.1, _, rfl, (h3 b hb).1, DAll.strs b.2⟩
  | .lets ns, ⟨u, h1, h2⟩ => ⟨u, _, h1, h2, DAll.strs ns⟩
  | .marks ms, ⟨u, bs, h1, h2, h3, h4⟩ => by
    refine ⟨u, _, h1, h2, ?_⟩
    show DAll H (ms.map mkT) _
    rw [← h4, List.map_map]
    exact DAll.of_map fun b hb => ⟨b.1, _, rfl, h3 b hb, da1 rfl (da1 rfl da0)⟩
theorem BalAt.data {H : Hp} {t : Addr} {b : Bal} (h : BalAt H t b) : DAt H b.data (.ref t) := by
  obtain ⟨u, xs, h1, h2, a⟩ := h.things
  exact ⟨t, _, rfl, h1, da1 rfl (da1 ⟨u, xs, rfl, h2, a⟩ da0)⟩
theorem flat_strsD : ∀ ts : List (List Str), (ts.map tyT).flatMap parts = ts.flatten.map PyData.str
  | [] => rfl
  | t :: ts => by
    rw [List.map_cons, List.flatMap_cons, flat_strsD ts, List.flatten_cons, List.map_append]
    rfl
theorem unS_strs : ∀ ws : List Str, (ws.map PyData.str).filterMap unS = ws
  | [] => rfl
  | a :: ws => by
    rw [List.map_cons, List.filterMap_cons]
    show a :: (ws.map PyData.str).filterMap unS = a :: ws
    rw [unS_strs ws]
theorem unlike_strs {zs ws : List Str} (h : ws.Nodup) (g : ∀ z ∈ ws, z ∈ zs) : unlikeD zs (ws.map PyData.str) = true := by
  unfold unlikeD
  rw [unS_strs, decide_eq_true h, Bool.and_true, List.all_eq_true]
  intro d hd
  obtain ⟨z, hz, rfl⟩ := List.mem_map.mp hd
  exact decide_eq_true (g z hz)
theorem firsts_marks : ∀ ms : List (Str × Int), (ms.map mkT).map firstD = (ms.map (·.1)).map PyData.str
  | [] => rfl
  | m :: ms => by
    rw [List.map_cons, List.map_cons, firsts_marks ms]
    rfl
theorem Bal.Ok.good {zs : List Str} : ∀ {b : Bal}, b.Ok zs → ballotD zs b.data = true
  | .order ts, h => by
    obtain ⟨h1, h2, h3⟩ := h
    show tiersD zs (ts.map tyT) = true
    unfold tiersD
    rw [flat_strsD, unlike_strs h1 h2, Bool.and_true, List.all_eq_true]
    intro d hd
    obtain ⟨t, ht, rfl⟩ := List.mem_map.mp hd
    cases t with
    | nil => exact absurd rfl (h3 _ ht)
    | cons a l => exact decide_eq_true (Nat.succ_pos (l.map PyData.str).length)
  | .lets ns, h => unlike_strs h.1 h.2
  | .marks ms, h => by
    obtain ⟨h1, h2, h3⟩ := h
    show marksD zs (ms.map mkT) = true
    unfold marksD
    rw [firsts_marks, unlike_strs h1 (fun z hz => by obtain ⟨m, hm, rfl⟩ := List.mem_map.mp hz; exact h2 m hm), Bool.and_true, List.all_eq_true]
    intro d hd
    obtain ⟨m, hm, rfl⟩ := List.mem_map.mp hd
    show (decide ((0 : Int) ≤ m.2) && decide (m.2 ≤ 9)) = true
    rw [decide_eq_true (h3 m hm).1, decide_eq_true (h3 m hm).2]
    rfl
theorem few {zs ws : List Str} (n : zs.length ≤ 6) (h : ws.Nodup) (g : ∀ z ∈ ws, z ∈ zs) : ws.length ≤ 6 := Nat.le_trans (h.length_le_of_subset g) n
theorem flat_few : ∀ {ts : List (List Str)}, (∀ t ∈ ts, t ≠ []) → ts.length ≤ ts.flatten.length
  | [], _ => Nat.le_refl _
  | t :: ts, h => by
    rw [List.flatten_cons, List.length_append, List.length_cons]
    have := flat_few fun u hu => h u (List.mem_cons_of_mem _ hu)
    have := List.length_pos_iff.mpr (h t List.mem_cons_self)
    omega
theorem part_few {t : List Str} : ∀ {ts : List (List Str)}, t ∈ ts → t.length ≤ ts.flatten.length
  | u :: ts, h => by
    rw [List.flatten_cons, List.length_append]
    rcases List.mem_cons.mp h with rfl | h
    · omega
    · have := part_few h
      omega
theorem Bal.Ok.few {zs : List Str} (n : zs.length ≤ 6) : ∀ {b : Bal}, b.Ok zs → b.things.length ≤ 6 ∧ ∀ d ∈ b.things, PieceD b.word d
  | .order ts, h => by
    obtain ⟨h1, h2, h3⟩ := h
    have f := Own.few n h1 h2
    refine ⟨by show (ts.map tyT).length ≤ 6; rw [List.length_map]; exact Nat.le_trans (flat_few h3) f, fun d hd => ?_⟩
    obtain ⟨t, ht, rfl⟩ := List.mem_map.mp hd
    refine ⟨by show (t.map PyData.str).length ≤ 6; rw [List.length_map]; exact Nat.le_trans (part_few ht) f, .inr ?_⟩
    cases t with
    | nil => exact absurd rfl (h3 _ ht)
    | cons a l => exact ⟨_, _, rfl⟩
  | .lets ns, h => by
    refine ⟨by show (ns.map PyData.str).length ≤ 6; rw [List.length_map]; exact Own.few n h.1 h.2, fun d hd => ?_⟩
    obtain ⟨z, hz, rfl⟩ := List.mem_map.mp hd
    exact ⟨Nat.zero_le _, .inl ⟨⟨z, rfl⟩, by show ("lets" : Str) ≠ "marks"; decide⟩⟩
  | .marks ms, h => by
    obtain ⟨h1, h2, h3⟩ := h
    have f := Own.few n h1 (fun z hz => by obtain ⟨m, hm, rfl⟩ := List.mem_map.mp hz; exact h2 m hm)
    rw [List.length_map] at f
    refine ⟨by show (ms.map mkT).length ≤ 6; rw [List.length_map]; exact f, fun d hd => ?_⟩
    obtain ⟨m, hm, rfl⟩ := List.mem_map.mp hd
    exact ⟨by show 2 ≤ 6; decide, .inr ⟨_, _, rfl⟩⟩
theorem OkA.of {n m : Nat} : ∀ {l : List PyData}, (∀ d ∈ l, Ok n m d) → OkA n (l.length * (m + 1)) l
  | [], _ => OkA.nil
  | d :: l, h => by
    refine ((OkA.cons (h d List.mem_cons_self) (OkA.of fun e he => h e (List.mem_cons_of_mem _ he)))).mono (Nat.le_refl _) ?_
    rw [List.length_cons, Nat.succ_mul]
    omega
theorem ok_mark {n : Nat} {i : Int} (h0 : 0 ≤ i) (h9 : i ≤ 9) : Ok n 8 (.int i) := by
  have : i = 0 ∨ i = 1 ∨ i = 2 ∨ i = 3 ∨ i = 4 ∨ i = 5 ∨ i = 6 ∨ i = 7 ∨ i = 8 ∨ i = 9 := by omega
  rcases this with rfl | rfl | rfl | rfl | rfl | rfl | rfl | rfl | rfl | rfl <;> exact ok_int (by decide +kernel) (by decide +kernel) (by decide +kernel)
theorem ok_names {t : List Str} (h : ∀ z ∈ t, NameOk z) (g : t.length ≤ 6) : Ok 1 54 (tyT t) := by
  have := OkA.of (n := 0) (m := 8) (l := t.map PyData.str) fun d hd => by
    obtain ⟨z, hz, rfl⟩ := List.mem_map.mp hd
    exact ok_small (h z hz)
  rw [List.length_map] at this
  exact (this.mono (Nat.le_refl _) (show t.length * 9 ≤ 54 by omega)).tuple
theorem Bal.Ok.okA {zs : List Str} (n : zs.length ≤ 6) (hz : ∀ z ∈ zs, NameOk z) : ∀ {b : Bal}, b.Ok zs → OkA 4 1000 b.things
  | .order ts, h => by
    have f := Bal.Ok.few n h
    obtain ⟨h1, h2, h3⟩ := h
    have f6 := Own.few n h1 h2
    have := OkA.of (n := 1) (m := 54) (l := ts.map tyT) fun d hd => by
      obtain ⟨t, ht, rfl⟩ := List.mem_map.mp hd
      exact ok_names (fun z h => hz z (h2 z (List.mem_flatten.mpr ⟨t, ht, h⟩))) (Nat.le_trans (part_few ht) f6)
    have l6 : (ts.map tyT).length ≤ 6 := f.1
    exact this.mono (by decide) (by omega)
  | .lets ns, h => by
    have l6 : (ns.map PyData.str).length ≤ 6 := (Bal.Ok.few (b := .lets ns) n h).1
    have := OkA.of (n := 0) (m := 8) (l := ns.map PyData.str) fun d hd => by
      obtain ⟨z, hz', rfl⟩ := List.mem_map.mp hd
      exact ok_small (hz z (h.2 z hz'))
    exact this.mono (by decide) (by omega)
  | .marks ms, h => by
    have l6 : (ms.map mkT).length ≤ 6 := (Bal.Ok.few (b := .marks ms) n h).1
    obtain ⟨h1, h2, h3⟩ := h
    have := OkA.of (n := 1) (m := 20) (l := ms.map mkT) fun d hd => by
      obtain ⟨m, hm, rfl⟩ := List.mem_map.mp hd
      exact ((OkA.cons (n := 0) (ok_small (hz _ (h2 m hm))) (OkA.cons (k := 0) (ok_mark (h3 m hm).1 (h3 m hm).2) OkA.nil)).mono (Nat.le_refl _) (by decide)).tuple
    exact this.mono (by decide) (by omega)
theorem Bal.wordOk : ∀ b : Bal, Own.Ok 0 8 (.str b.word)
  | .order _ => (ok_str (by decide +kernel) (by decide +kernel) : Own.Ok 0 8 (.str "order"))
  | .lets _ => (ok_str (by decide +kernel) (by decide +kernel) : Own.Ok 0 8 (.str "lets"))
  | .marks _ => (ok_str (by decide +kernel) (by decide +kernel) : Own.Ok 0 8 (.str "marks"))
theorem Bal.Ok.fit {zs : List Str} {b : Bal} (n : zs.length ≤ 6) (h : b.Ok zs) : Fit b.data := by
  obtain ⟨f1, f2⟩ := h.few n
  exact (⟨by omega, fun d hd => by have := (f2 d hd).1; omega⟩ : Wide b.things)
theorem BalAt.hid {p u : Addr} {H : Hp} {y : List V} {b : Bal} (hp : H p = some (.lst y)) (h : BalAt H u b) : BalAt (hide p H) u b := h.keep fun _ _ e => hid_tup hp e
/-! ### ranks, in plain words -/
def mkAt : List (Str × Int) → Str → Option Int
  | [], _ => none
  | m :: ms, z => if m.1 = z then some m.2 else mkAt ms z
def mT (ms : List (Str × Int)) : List (Key × V) := ms.map fun m => (.inr m.1, .int m.2)
theorem mT_val (z : Str) : ∀ ms : List (Str × Int), valV (mT ms) (.inr z) = (mkAt ms z).map V.int
  | [] => rfl
  | m :: ms => by
    by_cases e : m.1 = z
    · have h : valV (mT (m :: ms)) (.inr z) = some (V.int m.2) := valV_pos (p := ((.inr m.1 : Key), V.int m.2)) (r := mT ms) (congrArg Sum.inr e)
      rw [h]
      unfold mkAt
      rw [if_pos e] <;> rfl
    · have h : valV (mT (m :: ms)) (.inr z) = valV (mT ms) (.inr z) := valV_neg (p := ((.inr m.1 : Key), V.int m.2)) (r := mT ms) (fun q => e (Sum.inr.inj q))
      rw [h, mT_val z ms]
      show _ = Option.map V.int (if m.1 = z then some m.2 else mkAt ms z)
      rw [if_neg e]
theorem mk_none {z : Str} : ∀ {ms : List (Str × Int)}, z ∉ ms.map (·.1) → mkAt ms z = none
  | [], _ => rfl
  | m :: ms, h => by
    unfold mkAt
    rw [if_neg (fun e => h (by rw [← e]; exact List.mem_cons_self)), mk_none fun q => h (List.mem_cons_of_mem _ q)]
theorem mk_some {ms : List (Str × Int)} (n : (ms.map (·.1)).Nodup) : ∀ {i : Nat} {m : Str × Int}, ms[i]? = some m → mkAt ms m.1 = some m.2 := by
  induction ms with
  | nil => intro i m h; cases h
  | cons a ms ih =>
    intro i m h
    have n2 := List.nodup_cons.mp n
    unfold mkAt
    cases i with
    | zero => cases h; rw [if_pos rfl]
    | succ i =>
      have h : ms[i]? = some m := h
      have hm : m.1 ∈ ms.map (·.1) := List.mem_map.mpr ⟨m, List.mem_of_getElem? h, rfl⟩
      rw [if_neg (fun e => n2.1 (by show a.1 ∈ _; rw [e]; exact hm))]
      exact ih n2.2 h
theorem mT_put {ms : List (Str × Int)} {m : Str × Int} (h : m.1 ∉ ms.map (·.1)) : putK (mT ms) (.inr m.1) (.int m.2) = mT (ms ++ [m]) := by
  rw [putK_new _ (by rw [mT_val, mk_none h]; rfl)]
  unfold mT
  rw [List.map_append]
  rfl
/-- the rank that the program gives, the height that the law gives -/
def Bal.rk : Bal → Str → Int
  | .order ts, z => place ts z
  | .lets ns, z => if z ∈ ns then 0 else 1
  | .marks ms, z => -((mkAt ms z).getD 0)
def Bal.hi : Bal → Str → Int
  | .order ts, z => if z ∈ ts.flatten then 99 - place ts z else 0
  | .lets ns, z => if z ∈ ns then 1 else 0
  | .marks ms, z => (mkAt ms z).getD 0
theorem Bal.turn {b : Bal} {zs : List Str} (n : zs.length ≤ 6) (h : b.Ok zs) (y z : Str) : b.rk y < b.rk z ↔ b.hi z < b.hi y := by
  cases b with
  | order ts =>
    have f := (Bal.Ok.few (b := .order ts) n h).1
    have f : (ts.map tyT).length ≤ 6 := f
    rw [List.length_map] at f
    show ((place ts y : Nat) : Int) < (place ts z : Nat) ↔ (if z ∈ ts.flatten then (99 : Int) - (place ts z : Nat) else 0) < (if y ∈ ts.flatten then (99 : Int) - (place ts y : Nat) else 0)
    have l1 := place_le y ts
    have l2 := place_le z ts
    by_cases hy : y ∈ ts.flatten <;> by_cases hz : z ∈ ts.flatten
    · rw [if_pos hy, if_pos hz]
      omega
    · rw [if_pos hy, if_neg hz, place_out hz]
      have := place_lt hy
      omega
    · rw [if_neg hy, if_pos hz, place_out hy]
      have := place_lt hz
      omega
    · rw [if_neg hy, if_neg hz, place_out hy, place_out hz]
      omega
  | lets ns =>
    show (if y ∈ ns then (0 : Int) else 1) < (if z ∈ ns then 0 else 1) ↔ (if z ∈ ns then (1 : Int) else 0) < (if y ∈ ns then 1 else 0)
    by_cases hy : y ∈ ns <;> by_cases hz : z ∈ ns <;> simp [hy, hz]
  | marks ms =>
    show -((mkAt ms y).getD 0) < -((mkAt ms z).getD 0) ↔ (mkAt ms z).getD 0 < (mkAt ms y).getD 0
    omega
section
variable {P : Program} {w : World} {K : PySem.W.Frag} {mg : Str → Option Value} {base : Heap}
/-! ### an option, or NoOption -/
def sp_NoOption_init (C : Addr) : Sp := fun vs H Q _ => ∃ (a : Addr) (v : V), vs = [.ref a, v] ∧ H a = some (exo a C none) ∧ ∀ dx, H dx = none → dx ≠ a → Q .non (upd (upd H dx (exd dx [("name", v)])) a (exo a C (some dx)))
theorem ok_NoOption_init (T : Txt K mg) : FnOk P w K mg base CX0 1 T.f_NoOption_init T.fd_NoOption_init ["self", "name"] (sp_NoOption_init T.C_NoOption) := by
  refine T.F_NoOption_init.ok sc_NoOption_init (fun vs H Q E h => ?_) (fun cdv A outer s H vs Q E hr h => ?_)
  · obtain ⟨a, v, rfl, _⟩ := h
    rfl
  · obtain ⟨a, v, rfl, ha, q⟩ := h
    refine ⟨_, (pss_one
 (ps_kst (pv 0) (pv 1))), ?_⟩
    exact ⟨v, rfl, .ref a, rfl, a, T.C_NoOption, rfl, T.ok_NoOption, T.nf_NoOption_name, ha, fun dx n1 n2 => q dx n1 n2⟩
/-- what is raised of what is none of the options -/
def NoOpt (C : Addr) (v : V) (H : Hp) (E : XK) : Prop := ∀ (dx : Addr) (fs : List (Str × V)) (H' : Hp), Same H H' → H dx = none → H' dx = some (.xd fs) → fs.lookup ("name" : Str) = some v → E (.ref C) (some dx) H'
def sp_check_option (C : Addr) : Sp := fun vs H Q E => ∃ (o : Addr) (zs : List Str) (v : V) (d : PyData), vs = [.ref o, v] ∧ H o = some (.tup (zs.map V.str)) ∧ DAt H d v ∧ (optD zs d = true → Q .non H) ∧ (optD zs d = false → NoOpt C v H E)
theorem ok_check_option (T : Txt K mg) : FnOk P w K mg base (L2.CX P w) 3 T.f_check_option T.fd_check_option ["options", "name"] (sp_check_option T.C_NoOption) := by
  refine T.F_check_option.okX sc_check_option (fun vs H Q E h => ?_) (fun cdv A outer s H vs Q E hr h => ?_)
  · obtain ⟨o, zs, v, d, rfl, _⟩ := h
    rfl
  · obtain ⟨o, zs, v, d, rfl, ho, hd, qt, qf⟩ := h
    refine ⟨_, (pss_one
 (ps_if (pt_not (pt_val (pe_call (ok_is_option T) (hr.mono (by decide)) (by rfl) T.g_is_option T.F_is_option.kp T.b_is_option .nil pass0 (pa_cons (pv 0) (pa_cons (pv 1) pa_nil)))))
 (pss_one
 (ps_raise rfl (takes_of rfl rfl rfl rfl) (px_pos T.ex_NoOption (ok_NoOption_init T) (hr.mono (by decide)) (by rfl) T.k_NoOption T.kb_NoOption_init_2 (fun σ => at0 σ) (pa_cons (pv 1) pa_nil))))
 pss_nil)), ?_⟩
    refine ⟨.ref o, rfl, v, rfl, o, zs, v, d, rfl, ho, hd, _, rfl, ?_⟩
    cases hb : optD zs d with
    | true => exact iteF (qt hb)
    | false =>
      refine iteT ⟨v, rfl, rfl, rfl, by decide, fun x nx => ⟨x, v, rfl, upd_same, fun dx n1 n2 => ⟨rfl, dx, _, upd_same, by rw [upd_ne n2, upd_same], ?_, ?_⟩⟩⟩
      · rw [upd_ne n2] at n1
        exact n1
      · rw [upd_ne n2] at n1
        refine qf hb dx _ _ (fun y o ho => ?_) n1 upd_same rfl
        have y1 : y ≠ dx := ne_of_none ho n1
        have y2 : y ≠ x := ne_of_none ho nx
        rw [upd_ne y1, del_ne y2, upd_ne y2, upd_ne y1, upd_ne y2]
        exact ho
end
section
variable {P : Program} {w : World} {K : PySem.W.Frag} {mg : Str → Option Value} {base : Heap}
/-! ### ranks by an order -/
theorem mem_part {z : Str} {t : List Str} {ts : List (List Str)} {i : Nat} (h : ts[i]? = some t) (m : z ∈ t) : z ∈ ts.flatten := List.mem_flatten.mpr ⟨t, List.mem_of_getElem? h, m⟩
def sp_order_ranks : Sp := fun vs H Q _ => ∃ (o u : Addr) (zs : List Str) (bs : List (Addr × List Str)), vs = [.ref o, .ref u] ∧ H o = some (.tup (zs.map V.str)) ∧ H u = some (.tup (bs.map fun b => V.ref b.1)) ∧ Tiers H bs ∧ zs.Nodup ∧ zs.length ≤ 100 ∧ bs.length ≤ 100 ∧ (bs.map (·.2)).flatten.Nodup ∧ (∀ z ∈ (bs.map (·.2)).flatten, z ∈ zs) ∧
  ∀ (D : Addr) (H' : Hp), Same H H' → H D = none → H' D = some (.dK (tab zs fun z => place (bs.map (·.2)) z)) → Q (.ref D) H'
theorem ok_order_ranks (T : Txt K mg) : FnOk P w K mg base CX0 1 T.f_order_ranks T.fd_order_ranks ["options", "told"] sp_order_ranks := by
  refine T.F_order_ranks.ok sc_order_ranks (fun vs H Q E h => ?_) (fun cdv A outer s H vs Q E hr h => ?_)
  · obtain ⟨o, u, zs, bs, rfl, _⟩ := h
    rfl
  · obtain ⟨o, u, zs, bs, rfl, ho, hu, ht, nd, lz, lb, fn, fm, q⟩ := h
    refine ⟨_, (pss_cons
 (ps_setDc (i := 2) (own := [("name", 5)]) (g := gName 5) (tt := tYes) rfl sc_order_ranks.nd rfl rfl (swD_true rfl rfl rfl (by decide +kernel)) (pi_tup (pv 0)) (blkOk_by (own := [("name", 5)]) (N := ["options", "told", "found", "at", "tier", "name"]) (sc := (defScope s_order_ranks)) (by decide +kernel)) (fun _ _ _ _ _ => pg_name (i := 5) sc_order_ranks.nd rfl (Or.inl rfl)) (fun _ _ _ _ _ => pts_nil) (fun _ _ _ _ _ => (pv 5)) (fun s0 H0 C0 cl0 fp0 => (by have h := ((pe_callB call_len_seq (by rfl) T.z_len (by decide +kernel) (pa_cons (pv 1) pa_nil)) : PE ((cxOf CX0 P w K mg base ["options", "told", "found", "at", "tier", "name"] "order_ranks" (defScope s_order_ranks) T.f_order_ranks cdv A outer s H E).nox.blk s0 H0 (lcScope (rootE ((defBody s_order_ranks).getD 0 (.Pass ⟨0, 0, 0, 0⟩)))) (compEnvC (lcScope (rootE ((defBody s_order_ranks).getD 0 (.Pass ⟨0, 0, 0, 0⟩)))) cl0 C0 (cxOf CX0 P w K mg base ["options", "told", "found", "at", "tier", "name"] "order_ranks" (defScope s_order_ranks) T.f_order_ranks cdv A outer s H E).nox.env) fp0) (subE (rootE ((defBody s_order_ranks).getD 0 (.Pass ⟨0, 0, 0, 0⟩))) 1) _); dsimp only [Cx.blk, Cx.tr, Cx.suite, Cx.nox, Cx.wish, cxOf] at h; exact h)))
 (pss_cons
 (ps_for PassesOwn.never rfl (pi_enumT (by rfl) T.z_enumerate (pv 1)) (pg_tup rfl (pgs_cons (pg_name (i := 3) sc_order_ranks.nd rfl (Or.inl rfl)) (pgs_cons (pg_name (i := 4) sc_order_ranks.nd rfl (Or.inl rfl)) pgs_nil)))
 (pss_one
 (ps_for PassesOwn.never rfl (pi_tup (pv 4)) (pg_name (i := 5) sc_order_ranks.nd rfl (Or.inl rfl))
 (pss_one
 (ps_dput (hu_of hr) (pv 2) (pv 5) (pv 3) (by rfl))))))
 (pss_one
 (ps_ret (pv 2))))), ?_⟩
    generalize hts : bs.map (·.2) = ts at fn fm q
    have lt : ts.length = bs.length := by rw [← hts, List.length_map]
    refine ⟨.ref o, rfl, o, rfl, ⟨_, .of ho⟩, fun D nD => ?_⟩
    refine dc_tup (K := K) (a := o) (xs := zs.map V.str) (fun i H' => Same H H' ∧ H' D = some (.dK (tab (zs.take i) fun _ => (ts.length : Int)))) ⟨same_upd nD, upd_same⟩ (fun _ _ _ h => .of (h.1 _ _ ho)) ?_ ?_
    · rintro i x H1 hi ⟨s1, e1⟩
      obtain ⟨z, hz, rfl⟩ := item_map hi
      have zn : z ∉ zs.take i := fun m => nodup_out nd hz m
      refine ⟨rfl, .str z, rfl, .ref u, rfl, u, _, rfl, .inr (.of (s1 _ _ hu)), _, .inr z, rfl, e1, ?_, same_mut s1 nD, ?_⟩
      · rw [tab_len, List.length_take]
        exact small1000 (by omega)
      · rw [upd_same, tab_new (f := fun _ => (ts.length : Int)) zn (by rw [List.length_map, lt]), ← take_more hz]
    · rintro H1 ⟨s1, e1⟩
      rw [List.length_map, List.take_length] at e1
      have hu1 := s1 _ _ hu
      let fin : List Str → Str → Int := fun seen z => if z ∈ seen then (place ts z : Nat) else (ts.length : Nat)
      refine ⟨.ref u, rfl, u, _, rfl, .of hu1, for_it walk_enumT (fun i σ H' => ∃ x3 x4 x5 : Option V, σ = [some (.ref o), some (.ref u), some (.ref D), x3, x4, x5] ∧ Same H H' ∧ H' D = some (.dK (tab zs (fin (ts.take i).flatten))))
        ⟨none, none, none, rfl, s1, ?_⟩ (fun _ _ _ _ ⟨_, _, _, _, h, _⟩ => .of (h _ _ hu)) ?_ ?_⟩
      · rw [e1]
        exact congrArg (fun l => some (HO.dK l)) (tab_congr fun z _ => (if_neg (by simp)).symm)
      · rintro i x σ H2 H3 hi ⟨x3, x4, x5, rfl, s2, e2⟩ ⟨Tt, a, b, rfl, nT, rfl, ea, eb⟩
        cases ea
        obtain ⟨bb, hb, rfl⟩ := item_map eb
        have s3 : Same H2 _ := same_upd (o := HO.tup [V.int (i : Int), V.ref bb.1]) nT
        have e3 := s3 _ _ e2
        have s3' := s2.trans s3
        have hbt := ht bb (List.mem_of_getElem? hb)
        have tsi : ts[i]? = some bb.2 := by rw [← hts, List.getElem?_map, hb]; rfl
        refine ⟨Tt, _, rfl, .of upd_same, rfl, _, _, rfl, _, _, rfl, rfl, ?_⟩
        refine ⟨.ref bb.1, rfl, bb.1, rfl, ⟨_, .of (s3' _ _ hbt.1)⟩, for_tup (K := K) (a := bb.1) (xs := bb.2.map V.str) (fun j σ H' => ∃ x5 : Option V, σ = [some (.ref o), some (.ref u), some (.ref D), some (.int i), some (.ref bb.1), x5] ∧ Same H H' ∧ H' D = some (.dK (tab zs (fin ((ts.take i).flatten ++ bb.2.take j)))))
          ⟨x5, rfl, s3', ?_⟩ (fun _ _ _ _ ⟨_, _, h, _⟩ => .of (h _ _ hbt.1)) ?_ ?_⟩
        · rw [List.take_zero, List.append_nil]
          exact e3
        · rintro j x σ H4 hj ⟨x5, rfl, s4, e4⟩
          obtain ⟨z, hz, rfl⟩ := item_map hj
          have mz : z ∈ bb.2 := List.mem_of_getElem? hz
          have zz := fm z (mem_part tsi mz)
          refine ⟨.int i, rfl, .ref D, rfl, .str z, rfl, D, _, rfl, DPut.k (k := .inr z) e4 ?_, some (.str z), rfl, same_mut s4 nD, ?_⟩
          · rw [tab_len]
            exact small1000 (by omega)
          · rw [upd_same, tab_put zz]
            refine congrArg (fun l => some (HO.dK l)) (tab_congr fun y _ => ?_)
            show (if y = z then (i : Int) else if y ∈ (ts.take i).flatten ++ bb.2.take j then ((place ts y : Nat) : Int) else (ts.length : Nat)) = if y ∈ (ts.take i).flatten ++ bb.2.take (j + 1) then ((place ts y : Nat) : Int) else (ts.length : Nat)
            rw [take_more hz, ← List.append_assoc]
            by_cases e : y = z
            · rw [if_pos e, if_pos (by rw [e]; exact List.mem_append_right _ (List.mem_singleton.mpr rfl)), e, place_at fn tsi mz]
            · rw [if_neg e]
              have : (y ∈ (ts.take i).flatten ++ bb.2.take j ++ [z]) ↔ y ∈ (ts.take i).flatten ++ bb.2.take j := by
                rw [List.mem_append, List.mem_singleton]
                exact ⟨fun h => h.resolve_right e, .inl⟩
              by_cases m : y ∈ (ts.take i).flatten ++ bb.2.take j
              · rw [if_pos m, if_pos (this.mpr m)]
              · rw [if_neg m, if_neg fun h => m (this.mp h)]
        · rintro σ H4 ⟨x5, rfl, s4, e4⟩
          rw [List.length_map, List.take_length] at e4
          refine ⟨_, _, _, rfl, s4, ?_⟩
          rw [take_more tsi, List.flatten_append]
          simpa using e4
      · rintro σ H2 ⟨x3, x4, x5, rfl, s2, e2⟩
        refine ⟨.ref D, rfl, q D H2 s2 nD ?_⟩
        rw [List.length_map, ← lt, List.take_length] at e2
        rw [e2]
        refine congrArg (fun l => some (HO.dK l)) (tab_congr fun z _ => ?_)
        show (if z ∈ ts.flatten then ((place ts z : Nat) : Int) else (ts.length : Nat)) = (place ts z : Nat)
        by_cases m : z ∈ ts.flatten
        · rw [if_pos m]
        · rw [if_neg m, place_out m]
/-! ### ranks -/
def sp_ranks : Sp := fun vs H Q _ => ∃ (o t : Addr) (zs : List Str) (b : Bal), vs = [.ref o, .ref t] ∧ H o = some (.tup (zs.map V.str)) ∧ BalAt H t b ∧ b.Ok zs ∧ zs.Nodup ∧ zs.length ≤ 6 ∧
  ∀ (D : Addr) (H' : Hp), Same H H' → H D = none → H' D = some (.dK (tab zs b.rk)) → Q (.ref D) H'
theorem ok_ranks (T : Txt K mg) : FnOk P w K mg base CX0 2 T.f_ranks T.fd_ranks ["options", "ballot"] sp_ranks := by
  refine T.F_ranks.ok sc_ranks (fun vs H Q E h => ?_) (fun cdv A outer s H vs Q E hr h => ?_)
  · obtain ⟨o, t, zs, b, rfl, _⟩ := h
    rfl
  · obtain ⟨o, t, zs, b, rfl, ho, hb, bok, nd, lz, q⟩ := h
    refine ⟨_, (pss_cons
 (ps_asg (pv 1) (pg_tup rfl (pgs_cons (pg_name (i := 2) sc_ranks.nd rfl (Or.inl rfl)) (pgs_cons (pg_name (i := 3) sc_ranks.nd rfl (Or.inr rfl)) pgs_nil))))
 (pss_cons
 (ps_if (pt_cmpR op_eq (pv 2) pe_str (nomark _))
 (pss_one
 (ps_ret (pe_call (ok_order_ranks T) (hr.mono (by decide)) (by rfl) T.g_order_ranks T.F_order_ranks.kp T.b_order_ranks .nil pass0 (pa_cons (pv 0) (pa_cons (pv 3) pa_nil)))))
 pss_nil)
 (pss_cons
 (ps_if (pt_cmpR op_eq (pv 2) pe_str (nomark _))
 (pss_one
 (ps_ret (pe_dc (own := [("name", 5)]) (g := gName 5) (tt := tYes) rfl sc_ranks.nd (pi_tup (pv 0)) (blkOk_by (own := [("name", 5)]) (N := ["options", "ballot", "form", "told", "marks", "name", "mark"]) (sc := (defScope s_ranks)) (by decide +kernel)) (fun _ _ _ _ _ => pg_name (i := 5) sc_ranks.nd rfl (Or.inl rfl)) (fun _ _ _ _ _ => pts_nil) (fun _ _ _ _ _ => (pv 5)) (fun s0 H0 C0 cl0 fp0 => (by have h := ((pe_ifExp (pt_cmpR op_in_seq (pv 5) (pv 3) rfl) pe_int pe_int) : PE ((cxOf CX0 P w K mg base ["options", "ballot", "form", "told", "marks", "name", "mark"] "ranks" (defScope s_ranks) T.f_ranks cdv A outer s H E).nox.blk s0 H0 (lcScope (rootE ((blkOf ((defBody s_ranks).getD 2 (.Pass ⟨0, 0, 0, 0⟩)) 0).getD 0 (.Pass ⟨0, 0, 0, 0⟩)))) (compEnvC (lcScope (rootE ((blkOf ((defBody s_ranks).getD 2 (.Pass ⟨0, 0, 0, 0⟩)) 0).getD 0 (.Pass ⟨0, 0, 0, 0⟩)))) cl0 C0 (cxOf CX0 P w K mg base ["options", "ballot", "form", "told", "marks", "name", "mark"] "ranks" (defScope s_ranks) T.f_ranks cdv A outer s H E).nox.env) fp0) (subE (rootE ((blkOf ((defBody s_ranks).getD 2 (.Pass ⟨0, 0, 0, 0⟩)) 0).getD 0 (.Pass ⟨0, 0, 0, 0⟩))) 1) _); dsimp only [Cx.blk, Cx.tr, Cx.suite, Cx.nox, Cx.wish, cxOf] at h; exact h)))))
 pss_nil)
 (pss_cons
 (ps_set (i := 4) sc_ranks.nd rfl (Or.inr rfl) (pe_dc (own := [("name", 5), ("mark", 6)]) (tt := tYes) rfl sc_ranks.nd (pi_tup (pv 3)) (blkOk_by (own := [("name", 5), ("mark", 6)]) (N := ["options", "ballot", "form", "told", "marks", "name", "mark"]) (sc := (defScope s_ranks)) (by decide +kernel)) (fun s0 H0 C0 cl0 fp0 => (by have h := (pg_tup (n := 2) rfl (pgs_cons (pg_name (i := 5) sc_ranks.nd rfl (Or.inl rfl)) (pgs_cons (pg_name (i := 6) sc_ranks.nd rfl (Or.inl rfl)) pgs_nil)) : PG ((cxOf CX0 P w K mg base ["options", "ballot", "form", "told", "marks", "name", "mark"] "ranks" (defScope s_ranks) T.f_ranks cdv A outer s H E).nox.blk s0 H0 (lcScope (rootE ((defBody s_ranks).getD 3 (.Pass ⟨0, 0, 0, 0⟩)))) (compEnvC (lcScope (rootE ((defBody s_ranks).getD 3 (.Pass ⟨0, 0, 0, 0⟩)))) cl0 C0 (cxOf CX0 P w K mg base ["options", "ballot", "form", "told", "marks", "name", "mark"] "ranks" (defScope s_ranks) T.f_ranks cdv A outer s H E).nox.env) fp0) (subE (rootE ((defBody s_ranks).getD 3 (.Pass ⟨0, 0, 0, 0⟩))) 3) _); dsimp only [Cx.blk, Cx.tr, Cx.suite, Cx.nox, Cx.wish, cxOf] at h; exact h)) (fun _ _ _ _ _ => pts_nil) (fun _ _ _ _ _ => (pv 5)) (fun _ _ _ _ _ => (pv 6))))
 (pss_one
 (ps_ret (pe_dc (own := [("name", 5)]) (g := gName 5) (tt := tYes) rfl sc_ranks.nd (pi_tup (pv 0)) (blkOk_by (own := [("name", 5)]) (N := ["options", "ballot", "form", "told", "marks", "name", "mark"]) (sc := (defScope s_ranks)) (by decide +kernel)) (fun _ _ _ _ _ => pg_name (i := 5) sc_ranks.nd rfl (Or.inl rfl)) (fun _ _ _ _ _ => pts_nil) (fun _ _ _ _ _ => (pv 5)) (fun s0 H0 C0 cl0 fp0 => (by have h := ((pe_un un_neg (pe_dget2 (hu_of hr) (pv 4) (pv 5) pe_int ⟨by rfl, by rfl, by rfl, by rfl⟩)) : PE ((cxOf CX0 P w K mg base ["options", "ballot", "form", "told", "marks", "name", "mark"] "ranks" (defScope s_ranks) T.f_ranks cdv A outer s H E).nox.blk s0 H0 (lcScope (rootE ((defBody s_ranks).getD 4 (.Pass ⟨0, 0, 0, 0⟩)))) (compEnvC (lcScope (rootE ((defBody s_ranks).getD 4 (.Pass ⟨0, 0, 0, 0⟩)))) cl0 C0 (cxOf CX0 P w K mg base ["options", "ballot", "form", "told", "marks", "name", "mark"] "ranks" (defScope s_ranks) T.f_ranks cdv A outer s H E).nox.env) fp0) (subE (rootE ((defBody s_ranks).getD 4 (.Pass ⟨0, 0, 0, 0⟩))) 1) _); dsimp only [Cx.blk, Cx.tr, Cx.suite, Cx.nox, Cx.wish, cxOf] at h; exact h))))))))), ?_⟩
    have few := (bok.few lz).1
    cases b with
    | order ts =>
      obtain ⟨u, bs, h1, h2, h3, h4⟩ := hb
      obtain ⟨b1, b2, b3⟩ := bok
      have lb : bs.length ≤ 6 := by
        have e : bs.length = ts.length := by rw [← h4, List.length_map]
        have : (ts.map tyT).length ≤ 6 := few
        rw [List.length_map] at this
        omega
      rw [← h4] at b1 b2
      refine ⟨.ref t, rfl, t, _, rfl, .of h1, rfl, _, _, rfl, _, _, rfl, rfl, ?_⟩
      refine ⟨.str "order", rfl, rfl, _, rfl, iteT ?_⟩
      exact ⟨.ref o, rfl, .ref u, rfl, o, u, zs, bs, rfl, ho, h2, h3, nd, by omega, by omega, b1, b2, fun D H' s n e => q D H' s n (by rw [e, h4]; rfl)⟩
    | lets ns =>
      obtain ⟨u, h1, h2⟩ := hb
      refine ⟨.ref t, rfl, t, _, rfl, .of h1, rfl, _, _, rfl, _, _, rfl, rfl, ?_⟩
      refine ⟨.str "lets", rfl, rfl, _, rfl, iteF ?_⟩
      refine ⟨.str "lets", rfl, rfl, _, rfl, iteT ?_⟩
      refine ⟨.ref o, rfl, o, rfl, ⟨_, .of ho⟩, fun D nD => ?_⟩
      refine dc_tup (K := K) (a := o) (xs := zs.map V.str) (fun i H' => Same H H' ∧ H' D = some (.dK (tab (zs.take i) (Bal.lets ns).rk))) ⟨same_upd nD, upd_same⟩ (fun _ _ _ h => .of (h.1 _ _ ho)) ?_ ?_
      · rintro i x H1 hi ⟨s1, e1⟩
        obtain ⟨z, hz, rfl⟩ := item_map hi
        have zn : z ∉ zs.take i := fun m => nodup_out nd hz m
        have small : (tab (zs.take i) (Bal.lets ns).rk).length < sizeLine := by
          rw [tab_len, List.length_take]
          exact small1000 (by omega)
        refine ⟨rfl, .str z, rfl, .str z, rfl, .ref u, rfl, u, _, rfl, .inr (.of (s1 _ _ h2)), rfl, flat_strs ns, ?_⟩
        refine ⟨_, rfl, ?_⟩
        rw [inV_str]
        by_cases m : z ∈ ns
        · rw [decide_eq_true m]
          refine iteT ⟨_, .inr z, rfl, e1, small, same_mut s1 nD, ?_⟩
          rw [upd_same, tab_new (f := (Bal.lets ns).rk) zn (show (0 : Int) = if z ∈ ns then 0 else 1 by rw [if_pos m]), ← take_more hz]
        · rw [decide_eq_false m]
          refine iteF ⟨_, .inr z, rfl, e1, small, same_mut s1 nD, ?_⟩
          rw [upd_same, tab_new (f := (Bal.lets ns).rk) zn (show (1 : Int) = if z ∈ ns then 0 else 1 by rw [if_neg m]), ← take_more hz]
      · rintro H1 ⟨s1, e1⟩
        rw [List.length_map, List.take_length] at e1
        exact q D H1 s1 nD e1
    | marks ms =>
      obtain ⟨u, bs, h1, h2, h3, h4⟩ := hb
      obtain ⟨b1, b2, b3⟩ := bok
      have lb : bs.length ≤ 6 := by
        have e : bs.length = ms.length := by rw [← h4, List.length_map]
        have : (ms.map mkT).length ≤ 6 := few
        rw [List.length_map] at this
        omega
      refine ⟨.ref t, rfl, t, _, rfl, .of h1, rfl, _, _, rfl, _, _, rfl, rfl, ?_⟩
      refine ⟨.str "marks", rfl, rfl, _, rfl, iteF ?_⟩
      refine ⟨.str "marks", rfl, rfl, _, rfl, iteF ?_⟩
      refine ⟨.ref u, rfl, u, rfl, ⟨_, .of h2⟩, fun M nM => ?_⟩
      refine dc_tup (K := K) (a := u) (xs := bs.map fun b => V.ref b.1) (fun i H' => Same H H' ∧ H' M = some (.dK (mT (ms.take i)))) ⟨same_upd nM, upd_same⟩ (fun _ _ _ h => .of (h.1 _ _ h2)) ?_ ?_
      · rintro i x H1 hi ⟨s1, e1⟩
        obtain ⟨bb, hbb, rfl⟩ := item_map hi
        have hm : ms[i]? = some bb.2 := by rw [← h4, List.getElem?_map, hbb]; rfl
        have out : bb.2.1 ∉ (ms.take i).map (·.1) := by
          rw [List.map_take]
          exact nodup_out b1 (by rw [List.getElem?_map, hm]; rfl)
        refine ⟨bb.1, _, rfl, .of (s1 _ _ (h3 bb (List.mem_of_getElem? hbb))), rfl, _, _, rfl, _, _, rfl, rfl, rfl, .str bb.2.1, rfl, .int bb.2.2, rfl, _, .inr bb.2.1, rfl, e1, ?_, same_mut s1 nM, ?_⟩
        · unfold mT
          rw [List.length_map, List.length_take]
          exact small1000 (by have : ms.length = bs.length := by rw [← h4, List.length_map]
                              omega)
        · rw [upd_same, mT_put out, ← take_more hm]
      · rintro H1 ⟨s1, e1⟩
        have lm : ms.length = bs.length := by rw [← h4, List.length_map]
        rw [List.length_map, ← lm, List.take_length] at e1
        have ho1 := s1 _ _ ho
        refine ⟨.ref o, rfl, o, rfl, ⟨_, .of ho1⟩, fun D nD => ?_⟩
        have nD0 := s1.free nD
        refine dc_tup (K := K) (a := o) (xs := zs.map V.str) (fun i H' => Same H1 H' ∧ H' D = some (.dK (tab (zs.take i) (Bal.marks ms).rk))) ⟨same_upd nD, upd_same⟩ (fun _ _ _ h => .of (h.1 _ _ ho1)) ?_ ?_
        · rintro i x H2 hi ⟨s2, e2⟩
          obtain ⟨z, hz, rfl⟩ := item_map hi
          have zn : z ∉ zs.take i := fun m => nodup_out nd hz m
          have e1' := s2 _ _ e1
          refine ⟨rfl, .str z, rfl, .ref M, rfl, M, rfl, .inl ⟨_, .inl e1'⟩, .str z, rfl, _, DGet.k (k := .inr z) e1', ?_⟩
          rw [mT_val]
          refine ⟨(mkAt ms z).getD 0, ?_, _, .inr z, rfl, e2, ?_, same_mut s2 nD, ?_⟩
          · cases mkAt ms z <;> rfl
          · rw [tab_len, List.length_take]
            exact small1000 (by omega)
          · rw [upd_same]
            show some (HO.dK (putK (tab (zs.take i) (Bal.marks ms).rk) (.inr z) (V.int (-((mkAt ms z).getD 0))))) = _
            rw [tab_new (f := (Bal.marks ms).rk) (n := -((mkAt ms z).getD 0)) zn rfl, ← take_more hz]
        · rintro H2 ⟨s2, e2⟩
          rw [List.length_map, List.take_length] at e2
          exact q D H2 (s1.trans s2) nD0 e2
end
/-! ### polls, good ones -/
/-- the poll of options at o and rows at u stands at p -/
def pollF (o u : Addr) : List (Str × V) := putF "voices" (.ref u) (putF "options" (.ref o) [])
theorem pollF_options (o u : Addr) : (pollF o u).lookup ("options" : Str) = some (.ref o) := by
  unfold pollF
  rw [lookup_putF, if_neg (by decide +kernel), lookup_putF, if_pos rfl]
theorem pollF_voices (o u : Addr) : (pollF o u).lookup ("voices" : Str) = some (.ref u) := by
  unfold pollF
  rw [lookup_putF, if_pos rfl]
def PollAt (C : Addr) (H : Hp) (p o u : Addr) : Prop := ∃ dx, H p = some (.ins C dx (pollF o u))
theorem PollAt.same {C : Addr} {H H' : Hp} {p o u : Addr} (s : Same H H') (h : PollAt C H p o u) : PollAt C H' p o u := by
  obtain ⟨dx, h⟩ := h
  exact ⟨dx, s _ _ h⟩
theorem BalAt.same {H H' : Hp} {t : Addr} {b : Bal} (s : Same H H') (h : BalAt H t b) : BalAt H' t b := h.keep fun _ _ e => s _ _ e
theorem RowsAt.same {H H' : Hp} {u : Addr} {rows : List (Bal × Int)} (s : Same H H') (h : RowsAt H u rows) : RowsAt H' u rows := h.keep fun _ _ e => s _ _ e
theorem sign_a {c : Nat} (h : 97 ≤ c) : (!decide ((⟨#[c]⟩ : Str).cps.toList < ("a" : Str).cps.toList)) = true := by
  have e : ("a" : Str).cps.toList = [97] := by decide +kernel
  rw [e]
  show (!decide ([c] < [97])) = true
  rw [decide_eq_false fun z => ?_] <;> try rfl
  rcases List.cons_lt_cons_iff.mp z with z | z
  · omega
  · exact absurd z.2 (List.lt_irrefl _)
theorem sign_z {c : Nat} (h : c ≤ 122) : (!decide (("z" : Str).cps.toList < (⟨#[c]⟩ : Str).cps.toList)) = true := by
  have e : ("z" : Str).cps.toList = [122] := by decide +kernel
  rw [e]
  show (!decide ([122] < [c])) = true
  rw [decide_eq_false fun z => ?_] <;> try rfl
  rcases List.cons_lt_cons_iff.mp z with z | z
  · omega
  · exact absurd z.2 (List.lt_irrefl _)
/-- options as they must be -/
structure OptsOk (zs : List Str) : Prop where
  some : zs ≠ []
  few : zs.length ≤ 6
  nodup : zs.Nodup
  names : ∀ z ∈ zs, NameOk z
section
variable {P : Program} {w : World} {K : PySem.W.Frag} {mg : Str → Option Value} {base : Heap}
def sp_is_name : Sp := fun vs H Q _ => ∃ z : Str, vs = [.str z] ∧ NameOk z ∧ ∀ H', Same H H' → Q (.bl true) H'
theorem ok_is_name (T : Txt K mg) : FnOk P w K mg base CX0 1 T.f_is_name T.fd_is_name ["thing"] sp_is_name := by
  refine T.F_is_name.ok sc_is_name (fun vs H Q E h => ?_) (fun cdv A outer s H vs Q E hr h => ?_)
  · obtain ⟨z, rfl, _⟩ := h
    rfl
  · obtain ⟨z, rfl, hz, q⟩ := h
    refine ⟨_, (pss_cons
 (ps_if (pt_not (pt_val (pe_callB call_isi (by rfl) T.z_isinstance (by decide +kernel) (pa_cons (pv 0) (pa_cons (pe_bltn (v := .ty "str") (u := .type "str") rfl T.z_str (by decide +kernel) rfl) pa_nil)))))
 (pss_one
 (ps_ret pe_bl))
 pss_nil)
 (pss_cons
 (ps_if (pt_not (pt_chain op_le op_le pe_int (pe_callB call_len_str (by rfl) T.z_len (by decide +kernel) (pa_cons (pv 0) pa_nil)) (pe_glob (v := .int 8) rfl T.c_LONGEST_NAME ⟨_, rfl⟩)))
 (pss_one
 (ps_ret pe_bl))
 pss_nil)
 (pss_one
 (ps_ret (pe_callB (cr_all rfl) (by rfl) T.z_all (by decide +kernel) (pa_cons (pe_lc (own := [("sign", 1)]) (g := gName 1) (tt := tYes) rfl sc_is_name.nd (pi_str (pv 0)) (blkOk_by (own := [("sign", 1)]) (N := ["thing", "sign"]) (sc := (defScope s_is_name)) (by decide +kernel)) (fun _ _ _ _ _ => pg_name (i := 1) sc_is_name.nd rfl (Or.inl rfl)) (fun _ _ _ _ _ => pts_nil) (fun _ _ _ _ _ => (pe_chain op_le_str op_le_str pe_str (pv 1) pe_str))) pa_nil)))))), ?_⟩
    obtain ⟨h1, h8, hs⟩ := hz
    obtain ⟨t, ht, _, k2, _⟩ := (show DAt H (.str z) (.str z) from rfl).ty (K := K)
    refine ⟨.str z, rfl, .str z, _, t, _, true, rfl, .ty _, ht, k2, true, rfl, iteF ?_⟩
    refine ⟨.str z, rfl, z, rfl, line_of (by omega), 1, _, rfl, rfl, _, rfl, ite2 (fun _ => ?_) (fun e => absurd (decide_eq_true (show (1 : Int) ≤ (z.length : Int) by omega)) e)⟩
    refine ⟨_, 8, rfl, rfl, _, rfl, ?_⟩
    show if (!decide ((z.length : Int) ≤ 8)) = true then _ else _
    rw [decide_eq_true (show (z.length : Int) ≤ 8 by omega)]
    refine iteF ?_
    refine ⟨.str z, rfl, z, rfl, fun D nD => ?_⟩
    refine lc_it walk_str (fun i H' => Same H H' ∧ H' D = some (.lst ((List.replicate i true).map V.bl))) ⟨same_upd nD, upd_same⟩ (fun _ _ _ _ => trivial) ?_ ?_
    · rintro i x H1 H2 hi ⟨s1, e1⟩ ⟨rfl, c, hc, rfl⟩
      have hc2 : z.cps.toList[i]? = some c := by rw [Array.getElem?_toList]; exact hc
      obtain ⟨c1, c2⟩ := hs c (List.mem_of_getElem? hc2)
      have il := (List.getElem?_eq_some_iff.mp hc2).1
      have l8 : z.cps.toList.length = z.length := by simp [Str.length]
      refine ⟨rfl, .str ⟨#[c]⟩, rfl, _, _, rfl, rfl, _, rfl, ite2 (fun _ => ?_) (fun e => absurd (sign_a c1) e)⟩
      refine ⟨_, _, rfl, rfl, _, e1, small1000 (by rw [List.length_map, List.length_replicate]; omega), same_mut s1 nD, ?_⟩
      rw [upd_same, sign_z c2, List.replicate_succ', List.map_append]
      rfl
    · rintro H1 ⟨s1, e1⟩
      refine ⟨D, _, rfl, .of e1, ?_⟩
      have ea : ∀ n, (List.replicate n true).all id = true := fun n => by induction n with
        | zero => rfl
        | succ n ih => rw [List.replicate_succ, List.all_cons, ih] <;> rfl
      rw [ea]
      exact q _ s1
def sp_are_names : Sp := fun vs H Q _ => ∃ (o : Addr) (zs : List Str), vs = [.ref o] ∧ H o = some (.tup (zs.map V.str)) ∧ OptsOk zs ∧ ∀ H', Same H H' → Q (.bl true) H'
theorem ok_are_names (T : Txt K mg) : FnOk P w K mg base CX0 2 T.f_are_names T.fd_are_names ["thing"] sp_are_names := by
  refine T.F_are_names.ok sc_are_names (fun vs H Q E h => ?_) (fun cdv A outer s H vs Q E hr h => ?_)
  · obtain ⟨o, zs, rfl, _⟩ := h
    rfl
  · obtain ⟨o, zs, rfl, ho, ok, q⟩ := h
    refine ⟨_, (pss_cons
 (ps_if (PW.pt (pw_or (pt_not (pt_val (pe_callB call_isi (by rfl) T.z_isinstance (by decide +kernel) (pa_cons (pv 0) (pa_cons (pe_bltn (v := .ty "tuple") (u := .type "tuple") rfl T.z_tuple (by decide +kernel) rfl) pa_nil))))) (pw_or1 (pt_cmpR op_eq (pe_callB call_len_seq (by rfl) T.z_len (by decide +kernel) (pa_cons (pv 0) pa_nil)) pe_int (nomark _)))))
 (pss_one
 (ps_ret pe_bl))
 pss_nil)
 (pss_one
 (ps_ret (pe_and (pe_callB (cr_all rfl) (by rfl) T.z_all (by decide +kernel) (pa_cons (pe_lc (own := [("name", 1)]) (g := gName 1) (tt := tYes) rfl sc_are_names.nd (pi_tup (pv 0)) (blkOk_by (own := [("name", 1)]) (N := ["thing", "name"]) (sc := (defScope s_are_names)) (by decide +kernel)) (fun _ _ _ _ _ => pg_name (i := 1) sc_are_names.nd rfl (Or.inl rfl)) (fun _ _ _ _ _ => pts_nil) (fun _ _ _ _ _ => (pe_call (ok_is_name T) (hr.mono (by decide)) (by rfl) T.g_is_name T.F_is_name.kp T.b_is_name .nil pass0 (pa_cons (pv 1) pa_nil)))) pa_nil)) (pe_one (pe_cmpR op_eq (pe_unlike rfl (by rfl) T.z_len (by rfl) T.z_set (pv 0)) (pe_callB call_len_seq (by rfl) T.z_len (by decide +kernel) (pa_cons (pv 0) pa_nil)) (nomark _))))))), ?_⟩
    obtain ⟨ty, hty, k1, _⟩ := (show DAt H (.tuple (zs.map PyData.str)) (.ref o) from ⟨o, _, rfl, ho, DAll.strs zs⟩).ty (K := K)
    have pos : 0 < zs.length := List.length_pos_iff.mpr ok.some
    refine ⟨.ref o, rfl, .ref o, _, ty, _, true, rfl, .ty _, hty, k1, true, rfl, iteF ?_⟩
    refine ⟨.ref o, rfl, o, _, rfl, .inr (.of ho), rfl, _, rfl, ite2 (fun e => ?_) (fun _ => ?_)⟩
    · have e := V.int.inj (of_decide_eq_true e)
      rw [List.length_map] at e
      omega
    · refine ⟨.ref o, rfl, o, rfl, ⟨_, .of ho⟩, fun D nD => ?_⟩
      refine lc_tup (K := K) (a := o) (xs := zs.map V.str) (fun i H' => Same H H' ∧ H' D = some (.lst ((List.replicate i true).map V.bl))) ⟨same_upd nD, upd_same⟩ (fun _ _ _ h => .of (h.1 _ _ ho)) ?_ ?_
      · rintro i x H1 hi ⟨s1, e1⟩
        obtain ⟨z, hz, rfl⟩ := item_map hi
        have il := (List.getElem?_eq_some_iff.mp hz).1
        have few := ok.few
        refine ⟨rfl, .str z, rfl, z, rfl, ok.names z (List.mem_of_getElem? hz), fun H2 s2 => ⟨_, s2 _ _ e1, small1000 (by rw [List.length_map, List.length_replicate]; omega), same_mut (s1.trans s2) nD, ?_⟩⟩
        rw [upd_same, List.replicate_succ', List.map_append]
        rfl
      · rintro H1 ⟨s1, e1⟩
        refine ⟨D, _, rfl, .of e1, ?_⟩
        have ea : ∀ n, (List.replicate n true).all id = true := fun n => by induction n with
          | zero => rfl
          | succ n ih => rw [List.replicate_succ, List.all_cons, ih] <;> rfl
        rw [ea]
        have few := ok.few
        refine ⟨_, rfl, iteT ⟨.ref o, rfl, o, zs, rfl, .inr (.of (s1 _ _ ho)), by omega, .ref o, rfl, o, _, rfl, .inr (.of (s1 _ _ ho)), rfl, ?_⟩⟩
        rw [met_all ok.nodup, List.length_map, decide_eq_true rfl]
        exact q _ s1
def sp_are_options : Sp := fun vs H Q _ => ∃ (o : Addr) (zs : List Str), vs = [.ref o] ∧ H o = some (.tup (zs.map V.str)) ∧ OptsOk zs ∧ ∀ H', Same H H' → Q (.bl true) H'
theorem ok_are_options (T : Txt K mg) : FnOk P w K mg base CX0 3 T.f_are_options T.fd_are_options ["thing"] sp_are_options := by
  refine T.F_are_options.ok sc_are_options (fun vs H Q E h => ?_) (fun cdv A outer s H vs Q E hr h => ?_)
  · obtain ⟨o, zs, rfl, _⟩ := h
    rfl
  · obtain ⟨o, zs, rfl, ho, ok, q⟩ := h
    refine ⟨_, (pss_one
 (ps_ret (pe_and (pe_call (ok_are_names T) (hr.mono (by decide)) (by rfl) T.g_are_names T.F_are_names.kp T.b_are_names .nil pass0 (pa_cons (pv 0) pa_nil)) (pe_one (pe_cmpR op_le (pe_callB call_len_seq (by rfl) T.z_len (by decide +kernel) (pa_cons (pv 0) pa_nil)) (pe_glob (v := .int 6) rfl T.c_MOST_OPTIONS ⟨_, rfl⟩) (nomark _)))))), ?_⟩
    refine ⟨.ref o, rfl, o, zs, rfl, ho, ok, fun H1 s1 => ⟨_, rfl, iteT ⟨.ref o, rfl, o, _, rfl, .inr (.of (s1 _ _ ho)), _, _, rfl, rfl, ?_⟩⟩⟩
    have few := ok.few
    have e : decide (((zs.map V.str).length : Int) ≤ 6) = true := decide_eq_true (by rw [List.length_map]; omega)
    show Q (.bl (decide (((zs.map V.str).length : Int) ≤ 6))) H1
    rw [e]
    exact q _ s1
def sp_is_row : Sp := fun vs H Q _ => ∃ (o r t : Addr) (zs : List Str) (b : Bal) (m : Int), vs = [.ref o, .ref r] ∧ H o = some (.tup (zs.map V.str)) ∧ H r = some (.tup [.ref t, .int m]) ∧ BalAt H t b ∧ b.Ok zs ∧ zs.length ≤ 6 ∧ 1 ≤ m ∧ m ≤ 1000000 ∧ ∀ H', Same H H' → Q (.bl true) H'
theorem ok_is_row (T : Txt K mg) : FnOk P w K mg base CX0 5 T.f_is_row T.fd_is_row ["options", "thing"] sp_is_row := by
  refine T.F_is_row.ok sc_is_row (fun vs H Q E h => ?_) (fun cdv A outer s H vs Q E hr h => ?_)
  · obtain ⟨o, r, t, zs, b, m, rfl, _⟩ := h
    rfl
  · obtain ⟨o, r, t, zs, b, m, rfl, ho, hrow, hb, bok, n6, m1, m2, q⟩ := h
    refine ⟨_, (pss_cons
 (ps_if (PW.pt (pw_or (pt_not (pt_val (pe_call (ok_is_tuple_of T) (hr.mono (by decide)) (by rfl) T.g_is_tuple_of T.F_is_tuple_of.kp T.b_is_tuple_of .nil pass0 (pa_cons (pv 1) (pa_cons pe_int pa_nil))))) (pw_or1 (pt_not (pt_val (pe_call (ok_is_ballot T) (hr.mono (by decide)) (by rfl) T.g_is_ballot T.F_is_ballot.kp T.b_is_ballot .nil pass0 (pa_cons (pv 0) (pa_cons (pe_ix ix_tup (pv 1) pe_int (fun _ _ => rfl)) pa_nil))))))))
 (pss_one
 (ps_ret pe_bl))
 pss_nil)
 (pss_one
 (ps_ret (pe_and (pe_call (ok_is_whole T) (hr.mono (by decide)) (by rfl) T.g_is_whole T.F_is_whole.kp T.b_is_whole .nil pass0 (pa_cons (pe_ix ix_tup (pv 1) pe_int (fun _ _ => rfl)) pa_nil)) (pe_one (pe_chain op_le op_le pe_int (pe_ix ix_tup (pv 1) pe_int (fun _ _ => rfl)) (pe_glob (v := .int 1000000) rfl T.c_MOST_VOICES ⟨_, rfl⟩))))))), ?_⟩
    have dr : DAt H (.tuple [b.data, .int m]) (.ref r) := ⟨r, _, rfl, hrow, da1 hb.data (da1 rfl da0)⟩
    refine ⟨.ref r, rfl, .ref r, 2, _, rfl, dr, true, rfl, iteF ?_⟩
    refine ⟨.ref o, rfl, .ref r, rfl, r, _, 0, .ref t, rfl, rfl, .of hrow, atI_nat (j := 0) rfl, o, zs, .ref t, b.data, rfl, ho, hb.data, bok.fit n6, fun H1 s1 => ?_⟩
    rw [bok.good]
    refine ⟨true, rfl, iteF ?_⟩
    refine ⟨.ref r, rfl, r, _, 1, .int m, rfl, rfl, .of (s1 _ _ hrow), atI_nat (j := 1) rfl, .int m, .int m, rfl, rfl, true, rfl, iteT ?_⟩
    refine ⟨.ref r, rfl, r, _, 1, .int m, rfl, rfl, .of (s1 _ _ hrow), atI_nat (j := 1) rfl, _, _, rfl, rfl, _, rfl, ite2 (fun _ => ?_) (fun e => absurd (decide_eq_true m1) e)⟩
    refine ⟨_, _, rfl, rfl, ?_⟩
    show Q (.bl (decide (m ≤ 1000000))) H1
    rw [decide_eq_true m2]
    exact q _ s1
def sp_check_poll : Sp := fun vs H Q _ => ∃ (o u : Addr) (zs : List Str) (rows : List (Bal × Int)), vs = [.ref o, .ref u] ∧ H o = some (.tup (zs.map V.str)) ∧ RowsAt H u rows ∧ OptsOk zs ∧ RowsOk zs 30 rows ∧ ∀ H', Same H H' → Q .non H'
theorem ok_check_poll (T : Txt K mg) : FnOk P w K mg base (L2.CX P w) 6 T.f_check_poll T.fd_check_poll ["options", "voices"] sp_check_poll := by
  refine T.F_check_poll.okX sc_check_poll (fun vs H Q E h => ?_) (fun cdv A outer s H vs Q E hr h => ?_)
  · obtain ⟨o, u, zs, rows, rfl, _⟩ := h
    rfl
  · obtain ⟨o, u, zs, rows, rfl, ho, ⟨as, hu, ha, hm⟩, ok, rok, q⟩ := h
    refine ⟨_, (pss_cons
 (ps_if (pt_not (pt_val (pe_call (ok_are_options T) (hr.mono (by decide)) (by rfl) T.g_are_options T.F_are_options.kp T.b_are_options .nil pass0 (pa_cons (pv 0) pa_nil))))
 (pss_one
 (ps_raise rfl (takes_of rfl rfl rfl rfl) (px_pos T.ex_BadPoll (ok_PollError_init T) (hr.mono (by decide)) (by rfl) T.k_BadPoll T.kb_PollError_init_2 (fun σ => at0 σ) (pa_cons pe_str pa_nil))))
 pss_nil)
 (pss_cons
 (ps_if (PW.pt (pw_or (pt_not (pt_val (pe_callB call_isi (by rfl) T.z_isinstance (by decide +kernel) (pa_cons (pv 1) (pa_cons (pe_bltn (v := .ty "tuple") (u := .type "tuple") rfl T.z_tuple (by decide +kernel) rfl) pa_nil))))) (pw_or1 (pt_cmpR op_gt (pe_callB call_len_seq (by rfl) T.z_len (by decide +kernel) (pa_cons (pv 1) pa_nil)) (pe_glob (v := .int 30) rfl T.c_MOST_ROWS ⟨_, rfl⟩) (nomark _)))))
 (pss_one
 (ps_raise rfl (takes_of rfl rfl rfl rfl) (px_pos T.ex_BadPoll (ok_PollError_init T) (hr.mono (by decide)) (by rfl) T.k_BadPoll T.kb_PollError_init_2 (fun σ => at0 σ) (pa_cons pe_str pa_nil))))
 pss_nil)
 (pss_one
 (ps_if (pt_not (pt_val (pe_callB (cr_all rfl) (by rfl) T.z_all (by decide +kernel) (pa_cons (pe_lc (own := [("row", 2)]) (g := gName 2) (tt := tYes) rfl sc_check_poll.nd (pi_tup (pv 1)) (blkOk_by (own := [("row", 2)]) (N := ["options", "voices", "row"]) (sc := (defScope s_check_poll)) (by decide +kernel)) (fun _ _ _ _ _ => pg_name (i := 2) sc_check_poll.nd rfl (Or.inl rfl)) (fun _ _ _ _ _ => pts_nil) (fun _ _ _ _ _ => (pe_call (ok_is_row T) (hr.mono (by decide)) (by rfl) T.g_is_row T.F_is_row.kp T.b_is_row .nil pass0 (pa_cons (pv 0) (pa_cons (pv 2) pa_nil))))) pa_nil))))
 (pss_one
 (ps_raise rfl (takes_of rfl rfl rfl rfl) (px_pos T.ex_BadPoll (ok_PollError_init T) (hr.mono (by decide)) (by rfl) T.k_BadPoll T.kb_PollError_init_2 (fun σ => at0 σ) (pa_cons pe_str pa_nil))))
 pss_nil)))), ?_⟩
    have la : as.length = rows.length := by rw [← hm, List.length_map]
    have l30 := rok.1
    refine ⟨.ref o, rfl, o, zs, rfl, ho, ok, fun H1 s1 => ⟨true, rfl, iteF ?_⟩⟩
    have hu1 := s1 _ _ hu
    refine ⟨.ref u, rfl, .ref u, _, _, _, true, rfl, .ty _, .base (.tup hu1), kit_ty (show kitB "tuple" "tuple" = some true by decide +kernel), true, rfl, iteF ?_⟩
    refine ⟨.ref u, rfl, u, _, rfl, .inr (.of hu1), _, _, rfl, rfl, _, rfl, ite2 (fun e => ?_) (fun _ => ?_)⟩
    · have e := of_decide_eq_true e
      rw [List.length_map] at e
      omega
    · refine ⟨.ref u, rfl, u, rfl, ⟨_, .of hu1⟩, fun D nD => ?_⟩
      have nDH := s1.free nD
      refine lc_tup (K := K) (a := u) (xs := as.map fun a => V.ref a.1) (fun i H' => Same H H' ∧ H' D = some (.lst ((List.replicate i true).map V.bl))) ⟨s1.trans (same_upd nD), upd_same⟩ (fun _ _ _ h => .of (h.1 _ _ hu)) ?_ ?_
      · rintro i x H2 hi ⟨s2, e2⟩
        obtain ⟨a, hai, rfl⟩ := item_map hi
        have il := (List.getElem?_eq_some_iff.mp hai).1
        obtain ⟨h1, h2⟩ := ha a (List.mem_of_getElem? hai)
        obtain ⟨bok, m1, m2⟩ := rok.2 a.2.2 (by rw [← hm]; exact List.mem_map.mpr ⟨a, List.mem_of_getElem? hai, rfl⟩)
        refine ⟨rfl, .ref o, rfl, .ref a.1, rfl, o, a.1, a.2.1, zs, a.2.2.1, a.2.2.2, rfl, s2 _ _ ho, s2 _ _ h1, h2.same s2, bok, ok.few, m1, m2, fun H3 s3 => ⟨_, s3 _ _ e2, small1000 (by rw [List.length_map, List.length_replicate]; omega), same_mut (s2.trans s3) nDH, ?_⟩⟩
        rw [upd_same, List.replicate_succ', List.map_append]
        rfl
      · rintro H2 ⟨s2, e2⟩
        refine ⟨D, _, rfl, .of e2, ?_⟩
        have ea : ∀ n, (List.replicate n true).all id = true := fun n => by induction n with
          | zero => rfl
          | succ n ih => rw [List.replicate_succ, List.all_cons, ih] <;> rfl
        rw [ea]
        exact ⟨_, rfl, iteF (q _ s2)⟩
def sp_Poll_init (C : Addr) : Sp := fun vs H Q _ => ∃ (p dx o u : Addr) (zs : List Str) (rows : List (Bal × Int)), vs = [.ref p, .ref o, .ref u] ∧ H p = some (.ins C dx []) ∧ H o = some (.tup (zs.map V.str)) ∧ RowsAt H u rows ∧ OptsOk zs ∧ RowsOk zs 30 rows ∧
  ∀ H', But p H H' → H' p = some (.ins C dx (pollF o u)) → Q .non H'
theorem ok_Poll_init (T : Txt K mg) : FnOk P w K mg base (L2.CX P w) 7 T.f_Poll_init T.fd_Poll_init ["self", "options", "voices"] (sp_Poll_init T.C_Poll) := by
  refine T.F_Poll_init.ok (CX := L2.CX P w) sc_Poll_init (fun vs H Q E h => ?_) (fun cdv A outer s H vs Q E hr h => ?_)
  · obtain ⟨p, dx, o, u, zs, rows, rfl, _⟩ := h
    rfl
  · obtain ⟨p, dx, o, u, zs, rows, rfl, hp, ho, hu, ok, rok, q⟩ := h
    refine ⟨_, (pss_cons
 (ps_expr (pf_pos (ok_check_poll T) (hr.mono (by decide)) (by rfl) T.g_check_poll T.F_check_poll.kp T.kb_check_poll_2 (fun σ => atN σ) (pa_cons (pv 1) (pa_cons (pv 2) pa_nil))))
 (pss_cons
 (ps_fld (pv 0) (pv 1) rfl)
 (pss_one
 (ps_fld (pv 0) (pv 2) rfl)))), ?_⟩
    refine ⟨.ref o, rfl, .ref u, rfl, rfl, rfl, o, u, zs, rows, rfl, ho, hu, ok, rok, fun H1 s1 => ?_⟩
    refine ⟨.ref o, rfl, .ref p, rfl, p, T.C_Poll, dx, [], rfl, s1 _ _ hp, T.cl_Poll, T.n_Poll_options, by decide, ?_⟩
    refine ⟨.ref u, rfl, .ref p, rfl, p, T.C_Poll, dx, _, rfl, upd_same, T.cl_Poll, T.n_Poll_voices, (by show 1 < 1000; decide), ?_⟩
    refine q _ (fun y x hy hx => ?_) upd_same
    rw [upd_ne hy, upd_ne hy]
    exact s1 _ _ hx
end
/-! ### margins, in plain words -/
def sg (a b : Int) : Int := if a < b then 1 else if a > b then -1 else 0
def marg : List (Bal × Int) → Str → Str → Int
  | [], _, _ => 0
  | r :: rs, y, z => r.2 * sg (r.1.rk y) (r.1.rk z) + marg rs y z
theorem marg_more (y z : Str) (r : Bal × Int) : ∀ rs : List (Bal × Int), marg (rs ++ [r]) y z = marg rs y z + r.2 * sg (r.1.rk y) (r.1.rk z)
  | [] => by
    show r.2 * sg (r.1.rk y) (r.1.rk z) + 0 = 0 + r.2 * sg (r.1.rk y) (r.1.rk z)
    omega
  | q :: rs => by
    show q.2 * sg (q.1.rk y) (q.1.rk z) + marg (rs ++ [r]) y z = q.2 * sg (q.1.rk y) (q.1.rk z) + marg rs y z + r.2 * sg (r.1.rk y) (r.1.rk z)
    rw [marg_more y z r rs]
    omega
theorem sg_turn (a b : Int) : sg b a = -sg a b := by
  unfold sg
  by_cases h : a < b <;> by_cases g : b < a
  · omega
  all_goals simp [h, g]
theorem marg_turn (y z : Str) : ∀ rs : List (Bal × Int), marg rs z y = -marg rs y z
  | [] => rfl
  | r :: rs => by
    show r.2 * sg (r.1.rk z) (r.1.rk y) + marg rs z y = -(r.2 * sg (r.1.rk y) (r.1.rk z) + marg rs y z)
    rw [sg_turn, marg_turn y z rs, Int.mul_neg]
    omega
/-! ### a dict of pairs of names, each with its number -/
def row2 (f : Str → Str → Int) (y : Str) (zs : List Str) : List (List Key × V) := (zs.filter fun z => decide (y ≠ z)).map fun z => ([.inr y, .inr z], .int (f y z))
def tab2 (zs : List Str) (f : Str → Str → Int) (ys : List Str) : List (List Key × V) := ys.flatMap fun y => row2 f y zs
theorem val_none {κ : Type} [DecidableEq κ] {kvs : List (κ × V)} {k : κ} (h : ∀ e ∈ kvs, e.1 ≠ k) : valV kvs k = none := by
  unfold valV
  rw [List.find?_eq_none.mpr fun e he => by simpa using h e he] <;> rfl
theorem val_some {κ : Type} [DecidableEq κ] {k : κ} {v : V} : ∀ {kvs : List (κ × V)}, (k, v) ∈ kvs → (∀ e ∈ kvs, e.1 = k → e.2 = v) → valV kvs k = some v
  | [], h, _ => by cases h
  | e :: kvs, h, u => by
    by_cases c : e.1 = k
    · rw [valV_pos c, u e List.mem_cons_self c]
    · rw [valV_neg c]
      refine val_some ?_ fun e' h' => u e' (List.mem_cons_of_mem _ h')
      rcases List.mem_cons.mp h with rfl | h
      · exact absurd rfl c
      · exact h
theorem mem_row2 {f : Str → Str → Int} {y : Str} {zs : List Str} {e : List Key × V} : e ∈ row2 f y zs ↔ ∃ z ∈ zs, y ≠ z ∧ e = ([.inr y, .inr z], .int (f y z)) := by
  unfold row2
  rw [List.mem_map]
  constructor
  · rintro ⟨z, hz, rfl⟩
    obtain ⟨h1, h2⟩ := List.mem_filter.mp hz
    exact ⟨z, h1, of_decide_eq_true h2, rfl⟩
  · rintro ⟨z, hz, n, rfl⟩
    exact ⟨z, List.mem_filter.mpr ⟨hz, decide_eq_true n⟩, rfl⟩
theorem mem_tab2 {f : Str → Str → Int} {ys zs : List Str} {e : List Key × V} : e ∈ tab2 zs f ys ↔ ∃ y ∈ ys, ∃ z ∈ zs, y ≠ z ∧ e = ([.inr y, .inr z], .int (f y z)) := by
  unfold tab2
  rw [List.mem_flatMap]
  exact ⟨fun ⟨y, hy, h⟩ => ⟨y, hy, mem_row2.mp h⟩, fun ⟨y, hy, h⟩ => ⟨y, hy, mem_row2.mpr h⟩⟩
theorem key2_inj {y z y' z' : Str} (h : ([.inr y, .inr z] : List Key) = [.inr y', .inr z']) : y = y' ∧ z = z' := by
  obtain ⟨h1, h2⟩ := List.cons.inj h
  exact ⟨Sum.inr.inj h1, Sum.inr.inj (List.cons.inj h2).1⟩
theorem tab2_val {f : Str → Str → Int} {zs : List Str} {y z : Str} (hy : y ∈ zs) (hz : z ∈ zs) (n : y ≠ z) : valV (tab2 zs f zs) [.inr y, .inr z] = some (.int (f y z)) := by
  refine val_some (mem_tab2.mpr ⟨y, hy, z, hz, n, rfl⟩) fun e he k => ?_
  obtain ⟨y', _, z', _, _, rfl⟩ := mem_tab2.mp he
  obtain ⟨rfl, rfl⟩ := key2_inj k
  rfl
theorem tab2_len (f : Str → Str → Int) (zs : List Str) : ∀ ys : List Str, (tab2 zs f ys).length ≤ ys.length * zs.length
  | [] => Nat.zero_le _
  | y :: ys => by
    have h := tab2_len f zs ys
    show (row2 f y zs ++ tab2 zs f ys).length ≤ (ys.length + 1) * zs.length
    have g : (row2 f y zs).length ≤ zs.length := by
      unfold row2
      rw [List.length_map]
      exact List.length_filter_le _ _
    rw [List.length_append, Nat.add_mul]
    omega
theorem row2_new {f : Str → Str → Int} {zs : List Str} {y z : Str} {i j : Nat} (nd : zs.Nodup) (hy : zs[i]? = some y) (hz : zs[j]? = some z) (n : y ≠ z) :
    putK (tab2 zs f (zs.take i) ++ row2 f y (zs.take j)) [.inr y, .inr z] (.int (f y z)) = tab2 zs f (zs.take i) ++ row2 f y (zs.take (j + 1)) := by
  have none' : valV (tab2 zs f (zs.take i) ++ row2 f y (zs.take j)) ([.inr y, .inr z] : List Key) = none := val_none fun e he k => by
    rcases List.mem_append.mp he with he | he
    · obtain ⟨y', hy', z', _, _, rfl⟩ := mem_tab2.mp he
      obtain ⟨rfl, rfl⟩ := key2_inj k
      exact nodup_out nd hy hy'
    · obtain ⟨z', hz', _, rfl⟩ := mem_row2.mp he
      obtain ⟨_, rfl⟩ := key2_inj k
      exact nodup_out nd hz hz'
  rw [putK_new _ none', List.append_assoc]
  refine congrArg _ ?_
  unfold row2
  rw [take_more hz, List.filter_append, List.map_append, List.filter_cons_of_pos (p := fun z => decide (y ≠ z)) (decide_eq_true n)] <;> rfl
theorem row2_skip {f : Str → Str → Int} {zs : List Str} {y z : Str} {j : Nat} (hz : zs[j]? = some z) (n : ¬ y ≠ z) : row2 f y (zs.take (j + 1)) = row2 f y (zs.take j) := by
  unfold row2
  rw [take_more hz, List.filter_append, List.filter_cons_of_neg (p := fun z => decide (y ≠ z)) (by simpa using n)]
  simp
theorem tab2_more {f : Str → Str → Int} {zs ys : List Str} {y : Str} {i : Nat} (hy : ys[i]? = some y) : tab2 zs f (ys.take (i + 1)) = tab2 zs f (ys.take i) ++ row2 f y zs := by
  unfold tab2
  rw [take_more hy, List.flatMap_append]
  simp
/-- the ranked rows at l: each row's tuple, its ranks -/
def RkAt (H : Hp) (l : Addr) (zs : List Str) (qs : List (Addr × Addr × (Bal × Int))) : Prop := H l = some (.lst (qs.map fun q => V.ref q.1)) ∧ ∀ q ∈ qs, H q.1 = some (.tup [.ref q.2.1, .int q.2.2.2]) ∧ H q.2.1 = some (.dK (tab zs q.2.2.1.rk))
theorem RkAt.same {H H' : Hp} {l : Addr} {zs : List Str} {qs : List (Addr × Addr × (Bal × Int))} (s : Same H H') (h : RkAt H l zs qs) : RkAt H' l zs qs := ⟨s _ _ h.1, fun q hq => ⟨s _ _ (h.2 q hq).1, s _ _ (h.2 q hq).2⟩⟩
/-- a good poll at p -/
structure PollOk (C : Addr) (H : Hp) (p o u : Addr) (zs : List Str) (rows : List (Bal × Int)) : Prop where
  poll : PollAt C H p o u
  opts : H o = some (.tup (zs.map V.str))
  votes : RowsAt H u rows
  ok : OptsOk zs
  rok : RowsOk zs 30 rows
theorem PollOk.same {C : Addr} {H H' : Hp} {p o u : Addr} {zs : List Str} {rows : List (Bal × Int)} (s : Same H H') (h : PollOk C H p o u zs rows) : PollOk C H' p o u zs rows := ⟨h.poll.same s, s _ _ h.opts, h.votes.same s, h.ok, h.rok⟩
section
variable {P : Program} {w : World} {K : PySem.W.Frag} {mg : Str → Option Value} {base : Heap}
def sp_ranked (C : Addr) : Sp := fun vs H Q _ => ∃ (p o u : Addr) (zs : List Str) (rows : List (Bal × Int)), vs = [.ref p] ∧ PollOk C H p o u zs rows ∧
  ∀ (l : Addr) (qs : List (Addr × Addr × (Bal × Int))) (H' : Hp), Same H H' → RkAt H' l zs qs → qs.map (·.2.2) = rows → Q (.ref l) H'
theorem ok_ranked (T : Txt K mg) : FnOk P w K mg base CX0 3 T.f_ranked T.fd_ranked ["poll"] (sp_ranked T.C_Poll) := by
  refine T.F_ranked.ok sc_ranked (fun vs H Q E h => ?_) (fun cdv A outer s H vs Q E hr h => ?_)
  · obtain ⟨p, o, u, zs, rows, rfl, _⟩ := h
    rfl
  · obtain ⟨p, o, u, zs, rows, rfl, pk, q⟩ := h
    refine ⟨_, (pss_one
 (ps_ret (pe_lc (own := [("ballot", 1), ("many", 2)]) (tt := tYes) rfl sc_ranked.nd (pi_tup (pe_fld (pv 0) rfl)) (blkOk_by (own := [("ballot", 1), ("many", 2)]) (N := ["poll", "ballot", "many"]) (sc := (defScope s_ranked)) (by decide +kernel)) (fun s0 H0 C0 cl0 fp0 => (by have h := (pg_tup (n := 2) rfl (pgs_cons (pg_name (i := 1) sc_ranked.nd rfl (Or.inl rfl)) (pgs_cons (pg_name (i := 2) sc_ranked.nd rfl (Or.inl rfl)) pgs_nil)) : PG ((cxOf CX0 P w K mg base ["poll", "ballot", "many"] "ranked" (defScope s_ranked) T.f_ranked cdv A outer s H E).nox.blk s0 H0 (lcScope (rootE ((defBody s_ranked).getD 0 (.Pass ⟨0, 0, 0, 0⟩)))) (compEnvC (lcScope (rootE ((defBody s_ranked).getD 0 (.Pass ⟨0, 0, 0, 0⟩)))) cl0 C0 (cxOf CX0 P w K mg base ["poll", "ballot", "many"] "ranked" (defScope s_ranked) T.f_ranked cdv A outer s H E).nox.env) fp0) (subE (rootE ((defBody s_ranked).getD 0 (.Pass ⟨0, 0, 0, 0⟩))) 2) _); dsimp only [Cx.blk, Cx.tr, Cx.suite, Cx.nox, Cx.wish, cxOf] at h; exact h)) (fun _ _ _ _ _ => pts_nil) (fun s0 H0 C0 cl0 fp0 => (by have h := ((pe_tup (pa_cons (pe_call (ok_ranks T) (hr.mono (by decide)) (by rfl) T.g_ranks T.F_ranks.kp T.b_ranks .nil pass0 (pa_cons (pe_fld (pv 0) rfl) (pa_cons (pv 1) pa_nil))) (pa_cons (pv 2) pa_nil))) : PE ((cxOf CX0 P w K mg base ["poll", "ballot", "many"] "ranked" (defScope s_ranked) T.f_ranked cdv A outer s H E).nox.blk s0 H0 (lcScope (rootE ((defBody s_ranked).getD 0 (.Pass ⟨0, 0, 0, 0⟩)))) (compEnvC (lcScope (rootE ((defBody s_ranked).getD 0 (.Pass ⟨0, 0, 0, 0⟩)))) cl0 C0 (cxOf CX0 P w K mg base ["poll", "ballot", "many"] "ranked" (defScope s_ranked) T.f_ranked cdv A outer s H E).nox.env) fp0) (subE (rootE ((defBody s_ranked).getD 0 (.Pass ⟨0, 0, 0, 0⟩))) 0) _); dsimp only [Cx.blk, Cx.tr, Cx.suite, Cx.nox, Cx.wish, cxOf] at h; exact h))))), ?_⟩
    obtain ⟨⟨dx, hp⟩, ho, ⟨as, hu, ha, hm⟩, ok, rok⟩ := pk
    have la : as.length = rows.length := by rw [← hm, List.length_map]
    have l30 := rok.1
    refine ⟨.ref p, rfl, p, T.C_Poll, dx, _, .ref u, rfl, hp, T.cl_Poll, T.n_Poll_voices, pollF_voices o u, u, rfl, ⟨_, .of hu⟩, fun D nD => ?_⟩
    refine lc_tup (K := K) (a := u) (xs := as.map fun a => V.ref a.1) (fun i H' => ∃ qs : List (Addr × Addr × (Bal × Int)), Same H H' ∧ RkAt H' D zs qs ∧ qs.map (·.2.2) = rows.take i) ⟨[], same_upd nD, ⟨upd_same, fun _ h => (by cases h)⟩, rfl⟩ (fun _ _ _ ⟨_, h, _⟩ => .of (h _ _ hu)) ?_ ?_
    · rintro i x H1 hi ⟨qs, s1, rk, m1⟩
      obtain ⟨a, hai, rfl⟩ := item_map hi
      have il := (List.getElem?_eq_some_iff.mp hai).1
      obtain ⟨h1, h2⟩ := ha a (List.mem_of_getElem? hai)
      have mem : a.2.2 ∈ rows := by rw [← hm]; exact List.mem_map.mpr ⟨a, List.mem_of_getElem? hai, rfl⟩
      have ri : rows[i]? = some a.2.2 := by rw [← hm, List.getElem?_map, hai]; rfl
      obtain ⟨bok, _, _⟩ := rok.2 a.2.2 mem
      have lq : qs.length = i := by
        have := congrArg List.length m1
        rw [List.length_map, List.length_take] at this
        omega
      refine ⟨a.1, _, rfl, .of (s1 _ _ h1), rfl, _, _, rfl, _, _, rfl, rfl, rfl, ?_⟩
      refine ⟨.ref p, rfl, p, T.C_Poll, dx, _, .ref o, rfl, s1 _ _ hp, T.cl_Poll, T.n_Poll_options, pollF_options o u, .ref a.2.1, rfl, o, a.2.1, zs, a.2.2.1, rfl, s1 _ _ ho, h2.same s1, bok, ok.nodup, ok.few, fun Dr H2 s2 nDr eDr => ?_⟩
      refine ⟨.int a.2.2.2, rfl, line_of (show 2 ≤ 1000 by decide), fun t nt => ?_⟩
      have s3 := same_upd (o := HO.tup [V.ref Dr, V.int a.2.2.2]) nt
      have et : (upd H2 t (.tup [V.ref Dr, V.int a.2.2.2])) t = some (.tup [V.ref Dr, V.int a.2.2.2]) := upd_same
      have rk3 := (rk.same s2).same s3
      have eD := s3 _ _ eDr
      generalize upd H2 t (.tup [V.ref Dr, V.int a.2.2.2]) = H3 at s3 et rk3 eD
      refine ⟨_, rk3.1, small1000 (by rw [List.length_map]; omega), qs ++ [(t, Dr, a.2.2)], same_mut (s1.trans (s2.trans s3)) nD, ⟨by rw [upd_same, List.map_append]; rfl, fun q' hq => ?_⟩, by rw [List.map_append, m1, take_more ri]; rfl⟩
      have both : H3 q'.1 = some (.tup [.ref q'.2.1, .int q'.2.2.2]) ∧ H3 q'.2.1 = some (.dK (tab zs q'.2.2.1.rk)) := by
        rcases List.mem_append.mp hq with hq | hq
        · exact rk3.2 q' hq
        · rw [List.mem_singleton.mp hq]
          exact ⟨et, eD⟩
      rw [upd_ne (fun e => by rw [e, rk3.1] at both; cases both.1), upd_ne (fun e => by rw [e, rk3.1] at both; cases both.2)]
      exact both
    · rintro H1 ⟨qs, s1, rk, m1⟩
      rw [List.length_map, la, List.take_length] at m1
      exact q D qs H1 s1 rk m1
def sp_margin_by : Sp := fun vs H Q _ => ∃ (l : Addr) (zs : List Str) (qs : List (Addr × Addr × (Bal × Int))) (y z : Str), vs = [.ref l, .str y, .str z] ∧ RkAt H l zs qs ∧ y ∈ zs ∧ z ∈ zs ∧ Q (.int (marg (qs.map (·.2.2)) y z)) H
theorem ok_margin_by (T : Txt K mg) : FnOk P w K mg base CX0 1 T.f_margin_by T.fd_margin_by ["rows", "one", "other"] sp_margin_by := by
  refine T.F_margin_by.ok sc_margin_by (fun vs H Q E h => ?_) (fun cdv A outer s H vs Q E hr h => ?_)
  · obtain ⟨l, zs, qs, y, z, rfl, _⟩ := h
    rfl
  · obtain ⟨l, zs, qs, y, z, rfl, rk, hy, hz, q⟩ := h
    refine ⟨_, (pss_cons
 (ps_set (i := 3) sc_margin_by.nd rfl (Or.inl rfl) pe_int)
 (pss_cons
 (ps_for PassesOwn.never rfl (pi_list (pv 0)) (pg_tup rfl (pgs_cons (pg_name (i := 4) sc_margin_by.nd rfl (Or.inl rfl)) (pgs_cons (pg_name (i := 5) sc_margin_by.nd rfl (Or.inl rfl)) pgs_nil)))
 (pss_one
 (ps_if (pt_cmpR op_lt (pe_dget (hu_of hr) (pv 4) (pv 1) (fun _ _ => rfl)) (pe_dget (hu_of hr) (pv 4) (pv 2) (fun _ _ => rfl)) (nomark _))
 (pss_one
 (ps_aug (i := 3) sc_margin_by.nd rfl (Or.inl rfl) (pv 5) ip_add))
 (pss_one
 (ps_if (pt_cmpR op_gt (pe_dget (hu_of hr) (pv 4) (pv 1) (fun _ _ => rfl)) (pe_dget (hu_of hr) (pv 4) (pv 2) (fun _ _ => rfl)) (nomark _))
 (pss_one
 (ps_aug (i := 3) sc_margin_by.nd rfl (Or.inl rfl) (pv 5) ip_sub))
 pss_nil)))))
 (pss_one
 (ps_ret (pv 3))))), ?_⟩
    refine ⟨.ref l, rfl, l, rfl, ⟨_, .of rk.1⟩, for_list (K := K) (a := l) (xs := qs.map fun q => V.ref q.1) (fun i σ H' => ∃ x4 x5 : Option V, σ = [some (.ref l), some (.str y), some (.str z), some (.int (marg ((qs.take i).map (·.2.2)) y z)), x4, x5] ∧ H' = H) ⟨none, none, rfl, rfl⟩ (fun _ _ _ _ ⟨_, _, _, e⟩ => by rw [e]; exact .of rk.1) ?_ ?_⟩
    · rintro i x σ H1 hi ⟨x4, x5, rfl, rfl⟩
      obtain ⟨a, hai, rfl⟩ := item_map hi
      obtain ⟨h1, h2⟩ := rk.2 a (List.mem_of_getElem? hai)
      have got : ∀ {x : Str}, x ∈ zs → DGet H1 a.2.1 (.str x) (some (.int (a.2.2.1.rk x))) := fun {x} hx => by
        have := DGet.k (k := .inr x) h2
        rw [tab_val, if_pos hx] at this
        exact this
      have next : marg ((qs.take (i + 1)).map (·.2.2)) y z = marg ((qs.take i).map (·.2.2)) y z + a.2.2.2 * sg (a.2.2.1.rk y) (a.2.2.1.rk z) := by
        rw [take_more hai, List.map_append]
        exact marg_more y z a.2.2 _
      refine ⟨a.1, _, rfl, .of h1, rfl, _, _, rfl, _, _, rfl, rfl, ?_⟩
      refine ⟨.ref a.2.1, rfl, .str y, rfl, a.2.1, _, rfl, got hy, .ref a.2.1, rfl, .str z, rfl, a.2.1, _, rfl, got hz, _, _, rfl, rfl, _, rfl, ite2 (fun e => ?_) (fun e => ?_)⟩
      · have lt := of_decide_eq_true e
        refine ⟨_, rfl, .int a.2.2.2, rfl, _, _, rfl, rfl, some (.ref a.2.1), some (.int a.2.2.2), ?_, rfl⟩
        rw [next]
        unfold sg
        rw [if_pos lt, Int.mul_one]
        rfl
      · have nlt : ¬ a.2.2.1.rk y < a.2.2.1.rk z := fun h => e (decide_eq_true h)
        refine ⟨.ref a.2.1, rfl, .str y, rfl, a.2.1, _, rfl, got hy, .ref a.2.1, rfl, .str z, rfl, a.2.1, _, rfl, got hz, _, _, rfl, rfl, _, rfl, ite2 (fun e => ?_) (fun e => ?_)⟩
        · have gt := of_decide_eq_true e
          refine ⟨_, rfl, .int a.2.2.2, rfl, _, _, rfl, rfl, some (.ref a.2.1), some (.int a.2.2.2), ?_, rfl⟩
          rw [next]
          unfold sg
          rw [if_neg nlt, if_pos gt, Int.mul_neg, Int.mul_one, ← Int.sub_eq_add_neg]
          rfl
        · have ngt : ¬ a.2.2.1.rk y > a.2.2.1.rk z := fun h => e (decide_eq_true h)
          refine ⟨some (.ref a.2.1), some (.int a.2.2.2), ?_, rfl⟩
          rw [next]
          unfold sg
          rw [if_neg nlt, if_neg ngt, Int.mul_zero, Int.add_zero]
          rfl
    · rintro σ H1 ⟨x4, x5, rfl, rfl⟩
      rw [List.length_map, List.take_length]
      exact ⟨_, rfl, q⟩
def sp_margins (C : Addr) : Sp := fun vs H Q _ => ∃ (p o u : Addr) (zs : List Str) (rows : List (Bal × Int)), vs = [.ref p] ∧ PollOk C H p o u zs rows ∧
  ∀ (D : Addr) (H' : Hp), Same H H' → H D = none → H' D = some (.dT (tab2 zs (marg rows) zs)) → Q (.ref D) H'
theorem ok_margins (T : Txt K mg) : FnOk P w K mg base CX0 4 T.f_margins T.fd_margins ["poll"] (sp_margins T.C_Poll) := by
  refine T.F_margins.ok sc_margins (fun vs H Q E h => ?_) (fun cdv A outer s H vs Q E hr h => ?_)
  · obtain ⟨p, o, u, zs, rows, rfl, _⟩ := h
    rfl
  · obtain ⟨p, o, u, zs, rows, rfl, pk, q⟩ := h
    refine ⟨_, (pss_cons
 (ps_set (i := 1) sc_margins.nd rfl (Or.inr rfl) (pe_call (ok_ranked T) (hr.mono (by decide)) (by rfl) T.g_ranked T.F_ranked.kp T.b_ranked .nil pass0 (pa_cons (pv 0) pa_nil)))
 (pss_one
 (ps_ret (pe_dc2 (own := [("one", 2), ("other", 3)]) (vs1 := [3]) (e0 := .dT []) (g := gName 2) (g1 := gName 3) (tt := tYes) (.inr rfl) (hu_of hr) rfl sc_margins.nd (pi_tup (pe_fld (pv 0) rfl)) (blkOk_by (own := [("one", 2), ("other", 3)]) (N := ["poll", "rows", "one", "other"]) (sc := (defScope s_margins)) (by decide +kernel)) (by decide) (fun _ _ _ _ _ => pg_name (i := 2) sc_margins.nd rfl (Or.inl rfl)) (fun _ _ _ _ _ => pts_nil) (fun s0 H0 C0 cl0 fp0 => (by have h := ((pi_tup (pe_fld (pv 0) rfl)) : PI ((cxOf CX0 P w K mg base ["poll", "rows", "one", "other"] "margins" (defScope s_margins) T.f_margins cdv A outer s H E).nox.blk s0 H0 (lcScope (rootE ((defBody s_margins).getD 1 (.Pass ⟨0, 0, 0, 0⟩)))) (compEnvC (lcScope (rootE ((defBody s_margins).getD 1 (.Pass ⟨0, 0, 0, 0⟩)))) cl0 C0 (cxOf CX0 P w K mg base ["poll", "rows", "one", "other"] "margins" (defScope s_margins) T.f_margins cdv A outer s H E).nox.env) fp0) (lcG (rootE ((defBody s_margins).getD 1 (.Pass ⟨0, 0, 0, 0⟩))) 1).target (lcG (rootE ((defBody s_margins).getD 1 (.Pass ⟨0, 0, 0, 0⟩))) 1).iter _); dsimp only [Cx.blk, Cx.tr, Cx.suite, Cx.nox, Cx.wish, cxOf] at h; exact h)) (fun _ _ _ _ _ => pg_name (i := 3) sc_margins.nd rfl (Or.inl rfl)) (fun _ _ _ _ _ => (pts_one (pt_cmpR op_ne (pv 2) (pv 3) (nomark _)))) (fun _ _ _ _ _ => (pe_tup (pa_cons (pv 2) (pa_cons (pv 3) pa_nil)))) (fun _ _ _ _ _ => (pe_call (ok_margin_by T) (hr.mono (by decide)) (by rfl) T.g_margin_by T.F_margin_by.kp T.b_margin_by .nil pass0 (pa_cons (pv 1) (pa_cons (pv 2) (pa_cons (pv 3) pa_nil))))))))), ?_⟩
    refine ⟨.ref p, rfl, p, o, u, zs, rows, rfl, pk, fun l qs H1 s1 rk m1 => ?_⟩
    have pk1 := pk.same s1
    have few := pk.ok.few
    have nd := pk.ok.nodup
    obtain ⟨dx, hp⟩ := pk1.poll
    have ho := pk1.opts
    refine ⟨.ref p, rfl, p, T.C_Poll, dx, _, .ref o, rfl, hp, T.cl_Poll, T.n_Poll_options, pollF_options o u, o, rfl, ⟨_, .of ho⟩, fun D nD => ?_⟩
    have nDH := s1.free nD
    refine dOut_tup (K := K) (a := o) (xs := zs.map V.str) (fun i H' => Same H1 H' ∧ H' D = some (.dT (tab2 zs (marg rows) (zs.take i)))) ⟨same_upd nD, upd_same⟩ (fun _ _ h => .of (h.1 _ _ ho)) ?_ ?_
    · rintro i x H2 hi ⟨s2, e2⟩
      obtain ⟨y, hy, rfl⟩ := item_map hi
      have hy' := List.mem_of_getElem? hy
      refine ⟨rfl, .ref p, rfl, p, T.C_Poll, dx, _, .ref o, rfl, s2 _ _ hp, T.cl_Poll, T.n_Poll_options, pollF_options o u, o, rfl, ⟨_, .of (s2 _ _ ho)⟩, ?_⟩
      refine dIn_tup (K := K) (b := o) (ys := zs.map V.str) (fun j H' => Same H1 H' ∧ H' D = some (.dT (tab2 zs (marg rows) (zs.take i) ++ row2 (marg rows) y (zs.take j)))) ⟨s2, ?_⟩ (fun _ _ h => .of (h.1 _ _ ho)) ?_ ?_
      · rw [e2]
        exact congrArg (fun l => some (HO.dT l)) (List.append_nil _).symm
      · rintro j x H3 hj ⟨s3, e3⟩
        obtain ⟨z, hz, rfl⟩ := item_map hj
        have hz' := List.mem_of_getElem? hz
        refine ⟨rfl, .str y, rfl, .str z, rfl, rfl, _, rfl, ite2 (fun e => ?_) (fun e => ?_)⟩
        · have ne : y ≠ z := fun h => by subst h; simp at e
          refine ⟨.str y, rfl, .str z, rfl, line_of (show 2 ≤ 1000 by decide), fun t nt => ?_⟩
          have s4 := same_upd (o := HO.tup [V.str y, V.str z]) nt
          refine ⟨.ref l, rfl, .str y, rfl, .str z, rfl, l, zs, qs, y, z, rfl, (rk.same s3).same s4, hy', hz', _, DPut.t (k := [.inr y, .inr z]) (s4 _ _ e3) upd_same ?_, same_mut (s3.trans s4) nD, ?_⟩
          · have a1 := tab2_len (marg rows) zs (zs.take i)
            have a2 : (row2 (marg rows) y (zs.take j)).length ≤ zs.length := by
              unfold row2
              rw [List.length_map]
              exact Nat.le_trans (List.length_filter_le _ _) (by rw [List.length_take]; omega)
            have a3 : (zs.take i).length * zs.length ≤ 6 * 6 := Nat.mul_le_mul (by rw [List.length_take]; omega) few
            rw [List.length_append]
            exact small1000 (by omega)
          · rw [upd_same, m1, row2_new nd hy hz ne]
        · have ne : ¬ y ≠ z := fun h => e (by simp [h])
          refine ⟨s3, ?_⟩
          rw [row2_skip hz ne]
          exact e3
      · rintro H3 ⟨s3, e3⟩
        rw [List.length_map, List.take_length] at e3
        refine ⟨s3, ?_⟩
        rw [tab2_more hy]
        exact e3
    · rintro H2 ⟨s2, e2⟩
      rw [List.length_map, List.take_length] at e2
      exact q D H2 (s1.trans s2) nDH e2
end
section
variable {P : Program} {w : World} {K : PySem.W.Frag} {mg : Str → Option Value} {base : Heap}
/-! ### tiers -/
theorem Tiers.same {H H' : Hp} {bs : List (Addr × List Str)} (s : Same H H') (h : Tiers H bs) : Tiers H' bs := fun b hb => ⟨s _ _ (h b hb).1, (h b hb).2⟩
theorem Tiers.add {H : Hp} {bs : List (Addr × List Str)} {b : Addr × List Str} (h : Tiers H bs) (e : H b.1 = some (.tup (b.2.map V.str))) (n : b.2 ≠ []) : Tiers H (bs ++ [b]) := fun c hc => by
  rcases List.mem_append.mp hc with hc | hc
  · exact h c hc
  · rw [List.mem_singleton.mp hc]
    exact ⟨e, n⟩
theorem cut_take {zs : List Str} {f : Str → Int} {ls : List Int} {i : Nat} {k : Int} (h : ls[i]? = some k) : cutBy zs f (ls.take (i + 1)) = cutBy zs f (ls.take i) ++ [zs.filter fun z => decide (f z = k)] := by
  rw [take_more h]
  unfold cutBy
  rw [List.map_append]
  rfl
theorem filter_take {zs : List Str} {f : Str → Bool} {j : Nat} {z : Str} (h : zs[j]? = some z) : (zs.take (j + 1)).filter f = (zs.take j).filter f ++ if f z = true then [z] else [] := by
  rw [take_more h, List.filter_append]
  refine congrArg _ ?_
  cases e : f z with
  | true => rw [if_pos rfl, List.filter_cons_of_pos e] <;> rfl
  | false => rw [if_neg Bool.false_ne_true, List.filter_cons_of_neg (by rw [e]; exact Bool.false_ne_true)] <;> rfl
def sp_tiers : Sp := fun vs H Q _ => ∃ (o t : Addr) (zs : List Str) (b : Bal), vs = [.ref o, .ref t] ∧ H o = some (.tup (zs.map V.str)) ∧ BalAt H t b ∧ b.Ok zs ∧ zs.Nodup ∧ zs.length ≤ 6 ∧
  ∀ (u : Addr) (bs : List (Addr × List Str)) (ls : List Int) (H' : Hp), Lev zs b.rk ls → Same H H' → H' u = some (.tup (bs.map fun b => V.ref b.1)) → Tiers H' bs → bs.map (·.2) = cutBy zs b.rk ls → Q (.ref u) H'
theorem ok_tiers (T : Txt K mg) : FnOk P w K mg base CX0 3 T.f_tiers T.fd_tiers ["options", "ballot"] sp_tiers := by
  refine T.F_tiers.ok sc_tiers (fun vs H Q E h => ?_) (fun cdv A outer s H vs Q E hr h => ?_)
  · obtain ⟨o, t, zs, b, rfl, _⟩ := h
    rfl
  · obtain ⟨o, t, zs, b, rfl, ho, hb, bok, nd, lz, q⟩ := h
    refine ⟨_, (pss_cons
 (ps_set (i := 2) sc_tiers.nd rfl (Or.inr rfl) (pe_call (ok_ranks T) (hr.mono (by decide)) (by rfl) T.g_ranks T.F_ranks.kp T.b_ranks .nil pass0 (pa_cons (pv 0) (pa_cons (pv 1) pa_nil))))
 (pss_cons
 (ps_set (i := 3) sc_tiers.nd rfl (Or.inl rfl) (pe_callB (cr_sortedSet rfl) (by rfl) T.z_sorted (by decide +kernel) (pa_cons (pe_callTy (cr_setL (w := w) rfl rfl) (by rfl) T.z_set (by decide +kernel) (pa_cons (pe_listVals rfl (pv 2) (by rfl) T.z_list (by decide +kernel)) pa_nil)) pa_nil)))
 (pss_one
 (ps_ret (pe_callTy call_tuple_of (by rfl) T.z_tuple (by decide +kernel) (pa_cons (pe_lc (own := [("level", 4)]) (g := gName 4) (tt := tYes) rfl sc_tiers.nd (pi_list (pv 3)) (blkOk_by (own := [("level", 4)]) (N := ["options", "ballot", "rank", "levels", "level", "name"]) (sc := (defScope s_tiers)) (by decide +kernel)) (fun _ _ _ _ _ => pg_name (i := 4) sc_tiers.nd rfl (Or.inr rfl)) (fun _ _ _ _ _ => pts_nil) (fun s0 H0 C0 cl0 fp0 => (by have h := ((pe_callTy call_tuple_of (by rfl) T.z_tuple (by decide +kernel) (pa_cons (pe_lc (own := [("name", 5)]) (g := gName 5) rfl sc_tiers.nd (pi_tup (pv 0)) (blkOk_re (blkOk_by (own := [("name", 5)]) (N := ["options", "ballot", "rank", "levels", "level", "name"]) (sc := (lcScope (subE (rootE ((defBody s_tiers).getD 2 (.Pass ⟨0, 0, 0, 0⟩))) 1))) (by decide +kernel))) (fun _ _ _ _ _ => pg_name (i := 5) sc_tiers.nd rfl (Or.inl rfl)) (fun s1 H1 C1 cl1 fp1 => (by have h := ((pts_one (pt_cmpR op_eq (pe_dget (hu_of hr) (pv 2) (pv 5) (fun _ _ => rfl)) (pv 4) (nomark _))) : PTs (((cxOf CX0 P w K mg base ["options", "ballot", "rank", "levels", "level", "name"] "tiers" (defScope s_tiers) T.f_tiers cdv A outer s H E).nox.blk s0 H0 (lcScope (subE (rootE ((defBody s_tiers).getD 2 (.Pass ⟨0, 0, 0, 0⟩))) 1)) (compEnvC (lcScope (subE (rootE ((defBody s_tiers).getD 2 (.Pass ⟨0, 0, 0, 0⟩))) 1)) cl0 C0 (cxOf CX0 P w K mg base ["options", "ballot", "rank", "levels", "level", "name"] "tiers" (defScope s_tiers) T.f_tiers cdv A outer s H E).nox.env) fp0).blk s1 H1 (lcScope (subE (subE (subE (rootE ((defBody s_tiers).getD 2 (.Pass ⟨0, 0, 0, 0⟩))) 1) 0) 1)) (compEnvC (lcScope (subE (subE (subE (rootE ((defBody s_tiers).getD 2 (.Pass ⟨0, 0, 0, 0⟩))) 1) 0) 1)) cl1 C1 ((cxOf CX0 P w K mg base ["options", "ballot", "rank", "levels", "level", "name"] "tiers" (defScope s_tiers) T.f_tiers cdv A outer s H E).nox.blk s0 H0 (lcScope (subE (rootE ((defBody s_tiers).getD 2 (.Pass ⟨0, 0, 0, 0⟩))) 1)) (compEnvC (lcScope (subE (rootE ((defBody s_tiers).getD 2 (.Pass ⟨0, 0, 0, 0⟩))) 1)) cl0 C0 (cxOf CX0 P w K mg base ["options", "ballot", "rank", "levels", "level", "name"] "tiers" (defScope s_tiers) T.f_tiers cdv A outer s H E).nox.env) fp0).env) fp1) (lcIfs (subE (subE (subE (rootE ((defBody s_tiers).getD 2 (.Pass ⟨0, 0, 0, 0⟩))) 1) 0) 1)) _); dsimp only [Cx.blk, Cx.tr, Cx.suite, Cx.nox, Cx.wish, cxOf] at h; exact h)) (fun _ _ _ _ _ => (pv 5))) pa_nil)) : PE ((cxOf CX0 P w K mg base ["options", "ballot", "rank", "levels", "level", "name"] "tiers" (defScope s_tiers) T.f_tiers cdv A outer s H E).nox.blk s0 H0 (lcScope (subE (rootE ((defBody s_tiers).getD 2 (.Pass ⟨0, 0, 0, 0⟩))) 1)) (compEnvC (lcScope (subE (rootE ((defBody s_tiers).getD 2 (.Pass ⟨0, 0, 0, 0⟩))) 1)) cl0 C0 (cxOf CX0 P w K mg base ["options", "ballot", "rank", "levels", "level", "name"] "tiers" (defScope s_tiers) T.f_tiers cdv A outer s H E).nox.env) fp0) (subE (subE (rootE ((defBody s_tiers).getD 2 (.Pass ⟨0, 0, 0, 0⟩))) 1) 0) _); dsimp only [Cx.blk, Cx.tr, Cx.suite, Cx.nox, Cx.wish, cxOf] at h; exact h))) pa_nil)))))), ?_⟩
    refine ⟨.ref o, rfl, .ref t, rfl, o, t, zs, b, rfl, ho, hb, bok, nd, lz, fun D H1 s1 nD eD => ?_⟩
    refine ⟨.ref D, rfl, D, _, rfl, eD, fun l nl => ⟨l, zs.map b.rk, rfl, .of (by rw [upd_same, tab_vals]), by rw [List.length_map]; omega, fun p c np lc => ⟨p, _, c, rfl, upd_same, by rw [List.length_map] at lc; omega, fun ls q0 rise mem len nq => ?_⟩⟩⟩
    have lev : Lev zs b.rk ls := ⟨rise, fun k => (mem k).trans (by rw [decide_eq_true_iff, List.mem_map])⟩
    have lls : ls.length ≤ 6 := by rw [List.length_map] at lc; omega
    have s2 : Same H1 (upd (upd (upd H1 l (.lst ((tab zs b.rk).map (·.2)))) p (SetO w p (fun j => decide (j ∈ zs.map b.rk)) c)) q0 (.lst (ls.map V.int))) := ((same_upd nl).trans (same_upd np)).trans (same_upd nq)
    have hq0 : (upd (upd (upd H1 l (.lst ((tab zs b.rk).map (·.2)))) p (SetO w p (fun j => decide (j ∈ zs.map b.rk)) c)) q0 (.lst (ls.map V.int))) q0 = some (.lst (ls.map V.int)) := upd_same
    generalize upd (upd (upd H1 l (.lst ((tab zs b.rk).map (·.2)))) p (SetO w p (fun j => decide (j ∈ zs.map b.rk)) c)) q0 (.lst (ls.map V.int)) = H2 at s2 hq0
    have eD2 := s2 _ _ eD
    have ho2 := s2 _ _ (s1 _ _ ho)
    refine ⟨.ref q0, rfl, q0, rfl, ⟨_, .of hq0⟩, fun D1 nD1 => ?_⟩
    refine lc_list (K := K) (a := q0) (xs := ls.map V.int) (fun i H' => ∃ bs : List (Addr × List Str), Same H2 H' ∧ H' D1 = some (.lst (bs.map fun b => V.ref b.1)) ∧ Tiers H' bs ∧ bs.map (·.2) = cutBy zs b.rk (ls.take i))
      ⟨[], same_upd nD1, upd_same, fun _ h => (by cases h), rfl⟩ (fun _ _ _ ⟨_, h, _⟩ => .of (h _ _ hq0)) ?_ ?_
    · rintro i x H3 hi ⟨bs, s3, e3, t3, m3⟩
      obtain ⟨k, hk, rfl⟩ := item_map hi
      have il : i < ls.length := (List.getElem?_eq_some_iff.mp hk).1
      have lbs : bs.length ≤ 6 := by
        have := congrArg List.length m3
        unfold cutBy at this
        rw [List.length_map, List.length_map, List.length_take] at this
        omega
      refine ⟨rfl, .ref o, rfl, o, rfl, ⟨_, .of (s3 _ _ ho2)⟩, fun D2 nD2 => ?_⟩
      have ne12 : D1 ≠ D2 := ne_of_none e3 nD2
      refine lc_tup (K := K) (a := o) (xs := zs.map V.str) (fun j H' => Same H3 H' ∧ H' D2 = some (.lst (((zs.take j).filter fun z => decide (b.rk z = k)).map V.str))) ⟨same_upd nD2, upd_same⟩ (fun _ _ _ h => .of (h.1 _ _ (s3 _ _ ho2))) ?_ ?_
      · rintro j x H4 hj ⟨s4, e4⟩
        obtain ⟨z, hz, rfl⟩ := item_map hj
        have got : DGet H4 D (.str z) (some (.int (b.rk z))) := by
          have := DGet.k (k := .inr z) (s4 _ _ (s3 _ _ eD2))
          rw [tab_val, if_pos (List.mem_of_getElem? hz)] at this
          exact this
        have small : (((zs.take j).filter fun z => decide (b.rk z = k)).map V.str).length < sizeLine := by
          rw [List.length_map]
          have := List.length_filter_le (fun z => decide (b.rk z = k)) (zs.take j)
          rw [List.length_take] at this
          exact small1000 (by omega)
        refine ⟨rfl, .ref D, rfl, .str z, rfl, D, _, rfl, got, .int k, rfl, rfl, _, rfl, ?_⟩
        have eb : decide (V.int (b.rk z) = V.int k) = decide (b.rk z = k) := decide_eq_decide.mpr ⟨fun h => V.int.inj h, fun h => by rw [h]⟩
        rw [eb]
        have ft := filter_take (f := fun z => decide (b.rk z = k)) hz
        cases ec : decide (b.rk z = k) with
        | true =>
          rw [if_pos ec] at ft
          refine iteT ⟨.str z, rfl, _, e4, small, same_mut s4 nD2, ?_⟩
          rw [upd_same, ft, List.map_append]
          rfl
        | false =>
          rw [if_neg (by rw [ec]; exact Bool.false_ne_true), List.append_nil] at ft
          refine iteF ⟨s4, ?_⟩
          rw [ft]
          exact e4
      · rintro H4 ⟨s4, e4⟩
        rw [List.length_map, List.take_length] at e4
        refine ⟨D2, _, rfl, .inl ⟨.of e4, fun u nu => ?_⟩⟩
        have s5 := s4.trans (same_upd (o := HO.tup ((zs.filter fun z => decide (b.rk z = k)).map V.str)) nu)
        have eu : (upd H4 u (.tup ((zs.filter fun z => decide (b.rk z = k)).map V.str))) u = some (.tup ((zs.filter fun z => decide (b.rk z = k)).map V.str)) := upd_same
        generalize upd H4 u (.tup ((zs.filter fun z => decide (b.rk z = k)).map V.str)) = H5 at s5 eu
        have e5 := s5 _ _ e3
        have nD1' : H2 D1 = none := nD1
        have uD : u ≠ D1 := fun e => by rw [e, e5] at eu; cases eu
        refine ⟨_, e5, small1000 (by rw [List.length_map]; omega), bs ++ [(u, zs.filter fun z => decide (b.rk z = k))], same_mut (s3.trans s5) nD1, ?_, ?_, ?_⟩
        · rw [upd_same, List.map_append]
          rfl
        · have tt := (t3.same s5).add (b := (u, zs.filter fun z => decide (b.rk z = k))) eu (cut_ne lev _ (List.mem_map.mpr ⟨k, List.mem_of_getElem? hk, rfl⟩))
          refine fun c hc => ⟨?_, (tt c hc).2⟩
          rw [upd_ne fun e => ?_]
          · exact (tt c hc).1
          · have := (tt c hc).1
            rw [e, e5] at this
            cases this
        · rw [List.map_append, m3, cut_take hk]
          rfl
    · rintro H3 ⟨bs, s3, e3, t3, m3⟩
      rw [List.length_map, List.take_length] at m3
      refine ⟨D1, _, rfl, .inl ⟨.of e3, fun u nu => ?_⟩⟩
      exact q u bs ls _ lev (s1.trans (s2.trans (s3.trans (same_upd nu)))) upd_same (t3.same (same_upd nu)) m3
/-! ### who is ahead -/
end
/-! ### who stands alone in the first tier, or the last one -/
def aloneB (zs : List Str) (g : Str → Int) (z : Str) : Bool := decide (z ∈ zs) && zs.all fun y => decide (y = z) || decide (g z < g y)
theorem alone_one {zs : List Str} {g : Str → Int} {k : Int} {z : Str} (hk : ∀ y ∈ zs, k ≤ g y) (h : zs.filter (fun y => decide (g y = k)) = [z]) {y : Str} (hy : y ∈ zs) : aloneB zs g y = decide (y = z) := by
  have mz : z ∈ zs.filter fun y => decide (g y = k) := by rw [h]; exact List.mem_singleton.mpr rfl
  obtain ⟨mz, gz⟩ := List.mem_filter.mp mz
  have gz : g z = k := of_decide_eq_true gz
  unfold aloneB
  rw [decide_eq_true hy, Bool.true_and]
  by_cases e : y = z
  · rw [decide_eq_true e, List.all_eq_true]
    intro t ht
    by_cases et : t = y
    · rw [decide_eq_true et] <;> rfl
    · have nt : g t ≠ k := fun h0 => et (by
        have : t ∈ zs.filter fun y => decide (g y = k) := List.mem_filter.mpr ⟨ht, decide_eq_true h0⟩
        rw [h] at this
        rw [List.mem_singleton.mp this, e])
      have := hk t ht
      rw [decide_eq_true (show g y < g t by rw [e, gz]; omega), Bool.or_true]
  · rw [decide_eq_false e, List.all_eq_false]
    refine ⟨z, mz, ?_⟩
    have := hk y hy
    rw [decide_eq_false (fun h0 => e h0.symm), decide_eq_false (show ¬ g y < g z by omega)]
    exact Bool.false_ne_true
theorem alone_none {zs : List Str} {g : Str → Int} {k : Int} (nd : zs.Nodup) (hk : ∀ y ∈ zs, k ≤ g y) (he : ∃ z ∈ zs, g z = k) (h : (zs.filter fun y => decide (g y = k)).length ≠ 1) {y : Str} (hy : y ∈ zs) : aloneB zs g y = false := by
  cases e : aloneB zs g y with
  | false => rfl
  | true =>
    exfalso
    unfold aloneB at e
    rw [decide_eq_true hy, Bool.true_and, List.all_eq_true] at e
    have least : ∀ t ∈ zs, t ≠ y → g y < g t := fun t ht n => by
      have := e t ht
      rw [decide_eq_false n, Bool.false_or] at this
      exact of_decide_eq_true this
    obtain ⟨z, mz, gz⟩ := he
    have gy : g y = k := by
      by_cases c : z = y
      · rw [← c]
        exact gz
      · have := least z mz c
        have := hk y hy
        omega
    have my : y ∈ zs.filter fun y => decide (g y = k) := List.mem_filter.mpr ⟨hy, decide_eq_true gy⟩
    have all : ∀ t ∈ zs.filter (fun y => decide (g y = k)), t = y := fun t ht => by
      obtain ⟨m, gt⟩ := List.mem_filter.mp ht
      have gt : g t = k := of_decide_eq_true gt
      by_cases c : t = y
      · exact c
      · have := least t m c
        omega
    have nf : (zs.filter fun y => decide (g y = k)).Nodup := nd.sublist List.filter_sublist
    match hf : zs.filter (fun y => decide (g y = k)), my, all, nf, h with
    | [], m, _, _, _ => cases m
    | [_], _, _, _, n => exact n rfl
    | a :: b :: l, _, al, nf, _ =>
      have h1 := al a List.mem_cons_self
      have h2 := al b (List.mem_cons_of_mem _ List.mem_cons_self)
      exact (List.nodup_cons.mp nf).1 (by rw [h1, ← h2]; exact List.mem_cons_self)
def side (at0 : Int) (i : Int) : Int := if at0 = 0 then i else -i
/-- how many voices have an option alone at a place -/
def aloneSum (at0 : Int) (zs : List Str) (rows : List (Bal × Int)) (z : Str) : Int := (rows.map fun r => if aloneB zs (fun t => side at0 (r.1.rk t)) z = true then r.2 else 0).sum
theorem alone_more {at0 : Int} {zs : List Str} {rows : List (Bal × Int)} {i : Nat} {r : Bal × Int} (h : rows[i]? = some r) (z : Str) : aloneSum at0 zs (rows.take (i + 1)) z = aloneSum at0 zs (rows.take i) z + if aloneB zs (fun t => side at0 (r.1.rk t)) z = true then r.2 else 0 := by
  unfold aloneSum
  rw [take_more h, List.map_append, List.sum_append]
  simp
theorem lev_at {zs : List Str} {f : Str → Int} {ls : List Int} (lev : Lev zs f ls) {at0 k : Int} (h : at0 = 0 ∧ ls[0]? = some k ∨ at0 = -1 ∧ ls[ls.length - 1]? = some k) : (∀ y ∈ zs, side at0 k ≤ side at0 (f y)) ∧ (∃ z ∈ zs, side at0 (f z) = side at0 k) ∧ (zs.filter fun y => decide (f y = k)) = zs.filter fun y => decide (side at0 (f y) = side at0 k) := by
  have mk : k ∈ ls := by
    rcases h with ⟨_, h⟩ | ⟨_, h⟩ <;> exact List.mem_of_getElem? h
  obtain ⟨z, mz, fz⟩ := (lev.2 k).mp mk
  have pw := List.pairwise_iff_getElem.mp lev.1
  refine ⟨fun y hy => ?_, ⟨z, mz, by rw [fz]⟩, List.filter_congr fun y _ => decide_eq_decide.mpr ?_⟩
  · have my : f y ∈ ls := (lev.2 _).mpr ⟨y, hy, rfl⟩
    obtain ⟨j, hj, ej⟩ := List.mem_iff_getElem.mp my
    unfold side
    rcases h with ⟨rfl, h⟩ | ⟨rfl, h⟩
    · rw [if_pos rfl, if_pos rfl]
      obtain ⟨h0, e0⟩ := List.getElem?_eq_some_iff.mp h
      rcases Nat.eq_zero_or_pos j with c | c
      · subst c
        omega
      · have := pw 0 j h0 hj c
        omega
    · rw [if_neg (by decide), if_neg (by decide)]
      obtain ⟨h0, e0⟩ := List.getElem?_eq_some_iff.mp h
      by_cases c : j = ls.length - 1
      · subst c
        omega
      · have := pw j (ls.length - 1) hj h0 (by omega)
        omega
  · unfold side
    split <;> omega
section
variable {P : Program} {w : World} {K : PySem.W.Frag} {mg : Str → Option Value} {base : Heap}
def sp_alone_at (C : Addr) : Sp := fun vs H Q _ => ∃ (p o u : Addr) (zs : List Str) (rows : List (Bal × Int)) (at0 : Int), vs = [.ref p, .int at0] ∧ PollOk C H p o u zs rows ∧ (at0 = 0 ∨ at0 = -1) ∧
  ∀ (D : Addr) (H' : Hp), Same H H' → H D = none → H' D = some (.dK (tab zs (aloneSum at0 zs rows))) → Q (.ref D) H'
theorem ok_alone_at (T : Txt K mg) : FnOk P w K mg base CX0 4 T.f_alone_at T.fd_alone_at ["poll", "at"] (sp_alone_at T.C_Poll) := by
  refine T.F_alone_at.ok sc_alone_at (fun vs H Q E h => ?_) (fun cdv A outer s H vs Q E hr h => ?_)
  · obtain ⟨p, o, u, zs, rows, at0, rfl, _⟩ := h
    rfl
  · obtain ⟨p, o, u, zs, rows, at0, rfl, pk, hat, q⟩ := h
    refine ⟨_, (pss_cons
 (ps_setDc (i := 2) (own := [("name", 6)]) (g := gName 6) (tt := tYes) rfl sc_alone_at.nd rfl rfl (swD_true rfl rfl rfl (by decide +kernel)) (pi_tup (pe_fld (pv 0) rfl)) (blkOk_by (own := [("name", 6)]) (N := ["poll", "at", "found", "ballot", "many", "tier", "name"]) (sc := (defScope s_alone_at)) (by decide +kernel)) (fun _ _ _ _ _ => pg_name (i := 6) sc_alone_at.nd rfl (Or.inl rfl)) (fun _ _ _ _ _ => pts_nil) (fun _ _ _ _ _ => (pv 6)) (fun _ _ _ _ _ => pe_int))
 (pss_cons
 (ps_for PassesOwn.never rfl (pi_tup (pe_fld (pv 0) rfl)) (pg_tup rfl (pgs_cons (pg_name (i := 3) sc_alone_at.nd rfl (Or.inl rfl)) (pgs_cons (pg_name (i := 4) sc_alone_at.nd rfl (Or.inl rfl)) pgs_nil)))
 (pss_cons
 (ps_set (i := 5) sc_alone_at.nd rfl (Or.inl rfl) (pe_ix ix_tup (pe_call (ok_tiers T) (hr.mono (by decide)) (by rfl) T.g_tiers T.F_tiers.kp T.b_tiers .nil pass0 (pa_cons (pe_fld (pv 0) rfl) (pa_cons (pv 3) pa_nil))) (pv 1) (fun _ _ => rfl)))
 (pss_one
 (ps_if (pt_cmpR op_eq (pe_callB call_len_seq (by rfl) T.z_len (by decide +kernel) (pa_cons (pv 5) pa_nil)) pe_int (nomark _))
 (pss_one
 (ps_daug (hu_of hr) (pv 2) (pe_ix ix_tup (pv 5) pe_int (fun _ _ => rfl)) (pv 4) in_add (fun _ _ _ => rfl)))
 pss_nil))))
 (pss_one
 (ps_ret (pv 2))))), ?_⟩
    obtain ⟨⟨dx, hp⟩, ho, ⟨as, hu, ha, hm⟩, ok, rok⟩ := id pk
    have nd := ok.nodup
    have few := ok.few
    have la : as.length = rows.length := by rw [← hm, List.length_map]
    refine ⟨.ref p, rfl, p, T.C_Poll, dx, _, .ref o, rfl, hp, T.cl_Poll, T.n_Poll_options, pollF_options o u, o, rfl, ⟨_, .of ho⟩, fun D nD => ?_⟩
    refine dc_tup (K := K) (a := o) (xs := zs.map V.str) (fun i H' => Same H H' ∧ H' D = some (.dK (tab (zs.take i) fun _ => (0 : Int)))) ⟨same_upd nD, upd_same⟩ (fun _ _ _ h => .of (h.1 _ _ ho)) ?_ ?_
    · rintro i x H1 hi ⟨s1, e1⟩
      obtain ⟨z, hz, rfl⟩ := item_map hi
      have zn : z ∉ zs.take i := fun m => nodup_out nd hz m
      refine ⟨rfl, .str z, rfl, _, .inr z, rfl, e1, ?_, same_mut s1 nD, ?_⟩
      · rw [tab_len, List.length_take]
        exact small1000 (by omega)
      · rw [upd_same, tab_new (f := fun _ => (0 : Int)) zn rfl, ← take_more hz]
    · rintro H1 ⟨s1, e1⟩
      rw [List.length_map, List.take_length] at e1
      have hp1 := s1 _ _ hp
      have hu1 := s1 _ _ hu
      refine ⟨.ref p, rfl, p, T.C_Poll, dx, _, .ref u, rfl, hp1, T.cl_Poll, T.n_Poll_voices, pollF_voices o u, u, rfl, ⟨_, .of hu1⟩, for_tup (K := K) (a := u) (xs := as.map fun a => V.ref a.1) (fun i σ H' => ∃ x3 x4 x5 x6 : Option V, σ = [some (.ref p), some (.int at0), some (.ref D), x3, x4, x5, x6] ∧ Same H H' ∧ H' D = some (.dK (tab zs (aloneSum at0 zs (rows.take i)))))
        ⟨none, none, none, none, rfl, s1, e1⟩ (fun _ _ _ _ ⟨_, _, _, _, _, h, _⟩ => .of (h _ _ hu)) ?_ ?_⟩
      · rintro i x σ H2 hi ⟨x3, x4, x5, x6, rfl, s2, e2⟩
        obtain ⟨a, hai, rfl⟩ := item_map hi
        obtain ⟨h1, h2⟩ := ha a (List.mem_of_getElem? hai)
        have mem : a.2.2 ∈ rows := by rw [← hm]; exact List.mem_map.mpr ⟨a, List.mem_of_getElem? hai, rfl⟩
        have ri : rows[i]? = some a.2.2 := by rw [← hm, List.getElem?_map, hai]; rfl
        obtain ⟨bok, _, _⟩ := rok.2 a.2.2 mem
        refine ⟨a.1, _, rfl, .of (s2 _ _ h1), rfl, _, _, rfl, _, _, rfl, rfl, ?_⟩
        refine ⟨.ref p, rfl, p, T.C_Poll, dx, _, .ref o, rfl, s2 _ _ hp, T.cl_Poll, T.n_Poll_options, pollF_options o u, .ref a.2.1, rfl, o, a.2.1, zs, a.2.2.1, rfl, s2 _ _ ho, h2.same s2, bok, nd, few, fun Tt bs ls H3 lev s3 eT ht em => ?_⟩
        have lbs : bs.length = ls.length := by
          have := congrArg List.length em
          unfold cutBy at this
          rw [List.length_map, List.length_map] at this
          exact this
        have lne : 0 < ls.length := by
          obtain ⟨z0, zs', ez⟩ : ∃ z0 zs', zs = z0 :: zs' := by
            cases hz : zs with
            | nil => exact absurd hz ok.some
            | cons a l => exact ⟨a, l, rfl⟩
          exact List.length_pos_of_mem ((lev.2 _).mpr ⟨z0, by rw [ez]; exact List.mem_cons_self, rfl⟩)
        obtain ⟨j, k, bt, hside, hj, hb, hix⟩ : ∃ (j : Nat) (k : Int) (bt : Addr × List Str), (at0 = 0 ∧ ls[0]? = some k ∨ at0 = -1 ∧ ls[ls.length - 1]? = some k) ∧ ls[j]? = some k ∧ bs[j]? = some bt ∧ atI (bs.map fun b => V.ref b.1) at0 = some (V.ref bt.1) := by
          rcases hat with rfl | rfl
          · have e1 := List.getElem?_eq_getElem lne
            have e2 := List.getElem?_eq_getElem (show 0 < bs.length by omega)
            exact ⟨0, _, _, .inl ⟨rfl, e1⟩, e1, e2, atI_nat (j := 0) (by rw [List.getElem?_map, e2]; rfl)⟩
          · have e1 := List.getElem?_eq_getElem (show ls.length - 1 < ls.length by omega)
            have e2 := List.getElem?_eq_getElem (show ls.length - 1 < bs.length by omega)
            refine ⟨ls.length - 1, _, _, .inr ⟨rfl, e1⟩, e1, e2, ?_⟩
            have ne : bs ≠ [] := fun h => by rw [h] at lbs; simp at lbs; omega
            have e3 : bs[ls.length - 1]'(by omega) = bs.getLast ne := by
              rw [List.getLast_eq_getElem]
              congr 1
              omega
            rw [e3]
            have e4 := List.dropLast_concat_getLast ne
            have : (bs.map fun b => V.ref b.1) = (bs.dropLast.map fun b => V.ref b.1) ++ [V.ref (bs.getLast ne).1] := by
              conv => lhs; rw [← e4]
              rw [List.map_append]
              rfl
            rw [this]
            exact atI_last _ _
        obtain ⟨hk, he, hf⟩ := lev_at lev hside
        have ebt : bt.2 = zs.filter fun y => decide (side at0 (a.2.2.1.rk y) = side at0 k) := by
          rw [← hf]
          have e1 : (bs.map (·.2))[j]? = some bt.2 := by rw [List.getElem?_map, hb]; rfl
          have e2 : (cutBy zs a.2.2.1.rk ls)[j]? = some (zs.filter fun y => decide (a.2.2.1.rk y = k)) := by
            unfold cutBy
            rw [List.getElem?_map, hj]
            rfl
          rw [em, e2] at e1
          exact (Option.some.inj e1).symm
        have htb := (ht bt (List.mem_of_getElem? hb)).1
        have s23 := s2.trans s3
        have e3 := s3 _ _ e2
        refine ⟨.int at0, rfl, Tt, _, at0, .ref bt.1, rfl, rfl, .of eT, hix, .ref bt.1, rfl, bt.1, _, rfl, .inr (.of htb), rfl, _, rfl, ?_⟩
        by_cases one : bt.2.length = 1
        · rw [decide_eq_true (show V.int (((bt.2.map V.str).length : Nat) : Int) = V.int 1 by rw [List.length_map, one] <;> rfl)]
          obtain ⟨z, ez⟩ : ∃ z, bt.2 = [z] := by
            match h : bt.2, one with
            | [z], _ => exact ⟨z, rfl⟩
          have ezf := ez
          rw [ebt] at ezf
          have mz : z ∈ zs := (List.mem_filter.mp (show z ∈ zs.filter (fun y => decide (side at0 (a.2.2.1.rk y) = side at0 k)) by rw [ezf]; exact List.mem_singleton.mpr rfl)).1
          rw [ez] at htb
          have got : DGet H3 D (.str z) (some (.int (aloneSum at0 zs (rows.take i) z))) := by
            have := DGet.k (k := .inr z) e3
            rw [tab_val, if_pos mz] at this
            exact this
          refine iteT ⟨.ref D, rfl, .ref bt.1, rfl, bt.1, _, 0, .str z, rfl, rfl, .of htb, atI_nat (j := 0) rfl, D, _, rfl, got, .int a.2.2.2, rfl, _, _, rfl, rfl, _, DPut.k (k := .inr z) e3 ?_, _, _, _, _, rfl, same_mut s23 nD, ?_⟩
          · rw [tab_len]
            exact small1000 (by omega)
          · rw [upd_same, tab_put mz]
            refine congrArg (fun l => some (HO.dK l)) (tab_congr fun y hy => ?_)
            rw [alone_more ri, alone_one hk ezf hy]
            by_cases c : y = z
            · rw [if_pos c, decide_eq_true c, if_pos rfl, c]
            · rw [if_neg c, decide_eq_false c, if_neg Bool.false_ne_true, Int.add_zero]
        · rw [decide_eq_false fun h => one (by have := V.int.inj h; rw [List.length_map] at this; omega)]
          refine iteF ⟨_, _, _, _, rfl, s23, ?_⟩
          rw [e3]
          refine congrArg (fun l => some (HO.dK l)) (tab_congr fun y hy => ?_)
          rw [alone_more ri, alone_none nd hk he (by rw [← ebt]; exact one) hy, if_neg Bool.false_ne_true, Int.add_zero]
      · rintro σ H2 ⟨x3, x4, x5, x6, rfl, s2, e2⟩
        rw [List.length_map, la, List.take_length] at e2
        exact ⟨.ref D, rfl, q D H2 s2 nD e2⟩
end
/-! ### the options that a ballot lets by -/
def Bal.by : Bal → List Str
  | .order ts => ts.flatten
  | .lets ns => ns
  | .marks ms => (ms.filter fun m => decide (0 < m.2)).map (·.1)
section
variable {P : Program} {w : World} {K : PySem.W.Frag} {mg : Str → Option Value} {base : Heap}
def sp_named : Sp := fun vs H Q _ => ∃ (t : Addr) (zs : List Str) (b : Bal), vs = [.ref t] ∧ BalAt H t b ∧ b.Ok zs ∧ zs.length ≤ 6 ∧
  ∀ (D : Addr) (H' : Hp), Same H H' → H D = none → H' D = some (.lst (b.by.map V.str)) → Q (.ref D) H'
theorem ok_named (T : Txt K mg) : FnOk P w K mg base CX0 1 T.f_named T.fd_named ["ballot"] sp_named := by
  refine T.F_named.ok sc_named (fun vs H Q E h => ?_) (fun cdv A outer s H vs Q E hr h => ?_)
  · obtain ⟨t, zs, b, rfl, _⟩ := h
    rfl
  · obtain ⟨t, zs, b, rfl, hb, bok, lz, q⟩ := h
    refine ⟨_, (pss_cons
 (ps_asg (pv 0) (pg_tup rfl (pgs_cons (pg_name (i := 1) sc_named.nd rfl (Or.inl rfl)) (pgs_cons (pg_name (i := 2) sc_named.nd rfl (Or.inl rfl)) pgs_nil))))
 (pss_cons
 (ps_if (pt_cmpR op_eq (pv 1) pe_str (nomark _))
 (pss_one
 (ps_ret (pe_lc2 (own := [("tier", 3), ("name", 4)]) (vs1 := [4]) (g := gName 3) (g1 := gName 4) (tt := tYes) (tt1 := tYes) rfl sc_named.nd (pi_tup (pv 2)) (blkOk_by (own := [("tier", 3), ("name", 4)]) (N := ["ballot", "form", "told", "tier", "name", "mark"]) (sc := (defScope s_named)) (by decide +kernel)) (by decide) (fun _ _ _ _ _ => pg_name (i := 3) sc_named.nd rfl (Or.inl rfl)) (fun _ _ _ _ _ => pts_nil) (fun s0 H0 C0 cl0 fp0 => (by have h := ((pi_tup (pv 3)) : PI ((cxOf CX0 P w K mg base ["ballot", "form", "told", "tier", "name", "mark"] "named" (defScope s_named) T.f_named cdv A outer s H E).nox.blk s0 H0 (lcScope (rootE ((blkOf ((defBody s_named).getD 1 (.Pass ⟨0, 0, 0, 0⟩)) 0).getD 0 (.Pass ⟨0, 0, 0, 0⟩)))) (compEnvC (lcScope (rootE ((blkOf ((defBody s_named).getD 1 (.Pass ⟨0, 0, 0, 0⟩)) 0).getD 0 (.Pass ⟨0, 0, 0, 0⟩)))) cl0 C0 (cxOf CX0 P w K mg base ["ballot", "form", "told", "tier", "name", "mark"] "named" (defScope s_named) T.f_named cdv A outer s H E).nox.env) fp0) (lcG (rootE ((blkOf ((defBody s_named).getD 1 (.Pass ⟨0, 0, 0, 0⟩)) 0).getD 0 (.Pass ⟨0, 0, 0, 0⟩))) 1).target (lcG (rootE ((blkOf ((defBody s_named).getD 1 (.Pass ⟨0, 0, 0, 0⟩)) 0).getD 0 (.Pass ⟨0, 0, 0, 0⟩))) 1).iter _); dsimp only [Cx.blk, Cx.tr, Cx.suite, Cx.nox, Cx.wish, cxOf] at h; exact h)) (fun _ _ _ _ _ => pg_name (i := 4) sc_named.nd rfl (Or.inl rfl)) (fun _ _ _ _ _ => pts_nil) (fun _ _ _ _ _ => (pv 4)))))
 pss_nil)
 (pss_cons
 (ps_if (pt_cmpR op_eq (pv 1) pe_str (nomark _))
 (pss_one
 (ps_ret (pe_callTy call_list_of (by rfl) T.z_list (by decide +kernel) (pa_cons (pv 2) pa_nil))))
 pss_nil)
 (pss_one
 (ps_ret (pe_lc (own := [("name", 4), ("mark", 5)]) rfl sc_named.nd (pi_tup (pv 2)) (blkOk_by (own := [("name", 4), ("mark", 5)]) (N := ["ballot", "form", "told", "tier", "name", "mark"]) (sc := (defScope s_named)) (by decide +kernel)) (fun s0 H0 C0 cl0 fp0 => (by have h := (pg_tup (n := 2) rfl (pgs_cons (pg_name (i := 4) sc_named.nd rfl (Or.inl rfl)) (pgs_cons (pg_name (i := 5) sc_named.nd rfl (Or.inl rfl)) pgs_nil)) : PG ((cxOf CX0 P w K mg base ["ballot", "form", "told", "tier", "name", "mark"] "named" (defScope s_named) T.f_named cdv A outer s H E).nox.blk s0 H0 (lcScope (rootE ((defBody s_named).getD 3 (.Pass ⟨0, 0, 0, 0⟩)))) (compEnvC (lcScope (rootE ((defBody s_named).getD 3 (.Pass ⟨0, 0, 0, 0⟩)))) cl0 C0 (cxOf CX0 P w K mg base ["ballot", "form", "told", "tier", "name", "mark"] "named" (defScope s_named) T.f_named cdv A outer s H E).nox.env) fp0) (subE (rootE ((defBody s_named).getD 3 (.Pass ⟨0, 0, 0, 0⟩))) 2) _); dsimp only [Cx.blk, Cx.tr, Cx.suite, Cx.nox, Cx.wish, cxOf] at h; exact h)) (fun _ _ _ _ _ => (pts_one (pt_cmpR op_gt (pv 5) pe_int (nomark _)))) (fun _ _ _ _ _ => (pv 4)))))))), ?_⟩
    have few := (bok.few lz).1
    cases b with
    | order ts =>
      obtain ⟨u, bs, h1, h2, h3, h4⟩ := hb
      refine ⟨.ref t, rfl, t, _, rfl, .of h1, rfl, _, _, rfl, _, _, rfl, rfl, ?_⟩
      refine ⟨.str "order", rfl, rfl, _, rfl, iteT ?_⟩
      have lts : bs.length = ts.length := by rw [← h4, List.length_map]
      have small : ∀ l : List Str, l.length ≤ ts.flatten.length → l.length ≤ 6 := fun l hl => by
        have hs := Own.few lz bok.1 bok.2.1
        omega
      refine ⟨.ref u, rfl, u, rfl, ⟨_, .of h2⟩, fun D nD => ?_⟩
      refine outer_tup (K := K) (a := u) (xs := bs.map fun b => V.ref b.1) (fun i H' => Same H H' ∧ H' D = some (.lst ((ts.take i).flatten.map V.str))) ⟨same_upd nD, upd_same⟩ (fun _ _ h => .of (h.1 _ _ h2)) ?_ ?_
      · rintro i x H2 hi ⟨s2, e2⟩
        obtain ⟨bb, hbb, rfl⟩ := item_map hi
        have hb1 := (h3 bb (List.mem_of_getElem? hbb)).1
        have tsi : ts[i]? = some bb.2 := by rw [← h4, List.getElem?_map, hbb]; rfl
        have fl : (ts.take i).flatten ++ bb.2 = (ts.take (i + 1)).flatten := by
          rw [take_more tsi, List.flatten_append]
          simp
        have le6 : (ts.take (i + 1)).flatten.length ≤ ts.flatten.length := by
          conv => rhs; rw [← List.take_append_drop (i + 1) ts]
          rw [List.flatten_append, List.length_append]
          omega
        refine ⟨rfl, .ref bb.1, rfl, bb.1, rfl, ⟨_, .of (s2 _ _ hb1)⟩, inner_tup (K := K) (b := bb.1) (ys := bb.2.map V.str) (fun j H' => Same H H' ∧ H' D = some (.lst (((ts.take i).flatten ++ bb.2.take j).map V.str))) ⟨s2, by rw [List.take_zero, List.append_nil]; exact e2⟩ (fun _ _ h => .of (h.1 _ _ hb1)) ?_ ?_⟩
        · rintro j y H3 hj ⟨s3, e3⟩
          obtain ⟨z, hz, rfl⟩ := item_map hj
          have jl := (List.getElem?_eq_some_iff.mp hz).1
          refine ⟨rfl, .str z, rfl, _, e3, ?_, same_mut s3 nD, ?_⟩
          · rw [List.length_map]
            have h6 := small ((ts.take (i + 1)).flatten) le6
            rw [← fl, List.length_append] at h6
            rw [List.length_append, List.length_take]
            exact small1000 (by omega)
          · rw [upd_same, take_more hz, ← List.append_assoc, List.map_append (l₁ := (ts.take i).flatten ++ bb.2.take j)]
            rfl
        · rintro H3 ⟨s3, e3⟩
          rw [List.length_map, List.take_length, fl] at e3
          exact ⟨s3, e3⟩
      · rintro H2 ⟨s2, e2⟩
        rw [List.length_map, lts, List.take_length] at e2
        exact q D H2 s2 nD e2
    | lets ns =>
      obtain ⟨u, h1, h2⟩ := hb
      refine ⟨.ref t, rfl, t, _, rfl, .of h1, rfl, _, _, rfl, _, _, rfl, rfl, ?_⟩
      refine ⟨.str "lets", rfl, rfl, _, rfl, iteF ?_⟩
      refine ⟨.str "lets", rfl, rfl, _, rfl, iteT ?_⟩
      exact ⟨.ref u, rfl, u, _, rfl, .inr (.of h2), fun D nD => q D _ (same_upd nD) nD upd_same⟩
    | marks ms =>
      obtain ⟨u, bs, h1, h2, h3, h4⟩ := hb
      have lb : bs.length ≤ 6 := by
        have e : bs.length = ms.length := by rw [← h4, List.length_map]
        have : (ms.map mkT).length ≤ 6 := few
        rw [List.length_map] at this
        omega
      refine ⟨.ref t, rfl, t, _, rfl, .of h1, rfl, _, _, rfl, _, _, rfl, rfl, ?_⟩
      refine ⟨.str "marks", rfl, rfl, _, rfl, iteF ?_⟩
      refine ⟨.str "marks", rfl, rfl, _, rfl, iteF ?_⟩
      refine ⟨.ref u, rfl, u, rfl, ⟨_, .of h2⟩, fun M nM => ?_⟩
      refine lc_tup (K := K) (a := u) (xs := bs.map fun b => V.ref b.1) (fun i H' => Same H H' ∧ H' M = some (.lst ((((ms.take i).filter fun m => decide (0 < m.2)).map (·.1)).map V.str))) ⟨same_upd nM, upd_same⟩ (fun _ _ _ h => .of (h.1 _ _ h2)) ?_ ?_
      · rintro i x H1 hi ⟨s1, e1⟩
        obtain ⟨bb, hbb, rfl⟩ := item_map hi
        have il := (List.getElem?_eq_some_iff.mp hbb).1
        have hm : ms[i]? = some bb.2 := by rw [← h4, List.getElem?_map, hbb]; rfl
        refine ⟨bb.1, _, rfl, .of (s1 _ _ (h3 bb (List.mem_of_getElem? hbb))), rfl, _, _, rfl, _, _, rfl, rfl, rfl, .int bb.2.2, rfl, _, _, rfl, rfl, _, rfl, ?_⟩
        by_cases c : 0 < bb.2.2
        · rw [decide_eq_true c]
          refine iteT ⟨.str bb.2.1, rfl, _, e1, ?_, same_mut s1 nM, ?_⟩
          · rw [List.length_map, List.length_map]
            have := List.length_filter_le (fun m : Str × Int => decide (0 < m.2)) (ms.take i)
            rw [List.length_take] at this
            exact small1000 (by omega)
          · rw [upd_same, take_more hm, List.filter_append, List.map_append, List.map_append]
            have : [bb.2].filter (fun m => decide (0 < m.2)) = [bb.2] := by rw [List.filter_cons, if_pos (decide_eq_true c)] <;> rfl
            rw [this]
            rfl
        · rw [decide_eq_false c]
          refine iteF ⟨s1, ?_⟩
          have : [bb.2].filter (fun m => decide (0 < m.2)) = [] := by rw [List.filter_cons, if_neg (by rw [decide_eq_false c]; exact Bool.false_ne_true)] <;> rfl
          rw [take_more hm, List.filter_append, this, List.append_nil]
          exact e1
      · rintro H1 ⟨s1, e1⟩
        have lm : bs.length = ms.length := by rw [← h4, List.length_map]
        rw [List.length_map, lm, List.take_length] at e1
        exact q M H1 s1 nM e1
end
/-! ### how many voices let an option by; points -/
theorem by_ok {zs : List Str} (n : zs.length ≤ 6) : ∀ {b : Bal}, b.Ok zs → b.by.Nodup ∧ (∀ z ∈ b.by, z ∈ zs)
  | .order _, h => ⟨h.1, h.2.1⟩
  | .lets _, h => h
  | .marks ms, h => by
    refine ⟨h.1.sublist (List.Sublist.map _ List.filter_sublist), fun z hz => ?_⟩
    obtain ⟨m, hm, rfl⟩ := List.mem_map.mp hz
    exact h.2.1 m (List.mem_filter.mp hm).1
def letSum (rows : List (Bal × Int)) (z : Str) : Int := (rows.map fun r => if z ∈ r.1.by then r.2 else 0).sum
theorem let_more {rows : List (Bal × Int)} {i : Nat} {r : Bal × Int} (h : rows[i]? = some r) (z : Str) : letSum (rows.take (i + 1)) z = letSum (rows.take i) z + if z ∈ r.1.by then r.2 else 0 := by
  unfold letSum
  rw [take_more h, List.map_append, List.sum_append]
  simp
section
variable {P : Program} {w : World} {K : PySem.W.Frag} {mg : Str → Option Value} {base : Heap}
def sp_lets (C : Addr) : Sp := fun vs H Q _ => ∃ (p o u : Addr) (zs : List Str) (rows : List (Bal × Int)), vs = [.ref p] ∧ PollOk C H p o u zs rows ∧
  ∀ (D : Addr) (H' : Hp), Same H H' → H D = none → H' D = some (.dK (tab zs (letSum rows))) → Q (.ref D) H'
theorem ok_lets (T : Txt K mg) : FnOk P w K mg base CX0 2 T.f_lets T.fd_lets ["poll"] (sp_lets T.C_Poll) := by
  refine T.F_lets.ok sc_lets (fun vs H Q E h => ?_) (fun cdv A outer s H vs Q E hr h => ?_)
  · obtain ⟨p, o, u, zs, rows, rfl, _⟩ := h
    rfl
  · obtain ⟨p, o, u, zs, rows, rfl, pk, q⟩ := h
    refine ⟨_, (pss_cons
 (ps_setDc (i := 1) (own := [("name", 4)]) (g := gName 4) (tt := tYes) rfl sc_lets.nd rfl rfl (swD_true rfl rfl rfl (by decide +kernel)) (pi_tup (pe_fld (pv 0) rfl)) (blkOk_by (own := [("name", 4)]) (N := ["poll", "found", "ballot", "many", "name"]) (sc := (defScope s_lets)) (by decide +kernel)) (fun _ _ _ _ _ => pg_name (i := 4) sc_lets.nd rfl (Or.inl rfl)) (fun _ _ _ _ _ => pts_nil) (fun _ _ _ _ _ => (pv 4)) (fun _ _ _ _ _ => pe_int))
 (pss_cons
 (ps_for PassesOwn.never rfl (pi_tup (pe_fld (pv 0) rfl)) (pg_tup rfl (pgs_cons (pg_name (i := 2) sc_lets.nd rfl (Or.inl rfl)) (pgs_cons (pg_name (i := 3) sc_lets.nd rfl (Or.inl rfl)) pgs_nil)))
 (pss_one
 (ps_for PassesOwn.never rfl (pi_list (pe_call (ok_named T) (hr.mono (by decide)) (by rfl) T.g_named T.F_named.kp T.b_named .nil pass0 (pa_cons (pv 2) pa_nil))) (pg_name (i := 4) sc_lets.nd rfl (Or.inl rfl))
 (pss_one
 (ps_daug (hu_of hr) (pv 1) (pv 4) (pv 3) in_add (fun _ _ _ => rfl))))))
 (pss_one
 (ps_ret (pv 1))))), ?_⟩
    obtain ⟨⟨dx, hp⟩, ho, ⟨as, hu, ha, hm⟩, ok, rok⟩ := id pk
    have nd := ok.nodup
    have few := ok.few
    have la : as.length = rows.length := by rw [← hm, List.length_map]
    refine ⟨.ref p, rfl, p, T.C_Poll, dx, _, .ref o, rfl, hp, T.cl_Poll, T.n_Poll_options, pollF_options o u, o, rfl, ⟨_, .of ho⟩, fun D nD => ?_⟩
    refine dc_tup (K := K) (a := o) (xs := zs.map V.str) (fun i H' => Same H H' ∧ H' D = some (.dK (tab (zs.take i) fun _ => (0 : Int)))) ⟨same_upd nD, upd_same⟩ (fun _ _ _ h => .of (h.1 _ _ ho)) ?_ ?_
    · rintro i x H1 hi ⟨s1, e1⟩
      obtain ⟨z, hz, rfl⟩ := item_map hi
      have zn : z ∉ zs.take i := fun m => nodup_out nd hz m
      refine ⟨rfl, .str z, rfl, _, .inr z, rfl, e1, ?_, same_mut s1 nD, ?_⟩
      · rw [tab_len, List.length_take]
        exact small1000 (by omega)
      · rw [upd_same, tab_new (f := fun _ => (0 : Int)) zn rfl, ← take_more hz]
    · rintro H1 ⟨s1, e1⟩
      rw [List.length_map, List.take_length] at e1
      have hp1 := s1 _ _ hp
      have hu1 := s1 _ _ hu
      refine ⟨.ref p, rfl, p, T.C_Poll, dx, _, .ref u, rfl, hp1, T.cl_Poll, T.n_Poll_voices, pollF_voices o u, u, rfl, ⟨_, .of hu1⟩, for_tup (K := K) (a := u) (xs := as.map fun a => V.ref a.1) (fun i σ H' => ∃ x2 x3 x4 : Option V, σ = [some (.ref p), some (.ref D), x2, x3, x4] ∧ Same H H' ∧ H' D = some (.dK (tab zs (letSum (rows.take i)))))
        ⟨none, none, none, rfl, s1, e1⟩ (fun _ _ _ _ ⟨_, _, _, _, h, _⟩ => .of (h _ _ hu)) ?_ ?_⟩
      · rintro i x σ H2 hi ⟨x2, x3, x4, rfl, s2, e2⟩
        obtain ⟨a, hai, rfl⟩ := item_map hi
        obtain ⟨h1, h2⟩ := ha a (List.mem_of_getElem? hai)
        have mem : a.2.2 ∈ rows := by rw [← hm]; exact List.mem_map.mpr ⟨a, List.mem_of_getElem? hai, rfl⟩
        have ri : rows[i]? = some a.2.2 := by rw [← hm, List.getElem?_map, hai]; rfl
        obtain ⟨bok, _, _⟩ := rok.2 a.2.2 mem
        obtain ⟨bn, bsub⟩ := by_ok few bok
        refine ⟨a.1, _, rfl, .of (s2 _ _ h1), rfl, _, _, rfl, _, _, rfl, rfl, ?_⟩
        refine ⟨.ref a.2.1, rfl, a.2.1, zs, a.2.2.1, rfl, h2.same s2, bok, few, fun L H3 s3 nL eL => ?_⟩
        have DL : L ≠ D := fun e => by rw [e, e2] at nL; cases nL
        have s23 := s2.trans s3
        refine ⟨L, rfl, ⟨_, .of eL⟩, for_list (K := K) (a := L) (xs := a.2.2.1.by.map V.str) (fun j σ H' => ∃ x4 : Option V, σ = [some (.ref p), some (.ref D), some (.ref a.2.1), some (.int a.2.2.2), x4] ∧ Same H H' ∧ H' L = some (.lst (a.2.2.1.by.map V.str)) ∧ H' D = some (.dK (tab zs fun z => letSum (rows.take i) z + if z ∈ a.2.2.1.by.take j then a.2.2.2 else 0)))
          ⟨x4, rfl, s23, eL, ?_⟩ (fun _ _ _ _ ⟨_, _, _, h, _⟩ => .of h) ?_ ?_⟩
        · rw [s3 _ _ e2]
          exact congrArg (fun l => some (HO.dK l)) (tab_congr fun z _ => by rw [List.take_zero, if_neg (by simp), Int.add_zero])
        · rintro j x σ H4 hj ⟨x4, rfl, s4, eL4, e4⟩
          obtain ⟨z, hz, rfl⟩ := item_map hj
          have mz := bsub z (List.mem_of_getElem? hz)
          have got : DGet H4 D (.str z) (some (.int (letSum (rows.take i) z + if z ∈ a.2.2.1.by.take j then a.2.2.2 else 0))) := by
            have := DGet.k (k := .inr z) e4
            rw [tab_val, if_pos mz] at this
            exact this
          refine ⟨.ref D, rfl, .str z, rfl, D, _, rfl, got, .int a.2.2.2, rfl, _, _, rfl, rfl, _, DPut.k (k := .inr z) e4 ?_, _, rfl, same_mut s4 nD, by rw [upd_ne DL]; exact eL4, ?_⟩
          · rw [tab_len]
            exact small1000 (by omega)
          · rw [upd_same, tab_put mz]
            refine congrArg (fun l => some (HO.dK l)) (tab_congr fun y hy => ?_)
            have out : z ∉ a.2.2.1.by.take j := fun m => nodup_out bn hz m
            rw [take_more hz]
            by_cases c : y = z
            · rw [if_pos c, c, if_neg out, if_pos (List.mem_append_right _ (List.mem_singleton.mpr rfl)), Int.add_zero]
            · rw [if_neg c]
              have : (y ∈ a.2.2.1.by.take j ++ [z]) ↔ y ∈ a.2.2.1.by.take j := by
                rw [List.mem_append, List.mem_singleton]
                exact ⟨fun h => h.resolve_right c, .inl⟩
              by_cases m : y ∈ a.2.2.1.by.take j
              · rw [if_pos m, if_pos (this.mpr m)]
              · rw [if_neg m, if_neg fun h => m (this.mp h)]
        · rintro σ H4 ⟨x4, rfl, s4, eL4, e4⟩
          rw [List.length_map, List.take_length] at e4
          refine ⟨_, _, _, rfl, s4, ?_⟩
          rw [e4]
          exact congrArg (fun l => some (HO.dK l)) (tab_congr fun z _ => (let_more ri z).symm)
      · rintro σ H2 ⟨x2, x3, x4, rfl, s2, e2⟩
        rw [List.length_map, la, List.take_length] at e2
        exact ⟨.ref D, rfl, q D H2 s2 nD e2⟩
def sp_alone (at0 : Int) (C : Addr) : Sp := fun vs H Q _ => ∃ (p o u : Addr) (zs : List Str) (rows : List (Bal × Int)), vs = [.ref p] ∧ PollOk C H p o u zs rows ∧
  ∀ (D : Addr) (H' : Hp), Same H H' → H D = none → H' D = some (.dK (tab zs (aloneSum at0 zs rows))) → Q (.ref D) H'
theorem ok_firsts (T : Txt K mg) : FnOk P w K mg base CX0 5 T.f_firsts T.fd_firsts ["poll"] (sp_alone 0 T.C_Poll) := by
  refine T.F_firsts.ok sc_firsts (fun vs H Q E h => ?_) (fun cdv A outer s H vs Q E hr h => ?_)
  · obtain ⟨p, o, u, zs, rows, rfl, _⟩ := h
    rfl
  · obtain ⟨p, o, u, zs, rows, rfl, pk, q⟩ := h
    refine ⟨_, (pss_one
 (ps_ret (pe_call (ok_alone_at T) (hr.mono (by decide)) (by rfl) T.g_alone_at T.F_alone_at.kp T.b_alone_at .nil pass0 (pa_cons (pv 0) (pa_cons pe_int pa_nil))))), ?_⟩
    exact ⟨.ref p, rfl, p, o, u, zs, rows, 0, rfl, pk, .inl rfl, q⟩
theorem ok_lasts (T : Txt K mg) : FnOk P w K mg base CX0 5 T.f_lasts T.fd_lasts ["poll"] (sp_alone (-1) T.C_Poll) := by
  refine T.F_lasts.ok sc_lasts (fun vs H Q E h => ?_) (fun cdv A outer s H vs Q E hr h => ?_)
  · obtain ⟨p, o, u, zs, rows, rfl, _⟩ := h
    rfl
  · obtain ⟨p, o, u, zs, rows, rfl, pk, q⟩ := h
    refine ⟨_, (pss_one
 (ps_ret (pe_call (ok_alone_at T) (hr.mono (by decide)) (by rfl) T.g_alone_at T.F_alone_at.kp T.b_alone_at .nil pass0 (pa_cons (pv 0) (pa_cons (pe_un un_neg pe_int) pa_nil))))), ?_⟩
    exact ⟨.ref p, rfl, _, rfl, p, o, u, zs, rows, -1, rfl, pk, .inr rfl, q⟩
end
/-! ### points; the margin of two -/
def pointSum (f : Str → Str → Int) (zs : List Str) (z : Str) : Int := ((zs.filter fun y => decide (y ≠ z)).map fun y => f z y).sum
section
variable {P : Program} {w : World} {K : PySem.W.Frag} {mg : Str → Option Value} {base : Heap}
def sp_points (C : Addr) : Sp := fun vs H Q _ => ∃ (p o u : Addr) (zs : List Str) (rows : List (Bal × Int)), vs = [.ref p] ∧ PollOk C H p o u zs rows ∧
  ∀ (D : Addr) (H' : Hp), Same H H' → H D = none → H' D = some (.dK (tab zs (pointSum (marg rows) zs))) → Q (.ref D) H'
theorem ok_points (T : Txt K mg) : FnOk P w K mg base CX0 5 T.f_points T.fd_points ["poll"] (sp_points T.C_Poll) := by
  refine T.F_points.ok sc_points (fun vs H Q E h => ?_) (fun cdv A outer s H vs Q E hr h => ?_)
  · obtain ⟨p, o, u, zs, rows, rfl, _⟩ := h
    rfl
  · obtain ⟨p, o, u, zs, rows, rfl, pk, q⟩ := h
    refine ⟨_, (pss_cons
 (ps_set (i := 1) sc_points.nd rfl (Or.inr rfl) (pe_call (ok_margins T) (hr.mono (by decide)) (by rfl) T.g_margins T.F_margins.kp T.b_margins .nil pass0 (pa_cons (pv 0) pa_nil)))
 (pss_one
 (ps_ret (pe_dc (own := [("one", 2)]) (g := gName 2) (tt := tYes) rfl sc_points.nd (pi_tup (pe_fld (pv 0) rfl)) (blkOk_by (own := [("one", 2)]) (N := ["poll", "held", "one", "other"]) (sc := (defScope s_points)) (by decide +kernel)) (fun _ _ _ _ _ => pg_name (i := 2) sc_points.nd rfl (Or.inr rfl)) (fun _ _ _ _ _ => pts_nil) (fun _ _ _ _ _ => (pv 2)) (fun s0 H0 C0 cl0 fp0 => (by have h := ((pe_callB (cr_sum rfl) (by rfl) T.z_sum (by decide +kernel) (pa_cons (pe_lc (own := [("other", 3)]) (g := gName 3) rfl sc_points.nd (pi_tup (pe_fld (pv 0) rfl)) (blkOk_re (blkOk_by (own := [("other", 3)]) (N := ["poll", "held", "one", "other"]) (sc := (lcScope (rootE ((defBody s_points).getD 1 (.Pass ⟨0, 0, 0, 0⟩))))) (by decide +kernel))) (fun _ _ _ _ _ => pg_name (i := 3) sc_points.nd rfl (Or.inl rfl)) (fun _ _ _ _ _ => (pts_one (pt_cmpR op_ne (pv 3) (pv 2) (nomark _)))) (fun s1 H1 C1 cl1 fp1 => (by have h := ((pe_dget (hu_of hr) (pv 1) (pe_tup (pa_cons (pv 2) (pa_cons (pv 3) pa_nil))) (fun _ _ => rfl)) : PE (((cxOf CX0 P w K mg base ["poll", "held", "one", "other"] "points" (defScope s_points) T.f_points cdv A outer s H E).nox.blk s0 H0 (lcScope (rootE ((defBody s_points).getD 1 (.Pass ⟨0, 0, 0, 0⟩)))) (compEnvC (lcScope (rootE ((defBody s_points).getD 1 (.Pass ⟨0, 0, 0, 0⟩)))) cl0 C0 (cxOf CX0 P w K mg base ["poll", "held", "one", "other"] "points" (defScope s_points) T.f_points cdv A outer s H E).nox.env) fp0).blk s1 H1 (lcScope (subE (subE (rootE ((defBody s_points).getD 1 (.Pass ⟨0, 0, 0, 0⟩))) 1) 1)) (compEnvC (lcScope (subE (subE (rootE ((defBody s_points).getD 1 (.Pass ⟨0, 0, 0, 0⟩))) 1) 1)) cl1 C1 ((cxOf CX0 P w K mg base ["poll", "held", "one", "other"] "points" (defScope s_points) T.f_points cdv A outer s H E).nox.blk s0 H0 (lcScope (rootE ((defBody s_points).getD 1 (.Pass ⟨0, 0, 0, 0⟩)))) (compEnvC (lcScope (rootE ((defBody s_points).getD 1 (.Pass ⟨0, 0, 0, 0⟩)))) cl0 C0 (cxOf CX0 P w K mg base ["poll", "held", "one", "other"] "points" (defScope s_points) T.f_points cdv A outer s H E).nox.env) fp0).env) fp1) (subE (subE (subE (rootE ((defBody s_points).getD 1 (.Pass ⟨0, 0, 0, 0⟩))) 1) 1) 0) _); dsimp only [Cx.blk, Cx.tr, Cx.suite, Cx.nox, Cx.wish, cxOf] at h; exact h))) pa_nil)) : PE ((cxOf CX0 P w K mg base ["poll", "held", "one", "other"] "points" (defScope s_points) T.f_points cdv A outer s H E).nox.blk s0 H0 (lcScope (rootE ((defBody s_points).getD 1 (.Pass ⟨0, 0, 0, 0⟩)))) (compEnvC (lcScope (rootE ((defBody s_points).getD 1 (.Pass ⟨0, 0, 0, 0⟩)))) cl0 C0 (cxOf CX0 P w K mg base ["poll", "held", "one", "other"] "points" (defScope s_points) T.f_points cdv A outer s H E).nox.env) fp0) (subE (rootE ((defBody s_points).getD 1 (.Pass ⟨0, 0, 0, 0⟩))) 1) _); dsimp only [Cx.blk, Cx.tr, Cx.suite, Cx.nox, Cx.wish, cxOf] at h; exact h)))))), ?_⟩
    obtain ⟨dx, hp⟩ := pk.poll
    have ho := pk.opts
    have nd := pk.ok.nodup
    have few := pk.ok.few
    refine ⟨.ref p, rfl, p, o, u, zs, rows, rfl, pk, fun M H1 s1 nM eM => ?_⟩
    have ho1 := s1 _ _ ho
    have hp1 := s1 _ _ hp
    refine ⟨.ref p, rfl, p, T.C_Poll, dx, _, .ref o, rfl, hp1, T.cl_Poll, T.n_Poll_options, pollF_options o u, o, rfl, ⟨_, .of ho1⟩, fun D nD => ?_⟩
    have nDH := s1.free nD
    refine dc_tup (K := K) (a := o) (xs := zs.map V.str) (fun i H' => Same H1 H' ∧ H' D = some (.dK (tab (zs.take i) (pointSum (marg rows) zs)))) ⟨same_upd nD, upd_same⟩ (fun _ _ _ h => .of (h.1 _ _ ho1)) ?_ ?_
    · rintro i x H2 hi ⟨s2, e2⟩
      obtain ⟨z, hz, rfl⟩ := item_map hi
      have mz := List.mem_of_getElem? hz
      have zn : z ∉ zs.take i := fun m => nodup_out nd hz m
      refine ⟨rfl, .str z, rfl, ?_⟩
      refine ⟨.ref p, rfl, p, T.C_Poll, dx, _, .ref o, rfl, s2 _ _ hp1, T.cl_Poll, T.n_Poll_options, pollF_options o u, o, rfl, ⟨_, .of (s2 _ _ ho1)⟩, fun L nL => ?_⟩
      have nLD : L ≠ D := fun e => by rw [e, e2] at nL; cases nL
      refine lc_tup (K := K) (a := o) (xs := zs.map V.str) (fun j H' => Same H2 H' ∧ H' L = some (.lst ((((zs.take j).filter fun y => decide (y ≠ z)).map fun y => marg rows z y).map V.int))) ⟨same_upd nL, upd_same⟩ (fun _ _ _ h => .of (h.1 _ _ (s2 _ _ ho1))) ?_ ?_
      · rintro j x H3 hj ⟨s3, e3⟩
        obtain ⟨y, hy, rfl⟩ := item_map hj
        have my := List.mem_of_getElem? hy
        have ft := filter_take (f := fun y => decide (y ≠ z)) hy
        have s13 := s2.trans s3
        refine ⟨rfl, .str y, rfl, .str z, rfl, rfl, _, rfl, ?_⟩
        by_cases c : y = z
        · rw [decide_eq_true (congrArg V.str c)]
          rw [if_neg (by rw [decide_eq_false fun h => h c]; exact Bool.false_ne_true), List.append_nil] at ft
          refine iteF ⟨s3, ?_⟩
          rw [ft]
          exact e3
        · rw [decide_eq_false fun h => c (V.str.inj h)]
          rw [if_pos (decide_eq_true c)] at ft
          refine iteT ⟨.ref M, rfl, .str z, rfl, .str y, rfl, line_of (show 2 ≤ 1000 by decide), fun t nt => ?_⟩
          have s4 := same_upd (o := HO.tup [V.str z, V.str y]) nt
          have et : (upd H3 t (.tup [V.str z, V.str y])) t = some (.tup [V.str z, V.str y]) := upd_same
          have e4 := s4 _ _ e3
          generalize upd H3 t (.tup [V.str z, V.str y]) = H4 at s4 et e4 ⊢
          have got : DGet H4 M (.ref t) (some (.int (marg rows z y))) := by
            have := DGet.t (k := [.inr z, .inr y]) (s4 _ _ (s13 _ _ eM)) et
            rw [tab2_val mz my (fun e => c e.symm)] at this
            exact this
          refine ⟨M, _, rfl, got, _, e4, ?_, same_mut (s3.trans s4) nL, ?_⟩
          · rw [List.length_map, List.length_map]
            have := List.length_filter_le (fun y => decide (y ≠ z)) (zs.take j)
            rw [List.length_take] at this
            exact small1000 (by omega)
          · rw [upd_same, ft, List.map_append, List.map_append]
            rfl
      · rintro H3 ⟨s3, e3⟩
        rw [List.length_map, List.take_length] at e3
        have e2' := s3 _ _ e2
        refine ⟨L, _, rfl, .of e3, _, .inr z, rfl, e2', ?_, same_mut (s2.trans s3) nD, ?_⟩
        · rw [tab_len, List.length_take]
          exact small1000 (by omega)
        · rw [upd_same]
          show some (HO.dK (putK (tab (zs.take i) (pointSum (marg rows) zs)) (.inr z) (V.int (pointSum (marg rows) zs z)))) = _
          rw [tab_new (f := pointSum (marg rows) zs) zn rfl, ← take_more hz]
    · rintro H2 ⟨s2, e2⟩
      rw [List.length_map, List.take_length] at e2
      exact q D H2 (s1.trans s2) nDH e2
end
theorem opt_str {zs : List Str} {H : Hp} {d : PyData} {v : V} (h : optD zs d = true) (a : DAt H d v) : ∃ z, d = .str z ∧ v = .str z ∧ z ∈ zs := by
  cases d with
  | str z => exact ⟨z, rfl, a, of_decide_eq_true h⟩
  | _ => cases h
section
variable {P : Program} {w : World} {K : PySem.W.Frag} {mg : Str → Option Value} {base : Heap}
def sp_margin (C CN : Addr) (G : Int → V) : Sp := fun vs H Q E => ∃ (p o u : Addr) (zs : List Str) (rows : List (Bal × Int)) (v1 v2 : V) (d1 d2 : PyData), vs = [.ref p, v1, v2] ∧ PollOk C H p o u zs rows ∧ DAt H d1 v1 ∧ DAt H d2 v2 ∧
  (optD zs d1 = false → NoOpt CN v1 H E) ∧ (optD zs d1 = true → optD zs d2 = false → NoOpt CN v2 H E) ∧ (∀ y z : Str, d1 = .str y → d2 = .str z → y ∈ zs → z ∈ zs → ∀ H', Same H H' → Q (G (marg rows y z)) H')
theorem ok_margin (T : Txt K mg) : FnOk P w K mg base (L2.CX P w) 4 T.f_margin T.fd_margin ["poll", "one", "other"] (sp_margin T.C_Poll T.C_NoOption V.int) := by
  refine T.F_margin.okX sc_margin (fun vs H Q E h => ?_) (fun cdv A outer s H vs Q E hr h => ?_)
  · obtain ⟨p, o, u, zs, rows, v1, v2, d1, d2, rfl, _⟩ := h
    rfl
  · obtain ⟨p, o, u, zs, rows, v1, v2, d1, d2, rfl, pk, a1, a2, q1, q2, q3⟩ := h
    refine ⟨_, (pss_cons
 (ps_expr (pf_pos (ok_check_option T) (hr.mono (by decide)) (by rfl) T.g_check_option T.F_check_option.kp T.kb_check_option_2 (fun σ => atE (takes_of rfl rfl rfl rfl) σ) (pa_cons (pe_fld (pv 0) rfl) (pa_cons (pv 1) pa_nil))))
 (pss_cons
 (ps_expr (pf_pos (ok_check_option T) (hr.mono (by decide)) (by rfl) T.g_check_option T.F_check_option.kp T.kb_check_option_2 (fun σ => atE (takes_of rfl rfl rfl rfl) σ) (pa_cons (pe_fld (pv 0) rfl) (pa_cons (pv 2) pa_nil))))
 (pss_one
 (ps_ret (pe_call (ok_margin_by T) (hr.mono (by decide)) (by rfl) T.g_margin_by T.F_margin_by.kp T.b_margin_by .nil pass0 (pa_cons (pe_call (ok_ranked T) (hr.mono (by decide)) (by rfl) T.g_ranked T.F_ranked.kp T.b_ranked .nil pass0 (pa_cons (pv 0) pa_nil)) (pa_cons (pv 1) (pa_cons (pv 2) pa_nil)))))))), ?_⟩
    obtain ⟨dx, hp⟩ := pk.poll
    have ho := pk.opts
    refine ⟨.ref p, rfl, p, T.C_Poll, dx, _, .ref o, rfl, hp, T.cl_Poll, T.n_Poll_options, pollF_options o u, v1, rfl, rfl, rfl, o, zs, v1, d1, rfl, ho, a1, fun h1 => ?_, q1⟩
    refine ⟨.ref p, rfl, p, T.C_Poll, dx, _, .ref o, rfl, hp, T.cl_Poll, T.n_Poll_options, pollF_options o u, v2, rfl, rfl, rfl, o, zs, v2, d2, rfl, ho, a2, fun h2 => ?_, q2 h1⟩
    obtain ⟨y, rfl, rfl, hy⟩ := opt_str h1 a1
    obtain ⟨z, rfl, rfl, hz⟩ := opt_str h2 a2
    refine ⟨.ref p, rfl, p, o, u, zs, rows, rfl, pk, fun l qs H1 s1 rk e1 => ?_⟩
    refine ⟨.str y, rfl, .str z, rfl, l, zs, qs, y, z, rfl, rk, hy, hz, ?_⟩
    rw [e1]
    exact q3 y z rfl rfl hy hz H1 s1
end
theorem paired_zero {K : PySem.W.Frag} {H : Hp} : ∀ {bs : List (Addr × Str)}, (∀ b ∈ bs, H b.1 = some (.tup [.str b.2, .int 0])) → Paired (fun p (kv : Key × V) => SqT K H p [kV kv.1, kv.2]) (bs.map (·.1)) (tab (bs.map (·.2)) fun _ => 0)
  | [], _ => .nil
  | b :: bs, h => .cons (.of (h b List.mem_cons_self)) (paired_zero fun c hc => h c (List.mem_cons_of_mem _ hc))
section
variable {P : Program} {w : World} {K : PySem.W.Frag} {mg : Str → Option Value} {base : Heap}
/-! ### the law's own heights -/
def sp_law_high : Sp := fun vs H Q _ => ∃ (o t : Addr) (zs : List Str) (b : Bal), vs = [.ref o, .ref t] ∧ H o = some (.tup (zs.map V.str)) ∧ BalAt H t b ∧ b.Ok zs ∧ zs.Nodup ∧ zs.length ≤ 6 ∧
  ∀ (D : Addr) (H' : Hp), Same H H' → H D = none → H' D = some (.dK (tab zs b.hi)) → Q (.ref D) H'
theorem ok_law_high (T : Txt K mg) : FnOk P w K mg base CX0 1 T.f_law_high T.fd_law_high ["_law_options_here", "_law_ballot_here"] sp_law_high := by
  refine T.F_law_high.ok sc_law_high (fun vs H Q E h => ?_) (fun cdv A outer s H vs Q E hr h => ?_)
  · obtain ⟨o, t, zs, b, rfl, _⟩ := h
    rfl
  · obtain ⟨o, t, zs, b, rfl, ho, hb, bok, nd, lz, q⟩ := h
    refine ⟨_, (pss_cons
 (ps_set (i := 2) sc_law_high.nd rfl (Or.inl rfl) (pe_callTy (call_dictP rfl) (by rfl) T.z_dict (by decide +kernel) (pa_cons (pe_lc (own := [("_law_word", 5)]) (g := gName 5) (tt := tYes) rfl sc_law_high.nd (pi_tup (pv 0)) (blkOk_by (own := [("_law_word", 5)]) (N := ["_law_options_here", "_law_ballot_here", "_law_found", "_law_at", "_law_tier", "_law_word", "_law_mark"]) (sc := (defScope s_law_high)) (by decide +kernel)) (fun _ _ _ _ _ => pg_name (i := 5) sc_law_high.nd rfl (Or.inl rfl)) (fun _ _ _ _ _ => pts_nil) (fun _ _ _ _ _ => (pe_tup (pa_cons (pv 5) (pa_cons pe_int pa_nil))))) pa_nil)))
 (pss_cons
 (ps_if (pt_cmpR op_eq (pe_ix ix_tup (pv 1) pe_int (fun _ _ => rfl)) pe_str (nomark _))
 (pss_one
 (ps_for PassesOwn.never rfl (pi_enumT (by rfl) T.z_enumerate (pe_ix ix_tup (pv 1) pe_int (fun _ _ => rfl))) (pg_tup rfl (pgs_cons (pg_name (i := 3) sc_law_high.nd rfl (Or.inl rfl)) (pgs_cons (pg_name (i := 4) sc_law_high.nd rfl (Or.inl rfl)) pgs_nil)))
 (pss_one
 (ps_for PassesOwn.never rfl (pi_tup (pv 4)) (pg_name (i := 5) sc_law_high.nd rfl (Or.inl rfl))
 (pss_one
 (ps_dput (hu_of hr) (pv 2) (pv 5) (pe_op op_sub pe_int (pv 3)) (by rfl)))))))
 (pss_one
 (ps_if (pt_cmpR op_eq (pe_ix ix_tup (pv 1) pe_int (fun _ _ => rfl)) pe_str (nomark _))
 (pss_one
 (ps_for PassesOwn.never rfl (pi_tup (pe_ix ix_tup (pv 1) pe_int (fun _ _ => rfl))) (pg_name (i := 5) sc_law_high.nd rfl (Or.inl rfl))
 (pss_one
 (ps_dput (hu_of hr) (pv 2) (pv 5) pe_int (by rfl)))))
 (pss_one
 (ps_for PassesOwn.never rfl (pi_tup (pe_ix ix_tup (pv 1) pe_int (fun _ _ => rfl))) (pg_tup rfl (pgs_cons (pg_name (i := 5) sc_law_high.nd rfl (Or.inl rfl)) (pgs_cons (pg_name (i := 6) sc_law_high.nd rfl (Or.inl rfl)) pgs_nil)))
 (pss_one
 (ps_dput (hu_of hr) (pv 2) (pv 5) (pv 6) (by rfl))))))))
 (pss_one
 (ps_ret (pv 2))))), ?_⟩
    have few := (bok.few lz).1
    refine ⟨.ref o, rfl, o, rfl, ⟨_, .of ho⟩, fun L nL => ?_⟩
    refine lc_tup (K := K) (a := o) (xs := zs.map V.str) (fun i H' => ∃ bs : List (Addr × Str), Same H H' ∧ H' L = some (.lst (bs.map fun b => V.ref b.1)) ∧ (∀ b ∈ bs, H' b.1 = some (.tup [.str b.2, .int 0])) ∧ bs.map (·.2) = zs.take i)
      ⟨[], same_upd nL, upd_same, fun _ h => (by cases h), rfl⟩ (fun _ _ _ ⟨_, h, _⟩ => .of (h _ _ ho)) ?_ ?_
    · rintro i x H1 hi ⟨bs, s1, e1, t1, m1⟩
      obtain ⟨z, hz, rfl⟩ := item_map hi
      have lbs : bs.length ≤ 6 := by
        have := congrArg List.length m1
        rw [List.length_map, List.length_take] at this
        omega
      refine ⟨rfl, .str z, rfl, line_of (show 2 ≤ 1000 by decide), fun u nu => ?_⟩
      have s2 := same_upd (o := HO.tup [V.str z, V.int 0]) nu
      have e2 := s2 _ _ e1
      have eu : (upd H1 u (.tup [V.str z, V.int 0])) u = some (.tup [V.str z, V.int 0]) := upd_same
      generalize upd H1 u (.tup [V.str z, V.int 0]) = H2 at s2 e2 eu
      have apart : ∀ {c : Addr} {xs : List V}, H2 c = some (.tup xs) → c ≠ L := fun h e => by rw [e, e2] at h; cases h
      refine ⟨_, e2, small1000 (by rw [List.length_map]; omega), bs ++ [(u, z)], same_mut (s1.trans s2) nL, by rw [upd_same, List.map_append]; rfl, fun c hc => ?_, by rw [List.map_append, m1, take_more hz]; rfl⟩
      have hc' : H2 c.1 = some (.tup [.str c.2, .int 0]) := by
        rcases List.mem_append.mp hc with hc | hc
        · exact s2 _ _ (t1 c hc)
        · rw [List.mem_singleton.mp hc]
          exact eu
      rw [upd_ne (apart hc')]
      exact hc'
    · rintro H1 ⟨bs, s1, e1, t1, m1⟩
      rw [List.length_map, List.take_length] at m1
      have pz := paired_zero (K := K) t1
      rw [m1] at pz
      have e1' : H1 L = some (.lst ((bs.map (·.1)).map V.ref)) := by rw [List.map_map]; exact e1
      refine ⟨L, bs.map Prod.fst, tab zs (fun _ => 0), rfl, .of e1', pz, fun D nD => ?_⟩
      have nDH := s1.free nD
      have em : mergeK [] (tab zs fun _ => 0) = tab zs fun _ => 0 := tab_merge (fun _ => 0) zs [] nd
      have s2 : Same H (upd H1 D (.dK (mergeK [] (tab zs fun _ => 0)))) := s1.trans (same_upd nD)
      have eD : (upd H1 D (.dK (mergeK [] (tab zs fun _ => 0)))) D = some (.dK (tab zs fun _ => 0)) := by rw [upd_same, em]
      generalize upd H1 D (.dK (mergeK [] (tab zs fun _ => 0))) = H2 at s2 eD
      cases b with
      | order ts =>
        obtain ⟨u, bs, h1, h2, h3, h4⟩ := hb
        obtain ⟨fn, fm, b3⟩ := bok
        have lt : ts.length = bs.length := by rw [← h4, List.length_map]
        have l6 : ts.length ≤ 6 := by
          have : (ts.map tyT).length ≤ 6 := few
          rw [List.length_map] at this
          exact this
        let fin : List Str → Str → Int := fun seen z => if z ∈ seen then 99 - (place ts z : Nat) else 0
        refine ⟨.ref t, rfl, t, _, 0, _, rfl, rfl, .of (s2 _ _ h1), atI_nat (j := 0) rfl, rfl, _, rfl, iteT ?_⟩
        refine ⟨.ref t, rfl, t, _, 1, _, rfl, rfl, .of (s2 _ _ h1), atI_nat (j := 1) rfl, u, _, rfl, .of (s2 _ _ h2), for_it walk_enumT (fun i σ H' => ∃ x3 x4 x5 x6 : Option V, σ = [some (.ref o), some (.ref t), some (.ref D), x3, x4, x5, x6] ∧ Same H H' ∧ H' D = some (.dK (tab zs (fin (ts.take i).flatten))))
          ⟨none, none, none, none, rfl, s2, ?_⟩ (fun _ _ _ _ ⟨_, _, _, _, _, h, _⟩ => .of (h _ _ h2)) ?_ ?_⟩
        · rw [eD]
          exact congrArg (fun l => some (HO.dK l)) (tab_congr fun z _ => (if_neg (by simp)).symm)
        · rintro i x σ H2 H3 hi ⟨x3, x4, x5, x6, rfl, s2, e2⟩ ⟨Tt, a, b, rfl, nT, rfl, ea, eb⟩
          cases ea
          obtain ⟨bb, hb, rfl⟩ := item_map eb
          have s3 : Same H2 _ := same_upd (o := HO.tup [V.int (i : Int), V.ref bb.1]) nT
          have e3 := s3 _ _ e2
          have s3' := s2.trans s3
          have hbt := h3 bb (List.mem_of_getElem? hb)
          have tsi : ts[i]? = some bb.2 := by rw [← h4, List.getElem?_map, hb]; rfl
          refine ⟨Tt, _, rfl, .of upd_same, rfl, _, _, rfl, _, _, rfl, rfl, ?_⟩
          refine ⟨.ref bb.1, rfl, bb.1, rfl, ⟨_, .of (s3' _ _ hbt.1)⟩, for_tup (K := K) (a := bb.1) (xs := bb.2.map V.str) (fun j σ H' => ∃ x5 x6 : Option V, σ = [some (.ref o), some (.ref t), some (.ref D), some (.int i), some (.ref bb.1), x5, x6] ∧ Same H H' ∧ H' D = some (.dK (tab zs (fin ((ts.take i).flatten ++ bb.2.take j)))))
            ⟨x5, x6, rfl, s3', ?_⟩ (fun _ _ _ _ ⟨_, _, _, h, _⟩ => .of (h _ _ hbt.1)) ?_ ?_⟩
          · rw [List.take_zero, List.append_nil]
            exact e3
          · rintro j x σ H4 hj ⟨x5, x6, rfl, s4, e4⟩
            obtain ⟨z, hz, rfl⟩ := item_map hj
            have mz : z ∈ bb.2 := List.mem_of_getElem? hz
            have zz := fm z (mem_part tsi mz)
            refine ⟨.int i, rfl, _, _, rfl, rfl, .ref D, rfl, .str z, rfl, D, _, rfl, DPut.k (k := .inr z) e4 ?_, some (.str z), x6, rfl, same_mut s4 nDH, ?_⟩
            · rw [tab_len]
              exact small1000 (by omega)
            · rw [upd_same, tab_put zz]
              refine congrArg (fun l => some (HO.dK l)) (tab_congr fun y _ => ?_)
              show (if y = z then (99 : Int) - (i : Int) else if y ∈ (ts.take i).flatten ++ bb.2.take j then (99 : Int) - ((place ts y : Nat) : Int) else 0) = if y ∈ (ts.take i).flatten ++ bb.2.take (j + 1) then (99 : Int) - ((place ts y : Nat) : Int) else 0
              rw [take_more hz, ← List.append_assoc]
              by_cases e : y = z
              · rw [if_pos e, if_pos (by rw [e]; exact List.mem_append_right _ (List.mem_singleton.mpr rfl)), e, place_at fn tsi mz]
              · rw [if_neg e]
                have : (y ∈ (ts.take i).flatten ++ bb.2.take j ++ [z]) ↔ y ∈ (ts.take i).flatten ++ bb.2.take j := by
                  rw [List.mem_append, List.mem_singleton]
                  exact ⟨fun h => h.resolve_right e, .inl⟩
                by_cases m : y ∈ (ts.take i).flatten ++ bb.2.take j
                · rw [if_pos m, if_pos (this.mpr m)]
                · rw [if_neg m, if_neg fun h => m (this.mp h)]
          · rintro σ H4 ⟨x5, x6, rfl, s4, e4⟩
            rw [List.length_map, List.take_length] at e4
            refine ⟨_, _, _, _, rfl, s4, ?_⟩
            rw [take_more tsi, List.flatten_append]
            simpa using e4
        · rintro σ H2 ⟨x3, x4, x5, x6, rfl, s2, e2⟩
          refine ⟨.ref D, rfl, q D H2 s2 nDH ?_⟩
          rw [List.length_map, ← lt, List.take_length] at e2
          exact e2
      | lets ns =>
        obtain ⟨u, h1, h2⟩ := hb
        obtain ⟨b1, b2⟩ := bok
        refine ⟨.ref t, rfl, t, _, 0, _, rfl, rfl, .of (s2 _ _ h1), atI_nat (j := 0) rfl, rfl, _, rfl, iteF ?_⟩
        refine ⟨.ref t, rfl, t, _, 0, _, rfl, rfl, .of (s2 _ _ h1), atI_nat (j := 0) rfl, rfl, _, rfl, iteT ?_⟩
        refine ⟨.ref t, rfl, t, _, 1, _, rfl, rfl, .of (s2 _ _ h1), atI_nat (j := 1) rfl, u, rfl, ⟨_, .of (s2 _ _ h2)⟩, for_tup (K := K) (a := u) (xs := ns.map V.str) (fun i σ H' => ∃ x5 : Option V, σ = [some (.ref o), some (.ref t), some (.ref D), none, none, x5, none] ∧ Same H H' ∧ H' D = some (.dK (tab zs fun z => if z ∈ ns.take i then 1 else 0)))
          ⟨none, rfl, s2, ?_⟩ (fun _ _ _ _ ⟨_, _, h, _⟩ => .of (h _ _ h2)) ?_ ?_⟩
        · rw [eD]
          exact congrArg (fun l => some (HO.dK l)) (tab_congr fun z _ => (if_neg (by simp)).symm)
        · rintro i x σ H3 hi ⟨x5, rfl, s3, e3⟩
          obtain ⟨z, hz, rfl⟩ := item_map hi
          refine ⟨.ref D, rfl, .str z, rfl, D, _, rfl, DPut.k (k := .inr z) e3 ?_, some (.str z), rfl, same_mut s3 nDH, ?_⟩
          · rw [tab_len]
            exact small1000 (by omega)
          · rw [upd_same, tab_put (b2 z (List.mem_of_getElem? hz))]
            refine congrArg (fun l => some (HO.dK l)) (tab_congr fun y _ => ?_)
            show (if y = z then (1 : Int) else if y ∈ ns.take i then 1 else 0) = if y ∈ ns.take (i + 1) then 1 else 0
            rw [take_more hz]
            by_cases e : y = z
            · rw [if_pos e, if_pos (by rw [e]; exact List.mem_append_right _ (List.mem_singleton.mpr rfl))]
            · rw [if_neg e]
              have : (y ∈ ns.take i ++ [z]) ↔ y ∈ ns.take i := by
                rw [List.mem_append, List.mem_singleton]
                exact ⟨fun h => h.resolve_right e, .inl⟩
              by_cases m : y ∈ ns.take i
              · rw [if_pos m, if_pos (this.mpr m)]
              · rw [if_neg m, if_neg fun h => m (this.mp h)]
        · rintro σ H3 ⟨x5, rfl, s3, e3⟩
          rw [List.length_map, List.take_length] at e3
          exact ⟨.ref D, rfl, q D H3 s3 nDH e3⟩
      | marks ms =>
        obtain ⟨u, bs, h1, h2, h3, h4⟩ := hb
        obtain ⟨b1, b2, b3⟩ := bok
        have lm : ms.length = bs.length := by rw [← h4, List.length_map]
        refine ⟨.ref t, rfl, t, _, 0, _, rfl, rfl, .of (s2 _ _ h1), atI_nat (j := 0) rfl, rfl, _, rfl, iteF ?_⟩
        refine ⟨.ref t, rfl, t, _, 0, _, rfl, rfl, .of (s2 _ _ h1), atI_nat (j := 0) rfl, rfl, _, rfl, iteF ?_⟩
        refine ⟨.ref t, rfl, t, _, 1, _, rfl, rfl, .of (s2 _ _ h1), atI_nat (j := 1) rfl, u, rfl, ⟨_, .of (s2 _ _ h2)⟩, for_tup (K := K) (a := u) (xs := bs.map fun b => V.ref b.1) (fun i σ H' => ∃ x5 x6 : Option V, σ = [some (.ref o), some (.ref t), some (.ref D), none, none, x5, x6] ∧ Same H H' ∧ H' D = some (.dK (tab zs fun z => if z ∈ (ms.take i).map (·.1) then (mkAt ms z).getD 0 else 0)))
          ⟨none, none, rfl, s2, ?_⟩ (fun _ _ _ _ ⟨_, _, _, h, _⟩ => .of (h _ _ h2)) ?_ ?_⟩
        · rw [eD]
          exact congrArg (fun l => some (HO.dK l)) (tab_congr fun z _ => (if_neg (by simp)).symm)
        · rintro i x σ H3 hi ⟨x5, x6, rfl, s3, e3⟩
          obtain ⟨bb, hbb, rfl⟩ := item_map hi
          have hm : ms[i]? = some bb.2 := by rw [← h4, List.getElem?_map, hbb]; rfl
          refine ⟨bb.1, _, rfl, .of (s3 _ _ (h3 bb (List.mem_of_getElem? hbb))), rfl, _, _, rfl, _, _, rfl, rfl, ?_⟩
          refine ⟨.int bb.2.2, rfl, .ref D, rfl, .str bb.2.1, rfl, D, _, rfl, DPut.k (k := .inr bb.2.1) e3 ?_, some (.str bb.2.1), some (.int bb.2.2), rfl, same_mut s3 nDH, ?_⟩
          · rw [tab_len]
            exact small1000 (by omega)
          · rw [upd_same, tab_put (b2 bb.2 (List.mem_of_getElem? hm))]
            refine congrArg (fun l => some (HO.dK l)) (tab_congr fun y _ => ?_)
            show (if y = bb.2.1 then bb.2.2 else if y ∈ (ms.take i).map (·.1) then (mkAt ms y).getD 0 else 0) = if y ∈ (ms.take (i + 1)).map (·.1) then (mkAt ms y).getD 0 else 0
            rw [take_more hm, List.map_append]
            by_cases e : y = bb.2.1
            · rw [if_pos e, if_pos (by rw [e]; exact List.mem_append_right _ (List.mem_singleton.mpr rfl)), e, mk_some b1 hm] <;> rfl
            · rw [if_neg e]
              have : (y ∈ (ms.take i).map (·.1) ++ [bb.2].map (·.1)) ↔ y ∈ (ms.take i).map (·.1) := by
                rw [List.mem_append]
                exact ⟨fun h => h.resolve_right fun h => e (List.mem_singleton.mp h), .inl⟩
              by_cases m : y ∈ (ms.take i).map (·.1)
              · rw [if_pos m, if_pos (this.mpr m)]
              · rw [if_neg m, if_neg fun h => m (this.mp h)]
        · rintro σ H3 ⟨x5, x6, rfl, s3, e3⟩
          rw [List.length_map, ← lm, List.take_length] at e3
          refine ⟨.ref D, rfl, q D H3 s3 nDH ?_⟩
          rw [e3]
          refine congrArg (fun l => some (HO.dK l)) (tab_congr fun z _ => ?_)
          show (if z ∈ ms.map (·.1) then (mkAt ms z).getD 0 else 0) = (mkAt ms z).getD 0
          by_cases m : z ∈ ms.map (·.1)
          · rw [if_pos m]
          · rw [if_neg m, mk_none m] <;> rfl
/-! ### the law's own tiers -/
def sp_law_tiers : Sp := fun vs H Q _ => ∃ (o t : Addr) (zs : List Str) (b : Bal), vs = [.ref o, .ref t] ∧ H o = some (.tup (zs.map V.str)) ∧ BalAt H t b ∧ b.Ok zs ∧ zs.Nodup ∧ zs.length ≤ 6 ∧
  ∀ (u : Addr) (bs : List (Addr × List Str)) (ms : List Int) (H' : Hp), Lev zs b.hi ms → Same H H' → H' u = some (.tup (bs.map fun b => V.ref b.1)) → Tiers H' bs → bs.map (·.2) = cutBy zs b.hi ms.reverse → Q (.ref u) H'
theorem ok_law_tiers (T : Txt K mg) : FnOk P w K mg base CX0 2 T.f_law_tiers T.fd_law_tiers ["_law_options_here", "_law_ballot_here"] sp_law_tiers := by
  refine T.F_law_tiers.ok sc_law_tiers (fun vs H Q E h => ?_) (fun cdv A outer s H vs Q E hr h => ?_)
  · obtain ⟨o, t, zs, b, rfl, _⟩ := h
    rfl
  · obtain ⟨o, t, zs, b, rfl, ho, hb, bok, nd, lz, q⟩ := h
    refine ⟨_, (pss_cons
 (ps_set (i := 2) sc_law_tiers.nd rfl (Or.inr rfl) (pe_call (ok_law_high T) (hr.mono (by decide)) (by rfl) T.g_law_high T.F_law_high.kp T.b_law_high .nil pass0 (pa_cons (pv 0) (pa_cons (pv 1) pa_nil))))
 (pss_cons
 (ps_set (i := 3) sc_law_tiers.nd rfl (Or.inl rfl) (pe_revL (pe_callB (cr_sortedSet rfl) (by rfl) T.z_sorted (by decide +kernel) (pa_cons (pe_callTy (cr_setL (w := w) rfl rfl) (by rfl) T.z_set (by decide +kernel) (pa_cons (pe_lc (own := [("_law_word", 4)]) (g := gName 4) (tt := tYes) rfl sc_law_tiers.nd (pi_tup (pv 0)) (blkOk_by (own := [("_law_word", 4)]) (N := ["_law_options_here", "_law_ballot_here", "_law_high_here", "_law_steps", "_law_word", "_law_step"]) (sc := (defScope s_law_tiers)) (by decide +kernel)) (fun _ _ _ _ _ => pg_name (i := 4) sc_law_tiers.nd rfl (Or.inl rfl)) (fun _ _ _ _ _ => pts_nil) (fun s0 H0 C0 cl0 fp0 => (by have h := ((pe_dget (hu_of hr) (pv 2) (pv 4) (fun _ _ => rfl)) : PE ((cxOf CX0 P w K mg base ["_law_options_here", "_law_ballot_here", "_law_high_here", "_law_steps", "_law_word", "_law_step"] "_law_tiers" (defScope s_law_tiers) T.f_law_tiers cdv A outer s H E).nox.blk s0 H0 (lcScope (subE (subE (subE (rootE ((defBody s_law_tiers).getD 1 (.Pass ⟨0, 0, 0, 0⟩))) 0) 1) 1)) (compEnvC (lcScope (subE (subE (subE (rootE ((defBody s_law_tiers).getD 1 (.Pass ⟨0, 0, 0, 0⟩))) 0) 1) 1)) cl0 C0 (cxOf CX0 P w K mg base ["_law_options_here", "_law_ballot_here", "_law_high_here", "_law_steps", "_law_word", "_law_step"] "_law_tiers" (defScope s_law_tiers) T.f_law_tiers cdv A outer s H E).nox.env) fp0) (subE (subE (subE (subE (rootE ((defBody s_law_tiers).getD 1 (.Pass ⟨0, 0, 0, 0⟩))) 0) 1) 1) 0) _); dsimp only [Cx.blk, Cx.tr, Cx.suite, Cx.nox, Cx.wish, cxOf] at h; exact h))) pa_nil)) pa_nil))))
 (pss_one
 (ps_ret (pe_callTy call_tuple_of (by rfl) T.z_tuple (by decide +kernel) (pa_cons (pe_lc (own := [("_law_step", 5)]) (g := gName 5) (tt := tYes) rfl sc_law_tiers.nd (pi_list (pv 3)) (blkOk_by (own := [("_law_step", 5)]) (N := ["_law_options_here", "_law_ballot_here", "_law_high_here", "_law_steps", "_law_word", "_law_step"]) (sc := (defScope s_law_tiers)) (by decide +kernel)) (fun _ _ _ _ _ => pg_name (i := 5) sc_law_tiers.nd rfl (Or.inr rfl)) (fun _ _ _ _ _ => pts_nil) (fun s0 H0 C0 cl0 fp0 => (by have h := ((pe_callTy call_tuple_of (by rfl) T.z_tuple (by decide +kernel) (pa_cons (pe_lc (own := [("_law_word", 4)]) (g := gName 4) rfl sc_law_tiers.nd (pi_tup (pv 0)) (blkOk_re (blkOk_by (own := [("_law_word", 4)]) (N := ["_law_options_here", "_law_ballot_here", "_law_high_here", "_law_steps", "_law_word", "_law_step"]) (sc := (lcScope (subE (rootE ((defBody s_law_tiers).getD 2 (.Pass ⟨0, 0, 0, 0⟩))) 1))) (by decide +kernel))) (fun _ _ _ _ _ => pg_name (i := 4) sc_law_tiers.nd rfl (Or.inl rfl)) (fun s1 H1 C1 cl1 fp1 => (by have h := ((pts_one (pt_cmpR op_eq (pe_dget (hu_of hr) (pv 2) (pv 4) (fun _ _ => rfl)) (pv 5) (nomark _))) : PTs (((cxOf CX0 P w K mg base ["_law_options_here", "_law_ballot_here", "_law_high_here", "_law_steps", "_law_word", "_law_step"] "_law_tiers" (defScope s_law_tiers) T.f_law_tiers cdv A outer s H E).nox.blk s0 H0 (lcScope (subE (rootE ((defBody s_law_tiers).getD 2 (.Pass ⟨0, 0, 0, 0⟩))) 1)) (compEnvC (lcScope (subE (rootE ((defBody s_law_tiers).getD 2 (.Pass ⟨0, 0, 0, 0⟩))) 1)) cl0 C0 (cxOf CX0 P w K mg base ["_law_options_here", "_law_ballot_here", "_law_high_here", "_law_steps", "_law_word", "_law_step"] "_law_tiers" (defScope s_law_tiers) T.f_law_tiers cdv A outer s H E).nox.env) fp0).blk s1 H1 (lcScope (subE (subE (subE (rootE ((defBody s_law_tiers).getD 2 (.Pass ⟨0, 0, 0, 0⟩))) 1) 0) 1)) (compEnvC (lcScope (subE (subE (subE (rootE ((defBody s_law_tiers).getD 2 (.Pass ⟨0, 0, 0, 0⟩))) 1) 0) 1)) cl1 C1 ((cxOf CX0 P w K mg base ["_law_options_here", "_law_ballot_here", "_law_high_here", "_law_steps", "_law_word", "_law_step"] "_law_tiers" (defScope s_law_tiers) T.f_law_tiers cdv A outer s H E).nox.blk s0 H0 (lcScope (subE (rootE ((defBody s_law_tiers).getD 2 (.Pass ⟨0, 0, 0, 0⟩))) 1)) (compEnvC (lcScope (subE (rootE ((defBody s_law_tiers).getD 2 (.Pass ⟨0, 0, 0, 0⟩))) 1)) cl0 C0 (cxOf CX0 P w K mg base ["_law_options_here", "_law_ballot_here", "_law_high_here", "_law_steps", "_law_word", "_law_step"] "_law_tiers" (defScope s_law_tiers) T.f_law_tiers cdv A outer s H E).nox.env) fp0).env) fp1) (lcIfs (subE (subE (subE (rootE ((defBody s_law_tiers).getD 2 (.Pass ⟨0, 0, 0, 0⟩))) 1) 0) 1)) _); dsimp only [Cx.blk, Cx.tr, Cx.suite, Cx.nox, Cx.wish, cxOf] at h; exact h)) (fun _ _ _ _ _ => (pv 4))) pa_nil)) : PE ((cxOf CX0 P w K mg base ["_law_options_here", "_law_ballot_here", "_law_high_here", "_law_steps", "_law_word", "_law_step"] "_law_tiers" (defScope s_law_tiers) T.f_law_tiers cdv A outer s H E).nox.blk s0 H0 (lcScope (subE (rootE ((defBody s_law_tiers).getD 2 (.Pass ⟨0, 0, 0, 0⟩))) 1)) (compEnvC (lcScope (subE (rootE ((defBody s_law_tiers).getD 2 (.Pass ⟨0, 0, 0, 0⟩))) 1)) cl0 C0 (cxOf CX0 P w K mg base ["_law_options_here", "_law_ballot_here", "_law_high_here", "_law_steps", "_law_word", "_law_step"] "_law_tiers" (defScope s_law_tiers) T.f_law_tiers cdv A outer s H E).nox.env) fp0) (subE (subE (rootE ((defBody s_law_tiers).getD 2 (.Pass ⟨0, 0, 0, 0⟩))) 1) 0) _); dsimp only [Cx.blk, Cx.tr, Cx.suite, Cx.nox, Cx.wish, cxOf] at h; exact h))) pa_nil)))))), ?_⟩
    refine ⟨.ref o, rfl, .ref t, rfl, o, t, zs, b, rfl, ho, hb, bok, nd, lz, fun D H1 s1 nD eD => ?_⟩
    have ho1 := s1 _ _ ho
    refine ⟨.ref o, rfl, o, rfl, ⟨_, .of ho1⟩, fun L nL => ?_⟩
    refine lc_tup (K := K) (a := o) (xs := zs.map V.str) (fun i H' => Same H1 H' ∧ H' L = some (.lst (((zs.take i).map b.hi).map V.int))) ⟨same_upd nL, upd_same⟩ (fun _ _ _ h => .of (h.1 _ _ ho1)) ?_ ?_
    · rintro i x H2 hi ⟨s2, e2⟩
      obtain ⟨z, hz, rfl⟩ := item_map hi
      have got : DGet H2 D (.str z) (some (.int (b.hi z))) := by
        have := DGet.k (k := .inr z) (s2 _ _ eD)
        rw [tab_val, if_pos (List.mem_of_getElem? hz)] at this
        exact this
      refine ⟨rfl, .ref D, rfl, .str z, rfl, D, _, rfl, got, _, e2, ?_, same_mut s2 nL, ?_⟩
      · rw [List.length_map, List.length_map, List.length_take]
        exact small1000 (by omega)
      · rw [upd_same, take_more hz, List.map_append, List.map_append]
        rfl
    · rintro H2 ⟨s2', e2⟩
      rw [List.length_map, List.take_length] at e2
      refine ⟨L, zs.map b.hi, rfl, .of e2, by rw [List.length_map]; omega, fun p c np lc => ⟨p, _, c, rfl, upd_same, by rw [List.length_map] at lc; omega, fun ms qm rise mem len nq => ⟨qm, _, rfl, .of upd_same, fun q0 nq0 => ?_⟩⟩⟩
      have lev : Lev zs b.hi ms := ⟨rise, fun k => (mem k).trans (by rw [decide_eq_true_iff, List.mem_map])⟩
      have ne : ∀ k ∈ ms.reverse, (zs.filter fun z => decide (b.hi z = k)) ≠ [] := fun k hk => cut_ne lev _ (List.mem_map.mpr ⟨k, List.mem_reverse.mp hk, rfl⟩)
      have lls : ms.reverse.length ≤ 6 := by rw [List.length_map] at lc; rw [List.length_reverse]; omega
      rw [← List.map_reverse]
      have s3 : Same H2 (upd (upd (upd H2 p (SetO w p (fun j => decide (j ∈ zs.map b.hi)) c)) qm (.lst (ms.map V.int))) q0 (.lst (ms.reverse.map V.int))) := ((same_upd np).trans (same_upd nq)).trans (same_upd nq0)
      have hq0 : (upd (upd (upd H2 p (SetO w p (fun j => decide (j ∈ zs.map b.hi)) c)) qm (.lst (ms.map V.int))) q0 (.lst (ms.reverse.map V.int))) q0 = some (.lst (ms.reverse.map V.int)) := upd_same
      generalize upd (upd (upd H2 p (SetO w p (fun j => decide (j ∈ zs.map b.hi)) c)) qm (.lst (ms.map V.int))) q0 (.lst (ms.reverse.map V.int)) = H3 at s3 hq0
      have s2 := s2'.trans s3
      have eD2 := s2 _ _ eD
      have ho2 := s2 _ _ ho1
      clear s3 s2' e2
      generalize H3 = H2 at s2 hq0 eD2 ho2
      refine ⟨.ref q0, rfl, q0, rfl, ⟨_, .of hq0⟩, fun D1 nD1 => ?_⟩
      refine lc_list (K := K) (a := q0) (xs := ms.reverse.map V.int) (fun i H' => ∃ bs : List (Addr × List Str), Same H2 H' ∧ H' D1 = some (.lst (bs.map fun b => V.ref b.1)) ∧ Tiers H' bs ∧ bs.map (·.2) = cutBy zs b.hi (ms.reverse.take i))
        ⟨[], same_upd nD1, upd_same, fun _ h => (by cases h), rfl⟩ (fun _ _ _ ⟨_, h, _⟩ => .of (h _ _ hq0)) ?_ ?_
      · rintro i x H3 hi ⟨bs, s3, e3, t3, m3⟩
        obtain ⟨k, hk, rfl⟩ := item_map hi
        have il : i < ms.reverse.length := (List.getElem?_eq_some_iff.mp hk).1
        have lbs : bs.length ≤ 6 := by
          have := congrArg List.length m3
          unfold cutBy at this
          rw [List.length_map, List.length_map, List.length_take] at this
          omega
        refine ⟨rfl, .ref o, rfl, o, rfl, ⟨_, .of (s3 _ _ ho2)⟩, fun D2 nD2 => ?_⟩
        have ne12 : D1 ≠ D2 := ne_of_none e3 nD2
        refine lc_tup (K := K) (a := o) (xs := zs.map V.str) (fun j H' => Same H3 H' ∧ H' D2 = some (.lst (((zs.take j).filter fun z => decide (b.hi z = k)).map V.str))) ⟨same_upd nD2, upd_same⟩ (fun _ _ _ h => .of (h.1 _ _ (s3 _ _ ho2))) ?_ ?_
        · rintro j x H4 hj ⟨s4, e4⟩
          obtain ⟨z, hz, rfl⟩ := item_map hj
          have got : DGet H4 D (.str z) (some (.int (b.hi z))) := by
            have := DGet.k (k := .inr z) (s4 _ _ (s3 _ _ eD2))
            rw [tab_val, if_pos (List.mem_of_getElem? hz)] at this
            exact this
          have small : (((zs.take j).filter fun z => decide (b.hi z = k)).map V.str).length < sizeLine := by
            rw [List.length_map]
            have := List.length_filter_le (fun z => decide (b.hi z = k)) (zs.take j)
            rw [List.length_take] at this
            exact small1000 (by omega)
          refine ⟨rfl, .ref D, rfl, .str z, rfl, D, _, rfl, got, .int k, rfl, rfl, _, rfl, ?_⟩
          have eb : decide (V.int (b.hi z) = V.int k) = decide (b.hi z = k) := decide_eq_decide.mpr ⟨fun h => V.int.inj h, fun h => by rw [h]⟩
          rw [eb]
          have ft := filter_take (f := fun z => decide (b.hi z = k)) hz
          cases ec : decide (b.hi z = k) with
          | true =>
            rw [if_pos ec] at ft
            refine iteT ⟨.str z, rfl, _, e4, small, same_mut s4 nD2, ?_⟩
            rw [upd_same, ft, List.map_append]
            rfl
          | false =>
            rw [if_neg (by rw [ec]; exact Bool.false_ne_true), List.append_nil] at ft
            refine iteF ⟨s4, ?_⟩
            rw [ft]
            exact e4
        · rintro H4 ⟨s4, e4⟩
          rw [List.length_map, List.take_length] at e4
          refine ⟨D2, _, rfl, .inl ⟨.of e4, fun u nu => ?_⟩⟩
          have s5 := s4.trans (same_upd (o := HO.tup ((zs.filter fun z => decide (b.hi z = k)).map V.str)) nu)
          have eu : (upd H4 u (.tup ((zs.filter fun z => decide (b.hi z = k)).map V.str))) u = some (.tup ((zs.filter fun z => decide (b.hi z = k)).map V.str)) := upd_same
          generalize upd H4 u (.tup ((zs.filter fun z => decide (b.hi z = k)).map V.str)) = H5 at s5 eu
          have e5 := s5 _ _ e3
          have nD1' : H2 D1 = none := nD1
          have uD : u ≠ D1 := fun e => by rw [e, e5] at eu; cases eu
          refine ⟨_, e5, small1000 (by rw [List.length_map]; omega), bs ++ [(u, zs.filter fun z => decide (b.hi z = k))], same_mut (s3.trans s5) nD1, ?_, ?_, ?_⟩
          · rw [upd_same, List.map_append]
            rfl
          · have tt := (t3.same s5).add (b := (u, zs.filter fun z => decide (b.hi z = k))) eu (ne k (List.mem_of_getElem? hk))
            refine fun c hc => ⟨?_, (tt c hc).2⟩
            rw [upd_ne fun e => ?_]
            · exact (tt c hc).1
            · have := (tt c hc).1
              rw [e, e5] at this
              cases this
          · rw [List.map_append, m3, cut_take hk]
            rfl
      · rintro H3 ⟨bs, s3, e3, t3, m3⟩
        rw [List.length_map, List.take_length] at m3
        refine ⟨D1, _, rfl, .inl ⟨.of e3, fun u nu => ?_⟩⟩
        exact q u bs ms _ lev (s1.trans (s2.trans (s3.trans (same_upd nu)))) upd_same (t3.same (same_upd nu)) m3
end
section
variable {P : Program} {w : World} {K : PySem.W.Frag} {mg : Str → Option Value} {base : Heap}
/-! ### the law's own margins -/
def sp_law_margin : Sp := fun vs H Q _ => ∃ (o u : Addr) (zs : List Str) (rows : List (Bal × Int)) (y z : Str), vs = [.ref o, .ref u, .str y, .str z] ∧ H o = some (.tup (zs.map V.str)) ∧ RowsAt H u rows ∧ OptsOk zs ∧ RowsOk zs 30 rows ∧ y ∈ zs ∧ z ∈ zs ∧ ∀ H', Same H H' → Q (.int (marg rows y z)) H'
theorem sg_hi {b : Bal} {zs : List Str} (n : zs.length ≤ 6) (h : b.Ok zs) (y z : Str) : (if decide (b.hi z < b.hi y) = true then (1 : Int) else 0) - (if decide (b.hi y < b.hi z) = true then (1 : Int) else 0) = sg (b.rk y) (b.rk z) := by
  have h1 := Bal.turn n h y z
  have h2 := Bal.turn n h z y
  unfold sg
  by_cases c : b.rk y < b.rk z
  · rw [if_pos c, if_pos (decide_eq_true (h1.mp c)), if_neg (by rw [decide_eq_false (show ¬ b.hi y < b.hi z by have := h1.mp c; omega)]; exact Bool.false_ne_true)] <;> rfl
  · rw [if_neg c, if_neg (by rw [decide_eq_false fun x => c (h1.mpr x)]; exact Bool.false_ne_true)]
    by_cases d : b.rk z < b.rk y
    · rw [if_pos d, if_pos (decide_eq_true (h2.mp d))] <;> rfl
    · rw [if_neg d, if_neg (by rw [decide_eq_false fun x => d (h2.mpr x)]; exact Bool.false_ne_true)] <;> rfl
theorem ok_law_margin (T : Txt K mg) : FnOk P w K mg base CX0 2 T.f_law_margin T.fd_law_margin ["_law_options_here", "_law_rows_here", "_law_one_here", "_law_other"] sp_law_margin := by
  refine T.F_law_margin.ok sc_law_margin (fun vs H Q E h => ?_) (fun cdv A outer s H vs Q E hr h => ?_)
  · obtain ⟨o, u, zs, rows, y, z, rfl, _⟩ := h
    rfl
  · obtain ⟨o, u, zs, rows, y, z, rfl, ho, ⟨as, hu, ha, hm⟩, ok, rok, hy, hz, q⟩ := h
    refine ⟨_, (pss_cons
 (ps_set (i := 4) sc_law_margin.nd rfl (Or.inl rfl) pe_int)
 (pss_cons
 (ps_for PassesOwn.never rfl (pi_tup (pv 1)) (pg_tup rfl (pgs_cons (pg_name (i := 5) sc_law_margin.nd rfl (Or.inl rfl)) (pgs_cons (pg_name (i := 6) sc_law_margin.nd rfl (Or.inl rfl)) pgs_nil)))
 (pss_cons
 (ps_set (i := 7) sc_law_margin.nd rfl (Or.inl rfl) (pe_call (ok_law_high T) (hr.mono (by decide)) (by rfl) T.g_law_high T.F_law_high.kp T.b_law_high .nil pass0 (pa_cons (pv 0) (pa_cons (pv 5) pa_nil))))
 (pss_cons
 (ps_set (i := 8) sc_law_margin.nd rfl (Or.inl rfl) (pe_callTy call_int1 (by rfl) T.z_int (by decide +kernel) (pa_cons (pe_cmpR op_gt (pe_dget (hu_of hr) (pv 7) (pv 2) (fun _ _ => rfl)) (pe_dget (hu_of hr) (pv 7) (pv 3) (fun _ _ => rfl)) (nomark _)) pa_nil)))
 (pss_cons
 (ps_set (i := 9) sc_law_margin.nd rfl (Or.inl rfl) (pe_callTy call_int1 (by rfl) T.z_int (by decide +kernel) (pa_cons (pe_cmpR op_lt (pe_dget (hu_of hr) (pv 7) (pv 2) (fun _ _ => rfl)) (pe_dget (hu_of hr) (pv 7) (pv 3) (fun _ _ => rfl)) (nomark _)) pa_nil)))
 (pss_one
 (ps_set (i := 4) sc_law_margin.nd rfl (Or.inl rfl) (pe_op op_add (pv 4) (pe_op op_mulW (pv 6) (pe_op op_sub (pv 8) (pv 9))))))))))
 (pss_one
 (ps_ret (pv 4))))), ?_⟩
    have la : as.length = rows.length := by rw [← hm, List.length_map]
    refine ⟨.ref u, rfl, u, rfl, ⟨_, .of hu⟩, for_tup (K := K) (a := u) (xs := as.map fun a => V.ref a.1) (fun i σ H' => ∃ x5 x6 x7 x8 x9 : Option V, σ = [some (.ref o), some (.ref u), some (.str y), some (.str z), some (.int (marg (rows.take i) y z)), x5, x6, x7, x8, x9] ∧ Same H H')
      ⟨none, none, none, none, none, rfl, Same.refl _⟩ (fun _ _ _ _ ⟨_, _, _, _, _, _, h⟩ => .of (h _ _ hu)) ?_ ?_⟩
    · rintro i x σ H1 hi ⟨x5, x6, x7, x8, x9, rfl, s1⟩
      obtain ⟨a, hai, rfl⟩ := item_map hi
      obtain ⟨h1, h2⟩ := ha a (List.mem_of_getElem? hai)
      have mem : a.2.2 ∈ rows := by rw [← hm]; exact List.mem_map.mpr ⟨a, List.mem_of_getElem? hai, rfl⟩
      have ri : rows[i]? = some a.2.2 := by rw [← hm, List.getElem?_map, hai]; rfl
      obtain ⟨bok, m1, m2⟩ := rok.2 a.2.2 mem
      refine ⟨a.1, _, rfl, .of (s1 _ _ h1), rfl, _, _, rfl, _, _, rfl, rfl, ?_⟩
      refine ⟨.ref o, rfl, .ref a.2.1, rfl, o, a.2.1, zs, a.2.2.1, rfl, s1 _ _ ho, h2.same s1, bok, ok.nodup, ok.few, fun D H2 s2 nD eD => ?_⟩
      have got : ∀ {x : Str}, x ∈ zs → DGet H2 D (.str x) (some (.int (a.2.2.1.hi x))) := fun {x} hx => by
        have := DGet.k (k := .inr x) eD
        rw [tab_val, if_pos hx] at this
        exact this
      refine ⟨.ref D, rfl, .str y, rfl, D, _, rfl, got hy, .ref D, rfl, .str z, rfl, D, _, rfl, got hz, _, _, rfl, rfl, .inr ⟨_, rfl, ?_⟩⟩
      refine ⟨.ref D, rfl, .str y, rfl, D, _, rfl, got hy, .ref D, rfl, .str z, rfl, D, _, rfl, got hz, _, _, rfl, rfl, .inr ⟨_, rfl, ?_⟩⟩
      have key := sg_hi ok.few bok y z
      have b1 : (sg (a.2.2.1.rk y) (a.2.2.1.rk z)).natAbs < 2 ^ 2 := by
        unfold sg
        split
        · decide
        · split <;> decide
      refine ⟨_, rfl, .int a.2.2.2, rfl, _, rfl, _, rfl, _, _, rfl, rfl, _, _, rfl, rfl, mulOk (n := 30) (m := 2) (Nat.lt_of_le_of_lt (show a.2.2.2.natAbs ≤ 1000000 by omega) (by decide)) (by rw [key]; exact b1) (by decide), _, _, rfl, rfl, some (.ref a.2.1), some (.int a.2.2.2), some (.ref D), some (.int (if decide (a.2.2.1.hi z < a.2.2.1.hi y) = true then 1 else 0)), some (.int (if decide (a.2.2.1.hi y < a.2.2.1.hi z) = true then 1 else 0)), ?_, s1.trans s2⟩
      rw [take_more ri, marg_more, ← key]
      rfl
    · rintro σ H1 ⟨x5, x6, x7, x8, x9, rfl, s1⟩
      rw [List.length_map, la, List.take_length]
      exact ⟨_, rfl, q _ s1⟩
end
/-! ### pairs of a name and a number -/
def PairsAt (H : Hp) (g : Addr) (zs : List Str) (f : Str → Int) : Prop := ∃ as : List (Addr × Str), H g = some (.lst (as.map fun a => V.ref a.1)) ∧ (∀ a ∈ as, H a.1 = some (.tup [.str a.2, .int (f a.2)])) ∧ as.map (·.2) = zs
def pairsD (zs : List Str) (f : Str → Int) : PyData := .list (zs.map fun z => .tuple [.str z, .int (f z)])
theorem PairsAt.data {H : Hp} {g : Addr} {zs : List Str} {f : Str → Int} (h : PairsAt H g zs f) : DAt H (pairsD zs f) (.ref g) := by
  obtain ⟨as, h1, h2, rfl⟩ := h
  refine ⟨g, _, rfl, h1, ?_⟩
  rw [List.map_map]
  exact DAll.of_map fun a ha => ⟨a.1, _, rfl, h2 a ha, da1 rfl (da1 rfl da0)⟩
theorem aloneB_congr {zs : List Str} {g g' : Str → Int} (h : ∀ y z, g y < g z ↔ g' y < g' z) (z : Str) : aloneB zs g z = aloneB zs g' z := by
  unfold aloneB
  refine congrArg _ ?_
  rw [Bool.eq_iff_iff, List.all_eq_true, List.all_eq_true]
  refine forall_congr' fun y => forall_congr' fun _ => ?_
  rw [decide_eq_decide.mpr (h z y)]
theorem filter_takeA {α : Type} {f : α → Bool} {l : List α} {i : Nat} {x : α} (h : l[i]? = some x) : (l.take (i + 1)).filter f = (l.take i).filter f ++ if f x = true then [x] else [] := by
  rw [take_more h, List.filter_append]
  cases e : f x with
  | true => rw [List.filter_cons_of_pos e] <;> rfl
  | false => rw [List.filter_cons_of_neg (by rw [e]; exact Bool.false_ne_true)] <;> rfl
theorem filter_sum {rows : List (Bal × Int)} {p : Bal × Int → Bool} : ((rows.filter p).map (·.2)).sum = (rows.map fun r => if p r = true then r.2 else 0).sum := by
  induction rows with
  | nil => rfl
  | cons r rs ih =>
    rw [List.filter_cons, List.map_cons, List.sum_cons]
    cases h : p r with
    | true => rw [if_pos rfl, if_pos rfl, List.map_cons, List.sum_cons, ih]
    | false => rw [if_neg Bool.false_ne_true, if_neg Bool.false_ne_true, ih, Int.zero_add]
theorem eqv_one (ts : List Str) (z : Str) : PyData.eqv (.tuple (ts.map PyData.str)) (.tuple [.str z]) = decide (ts = [z]) := by
  match ts with
  | [] => rfl
  | [x] =>
    have e : PyData.eqv (.tuple ([x].map PyData.str)) (.tuple [.str z]) = ((x == z) && true) := rfl
    rw [e, Bool.and_true]
    by_cases c : x = z
    · rw [c, decide_eq_true rfl]
      simp
    · rw [decide_eq_false fun h => c (List.cons.inj h).1]
      simpa using c
  | x :: y :: l =>
    have e : PyData.eqv (.tuple ((x :: y :: l).map PyData.str)) (.tuple [.str z]) = ((x == z) && false) := rfl
    rw [e, Bool.and_false, decide_eq_false fun h => by cases (List.cons.inj h).2]
theorem tier_pick {bs : List (Addr × List Str)} {ls : List Int} {at0 : Int} (lbs : bs.length = ls.length) (lne : 0 < ls.length) (hat : at0 = 0 ∨ at0 = -1) : ∃ (j : Nat) (k : Int) (bt : Addr × List Str), (at0 = 0 ∧ ls[0]? = some k ∨ at0 = -1 ∧ ls[ls.length - 1]? = some k) ∧ ls[j]? = some k ∧ bs[j]? = some bt ∧ atI (bs.map fun b => V.ref b.1) at0 = some (V.ref bt.1) := by
  rcases hat with rfl | rfl
  · have e1 := List.getElem?_eq_getElem lne
    have e2 := List.getElem?_eq_getElem (show 0 < bs.length by omega)
    exact ⟨0, _, _, .inl ⟨rfl, e1⟩, e1, e2, atI_nat (j := 0) (by rw [List.getElem?_map, e2]; rfl)⟩
  · have e1 := List.getElem?_eq_getElem (show ls.length - 1 < ls.length by omega)
    have e2 := List.getElem?_eq_getElem (show ls.length - 1 < bs.length by omega)
    refine ⟨ls.length - 1, _, _, .inr ⟨rfl, e1⟩, e1, e2, ?_⟩
    have ne : bs ≠ [] := fun h => by rw [h] at lbs; simp at lbs; omega
    have e3 : bs[ls.length - 1]'(by omega) = bs.getLast ne := by
      rw [List.getLast_eq_getElem]
      congr 1
      omega
    rw [e3]
    have e4 := List.dropLast_concat_getLast ne
    have : (bs.map fun b => V.ref b.1) = (bs.dropLast.map fun b => V.ref b.1) ++ [V.ref (bs.getLast ne).1] := by
      conv => lhs; rw [← e4]
      rw [List.map_append]
      rfl
    rw [this]
    exact atI_last _ _
/-- the tier at a spot, told from the heights turned about, is one option alone exactly where the option stands alone there -/
theorem spot_alone {zs : List Str} {b : Bal} {ms : List Int} {at0 k : Int} (n : zs.length ≤ 6) (bok : b.Ok zs) (nd : zs.Nodup) (lev : Lev zs b.hi ms) (h : at0 = 0 ∧ ms.reverse[0]? = some k ∨ at0 = -1 ∧ ms.reverse[ms.reverse.length - 1]? = some k) {z : Str} (hz : z ∈ zs) :
    decide ((zs.filter fun y => decide (b.hi y = k)) = [z]) = aloneB zs (fun t => side at0 (b.rk t)) z := by
  have h1 : (-1 - at0) = 0 ∧ ms[0]? = some k ∨ (-1 - at0) = -1 ∧ ms[ms.length - 1]? = some k := by
    rcases h with ⟨rfl, h⟩ | ⟨rfl, h⟩
    · refine .inr ⟨rfl, ?_⟩
      have l : 0 < ms.length := by
        have := (List.getElem?_eq_some_iff.mp h).1
        rwa [List.length_reverse] at this
      rw [List.getElem?_reverse l] at h
      rw [← h]
      congr 1
    · refine .inl ⟨rfl, ?_⟩
      have l : ms.reverse.length - 1 < ms.length := by
        have := (List.getElem?_eq_some_iff.mp h).1
        rw [List.length_reverse] at this ⊢
        exact this
      rw [List.getElem?_reverse l, List.length_reverse] at h
      rw [← h]
      congr 1
      rw [List.length_reverse] at l
      omega
  obtain ⟨hk, he, hf⟩ := lev_at lev h1
  have cg : ∀ y z, side at0 (b.rk y) < side at0 (b.rk z) ↔ side (-1 - at0) (b.hi y) < side (-1 - at0) (b.hi z) := fun y z => by
    have t1 := Bal.turn n bok y z
    have t2 := Bal.turn n bok z y
    unfold side
    rcases h with ⟨rfl, _⟩ | ⟨rfl, _⟩
    · rw [if_pos rfl, if_pos rfl, if_neg (by decide), if_neg (by decide), t1]
      omega
    · rw [if_neg (by decide), if_neg (by decide), if_pos (by decide), if_pos (by decide)]
      omega
  rw [aloneB_congr cg z, hf]
  by_cases one : (zs.filter fun y => decide (side (-1 - at0) (b.hi y) = side (-1 - at0) k)).length = 1
  · obtain ⟨x, ex⟩ : ∃ x, (zs.filter fun y => decide (side (-1 - at0) (b.hi y) = side (-1 - at0) k)) = [x] := by
      match h : zs.filter (fun y => decide (side (-1 - at0) (b.hi y) = side (-1 - at0) k)), one with
      | [x], _ => exact ⟨x, rfl⟩
    rw [alone_one hk ex hz, ex]
    exact decide_eq_decide.mpr ⟨fun h => (List.cons.inj h).1.symm, fun h => by rw [h]⟩
  · rw [alone_none nd hk he one hz]
    exact decide_eq_false fun h => one (by rw [h] <;> rfl)
theorem shaped_tup {t : List Str} (n : t.length ≤ 6) (h : ∀ z ∈ t, NameOk z) : SeqAt.shaped (.tuple (t.map PyData.str)) = true := by
  have a : Own.OkA 0 54 (t.map PyData.str) := by
    have := OkA.of (n := 0) (m := 8) (l := t.map PyData.str) fun d hd => by
      obtain ⟨z, hz, rfl⟩ := List.mem_map.mp hd
      exact ok_small (h z hz)
    rw [List.length_map] at this
    exact this.mono (Nat.le_refl _) (show t.length * 9 ≤ 54 by omega)
  exact (a.tuple).shaped (by decide)
section
variable {P : Program} {w : World} {K : PySem.W.Frag} {mg : Str → Option Value} {base : Heap}
def sp_law_alone : Sp := fun vs H Q _ => ∃ (o u : Addr) (at0 : Int) (zs : List Str) (rows : List (Bal × Int)), vs = [.ref o, .ref u, .int at0] ∧ H o = some (.tup (zs.map V.str)) ∧ RowsAt H u rows ∧ OptsOk zs ∧ RowsOk zs 30 rows ∧ (at0 = 0 ∨ at0 = -1) ∧
  ∀ (g : Addr) (H' : Hp), Same H H' → PairsAt H' g zs (aloneSum at0 zs rows) → Q (.ref g) H'
theorem ok_law_alone (T : Txt K mg) : FnOk P w K mg base CX0 3 T.f_law_alone T.fd_law_alone ["_law_drawn", "_law_rows_here", "_law_spot"] sp_law_alone := by
  refine T.F_law_alone.ok sc_law_alone (fun vs H Q E h => ?_) (fun cdv A outer s H vs Q E hr h => ?_)
  · obtain ⟨o, u, at0, zs, rows, rfl, _⟩ := h
    rfl
  · obtain ⟨o, u, at0, zs, rows, rfl, ho, ⟨as, hu, ha, hm⟩, ok, rok, hat, q⟩ := h
    refine ⟨_, (pss_cons
 (ps_set (i := 3) sc_law_alone.nd rfl (Or.inl rfl) (pe_lst pa_nil))
 (pss_cons
 (ps_for PassesOwn.never rfl (pi_tup (pv 0)) (pg_name (i := 4) sc_law_alone.nd rfl (Or.inr rfl))
 (pss_one
 (ps_expr (pe_bm PySem.F.plainAttrs_list PySem.F.slot_list_append PySem.F.type_list_append mt_append (pv 3) (pa_cons (pe_tup (pa_cons (pv 4) (pa_cons (pe_callB (cr_sum rfl) (by rfl) T.z_sum (by decide +kernel) (pa_cons (pe_lc (own := [("_law_slip", 5), ("_law_count", 6)]) rfl sc_law_alone.nd (pi_tup (pv 1)) (blkOk_by (own := [("_law_slip", 5), ("_law_count", 6)]) (N := ["_law_drawn", "_law_rows_here", "_law_spot", "_law_found", "_law_word", "_law_slip", "_law_count"]) (sc := (defScope s_law_alone)) (by decide +kernel)) (fun s0 H0 C0 cl0 fp0 => (by have h := (pg_tup (n := 2) rfl (pgs_cons (pg_name (i := 5) sc_law_alone.nd rfl (Or.inl rfl)) (pgs_cons (pg_name (i := 6) sc_law_alone.nd rfl (Or.inl rfl)) pgs_nil)) : PG ((cxOf CX0 P w K mg base ["_law_drawn", "_law_rows_here", "_law_spot", "_law_found", "_law_word", "_law_slip", "_law_count"] "_law_alone" (defScope s_law_alone) T.f_law_alone cdv A outer s H E).nox.blk s0 H0 (lcScope (subE (subE (subE (rootE ((blkOf ((defBody s_law_alone).getD 1 (.Pass ⟨0, 0, 0, 0⟩)) 0).getD 0 (.Pass ⟨0, 0, 0, 0⟩))) 1) 1) 1)) (compEnvC (lcScope (subE (subE (subE (rootE ((blkOf ((defBody s_law_alone).getD 1 (.Pass ⟨0, 0, 0, 0⟩)) 0).getD 0 (.Pass ⟨0, 0, 0, 0⟩))) 1) 1) 1)) cl0 C0 (cxOf CX0 P w K mg base ["_law_drawn", "_law_rows_here", "_law_spot", "_law_found", "_law_word", "_law_slip", "_law_count"] "_law_alone" (defScope s_law_alone) T.f_law_alone cdv A outer s H E).nox.env) fp0) (subE (subE (subE (subE (rootE ((blkOf ((defBody s_law_alone).getD 1 (.Pass ⟨0, 0, 0, 0⟩)) 0).getD 0 (.Pass ⟨0, 0, 0, 0⟩))) 1) 1) 1) 2) _); dsimp only [Cx.blk, Cx.tr, Cx.suite, Cx.nox, Cx.wish, cxOf] at h; exact h)) (fun s0 H0 C0 cl0 fp0 => (by have h := ((pts_one (pt_cmpR (op_eqD hr.units) (pe_ix ix_tup (pe_call (ok_law_tiers T) (hr.mono (by decide)) (by rfl) T.g_law_tiers T.F_law_tiers.kp T.b_law_tiers .nil pass0 (pa_cons (pv 0) (pa_cons (pv 5) pa_nil))) (pv 2) (fun _ _ => rfl)) (pe_tup (pa_cons (pv 4) pa_nil)) (nomark _))) : PTs ((cxOf CX0 P w K mg base ["_law_drawn", "_law_rows_here", "_law_spot", "_law_found", "_law_word", "_law_slip", "_law_count"] "_law_alone" (defScope s_law_alone) T.f_law_alone cdv A outer s H E).nox.blk s0 H0 (lcScope (subE (subE (subE (rootE ((blkOf ((defBody s_law_alone).getD 1 (.Pass ⟨0, 0, 0, 0⟩)) 0).getD 0 (.Pass ⟨0, 0, 0, 0⟩))) 1) 1) 1)) (compEnvC (lcScope (subE (subE (subE (rootE ((blkOf ((defBody s_law_alone).getD 1 (.Pass ⟨0, 0, 0, 0⟩)) 0).getD 0 (.Pass ⟨0, 0, 0, 0⟩))) 1) 1) 1)) cl0 C0 (cxOf CX0 P w K mg base ["_law_drawn", "_law_rows_here", "_law_spot", "_law_found", "_law_word", "_law_slip", "_law_count"] "_law_alone" (defScope s_law_alone) T.f_law_alone cdv A outer s H E).nox.env) fp0) (lcIfs (subE (subE (subE (rootE ((blkOf ((defBody s_law_alone).getD 1 (.Pass ⟨0, 0, 0, 0⟩)) 0).getD 0 (.Pass ⟨0, 0, 0, 0⟩))) 1) 1) 1)) _); dsimp only [Cx.blk, Cx.tr, Cx.suite, Cx.nox, Cx.wish, cxOf] at h; exact h)) (fun _ _ _ _ _ => (pv 6))) pa_nil)) pa_nil))) pa_nil)))))
 (pss_one
 (ps_ret (pv 3))))), ?_⟩
    have la : as.length = rows.length := by rw [← hm, List.length_map]
    have few := ok.few
    have l30 := rok.1
    refine ⟨line_of (show 0 ≤ 1000 by decide), fun g ng => ?_⟩
    refine ⟨.ref o, rfl, o, rfl, ⟨_, .of (same_upd ng _ _ ho)⟩, for_tup (K := K) (a := o) (xs := zs.map V.str) (fun i σ H' => ∃ x4 x5 x6 : Option V, σ = [some (.ref o), some (.ref u), some (.int at0), some (.ref g), x4, x5, x6] ∧ Same H H' ∧ PairsAt H' g (zs.take i) (aloneSum at0 zs rows))
      ⟨none, none, none, rfl, same_upd ng, [], upd_same, fun _ h => (by cases h), rfl⟩ (fun _ _ _ _ ⟨_, _, _, _, h, _⟩ => .of (h _ _ ho)) ?_ ?_⟩
    · rintro i x σ H1 hi ⟨x4, x5, x6, rfl, s1, ps, eg, hps, mps⟩
      obtain ⟨z, hz, rfl⟩ := item_map hi
      have mz := List.mem_of_getElem? hz
      have hu1 := s1 _ _ hu
      refine ⟨.ref g, rfl, .inl ⟨rfl, _, .of eg⟩, .str z, rfl, .ref u, rfl, u, rfl, ⟨_, .of hu1⟩, fun D nD => ?_⟩
      refine lc_tup (K := K) (a := u) (xs := as.map fun a => V.ref a.1) (fun j H' => Same H1 H' ∧ H' D = some (.lst ((((rows.take j).filter fun r => aloneB zs (fun t => side at0 (r.1.rk t)) z).map (·.2)).map V.int))) ⟨same_upd nD, upd_same⟩ (fun _ _ _ h => .of (h.1 _ _ hu1)) ?_ ?_
      · rintro j x H2 hj ⟨s2, e2⟩
        obtain ⟨a, haj, rfl⟩ := item_map hj
        have s12 := s1.trans s2
        obtain ⟨h1, h2⟩ := ha a (List.mem_of_getElem? haj)
        have mem : a.2.2 ∈ rows := by rw [← hm]; exact List.mem_map.mpr ⟨a, List.mem_of_getElem? haj, rfl⟩
        have rj : rows[j]? = some a.2.2 := by rw [← hm, List.getElem?_map, haj]; rfl
        obtain ⟨bok, _, _⟩ := rok.2 a.2.2 mem
        have ft := filter_takeA (f := fun r : Bal × Int => aloneB zs (fun t => side at0 (r.1.rk t)) z) rj
        refine ⟨a.1, _, rfl, .of (s12 _ _ h1), rfl, _, _, rfl, _, _, rfl, rfl, rfl, ?_⟩
        refine ⟨.ref o, rfl, .ref a.2.1, rfl, o, a.2.1, zs, a.2.2.1, rfl, s12 _ _ ho, h2.same s12, bok, ok.nodup, few, fun Tt bs ms H3 lev s3 eT ht em => ?_⟩
        have lbs : bs.length = ms.reverse.length := by
          have := congrArg List.length em
          unfold cutBy at this
          rw [List.length_map, List.length_map] at this
          exact this
        have lne : 0 < ms.reverse.length := by
          rw [List.length_reverse]
          exact List.length_pos_of_mem ((lev.2 _).mpr ⟨z, mz, rfl⟩)
        obtain ⟨j', k, bt, hside, hj', hb, hix⟩ := tier_pick lbs lne hat
        have ebt : bt.2 = zs.filter fun y => decide (a.2.2.1.hi y = k) := by
          have e1 : (bs.map (·.2))[j']? = some bt.2 := by rw [List.getElem?_map, hb]; rfl
          have e2 : (cutBy zs a.2.2.1.hi ms.reverse)[j']? = some (zs.filter fun y => decide (a.2.2.1.hi y = k)) := by
            unfold cutBy
            rw [List.getElem?_map, hj']
            rfl
          rw [em, e2] at e1
          exact (Option.some.inj e1).symm
        have htb := (ht bt (List.mem_of_getElem? hb)).1
        have al := spot_alone few bok ok.nodup lev hside mz
        rw [← ebt] at al
        have e3 := s3 _ _ e2
        refine ⟨.int at0, rfl, Tt, _, at0, .ref bt.1, rfl, rfl, .of eT, hix, .str z, rfl, line_of (show 1 ≤ 1000 by decide), fun t1 n1 => ?_⟩
        have s4 := same_upd (o := HO.tup [V.str z]) n1
        have e4 := s4 _ _ e3
        have sub : ∀ y ∈ bt.2, y ∈ zs := fun y hy => by rw [ebt] at hy; exact (List.mem_filter.mp hy).1
        have lbt : bt.2.length ≤ 6 := by rw [ebt]; exact Nat.le_trans (List.length_filter_le _ _) few
        have sh1 := shaped_tup lbt fun y hy => ok.names y (sub y hy)
        have sh2 : SeqAt.shaped (.tuple [.str z]) = true := shaped_tup (t := [z]) (by show 1 ≤ 6; decide) fun y hy => by rw [List.mem_singleton.mp hy]; exact ok.names z mz
        refine ⟨.tuple (bt.2.map PyData.str), .tuple [.str z], DAt.dp _ ⟨bt.1, _, rfl, s4 _ _ htb, DAll.strs _⟩, DAt.dp _ ⟨t1, _, rfl, upd_same, da1 rfl da0⟩, sh1, sh2, _, rfl, ?_⟩
        rw [eqv_one, al]
        have s24 := s2.trans (s3.trans s4)
        generalize upd H3 t1 (.tup [V.str z]) = H4 at e4 s24 ⊢
        cases hA : aloneB zs (fun t => side at0 (a.2.2.1.rk t)) z with
        | true =>
          rw [hA, if_pos rfl] at ft
          refine iteT ⟨.int a.2.2.2, rfl, _, e4, ?_, same_mut s24 nD, ?_⟩
          · rw [List.length_map, List.length_map]
            have := List.length_filter_le (fun r : Bal × Int => aloneB zs (fun t => side at0 (r.1.rk t)) z) (rows.take j)
            rw [List.length_take] at this
            exact small1000 (by omega)
          · rw [upd_same, ft, List.map_append, List.map_append]
            rfl
        | false =>
          rw [hA, if_neg Bool.false_ne_true, List.append_nil] at ft
          refine iteF ⟨s24, ?_⟩
          rw [ft]
          exact e4
      · rintro H2 ⟨s2, e2⟩
        rw [List.length_map, la, List.take_length] at e2
        refine ⟨D, _, rfl, .of e2, ?_⟩
        rw [filter_sum]
        refine ⟨line_of (show 2 ≤ 1000 by decide), fun t nt => ?_⟩
        have s3 := s2.trans (same_upd (o := HO.tup [V.str z, V.int (aloneSum at0 zs rows z)]) nt)
        have e3 := s3 _ _ eg
        have et : (upd H2 t (.tup [V.str z, V.int (aloneSum at0 zs rows z)])) t = some (.tup [V.str z, V.int (aloneSum at0 zs rows z)]) := upd_same
        have h3 : ∀ a ∈ ps, (upd H2 t (.tup [V.str z, V.int (aloneSum at0 zs rows z)])) a.1 = some (.tup [.str a.2, .int (aloneSum at0 zs rows a.2)]) := fun a ha => s3 _ _ (hps a ha)
        have lps : ps.length ≤ 6 := by
          have := congrArg List.length mps
          rw [List.length_map, List.length_take] at this
          omega
        refine ⟨g, _, _, rfl, rfl, e3, small1000 (by rw [List.length_map]; omega), _, _, _, rfl, same_mut (s1.trans s3) ng, ps ++ [(t, z)], by rw [upd_same, List.map_append]; rfl, fun a ha => ?_, by rw [List.map_append, mps, take_more hz]; rfl⟩
        have both : (upd H2 t (.tup [V.str z, V.int (aloneSum at0 zs rows z)])) a.1 = some (.tup [.str a.2, .int (aloneSum at0 zs rows a.2)]) := by
          rcases List.mem_append.mp ha with ha | ha
          · exact h3 a ha
          · rw [List.mem_singleton.mp ha]
            exact et
        show (upd (upd H2 t (.tup [V.str z, V.int (aloneSum at0 zs rows z)])) g _) a.1 = _
        rw [upd_ne (fun e => by rw [e, e3] at both; cases both)]
        exact both
    · rintro σ H1 ⟨x4, x5, x6, rfl, s1, hp⟩
      rw [List.length_map, List.take_length] at hp
      exact ⟨.ref g, rfl, q g _ s1 hp⟩
end
theorem hi_by {b : Bal} {zs : List Str} (n : zs.length ≤ 6) (h : b.Ok zs) (z : Str) : 0 < b.hi z ↔ z ∈ b.by := by
  cases b with
  | order ts =>
    have l6 : ts.length ≤ 6 := by
      have := (Bal.Ok.few (b := .order ts) n h).1
      have this : (ts.map tyT).length ≤ 6 := this
      rwa [List.length_map] at this
    show 0 < (if z ∈ ts.flatten then (99 : Int) - (place ts z : Nat) else 0) ↔ z ∈ ts.flatten
    by_cases c : z ∈ ts.flatten
    · rw [if_pos c]
      have := place_lt c
      exact ⟨fun _ => c, fun _ => by omega⟩
    · rw [if_neg c]
      exact ⟨fun h => absurd h (by decide), fun h => absurd h c⟩
  | lets ns =>
    show 0 < (if z ∈ ns then (1 : Int) else 0) ↔ z ∈ ns
    by_cases c : z ∈ ns
    · rw [if_pos c]
      exact ⟨fun _ => c, fun _ => by decide⟩
    · rw [if_neg c]
      exact ⟨fun h => absurd h (by decide), fun h => absurd h c⟩
  | marks ms =>
    show 0 < (mkAt ms z).getD 0 ↔ z ∈ (ms.filter fun m => decide (0 < m.2)).map (·.1)
    rw [List.mem_map]
    constructor
    · intro g
      by_cases c : z ∈ ms.map (·.1)
      · obtain ⟨m, hm, rfl⟩ := List.mem_map.mp c
        obtain ⟨i, hi⟩ := List.getElem?_of_mem hm
        rw [mk_some h.1 hi] at g
        exact ⟨m, List.mem_filter.mpr ⟨hm, decide_eq_true g⟩, rfl⟩
      · rw [mk_none c] at g
        exact absurd g (by decide)
    · rintro ⟨m, hm, rfl⟩
      obtain ⟨hm, g⟩ := List.mem_filter.mp hm
      obtain ⟨i, hi⟩ := List.getElem?_of_mem hm
      rw [mk_some h.1 hi]
      exact of_decide_eq_true g
section
variable {P : Program} {w : World} {K : PySem.W.Frag} {mg : Str → Option Value} {base : Heap}
def sp_law_let : Sp := fun vs H Q _ => ∃ (o u : Addr) (zs : List Str) (rows : List (Bal × Int)), vs = [.ref o, .ref u] ∧ H o = some (.tup (zs.map V.str)) ∧ RowsAt H u rows ∧ OptsOk zs ∧ RowsOk zs 30 rows ∧
  ∀ (g : Addr) (H' : Hp), Same H H' → PairsAt H' g zs (letSum rows) → Q (.ref g) H'
theorem ok_law_let (T : Txt K mg) : FnOk P w K mg base CX0 2 T.f_law_let T.fd_law_let ["_law_drawn", "_law_rows_here"] sp_law_let := by
  refine T.F_law_let.ok sc_law_let (fun vs H Q E h => ?_) (fun cdv A outer s H vs Q E hr h => ?_)
  · obtain ⟨o, u, zs, rows, rfl, _⟩ := h
    rfl
  · obtain ⟨o, u, zs, rows, rfl, ho, ⟨as, hu, ha, hm⟩, ok, rok, q⟩ := h
    refine ⟨_, (pss_cons
 (ps_set (i := 2) sc_law_let.nd rfl (Or.inl rfl) (pe_lst pa_nil))
 (pss_cons
 (ps_for PassesOwn.never rfl (pi_tup (pv 0)) (pg_name (i := 3) sc_law_let.nd rfl (Or.inr rfl))
 (pss_one
 (ps_expr (pe_bm PySem.F.plainAttrs_list PySem.F.slot_list_append PySem.F.type_list_append mt_append (pv 2) (pa_cons (pe_tup (pa_cons (pv 3) (pa_cons (pe_callB (cr_sum rfl) (by rfl) T.z_sum (by decide +kernel) (pa_cons (pe_lc (own := [("_law_slip", 4), ("_law_count", 5)]) rfl sc_law_let.nd (pi_tup (pv 1)) (blkOk_by (own := [("_law_slip", 4), ("_law_count", 5)]) (N := ["_law_drawn", "_law_rows_here", "_law_found", "_law_word", "_law_slip", "_law_count"]) (sc := (defScope s_law_let)) (by decide +kernel)) (fun s0 H0 C0 cl0 fp0 => (by have h := (pg_tup (n := 2) rfl (pgs_cons (pg_name (i := 4) sc_law_let.nd rfl (Or.inl rfl)) (pgs_cons (pg_name (i := 5) sc_law_let.nd rfl (Or.inl rfl)) pgs_nil)) : PG ((cxOf CX0 P w K mg base ["_law_drawn", "_law_rows_here", "_law_found", "_law_word", "_law_slip", "_law_count"] "_law_let" (defScope s_law_let) T.f_law_let cdv A outer s H E).nox.blk s0 H0 (lcScope (subE (subE (subE (rootE ((blkOf ((defBody s_law_let).getD 1 (.Pass ⟨0, 0, 0, 0⟩)) 0).getD 0 (.Pass ⟨0, 0, 0, 0⟩))) 1) 1) 1)) (compEnvC (lcScope (subE (subE (subE (rootE ((blkOf ((defBody s_law_let).getD 1 (.Pass ⟨0, 0, 0, 0⟩)) 0).getD 0 (.Pass ⟨0, 0, 0, 0⟩))) 1) 1) 1)) cl0 C0 (cxOf CX0 P w K mg base ["_law_drawn", "_law_rows_here", "_law_found", "_law_word", "_law_slip", "_law_count"] "_law_let" (defScope s_law_let) T.f_law_let cdv A outer s H E).nox.env) fp0) (subE (subE (subE (subE (rootE ((blkOf ((defBody s_law_let).getD 1 (.Pass ⟨0, 0, 0, 0⟩)) 0).getD 0 (.Pass ⟨0, 0, 0, 0⟩))) 1) 1) 1) 2) _); dsimp only [Cx.blk, Cx.tr, Cx.suite, Cx.nox, Cx.wish, cxOf] at h; exact h)) (fun s0 H0 C0 cl0 fp0 => (by have h := ((pts_one (pt_cmpR op_gt (pe_dget (hu_of hr) (pe_call (ok_law_high T) (hr.mono (by decide)) (by rfl) T.g_law_high T.F_law_high.kp T.b_law_high .nil pass0 (pa_cons (pv 0) (pa_cons (pv 4) pa_nil))) (pv 3) (fun _ _ => rfl)) pe_int (nomark _))) : PTs ((cxOf CX0 P w K mg base ["_law_drawn", "_law_rows_here", "_law_found", "_law_word", "_law_slip", "_law_count"] "_law_let" (defScope s_law_let) T.f_law_let cdv A outer s H E).nox.blk s0 H0 (lcScope (subE (subE (subE (rootE ((blkOf ((defBody s_law_let).getD 1 (.Pass ⟨0, 0, 0, 0⟩)) 0).getD 0 (.Pass ⟨0, 0, 0, 0⟩))) 1) 1) 1)) (compEnvC (lcScope (subE (subE (subE (rootE ((blkOf ((defBody s_law_let).getD 1 (.Pass ⟨0, 0, 0, 0⟩)) 0).getD 0 (.Pass ⟨0, 0, 0, 0⟩))) 1) 1) 1)) cl0 C0 (cxOf CX0 P w K mg base ["_law_drawn", "_law_rows_here", "_law_found", "_law_word", "_law_slip", "_law_count"] "_law_let" (defScope s_law_let) T.f_law_let cdv A outer s H E).nox.env) fp0) (lcIfs (subE (subE (subE (rootE ((blkOf ((defBody s_law_let).getD 1 (.Pass ⟨0, 0, 0, 0⟩)) 0).getD 0 (.Pass ⟨0, 0, 0, 0⟩))) 1) 1) 1)) _); dsimp only [Cx.blk, Cx.tr, Cx.suite, Cx.nox, Cx.wish, cxOf] at h; exact h)) (fun _ _ _ _ _ => (pv 5))) pa_nil)) pa_nil))) pa_nil)))))
 (pss_one
 (ps_ret (pv 2))))), ?_⟩
    have la : as.length = rows.length := by rw [← hm, List.length_map]
    have few := ok.few
    have l30 := rok.1
    refine ⟨line_of (show 0 ≤ 1000 by decide), fun g ng => ?_⟩
    refine ⟨.ref o, rfl, o, rfl, ⟨_, .of (same_upd ng _ _ ho)⟩, for_tup (K := K) (a := o) (xs := zs.map V.str) (fun i σ H' => ∃ x4 x5 x6 : Option V, σ = [some (.ref o), some (.ref u), some (.ref g), x4, x5, x6] ∧ Same H H' ∧ PairsAt H' g (zs.take i) (letSum rows))
      ⟨none, none, none, rfl, same_upd ng, [], upd_same, fun _ h => (by cases h), rfl⟩ (fun _ _ _ _ ⟨_, _, _, _, h, _⟩ => .of (h _ _ ho)) ?_ ?_⟩
    · rintro i x σ H1 hi ⟨x4, x5, x6, rfl, s1, ps, eg, hps, mps⟩
      obtain ⟨z, hz, rfl⟩ := item_map hi
      have mz := List.mem_of_getElem? hz
      have hu1 := s1 _ _ hu
      refine ⟨.ref g, rfl, .inl ⟨rfl, _, .of eg⟩, .str z, rfl, .ref u, rfl, u, rfl, ⟨_, .of hu1⟩, fun D nD => ?_⟩
      refine lc_tup (K := K) (a := u) (xs := as.map fun a => V.ref a.1) (fun j H' => Same H1 H' ∧ H' D = some (.lst ((((rows.take j).filter fun r => decide (z ∈ r.1.by)).map (·.2)).map V.int))) ⟨same_upd nD, upd_same⟩ (fun _ _ _ h => .of (h.1 _ _ hu1)) ?_ ?_
      · rintro j x H2 hj ⟨s2, e2⟩
        obtain ⟨a, haj, rfl⟩ := item_map hj
        have s12 := s1.trans s2
        obtain ⟨h1, h2⟩ := ha a (List.mem_of_getElem? haj)
        have mem : a.2.2 ∈ rows := by rw [← hm]; exact List.mem_map.mpr ⟨a, List.mem_of_getElem? haj, rfl⟩
        have rj : rows[j]? = some a.2.2 := by rw [← hm, List.getElem?_map, haj]; rfl
        obtain ⟨bok, _, _⟩ := rok.2 a.2.2 mem
        have ft := filter_takeA (f := fun r : Bal × Int => decide (z ∈ r.1.by)) rj
        refine ⟨a.1, _, rfl, .of (s12 _ _ h1), rfl, _, _, rfl, _, _, rfl, rfl, rfl, ?_⟩
        refine ⟨.ref o, rfl, .ref a.2.1, rfl, o, a.2.1, zs, a.2.2.1, rfl, s12 _ _ ho, h2.same s12, bok, ok.nodup, few, fun D3 H3 s3 n3 eD3 => ?_⟩
        have got : DGet H3 D3 (.str z) (some (.int (a.2.2.1.hi z))) := by
          have := DGet.k (k := .inr z) eD3
          rw [tab_val, if_pos mz] at this
          exact this
        have e3 := s3 _ _ e2
        have s23 := s2.trans s3
        have hb := hi_by few bok z
        refine ⟨.str z, rfl, D3, _, rfl, got, _, _, rfl, rfl, _, rfl, ?_⟩
        by_cases c : z ∈ a.2.2.1.by
        · rw [decide_eq_true (hb.mpr c)]
          rw [if_pos (decide_eq_true c)] at ft
          refine iteT ⟨.int a.2.2.2, rfl, _, e3, ?_, same_mut s23 nD, ?_⟩
          · rw [List.length_map, List.length_map]
            have := List.length_filter_le (fun r : Bal × Int => decide (z ∈ r.1.by)) (rows.take j)
            rw [List.length_take] at this
            exact small1000 (by omega)
          · rw [upd_same, ft, List.map_append, List.map_append]
            rfl
        · rw [decide_eq_false fun h => c (hb.mp h)]
          rw [if_neg (by rw [decide_eq_false c]; exact Bool.false_ne_true), List.append_nil] at ft
          refine iteF ⟨s23, ?_⟩
          rw [ft]
          exact e3
      · rintro H2 ⟨s2, e2⟩
        rw [List.length_map, la, List.take_length] at e2
        refine ⟨D, _, rfl, .of e2, ?_⟩
        have es : ((rows.filter fun r => decide (z ∈ r.1.by)).map (·.2)).sum = letSum rows z := by
          rw [filter_sum]
          unfold letSum
          refine congrArg List.sum (List.map_congr_left fun r _ => ?_)
          by_cases c : z ∈ r.1.by
          · rw [if_pos (decide_eq_true c), if_pos c]
          · rw [if_neg (by rw [decide_eq_false c]; exact Bool.false_ne_true), if_neg c]
        rw [es]
        refine ⟨line_of (show 2 ≤ 1000 by decide), fun t nt => ?_⟩
        have s3 := s2.trans (same_upd (o := HO.tup [V.str z, V.int (letSum rows z)]) nt)
        have e3 := s3 _ _ eg
        have et : (upd H2 t (.tup [V.str z, V.int (letSum rows z)])) t = some (.tup [V.str z, V.int (letSum rows z)]) := upd_same
        have h3 : ∀ a ∈ ps, (upd H2 t (.tup [V.str z, V.int (letSum rows z)])) a.1 = some (.tup [.str a.2, .int (letSum rows a.2)]) := fun a ha => s3 _ _ (hps a ha)
        have lps : ps.length ≤ 6 := by
          have := congrArg List.length mps
          rw [List.length_map, List.length_take] at this
          omega
        refine ⟨g, _, _, rfl, rfl, e3, small1000 (by rw [List.length_map]; omega), _, _, _, rfl, same_mut (s1.trans s3) ng, ps ++ [(t, z)], by rw [upd_same, List.map_append]; rfl, fun a ha => ?_, by rw [List.map_append, mps, take_more hz]; rfl⟩
        have both : (upd H2 t (.tup [V.str z, V.int (letSum rows z)])) a.1 = some (.tup [.str a.2, .int (letSum rows a.2)]) := by
          rcases List.mem_append.mp ha with ha | ha
          · exact h3 a ha
          · rw [List.mem_singleton.mp ha]
            exact et
        show (upd (upd H2 t (.tup [V.str z, V.int (letSum rows z)])) g _) a.1 = _
        rw [upd_ne (fun e => by rw [e, e3] at both; cases both)]
        exact both
    · rintro σ H1 ⟨x4, x5, x6, rfl, s1, hp⟩
      rw [List.length_map, List.take_length] at hp
      exact ⟨.ref g, rfl, q g _ s1 hp⟩
end
section
variable {P : Program} {w : World} {K : PySem.W.Frag} {mg : Str → Option Value} {base : Heap}
/-! ### what is refused -/
def sp_law_refused (C : Addr) : Sp := fun vs H Q _ => ∃ (p o u : Addr) (zs : List Str) (rows : List (Bal × Int)) (v1 v2 : V) (d1 d2 : PyData), vs = [.ref p, v1, v2] ∧ PollOk C H p o u zs rows ∧ DAt H d1 v1 ∧ DAt H d2 v2 ∧
  ((optD zs d1 = false ∧ ∀ (t : Addr) (H' : Hp), Same H H' → H' t = some (.tup [.str "none", v1]) → Q (.ref t) H') ∨ (optD zs d1 = true ∧ optD zs d2 = false ∧ ∀ (t : Addr) (H' : Hp), Same H H' → H' t = some (.tup [.str "none", v2]) → Q (.ref t) H'))
theorem ok_law_refused (T : Txt K mg) : FnOk P w K mg base CX0 5 T.f_law_refused T.fd_law_refused ["_law_poll", "_law_first", "_law_second"] (sp_law_refused T.C_Poll) := by
  refine T.F_law_refused.ok sc_law_refused (fun vs H Q E h => ?_) (fun cdv A outer s H vs Q E hr h => ?_)
  · obtain ⟨p, o, u, zs, rows, v1, v2, d1, d2, rfl, _⟩ := h
    rfl
  · obtain ⟨p, o, u, zs, rows, v1, v2, d1, d2, rfl, pk, h1, h2, h⟩ := h
    refine ⟨_, (pss_cons
 (ps_set (i := 3) sc_law_refused.nd rfl (Or.inl rfl) pe_str)
 (pss_cons
 (ps_try_as (i := 4) rfl rfl sc_law_refused.nd rfl rfl ⟨rfl, by decide, Or.inl T.k_NoOption⟩ takes0
 (fun W pn xe tk _ => (by have h := ((pss_one
 (ps_expr (pf_pos (ok_margin T) (hr.mono (by decide)) (by rfl) T.g_margin T.F_margin.kp T.kb_margin_3 (fun σ => atE tk σ) (pa_cons (pv 0) (pa_cons (pv 1) (pa_cons (pv 2) pa_nil)))))) : PSs ((cxOf CX0 P w K mg base ["_law_poll", "_law_first", "_law_second", "_law_found", "e"] "_law_refused" (defScope s_law_refused) T.f_law_refused cdv A outer s H E).nox.tr pn xe) (blkOf ((defBody s_law_refused).getD 1 (.Pass ⟨0, 0, 0, 0⟩)) 0) _); dsimp only [Cx.tr, Cx.suite, Cx.nox, Cx.wish, cxOf] at h; exact h))
 (fun a oe cls d pn hz hf => (by have h := ((pss_one
 (ps_set (i := 3) sc_law_refused.nd rfl (Or.inl rfl) (pe_tup (pa_cons pe_str (pa_cons (pe_xf T.xf_NoOption T.nf_NoOption_name hz hf (pv 4)) pa_nil))))) : PSs ((cxOf CX0 P w K mg base ["_law_poll", "_law_first", "_law_second", "_law_found", "e"] "_law_refused" (defScope s_law_refused) T.f_law_refused cdv A outer s H E).nox.suite a ((a, oe) :: pn)) (blkOf ((defBody s_law_refused).getD 1 (.Pass ⟨0, 0, 0, 0⟩)) 1) _); dsimp only [Cx.tr, Cx.suite, Cx.nox, Cx.wish, cxOf] at h; exact h)))
 (pss_one
 (ps_ret (pv 3))))), ?_⟩
    refine ⟨.ref p, rfl, v1, rfl, v2, rfl, rfl, rfl, p, o, u, zs, rows, v1, v2, d1, d2, rfl, pk, h1, h2, fun e => ?_, fun e e2 => ?_, fun y z e1 e2 hy hz => ?_⟩
    · obtain ⟨_, q⟩ : optD zs d1 = false ∧ ∀ (t : Addr) (H' : Hp), Same H H' → H' t = some (.tup [.str "none", v1]) → Q (.ref t) H' := by
        rcases h with h | ⟨h, _⟩
        · exact h
        · rw [e] at h
          cases h
      intro dx fs H' s n hd hf
      refine ⟨true, T.te_NoOption_NoOption, fun _ x _ => ?_, fun q => Bool.noConfusion q⟩
      exact ⟨.ref x, rfl, rfl, rfl, dx, fs, v1, rfl, hd, hf, line_of (show 2 ≤ 1000 by decide), fun t nt => ⟨_, rfl, q t _ (s.trans (same_upd nt)) upd_same⟩⟩
    · obtain ⟨_, _, q⟩ : optD zs d1 = true ∧ optD zs d2 = false ∧ ∀ (t : Addr) (H' : Hp), Same H H' → H' t = some (.tup [.str "none", v2]) → Q (.ref t) H' := by
        rcases h with ⟨h, _⟩ | h
        · rw [e] at h
          cases h
        · exact h
      intro dx fs H' s n hd hf
      refine ⟨true, T.te_NoOption_NoOption, fun _ x _ => ?_, fun q => Bool.noConfusion q⟩
      exact ⟨.ref x, rfl, rfl, rfl, dx, fs, v2, rfl, hd, hf, line_of (show 2 ≤ 1000 by decide), fun t nt => ⟨_, rfl, q t _ (s.trans (same_upd nt)) upd_same⟩⟩
    · exfalso
      rw [e1, e2] at h
      rcases h with ⟨h, _⟩ | ⟨_, h, _⟩
      · rw [show optD zs (.str y) = true from decide_eq_true hy] at h
        cases h
      · rw [show optD zs (.str z) = true from decide_eq_true hz] at h
        cases h
end
/-! ### how deep data goes -/
structure Lay (n : Nat) (d : PyData) : Prop where
  lay : d.canLay0 = true
  dep : d.depth ≤ n
structure LayA (n : Nat) (ds : List PyData) : Prop where
  lay : PyData.canLayAll0 ds = true
  dep : PyData.depthAll ds ≤ n
theorem LayA.nil {n : Nat} : LayA n [] := ⟨rfl, Nat.zero_le _⟩
theorem LayA.cons {n : Nat} {d : PyData} {ds : List PyData} (a : Lay n d) (b : LayA n ds) : LayA n (d :: ds) := by
  refine ⟨?_, ?_⟩
  · rw [PyData.canLayAll0, a.lay, b.lay] <;> rfl
  · rw [PyData.depthAll]
    exact Nat.max_le.mpr ⟨a.dep, b.dep⟩
theorem LayA.of {n : Nat} : ∀ {l : List PyData}, (∀ d ∈ l, Lay n d) → LayA n l
  | [], _ => .nil
  | d :: l, h => .cons (h d List.mem_cons_self) (LayA.of fun e he => h e (List.mem_cons_of_mem _ he))
theorem LayA.tuple {n : Nat} {ds : List PyData} (h : LayA n ds) : Lay (n + 1) (.tuple ds) := by
  refine ⟨by rw [PyData.canLay0]; exact h.lay, ?_⟩
  have := h.dep
  rw [PyData.depth]
  omega
theorem Lay.mono {n m : Nat} {d : PyData} (h : Lay n d) (g : n ≤ m) : Lay m d := ⟨h.lay, Nat.le_trans h.dep g⟩
theorem Lay.shaped {n : Nat} {d : PyData} (h : Lay n d) (hn : n ≤ 64) : SeqAt.shaped d = true := by
  unfold SeqAt.shaped
  rw [h.lay, Bool.true_and]
  exact decide_eq_true (Nat.le_trans h.dep hn)
theorem Ok.lays {n m : Nat} {d : PyData} (h : Own.Ok n m d) : Lay n d := ⟨h.lay, h.dep⟩
/-! ### the law's table of all pairs -/
def rowP (y : Str) (zs : List Str) : List (Str × Str) := (zs.filter fun z => decide (y ≠ z)).map fun z => (y, z)
def prs (zs ys : List Str) : List (Str × Str) := ys.flatMap fun y => rowP y zs
def cellD (f : Str → Str → Int) (p : Str × Str) : PyData := .tuple [.tuple [.str p.1, .str p.2], .int (f p.1 p.2)]
def cellsD (f : Str → Str → Int) (ps : List (Str × Str)) : PyData := .list (ps.map (cellD f))
def CellsAt (H : Hp) (g : Addr) (ps : List (Str × Str)) (f : Str → Str → Int) : Prop := ∃ as : List (Addr × Addr × (Str × Str)), H g = some (.lst (as.map fun a => V.ref a.1)) ∧
  (∀ a ∈ as, H a.1 = some (.tup [.ref a.2.1, .int (f a.2.2.1 a.2.2.2)]) ∧ H a.2.1 = some (.tup [.str a.2.2.1, .str a.2.2.2])) ∧ as.map (·.2.2) = ps
theorem CellsAt.same {H H' : Hp} {g : Addr} {ps : List (Str × Str)} {f : Str → Str → Int} (s : Same H H') (h : CellsAt H g ps f) : CellsAt H' g ps f := by
  obtain ⟨as, h1, h2, h3⟩ := h
  exact ⟨as, s _ _ h1, fun a ha => ⟨s _ _ (h2 a ha).1, s _ _ (h2 a ha).2⟩, h3⟩
theorem CellsAt.data {H : Hp} {g : Addr} {ps : List (Str × Str)} {f : Str → Str → Int} (h : CellsAt H g ps f) : DAt H (cellsD f ps) (.ref g) := by
  obtain ⟨as, h1, h2, rfl⟩ := h
  refine ⟨g, _, rfl, h1, ?_⟩
  rw [List.map_map]
  exact DAll.of_map fun a ha => ⟨a.1, _, rfl, (h2 a ha).1, da1 ⟨a.2.1, _, rfl, (h2 a ha).2, da1 rfl (da1 rfl da0)⟩ (da1 rfl da0)⟩
theorem prs_more {zs ys : List Str} {y : Str} {i : Nat} (h : ys[i]? = some y) : prs zs (ys.take (i + 1)) = prs zs (ys.take i) ++ rowP y zs := by
  unfold prs
  rw [take_more h, List.flatMap_append, List.flatMap_singleton]
theorem rowP_len (y : Str) (zs : List Str) : (rowP y zs).length ≤ zs.length := by
  unfold rowP
  rw [List.length_map]
  exact List.length_filter_le _ _
theorem prs_len (zs : List Str) : ∀ ys : List Str, (prs zs ys).length ≤ ys.length * zs.length
  | [] => Nat.zero_le _
  | y :: ys => by
    have ih := prs_len zs ys
    have h := rowP_len y zs
    show (rowP y zs ++ prs zs ys).length ≤ _
    rw [List.length_append, List.length_cons, Nat.succ_mul]
    omega
theorem prs_mem {zs ys : List Str} {p : Str × Str} (h : p ∈ prs zs ys) : p.1 ∈ ys ∧ p.2 ∈ zs ∧ p.1 ≠ p.2 := by
  obtain ⟨y, hy, h⟩ := List.mem_flatMap.mp h
  obtain ⟨z, hz, rfl⟩ := List.mem_map.mp h
  obtain ⟨hz, n⟩ := List.mem_filter.mp hz
  exact ⟨hy, hz, of_decide_eq_true n⟩
theorem tab2_prs (zs : List Str) (f : Str → Str → Int) (ys : List Str) : tab2 zs f ys = (prs zs ys).map fun p => (([.inr p.1, .inr p.2] : List L2.Key), V.int (f p.1 p.2)) := by
  unfold tab2 prs
  rw [List.map_flatMap]
  refine congrArg (fun g => List.flatMap g ys) (funext fun y => ?_)
  unfold row2 rowP
  rw [List.map_map]
  rfl
theorem cells_lay {zs : List Str} (ok : ∀ z ∈ zs, NameOk z) (f : Str → Str → Int) {ps : List (Str × Str)} (h : ∀ p ∈ ps, p.1 ∈ zs ∧ p.2 ∈ zs) : SeqAt.shaped (cellsD f ps) = true := by
  have l1 : LayA 2 (ps.map (cellD f)) := LayA.of fun d hd => by
    obtain ⟨p, hp, rfl⟩ := List.mem_map.mp hd
    have a := (ok_small (ok _ (h p hp).1)).lays
    have b := (ok_small (ok _ (h p hp).2)).lays
    exact (LayA.cons ((LayA.cons a (LayA.cons b .nil)).tuple) (LayA.cons ⟨rfl, Nat.zero_le _⟩ .nil)).tuple
  exact Lay.shaped (n := 3) ⟨by unfold cellsD; rw [PyData.canLay0]; exact l1.lay, by unfold cellsD; rw [PyData.depth]; have := l1.dep; omega⟩ (by decide)
theorem pairs_lay {zs : List Str} (ok : ∀ z ∈ zs, NameOk z) (f : Str → Int) : SeqAt.shaped (pairsD zs f) = true := by
  have l1 : LayA 1 (zs.map fun z => PyData.tuple [.str z, .int (f z)]) := LayA.of fun d hd => by
    obtain ⟨z, hz, rfl⟩ := List.mem_map.mp hd
    exact (LayA.cons ((ok_small (ok _ hz)).lays) (LayA.cons ⟨rfl, Nat.zero_le _⟩ .nil)).tuple
  exact Lay.shaped (n := 2) ⟨by unfold pairsD; rw [PyData.canLay0]; exact l1.lay, by unfold pairsD; rw [PyData.depth]; have := l1.dep; omega⟩ (by decide)
theorem ints_lay (ns : List Int) : SeqAt.shaped (.list (ns.map PyData.int)) = true := by
  have l1 : LayA 0 (ns.map PyData.int) := LayA.of fun d hd => by
    obtain ⟨n, _, rfl⟩ := List.mem_map.mp hd
    exact ⟨rfl, Nat.zero_le _⟩
  exact Lay.shaped (n := 1) ⟨by rw [PyData.canLay0]; exact l1.lay, by rw [PyData.depth]; have := l1.dep; omega⟩ (by decide)
/-- what stands in a dict's list of items -/
theorem items_pairs {H : Hp} {L : Addr} {ts : List Addr} {zs : List Str} {f : Str → Int} (e : H L = some (.lst (ts.map V.ref))) (h : Paired (fun (t : Addr) (q : Key × V) => H t = some (.tup [kV q.1, q.2])) ts (tab zs f)) : DAt H (pairsD zs f) (.ref L) := by
  refine ⟨L, _, rfl, e, ?_⟩
  unfold tab at h
  clear e
  induction zs generalizing ts with
  | nil =>
    cases h
    rfl
  | cons z zs ih =>
    cases h with
    | cons a b => exact da1 ⟨_, _, rfl, a, da1 rfl (da1 rfl da0)⟩ (ih b)
theorem items_cells {H H' : Hp} {L : Addr} {ts : List Addr} {ps : List (Str × Str)} {f : Str → Str → Int} (s : Same H H') (e : H' L = some (.lst (ts.map V.ref))) (h : PairsT H H' ts (ps.map fun p => (([.inr p.1, .inr p.2] : List L2.Key), V.int (f p.1 p.2)))) : DAt H' (cellsD f ps) (.ref L) := by
  refine ⟨L, _, rfl, e, ?_⟩
  obtain ⟨len, h⟩ := h
  rw [List.length_map] at len
  clear e
  induction ps generalizing ts with
  | nil =>
    cases ts with
    | nil => rfl
    | cons _ _ => cases len
  | cons p ps ih =>
    cases ts with
    | nil => cases len
    | cons t ts =>
      obtain ⟨kq, h1, h2⟩ := h 0 t _ rfl rfl
      exact da1 ⟨t, _, rfl, h2, da1 ⟨kq, _, rfl, s _ _ h1, da1 rfl (da1 rfl da0)⟩ (da1 rfl da0)⟩ (ih (Nat.succ.inj len) fun j t q a b => h (j + 1) t q a b)
theorem DAll.ints {H : Hp} : ∀ ns : List Int, DAll H (ns.map PyData.int) (ns.map V.int)
  | [] => rfl
  | n :: ns => ⟨.int n, _, rfl, rfl, DAll.ints ns⟩
theorem prs_filter {zs : List Str} {z : Str} : ∀ {ys : List Str}, ys.Nodup → (prs zs ys).filter (fun p => decide (p.1 = z)) = if z ∈ ys then rowP z zs else []
  | [], _ => rfl
  | y :: ys, nd => by
    have n2 := List.nodup_cons.mp nd
    have ih := prs_filter (zs := zs) (z := z) n2.2
    have e : prs zs (y :: ys) = rowP y zs ++ prs zs ys := rfl
    rw [e, List.filter_append, ih]
    by_cases c : y = z
    · subst c
      rw [if_neg n2.1, if_pos List.mem_cons_self, List.append_nil]
      refine List.filter_eq_self.mpr fun p hp => ?_
      obtain ⟨x, _, rfl⟩ := List.mem_map.mp hp
      exact decide_eq_true rfl
    · have n : (rowP y zs).filter (fun p => decide (p.1 = z)) = [] := by
        rw [List.filter_eq_nil_iff]
        intro p hp
        obtain ⟨x, _, rfl⟩ := List.mem_map.mp hp
        rw [decide_eq_false c]
        exact Bool.false_ne_true
      rw [n, List.nil_append]
      by_cases d : z ∈ ys
      · rw [if_pos d, if_pos (List.mem_cons_of_mem _ d)]
      · rw [if_neg d, if_neg fun h => (List.mem_cons.mp h).elim (fun e => c e.symm) d]
theorem table_sum {zs : List Str} {z : Str} {f : Str → Str → Int} {as : List (Addr × Addr × (Str × Str))} (nd : zs.Nodup) (hz : z ∈ zs) (h : as.map (·.2.2) = prs zs zs) : ((as.filter fun a => decide (a.2.2.1 = z)).map fun a => f a.2.2.1 a.2.2.2).sum = pointSum f zs z := by
  have e1 : (as.filter fun a => decide (a.2.2.1 = z)).map (·.2.2) = rowP z zs := by
    have := prs_filter (zs := zs) (z := z) nd
    rw [← h, if_pos hz, List.filter_map] at this
    exact this
  have e2 : ((as.filter fun a => decide (a.2.2.1 = z)).map fun a => f a.2.2.1 a.2.2.2) = (rowP z zs).map fun p => f p.1 p.2 := by
    rw [← e1, List.map_map]
    rfl
  rw [e2]
  unfold rowP pointSum
  rw [List.map_map]
  have e3 : (zs.filter fun y => decide (z ≠ y)) = zs.filter fun y => decide (y ≠ z) := List.filter_congr fun y _ => decide_eq_decide.mpr ⟨fun h e => h e.symm, fun h e => h e.symm⟩
  rw [e3]
  rfl
theorem eqv_same (d : PyData) (h : SeqAt.shaped d = true) : PyData.eqv d d = true := SeqAt.eqv_refl d (SeqAt.canLay_of_shaped h)
section
variable {P : Program} {w : World} {K : PySem.W.Frag} {mg : Str → Option Value} {base : Heap}
def sp_law_right (C : Addr) : Sp := fun vs H Q _ => ∃ (p o u : Addr) (zs : List Str) (rows : List (Bal × Int)), vs = [.ref p, .ref o, .ref u] ∧ PollOk C H p o u zs rows ∧ ∀ H', Same H H' → Q (.bl true) H'
theorem ok_law_right (T : Txt K mg) : FnOk P w K mg base CX0 6 T.f_law_right T.fd_law_right ["_law_poll", "_law_drawn", "_law_rows_here"] (sp_law_right T.C_Poll) := by
  refine T.F_law_right.ok sc_law_right (fun vs H Q E h => ?_) (fun cdv A outer s H vs Q E hr h => ?_)
  · obtain ⟨p, o, u, zs, rows, rfl, _⟩ := h
    rfl
  · obtain ⟨p, o, u, zs, rows, rfl, pk, q⟩ := h
    refine ⟨_, (pss_cons
 (ps_set (i := 3) sc_law_right.nd rfl (Or.inr rfl) (pe_lst pa_nil))
 (pss_cons
 (ps_for PassesOwn.never rfl (pi_tup (pv 1)) (pg_name (i := 4) sc_law_right.nd rfl (Or.inl rfl))
 (pss_one
 (ps_for PassesOwn.never rfl (pi_tup (pv 1)) (pg_name (i := 5) sc_law_right.nd rfl (Or.inl rfl))
 (pss_one
 (ps_if (pt_cmpR op_ne (pv 4) (pv 5) (nomark _))
 (pss_one
 (ps_expr (pe_bm PySem.F.plainAttrs_list PySem.F.slot_list_append PySem.F.type_list_append mt_append (pv 3) (pa_cons (pe_tup (pa_cons (pe_tup (pa_cons (pv 4) (pa_cons (pv 5) pa_nil))) (pa_cons (pe_call (ok_law_margin T) (hr.mono (by decide)) (by rfl) T.g_law_margin T.F_law_margin.kp T.b_law_margin .nil pass0 (pa_cons (pv 1) (pa_cons (pv 2) (pa_cons (pv 4) (pa_cons (pv 5) pa_nil))))) pa_nil))) pa_nil))))
 pss_nil)))))
 (pss_cons
 (ps_if (pt_cmpR (op_neD hr.units) (pe_callTy (call_listItT rfl) (by rfl) T.z_list (by decide +kernel) (pa_cons (pe_bm0 PySem.F.plainAttrs_dict PySem.F.slot_dict_items PySem.F.type_dict_items L2.DX.mt_itemsT (pe_call (ok_margins T) (hr.mono (by decide)) (by rfl) T.g_margins T.F_margins.kp T.b_margins .nil pass0 (pa_cons (pv 0) pa_nil))) pa_nil)) (pv 3) (nomark _))
 (pss_one
 (ps_ret pe_bl))
 pss_nil)
 (pss_cons
 (ps_if (pt_cmpR (op_neD hr.units) (pe_lc (own := [("_law_row", 7)]) (g := gName 7) (tt := tYes) rfl sc_law_right.nd (pi_list (pv 3)) (blkOk_by (own := [("_law_row", 7)]) (N := ["_law_poll", "_law_drawn", "_law_rows_here", "_law_table", "_law_first", "_law_second", "_law_sums_of", "_law_row", "_law_word", "_law_pair", "_law_count"]) (sc := (defScope s_law_right)) (by decide +kernel)) (fun _ _ _ _ _ => pg_name (i := 7) sc_law_right.nd rfl (Or.inl rfl)) (fun _ _ _ _ _ => pts_nil) (fun s0 H0 C0 cl0 fp0 => (by have h := ((pf_pos (ok_margin T) (hr.mono (by decide)) (by rfl) T.g_margin T.F_margin.kp T.kb_margin_3 (fun σ => atN σ) (pa_cons (pv 0) (pa_cons (pe_ix ix_tup (pe_ix ix_tup (pv 7) pe_int (fun _ _ => rfl)) pe_int (fun _ _ => rfl)) (pa_cons (pe_ix ix_tup (pe_ix ix_tup (pv 7) pe_int (fun _ _ => rfl)) pe_int (fun _ _ => rfl)) pa_nil)))) : PE ((cxOf CX0 P w K mg base ["_law_poll", "_law_drawn", "_law_rows_here", "_law_table", "_law_first", "_law_second", "_law_sums_of", "_law_row", "_law_word", "_law_pair", "_law_count"] "_law_right" (defScope s_law_right) T.f_law_right cdv A outer s H E).nox.blk s0 H0 (lcScope (subE (rootE ((defBody s_law_right).getD 3 (.Pass ⟨0, 0, 0, 0⟩))) 0)) (compEnvC (lcScope (subE (rootE ((defBody s_law_right).getD 3 (.Pass ⟨0, 0, 0, 0⟩))) 0)) cl0 C0 (cxOf CX0 P w K mg base ["_law_poll", "_law_drawn", "_law_rows_here", "_law_table", "_law_first", "_law_second", "_law_sums_of", "_law_row", "_law_word", "_law_pair", "_law_count"] "_law_right" (defScope s_law_right) T.f_law_right cdv A outer s H E).nox.env) fp0) (subE (subE (rootE ((defBody s_law_right).getD 3 (.Pass ⟨0, 0, 0, 0⟩))) 0) 0) _); dsimp only [Cx.blk, Cx.tr, Cx.suite, Cx.nox, Cx.wish, cxOf] at h; exact h))) (pe_lc (own := [("_law_row", 7)]) (g := gName 7) (tt := tYes) rfl sc_law_right.nd (pi_list (pv 3)) (blkOk_by (own := [("_law_row", 7)]) (N := ["_law_poll", "_law_drawn", "_law_rows_here", "_law_table", "_law_first", "_law_second", "_law_sums_of", "_law_row", "_law_word", "_law_pair", "_law_count"]) (sc := (defScope s_law_right)) (by decide +kernel)) (fun _ _ _ _ _ => pg_name (i := 7) sc_law_right.nd rfl (Or.inl rfl)) (fun _ _ _ _ _ => pts_nil) (fun s0 H0 C0 cl0 fp0 => (by have h := ((pe_ix ix_tup (pv 7) pe_int (fun _ _ => rfl)) : PE ((cxOf CX0 P w K mg base ["_law_poll", "_law_drawn", "_law_rows_here", "_law_table", "_law_first", "_law_second", "_law_sums_of", "_law_row", "_law_word", "_law_pair", "_law_count"] "_law_right" (defScope s_law_right) T.f_law_right cdv A outer s H E).nox.blk s0 H0 (lcScope (subE (rootE ((defBody s_law_right).getD 3 (.Pass ⟨0, 0, 0, 0⟩))) 1)) (compEnvC (lcScope (subE (rootE ((defBody s_law_right).getD 3 (.Pass ⟨0, 0, 0, 0⟩))) 1)) cl0 C0 (cxOf CX0 P w K mg base ["_law_poll", "_law_drawn", "_law_rows_here", "_law_table", "_law_first", "_law_second", "_law_sums_of", "_law_row", "_law_word", "_law_pair", "_law_count"] "_law_right" (defScope s_law_right) T.f_law_right cdv A outer s H E).nox.env) fp0) (subE (subE (rootE ((defBody s_law_right).getD 3 (.Pass ⟨0, 0, 0, 0⟩))) 1) 0) _); dsimp only [Cx.blk, Cx.tr, Cx.suite, Cx.nox, Cx.wish, cxOf] at h; exact h))) (nomark _))
 (pss_one
 (ps_ret pe_bl))
 pss_nil)
 (pss_cons
 (ps_setLc (i := 6) (own := [("_law_word", 8)]) (g := gName 8) (tt := tYes) rfl sc_law_right.nd rfl rfl (sw_true rfl rfl rfl (by decide +kernel)) (pi_tup (pv 1)) (blkOk_by (own := [("_law_word", 8)]) (N := ["_law_poll", "_law_drawn", "_law_rows_here", "_law_table", "_law_first", "_law_second", "_law_sums_of", "_law_row", "_law_word", "_law_pair", "_law_count"]) (sc := (defScope s_law_right)) (by decide +kernel)) (fun _ _ _ _ _ => pg_name (i := 8) sc_law_right.nd rfl (Or.inr rfl)) (fun _ _ _ _ _ => pts_nil) (fun s0 H0 C0 cl0 fp0 => (by have h := ((pe_tup (pa_cons (pv 8) (pa_cons (pe_callB (cr_sum rfl) (by rfl) T.z_sum (by decide +kernel) (pa_cons (pe_lc (own := [("_law_pair", 9), ("_law_count", 10)]) rfl sc_law_right.nd (pi_list (pv 3)) (blkOk_re (blkOk_by (own := [("_law_pair", 9), ("_law_count", 10)]) (N := ["_law_poll", "_law_drawn", "_law_rows_here", "_law_table", "_law_first", "_law_second", "_law_sums_of", "_law_row", "_law_word", "_law_pair", "_law_count"]) (sc := (lcScope (rootE ((defBody s_law_right).getD 4 (.Pass ⟨0, 0, 0, 0⟩))))) (by decide +kernel))) (fun s1 H1 C1 cl1 fp1 => (by have h := (pg_tup (n := 2) rfl (pgs_cons (pg_name (i := 9) sc_law_right.nd rfl (Or.inl rfl)) (pgs_cons (pg_name (i := 10) sc_law_right.nd rfl (Or.inl rfl)) pgs_nil)) : PG (((cxOf CX0 P w K mg base ["_law_poll", "_law_drawn", "_law_rows_here", "_law_table", "_law_first", "_law_second", "_law_sums_of", "_law_row", "_law_word", "_law_pair", "_law_count"] "_law_right" (defScope s_law_right) T.f_law_right cdv A outer s H E).nox.blk s0 H0 (lcScope (rootE ((defBody s_law_right).getD 4 (.Pass ⟨0, 0, 0, 0⟩)))) (compEnvC (lcScope (rootE ((defBody s_law_right).getD 4 (.Pass ⟨0, 0, 0, 0⟩)))) cl0 C0 (cxOf CX0 P w K mg base ["_law_poll", "_law_drawn", "_law_rows_here", "_law_table", "_law_first", "_law_second", "_law_sums_of", "_law_row", "_law_word", "_law_pair", "_law_count"] "_law_right" (defScope s_law_right) T.f_law_right cdv A outer s H E).nox.env) fp0).blk s1 H1 (lcScope (subE (subE (subE (rootE ((defBody s_law_right).getD 4 (.Pass ⟨0, 0, 0, 0⟩))) 0) 1) 1)) (compEnvC (lcScope (subE (subE (subE (rootE ((defBody s_law_right).getD 4 (.Pass ⟨0, 0, 0, 0⟩))) 0) 1) 1)) cl1 C1 ((cxOf CX0 P w K mg base ["_law_poll", "_law_drawn", "_law_rows_here", "_law_table", "_law_first", "_law_second", "_law_sums_of", "_law_row", "_law_word", "_law_pair", "_law_count"] "_law_right" (defScope s_law_right) T.f_law_right cdv A outer s H E).nox.blk s0 H0 (lcScope (rootE ((defBody s_law_right).getD 4 (.Pass ⟨0, 0, 0, 0⟩)))) (compEnvC (lcScope (rootE ((defBody s_law_right).getD 4 (.Pass ⟨0, 0, 0, 0⟩)))) cl0 C0 (cxOf CX0 P w K mg base ["_law_poll", "_law_drawn", "_law_rows_here", "_law_table", "_law_first", "_law_second", "_law_sums_of", "_law_row", "_law_word", "_law_pair", "_law_count"] "_law_right" (defScope s_law_right) T.f_law_right cdv A outer s H E).nox.env) fp0).env) fp1) (subE (subE (subE (subE (rootE ((defBody s_law_right).getD 4 (.Pass ⟨0, 0, 0, 0⟩))) 0) 1) 1) 2) _); dsimp only [Cx.blk, Cx.tr, Cx.suite, Cx.nox, Cx.wish, cxOf] at h; exact h)) (fun s1 H1 C1 cl1 fp1 => (by have h := ((pts_one (pt_cmpR op_eq (pe_ix ix_tup (pv 9) pe_int (fun _ _ => rfl)) (pv 8) (nomark _))) : PTs (((cxOf CX0 P w K mg base ["_law_poll", "_law_drawn", "_law_rows_here", "_law_table", "_law_first", "_law_second", "_law_sums_of", "_law_row", "_law_word", "_law_pair", "_law_count"] "_law_right" (defScope s_law_right) T.f_law_right cdv A outer s H E).nox.blk s0 H0 (lcScope (rootE ((defBody s_law_right).getD 4 (.Pass ⟨0, 0, 0, 0⟩)))) (compEnvC (lcScope (rootE ((defBody s_law_right).getD 4 (.Pass ⟨0, 0, 0, 0⟩)))) cl0 C0 (cxOf CX0 P w K mg base ["_law_poll", "_law_drawn", "_law_rows_here", "_law_table", "_law_first", "_law_second", "_law_sums_of", "_law_row", "_law_word", "_law_pair", "_law_count"] "_law_right" (defScope s_law_right) T.f_law_right cdv A outer s H E).nox.env) fp0).blk s1 H1 (lcScope (subE (subE (subE (rootE ((defBody s_law_right).getD 4 (.Pass ⟨0, 0, 0, 0⟩))) 0) 1) 1)) (compEnvC (lcScope (subE (subE (subE (rootE ((defBody s_law_right).getD 4 (.Pass ⟨0, 0, 0, 0⟩))) 0) 1) 1)) cl1 C1 ((cxOf CX0 P w K mg base ["_law_poll", "_law_drawn", "_law_rows_here", "_law_table", "_law_first", "_law_second", "_law_sums_of", "_law_row", "_law_word", "_law_pair", "_law_count"] "_law_right" (defScope s_law_right) T.f_law_right cdv A outer s H E).nox.blk s0 H0 (lcScope (rootE ((defBody s_law_right).getD 4 (.Pass ⟨0, 0, 0, 0⟩)))) (compEnvC (lcScope (rootE ((defBody s_law_right).getD 4 (.Pass ⟨0, 0, 0, 0⟩)))) cl0 C0 (cxOf CX0 P w K mg base ["_law_poll", "_law_drawn", "_law_rows_here", "_law_table", "_law_first", "_law_second", "_law_sums_of", "_law_row", "_law_word", "_law_pair", "_law_count"] "_law_right" (defScope s_law_right) T.f_law_right cdv A outer s H E).nox.env) fp0).env) fp1) (lcIfs (subE (subE (subE (rootE ((defBody s_law_right).getD 4 (.Pass ⟨0, 0, 0, 0⟩))) 0) 1) 1)) _); dsimp only [Cx.blk, Cx.tr, Cx.suite, Cx.nox, Cx.wish, cxOf] at h; exact h)) (fun _ _ _ _ _ => (pv 10))) pa_nil)) pa_nil))) : PE ((cxOf CX0 P w K mg base ["_law_poll", "_law_drawn", "_law_rows_here", "_law_table", "_law_first", "_law_second", "_law_sums_of", "_law_row", "_law_word", "_law_pair", "_law_count"] "_law_right" (defScope s_law_right) T.f_law_right cdv A outer s H E).nox.blk s0 H0 (lcScope (rootE ((defBody s_law_right).getD 4 (.Pass ⟨0, 0, 0, 0⟩)))) (compEnvC (lcScope (rootE ((defBody s_law_right).getD 4 (.Pass ⟨0, 0, 0, 0⟩)))) cl0 C0 (cxOf CX0 P w K mg base ["_law_poll", "_law_drawn", "_law_rows_here", "_law_table", "_law_first", "_law_second", "_law_sums_of", "_law_row", "_law_word", "_law_pair", "_law_count"] "_law_right" (defScope s_law_right) T.f_law_right cdv A outer s H E).nox.env) fp0) (subE (rootE ((defBody s_law_right).getD 4 (.Pass ⟨0, 0, 0, 0⟩))) 0) _); dsimp only [Cx.blk, Cx.tr, Cx.suite, Cx.nox, Cx.wish, cxOf] at h; exact h)))
 (pss_cons
 (ps_if (PW.pt (pw_or (pt_cmpR (op_neD hr.units) (LiI.pe_listItems rfl (pe_call (ok_points T) (hr.mono (by decide)) (by rfl) T.g_points T.F_points.kp T.b_points .nil pass0 (pa_cons (pv 0) pa_nil)) (by rfl) T.z_list (by decide +kernel)) (pv 6) (nomark _)) (pw_or1 (pt_cmpR (op_neD hr.units) (pe_lc (own := [("_law_word", 8)]) (g := gName 8) (tt := tYes) rfl sc_law_right.nd (pi_tup (pv 1)) (blkOk_by (own := [("_law_word", 8)]) (N := ["_law_poll", "_law_drawn", "_law_rows_here", "_law_table", "_law_first", "_law_second", "_law_sums_of", "_law_row", "_law_word", "_law_pair", "_law_count"]) (sc := (defScope s_law_right)) (by decide +kernel)) (fun _ _ _ _ _ => pg_name (i := 8) sc_law_right.nd rfl (Or.inl rfl)) (fun _ _ _ _ _ => pts_nil) (fun _ _ _ _ _ => (pf_pos (ok_margin T) (hr.mono (by decide)) (by rfl) T.g_margin T.F_margin.kp T.kb_margin_3 (fun σ => atN σ) (pa_cons (pv 0) (pa_cons (pv 8) (pa_cons (pv 8) pa_nil)))))) (pe_op op_rep (pe_lst (pa_cons pe_int pa_nil)) (pe_callB call_len_seq (by rfl) T.z_len (by decide +kernel) (pa_cons (pv 1) pa_nil))) (nomark _)))))
 (pss_one
 (ps_ret pe_bl))
 pss_nil)
 (pss_cons
 (ps_if (pt_cmpR (op_neD hr.units) (LiI.pe_listItems rfl (pe_call (ok_firsts T) (hr.mono (by decide)) (by rfl) T.g_firsts T.F_firsts.kp T.b_firsts .nil pass0 (pa_cons (pv 0) pa_nil)) (by rfl) T.z_list (by decide +kernel)) (pe_call (ok_law_alone T) (hr.mono (by decide)) (by rfl) T.g_law_alone T.F_law_alone.kp T.b_law_alone .nil pass0 (pa_cons (pv 1) (pa_cons (pv 2) (pa_cons pe_int pa_nil)))) (nomark _))
 (pss_one
 (ps_ret pe_bl))
 pss_nil)
 (pss_cons
 (ps_if (pt_cmpR (op_neD hr.units) (LiI.pe_listItems rfl (pe_call (ok_lasts T) (hr.mono (by decide)) (by rfl) T.g_lasts T.F_lasts.kp T.b_lasts .nil pass0 (pa_cons (pv 0) pa_nil)) (by rfl) T.z_list (by decide +kernel)) (pe_call (ok_law_alone T) (hr.mono (by decide)) (by rfl) T.g_law_alone T.F_law_alone.kp T.b_law_alone .nil pass0 (pa_cons (pv 1) (pa_cons (pv 2) (pa_cons (pe_un un_neg pe_int) pa_nil)))) (nomark _))
 (pss_one
 (ps_ret pe_bl))
 pss_nil)
 (pss_one
 (ps_ret (pe_cmpR (op_eqD hr.units) (LiI.pe_listItems rfl (pe_call (ok_lets T) (hr.mono (by decide)) (by rfl) T.g_lets T.F_lets.kp T.b_lets .nil pass0 (pa_cons (pv 0) pa_nil)) (by rfl) T.z_list (by decide +kernel)) (pe_call (ok_law_let T) (hr.mono (by decide)) (by rfl) T.g_law_let T.F_law_let.kp T.b_law_let .nil pass0 (pa_cons (pv 1) (pa_cons (pv 2) pa_nil))) (nomark _)))))))))))), ?_⟩
    have ok := pk.ok
    have rok := pk.rok
    have few := ok.few
    have nd := ok.nodup
    have ho := pk.opts
    refine ⟨line_of (show 0 ≤ 1000 by decide), fun g ng => ?_⟩
    refine ⟨.ref o, rfl, o, rfl, ⟨_, .of (same_upd ng _ _ ho)⟩, for_tup (K := K) (a := o) (xs := zs.map V.str) (fun i σ H' => ∃ x4 x5 x6 x7 x8 x9 x10 : Option V, σ = [some (.ref p), some (.ref o), some (.ref u), some (.ref g), x4, x5, x6, x7, x8, x9, x10] ∧ Same H H' ∧ CellsAt H' g (prs zs (zs.take i)) (marg rows))
      ⟨none, none, none, none, none, none, none, rfl, same_upd ng, [], upd_same, fun _ h => (by cases h), rfl⟩ (fun _ _ _ _ ⟨_, _, _, _, _, _, _, _, h, _⟩ => .of (h _ _ ho)) ?_ ?_⟩
    · rintro i x σ H1 hi ⟨x4, x5, x6, x7, x8, x9, x10, rfl, s1, c1⟩
      obtain ⟨y, hy, rfl⟩ := item_map hi
      have my := List.mem_of_getElem? hy
      have i6 := (List.getElem?_eq_some_iff.mp hy).1
      refine ⟨.ref o, rfl, o, rfl, ⟨_, .of (s1 _ _ ho)⟩, for_tup (K := K) (a := o) (xs := zs.map V.str) (fun j σ H' => ∃ x5 : Option V, σ = [some (.ref p), some (.ref o), some (.ref u), some (.ref g), some (.str y), x5, x6, x7, x8, x9, x10] ∧ Same H H' ∧ CellsAt H' g (prs zs (zs.take i) ++ rowP y (zs.take j)) (marg rows))
        ⟨x5, rfl, s1, by rw [show rowP y (zs.take 0) = [] from rfl, List.append_nil]; exact c1⟩ (fun _ _ _ _ ⟨_, _, h, _⟩ => .of (h _ _ ho)) ?_ ?_⟩
      · rintro j x σ H2 hj ⟨x5, rfl, s2, as, eg, has, mas⟩
        obtain ⟨z, hz, rfl⟩ := item_map hj
        have mz := List.mem_of_getElem? hz
        have ft := filter_takeA (f := fun z => decide (y ≠ z)) hz
        have rp : rowP y (zs.take (j + 1)) = rowP y (zs.take j) ++ if y ≠ z then [(y, z)] else [] := by
          unfold rowP
          rw [ft, List.map_append]
          by_cases c : y ≠ z
          · rw [if_pos (decide_eq_true c), if_pos c] <;> rfl
          · rw [if_neg (by rw [decide_eq_false c]; exact Bool.false_ne_true), if_neg c] <;> rfl
        refine ⟨.str y, rfl, .str z, rfl, rfl, _, rfl, ite2 (fun e => ?_) (fun e => ?_)⟩
        · have ne : y ≠ z := fun h => by subst h; simp at e
          rw [if_pos ne] at rp
          refine ⟨.ref g, rfl, .inl ⟨rfl, _, .of eg⟩, .str y, rfl, .str z, rfl, line_of (show 2 ≤ 1000 by decide), fun t nt => ?_⟩
          have s3 := same_upd (o := HO.tup [V.str y, V.str z]) nt
          have et : (upd H2 t (.tup [V.str y, V.str z])) t = some (.tup [V.str y, V.str z]) := upd_same
          have s23 := s2.trans s3
          have eg3 := s3 _ _ eg
          have h3 : ∀ a ∈ as, (upd H2 t (.tup [V.str y, V.str z])) a.1 = some (.tup [.ref a.2.1, .int (marg rows a.2.2.1 a.2.2.2)]) ∧ (upd H2 t (.tup [V.str y, V.str z])) a.2.1 = some (.tup [.str a.2.2.1, .str a.2.2.2]) := fun a ha => ⟨s3 _ _ (has a ha).1, s3 _ _ (has a ha).2⟩
          generalize upd H2 t (.tup [V.str y, V.str z]) = H3 at s23 et eg3 h3 ⊢
          refine ⟨.ref o, rfl, .ref u, rfl, .str y, rfl, .str z, rfl, o, u, zs, rows, y, z, rfl, s23 _ _ ho, pk.votes.same s23, ok, rok, my, mz, fun H4 s4 => ⟨line_of (show 2 ≤ 1000 by decide), fun c nc => ?_⟩⟩
          have s5 := s4.trans (same_upd (o := HO.tup [V.ref t, V.int (marg rows y z)]) nc)
          have ec : (upd H4 c (.tup [V.ref t, V.int (marg rows y z)])) c = some (.tup [V.ref t, V.int (marg rows y z)]) := upd_same
          have eg5 := s5 _ _ eg3
          have et5 := s5 _ _ et
          have h5 : ∀ a ∈ as ++ [(c, t, (y, z))], (upd H4 c (.tup [V.ref t, V.int (marg rows y z)])) a.1 = some (.tup [.ref a.2.1, .int (marg rows a.2.2.1 a.2.2.2)]) ∧ (upd H4 c (.tup [V.ref t, V.int (marg rows y z)])) a.2.1 = some (.tup [.str a.2.2.1, .str a.2.2.2]) := fun a ha => by
            rcases List.mem_append.mp ha with ha | ha
            · exact ⟨s5 _ _ (h3 a ha).1, s5 _ _ (h3 a ha).2⟩
            · rw [List.mem_singleton.mp ha]
              exact ⟨ec, et5⟩
          have las : as.length ≤ 42 := by
            have e1 := congrArg List.length mas
            rw [List.length_map, List.length_append] at e1
            have a1 := prs_len zs (zs.take i)
            have a2 := rowP_len y (zs.take j)
            have a3 : (zs.take i).length * zs.length ≤ 6 * 6 := Nat.mul_le_mul (by rw [List.length_take]; omega) few
            rw [List.length_take] at a2
            omega
          refine ⟨g, _, _, rfl, rfl, eg5, small1000 (by rw [List.length_map]; omega), _, rfl, same_mut (s23.trans s5) ng, as ++ [(c, t, (y, z))], by rw [upd_same, List.map_append]; rfl, fun a ha => ?_, by rw [List.map_append, mas, rp, List.append_assoc]; rfl⟩
          have b := h5 a ha
          generalize upd H4 c (.tup [V.ref t, V.int (marg rows y z)]) = H5 at eg5 b
          rw [upd_ne (fun e => by rw [e, eg5] at b; cases b.1), upd_ne (fun e => by rw [e, eg5] at b; cases b.2)]
          exact b
        · have ne : ¬ y ≠ z := fun h => e (by simp [h])
          rw [if_neg ne, List.append_nil] at rp
          refine ⟨_, rfl, s2, ?_⟩
          rw [rp]
          exact ⟨as, eg, has, mas⟩
      · rintro σ H2 ⟨x5, rfl, s2, c2⟩
        rw [List.length_map, List.take_length, ← prs_more hy] at c2
        exact ⟨_, _, _, _, _, _, _, rfl, s2, c2⟩
    rintro σ H1 ⟨x4, x5, x6, x7, x8, x9, x10, rfl, s1, c1⟩
    rw [List.length_map, List.take_length] at c1
    have ps2 : ∀ p ∈ prs zs zs, p.1 ∈ zs ∧ p.2 ∈ zs := fun p hp => ⟨(prs_mem hp).1, (prs_mem hp).2.1⟩
    have shc := cells_lay ok.names (marg rows) ps2
    refine ⟨.ref p, rfl, p, o, u, zs, rows, rfl, pk.same s1, fun D H2 s2 nD eD => ?_⟩
    have eD' := eD
    rw [tab2_prs] at eD'
    refine ⟨.inr (.inr (.inl ⟨rfl, .inr ⟨_, eD'⟩⟩)), D, _, rfl, rfl, eD', fun V1 nV => ?_⟩
    have s3 := same_upd (o := L2.DX.itemsO V1 D) nV
    refine ⟨V1, D, _, rfl, upd_same, s3 _ _ eD', fun H4 L ts s4 nL eL pt => ?_⟩
    have s24 := s2.trans (s3.trans s4)
    have s14 := s1.trans s24
    have c4 := c1.same s24
    have dL := items_cells s4 eL pt
    refine ⟨.ref g, rfl, _, _, DAt.dp _ dL, DAt.dp _ c4.data, shc, shc, _, rfl, ?_⟩
    rw [eqv_same _ shc]
    refine iteF ?_
    obtain ⟨as, eg, has, mas⟩ := id c4
    -- the margins of two, one by one
    have las : as.length ≤ 36 := by
      have e1 := congrArg List.length mas
      rw [List.length_map] at e1
      have a1 := prs_len zs zs
      have a3 : zs.length * zs.length ≤ 6 * 6 := Nat.mul_le_mul few few
      omega
    have mem : ∀ a ∈ as, a.2.2.1 ∈ zs ∧ a.2.2.2 ∈ zs := fun a ha => ps2 _ (by rw [← mas]; exact List.mem_map.mpr ⟨a, ha, rfl⟩)
    refine ⟨.ref g, rfl, g, rfl, ⟨_, .of eg⟩, fun D1 nD1 => ?_⟩
    refine lc_list (K := K) (a := g) (xs := as.map fun a => V.ref a.1) (fun i H' => Same H4 H' ∧ H' D1 = some (.lst (((as.take i).map fun a => marg rows a.2.2.1 a.2.2.2).map V.int))) ⟨same_upd nD1, upd_same⟩ (fun _ _ _ h => .of (h.1 _ _ eg)) ?_ ?_
    · rintro i x H5 hi ⟨s5, e5⟩
      obtain ⟨a, hai, rfl⟩ := item_map hi
      have ma := List.mem_of_getElem? hai
      have il := (List.getElem?_eq_some_iff.mp hai).1
      obtain ⟨h1, h2⟩ := has a ma
      have h1 := s5 _ _ h1
      have h2 := s5 _ _ h2
      refine ⟨rfl, .ref p, rfl, .ref a.1, rfl, a.1, _, 0, .ref a.2.1, rfl, rfl, .of h1, atI_nat (j := 0) rfl, a.2.1, _, 0, .str a.2.2.1, rfl, rfl, .of h2, atI_nat (j := 0) rfl, .ref a.1, rfl, a.1, _, 0, .ref a.2.1, rfl, rfl, .of h1, atI_nat (j := 0) rfl, a.2.1, _, 1, .str a.2.2.2, rfl, rfl, .of h2, atI_nat (j := 1) rfl, rfl, rfl, p, o, u, zs, rows, .str a.2.2.1, .str a.2.2.2, .str a.2.2.1, .str a.2.2.2, rfl, (pk.same s14).same s5, rfl, rfl, fun e => ?_, fun _ e => ?_, fun y z e1 e2 hy hz H6 s6 => ?_⟩
      · rw [show optD zs (.str a.2.2.1) = true from decide_eq_true (mem a ma).1] at e
        cases e
      · rw [show optD zs (.str a.2.2.2) = true from decide_eq_true (mem a ma).2] at e
        cases e
      · cases e1
        cases e2
        refine ⟨_, s6 _ _ e5, small1000 (by rw [List.length_map, List.length_map, List.length_take]; omega), same_mut (s5.trans s6) nD1, ?_⟩
        rw [upd_same, take_more hai, List.map_append, List.map_append]
        rfl
    rintro H5 ⟨s5, e5⟩
    rw [List.length_map, List.take_length] at e5
    have eg5 := s5 _ _ eg
    refine ⟨.ref g, rfl, g, rfl, ⟨_, .of eg5⟩, fun D2 nD2 => ?_⟩
    refine lc_list (K := K) (a := g) (xs := as.map fun a => V.ref a.1) (fun i H' => Same H5 H' ∧ H' D2 = some (.lst (((as.take i).map fun a => marg rows a.2.2.1 a.2.2.2).map V.int))) ⟨same_upd nD2, upd_same⟩ (fun _ _ _ h => .of (h.1 _ _ eg5)) ?_ ?_
    · rintro i x H6 hi ⟨s6, e6⟩
      obtain ⟨a, hai, rfl⟩ := item_map hi
      have il := (List.getElem?_eq_some_iff.mp hai).1
      have h1 := (s5.trans s6) _ _ (has a (List.mem_of_getElem? hai)).1
      refine ⟨rfl, .ref a.1, rfl, a.1, _, 1, _, rfl, rfl, .of h1, atI_nat (j := 1) rfl, _, e6, small1000 (by rw [List.length_map, List.length_map, List.length_take]; omega), same_mut s6 nD2, ?_⟩
      rw [upd_same, take_more hai, List.map_append, List.map_append]
      rfl
    rintro H6 ⟨s6, e6⟩
    rw [List.length_map, List.take_length] at e6
    have shi := ints_lay (as.map fun a => marg rows a.2.2.1 a.2.2.2)
    refine ⟨.list ((as.map fun a => marg rows a.2.2.1 a.2.2.2).map PyData.int), .list ((as.map fun a => marg rows a.2.2.1 a.2.2.2).map PyData.int), DAt.dp (.list _) ⟨D1, _, rfl, s6 _ _ e5, DAll.ints _⟩, DAt.dp (.list _) ⟨D2, _, rfl, e6, DAll.ints _⟩, shi, shi, _, rfl, ?_⟩
    rw [eqv_same _ shi]
    refine iteF ?_
    have s46 := s5.trans s6
    have s16 := s14.trans s46
    have has6 : ∀ a ∈ as, H6 a.1 = some (.tup [.ref a.2.1, .int (marg rows a.2.2.1 a.2.2.2)]) ∧ H6 a.2.1 = some (.tup [.str a.2.2.1, .str a.2.2.2]) := fun a ha => ⟨s46 _ _ (has a ha).1, s46 _ _ (has a ha).2⟩
    have eg6 := s46 _ _ eg
    have ho6 := s16 _ _ ho
    have pk6 := pk.same s16
    clear has eg eg5 e5 e6 s5 s6 s46 nD1 nD2 c4 dL pt eL nL s4 s14 s24 s3 nV eD' eD nD s2 c1
    -- points, by the table
    refine ⟨.ref o, rfl, o, rfl, ⟨_, .of ho6⟩, fun D3 nD3 => ?_⟩
    refine lc_tup (K := K) (a := o) (xs := zs.map V.str) (fun i H' => Same H6 H' ∧ PairsAt H' D3 (zs.take i) (pointSum (marg rows) zs)) ⟨same_upd nD3, [], upd_same, fun _ h => (by cases h), rfl⟩ (fun _ _ _ h => .of (h.1 _ _ ho6)) ?_ ?_
    · rintro i x H7 hi ⟨s7, qs, e7, hqs, mqs⟩
      obtain ⟨z, hz, rfl⟩ := item_map hi
      have mz := List.mem_of_getElem? hz
      have eg7 := s7 _ _ eg6
      refine ⟨rfl, .str z, rfl, .ref g, rfl, g, rfl, ⟨_, .of eg7⟩, fun D4 nD4 => ?_⟩
      refine lc_list (K := K) (a := g) (xs := as.map fun a => V.ref a.1) (fun j H' => Same H7 H' ∧ H' D4 = some (.lst ((((as.take j).filter fun a => decide (a.2.2.1 = z)).map fun a => marg rows a.2.2.1 a.2.2.2).map V.int))) ⟨same_upd nD4, upd_same⟩ (fun _ _ _ h => .of (h.1 _ _ eg7)) ?_ ?_
      · rintro j x H8 hj ⟨s8, e8⟩
        obtain ⟨a, haj, rfl⟩ := item_map hj
        obtain ⟨h1, h2⟩ := has6 a (List.mem_of_getElem? haj)
        have h1 := (s7.trans s8) _ _ h1
        have h2 := (s7.trans s8) _ _ h2
        have ft := filter_takeA (f := fun a : Addr × Addr × (Str × Str) => decide (a.2.2.1 = z)) haj
        refine ⟨a.1, _, rfl, .of h1, rfl, _, _, rfl, _, _, rfl, rfl, rfl, .ref a.2.1, rfl, a.2.1, _, 0, .str a.2.2.1, rfl, rfl, .of h2, atI_nat (j := 0) rfl, .str z, rfl, rfl, _, rfl, ?_⟩
        by_cases c : a.2.2.1 = z
        · rw [decide_eq_true (congrArg V.str c)]
          rw [if_pos (decide_eq_true c)] at ft
          refine iteT ⟨.int (marg rows a.2.2.1 a.2.2.2), rfl, _, e8, ?_, same_mut s8 nD4, ?_⟩
          · rw [List.length_map, List.length_map]
            have := List.length_filter_le (fun a : Addr × Addr × (Str × Str) => decide (a.2.2.1 = z)) (as.take j)
            rw [List.length_take] at this
            exact small1000 (by omega)
          · rw [upd_same, ft, List.map_append, List.map_append]
            rfl
        · rw [decide_eq_false fun h => c (V.str.inj h)]
          rw [if_neg (by rw [decide_eq_false c]; exact Bool.false_ne_true), List.append_nil] at ft
          refine iteF ⟨s8, ?_⟩
          rw [ft]
          exact e8
      · rintro H8 ⟨s8, e8⟩
        rw [List.length_map, List.take_length] at e8
        refine ⟨D4, _, rfl, .of e8, ?_⟩
        rw [table_sum nd mz mas]
        refine ⟨line_of (show 2 ≤ 1000 by decide), fun t nt => ?_⟩
        have s9 := s8.trans (same_upd (o := HO.tup [V.str z, V.int (pointSum (marg rows) zs z)]) nt)
        have e9 := s9 _ _ e7
        have et : (upd H8 t (.tup [V.str z, V.int (pointSum (marg rows) zs z)])) t = some (.tup [V.str z, V.int (pointSum (marg rows) zs z)]) := upd_same
        have h3 : ∀ a ∈ qs, (upd H8 t (.tup [V.str z, V.int (pointSum (marg rows) zs z)])) a.1 = some (.tup [.str a.2, .int (pointSum (marg rows) zs a.2)]) := fun a ha => s9 _ _ (hqs a ha)
        have lqs : qs.length ≤ 6 := by
          have := congrArg List.length mqs
          rw [List.length_map, List.length_take] at this
          omega
        refine ⟨_, e9, small1000 (by rw [List.length_map]; omega), same_mut (s7.trans s9) nD3, qs ++ [(t, z)], by rw [upd_same, List.map_append]; rfl, fun a ha => ?_, by rw [List.map_append, mqs, take_more hz]; rfl⟩
        have both : (upd H8 t (.tup [V.str z, V.int (pointSum (marg rows) zs z)])) a.1 = some (.tup [.str a.2, .int (pointSum (marg rows) zs a.2)]) := by
          rcases List.mem_append.mp ha with ha | ha
          · exact h3 a ha
          · rw [List.mem_singleton.mp ha]
            exact et
        generalize upd H8 t (.tup [V.str z, V.int (pointSum (marg rows) zs z)]) = H9 at e9 both
        rw [upd_ne (fun e => by rw [e, e9] at both; cases both)]
        exact both
    rintro H7 ⟨s7, pa7⟩
    rw [List.length_map, List.take_length] at pa7
    have s17 := s16.trans s7
    have shp := pairs_lay ok.names (pointSum (marg rows) zs)
    refine ⟨.ref p, rfl, p, o, u, zs, rows, rfl, pk.same s17, fun Dp H8 s8 n8 e8 => ⟨Dp, _, rfl, e8, fun H9 L9 ts9 s9 _ _ _ e9 pr9 => ?_⟩⟩
    have s79 := s8.trans s9
    refine ⟨.ref D3, rfl, _, _, DAt.dp _ (items_pairs e9 pr9), DAt.dp _ (DAt.same s79 _ pa7.data), shp, shp, _, rfl, ?_⟩
    rw [eqv_same _ shp]
    refine iteF ?_
    have s19 := s17.trans s79
    -- of an option against itself
    have ho9 := s19 _ _ ho
    have pk9 := pk.same s19
    clear pa7 s7 has6 eg6 ho6 pk6 s16 s17 s79 s8 s9 n8 e8 e9 pr9 nD3
    refine ⟨.ref o, rfl, o, rfl, ⟨_, .of ho9⟩, fun D5 nD5 => ?_⟩
    refine lc_tup (K := K) (a := o) (xs := zs.map V.str) (fun i H' => Same H9 H' ∧ H' D5 = some (.lst ((List.replicate i (0 : Int)).map V.int))) ⟨same_upd nD5, upd_same⟩ (fun _ _ _ h => .of (h.1 _ _ ho9)) ?_ ?_
    · rintro i x H10 hi ⟨s10, e10⟩
      obtain ⟨z, hz, rfl⟩ := item_map hi
      have mz := List.mem_of_getElem? hz
      have il := (List.getElem?_eq_some_iff.mp hz).1
      refine ⟨rfl, .ref p, rfl, .str z, rfl, .str z, rfl, rfl, rfl, p, o, u, zs, rows, .str z, .str z, .str z, .str z, rfl, pk9.same s10, rfl, rfl, fun e => ?_, fun _ e => ?_, fun y1 y2 e1 e2 hy hz H11 s11 => ?_⟩
      · rw [show optD zs (.str z) = true from decide_eq_true mz] at e
        cases e
      · rw [show optD zs (.str z) = true from decide_eq_true mz] at e
        cases e
      · cases e1
        cases e2
        have z0 : marg rows z z = 0 := by have := marg_turn z z rows; omega
        refine ⟨_, s11 _ _ e10, small1000 (by rw [List.length_map, List.length_replicate]; omega), same_mut (s10.trans s11) nD5, ?_⟩
        rw [upd_same, z0, List.replicate_succ', List.map_append]
        rfl
    rintro H10 ⟨s10, e10⟩
    rw [List.length_map] at e10
    have ho10 := s10 _ _ ho9
    refine ⟨line_of (show 1 ≤ 1000 by decide), fun l nl => ?_⟩
    have s11 := same_upd (o := HO.lst [V.int 0]) nl
    refine ⟨.ref o, rfl, o, _, rfl, .inr (.of (s11 _ _ ho10)), l, _, _, rfl, rfl, upd_same, by omega, by rw [List.length_map]; omega, ?_, fun l2 nl2 => ?_⟩
    · rw [List.length_map]
      exact line_of (by show 1 * ((zs.length : Nat) : Int).toNat ≤ 1000; omega)
    have s12 := s11.trans (same_upd (o := HO.lst (List.replicate (((zs.map V.str).length : Nat) : Int).toNat [V.int 0]).flatten) nl2)
    have erep : (List.replicate (((zs.map V.str).length : Nat) : Int).toNat [V.int 0]).flatten = (List.replicate zs.length (0 : Int)).map V.int := by
      rw [List.length_map, Int.toNat_natCast]
      generalize zs.length = n
      induction n with
      | zero => rfl
      | succ n ih => rw [List.replicate_succ, List.flatten_cons, ih, List.replicate_succ] <;> rfl
    have el2 : (upd (upd H10 l (.lst [V.int 0])) l2 (.lst (List.replicate (((zs.map V.str).length : Nat) : Int).toNat [V.int 0]).flatten)) l2 = some (.lst ((List.replicate zs.length (0 : Int)).map V.int)) := by rw [upd_same, erep]
    have shr := ints_lay (List.replicate zs.length (0 : Int))
    refine ⟨.list ((List.replicate zs.length (0 : Int)).map PyData.int), .list ((List.replicate zs.length (0 : Int)).map PyData.int), DAt.dp (.list _) ⟨D5, _, rfl, s12 _ _ e10, DAll.ints _⟩, DAt.dp (.list _) ⟨l2, _, rfl, el2, DAll.ints _⟩, shr, shr, _, rfl, ?_⟩
    rw [eqv_same _ shr]
    refine iteF ?_
    have s1c := s19.trans (s10.trans s12)
    generalize upd (upd H10 l (.lst [V.int 0])) l2 (.lst (List.replicate (((zs.map V.str).length : Nat) : Int).toNat [V.int 0]).flatten) = H12 at s1c ⊢
    clear el2 s12 s11 e10 s10
    -- firsts, lasts, lets
    refine ⟨.ref p, rfl, p, o, u, zs, rows, rfl, pk.same s1c, fun D1 H13 sa n13 e13 => ⟨D1, _, rfl, e13, fun H14 L1 t1 sb _ _ _ f1 g1 => ?_⟩⟩
    have s1e := s1c.trans (sa.trans sb)
    refine ⟨.ref o, rfl, .ref u, rfl, o, u, 0, zs, rows, rfl, s1e _ _ ho, pk.votes.same s1e, ok, rok, .inl rfl, fun G1 H15 sc pa => ?_⟩
    have sh1 := pairs_lay ok.names (aloneSum 0 zs rows)
    refine ⟨_, _, DAt.dp _ (DAt.same sc _ (items_pairs f1 g1)), DAt.dp _ pa.data, sh1, sh1, _, rfl, ?_⟩
    rw [eqv_same _ sh1]
    refine iteF ?_
    have s1f := s1e.trans sc
    refine ⟨.ref p, rfl, p, o, u, zs, rows, rfl, pk.same s1f, fun D2 H16 sd n16 e16 => ⟨D2, _, rfl, e16, fun H17 L2' t2 se _ _ _ f2 g2 => ?_⟩⟩
    have s1h := s1f.trans (sd.trans se)
    refine ⟨.ref o, rfl, .ref u, rfl, 1, rfl, o, u, -1, zs, rows, rfl, s1h _ _ ho, pk.votes.same s1h, ok, rok, .inr rfl, fun G2 H18 sf pb => ?_⟩
    have sh2 := pairs_lay ok.names (aloneSum (-1) zs rows)
    refine ⟨_, _, DAt.dp _ (DAt.same sf _ (items_pairs f2 g2)), DAt.dp _ pb.data, sh2, sh2, _, rfl, ?_⟩
    rw [eqv_same _ sh2]
    refine iteF ?_
    have s1i := s1h.trans sf
    refine ⟨.ref p, rfl, p, o, u, zs, rows, rfl, pk.same s1i, fun D3 H19 sg n19 e19 => ⟨D3, _, rfl, e19, fun H20 L3 t3 sh _ _ _ f3 g3 => ?_⟩⟩
    have s1k := s1i.trans (sg.trans sh)
    refine ⟨.ref o, rfl, .ref u, rfl, o, u, zs, rows, rfl, s1k _ _ ho, pk.votes.same s1k, ok, rok, fun G3 H21 si pc => ?_⟩
    have sh3 := pairs_lay ok.names (letSum rows)
    refine ⟨_, _, DAt.dp _ (DAt.same si _ (items_pairs f3 g3)), DAt.dp _ pc.data, sh3, sh3, ?_⟩
    rw [eqv_same _ sh3]
    exact q _ (s1k.trans si)
end
def rowD (r : Bal × Int) : PyData := .tuple [r.1.data, .int r.2]
def rowsD (rows : List (Bal × Int)) : PyData := .tuple (rows.map rowD)
theorem RowsAt.data {H : Hp} {u : Addr} {rows : List (Bal × Int)} (h : RowsAt H u rows) : DAt H (rowsD rows) (.ref u) := by
  obtain ⟨as, h1, h2, h3⟩ := h
  refine ⟨u, _, rfl, h1, ?_⟩
  rw [← h3, List.map_map]
  exact DAll.of_map fun a ha => ⟨a.1, _, rfl, (h2 a ha).1, _, _, rfl, (h2 a ha).2.data, _, _, rfl, rfl, rfl⟩
theorem rows_lay {zs : List Str} {n : Nat} {rows : List (Bal × Int)} (ok : OptsOk zs) (h : RowsOk zs n rows) : Lay 8 (rowsD rows) := by
  refine (LayA.of (n := 7) fun d hd => ?_).tuple
  obtain ⟨r, hr, rfl⟩ := List.mem_map.mp hd
  obtain ⟨bok, _⟩ := h.2 r hr
  have th : Lay 5 (.tuple r.1.things) := (bok.okA ok.few ok.names).tuple.lays
  have b : Lay 6 r.1.data := (LayA.cons (n := 5) (r.1.wordOk.lays.mono (Nat.zero_le _)) (LayA.cons th .nil)).tuple
  exact (LayA.cons (n := 6) b (LayA.cons ⟨rfl, Nat.zero_le _⟩ .nil)).tuple
def FrL (a : Addr) (σ : L2.St) : Prop := ∃ y1 y2 y3 y4 y5 y6 y7 y8 y9 y10 y11 : Option V, σ = [some (.ref a), y1, y2, y3, y4, y5, y6, y7, y8, y9, y10, y11]
theorem made_same {H H' : Hp} {a dx : Addr} {o u : HO} (n1 : H a = none) (n2 : H dx = none) (b : But a (upd (upd H dx u) a o) H') : Same H H' := fun y x h => by
  have y1 : y ≠ a := ne_of_none h n1
  exact b y x y1 (by rw [upd_ne y1, upd_ne (ne_of_none h n2)]; exact h)
/-- a dict of one of the two kinds -/
def IsD (H : Hp) (d : Addr) : Prop := (∃ kvs, H d = some (.dK kvs) ∧ kvs.length < sizeLine) ∨ ∃ kvs, H d = some (.dT kvs)
theorem IsD.same {H H' : Hp} {d : Addr} (s : Same H H') (h : IsD H d) : IsD H' d := h.elim (fun ⟨k, e, l⟩ => .inl ⟨k, s _ _ e, l⟩) fun ⟨k, e⟩ => .inr ⟨k, s _ _ e⟩
theorem IsD.ne {H : Hp} {d b : Addr} {o : HO} (h : IsD H d) (e : H b = some o) (n1 : ∀ kvs, o ≠ .dK kvs) (n2 : ∀ kvs, o ≠ .dT kvs) : d ≠ b := fun q => by
  subst q
  rcases h with ⟨k, e', _⟩ | ⟨k, e'⟩
  · rw [e'] at e
    exact n1 k (Option.some.inj e).symm
  · rw [e'] at e
    exact n2 k (Option.some.inj e).symm
theorem IsD.off {H : Hp} {d b : Addr} {o : HO} (h : IsD H d) (n : d ≠ b) : IsD (upd H b o) d := h.elim (fun ⟨k, e, l⟩ => .inl ⟨k, by rw [upd_ne n]; exact e, l⟩) fun ⟨k, e⟩ => .inr ⟨k, by rw [upd_ne n]; exact e⟩
theorem IsD.neN {H : Hp} {d b : Addr} (h : IsD H d) (n : H b = none) : d ≠ b := fun q => by
  subst q
  rcases h with ⟨k, e, _⟩ | ⟨k, e⟩ <;> rw [n] at e <;> cases e
theorem tabS {zs : List Str} {f : Str → Int} (n : zs.length ≤ 6) : (tab zs f).length < sizeLine := by
  rw [tab_len]
  exact small1000 (by omega)
theorem odd_out {zs : List Str} (ok : ∀ z ∈ zs, NameOk z) : ("" : Str) ∉ zs ∧ ("A" : Str) ∉ zs := by
  refine ⟨fun h => ?_, fun h => ?_⟩
  · have h1 := (ok _ h).1
    exact absurd h1 (by decide +kernel)
  · have h2 := (ok _ h).2.2
    have m : 65 ∈ ("A" : Str).cps.toList := by decide +kernel
    have := h2 65 m
    omega
def seven : List Str := ["a", "b", "c", "d", "e", "f", "g"]
theorem seven_ok : ∀ z ∈ seven, PyData.strOk z = true := by decide +kernel
section
variable {P : Program} {w : World} {K : PySem.W.Frag} {mg : Str → Option Value} {base : Heap}
def sp_law (K : PySem.W.Frag) : Sp := fun vs H Q _ => ∃ (a : Addr) (ns : List Int), vs = [.ref a] ∧ SqL K H a (ns.map V.int) ∧ ns.length ≤ 63 ∧ ∀ H', Q (.bl true) H'
theorem ok_law (T : Txt K mg) : FnOk P w K mg base CX0 9 T.f_law T.fd_law ["_law_script"] (sp_law K) := by
  refine T.F_law.ok sc_law (fun vs H Q E h => ?_) (fun cdv A outer s H vs Q E hr h => ?_)
  · obtain ⟨a, ns, rfl, _⟩ := h
    rfl
  · obtain ⟨a, ns, rfl, hS, hlen, q⟩ := h
    refine ⟨_, (pss_cons
 (ps_for PassesOwn.never rfl (pi_list (pe_op op_cat (pe_lst (pa_cons (pe_call (ok_law_cell_at T) (hr.mono (by decide)) (by rfl) T.g_law_cell_at T.F_law_cell_at.kp T.b_law_cell_at .nil pass0 (pa_cons (pv 0) (pa_cons pe_int pa_nil))) pa_nil)) (pe_slice sl_list (pv 0) (po_some pe_int) (po_some pe_int)))) (pg_name (i := 1) sc_law.nd rfl (Or.inl rfl))
 (pss_cons
 (ps_set (i := 2) sc_law.nd rfl (Or.inl rfl) (pe_call (ok_law_well T) (hr.mono (by decide)) (by rfl) T.g_law_well T.F_law_well.kp T.b_law_well .nil pass0 (pa_cons (pv 1) pa_nil)))
 (pss_cons
 (ps_set (i := 3) sc_law.nd rfl (Or.inr rfl) (pe_call (ok_law_options T) (hr.mono (by decide)) (by rfl) T.g_law_options T.F_law_options.kp T.b_law_options .nil pass0 (pa_cons (pv 2) (pa_cons (pe_op op_add pe_int (pe_call (ok_law_draw T) (hr.mono (by decide)) (by rfl) T.g_law_draw T.F_law_draw.kp T.b_law_draw .nil pass0 (pa_cons (pv 2) (pa_cons pe_int pa_nil)))) pa_nil))))
 (pss_cons
 (ps_set (i := 4) sc_law.nd rfl (Or.inl rfl) (pe_call (ok_law_rows T) (hr.mono (by decide)) (by rfl) T.g_law_rows T.F_law_rows.kp T.b_law_rows .nil pass0 (pa_cons (pv 2) (pa_cons (pv 3) (pa_cons pe_int pa_nil)))))
 (pss_cons
 (ps_set (i := 5) sc_law.nd rfl (Or.inl rfl) (pc_pos T.mk_Poll (ok_Poll_init T) (hr.mono (by decide)) (by rfl) T.k_Poll T.kb_Poll_init_3 (fun σ => atN σ) (pa_cons (pv 3) (pa_cons (pv 4) pa_nil))))
 (pss_cons
 (ps_for PassesOwn.never rfl (pi_range1 rfl T.z_range (pa_cons pe_int pa_nil)) (pg_name (i := 6) sc_law.nd rfl (Or.inl rfl))
 (pss_cons
 (ps_if (pt_not (pt_val (pe_call (ok_law_right T) (hr.mono (by decide)) (by rfl) T.g_law_right T.F_law_right.kp T.b_law_right .nil pass0 (pa_cons (pv 5) (pa_cons (pv 3) (pa_cons (pv 4) pa_nil))))))
 (pss_one
 (ps_ret pe_bl))
 pss_nil)
 (pss_one
 (ps_for PassesOwn.never rfl (pi_list (pe_lst (pa_cons (pe_call (ok_margins T) (hr.mono (by decide)) (by rfl) T.g_margins T.F_margins.kp T.b_margins .nil pass0 (pa_cons (pv 5) pa_nil)) (pa_cons (pe_call (ok_points T) (hr.mono (by decide)) (by rfl) T.g_points T.F_points.kp T.b_points .nil pass0 (pa_cons (pv 5) pa_nil)) (pa_cons (pe_call (ok_firsts T) (hr.mono (by decide)) (by rfl) T.g_firsts T.F_firsts.kp T.b_firsts .nil pass0 (pa_cons (pv 5) pa_nil)) (pa_cons (pe_call (ok_lasts T) (hr.mono (by decide)) (by rfl) T.g_lasts T.F_lasts.kp T.b_lasts .nil pass0 (pa_cons (pv 5) pa_nil)) (pa_cons (pe_call (ok_lets T) (hr.mono (by decide)) (by rfl) T.g_lets T.F_lets.kp T.b_lets .nil pass0 (pa_cons (pv 5) pa_nil)) pa_nil))))))) (pg_name (i := 7) sc_law.nd rfl (Or.inl rfl))
 (pss_cons
 (ps_spoil (Nat.lt_of_succ_lt (room3 hr)) (pv 7) pe_str pe_int (by rfl))
 (pss_one
 (ps_expr (pe_clearS (pv 7)))))))))
 (pss_cons
 (ps_set (i := 8) sc_law.nd rfl (Or.inl rfl) (pe_call (ok_law_one T) (hr.mono (by decide)) (by rfl) T.g_law_one T.F_law_one.kp T.b_law_one .nil pass0 (pa_cons (pv 2) (pa_cons (pv 3) pa_nil))))
 (pss_cons
 (ps_setLc (i := 9) (own := [("_law_word", 11)]) (g := gName 11) rfl sc_law.nd rfl rfl (sw_true rfl rfl rfl (by decide +kernel)) (pi_tup (pe_tup (pa_cons pe_str (pa_cons pe_str (pa_cons pe_str (pa_cons pe_str (pa_cons pe_str (pa_cons pe_str (pa_cons pe_str pa_nil))))))))) (blkOk_by (own := [("_law_word", 11)]) (N := ["_law_script", "_law_cell", "_law_well_here", "_law_drawn", "_law_rows_here", "_law_poll", "_law_turn", "_law_found", "_law_first", "_law_free", "_law_odd", "_law_word"]) (sc := (defScope s_law)) (by decide +kernel)) (fun _ _ _ _ _ => pg_name (i := 11) sc_law.nd rfl (Or.inl rfl)) (fun s0 H0 C0 cl0 fp0 => (by have h := ((pts_one (pt_cmpR op_notIn_seq (pv 11) (pv 3) rfl)) : PTs ((cxOf CX0 P w K mg base ["_law_script", "_law_cell", "_law_well_here", "_law_drawn", "_law_rows_here", "_law_poll", "_law_turn", "_law_found", "_law_first", "_law_free", "_law_odd", "_law_word"] "law" (defScope s_law) T.f_law cdv A outer s H E).nox.blk s0 H0 (lcScope (rootE ((blkOf ((defBody s_law).getD 0 (.Pass ⟨0, 0, 0, 0⟩)) 0).getD 6 (.Pass ⟨0, 0, 0, 0⟩)))) (compEnvC (lcScope (rootE ((blkOf ((defBody s_law).getD 0 (.Pass ⟨0, 0, 0, 0⟩)) 0).getD 6 (.Pass ⟨0, 0, 0, 0⟩)))) cl0 C0 (cxOf CX0 P w K mg base ["_law_script", "_law_cell", "_law_well_here", "_law_drawn", "_law_rows_here", "_law_poll", "_law_turn", "_law_found", "_law_first", "_law_free", "_law_odd", "_law_word"] "law" (defScope s_law) T.f_law cdv A outer s H E).nox.env) fp0) (lcIfs (rootE ((blkOf ((defBody s_law).getD 0 (.Pass ⟨0, 0, 0, 0⟩)) 0).getD 6 (.Pass ⟨0, 0, 0, 0⟩)))) _); dsimp only [Cx.blk, Cx.tr, Cx.suite, Cx.nox, Cx.wish, cxOf] at h; exact h)) (fun _ _ _ _ _ => (pv 11)))
 (pss_cons
 (ps_set (i := 10) sc_law.nd rfl (Or.inl rfl) (pe_call (ok_law_one T) (hr.mono (by decide)) (by rfl) T.g_law_one T.F_law_one.kp T.b_law_one .nil pass0 (pa_cons (pv 2) (pa_cons (pe_op op_cat (pv 9) (pe_lst (pa_cons pe_str (pa_cons pe_str (pa_cons (pe_lst (pa_cons pe_str pa_nil)) pa_nil))))) pa_nil))))
 (pss_cons
 (ps_if (PW.pt (pw_or (pt_cmpR (op_neD hr.units) (pe_call (ok_law_refused T) (hr.mono (by decide)) (by rfl) T.g_law_refused T.F_law_refused.kp T.b_law_refused .nil pass0 (pa_cons (pv 5) (pa_cons (pv 10) (pa_cons (pv 8) pa_nil)))) (pe_tup (pa_cons pe_str (pa_cons (pv 10) pa_nil))) (nomark _)) (pw_or1 (pt_cmpR (op_neD hr.units) (pe_call (ok_law_refused T) (hr.mono (by decide)) (by rfl) T.g_law_refused T.F_law_refused.kp T.b_law_refused .nil pass0 (pa_cons (pv 5) (pa_cons (pv 8) (pa_cons (pv 10) pa_nil)))) (pe_tup (pa_cons pe_str (pa_cons (pv 10) pa_nil))) (nomark _)))))
 (pss_one
 (ps_ret pe_bl))
 pss_nil)
 (pss_cons
 (ps_if (PW.pt (pw_or (pt_cmpR (op_neD hr.units) (pe_call (ok_law_refused T) (hr.mono (by decide)) (by rfl) T.g_law_refused T.F_law_refused.kp T.b_law_refused .nil pass0 (pa_cons (pv 5) (pa_cons (pv 10) (pa_cons pe_non pa_nil)))) (pe_tup (pa_cons pe_str (pa_cons (pv 10) pa_nil))) (nomark _)) (pw_or1 (pt_cmpR (op_neD hr.units) (pe_call (ok_law_refused T) (hr.mono (by decide)) (by rfl) T.g_law_refused T.F_law_refused.kp T.b_law_refused .nil pass0 (pa_cons (pv 5) (pa_cons pe_non (pa_cons (pv 10) pa_nil)))) (pe_tup (pa_cons pe_str (pa_cons pe_non pa_nil))) (nomark _)))))
 (pss_one
 (ps_ret pe_bl))
 pss_nil)
 (pss_one
 (ps_if (pt_cmpR (op_neD hr.units) (pe_tup (pa_cons (pe_fld (pv 5) rfl) (pa_cons (pe_fld (pv 5) rfl) pa_nil))) (pe_tup (pa_cons (pv 3) (pa_cons (pv 4) pa_nil))) (nomark _))
 (pss_one
 (ps_ret pe_bl))
 pss_nil)))))))))))))
 (pss_one
 (ps_ret pe_bl))), ?_⟩
    refine ⟨.ref a, rfl, a, ns, rfl, hS, hlen, fun z => ?_⟩
    refine ⟨line_of (show 1 ≤ 1000 by decide), fun l1 n1 => ?_⟩
    have s1 : Same H (upd H l1 (.lst [V.int z])) := same_upd n1
    obtain ⟨ms, em, lm⟩ := cut_ints ns (some 1) (some 10)
    refine ⟨.ref a, rfl, 1, rfl, 10, rfl, a, _, rfl, s1.seq hS, fun l2 n2 => ?_⟩
    rw [em]
    have hl12 : l1 ≠ l2 := fun e => by rw [← e, upd_same] at n2; cases n2
    refine ⟨l1, l2, _, _, rfl, rfl, (by rw [upd_ne hl12, upd_same]), upd_same, ?_, fun l3 n3 => ?_⟩
    · rw [List.length_map]
      exact line_of (show 1 + ms.length ≤ 1000 by omega)
    have e3 : ([V.int z] ++ ms.map V.int) = (z :: ms).map V.int := rfl
    rw [e3]
    generalize hH0 : upd (upd (upd H l1 (.lst [V.int z])) l2 (.lst (ms.map V.int))) l3 (.lst ((z :: ms).map V.int)) = H0
    have h3 : H0 l3 = some (.lst ((z :: ms).map V.int)) := by rw [← hH0, upd_same]
    refine ⟨l3, rfl, ⟨_, .of h3⟩, for_list (K := K) (a := l3) (xs := (z :: ms).map V.int) (fun _ σ H' => FrL a σ ∧ Same H0 H') ⟨⟨none, none, none, none, none, none, none, none, none, none, none, rfl⟩, Same.refl _⟩ (fun _ _ _ _ h => .of (h.2 _ _ h3)) ?_ ?_⟩
    · rintro i x σ H1 hi ⟨⟨y1, y2, y3, y4, y5, y6, y7, y8, y9, y10, y11, rfl⟩, s2⟩
      obtain ⟨nn, _, rfl⟩ := item_map hi
      refine ⟨.int nn, rfl, nn, rfl, fun p x H2 np s3 hp hx => ?_⟩
      have np0 : H0 p = none := s2.free np
      have s4 : Same H0 H2 := s2.trans s3
      refine ⟨.ref p, rfl, .ref p, rfl, p, 6, x, 0, rfl, hp, hx, by decide, by decide, size_ok (by decide) (by decide), fun sz x1 b0 b1 w1 => ?_⟩
      have o1 : On p H2 x1 (upd H2 p (.lst x1)) := (On.start hp).put
      generalize upd H2 p (HO.lst x1) = H3 at o1 ⊢
      refine ⟨1, sz, rfl, rfl, p, 1 + sz, x1, _, rfl, o1.2, w1, by omega, by omega, by omega, fun t zs x2 H4 lz nd okz but nt ht hp4 w2 => ?_⟩
      have o2 : On p H2 x2 H4 := o1.trans ⟨But.hid but, hp4⟩
      have n6 : zs.length ≤ 6 := by omega
      have hne : zs ≠ [] := fun e => by rw [e] at lz; simp at lz; omega
      have ok : OptsOk zs := ⟨hne, n6, nd, okz⟩
      refine ⟨.ref p, rfl, .ref t, rfl, p, t, 8, zs, x2, _, rfl, hp4, ht, n6, nd, okz, by decide, by decide, w2, by omega, fun u rows x3 H5 hrow rok but2 nu hp5 w3 => ?_⟩
      have o3 : On p H2 x3 H5 := o2.trans ⟨But.hid but2, hp5⟩
      have l8 : rows.length ≤ 8 := rok.1
      have rok30 : RowsOk zs 30 rows := ⟨by omega, rok.2⟩
      have ht5 : H5 t = some (.tup (zs.map V.str)) := but2 _ _ (fun e => by rw [e, hp4] at ht; cases ht) ht
      refine ⟨.ref t, rfl, .ref u, rfl, rfl, rfl, fun pp dx n1 n2 n3 => ?_⟩
      have s5m : Same H5 (upd (upd H5 dx (.own pp)) pp (.ins T.C_Poll dx [])) := made_same n1 n2 (But.refl _ _)
      refine ⟨pp, dx, t, u, zs, rows, rfl, upd_same, s5m _ _ ht5, hrow.same s5m, ok, rok30, fun H6 b6 e6 => ?_⟩
      have s6 : Same H5 H6 := made_same n1 n2 b6
      have pk6 : PollOk T.C_Poll H6 pp t u zs rows := ⟨⟨dx, e6⟩, s6 _ _ ht5, hrow.same s6, ok, rok30⟩
      have hp6 := s6 _ _ hp5
      have shp : ∀ {d : PyData}, Lay 1 d → SeqAt.shaped (.tuple [.str "none", d]) = true := fun {d} l => ((LayA.cons (n := 1) ⟨by decide +kernel, by decide +kernel⟩ (LayA.cons l .nil)).tuple).shaped (by decide)
      refine ⟨rfl, 2, rfl, by decide, by decide, for_range (fun i σ H' => ∃ (z6 z7 z8 z9 z10 z11 : Option V), σ = [some (.ref a), some (.int nn), some (.ref p), some (.ref t), some (.ref u), some (.ref pp), z6, z7, z8, z9, z10, z11] ∧ Same H6 H')
        ⟨_, _, _, _, _, _, rfl, Same.refl _⟩ ?_ ?_⟩
      · rintro j σ H7 hj ⟨z6, z7, z8, z9, z10, z11, rfl, s7⟩
        have pk7 := pk6.same s7
        refine ⟨.ref pp, rfl, .ref t, rfl, .ref u, rfl, pp, t, u, zs, rows, rfl, pk7, fun H8 s8 => ⟨_, rfl, iteF ?_⟩⟩
        refine ⟨.ref pp, rfl, pp, t, u, zs, rows, rfl, pk7.same s8, fun D1 Ha sa na ea => ?_⟩
        refine ⟨.ref pp, rfl, pp, t, u, zs, rows, rfl, (pk7.same s8).same sa, fun D2 Hb sb nb eb => ?_⟩
        refine ⟨.ref pp, rfl, pp, t, u, zs, rows, rfl, ((pk7.same s8).same sa).same sb, fun D3 Hc sc nc ec => ?_⟩
        refine ⟨.ref pp, rfl, pp, t, u, zs, rows, rfl, (((pk7.same s8).same sa).same sb).same sc, fun D4 Hd sd nd' ed => ?_⟩
        refine ⟨.ref pp, rfl, pp, t, u, zs, rows, rfl, ((((pk7.same s8).same sa).same sb).same sc).same sd, fun D5 He se ne' ee => ?_⟩
        refine ⟨line_of (show 5 ≤ 1000 by decide), fun L nL => ?_⟩
        have sL := same_upd (o := HO.lst [V.ref D1, V.ref D2, V.ref D3, V.ref D4, V.ref D5]) nL
        have eL : (upd He L (.lst [V.ref D1, V.ref D2, V.ref D3, V.ref D4, V.ref D5])) L = some (.lst ([D1, D2, D3, D4, D5].map V.ref)) := upd_same
        have i1 : IsD Ha D1 := .inr ⟨_, ea⟩
        have i2 : IsD Hb D2 := .inl ⟨_, eb, tabS n6⟩
        have i3 : IsD Hc D3 := .inl ⟨_, ec, tabS n6⟩
        have i4 : IsD Hd D4 := .inl ⟨_, ed, tabS n6⟩
        have i5 : IsD He D5 := .inl ⟨_, ee, tabS n6⟩
        have i1b := i1.same sb
        have i1c := i1b.same sc
        have i1d := i1c.same sd
        have i2c := i2.same sc
        have i2d := i2c.same sd
        have i3d := i3.same sd
        have ndp : [D1, D2, D3, D4, D5].Nodup := by
          have n12 := i1.neN nb
          have n13 := i1b.neN nc
          have n14 := i1c.neN nd'
          have n15 := i1d.neN ne'
          have n23 := i2.neN nc
          have n24 := i2c.neN nd'
          have n25 := i2d.neN ne'
          have n34 := i3.neN nd'
          have n35 := i3d.neN ne'
          have n45 := i4.neN ne'
          simp [n12, n13, n14, n15, n23, n24, n25, n34, n35, n45]
        have all : ∀ d ∈ [D1, D2, D3, D4, D5], IsD (upd He L (.lst [V.ref D1, V.ref D2, V.ref D3, V.ref D4, V.ref D5])) d ∧ H8 d = none := fun d hd => by
          simp only [List.mem_cons, List.not_mem_nil, or_false] at hd
          rcases hd with rfl | rfl | rfl | rfl | rfl
          · exact ⟨((i1d.same se).same sL), na⟩
          · exact ⟨((i2d.same se).same sL), sa.free nb⟩
          · exact ⟨((i3d.same se).same sL), (sa.trans sb).free nc⟩
          · exact ⟨((i4.same se).same sL), ((sa.trans sb).trans sc).free nd'⟩
          · exact ⟨i5.same sL, (((sa.trans sb).trans sc).trans sd).free ne'⟩
        have s8L : Same H8 (upd He L (.lst [V.ref D1, V.ref D2, V.ref D3, V.ref D4, V.ref D5])) := sa.trans (sb.trans (sc.trans (sd.trans (se.trans sL))))
        generalize [D1, D2, D3, D4, D5] = Ds at eL ndp all
        generalize upd He L (.lst [V.ref D1, V.ref D2, V.ref D3, V.ref D4, V.ref D5]) = Hf at eL all s8L ⊢
        refine ⟨L, rfl, ⟨_, .of eL⟩, for_list (K := K) (a := L) (xs := Ds.map V.ref) (fun k σ H' => ∃ (z7 : Option V), σ = [some (.ref a), some (.int nn), some (.ref p), some (.ref t), some (.ref u), some (.ref pp), some (.int (0 + (j : Nat))), z7, z8, z9, z10, z11] ∧ Same H8 H' ∧ H' L = some (.lst (Ds.map V.ref)) ∧ ∀ m d, k ≤ m → Ds[m]? = some d → IsD H' d)
          ⟨_, rfl, s8L, eL, fun m d _ hm => (all d (List.mem_of_getElem? hm)).1⟩ (fun _ _ _ _ h => by obtain ⟨_, _, _, h, _⟩ := h; exact .of h) ?_ ?_⟩
        · rintro k x σ Hg hk ⟨z7, rfl, sg, eg, dg⟩
          obtain ⟨d, hd, rfl⟩ : ∃ d, Ds[k]? = some d ∧ x = V.ref d := by
            rw [List.getElem?_map] at hk
            cases e : Ds[k]? with
            | none => rw [e] at hk; cases hk
            | some d => rw [e] at hk; exact ⟨d, rfl, (Option.some.inj hk).symm⟩
          have id' := dg k d (Nat.le_refl _) hd
          have nd8 := (all d (List.mem_of_getElem? hd)).2
          have dL := id'.ne eg (fun _ h => by cases h) (fun _ h => by cases h)
          refine ⟨.ref d, rfl, d, "a", rfl, rfl, id', ?_⟩
          refine ⟨.ref d, rfl, d, rfl, upd_same, _, rfl, same_mut (same_mut sg nd8) nd8, by rw [upd_ne dL.symm, upd_ne dL.symm]; exact eg, fun m b hm hb => ?_⟩
          have bd : b ≠ d := fun e => by
            subst e
            have l1 := (List.getElem?_eq_some_iff.mp hd)
            have l2 := (List.getElem?_eq_some_iff.mp hb)
            obtain ⟨h1, e1⟩ := l1
            obtain ⟨h2, e2⟩ := l2
            exact (List.pairwise_iff_getElem.mp ndp k m h1 h2 (by omega)) (e1.trans e2.symm)
          exact ((dg m b (by omega) hb).off bd).off bd
        · rintro σ Hg ⟨z7, rfl, sg, _, _⟩
          exact ⟨_, _, _, _, _, _, rfl, s7.trans (s8.trans sg)⟩
      · rintro σ H7 ⟨z6, z7, z8, z9, z10, z11, rfl, s7⟩
        have hp7 := s7 _ _ hp6
        have pk7 := pk6.same s7
        have o7 : On p H2 x3 H7 := (o3.same s6).same s7
        have pkG : PollOk T.C_Poll (hide p H7) pp t u zs rows := by
          obtain ⟨⟨dy, h1⟩, h2, h3, _, _⟩ := pk7
          exact ⟨⟨dy, by rw [hide_ne (fun e => by rw [e, hp7] at h1; cases h1)]; exact h1⟩, hid_tup hp7 h2, h3.keep fun _ _ e => hid_tup hp7 e, ok, rok30⟩
        have l0 : (zs.map V.str) ≠ [] := fun e => hne (List.map_eq_nil_iff.mp e)
        refine ⟨.ref p, rfl, .ref t, rfl, p, t, x3, _, _, rfl, hp7, .inr pkG.opts, l0, by rw [List.length_map]; omega, w3, by omega, fun fi fv x4 hfv w4 => ?_⟩
        obtain ⟨fz, hfz, rfl⟩ := item_map hfv
        have mfz := List.mem_of_getElem? hfz
        have o8 : On p H2 x4 (upd H7 p (.lst x4)) := o7.put
        have g8 : Same (hide p H7) (hide p (upd H7 p (.lst x4))) := by rw [hide_upd]; exact Same.refl _
        generalize upd H7 p (.lst x4) = H8 at o8 g8 ⊢
        -- the names that stand free
        refine ⟨line_of (show 7 ≤ 1000 by decide), fun t7 n7 => ?_⟩
        have s9 := same_upd (o := HO.tup (seven.map V.str)) n7
        have e7 : (upd H8 t7 (.tup (seven.map V.str))) t7 = some (.tup (seven.map V.str)) := upd_same
        have o9 := o8.same s9
        have g9 := g8.trans (hid_same s9)
        refine ⟨t7, rfl, ⟨_, .of e7⟩, fun F nF => ?_⟩
        refine lc_tup (K := K) (a := t7) (xs := seven.map V.str) (fun i H' => Same (upd H8 t7 (.tup (seven.map V.str))) H' ∧ H' F = some (.lst (((seven.take i).filter fun w => decide (w ∉ zs)).map V.str))) ⟨same_upd nF, upd_same⟩ (fun _ _ _ h => .of (h.1 _ _ e7)) ?_ ?_
        · rintro i x H10 hi ⟨s10, e10⟩
          obtain ⟨w, hw, rfl⟩ := item_map hi
          have ft := filter_takeA (f := fun w => decide (w ∉ zs)) hw
          refine ⟨rfl, .str w, rfl, .ref t, rfl, t, _, rfl, .inr (.of (s10 _ _ ((hide_sub p _) _ _ (g9 _ _ pkG.opts)))), rfl, flat_strs zs, _, rfl, ?_⟩
          rw [inV_str]
          by_cases m : w ∈ zs
          · rw [decide_eq_true m]
            rw [if_neg (by rw [decide_eq_false fun h => h m]; exact Bool.false_ne_true), List.append_nil] at ft
            refine iteF ⟨s10, ?_⟩
            rw [ft]
            exact e10
          · rw [decide_eq_false m]
            rw [if_pos (decide_eq_true m)] at ft
            refine iteT ⟨.str w, rfl, _, e10, ?_, same_mut s10 nF, ?_⟩
            · rw [List.length_map]
              have := List.length_filter_le (fun w => decide (w ∉ zs)) (seven.take i)
              rw [List.length_take] at this
              have s7 : seven.length = 7 := rfl
              exact small1000 (by omega)
            · rw [upd_same, ft, List.map_append]
              rfl
        rintro H10 ⟨s10, e10⟩
        rw [List.length_map, List.take_length] at e10
        have o10 := o9.same s10
        have g10 := g9.trans (hid_same s10)
        have lF : (seven.filter fun w => decide (w ∉ zs)).length ≤ 7 := List.length_filter_le _ _
        refine ⟨.ref p, rfl, .ref F, rfl, line_of (show 1 ≤ 1000 by decide), fun la nla => ?_⟩
        have s11 := same_upd (o := HO.lst [V.str "a"]) nla
        have ela : (upd H10 la (.lst [V.str "a"])) la = some (.lst [V.str "a"]) := upd_same
        have o11 := o10.same s11
        have lap : la ≠ p := fun e => by rw [e, o10.2] at nla; cases nla
        have g11 := g10.trans (hid_same s11)
        have e11 := s11 _ _ e10
        generalize upd H10 la (.lst [V.str "a"]) = H11 at ela o11 g11 e11 ⊢
        refine ⟨line_of (show 3 ≤ 1000 by decide), fun l3' n3' => ?_⟩
        have s12 := same_upd (o := HO.lst [V.str "", V.str "A", V.ref la]) n3'
        have e12 : (upd H11 l3' (.lst [V.str "", V.str "A", V.ref la])) l3' = some (.lst [V.str "", V.str "A", V.ref la]) := upd_same
        have o12 := o11.same s12
        have g12 := g11.trans (hid_same s12)
        have eF12 := s12 _ _ e11
        have ela12 := s12 _ _ ela
        generalize upd H11 l3' (.lst [V.str "", V.str "A", V.ref la]) = H12 at e12 o12 g12 eF12 ela12 ⊢
        refine ⟨F, l3', _, _, rfl, rfl, eF12, e12, by rw [List.length_map]; exact line_of (by show _ + 3 ≤ 1000; omega), fun l4 n4 => ?_⟩
        have s13 := same_upd (o := HO.lst ((seven.filter fun w => decide (w ∉ zs)).map V.str ++ [V.str "", V.str "A", V.ref la])) n4
        have o13 := o12.same s13
        have g13 := g12.trans (hid_same s13)
        have l4p : l4 ≠ p := fun e => by rw [e, o12.2] at n4; cases n4
        have e13 : hide p (upd H12 l4 (.lst ((seven.filter fun w => decide (w ∉ zs)).map V.str ++ [V.str "", V.str "A", V.ref la]))) l4 = some (.lst ((seven.filter fun w => decide (w ∉ zs)).map V.str ++ [V.str "", V.str "A", V.ref la])) := by rw [hide_ne l4p]; exact upd_same
        have ela13 : hide p (upd H12 l4 (.lst ((seven.filter fun w => decide (w ∉ zs)).map V.str ++ [V.str "", V.str "A", V.ref la]))) la = some (.lst [V.str "a"]) := by rw [hide_ne lap]; exact s13 _ _ ela12
        generalize upd H12 l4 (.lst ((seven.filter fun w => decide (w ∉ zs)).map V.str ++ [V.str "", V.str "A", V.ref la])) = H13 at o13 g13 e13 ela13 ⊢
        refine ⟨p, l4, x4, _, _, rfl, o13.2, .inl e13, by simp, by rw [List.length_append, List.length_map]; show _ + 3 ≤ 1000; omega, w4, by omega, fun oi ov x5 hov w5 => ?_⟩
        have o14 : On p H2 x5 (upd H13 p (.lst x5)) := o13.put
        have g14 : Same (hide p H13) (hide p (upd H13 p (.lst x5))) := by rw [hide_upd]; exact Same.refl _
        have dodd : ∃ d, DAt (hide p H13) d ov ∧ optD zs d = false ∧ Lay 1 d := by
          obtain ⟨x1, x2⟩ := odd_out okz
          rcases List.mem_append.mp (List.mem_of_getElem? hov) with hm | hm
          · obtain ⟨w, hw, rfl⟩ := List.mem_map.mp hm
            obtain ⟨hw, out⟩ := List.mem_filter.mp hw
            exact ⟨.str w, rfl, decide_eq_false (of_decide_eq_true out), ⟨by rw [PyData.canLay0]; exact seven_ok w hw, Nat.zero_le _⟩⟩
          · simp only [List.mem_cons, List.not_mem_nil, or_false] at hm
            rcases hm with rfl | rfl | rfl
            · exact ⟨.str "", rfl, decide_eq_false x1, ⟨by decide +kernel, Nat.zero_le _⟩⟩
            · exact ⟨.str "A", rfl, decide_eq_false x2, ⟨by decide +kernel, Nat.zero_le _⟩⟩
            · exact ⟨.list [.str "a"], ⟨la, _, rfl, ela13, da1 rfl da0⟩, rfl, ⟨by decide +kernel, by decide +kernel⟩⟩
        obtain ⟨d, hd, off, ld⟩ := dodd
        have pkH := pkG.same (g13.trans g14)
        have hd' := DAt.same g14 _ hd
        generalize upd H13 p (.lst x5) = H14 at o14 pkH hd' ⊢
        clear g14 g13 e13 ela13 o13
        have sub := hide_sub p H14
        have pk14 := pkH.same sub
        have d14 := DAt.same sub _ hd'
        have onT : optD zs (.str fz) = true := decide_eq_true mfz
        have shd := shp ld
        have lyN : Lay 1 PyData.none := ⟨rfl, Nat.zero_le _⟩
        -- the four that are refused
        refine ⟨.ref pp, rfl, ov, rfl, .str fz, rfl, pp, t, u, zs, rows, ov, .str fz, d, .str fz, rfl, pk14, d14, rfl, .inl ⟨off, fun r1 H15 s15 e15 => ?_⟩⟩
        refine ⟨ov, rfl, line_of (show 2 ≤ 1000 by decide), fun r2 n2' => ?_⟩
        have sq := same_upd (o := HO.tup [V.str "none", ov]) n2'
        refine ⟨.tuple [.str "none", d], .tuple [.str "none", d], DAt.dp (.tuple _) ⟨r1, _, rfl, sq _ _ e15, da1 rfl (da1 (DAt.same (s15.trans sq) _ d14) da0)⟩, DAt.dp (.tuple _) ⟨r2, _, rfl, upd_same, da1 rfl (da1 (DAt.same (s15.trans sq) _ d14) da0)⟩, shd, shd, _, rfl, ?_⟩
        rw [eqv_same _ shd]
        refine iteF ?_
        have sA := s15.trans sq
        generalize upd H15 r2 (.tup [V.str "none", ov]) = HA at sA ⊢
        clear sq e15 s15
        refine ⟨.ref pp, rfl, .str fz, rfl, ov, rfl, pp, t, u, zs, rows, .str fz, ov, .str fz, d, rfl, pk14.same sA, rfl, DAt.same sA _ d14, .inr ⟨onT, off, fun r1 H15 s15 e15 => ?_⟩⟩
        refine ⟨ov, rfl, line_of (show 2 ≤ 1000 by decide), fun r2 n2' => ?_⟩
        have sq := same_upd (o := HO.tup [V.str "none", ov]) n2'
        have sB := sA.trans (s15.trans sq)
        refine ⟨.tuple [.str "none", d], .tuple [.str "none", d], DAt.dp (.tuple _) ⟨r1, _, rfl, sq _ _ e15, da1 rfl (da1 (DAt.same sB _ d14) da0)⟩, DAt.dp (.tuple _) ⟨r2, _, rfl, upd_same, da1 rfl (da1 (DAt.same sB _ d14) da0)⟩, shd, shd, _, rfl, ?_⟩
        rw [eqv_same _ shd]
        refine iteF ?_
        generalize upd H15 r2 (.tup [V.str "none", ov]) = HB at sB ⊢
        clear sq e15 s15
        refine ⟨.ref pp, rfl, ov, rfl, pp, t, u, zs, rows, ov, .non, d, .none, rfl, pk14.same sB, DAt.same sB _ d14, rfl, .inl ⟨off, fun r1 H15 s15 e15 => ?_⟩⟩
        refine ⟨ov, rfl, line_of (show 2 ≤ 1000 by decide), fun r2 n2' => ?_⟩
        have sq := same_upd (o := HO.tup [V.str "none", ov]) n2'
        have sC := sB.trans (s15.trans sq)
        refine ⟨.tuple [.str "none", d], .tuple [.str "none", d], DAt.dp (.tuple _) ⟨r1, _, rfl, sq _ _ e15, da1 rfl (da1 (DAt.same sC _ d14) da0)⟩, DAt.dp (.tuple _) ⟨r2, _, rfl, upd_same, da1 rfl (da1 (DAt.same sC _ d14) da0)⟩, shd, shd, _, rfl, ?_⟩
        rw [eqv_same _ shd]
        refine iteF ?_
        generalize upd H15 r2 (.tup [V.str "none", ov]) = HC at sC ⊢
        clear sq e15 s15
        have shn := shp lyN
        refine ⟨.ref pp, rfl, ov, rfl, pp, t, u, zs, rows, .non, ov, .none, d, rfl, pk14.same sC, rfl, DAt.same sC _ d14, .inl ⟨rfl, fun r1 H15 s15 e15 => ?_⟩⟩
        refine ⟨line_of (show 2 ≤ 1000 by decide), fun r2 n2' => ?_⟩
        have sq := same_upd (o := HO.tup [V.str "none", V.non]) n2'
        have sD := sC.trans (s15.trans sq)
        refine ⟨.tuple [.str "none", .none], .tuple [.str "none", .none], DAt.dp (.tuple _) ⟨r1, _, rfl, sq _ _ e15, da1 rfl (da1 rfl da0)⟩, DAt.dp (.tuple _) ⟨r2, _, rfl, upd_same, da1 rfl (da1 rfl da0)⟩, shn, shn, _, rfl, ?_⟩
        rw [eqv_same _ shn]
        refine iteF ?_
        generalize upd H15 r2 (.tup [V.str "none", V.non]) = HD at sD ⊢
        clear sq e15 s15
        have pkD := pk14.same sD
        obtain ⟨dz, hppD⟩ := pkD.poll
        have hTup : ∀ {Hc : Hp} {r : Addr}, Same HD Hc → Hc r = some (.tup [V.ref t, V.ref u]) → DAt Hc (.tuple [.tuple (zs.map PyData.str), rowsD rows]) (.ref r) := fun s e => ⟨_, _, rfl, e, da1 ⟨t, _, rfl, s _ _ pkD.opts, DAll.strs zs⟩ (da1 (pkD.votes.same s).data da0)⟩
        have shr : SeqAt.shaped (.tuple [.tuple (zs.map PyData.str), rowsD rows]) = true := by
          have l1 : Lay 8 (.tuple (zs.map PyData.str)) := ((LayA.of (n := 0) fun d hd => by
            obtain ⟨z, hz, rfl⟩ := List.mem_map.mp hd
            exact (ok_small (okz z hz)).lays).tuple).mono (by decide)
          exact ((LayA.cons l1 (LayA.cons (rows_lay ok rok30) .nil)).tuple).shaped (by decide)
        refine ⟨.ref pp, rfl, pp, T.C_Poll, dz, _, .ref t, rfl, hppD, T.cl_Poll, T.n_Poll_options, pollF_options t u, .ref pp, rfl, pp, T.C_Poll, dz, _, .ref u, rfl, hppD, T.cl_Poll, T.n_Poll_voices, pollF_voices t u, line_of (show 2 ≤ 1000 by decide), fun r1 nr1 => ?_⟩
        have sE := same_upd (o := HO.tup [V.ref t, V.ref u]) nr1
        have er1 : (upd HD r1 (.tup [V.ref t, V.ref u])) r1 = some (.tup [V.ref t, V.ref u]) := upd_same
        generalize upd HD r1 (.tup [V.ref t, V.ref u]) = HE at sE er1 ⊢
        refine ⟨.ref t, rfl, .ref u, rfl, line_of (show 2 ≤ 1000 by decide), fun r2 nr2 => ?_⟩
        have sF := same_upd (o := HO.tup [V.ref t, V.ref u]) nr2
        refine ⟨_, _, DAt.dp _ (hTup (sE.trans sF) (sF _ _ er1)), DAt.dp _ (hTup (sE.trans sF) upd_same), shr, shr, _, rfl, ?_⟩
        rw [eqv_same _ shr]
        refine iteF ?_
        have oZ := o14.same (sD.trans (sE.trans sF))
        exact ⟨⟨_, _, _, _, _, _, _, _, _, _, _, rfl⟩, But.ext s4 np0 (hid_but oZ.1)⟩
    · rintro σ H1 ⟨_, _⟩
      exact q _
end
theorem all_mk {l : PySem.W.OpenLaw} {w : World} {K : PySem.W.Frag} {h : Heap} {mg : Str → Option Value} {fa : Addr} (X : K.In h) (G : h.Ns mainGlobals mg) (hfa : mg "law" = some (.ref fa))
    {f_PollError_init : Addr} {od_PollError_init an_PollError_init : Option Addr} {sl_PollError_init : Array (Option Value)} {oc_PollError_init kV_PollError_init dc_PollError_init pm_PollError_init cd_PollError_init ct_PollError_init : Value}
    {T_PollError_init : Addr} {to_PollError_init : Value} {td_PollError_init : Option Addr} {tn_PollError_init : Nat} {tsl_PollError_init : Array (Option Value)} {tk0_PollError_init : Tok}
    (lt_PollError_init : K.lookup T_PollError_init = some ⟨to_PollError_init, td_PollError_init, .seq #[.str "" tk0_PollError_init] tn_PollError_init, tsl_PollError_init⟩)
    (l_PollError_init : K.lookup f_PollError_init = some ⟨oc_PollError_init, od_PollError_init, .func (PySem.W.fnOf "__init__" "PollError.__init__" (defArgs s_PollError_init) (defBody s_PollError_init) (defScope s_PollError_init) (.ref T_PollError_init) kV_PollError_init dc_PollError_init pm_PollError_init an_PollError_init cd_PollError_init ct_PollError_init), sl_PollError_init⟩)
    (c_PollError_init : PySem.W.codeIn K cd_PollError_init "PollError.__init__" = true) (k_PollError_init : PySem.W.keepIn K (.ref f_PollError_init) = true)
    {f_NoOption_init : Addr} {od_NoOption_init an_NoOption_init : Option Addr} {sl_NoOption_init : Array (Option Value)} {oc_NoOption_init kV_NoOption_init dc_NoOption_init pm_NoOption_init cd_NoOption_init ct_NoOption_init : Value}
    (l_NoOption_init : K.lookup f_NoOption_init = some ⟨oc_NoOption_init, od_NoOption_init, .func (PySem.W.fnOf "__init__" "NoOption.__init__" (defArgs s_NoOption_init) (defBody s_NoOption_init) (defScope s_NoOption_init) .none kV_NoOption_init dc_NoOption_init pm_NoOption_init an_NoOption_init cd_NoOption_init ct_NoOption_init), sl_NoOption_init⟩)
    (c_NoOption_init : PySem.W.codeIn K cd_NoOption_init "NoOption.__init__" = true) (k_NoOption_init : PySem.W.keepIn K (.ref f_NoOption_init) = true)
    {f_is_whole : Addr} {od_is_whole an_is_whole : Option Addr} {sl_is_whole : Array (Option Value)} {oc_is_whole kV_is_whole dc_is_whole pm_is_whole cd_is_whole ct_is_whole : Value}
    (a_is_whole : PySem.W.nsIn K mainGlobals "is_whole" = some (some (.ref f_is_whole)))
    (l_is_whole : K.lookup f_is_whole = some ⟨oc_is_whole, od_is_whole, .func (PySem.W.fnOf "is_whole" "is_whole" (defArgs s_is_whole) (defBody s_is_whole) (defScope s_is_whole) .none kV_is_whole dc_is_whole pm_is_whole an_is_whole cd_is_whole ct_is_whole), sl_is_whole⟩)
    (c_is_whole : PySem.W.codeIn K cd_is_whole "is_whole" = true) (k_is_whole : PySem.W.keepIn K (.ref f_is_whole) = true)
    {f_is_name : Addr} {od_is_name an_is_name : Option Addr} {sl_is_name : Array (Option Value)} {oc_is_name kV_is_name dc_is_name pm_is_name cd_is_name ct_is_name : Value}
    (a_is_name : PySem.W.nsIn K mainGlobals "is_name" = some (some (.ref f_is_name)))
    (l_is_name : K.lookup f_is_name = some ⟨oc_is_name, od_is_name, .func (PySem.W.fnOf "is_name" "is_name" (defArgs s_is_name) (defBody s_is_name) (defScope s_is_name) .none kV_is_name dc_is_name pm_is_name an_is_name cd_is_name ct_is_name), sl_is_name⟩)
    (c_is_name : PySem.W.codeIn K cd_is_name "is_name" = true) (k_is_name : PySem.W.keepIn K (.ref f_is_name) = true)
    {f_is_tuple_of : Addr} {od_is_tuple_of an_is_tuple_of : Option Addr} {sl_is_tuple_of : Array (Option Value)} {oc_is_tuple_of kV_is_tuple_of dc_is_tuple_of pm_is_tuple_of cd_is_tuple_of ct_is_tuple_of : Value}
    (a_is_tuple_of : PySem.W.nsIn K mainGlobals "is_tuple_of" = some (some (.ref f_is_tuple_of)))
    (l_is_tuple_of : K.lookup f_is_tuple_of = some ⟨oc_is_tuple_of, od_is_tuple_of, .func (PySem.W.fnOf "is_tuple_of" "is_tuple_of" (defArgs s_is_tuple_of) (defBody s_is_tuple_of) (defScope s_is_tuple_of) .none kV_is_tuple_of dc_is_tuple_of pm_is_tuple_of an_is_tuple_of cd_is_tuple_of ct_is_tuple_of), sl_is_tuple_of⟩)
    (c_is_tuple_of : PySem.W.codeIn K cd_is_tuple_of "is_tuple_of" = true) (k_is_tuple_of : PySem.W.keepIn K (.ref f_is_tuple_of) = true)
    {f_are_names : Addr} {od_are_names an_are_names : Option Addr} {sl_are_names : Array (Option Value)} {oc_are_names kV_are_names dc_are_names pm_are_names cd_are_names ct_are_names : Value}
    (a_are_names : PySem.W.nsIn K mainGlobals "are_names" = some (some (.ref f_are_names)))
    (l_are_names : K.lookup f_are_names = some ⟨oc_are_names, od_are_names, .func (PySem.W.fnOf "are_names" "are_names" (defArgs s_are_names) (defBody s_are_names) (defScope s_are_names) .none kV_are_names dc_are_names pm_are_names an_are_names cd_are_names ct_are_names), sl_are_names⟩)
    (c_are_names : PySem.W.codeIn K cd_are_names "are_names" = true) (k_are_names : PySem.W.keepIn K (.ref f_are_names) = true)
    {f_are_options : Addr} {od_are_options an_are_options : Option Addr} {sl_are_options : Array (Option Value)} {oc_are_options kV_are_options dc_are_options pm_are_options cd_are_options ct_are_options : Value}
    (a_are_options : PySem.W.nsIn K mainGlobals "are_options" = some (some (.ref f_are_options)))
    (l_are_options : K.lookup f_are_options = some ⟨oc_are_options, od_are_options, .func (PySem.W.fnOf "are_options" "are_options" (defArgs s_are_options) (defBody s_are_options) (defScope s_are_options) .none kV_are_options dc_are_options pm_are_options an_are_options cd_are_options ct_are_options), sl_are_options⟩)
    (c_are_options : PySem.W.codeIn K cd_are_options "are_options" = true) (k_are_options : PySem.W.keepIn K (.ref f_are_options) = true)
    {f_is_option : Addr} {od_is_option an_is_option : Option Addr} {sl_is_option : Array (Option Value)} {oc_is_option kV_is_option dc_is_option pm_is_option cd_is_option ct_is_option : Value}
    (a_is_option : PySem.W.nsIn K mainGlobals "is_option" = some (some (.ref f_is_option)))
    (l_is_option : K.lookup f_is_option = some ⟨oc_is_option, od_is_option, .func (PySem.W.fnOf "is_option" "is_option" (defArgs s_is_option) (defBody s_is_option) (defScope s_is_option) .none kV_is_option dc_is_option pm_is_option an_is_option cd_is_option ct_is_option), sl_is_option⟩)
    (c_is_option : PySem.W.codeIn K cd_is_option "is_option" = true) (k_is_option : PySem.W.keepIn K (.ref f_is_option) = true)
    {f_check_option : Addr} {od_check_option an_check_option : Option Addr} {sl_check_option : Array (Option Value)} {oc_check_option kV_check_option dc_check_option pm_check_option cd_check_option ct_check_option : Value}
    (a_check_option : PySem.W.nsIn K mainGlobals "check_option" = some (some (.ref f_check_option)))
    (l_check_option : K.lookup f_check_option = some ⟨oc_check_option, od_check_option, .func (PySem.W.fnOf "check_option" "check_option" (defArgs s_check_option) (defBody s_check_option) (defScope s_check_option) .none kV_check_option dc_check_option pm_check_option an_check_option cd_check_option ct_check_option), sl_check_option⟩)
    (c_check_option : PySem.W.codeIn K cd_check_option "check_option" = true) (k_check_option : PySem.W.keepIn K (.ref f_check_option) = true)
    {f_are_unlike_options : Addr} {od_are_unlike_options an_are_unlike_options : Option Addr} {sl_are_unlike_options : Array (Option Value)} {oc_are_unlike_options kV_are_unlike_options dc_are_unlike_options pm_are_unlike_options cd_are_unlike_options ct_are_unlike_options : Value}
    (a_are_unlike_options : PySem.W.nsIn K mainGlobals "are_unlike_options" = some (some (.ref f_are_unlike_options)))
    (l_are_unlike_options : K.lookup f_are_unlike_options = some ⟨oc_are_unlike_options, od_are_unlike_options, .func (PySem.W.fnOf "are_unlike_options" "are_unlike_options" (defArgs s_are_unlike_options) (defBody s_are_unlike_options) (defScope s_are_unlike_options) .none kV_are_unlike_options dc_are_unlike_options pm_are_unlike_options an_are_unlike_options cd_are_unlike_options ct_are_unlike_options), sl_are_unlike_options⟩)
    (c_are_unlike_options : PySem.W.codeIn K cd_are_unlike_options "are_unlike_options" = true) (k_are_unlike_options : PySem.W.keepIn K (.ref f_are_unlike_options) = true)
    {f_is_mark : Addr} {od_is_mark an_is_mark : Option Addr} {sl_is_mark : Array (Option Value)} {oc_is_mark kV_is_mark dc_is_mark pm_is_mark cd_is_mark ct_is_mark : Value}
    (a_is_mark : PySem.W.nsIn K mainGlobals "is_mark" = some (some (.ref f_is_mark)))
    (l_is_mark : K.lookup f_is_mark = some ⟨oc_is_mark, od_is_mark, .func (PySem.W.fnOf "is_mark" "is_mark" (defArgs s_is_mark) (defBody s_is_mark) (defScope s_is_mark) .none kV_is_mark dc_is_mark pm_is_mark an_is_mark cd_is_mark ct_is_mark), sl_is_mark⟩)
    (c_is_mark : PySem.W.codeIn K cd_is_mark "is_mark" = true) (k_is_mark : PySem.W.keepIn K (.ref f_is_mark) = true)
    {f_are_tiers : Addr} {od_are_tiers an_are_tiers : Option Addr} {sl_are_tiers : Array (Option Value)} {oc_are_tiers kV_are_tiers dc_are_tiers pm_are_tiers cd_are_tiers ct_are_tiers : Value}
    (a_are_tiers : PySem.W.nsIn K mainGlobals "are_tiers" = some (some (.ref f_are_tiers)))
    (l_are_tiers : K.lookup f_are_tiers = some ⟨oc_are_tiers, od_are_tiers, .func (PySem.W.fnOf "are_tiers" "are_tiers" (defArgs s_are_tiers) (defBody s_are_tiers) (defScope s_are_tiers) .none kV_are_tiers dc_are_tiers pm_are_tiers an_are_tiers cd_are_tiers ct_are_tiers), sl_are_tiers⟩)
    (c_are_tiers : PySem.W.codeIn K cd_are_tiers "are_tiers" = true) (k_are_tiers : PySem.W.keepIn K (.ref f_are_tiers) = true)
    {f_are_marks : Addr} {od_are_marks an_are_marks : Option Addr} {sl_are_marks : Array (Option Value)} {oc_are_marks kV_are_marks dc_are_marks pm_are_marks cd_are_marks ct_are_marks : Value}
    (a_are_marks : PySem.W.nsIn K mainGlobals "are_marks" = some (some (.ref f_are_marks)))
    (l_are_marks : K.lookup f_are_marks = some ⟨oc_are_marks, od_are_marks, .func (PySem.W.fnOf "are_marks" "are_marks" (defArgs s_are_marks) (defBody s_are_marks) (defScope s_are_marks) .none kV_are_marks dc_are_marks pm_are_marks an_are_marks cd_are_marks ct_are_marks), sl_are_marks⟩)
    (c_are_marks : PySem.W.codeIn K cd_are_marks "are_marks" = true) (k_are_marks : PySem.W.keepIn K (.ref f_are_marks) = true)
    {f_is_ballot : Addr} {od_is_ballot an_is_ballot : Option Addr} {sl_is_ballot : Array (Option Value)} {oc_is_ballot kV_is_ballot dc_is_ballot pm_is_ballot cd_is_ballot ct_is_ballot : Value}
    (a_is_ballot : PySem.W.nsIn K mainGlobals "is_ballot" = some (some (.ref f_is_ballot)))
    (l_is_ballot : K.lookup f_is_ballot = some ⟨oc_is_ballot, od_is_ballot, .func (PySem.W.fnOf "is_ballot" "is_ballot" (defArgs s_is_ballot) (defBody s_is_ballot) (defScope s_is_ballot) .none kV_is_ballot dc_is_ballot pm_is_ballot an_is_ballot cd_is_ballot ct_is_ballot), sl_is_ballot⟩)
    (c_is_ballot : PySem.W.codeIn K cd_is_ballot "is_ballot" = true) (k_is_ballot : PySem.W.keepIn K (.ref f_is_ballot) = true)
    {f_is_row : Addr} {od_is_row an_is_row : Option Addr} {sl_is_row : Array (Option Value)} {oc_is_row kV_is_row dc_is_row pm_is_row cd_is_row ct_is_row : Value}
    (a_is_row : PySem.W.nsIn K mainGlobals "is_row" = some (some (.ref f_is_row)))
    (l_is_row : K.lookup f_is_row = some ⟨oc_is_row, od_is_row, .func (PySem.W.fnOf "is_row" "is_row" (defArgs s_is_row) (defBody s_is_row) (defScope s_is_row) .none kV_is_row dc_is_row pm_is_row an_is_row cd_is_row ct_is_row), sl_is_row⟩)
    (c_is_row : PySem.W.codeIn K cd_is_row "is_row" = true) (k_is_row : PySem.W.keepIn K (.ref f_is_row) = true)
    {f_check_poll : Addr} {od_check_poll an_check_poll : Option Addr} {sl_check_poll : Array (Option Value)} {oc_check_poll kV_check_poll dc_check_poll pm_check_poll cd_check_poll ct_check_poll : Value}
    (a_check_poll : PySem.W.nsIn K mainGlobals "check_poll" = some (some (.ref f_check_poll)))
    (l_check_poll : K.lookup f_check_poll = some ⟨oc_check_poll, od_check_poll, .func (PySem.W.fnOf "check_poll" "check_poll" (defArgs s_check_poll) (defBody s_check_poll) (defScope s_check_poll) .none kV_check_poll dc_check_poll pm_check_poll an_check_poll cd_check_poll ct_check_poll), sl_check_poll⟩)
    (c_check_poll : PySem.W.codeIn K cd_check_poll "check_poll" = true) (k_check_poll : PySem.W.keepIn K (.ref f_check_poll) = true)
    {f_Poll_init : Addr} {od_Poll_init an_Poll_init : Option Addr} {sl_Poll_init : Array (Option Value)} {oc_Poll_init kV_Poll_init dc_Poll_init pm_Poll_init cd_Poll_init ct_Poll_init : Value}
    {e_Poll_init : Addr}
    {T_Poll_init : Addr} {to_Poll_init : Value} {td_Poll_init : Option Addr} {tn_Poll_init : Nat} {tsl_Poll_init : Array (Option Value)} 
    (lt_Poll_init : K.lookup T_Poll_init = some ⟨to_Poll_init, td_Poll_init, .seq #[.ref e_Poll_init] tn_Poll_init, tsl_Poll_init⟩)
    (l_Poll_init : K.lookup f_Poll_init = some ⟨oc_Poll_init, od_Poll_init, .func (PySem.W.fnOf "__init__" "Poll.__init__" (defArgs s_Poll_init) (defBody s_Poll_init) (defScope s_Poll_init) (.ref T_Poll_init) kV_Poll_init dc_Poll_init pm_Poll_init an_Poll_init cd_Poll_init ct_Poll_init), sl_Poll_init⟩)
    (c_Poll_init : PySem.W.codeIn K cd_Poll_init "Poll.__init__" = true) (k_Poll_init : PySem.W.keepIn K (.ref f_Poll_init) = true)
    {f_order_ranks : Addr} {od_order_ranks an_order_ranks : Option Addr} {sl_order_ranks : Array (Option Value)} {oc_order_ranks kV_order_ranks dc_order_ranks pm_order_ranks cd_order_ranks ct_order_ranks : Value}
    (a_order_ranks : PySem.W.nsIn K mainGlobals "order_ranks" = some (some (.ref f_order_ranks)))
    (l_order_ranks : K.lookup f_order_ranks = some ⟨oc_order_ranks, od_order_ranks, .func (PySem.W.fnOf "order_ranks" "order_ranks" (defArgs s_order_ranks) (defBody s_order_ranks) (defScope s_order_ranks) .none kV_order_ranks dc_order_ranks pm_order_ranks an_order_ranks cd_order_ranks ct_order_ranks), sl_order_ranks⟩)
    (c_order_ranks : PySem.W.codeIn K cd_order_ranks "order_ranks" = true) (k_order_ranks : PySem.W.keepIn K (.ref f_order_ranks) = true)
    {f_ranks : Addr} {od_ranks an_ranks : Option Addr} {sl_ranks : Array (Option Value)} {oc_ranks kV_ranks dc_ranks pm_ranks cd_ranks ct_ranks : Value}
    (a_ranks : PySem.W.nsIn K mainGlobals "ranks" = some (some (.ref f_ranks)))
    (l_ranks : K.lookup f_ranks = some ⟨oc_ranks, od_ranks, .func (PySem.W.fnOf "ranks" "ranks" (defArgs s_ranks) (defBody s_ranks) (defScope s_ranks) .none kV_ranks dc_ranks pm_ranks an_ranks cd_ranks ct_ranks), sl_ranks⟩)
    (c_ranks : PySem.W.codeIn K cd_ranks "ranks" = true) (k_ranks : PySem.W.keepIn K (.ref f_ranks) = true)
    {f_tiers : Addr} {od_tiers an_tiers : Option Addr} {sl_tiers : Array (Option Value)} {oc_tiers kV_tiers dc_tiers pm_tiers cd_tiers ct_tiers : Value}
    (a_tiers : PySem.W.nsIn K mainGlobals "tiers" = some (some (.ref f_tiers)))
    (l_tiers : K.lookup f_tiers = some ⟨oc_tiers, od_tiers, .func (PySem.W.fnOf "tiers" "tiers" (defArgs s_tiers) (defBody s_tiers) (defScope s_tiers) .none kV_tiers dc_tiers pm_tiers an_tiers cd_tiers ct_tiers), sl_tiers⟩)
    (c_tiers : PySem.W.codeIn K cd_tiers "tiers" = true) (k_tiers : PySem.W.keepIn K (.ref f_tiers) = true)
    {f_named : Addr} {od_named an_named : Option Addr} {sl_named : Array (Option Value)} {oc_named kV_named dc_named pm_named cd_named ct_named : Value}
    (a_named : PySem.W.nsIn K mainGlobals "named" = some (some (.ref f_named)))
    (l_named : K.lookup f_named = some ⟨oc_named, od_named, .func (PySem.W.fnOf "named" "named" (defArgs s_named) (defBody s_named) (defScope s_named) .none kV_named dc_named pm_named an_named cd_named ct_named), sl_named⟩)
    (c_named : PySem.W.codeIn K cd_named "named" = true) (k_named : PySem.W.keepIn K (.ref f_named) = true)
    {f_ranked : Addr} {od_ranked an_ranked : Option Addr} {sl_ranked : Array (Option Value)} {oc_ranked kV_ranked dc_ranked pm_ranked cd_ranked ct_ranked : Value}
    (a_ranked : PySem.W.nsIn K mainGlobals "ranked" = some (some (.ref f_ranked)))
    (l_ranked : K.lookup f_ranked = some ⟨oc_ranked, od_ranked, .func (PySem.W.fnOf "ranked" "ranked" (defArgs s_ranked) (defBody s_ranked) (defScope s_ranked) .none kV_ranked dc_ranked pm_ranked an_ranked cd_ranked ct_ranked), sl_ranked⟩)
    (c_ranked : PySem.W.codeIn K cd_ranked "ranked" = true) (k_ranked : PySem.W.keepIn K (.ref f_ranked) = true)
    {f_margin_by : Addr} {od_margin_by an_margin_by : Option Addr} {sl_margin_by : Array (Option Value)} {oc_margin_by kV_margin_by dc_margin_by pm_margin_by cd_margin_by ct_margin_by : Value}
    (a_margin_by : PySem.W.nsIn K mainGlobals "margin_by" = some (some (.ref f_margin_by)))
    (l_margin_by : K.lookup f_margin_by = some ⟨oc_margin_by, od_margin_by, .func (PySem.W.fnOf "margin_by" "margin_by" (defArgs s_margin_by) (defBody s_margin_by) (defScope s_margin_by) .none kV_margin_by dc_margin_by pm_margin_by an_margin_by cd_margin_by ct_margin_by), sl_margin_by⟩)
    (c_margin_by : PySem.W.codeIn K cd_margin_by "margin_by" = true) (k_margin_by : PySem.W.keepIn K (.ref f_margin_by) = true)
    {f_margins : Addr} {od_margins an_margins : Option Addr} {sl_margins : Array (Option Value)} {oc_margins kV_margins dc_margins pm_margins cd_margins ct_margins : Value}
    (a_margins : PySem.W.nsIn K mainGlobals "margins" = some (some (.ref f_margins)))
    (l_margins : K.lookup f_margins = some ⟨oc_margins, od_margins, .func (PySem.W.fnOf "margins" "margins" (defArgs s_margins) (defBody s_margins) (defScope s_margins) .none kV_margins dc_margins pm_margins an_margins cd_margins ct_margins), sl_margins⟩)
    (c_margins : PySem.W.codeIn K cd_margins "margins" = true) (k_margins : PySem.W.keepIn K (.ref f_margins) = true)
    {f_alone_at : Addr} {od_alone_at an_alone_at : Option Addr} {sl_alone_at : Array (Option Value)} {oc_alone_at kV_alone_at dc_alone_at pm_alone_at cd_alone_at ct_alone_at : Value}
    (a_alone_at : PySem.W.nsIn K mainGlobals "alone_at" = some (some (.ref f_alone_at)))
    (l_alone_at : K.lookup f_alone_at = some ⟨oc_alone_at, od_alone_at, .func (PySem.W.fnOf "alone_at" "alone_at" (defArgs s_alone_at) (defBody s_alone_at) (defScope s_alone_at) .none kV_alone_at dc_alone_at pm_alone_at an_alone_at cd_alone_at ct_alone_at), sl_alone_at⟩)
    (c_alone_at : PySem.W.codeIn K cd_alone_at "alone_at" = true) (k_alone_at : PySem.W.keepIn K (.ref f_alone_at) = true)
    {f_firsts : Addr} {od_firsts an_firsts : Option Addr} {sl_firsts : Array (Option Value)} {oc_firsts kV_firsts dc_firsts pm_firsts cd_firsts ct_firsts : Value}
    (a_firsts : PySem.W.nsIn K mainGlobals "firsts" = some (some (.ref f_firsts)))
    (l_firsts : K.lookup f_firsts = some ⟨oc_firsts, od_firsts, .func (PySem.W.fnOf "firsts" "firsts" (defArgs s_firsts) (defBody s_firsts) (defScope s_firsts) .none kV_firsts dc_firsts pm_firsts an_firsts cd_firsts ct_firsts), sl_firsts⟩)
    (c_firsts : PySem.W.codeIn K cd_firsts "firsts" = true) (k_firsts : PySem.W.keepIn K (.ref f_firsts) = true)
    {f_lasts : Addr} {od_lasts an_lasts : Option Addr} {sl_lasts : Array (Option Value)} {oc_lasts kV_lasts dc_lasts pm_lasts cd_lasts ct_lasts : Value}
    (a_lasts : PySem.W.nsIn K mainGlobals "lasts" = some (some (.ref f_lasts)))
    (l_lasts : K.lookup f_lasts = some ⟨oc_lasts, od_lasts, .func (PySem.W.fnOf "lasts" "lasts" (defArgs s_lasts) (defBody s_lasts) (defScope s_lasts) .none kV_lasts dc_lasts pm_lasts an_lasts cd_lasts ct_lasts), sl_lasts⟩)
    (c_lasts : PySem.W.codeIn K cd_lasts "lasts" = true) (k_lasts : PySem.W.keepIn K (.ref f_lasts) = true)
    {f_lets : Addr} {od_lets an_lets : Option Addr} {sl_lets : Array (Option Value)} {oc_lets kV_lets dc_lets pm_lets cd_lets ct_lets : Value}
    (a_lets : PySem.W.nsIn K mainGlobals "lets" = some (some (.ref f_lets)))
    (l_lets : K.lookup f_lets = some ⟨oc_lets, od_lets, .func (PySem.W.fnOf "lets" "lets" (defArgs s_lets) (defBody s_lets) (defScope s_lets) .none kV_lets dc_lets pm_lets an_lets cd_lets ct_lets), sl_lets⟩)
    (c_lets : PySem.W.codeIn K cd_lets "lets" = true) (k_lets : PySem.W.keepIn K (.ref f_lets) = true)
    {f_points : Addr} {od_points an_points : Option Addr} {sl_points : Array (Option Value)} {oc_points kV_points dc_points pm_points cd_points ct_points : Value}
    (a_points : PySem.W.nsIn K mainGlobals "points" = some (some (.ref f_points)))
    (l_points : K.lookup f_points = some ⟨oc_points, od_points, .func (PySem.W.fnOf "points" "points" (defArgs s_points) (defBody s_points) (defScope s_points) .none kV_points dc_points pm_points an_points cd_points ct_points), sl_points⟩)
    (c_points : PySem.W.codeIn K cd_points "points" = true) (k_points : PySem.W.keepIn K (.ref f_points) = true)
    {f_margin : Addr} {od_margin an_margin : Option Addr} {sl_margin : Array (Option Value)} {oc_margin kV_margin dc_margin pm_margin cd_margin ct_margin : Value}
    (a_margin : PySem.W.nsIn K mainGlobals "margin" = some (some (.ref f_margin)))
    (l_margin : K.lookup f_margin = some ⟨oc_margin, od_margin, .func (PySem.W.fnOf "margin" "margin" (defArgs s_margin) (defBody s_margin) (defScope s_margin) .none kV_margin dc_margin pm_margin an_margin cd_margin ct_margin), sl_margin⟩)
    (c_margin : PySem.W.codeIn K cd_margin "margin" = true) (k_margin : PySem.W.keepIn K (.ref f_margin) = true)
    {f_law_cell_at : Addr} {od_law_cell_at an_law_cell_at : Option Addr} {sl_law_cell_at : Array (Option Value)} {oc_law_cell_at kV_law_cell_at dc_law_cell_at pm_law_cell_at cd_law_cell_at ct_law_cell_at : Value}
    (a_law_cell_at : PySem.W.nsIn K mainGlobals "_law_cell_at" = some (some (.ref f_law_cell_at)))
    (l_law_cell_at : K.lookup f_law_cell_at = some ⟨oc_law_cell_at, od_law_cell_at, .func (PySem.W.fnOf "_law_cell_at" "_law_cell_at" (defArgs s_law_cell_at) (defBody s_law_cell_at) (defScope s_law_cell_at) .none kV_law_cell_at dc_law_cell_at pm_law_cell_at an_law_cell_at cd_law_cell_at ct_law_cell_at), sl_law_cell_at⟩)
    (c_law_cell_at : PySem.W.codeIn K cd_law_cell_at "_law_cell_at" = true) (k_law_cell_at : PySem.W.keepIn K (.ref f_law_cell_at) = true)
    {f_law_well : Addr} {od_law_well an_law_well : Option Addr} {sl_law_well : Array (Option Value)} {oc_law_well kV_law_well dc_law_well pm_law_well cd_law_well ct_law_well : Value}
    (a_law_well : PySem.W.nsIn K mainGlobals "_law_well" = some (some (.ref f_law_well)))
    (l_law_well : K.lookup f_law_well = some ⟨oc_law_well, od_law_well, .func (PySem.W.fnOf "_law_well" "_law_well" (defArgs s_law_well) (defBody s_law_well) (defScope s_law_well) .none kV_law_well dc_law_well pm_law_well an_law_well cd_law_well ct_law_well), sl_law_well⟩)
    (c_law_well : PySem.W.codeIn K cd_law_well "_law_well" = true) (k_law_well : PySem.W.keepIn K (.ref f_law_well) = true)
    {f_law_draw : Addr} {od_law_draw an_law_draw : Option Addr} {sl_law_draw : Array (Option Value)} {oc_law_draw kV_law_draw dc_law_draw pm_law_draw cd_law_draw ct_law_draw : Value}
    (a_law_draw : PySem.W.nsIn K mainGlobals "_law_draw" = some (some (.ref f_law_draw)))
    (l_law_draw : K.lookup f_law_draw = some ⟨oc_law_draw, od_law_draw, .func (PySem.W.fnOf "_law_draw" "_law_draw" (defArgs s_law_draw) (defBody s_law_draw) (defScope s_law_draw) .none kV_law_draw dc_law_draw pm_law_draw an_law_draw cd_law_draw ct_law_draw), sl_law_draw⟩)
    (c_law_draw : PySem.W.codeIn K cd_law_draw "_law_draw" = true) (k_law_draw : PySem.W.keepIn K (.ref f_law_draw) = true)
    {f_law_one : Addr} {od_law_one an_law_one : Option Addr} {sl_law_one : Array (Option Value)} {oc_law_one kV_law_one dc_law_one pm_law_one cd_law_one ct_law_one : Value}
    (a_law_one : PySem.W.nsIn K mainGlobals "_law_one" = some (some (.ref f_law_one)))
    (l_law_one : K.lookup f_law_one = some ⟨oc_law_one, od_law_one, .func (PySem.W.fnOf "_law_one" "_law_one" (defArgs s_law_one) (defBody s_law_one) (defScope s_law_one) .none kV_law_one dc_law_one pm_law_one an_law_one cd_law_one ct_law_one), sl_law_one⟩)
    (c_law_one : PySem.W.codeIn K cd_law_one "_law_one" = true) (k_law_one : PySem.W.keepIn K (.ref f_law_one) = true)
    {f_law_options : Addr} {od_law_options an_law_options : Option Addr} {sl_law_options : Array (Option Value)} {oc_law_options kV_law_options dc_law_options pm_law_options cd_law_options ct_law_options : Value}
    (a_law_options : PySem.W.nsIn K mainGlobals "_law_options" = some (some (.ref f_law_options)))
    (l_law_options : K.lookup f_law_options = some ⟨oc_law_options, od_law_options, .func (PySem.W.fnOf "_law_options" "_law_options" (defArgs s_law_options) (defBody s_law_options) (defScope s_law_options) .none kV_law_options dc_law_options pm_law_options an_law_options cd_law_options ct_law_options), sl_law_options⟩)
    (c_law_options : PySem.W.codeIn K cd_law_options "_law_options" = true) (k_law_options : PySem.W.keepIn K (.ref f_law_options) = true)
    {f_law_shuffled : Addr} {od_law_shuffled an_law_shuffled : Option Addr} {sl_law_shuffled : Array (Option Value)} {oc_law_shuffled kV_law_shuffled dc_law_shuffled pm_law_shuffled cd_law_shuffled ct_law_shuffled : Value}
    (a_law_shuffled : PySem.W.nsIn K mainGlobals "_law_shuffled" = some (some (.ref f_law_shuffled)))
    (l_law_shuffled : K.lookup f_law_shuffled = some ⟨oc_law_shuffled, od_law_shuffled, .func (PySem.W.fnOf "_law_shuffled" "_law_shuffled" (defArgs s_law_shuffled) (defBody s_law_shuffled) (defScope s_law_shuffled) .none kV_law_shuffled dc_law_shuffled pm_law_shuffled an_law_shuffled cd_law_shuffled ct_law_shuffled), sl_law_shuffled⟩)
    (c_law_shuffled : PySem.W.codeIn K cd_law_shuffled "_law_shuffled" = true) (k_law_shuffled : PySem.W.keepIn K (.ref f_law_shuffled) = true)
    {f_law_tiers_drawn : Addr} {od_law_tiers_drawn an_law_tiers_drawn : Option Addr} {sl_law_tiers_drawn : Array (Option Value)} {oc_law_tiers_drawn kV_law_tiers_drawn dc_law_tiers_drawn pm_law_tiers_drawn cd_law_tiers_drawn ct_law_tiers_drawn : Value}
    (a_law_tiers_drawn : PySem.W.nsIn K mainGlobals "_law_tiers_drawn" = some (some (.ref f_law_tiers_drawn)))
    (l_law_tiers_drawn : K.lookup f_law_tiers_drawn = some ⟨oc_law_tiers_drawn, od_law_tiers_drawn, .func (PySem.W.fnOf "_law_tiers_drawn" "_law_tiers_drawn" (defArgs s_law_tiers_drawn) (defBody s_law_tiers_drawn) (defScope s_law_tiers_drawn) .none kV_law_tiers_drawn dc_law_tiers_drawn pm_law_tiers_drawn an_law_tiers_drawn cd_law_tiers_drawn ct_law_tiers_drawn), sl_law_tiers_drawn⟩)
    (c_law_tiers_drawn : PySem.W.codeIn K cd_law_tiers_drawn "_law_tiers_drawn" = true) (k_law_tiers_drawn : PySem.W.keepIn K (.ref f_law_tiers_drawn) = true)
    {f_law_ballot : Addr} {od_law_ballot an_law_ballot : Option Addr} {sl_law_ballot : Array (Option Value)} {oc_law_ballot kV_law_ballot dc_law_ballot pm_law_ballot cd_law_ballot ct_law_ballot : Value}
    (a_law_ballot : PySem.W.nsIn K mainGlobals "_law_ballot" = some (some (.ref f_law_ballot)))
    (l_law_ballot : K.lookup f_law_ballot = some ⟨oc_law_ballot, od_law_ballot, .func (PySem.W.fnOf "_law_ballot" "_law_ballot" (defArgs s_law_ballot) (defBody s_law_ballot) (defScope s_law_ballot) .none kV_law_ballot dc_law_ballot pm_law_ballot an_law_ballot cd_law_ballot ct_law_ballot), sl_law_ballot⟩)
    (c_law_ballot : PySem.W.codeIn K cd_law_ballot "_law_ballot" = true) (k_law_ballot : PySem.W.keepIn K (.ref f_law_ballot) = true)
    {f_law_rows : Addr} {od_law_rows an_law_rows : Option Addr} {sl_law_rows : Array (Option Value)} {oc_law_rows kV_law_rows dc_law_rows pm_law_rows cd_law_rows ct_law_rows : Value}
    (a_law_rows : PySem.W.nsIn K mainGlobals "_law_rows" = some (some (.ref f_law_rows)))
    (l_law_rows : K.lookup f_law_rows = some ⟨oc_law_rows, od_law_rows, .func (PySem.W.fnOf "_law_rows" "_law_rows" (defArgs s_law_rows) (defBody s_law_rows) (defScope s_law_rows) .none kV_law_rows dc_law_rows pm_law_rows an_law_rows cd_law_rows ct_law_rows), sl_law_rows⟩)
    (c_law_rows : PySem.W.codeIn K cd_law_rows "_law_rows" = true) (k_law_rows : PySem.W.keepIn K (.ref f_law_rows) = true)
    {f_law_high : Addr} {od_law_high an_law_high : Option Addr} {sl_law_high : Array (Option Value)} {oc_law_high kV_law_high dc_law_high pm_law_high cd_law_high ct_law_high : Value}
    (a_law_high : PySem.W.nsIn K mainGlobals "_law_high" = some (some (.ref f_law_high)))
    (l_law_high : K.lookup f_law_high = some ⟨oc_law_high, od_law_high, .func (PySem.W.fnOf "_law_high" "_law_high" (defArgs s_law_high) (defBody s_law_high) (defScope s_law_high) .none kV_law_high dc_law_high pm_law_high an_law_high cd_law_high ct_law_high), sl_law_high⟩)
    (c_law_high : PySem.W.codeIn K cd_law_high "_law_high" = true) (k_law_high : PySem.W.keepIn K (.ref f_law_high) = true)
    {f_law_tiers : Addr} {od_law_tiers an_law_tiers : Option Addr} {sl_law_tiers : Array (Option Value)} {oc_law_tiers kV_law_tiers dc_law_tiers pm_law_tiers cd_law_tiers ct_law_tiers : Value}
    (a_law_tiers : PySem.W.nsIn K mainGlobals "_law_tiers" = some (some (.ref f_law_tiers)))
    (l_law_tiers : K.lookup f_law_tiers = some ⟨oc_law_tiers, od_law_tiers, .func (PySem.W.fnOf "_law_tiers" "_law_tiers" (defArgs s_law_tiers) (defBody s_law_tiers) (defScope s_law_tiers) .none kV_law_tiers dc_law_tiers pm_law_tiers an_law_tiers cd_law_tiers ct_law_tiers), sl_law_tiers⟩)
    (c_law_tiers : PySem.W.codeIn K cd_law_tiers "_law_tiers" = true) (k_law_tiers : PySem.W.keepIn K (.ref f_law_tiers) = true)
    {f_law_margin : Addr} {od_law_margin an_law_margin : Option Addr} {sl_law_margin : Array (Option Value)} {oc_law_margin kV_law_margin dc_law_margin pm_law_margin cd_law_margin ct_law_margin : Value}
    (a_law_margin : PySem.W.nsIn K mainGlobals "_law_margin" = some (some (.ref f_law_margin)))
    (l_law_margin : K.lookup f_law_margin = some ⟨oc_law_margin, od_law_margin, .func (PySem.W.fnOf "_law_margin" "_law_margin" (defArgs s_law_margin) (defBody s_law_margin) (defScope s_law_margin) .none kV_law_margin dc_law_margin pm_law_margin an_law_margin cd_law_margin ct_law_margin), sl_law_margin⟩)
    (c_law_margin : PySem.W.codeIn K cd_law_margin "_law_margin" = true) (k_law_margin : PySem.W.keepIn K (.ref f_law_margin) = true)
    {f_law_alone : Addr} {od_law_alone an_law_alone : Option Addr} {sl_law_alone : Array (Option Value)} {oc_law_alone kV_law_alone dc_law_alone pm_law_alone cd_law_alone ct_law_alone : Value}
    (a_law_alone : PySem.W.nsIn K mainGlobals "_law_alone" = some (some (.ref f_law_alone)))
    (l_law_alone : K.lookup f_law_alone = some ⟨oc_law_alone, od_law_alone, .func (PySem.W.fnOf "_law_alone" "_law_alone" (defArgs s_law_alone) (defBody s_law_alone) (defScope s_law_alone) .none kV_law_alone dc_law_alone pm_law_alone an_law_alone cd_law_alone ct_law_alone), sl_law_alone⟩)
    (c_law_alone : PySem.W.codeIn K cd_law_alone "_law_alone" = true) (k_law_alone : PySem.W.keepIn K (.ref f_law_alone) = true)
    {f_law_let : Addr} {od_law_let an_law_let : Option Addr} {sl_law_let : Array (Option Value)} {oc_law_let kV_law_let dc_law_let pm_law_let cd_law_let ct_law_let : Value}
    (a_law_let : PySem.W.nsIn K mainGlobals "_law_let" = some (some (.ref f_law_let)))
    (l_law_let : K.lookup f_law_let = some ⟨oc_law_let, od_law_let, .func (PySem.W.fnOf "_law_let" "_law_let" (defArgs s_law_let) (defBody s_law_let) (defScope s_law_let) .none kV_law_let dc_law_let pm_law_let an_law_let cd_law_let ct_law_let), sl_law_let⟩)
    (c_law_let : PySem.W.codeIn K cd_law_let "_law_let" = true) (k_law_let : PySem.W.keepIn K (.ref f_law_let) = true)
    {f_law_refused : Addr} {od_law_refused an_law_refused : Option Addr} {sl_law_refused : Array (Option Value)} {oc_law_refused kV_law_refused dc_law_refused pm_law_refused cd_law_refused ct_law_refused : Value}
    (a_law_refused : PySem.W.nsIn K mainGlobals "_law_refused" = some (some (.ref f_law_refused)))
    (l_law_refused : K.lookup f_law_refused = some ⟨oc_law_refused, od_law_refused, .func (PySem.W.fnOf "_law_refused" "_law_refused" (defArgs s_law_refused) (defBody s_law_refused) (defScope s_law_refused) .none kV_law_refused dc_law_refused pm_law_refused an_law_refused cd_law_refused ct_law_refused), sl_law_refused⟩)
    (c_law_refused : PySem.W.codeIn K cd_law_refused "_law_refused" = true) (k_law_refused : PySem.W.keepIn K (.ref f_law_refused) = true)
    {f_law_right : Addr} {od_law_right an_law_right : Option Addr} {sl_law_right : Array (Option Value)} {oc_law_right kV_law_right dc_law_right pm_law_right cd_law_right ct_law_right : Value}
    (a_law_right : PySem.W.nsIn K mainGlobals "_law_right" = some (some (.ref f_law_right)))
    (l_law_right : K.lookup f_law_right = some ⟨oc_law_right, od_law_right, .func (PySem.W.fnOf "_law_right" "_law_right" (defArgs s_law_right) (defBody s_law_right) (defScope s_law_right) .none kV_law_right dc_law_right pm_law_right an_law_right cd_law_right ct_law_right), sl_law_right⟩)
    (c_law_right : PySem.W.codeIn K cd_law_right "_law_right" = true) (k_law_right : PySem.W.keepIn K (.ref f_law_right) = true)
    {f_law : Addr} {od_law an_law : Option Addr} {sl_law : Array (Option Value)} {oc_law kV_law dc_law pm_law cd_law ct_law : Value}
    (a_law : PySem.W.nsIn K mainGlobals "law" = some (some (.ref f_law)))
    (l_law : K.lookup f_law = some ⟨oc_law, od_law, .func (PySem.W.fnOf "law" "law" (defArgs s_law) (defBody s_law) (defScope s_law) .none kV_law dc_law pm_law an_law cd_law ct_law), sl_law⟩)
    (c_law : PySem.W.codeIn K cd_law "law" = true) (k_law : PySem.W.keepIn K (.ref f_law) = true)
    {C_NoOption : Addr}
    (aC_NoOption : PySem.W.nsIn K mainGlobals "NoOption" = some (some (.ref C_NoOption)))
    {nm_NoOption q_NoOption : Str} {N_NoOption : Addr} {bs_NoOption : List Value} {sn_NoOption : List Str} {sub_NoOption : List Value} {ab_NoOption : Bool} {col_NoOption : Option Bool} {dd_NoOption : Option Addr} {m0_NoOption m1_NoOption m2_NoOption m3_NoOption m5_NoOption : Option Value}
    (xL_NoOption : K.lookup C_NoOption = some (excClassObj nm_NoOption q_NoOption C_NoOption N_NoOption bs_NoOption [.type "KeyError", .type "LookupError", .type "Exception", .type "BaseException", .type "object"] true sn_NoOption sub_NoOption ab_NoOption col_NoOption dd_NoOption m0_NoOption m1_NoOption m2_NoOption m3_NoOption m5_NoOption "LookupError.__new__"))
    (sa_NoOption : PySem.W.findIn K (.ref C_NoOption) "__setattr__" = some (some (.builtin "object.__setattr__")))
    (gt_NoOption : PySem.W.findIn K (.ref C_NoOption) "__getattribute__" = some (some (.builtin "BaseException.__getattribute__")))
    (gg_NoOption : PySem.W.findIn K (.ref C_NoOption) "__getattr__" = some none)
    (ai_NoOption : PySem.W.findIn K (.ref C_NoOption) "__init__" = some (some (.ref f_NoOption_init)))
    (ti_NoOption : PySem.W.typeIn K (.ref f_NoOption_init) = some (.type "function"))
    (kC_NoOption : PySem.W.keepIn K (.ref C_NoOption) = true)
    (eC_NoOption : PySem.W.subIn K (.ref C_NoOption) (.type "BaseException") = some true)
    (tC_NoOption : PySem.W.typeIn K (.ref C_NoOption) = some (.type "type"))
    (hC_NoOption : PySem.W.hasDictIn K C_NoOption = true)
    (nf_NoOption_name : PySem.W.findIn K (.ref C_NoOption) "name" = some none)
    {C_PollError : Addr}
    (aC_PollError : PySem.W.nsIn K mainGlobals "PollError" = some (some (.ref C_PollError)))
    {nm_PollError q_PollError : Str} {N_PollError : Addr} {bs_PollError : List Value} {sn_PollError : List Str} {sub_PollError : List Value} {ab_PollError : Bool} {col_PollError : Option Bool} {dd_PollError : Option Addr} {m0_PollError m1_PollError m2_PollError m3_PollError m5_PollError : Option Value}
    (xL_PollError : K.lookup C_PollError = some (excClassObj nm_PollError q_PollError C_PollError N_PollError bs_PollError [.type "ValueError", .type "Exception", .type "BaseException", .type "object"] true sn_PollError sub_PollError ab_PollError col_PollError dd_PollError m0_PollError m1_PollError m2_PollError m3_PollError m5_PollError "ValueError.__new__"))
    (sa_PollError : PySem.W.findIn K (.ref C_PollError) "__setattr__" = some (some (.builtin "object.__setattr__")))
    (gt_PollError : PySem.W.findIn K (.ref C_PollError) "__getattribute__" = some (some (.builtin "BaseException.__getattribute__")))
    (gg_PollError : PySem.W.findIn K (.ref C_PollError) "__getattr__" = some none)
    (ai_PollError : PySem.W.findIn K (.ref C_PollError) "__init__" = some (some (.ref f_PollError_init)))
    (ti_PollError : PySem.W.typeIn K (.ref f_PollError_init) = some (.type "function"))
    (kC_PollError : PySem.W.keepIn K (.ref C_PollError) = true)
    (eC_PollError : PySem.W.subIn K (.ref C_PollError) (.type "BaseException") = some true)
    (tC_PollError : PySem.W.typeIn K (.ref C_PollError) = some (.type "type"))
    (hC_PollError : PySem.W.hasDictIn K C_PollError = true)
    (nf_PollError_why : PySem.W.findIn K (.ref C_PollError) "why" = some none)
    (rd_PollError : PySem.W.readsIn K C_PollError (.type "type") = true)
    (ga_PollError : PySem.W.specialIn K (.ref C_PollError) "__getattribute__" = some (some (.builtin "type.__getattribute__")))
    (fc_PollError_init : PySem.W.findCls K (.ref C_PollError) (.type "type") "__init__" = some (.val (.ref f_PollError_init)))
    {C_BadPoll : Addr}
    (aC_BadPoll : PySem.W.nsIn K mainGlobals "BadPoll" = some (some (.ref C_BadPoll)))
    {nm_BadPoll q_BadPoll : Str} {N_BadPoll : Addr} {bs_BadPoll : List Value} {sn_BadPoll : List Str} {sub_BadPoll : List Value} {ab_BadPoll : Bool} {col_BadPoll : Option Bool} {dd_BadPoll : Option Addr} {m0_BadPoll m1_BadPoll m2_BadPoll m3_BadPoll m5_BadPoll : Option Value}
    (xL_BadPoll : K.lookup C_BadPoll = some (excClassObj nm_BadPoll q_BadPoll C_BadPoll N_BadPoll bs_BadPoll [.ref C_PollError, .type "ValueError", .type "Exception", .type "BaseException", .type "object"] true sn_BadPoll sub_BadPoll ab_BadPoll col_BadPoll dd_BadPoll m0_BadPoll m1_BadPoll m2_BadPoll m3_BadPoll m5_BadPoll "ValueError.__new__"))
    (sa_BadPoll : PySem.W.findIn K (.ref C_BadPoll) "__setattr__" = some (some (.builtin "object.__setattr__")))
    (gt_BadPoll : PySem.W.findIn K (.ref C_BadPoll) "__getattribute__" = some (some (.builtin "BaseException.__getattribute__")))
    (gg_BadPoll : PySem.W.findIn K (.ref C_BadPoll) "__getattr__" = some none)
    (ai_BadPoll : PySem.W.findIn K (.ref C_BadPoll) "__init__" = some (some (.ref f_PollError_init)))
    (ti_BadPoll : PySem.W.typeIn K (.ref f_PollError_init) = some (.type "function"))
    (kC_BadPoll : PySem.W.keepIn K (.ref C_BadPoll) = true)
    (eC_BadPoll : PySem.W.subIn K (.ref C_BadPoll) (.type "BaseException") = some true)
    (tC_BadPoll : PySem.W.typeIn K (.ref C_BadPoll) = some (.type "type"))
    (hC_BadPoll : PySem.W.hasDictIn K C_BadPoll = true)
    (nf_BadPoll_why : PySem.W.findIn K (.ref C_BadPoll) "why" = some none)
    {C_Poll : Addr}
    (aC_Poll : PySem.W.nsIn K mainGlobals "Poll" = some (some (.ref C_Poll)))
    (pg_Poll : PySem.W.plainGet K C_Poll Str.empty = true)
    (hd_Poll : PySem.W.hasDictIn K C_Poll = true)
    (po_Poll : PySem.W.plainOver K C_Poll = true)
    (sa_Poll : PySem.W.findIn K (.ref C_Poll) "__setattr__" = some (some (.builtin "object.__setattr__")))
    (mk_Poll : PySem.W.makesIn K C_Poll = true)
    (kc_Poll : PySem.W.keepIn K (.ref C_Poll) = true)
    (ai_Poll : PySem.W.findIn K (.ref C_Poll) "__init__" = some (some (.ref f_Poll_init)))
    (ii_Poll : PySem.W.isFn K (.ref f_Poll_init) = true)
    (n_Poll_options : PySem.W.findIn K (.ref C_Poll) "options" = some none)
    (n_Poll_voices : PySem.W.findIn K (.ref C_Poll) "voices" = some none)
    (sb_NoOption_NoOption : PySem.W.subIn K (.ref C_NoOption) (.ref C_NoOption) = some true)
    (vV : PySem.W.findCls K (.type "ValueError") (.type "type") "__init__" = some (.val (.builtin "ValueError.__init__")))
    (z_ValueError : PySem.W.nsIn K mainGlobals "ValueError" = some none)
    (z_isinstance : PySem.W.nsIn K mainGlobals "isinstance" = some none)
    (z_bool : PySem.W.nsIn K mainGlobals "bool" = some none)
    (z_int : PySem.W.nsIn K mainGlobals "int" = some none)
    (z_str : PySem.W.nsIn K mainGlobals "str" = some none)
    (z_len : PySem.W.nsIn K mainGlobals "len" = some none)
    (z_all : PySem.W.nsIn K mainGlobals "all" = some none)
    (z_tuple : PySem.W.nsIn K mainGlobals "tuple" = some none)
    (z_enumerate : PySem.W.nsIn K mainGlobals "enumerate" = some none)
    (z_sorted : PySem.W.nsIn K mainGlobals "sorted" = some none)
    (z_set : PySem.W.nsIn K mainGlobals "set" = some none)
    (z_list : PySem.W.nsIn K mainGlobals "list" = some none)
    (z_sum : PySem.W.nsIn K mainGlobals "sum" = some none)
    (z_range : PySem.W.nsIn K mainGlobals "range" = some none)
    (z_dict : PySem.W.nsIn K mainGlobals "dict" = some none)
    {t_LONGEST_NAME : Tok} (cc_LONGEST_NAME : PySem.W.nsIn K mainGlobals "LONGEST_NAME" = some (some (.int 8 t_LONGEST_NAME)))
    {t_MOST_OPTIONS : Tok} (cc_MOST_OPTIONS : PySem.W.nsIn K mainGlobals "MOST_OPTIONS" = some (some (.int 6 t_MOST_OPTIONS)))
    {t_GREATEST_MARK : Tok} (cc_GREATEST_MARK : PySem.W.nsIn K mainGlobals "GREATEST_MARK" = some (some (.int 9 t_GREATEST_MARK)))
    {t_MOST_VOICES : Tok} (cc_MOST_VOICES : PySem.W.nsIn K mainGlobals "MOST_VOICES" = some (some (.int 1000000 t_MOST_VOICES)))
    {t_MOST_ROWS : Tok} (cc_MOST_ROWS : PySem.W.nsIn K mainGlobals "MOST_ROWS" = some (some (.int 30 t_MOST_ROWS)))
    : ∃ fd : FuncData, (∀ (s : Shared) (v : Value), BindsTo s fd ⟨[v], []⟩ [("_law_script", v)]) ∧ ∀ base : Heap, K.In base → base.Ns mainGlobals mg → FnOk l.prog w K mg base CX0 9 fa fd ["_law_script"] (sp_law K) := by
  have e := hfa.symm.trans (PySem.W.mg_of X G a_law)
  cases e
  have F_PollError_init : FunD K "__init__" "PollError.__init__" (defArgs s_PollError_init) (defBody s_PollError_init) (defScope s_PollError_init) [V.str ""] [] f_PollError_init _ := ⟨⟨_, _, _, _, _, _, _, _, _, _, rfl, l_PollError_init, c_PollError_init, .inr ⟨by simp, _, _, [.str "" tk0_PollError_init], _, rfl, lt_PollError_init, rfl, (.cons ⟨_, rfl⟩ Paired.nil)⟩, .inl rfl⟩, k_PollError_init⟩
  obtain ⟨ikb_PollError_init_2, kb_PollError_init_2⟩ := F_PollError_init.kbindsD (ps := ["self", "why"]) 2 [] (fun us its ws => us) (by simp) (fun r1 r2 r3 => r1) (fun _ _ _ _ _ _ _ us its ws l1 l2 l3 => match us, its, ws, l1, l2, l3 with | [_, _], [_], [], _, _, _ => ⟨_, rfl, rfl⟩)
  have F_NoOption_init := fun_mk (st := s_NoOption_init) l_NoOption_init c_NoOption_init k_NoOption_init
  have b_NoOption_init := F_NoOption_init.binds (ps := ["self", "name"]) fun _ _ _ _ _ _ us hl => match us, hl with | [_, _], _ => rfl
  have kb_NoOption_init_2 : KBn K (PySem.W.fnOf "__init__" "NoOption.__init__" (defArgs s_NoOption_init) (defBody s_NoOption_init) (defScope s_NoOption_init) .none kV_NoOption_init dc_NoOption_init pm_NoOption_init an_NoOption_init cd_NoOption_init ct_NoOption_init) ["self", "name"] 2 [] (fun us ws => us) (fun vs zs => vs) := ⟨fun s us ws _ l1 l2 => .of_eq (match us, ws, l1, l2 with | [_, _], [], _, _ => rfl), fun r1 r3 => r1⟩
  have F_is_whole := fun_mk (st := s_is_whole) l_is_whole c_is_whole k_is_whole
  have b_is_whole := F_is_whole.binds (ps := ["thing"]) fun _ _ _ _ _ _ us hl => match us, hl with | [_], _ => rfl
  have F_is_name := fun_mk (st := s_is_name) l_is_name c_is_name k_is_name
  have b_is_name := F_is_name.binds (ps := ["thing"]) fun _ _ _ _ _ _ us hl => match us, hl with | [_], _ => rfl
  have F_is_tuple_of := fun_mk (st := s_is_tuple_of) l_is_tuple_of c_is_tuple_of k_is_tuple_of
  have b_is_tuple_of := F_is_tuple_of.binds (ps := ["thing", "many"]) fun _ _ _ _ _ _ us hl => match us, hl with | [_, _], _ => rfl
  have F_are_names := fun_mk (st := s_are_names) l_are_names c_are_names k_are_names
  have b_are_names := F_are_names.binds (ps := ["thing"]) fun _ _ _ _ _ _ us hl => match us, hl with | [_], _ => rfl
  have F_are_options := fun_mk (st := s_are_options) l_are_options c_are_options k_are_options
  have b_are_options := F_are_options.binds (ps := ["thing"]) fun _ _ _ _ _ _ us hl => match us, hl with | [_], _ => rfl
  have F_is_option := fun_mk (st := s_is_option) l_is_option c_is_option k_is_option
  have b_is_option := F_is_option.binds (ps := ["options", "thing"]) fun _ _ _ _ _ _ us hl => match us, hl with | [_, _], _ => rfl
  have F_check_option := fun_mk (st := s_check_option) l_check_option c_check_option k_check_option
  have b_check_option := F_check_option.binds (ps := ["options", "name"]) fun _ _ _ _ _ _ us hl => match us, hl with | [_, _], _ => rfl
  have kb_check_option_2 : KBn K (PySem.W.fnOf "check_option" "check_option" (defArgs s_check_option) (defBody s_check_option) (defScope s_check_option) .none kV_check_option dc_check_option pm_check_option an_check_option cd_check_option ct_check_option) ["options", "name"] 2 [] (fun us ws => us) (fun vs zs => vs) := ⟨fun s us ws _ l1 l2 => .of_eq (match us, ws, l1, l2 with | [_, _], [], _, _ => rfl), fun r1 r3 => r1⟩
  have F_are_unlike_options := fun_mk (st := s_are_unlike_options) l_are_unlike_options c_are_unlike_options k_are_unlike_options
  have b_are_unlike_options := F_are_unlike_options.binds (ps := ["options", "names"]) fun _ _ _ _ _ _ us hl => match us, hl with | [_, _], _ => rfl
  have F_is_mark := fun_mk (st := s_is_mark) l_is_mark c_is_mark k_is_mark
  have b_is_mark := F_is_mark.binds (ps := ["thing"]) fun _ _ _ _ _ _ us hl => match us, hl with | [_], _ => rfl
  have F_are_tiers := fun_mk (st := s_are_tiers) l_are_tiers c_are_tiers k_are_tiers
  have b_are_tiers := F_are_tiers.binds (ps := ["options", "told"]) fun _ _ _ _ _ _ us hl => match us, hl with | [_, _], _ => rfl
  have F_are_marks := fun_mk (st := s_are_marks) l_are_marks c_are_marks k_are_marks
  have b_are_marks := F_are_marks.binds (ps := ["options", "told"]) fun _ _ _ _ _ _ us hl => match us, hl with | [_, _], _ => rfl
  have F_is_ballot := fun_mk (st := s_is_ballot) l_is_ballot c_is_ballot k_is_ballot
  have b_is_ballot := F_is_ballot.binds (ps := ["options", "thing"]) fun _ _ _ _ _ _ us hl => match us, hl with | [_, _], _ => rfl
  have F_is_row := fun_mk (st := s_is_row) l_is_row c_is_row k_is_row
  have b_is_row := F_is_row.binds (ps := ["options", "thing"]) fun _ _ _ _ _ _ us hl => match us, hl with | [_, _], _ => rfl
  have F_check_poll := fun_mk (st := s_check_poll) l_check_poll c_check_poll k_check_poll
  have b_check_poll := F_check_poll.binds (ps := ["options", "voices"]) fun _ _ _ _ _ _ us hl => match us, hl with | [_, _], _ => rfl
  have kb_check_poll_2 : KBn K (PySem.W.fnOf "check_poll" "check_poll" (defArgs s_check_poll) (defBody s_check_poll) (defScope s_check_poll) .none kV_check_poll dc_check_poll pm_check_poll an_check_poll cd_check_poll ct_check_poll) ["options", "voices"] 2 [] (fun us ws => us) (fun vs zs => vs) := ⟨fun s us ws _ l1 l2 => .of_eq (match us, ws, l1, l2 with | [_, _], [], _, _ => rfl), fun r1 r3 => r1⟩
  have F_Poll_init : FunD K "__init__" "Poll.__init__" (defArgs s_Poll_init) (defBody s_Poll_init) (defScope s_Poll_init) [V.ref e_Poll_init] [] f_Poll_init _ := ⟨⟨_, _, _, _, _, _, _, _, _, _, rfl, l_Poll_init, c_Poll_init, .inr ⟨by simp, _, _, [.ref e_Poll_init], _, rfl, lt_Poll_init, rfl, (.cons rfl Paired.nil)⟩, .inl rfl⟩, k_Poll_init⟩
  obtain ⟨ikb_Poll_init_3, kb_Poll_init_3⟩ := F_Poll_init.kbindsD (ps := ["self", "options", "voices"]) 3 [] (fun us its ws => us) (by simp) (fun r1 r2 r3 => r1) (fun _ _ _ _ _ _ _ us its ws l1 l2 l3 => match us, its, ws, l1, l2, l3 with | [_, _, _], [_], [], _, _, _ => ⟨_, rfl, rfl⟩)
  have F_order_ranks := fun_mk (st := s_order_ranks) l_order_ranks c_order_ranks k_order_ranks
  have b_order_ranks := F_order_ranks.binds (ps := ["options", "told"]) fun _ _ _ _ _ _ us hl => match us, hl with | [_, _], _ => rfl
  have F_ranks := fun_mk (st := s_ranks) l_ranks c_ranks k_ranks
  have b_ranks := F_ranks.binds (ps := ["options", "ballot"]) fun _ _ _ _ _ _ us hl => match us, hl with | [_, _], _ => rfl
  have F_tiers := fun_mk (st := s_tiers) l_tiers c_tiers k_tiers
  have b_tiers := F_tiers.binds (ps := ["options", "ballot"]) fun _ _ _ _ _ _ us hl => match us, hl with | [_, _], _ => rfl
  have F_named := fun_mk (st := s_named) l_named c_named k_named
  have b_named := F_named.binds (ps := ["ballot"]) fun _ _ _ _ _ _ us hl => match us, hl with | [_], _ => rfl
  have F_ranked := fun_mk (st := s_ranked) l_ranked c_ranked k_ranked
  have b_ranked := F_ranked.binds (ps := ["poll"]) fun _ _ _ _ _ _ us hl => match us, hl with | [_], _ => rfl
  have F_margin_by := fun_mk (st := s_margin_by) l_margin_by c_margin_by k_margin_by
  have b_margin_by := F_margin_by.binds (ps := ["rows", "one", "other"]) fun _ _ _ _ _ _ us hl => match us, hl with | [_, _, _], _ => rfl
  have F_margins := fun_mk (st := s_margins) l_margins c_margins k_margins
  have b_margins := F_margins.binds (ps := ["poll"]) fun _ _ _ _ _ _ us hl => match us, hl with | [_], _ => rfl
  have F_alone_at := fun_mk (st := s_alone_at) l_alone_at c_alone_at k_alone_at
  have b_alone_at := F_alone_at.binds (ps := ["poll", "at"]) fun _ _ _ _ _ _ us hl => match us, hl with | [_, _], _ => rfl
  have F_firsts := fun_mk (st := s_firsts) l_firsts c_firsts k_firsts
  have b_firsts := F_firsts.binds (ps := ["poll"]) fun _ _ _ _ _ _ us hl => match us, hl with | [_], _ => rfl
  have F_lasts := fun_mk (st := s_lasts) l_lasts c_lasts k_lasts
  have b_lasts := F_lasts.binds (ps := ["poll"]) fun _ _ _ _ _ _ us hl => match us, hl with | [_], _ => rfl
  have F_lets := fun_mk (st := s_lets) l_lets c_lets k_lets
  have b_lets := F_lets.binds (ps := ["poll"]) fun _ _ _ _ _ _ us hl => match us, hl with | [_], _ => rfl
  have F_points := fun_mk (st := s_points) l_points c_points k_points
  have b_points := F_points.binds (ps := ["poll"]) fun _ _ _ _ _ _ us hl => match us, hl with | [_], _ => rfl
  have F_margin := fun_mk (st := s_margin) l_margin c_margin k_margin
  have b_margin := F_margin.binds (ps := ["poll", "one", "other"]) fun _ _ _ _ _ _ us hl => match us, hl with | [_, _, _], _ => rfl
  have kb_margin_3 : KBn K (PySem.W.fnOf "margin" "margin" (defArgs s_margin) (defBody s_margin) (defScope s_margin) .none kV_margin dc_margin pm_margin an_margin cd_margin ct_margin) ["poll", "one", "other"] 3 [] (fun us ws => us) (fun vs zs => vs) := ⟨fun s us ws _ l1 l2 => .of_eq (match us, ws, l1, l2 with | [_, _, _], [], _, _ => rfl), fun r1 r3 => r1⟩
  have F_law_cell_at := fun_mk (st := s_law_cell_at) l_law_cell_at c_law_cell_at k_law_cell_at
  have b_law_cell_at := F_law_cell_at.binds (ps := ["_law_script", "_law_k"]) fun _ _ _ _ _ _ us hl => match us, hl with | [_, _], _ => rfl
  have F_law_well := fun_mk (st := s_law_well) l_law_well c_law_well k_law_well
  have b_law_well := F_law_well.binds (ps := ["_law_cell"]) fun _ _ _ _ _ _ us hl => match us, hl with | [_], _ => rfl
  have F_law_draw := fun_mk (st := s_law_draw) l_law_draw c_law_draw k_law_draw
  have b_law_draw := F_law_draw.binds (ps := ["_law_well_here", "_law_size"]) fun _ _ _ _ _ _ us hl => match us, hl with | [_, _], _ => rfl
  have F_law_one := fun_mk (st := s_law_one) l_law_one c_law_one k_law_one
  have b_law_one := F_law_one.binds (ps := ["_law_well_here", "_law_some"]) fun _ _ _ _ _ _ us hl => match us, hl with | [_, _], _ => rfl
  have F_law_options := fun_mk (st := s_law_options) l_law_options c_law_options k_law_options
  have b_law_options := F_law_options.binds (ps := ["_law_well_here", "_law_size"]) fun _ _ _ _ _ _ us hl => match us, hl with | [_, _], _ => rfl
  have F_law_shuffled := fun_mk (st := s_law_shuffled) l_law_shuffled c_law_shuffled k_law_shuffled
  have b_law_shuffled := F_law_shuffled.binds (ps := ["_law_well_here", "_law_some"]) fun _ _ _ _ _ _ us hl => match us, hl with | [_, _], _ => rfl
  have F_law_tiers_drawn := fun_mk (st := s_law_tiers_drawn) l_law_tiers_drawn c_law_tiers_drawn k_law_tiers_drawn
  have b_law_tiers_drawn := F_law_tiers_drawn.binds (ps := ["_law_well_here", "_law_some"]) fun _ _ _ _ _ _ us hl => match us, hl with | [_, _], _ => rfl
  have F_law_ballot := fun_mk (st := s_law_ballot) l_law_ballot c_law_ballot k_law_ballot
  have b_law_ballot := F_law_ballot.binds (ps := ["_law_well_here", "_law_options_here"]) fun _ _ _ _ _ _ us hl => match us, hl with | [_, _], _ => rfl
  have F_law_rows := fun_mk (st := s_law_rows) l_law_rows c_law_rows k_law_rows
  have b_law_rows := F_law_rows.binds (ps := ["_law_well_here", "_law_options_here", "_law_size"]) fun _ _ _ _ _ _ us hl => match us, hl with | [_, _, _], _ => rfl
  have F_law_high := fun_mk (st := s_law_high) l_law_high c_law_high k_law_high
  have b_law_high := F_law_high.binds (ps := ["_law_options_here", "_law_ballot_here"]) fun _ _ _ _ _ _ us hl => match us, hl with | [_, _], _ => rfl
  have F_law_tiers := fun_mk (st := s_law_tiers) l_law_tiers c_law_tiers k_law_tiers
  have b_law_tiers := F_law_tiers.binds (ps := ["_law_options_here", "_law_ballot_here"]) fun _ _ _ _ _ _ us hl => match us, hl with | [_, _], _ => rfl
  have F_law_margin := fun_mk (st := s_law_margin) l_law_margin c_law_margin k_law_margin
  have b_law_margin := F_law_margin.binds (ps := ["_law_options_here", "_law_rows_here", "_law_one_here", "_law_other"]) fun _ _ _ _ _ _ us hl => match us, hl with | [_, _, _, _], _ => rfl
  have F_law_alone := fun_mk (st := s_law_alone) l_law_alone c_law_alone k_law_alone
  have b_law_alone := F_law_alone.binds (ps := ["_law_drawn", "_law_rows_here", "_law_spot"]) fun _ _ _ _ _ _ us hl => match us, hl with | [_, _, _], _ => rfl
  have F_law_let := fun_mk (st := s_law_let) l_law_let c_law_let k_law_let
  have b_law_let := F_law_let.binds (ps := ["_law_drawn", "_law_rows_here"]) fun _ _ _ _ _ _ us hl => match us, hl with | [_, _], _ => rfl
  have F_law_refused := fun_mk (st := s_law_refused) l_law_refused c_law_refused k_law_refused
  have b_law_refused := F_law_refused.binds (ps := ["_law_poll", "_law_first", "_law_second"]) fun _ _ _ _ _ _ us hl => match us, hl with | [_, _, _], _ => rfl
  have F_law_right := fun_mk (st := s_law_right) l_law_right c_law_right k_law_right
  have b_law_right := F_law_right.binds (ps := ["_law_poll", "_law_drawn", "_law_rows_here"]) fun _ _ _ _ _ _ us hl => match us, hl with | [_, _, _], _ => rfl
  have F_law := fun_mk (st := s_law) l_law c_law k_law
  have b_law := F_law.binds (ps := ["_law_script"]) fun _ _ _ _ _ _ us hl => match us, hl with | [_], _ => rfl
  have ok_NoOption : OkyC K C_NoOption := ⟨⟨_, _, _, _, _, _, _, _, _, _, _, _, _, _, xL_NoOption⟩, sa_NoOption, eC_NoOption, tC_NoOption, kC_NoOption⟩
  have ox_PollError : OexC K C_PollError := ⟨⟨_, _, _, _, _, _, _, _, _, _, _, _, _, _, _, xL_PollError, rfl⟩, sa_PollError, eC_PollError, tC_PollError, kC_PollError⟩
  have ox_BadPoll : OexC K C_BadPoll := ⟨⟨_, _, _, _, _, _, _, _, _, _, _, _, _, _, _, xL_BadPoll, rfl⟩, sa_BadPoll, eC_BadPoll, tC_BadPoll, kC_BadPoll⟩
  let T : Txt K mg := {
    f_PollError_init := _, fd_PollError_init := _, F_PollError_init := F_PollError_init, gkb_PollError_init_2 := _, kb_PollError_init_2 := kb_PollError_init_2,
    f_NoOption_init := _, fd_NoOption_init := _, F_NoOption_init := F_NoOption_init, b_NoOption_init := b_NoOption_init, gkb_NoOption_init_2 := _, kb_NoOption_init_2 := kb_NoOption_init_2,
    f_is_whole := _, fd_is_whole := _, F_is_whole := F_is_whole, b_is_whole := b_is_whole, g_is_whole := PySem.W.mg_of X G a_is_whole,
    f_is_name := _, fd_is_name := _, F_is_name := F_is_name, b_is_name := b_is_name, g_is_name := PySem.W.mg_of X G a_is_name,
    f_is_tuple_of := _, fd_is_tuple_of := _, F_is_tuple_of := F_is_tuple_of, b_is_tuple_of := b_is_tuple_of, g_is_tuple_of := PySem.W.mg_of X G a_is_tuple_of,
    f_are_names := _, fd_are_names := _, F_are_names := F_are_names, b_are_names := b_are_names, g_are_names := PySem.W.mg_of X G a_are_names,
    f_are_options := _, fd_are_options := _, F_are_options := F_are_options, b_are_options := b_are_options, g_are_options := PySem.W.mg_of X G a_are_options,
    f_is_option := _, fd_is_option := _, F_is_option := F_is_option, b_is_option := b_is_option, g_is_option := PySem.W.mg_of X G a_is_option,
    f_check_option := _, fd_check_option := _, F_check_option := F_check_option, b_check_option := b_check_option, gkb_check_option_2 := _, kb_check_option_2 := kb_check_option_2, g_check_option := PySem.W.mg_of X G a_check_option,
    f_are_unlike_options := _, fd_are_unlike_options := _, F_are_unlike_options := F_are_unlike_options, b_are_unlike_options := b_are_unlike_options, g_are_unlike_options := PySem.W.mg_of X G a_are_unlike_options,
    f_is_mark := _, fd_is_mark := _, F_is_mark := F_is_mark, b_is_mark := b_is_mark, g_is_mark := PySem.W.mg_of X G a_is_mark,
    f_are_tiers := _, fd_are_tiers := _, F_are_tiers := F_are_tiers, b_are_tiers := b_are_tiers, g_are_tiers := PySem.W.mg_of X G a_are_tiers,
    f_are_marks := _, fd_are_marks := _, F_are_marks := F_are_marks, b_are_marks := b_are_marks, g_are_marks := PySem.W.mg_of X G a_are_marks,
    f_is_ballot := _, fd_is_ballot := _, F_is_ballot := F_is_ballot, b_is_ballot := b_is_ballot, g_is_ballot := PySem.W.mg_of X G a_is_ballot,
    f_is_row := _, fd_is_row := _, F_is_row := F_is_row, b_is_row := b_is_row, g_is_row := PySem.W.mg_of X G a_is_row,
    f_check_poll := _, fd_check_poll := _, F_check_poll := F_check_poll, b_check_poll := b_check_poll, gkb_check_poll_2 := _, kb_check_poll_2 := kb_check_poll_2, g_check_poll := PySem.W.mg_of X G a_check_poll,
    f_Poll_init := _, fd_Poll_init := _, e_Poll_init := _, F_Poll_init := F_Poll_init, gkb_Poll_init_3 := _, kb_Poll_init_3 := kb_Poll_init_3,
    f_order_ranks := _, fd_order_ranks := _, F_order_ranks := F_order_ranks, b_order_ranks := b_order_ranks, g_order_ranks := PySem.W.mg_of X G a_order_ranks,
    f_ranks := _, fd_ranks := _, F_ranks := F_ranks, b_ranks := b_ranks, g_ranks := PySem.W.mg_of X G a_ranks,
    f_tiers := _, fd_tiers := _, F_tiers := F_tiers, b_tiers := b_tiers, g_tiers := PySem.W.mg_of X G a_tiers,
    f_named := _, fd_named := _, F_named := F_named, b_named := b_named, g_named := PySem.W.mg_of X G a_named,
    f_ranked := _, fd_ranked := _, F_ranked := F_ranked, b_ranked := b_ranked, g_ranked := PySem.W.mg_of X G a_ranked,
    f_margin_by := _, fd_margin_by := _, F_margin_by := F_margin_by, b_margin_by := b_margin_by, g_margin_by := PySem.W.mg_of X G a_margin_by,
    f_margins := _, fd_margins := _, F_margins := F_margins, b_margins := b_margins, g_margins := PySem.W.mg_of X G a_margins,
    f_alone_at := _, fd_alone_at := _, F_alone_at := F_alone_at, b_alone_at := b_alone_at, g_alone_at := PySem.W.mg_of X G a_alone_at,
    f_firsts := _, fd_firsts := _, F_firsts := F_firsts, b_firsts := b_firsts, g_firsts := PySem.W.mg_of X G a_firsts,
    f_lasts := _, fd_lasts := _, F_lasts := F_lasts, b_lasts := b_lasts, g_lasts := PySem.W.mg_of X G a_lasts,
    f_lets := _, fd_lets := _, F_lets := F_lets, b_lets := b_lets, g_lets := PySem.W.mg_of X G a_lets,
    f_points := _, fd_points := _, F_points := F_points, b_points := b_points, g_points := PySem.W.mg_of X G a_points,
    f_margin := _, fd_margin := _, F_margin := F_margin, b_margin := b_margin, gkb_margin_3 := _, kb_margin_3 := kb_margin_3, g_margin := PySem.W.mg_of X G a_margin,
    f_law_cell_at := _, fd_law_cell_at := _, F_law_cell_at := F_law_cell_at, b_law_cell_at := b_law_cell_at, g_law_cell_at := PySem.W.mg_of X G a_law_cell_at,
    f_law_well := _, fd_law_well := _, F_law_well := F_law_well, b_law_well := b_law_well, g_law_well := PySem.W.mg_of X G a_law_well,
    f_law_draw := _, fd_law_draw := _, F_law_draw := F_law_draw, b_law_draw := b_law_draw, g_law_draw := PySem.W.mg_of X G a_law_draw,
    f_law_one := _, fd_law_one := _, F_law_one := F_law_one, b_law_one := b_law_one, g_law_one := PySem.W.mg_of X G a_law_one,
    f_law_options := _, fd_law_options := _, F_law_options := F_law_options, b_law_options := b_law_options, g_law_options := PySem.W.mg_of X G a_law_options,
    f_law_shuffled := _, fd_law_shuffled := _, F_law_shuffled := F_law_shuffled, b_law_shuffled := b_law_shuffled, g_law_shuffled := PySem.W.mg_of X G a_law_shuffled,
    f_law_tiers_drawn := _, fd_law_tiers_drawn := _, F_law_tiers_drawn := F_law_tiers_drawn, b_law_tiers_drawn := b_law_tiers_drawn, g_law_tiers_drawn := PySem.W.mg_of X G a_law_tiers_drawn,
    f_law_ballot := _, fd_law_ballot := _, F_law_ballot := F_law_ballot, b_law_ballot := b_law_ballot, g_law_ballot := PySem.W.mg_of X G a_law_ballot,
    f_law_rows := _, fd_law_rows := _, F_law_rows := F_law_rows, b_law_rows := b_law_rows, g_law_rows := PySem.W.mg_of X G a_law_rows,
    f_law_high := _, fd_law_high := _, F_law_high := F_law_high, b_law_high := b_law_high, g_law_high := PySem.W.mg_of X G a_law_high,
    f_law_tiers := _, fd_law_tiers := _, F_law_tiers := F_law_tiers, b_law_tiers := b_law_tiers, g_law_tiers := PySem.W.mg_of X G a_law_tiers,
    f_law_margin := _, fd_law_margin := _, F_law_margin := F_law_margin, b_law_margin := b_law_margin, g_law_margin := PySem.W.mg_of X G a_law_margin,
    f_law_alone := _, fd_law_alone := _, F_law_alone := F_law_alone, b_law_alone := b_law_alone, g_law_alone := PySem.W.mg_of X G a_law_alone,
    f_law_let := _, fd_law_let := _, F_law_let := F_law_let, b_law_let := b_law_let, g_law_let := PySem.W.mg_of X G a_law_let,
    f_law_refused := _, fd_law_refused := _, F_law_refused := F_law_refused, b_law_refused := b_law_refused, g_law_refused := PySem.W.mg_of X G a_law_refused,
    f_law_right := _, fd_law_right := _, F_law_right := F_law_right, b_law_right := b_law_right, g_law_right := PySem.W.mg_of X G a_law_right,
    f_law := _, fd_law := _, F_law := F_law, b_law := b_law, g_law := PySem.W.mg_of X G a_law,
    C_NoOption := _, k_NoOption := PySem.W.mg_of X G aC_NoOption,
    ok_NoOption := ok_NoOption, ex_NoOption := exK_ky ok_NoOption ai_NoOption ti_NoOption,
    xf_NoOption := ⟨gt_NoOption, gg_NoOption, eC_NoOption, hC_NoOption⟩,
    nf_NoOption_name := nf_NoOption_name,
    C_PollError := _, k_PollError := PySem.W.mg_of X G aC_PollError,
    ox_PollError := ox_PollError, ex_PollError := exK_ve ox_PollError ai_PollError ti_PollError,
    xf_PollError := ⟨gt_PollError, gg_PollError, eC_PollError, hC_PollError⟩,
    nf_PollError_why := nf_PollError_why,
    rd_PollError := rd_PollError, ga_PollError := ga_PollError, fc_PollError_init := fc_PollError_init,
    C_BadPoll := _, k_BadPoll := PySem.W.mg_of X G aC_BadPoll,
    ox_BadPoll := ox_BadPoll, ex_BadPoll := exK_ve ox_BadPoll ai_BadPoll ti_BadPoll,
    xf_BadPoll := ⟨gt_BadPoll, gg_BadPoll, eC_BadPoll, hC_BadPoll⟩,
    nf_BadPoll_why := nf_BadPoll_why,
    C_Poll := _, k_Poll := PySem.W.mg_of X G aC_Poll,
    cl_Poll := ⟨pg_Poll, hd_Poll, po_Poll, sa_Poll⟩, mk_Poll := ⟨mk_Poll, ai_Poll, ii_Poll, kc_Poll⟩,
    n_Poll_options := n_Poll_options,
    n_Poll_voices := n_Poll_voices,
    te_NoOption_NoOption := PySem.W.exm_ref eC_NoOption hC_NoOption tC_NoOption sb_NoOption_NoOption,
    vV := vV,
    z_ValueError := PySem.W.mg_none_of X G z_ValueError,
    z_isinstance := PySem.W.mg_none_of X G z_isinstance,
    z_bool := PySem.W.mg_none_of X G z_bool,
    z_int := PySem.W.mg_none_of X G z_int,
    z_str := PySem.W.mg_none_of X G z_str,
    z_len := PySem.W.mg_none_of X G z_len,
    z_all := PySem.W.mg_none_of X G z_all,
    z_tuple := PySem.W.mg_none_of X G z_tuple,
    z_enumerate := PySem.W.mg_none_of X G z_enumerate,
    z_sorted := PySem.W.mg_none_of X G z_sorted,
    z_set := PySem.W.mg_none_of X G z_set,
    z_list := PySem.W.mg_none_of X G z_list,
    z_sum := PySem.W.mg_none_of X G z_sum,
    z_range := PySem.W.mg_none_of X G z_range,
    z_dict := PySem.W.mg_none_of X G z_dict,
    t_LONGEST_NAME := t_LONGEST_NAME, c_LONGEST_NAME := PySem.W.mg_of X G cc_LONGEST_NAME,
    t_MOST_OPTIONS := t_MOST_OPTIONS, c_MOST_OPTIONS := PySem.W.mg_of X G cc_MOST_OPTIONS,
    t_GREATEST_MARK := t_GREATEST_MARK, c_GREATEST_MARK := PySem.W.mg_of X G cc_GREATEST_MARK,
    t_MOST_VOICES := t_MOST_VOICES, c_MOST_VOICES := PySem.W.mg_of X G cc_MOST_VOICES,
    t_MOST_ROWS := t_MOST_ROWS, c_MOST_ROWS := PySem.W.mg_of X G cc_MOST_ROWS }
  exact ⟨PySem.W.fnOf "law" "law" (defArgs s_law) (defBody s_law) (defScope s_law) .none kV_law dc_law pm_law an_law cd_law ct_law, fun s v => .of_eq rfl, fun base _ _ => ok_law T⟩
end Own
open PySem PySem.W PyProof.Rows
set_option maxHeartbeats 0 in
theorem PySem.Challenge.cw_voicefold_k21_counts_one_by_one_holds : PySem.Challenge.rw_voicefold_k21_counts_one_by_one.Holds := by
  w_on; o_law; k_head; (case hw => w_witness2)
  k_fill
  refine L2.walk_of (l := PySem.Challenge.rw_voicefold_k21_counts_one_by_one) (n := 63) (k := 9) (x := "_law_script") (CX := fun _ => L2.CX0) (sp := fun w => Own.sp_law _) rfl (by decide) rfl ⟨rfl, by decide, by decide⟩ (fun w h Y => PySem.W.kIn_of Y) ?F (fun _ _ a ns hl _ hS => ⟨a, ns, rfl, hS, hl, fun _ => rfl⟩) (fun _ _ _ _ _ h => h)
  case F =>
    intro w mg fa h KX G hmg
    refine' Own.all_mk KX G hmg ?lt_PollError_init ?l_PollError_init ?c_PollError_init ?k_PollError_init ?l_NoOption_init ?c_NoOption_init ?k_NoOption_init ?a_is_whole ?l_is_whole ?c_is_whole ?k_is_whole ?a_is_name ?l_is_name ?c_is_name ?k_is_name ?a_is_tuple_of ?l_is_tuple_of ?c_is_tuple_of ?k_is_tuple_of ?a_are_names ?l_are_names ?c_are_names ?k_are_names ?a_are_options ?l_are_options ?c_are_options ?k_are_options ?a_is_option ?l_is_option ?c_is_option ?k_is_option ?a_check_option ?l_check_option ?c_check_option ?k_check_option ?a_are_unlike_options ?l_are_unlike_options ?c_are_unlike_options ?k_are_unlike_options ?a_is_mark ?l_is_mark ?c_is_mark ?k_is_mark ?a_are_tiers ?l_are_tiers ?c_are_tiers ?k_are_tiers ?a_are_marks ?l_are_marks ?c_are_marks ?k_are_marks ?a_is_ballot ?l_is_ballot ?c_is_ballot ?k_is_ballot ?a_is_row ?l_is_row ?c_is_row ?k_is_row ?a_check_poll ?l_check_poll ?c_check_poll ?k_check_poll ?lt_Poll_init ?l_Poll_init ?c_Poll_init ?k_Poll_init ?a_order_ranks ?l_order_ranks ?c_order_ranks ?k_order_ranks ?a_ranks ?l_ranks ?c_ranks ?k_ranks ?a_tiers ?l_tiers ?c_tiers ?k_tiers ?a_named ?l_named ?c_named ?k_named ?a_ranked ?l_ranked ?c_ranked ?k_ranked ?a_margin_by ?l_margin_by ?c_margin_by ?k_margin_by ?a_margins ?l_margins ?c_margins ?k_margins ?a_alone_at ?l_alone_at ?c_alone_at ?k_alone_at ?a_firsts ?l_firsts ?c_firsts ?k_firsts ?a_lasts ?l_lasts ?c_lasts ?k_lasts ?a_lets ?l_lets ?c_lets ?k_lets ?a_points ?l_points ?c_points ?k_points ?a_margin ?l_margin ?c_margin ?k_margin ?a_law_cell_at ?l_law_cell_at ?c_law_cell_at ?k_law_cell_at ?a_law_well ?l_law_well ?c_law_well ?k_law_well ?a_law_draw ?l_law_draw ?c_law_draw ?k_law_draw ?a_law_one ?l_law_one ?c_law_one ?k_law_one ?a_law_options ?l_law_options ?c_law_options ?k_law_options ?a_law_shuffled ?l_law_shuffled ?c_law_shuffled ?k_law_shuffled ?a_law_tiers_drawn ?l_law_tiers_drawn ?c_law_tiers_drawn ?k_law_tiers_drawn ?a_law_ballot ?l_law_ballot ?c_law_ballot ?k_law_ballot ?a_law_rows ?l_law_rows ?c_law_rows ?k_law_rows ?a_law_high ?l_law_high ?c_law_high ?k_law_high ?a_law_tiers ?l_law_tiers ?c_law_tiers ?k_law_tiers ?a_law_margin ?l_law_margin ?c_law_margin ?k_law_margin ?a_law_alone ?l_law_alone ?c_law_alone ?k_law_alone ?a_law_let ?l_law_let ?c_law_let ?k_law_let ?a_law_refused ?l_law_refused ?c_law_refused ?k_law_refused ?a_law_right ?l_law_right ?c_law_right ?k_law_right ?a_law ?l_law ?c_law ?k_law ?aC_NoOption ?xL_NoOption ?sa_NoOption ?gt_NoOption ?gg_NoOption ?ai_NoOption ?ti_NoOption ?kC_NoOption ?eC_NoOption ?tC_NoOption ?hC_NoOption ?nf_NoOption_name ?aC_PollError ?xL_PollError ?sa_PollError ?gt_PollError ?gg_PollError ?ai_PollError ?ti_PollError ?kC_PollError ?eC_PollError ?tC_PollError ?hC_PollError ?nf_PollError_why ?rd_PollError ?ga_PollError ?fc_PollError_init ?aC_BadPoll ?xL_BadPoll ?sa_BadPoll ?gt_BadPoll ?gg_BadPoll ?ai_BadPoll ?ti_BadPoll ?kC_BadPoll ?eC_BadPoll ?tC_BadPoll ?hC_BadPoll ?nf_BadPoll_why ?aC_Poll ?pg_Poll ?hd_Poll ?po_Poll ?sa_Poll ?mk_Poll ?kc_Poll ?ai_Poll ?ii_Poll ?n_Poll_options ?n_Poll_voices ?sb_NoOption_NoOption ?vV ?z_ValueError ?z_isinstance ?z_bool ?z_int ?z_str ?z_len ?z_all ?z_tuple ?z_enumerate ?z_sorted ?z_set ?z_list ?z_sum ?z_range ?z_dict ?cc_LONGEST_NAME ?cc_MOST_OPTIONS ?cc_GREATEST_MARK ?cc_MOST_VOICES ?cc_MOST_ROWS
    (case a_is_whole => k_is); (case a_is_name => k_is); (case a_is_tuple_of => k_is); (case a_are_names => k_is); (case a_are_options => k_is); (case a_is_option => k_is); (case a_check_option => k_is); (case a_are_unlike_options => k_is); (case a_is_mark => k_is); (case a_are_tiers => k_is); (case a_are_marks => k_is); (case a_is_ballot => k_is); (case a_is_row => k_is); (case a_check_poll => k_is); (case a_order_ranks => k_is); (case a_ranks => k_is); (case a_tiers => k_is); (case a_named => k_is); (case a_ranked => k_is); (case a_margin_by => k_is); (case a_margins => k_is); (case a_alone_at => k_is); (case a_firsts => k_is); (case a_lasts => k_is); (case a_lets => k_is); (case a_points => k_is); (case a_margin => k_is); (case a_law_cell_at => k_is); (case a_law_well => k_is); (case a_law_draw => k_is); (case a_law_one => k_is); (case a_law_options => k_is); (case a_law_shuffled => k_is); (case a_law_tiers_drawn => k_is); (case a_law_ballot => k_is); (case a_law_rows => k_is); (case a_law_high => k_is); (case a_law_tiers => k_is); (case a_law_margin => k_is); (case a_law_alone => k_is); (case a_law_let => k_is); (case a_law_refused => k_is); (case a_law_right => k_is); (case a_law => k_is); (case aC_NoOption => k_is); (case aC_PollError => k_is); (case aC_BadPoll => k_is); (case aC_Poll => k_is); (case cc_LONGEST_NAME => k_is); (case cc_MOST_OPTIONS => k_is); (case cc_GREATEST_MARK => k_is); (case cc_MOST_VOICES => k_is); (case cc_MOST_ROWS => k_is); (case ai_NoOption => k_is); (case ai_PollError => k_is); (case ai_BadPoll => k_is); (case ai_Poll => k_is); (case l_PollError_init => k_is); (case l_NoOption_init => k_is); (case l_is_whole => k_is); (case l_is_name => k_is); (case l_is_tuple_of => k_is); (case l_are_names => k_is); (case l_are_options => k_is); (case l_is_option => k_is); (case l_check_option => k_is); (case l_are_unlike_options => k_is); (case l_is_mark => k_is); (case l_are_tiers => k_is); (case l_are_marks => k_is); (case l_is_ballot => k_is); (case l_is_row => k_is); (case l_check_poll => k_is); (case l_Poll_init => k_is); (case l_order_ranks => k_is); (case l_ranks => k_is); (case l_tiers => k_is); (case l_named => k_is); (case l_ranked => k_is); (case l_margin_by => k_is); (case l_margins => k_is); (case l_alone_at => k_is); (case l_firsts => k_is); (case l_lasts => k_is); (case l_lets => k_is); (case l_points => k_is); (case l_margin => k_is); (case l_law_cell_at => k_is); (case l_law_well => k_is); (case l_law_draw => k_is); (case l_law_one => k_is); (case l_law_options => k_is); (case l_law_shuffled => k_is); (case l_law_tiers_drawn => k_is); (case l_law_ballot => k_is); (case l_law_rows => k_is); (case l_law_high => k_is); (case l_law_tiers => k_is); (case l_law_margin => k_is); (case l_law_alone => k_is); (case l_law_let => k_is); (case l_law_refused => k_is); (case l_law_right => k_is); (case l_law => k_is); (case xL_NoOption => k_is); (case xL_PollError => k_is); (case xL_BadPoll => k_is); (case lt_PollError_init => k_is); (case lt_Poll_init => k_is); (case c_PollError_init => k_is); (case k_PollError_init => k_is); (case c_NoOption_init => k_is); (case k_NoOption_init => k_is); (case c_is_whole => k_is); (case k_is_whole => k_is); (case c_is_name => k_is); (case k_is_name => k_is); (case c_is_tuple_of => k_is); (case k_is_tuple_of => k_is); (case c_are_names => k_is); (case k_are_names => k_is); (case c_are_options => k_is); (case k_are_options => k_is); (case c_is_option => k_is); (case k_is_option => k_is); (case c_check_option => k_is); (case k_check_option => k_is); (case c_are_unlike_options => k_is); (case k_are_unlike_options => k_is); (case c_is_mark => k_is); (case k_is_mark => k_is); (case c_are_tiers => k_is); (case k_are_tiers => k_is); (case c_are_marks => k_is); (case k_are_marks => k_is); (case c_is_ballot => k_is); (case k_is_ballot => k_is); (case c_is_row => k_is); (case k_is_row => k_is); (case c_check_poll => k_is); (case k_check_poll => k_is); (case c_Poll_init => k_is); (case k_Poll_init => k_is); (case c_order_ranks => k_is); (case k_order_ranks => k_is); (case c_ranks => k_is); (case k_ranks => k_is); (case c_tiers => k_is); (case k_tiers => k_is); (case c_named => k_is); (case k_named => k_is); (case c_ranked => k_is); (case k_ranked => k_is); (case c_margin_by => k_is); (case k_margin_by => k_is); (case c_margins => k_is); (case k_margins => k_is); (case c_alone_at => k_is); (case k_alone_at => k_is); (case c_firsts => k_is); (case k_firsts => k_is); (case c_lasts => k_is); (case k_lasts => k_is); (case c_lets => k_is); (case k_lets => k_is); (case c_points => k_is); (case k_points => k_is); (case c_margin => k_is); (case k_margin => k_is); (case c_law_cell_at => k_is); (case k_law_cell_at => k_is); (case c_law_well => k_is); (case k_law_well => k_is); (case c_law_draw => k_is); (case k_law_draw => k_is); (case c_law_one => k_is); (case k_law_one => k_is); (case c_law_options => k_is); (case k_law_options => k_is); (case c_law_shuffled => k_is); (case k_law_shuffled => k_is); (case c_law_tiers_drawn => k_is); (case k_law_tiers_drawn => k_is); (case c_law_ballot => k_is); (case k_law_ballot => k_is); (case c_law_rows => k_is); (case k_law_rows => k_is); (case c_law_high => k_is); (case k_law_high => k_is); (case c_law_tiers => k_is); (case k_law_tiers => k_is); (case c_law_margin => k_is); (case k_law_margin => k_is); (case c_law_alone => k_is); (case k_law_alone => k_is); (case c_law_let => k_is); (case k_law_let => k_is); (case c_law_refused => k_is); (case k_law_refused => k_is); (case c_law_right => k_is); (case k_law_right => k_is); (case c_law => k_is); (case k_law => k_is); (case sa_NoOption => k_is); (case gt_NoOption => k_is); (case gg_NoOption => k_is); (case ti_NoOption => k_is); (case kC_NoOption => k_is); (case eC_NoOption => k_is); (case tC_NoOption => k_is); (case hC_NoOption => k_is); (case nf_NoOption_name => first | k_is | rfl | decide +kernel); (case sa_PollError => k_is); (case gt_PollError => k_is); (case gg_PollError => k_is); (case ti_PollError => k_is); (case kC_PollError => k_is); (case eC_PollError => k_is); (case tC_PollError => k_is); (case hC_PollError => k_is); (case nf_PollError_why => first | k_is | rfl | decide +kernel); (case rd_PollError => k_is); (case ga_PollError => k_is); (case fc_PollError_init => first | k_is | rfl | decide +kernel); (case sa_BadPoll => k_is); (case gt_BadPoll => k_is); (case gg_BadPoll => k_is); (case ti_BadPoll => k_is); (case kC_BadPoll => k_is); (case eC_BadPoll => k_is); (case tC_BadPoll => k_is); (case hC_BadPoll => k_is); (case nf_BadPoll_why => first | k_is | rfl | decide +kernel); (case pg_Poll => k_is); (case hd_Poll => k_is); (case po_Poll => k_is); (case sa_Poll => k_is); (case mk_Poll => k_is); (case kc_Poll => k_is); (case ii_Poll => k_is); (case n_Poll_options => k_is); (case n_Poll_voices => k_is); (case sb_NoOption_NoOption => first | k_is | rfl | decide +kernel); (case vV => first | k_is | rfl | decide +kernel); (case z_ValueError => k_is); (case z_isinstance => k_is); (case z_bool => k_is); (case z_int => k_is); (case z_str => k_is); (case z_len => k_is); (case z_all => k_is); (case z_tuple => k_is); (case z_enumerate => k_is); (case z_sorted => k_is); (case z_set => k_is); (case z_list => k_is); (case z_sum => k_is); (case z_range => k_is); (case z_dict => k_is)
