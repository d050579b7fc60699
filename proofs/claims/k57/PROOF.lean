import PyProof.Rows.All
import Wide.All
import OpenK.AllK
import Wide.FinOn
import HandS.ForMost
import HandS.Wide
import HandS.IsInst
import HandS.Style
import HandS.Walk
import HandS.LawCells
import HandS.TupAny
import HandS.Deep
import HandS.Strs
import HandS.DictComp
import HandS.More
import HandS.CallLocal
import HandS.TryOnly
import HandS.Sort
import HandS.MakeKwOnly
import HandS.ForExc
import HandS.Defaults
import HandS.ExcInit
import HandS.CallSlots
import HandS.ExcIs
import HandS.ExcField
import HandS.MakeKw
import HandS.FStr
import HandS.RaiseMore
import HandS.Base
import HandS.Dict
import HandS.Zip
import HandS.ListItems
import HandS.Lambda
import HandS.EndBits
import HandS.EndTab
import HandS.List
import HandS.Remove
import HandS.Call
import HandS.Exc
import HandS.SetFor
import KE.KExcIs
import KE.KCallOwn
import KE.KDictPairs
import KE.KDictZip
import KE.GoesZip
import KE.GoesMore
import PyProof.TupleOfStr
import KE.KIndexOf
import PyProof.EqAt
import PyProof.EqKinds
import PyProof.TupleCall
import KE.KDictList
import PySem.Challenge.RW_voicefold_k57_slack_counted
set_option Elab.async false
set_option linter.all false
set_option maxRecDepth 100000
set_option maxHeartbeats 4000000
/-! Own rules: exceptions of own classes made with keywords, in any place; calls with keywords that may raise. -/
namespace PySem
namespace OwnK
open PySem.W PySem.Calls PyProof.Rows PySem.HandSPX
section
variable {M : Model} {A : Around} {E : Value → Shared → Prop} {h : Heap} {g : Array GenState} {d : Drawn} {t : Nat} {os : OsState}
variable {nm q : Str} {C N : Addr} {bs bm bmB : List Value} {hd : Bool} {sn : List Str} {sub : List Value} {ab : Bool} {col : Option Bool} {dd : Option Addr} {k0 k1 k2 k3 k5 : Option Value} {B newId initId : String}
/-- the look ahead of the base's __new__, keywords or none -/
theorem newLook (F : ExcBaseFacts B newId initId bmB) (hT : bm.contains (.type B) = true ∧ bm.contains (.type "AttributeError") = false ∧ bm.contains (.type "NameError") = false) {rest : List Value} {kw : List (Str × Value)} {Q : Unit → Shared → Prop}
    (hC : h.get? C = some (excClassObj nm q C N bs bm hd sn sub ab col dd k0 k1 k2 k3 k5 newId)) (z : Q () ⟨h, g, d, t, os⟩) : wpAny M A (checkBuiltinCall newId ⟨.ref C :: rest, kw⟩) Q E ⟨h, g, d, t, os⟩ := by
  have hB : (Value.ref C :: bm).contains (.type B) = true := by
    rw [List.contains_cons, hT.1]
    exact Bool.or_true _
  have st := F.noStar
  simp only [checkBuiltinCall, F.newKind, F.newSplit, F.newRow]
  repeat (first
    | refine wpAny_loadPart_at hC ?_
    | (refine wpAny_isSubtype_exc hC ?_; rw [hB])
    | refine wpAny_staticBase_exc hC ?_
    | refine wpAny_madeBy_exc hC ?_
    | simp only [bne_self_eq_false, Bool.false_eq_true, if_false]
    | wp_step)
  exact z
end
section
variable {prog : Program} {w : World} {A : Around} {E : Value → Shared → Prop} {R : Result → Shared → Prop} {h : Heap} {g : Array GenState} {d : Drawn} {t : Nat} {os : OsState}
variable {nm q : Str} {C N : Addr} {bs bm bmB : List Value} {hd : Bool} {sn : List Str} {sub : List Value} {ab : Bool} {col : Option Bool} {dd : Option Addr} {k0 k1 k2 k3 k5 : Option Value} {B newId initId : String}
theorem newRun (F : ExcBaseFacts B newId initId bmB) (hT : bm.contains (.type B) = true ∧ bm.contains (.type "AttributeError") = false ∧ bm.contains (.type "NameError") = false) {rest : List Value} {kw : List (Str × Value)}
    (hC : h.get? C = some (excClassObj nm q C N bs bm hd sn sub ab col dd k0 k1 k2 k3 k5 newId))
    (z : R (.ok (.ret (.ref (h.objs.size + 1)))) ⟨(h.push (kdv_tup rest)).push (excO C h.objs.size), g, d, t, os⟩) (hr : rest.length ≤ sizeLine) :
    codeAny (model prog w) A (.builtin newId ⟨.ref C :: rest, kw⟩) R ⟨h, g, d, t, os⟩ := by
  have en := F.ends
  have hB : (Value.ref C :: bm).contains (.type B) = true := by
    rw [List.contains_cons, hT.1]
    exact Bool.or_true _
  have hA : (Value.ref C :: bm).contains (.type "AttributeError") = false := by
    rw [List.contains_cons, hT.2.1] <;> rfl
  have hN : (Value.ref C :: bm).contains (.type "NameError") = false := by
    rw [List.contains_cons, hT.2.2] <;> rfl
  refine codeAny_builtinAt F.entry ?_
  unfold Builtin.«BaseException.__new__»
  refine wpAt_bind ?_
  show wpAt _ _ _ (stack >>= _) _ _ _
  refine wpAt_bind (wpAt_stack fun p below => wpAt_of_wpAny ?_)
  wp_walk
  refine wpAt_of_wpAny ?_
  rw [F.owner]
  repeat (first
    | with_reducible refine wpAny_madeHere_exc F.canon hC ?_
    | with_reducible refine wpAny_loadPart_at hC ?_
    | (with_reducible refine wpAny_isSubtype_exc hC ?_; first | rw [hB] | rw [hA] | rw [hN])
    | wp_step)
  show R _ _
  rw [Heap.size_push]
  exact z
/-- the base's type.__call__, then the own __init__ -/
theorem typeCallRun (F : ExcBaseFacts B newId initId bmB) (hT : bm.contains (.type B) = true ∧ bm.contains (.type "AttributeError") = false ∧ bm.contains (.type "NameError") = false) {rest : List Value} {kw : List (Str × Value)} {fI : Addr} {Q : Fin → Shared → Prop}
    (hC : h.get? C = some (excClassObj nm q C N bs bm hd sn sub ab col dd k0 k1 k2 k3 k5 newId))
    (hi : Looks (model prog w) h (typeLookup (.ref C) "__init__") (some (.ref fI))) (hb : ∀ self, Looks (model prog w) h (bindSpecial (.ref fI) self) (.ref fI, [self])) (hr : rest.length ≤ sizeLine)
    (z : codeAny (model prog w) A (.call (.ref fI) ⟨.ref (h.objs.size + 1) :: rest, kw⟩)
      (fun r s' => match r with | .ok (.ret v) => v = .none ∧ Q (.done (.ret (.ref (h.objs.size + 1)))) s' | .ok _ => False | .error e => E e s')
      ⟨(h.push (kdv_tup rest)).push (excO C h.objs.size), g, d, t, os⟩) :
    wpAny (model prog w) A (Builtin.«type.__call__» ⟨.ref C :: rest, kw⟩) Q E ⟨h, g, d, t, os⟩ := by
  repeat (first
    | with_reducible refine wpAny_loadPart_at hC ?_
    | with_reducible refine wpAny_madeBy_exc hC ?_
    | wp_step)
  refine codeAny_call_builtin_code (Code.quiet_builtin _ F.quiet) (newLook F hT hC ?_)
  refine newRun F hT hC ?_ hr
  show wpAny _ _ _ _ _ _
  have kk : ∀ b o, h.get? b = some o → ((h.push (kdv_tup rest)).push (excO C h.objs.size)).get? b = some o := fun b o e => Heap.get?_push_of_some _ (Heap.get?_push_of_some _ e)
  have hC1 := kk _ _ hC
  have hx : ((h.push (kdv_tup rest)).push (excO C h.objs.size)).get? (h.objs.size + 1) = some (excO C h.objs.size) := by heap_get
  have hs : (Value.ref C :: bm).contains (.ref C) = true := by simp
  have i1 := hi.keeps kk
  have b1 := (hb (.ref (h.objs.size + 1))).keeps kk
  unfold isInstance
  repeat (first
    | with_reducible refine wpAny_loadPart_at hx ?_
    | (with_reducible refine wpAny_isSubtype_exc hC1 ?_; rw [hs])
    | wp_step)
  show wpAny _ _ (typeLookup (.ref C) _) _ _ _
  refine i1.at (wpAny_holding (wpAny_bind (b1.at ?_)))
  refine wpAny_bind (wpAny_call (codeAny_mono z fun r s' y => ?_))
  rcases r with e | fl
  · exact y
  cases fl with
  | ret v =>
    obtain ⟨rfl, y⟩ := y
    first
    | exact wpAny_pure (wpAny_pure y)
    | (wp_walk; exact y)
  | next => exact y.elim
  | brk => exact y.elim
  | cont => exact y.elim
theorem excCall (F : ExcBaseFacts B newId initId bmB) (hT : bm.contains (.type B) = true ∧ bm.contains (.type "AttributeError") = false ∧ bm.contains (.type "NameError") = false) {rest : List Value} {kw : List (Str × Value)} {fI : Addr}
    (hC : h.get? C = some (excClassObj nm q C N bs bm hd sn sub ab col dd k0 k1 k2 k3 k5 newId))
    (hi : Looks (model prog w) h (typeLookup (.ref C) "__init__") (some (.ref fI))) (hb : ∀ self, Looks (model prog w) h (bindSpecial (.ref fI) self) (.ref fI, [self])) (hr : rest.length ≤ sizeLine)
    (z : codeAny (model prog w) (A.under (.builtin "type.__call__" ⟨.ref C :: rest, kw⟩)) (.call (.ref fI) ⟨.ref (h.objs.size + 1) :: rest, kw⟩) (InitBack (h.objs.size + 1) R)
      ⟨(h.push (kdv_tup rest)).push (excO C h.objs.size), g, d, t, os⟩) :
    codeAny (model prog w) A (.call (.ref C) ⟨rest, kw⟩) R ⟨h, g, d, t, os⟩ := by
  have f1 := tc_lookup
  have f2 := tc_bind (.ref C)
  have ty : (⟨h, g, d, t, os⟩ : Shared).TypeIs (.ref C) "type" := ⟨_, hC, rfl⟩
  refine codeAny_of_tree ?_
  show wpAny _ _ (callAny (.ref C) _) _ _ _
  repeat (any_goals (first
    | assumption
    | with_reducible refine wpAny_loadPart_at hC ?_
    | wp_step))
  refine ⟨rfl, ?_⟩
  have look : ∀ {Q : Unit → Shared → Prop} {E : Value → Shared → Prop} {A : Around}, Q () ⟨h, g, d, t, os⟩ → wpAny (model prog w) A (checkBuiltinCall "type.__call__" ⟨.ref C :: rest, kw⟩) Q E ⟨h, g, d, t, os⟩ := by
    intro Q E A hq
    have f3 := tc_sub
    simp only [checkBuiltinCall, tc_kind, tc_split]
    repeat (any_goals (first
      | assumption
      | with_reducible refine wpAny_loadPart_at hC ?_
      | with_reducible refine wpAny_onRaise ?_
      | with_reducible refine wpAny_map ?_
      | wp_step))
  refine codeAny_call_builtin_at (Code.quiet_builtin _ (by decide +kernel)) entry_typeCall (look (typeCallRun F hT hC hi hb hr ?_))
  refine codeAny_mono z fun r s' y => ?_
  rcases r with e | (v | _ | _ | _) <;> exact y
end
end OwnK
end PySem

namespace Own
open PySem PySem.Spec PyProof.Rows L2
/-! ### calls of any form: positional values and keywords bound by KBn; what is raised is wished for at the caller's slots -/
theorem at0 {X : Cx} (σ : L2.St) : PassesAt CX0 X σ E0 := fun _ _ _ _ _ _ z => z.elim
theorem atE {X : Cx} {W : WX} (tk : Takes X W) (σ : L2.St) : PassesAt (L2.CX X.prog X.w) X σ (WE W σ) := passAt tk σ
theorem atN {X : Cx} (σ : L2.St) : PassesAt (L2.CX X.prog X.w) X σ E0 := fun _ _ _ _ _ _ z => by
  obtain ⟨_, _, _, _, _, _, _, _, _, _, _, _, y⟩ := z
  exact y.elim
section
variable {X : Cx} {CX : CXT} {k n : Nat} {f C : Addr} {fd : FuncData} {ps ks : List Str} {sp : Sp} {E : L2.St → XK} {E1 : XK} {x m : Str} {p pos apos : Pos} {e o : Expr} {es : List Expr} {kws : List Keyword} {t tk : TA} {to : TE}
variable {g : List Value → List Value → List Value} {gV : List V → List V → List V} {pins : List (Addr × Obj)} {σ : L2.St} {H : Hp} {s : Shared} {Q : VK} {us ws : List Value} {vs zs : List V}
theorem runF (F : FnOk X.prog X.w X.K X.mg X.base CX k f fd ps sp) (hr : Room k X.A) (hb : KBn X.K fd ps n ks g gV) (hx : PassesAt CX X σ E1) (I : Inv X pins σ H s) (r : Vals vs us) (rz : Vals zs ws) (l1 : vs.length = n) (l2 : zs.length = ks.length)
    (h : sp (gV vs zs) H Q E1) : wpAny (model X.prog X.w) X.A (call (.ref f) us (ks.zip ws)) (EP X pins σ Q) X.xe s := by
  have b := hb.to s us ws I.kIn (r.length.symm.trans l1) (rz.length.symm.trans l2)
  refine wpAny_call (codeAny_mono (F.run X.A X.stack s H _ (g us ws) (gV vs zs) Q E1 hr I.env0 b (hb.rel r rz) h) fun r s' y => ?_)
  cases r with
  | error e => exact hx pins H s e s' I y
  | ok fl =>
    cases fl with
    | ret u => exact I.after y
    | next => exact y.elim
    | brk => exact y.elim
    | cont => exact y.elim
theorem runM (M : Mk X.K C f) (F : FnOk X.prog X.w X.K X.mg X.base CX k f fd ps sp) (hr : Room (k + 1) X.A) (hb : KBn X.K fd ps (n + 1) ks g gV) (hx : PassesAt CX X σ E1) (I : Inv X pins σ H s) (r : Vals vs us) (rz : Vals zs ws) (l1 : vs.length = n) (l2 : zs.length = ks.length)
    (h : ∀ a dx, H a = none → H dx = none → dx ≠ a → sp (gV (.ref a :: vs) zs) (upd (upd H dx (.own a)) a (.ins C dx [])) (fun v H2 => v = .non ∧ Q (.ref a) H2) E1) :
    wpAny (model X.prog X.w) X.A (call (.ref C) us (ks.zip ws)) (EP X pins σ Q) X.xe s := by
  have hq := h (s.heap.objs.size + 1) s.heap.objs.size (I.hok.fresh (Nat.le_succ _)) (I.hok.fresh (Nat.le_refl _)) (Nat.ne_of_lt (Nat.lt_succ_self _))
  have J := Inv.made (C := C) I
  have r1 : Vals (V.ref (s.heap.objs.size + 1) :: vs) (Value.ref (s.heap.objs.size + 1) :: us) := .cons rfl r
  have n1 : (Value.ref (s.heap.objs.size + 1) :: us).length = n + 1 := r1.length.symm.trans (congrArg Nat.succ l1)
  have b := hb.to _ (Value.ref (s.heap.objs.size + 1) :: us) ws J.kIn n1 (rz.length.symm.trans l2)
  refine wpAny_call (make_map (f := f) I.kIn M.makes M.init (beq_iff_eq.mp M.fn) (codeAny_mono (F.run _ X.stack _ _ _ _ _ _ E1 (hr.make C us (ks.zip ws)) (J.env0.make C us (ks.zip ws)) b (hb.rel r1 rz) hq) fun r s' y => ?_))
  cases r with
  | error e => exact hx pins _ _ e s' J y
  | ok fl =>
    cases fl with
    | ret u =>
      obtain ⟨v, H', I3, rv, ev, q3⟩ := J.after y
      subst ev
      exact ⟨rv, ⟨V.ref (s.heap.objs.size + 1), H', I3, rfl, q3⟩⟩
    | next => exact y.elim
    | brk => exact y.elim
    | cont => exact y.elim
/-- f(e, .., k = v, ..) -/
def tFn (n m : Nat) (sp : Sp) (gV : List V → List V → List V) (E : L2.St → XK) (t tk : TA) : TE := fun σ H Q => t σ H fun vs H1 => tk σ H1 fun zs H2 => vs.length = n ∧ zs.length = m ∧ sp (gV vs zs) H2 Q (E σ)
theorem pf_pos (F : FnOk X.prog X.w X.K X.mg X.base CX k f fd ps sp) (hr : Room k X.A) (hg : Gl X x) (hm : X.mg x = some (.ref f)) (hk : PySem.W.keepIn X.K (.ref f) = true) (hb : KBn X.K fd ps n [] g gV) (hx : ∀ σ, PassesAt CX X σ (E σ)) (ha : PA X (e :: es) t)
    (hdb : (x == ("__debug__" : Str)) = false := by decide) (he : starEach (e :: es) X.env = (false, eval e X.env) :: starEach es X.env := by rfl) (hpl : (backTo pos (starEach es X.env)).any (·.1) = false := by rfl) :
    PE X (.Call (.Name x p) (e :: es) [] pos) (tFn n 0 sp gV E t tNil) := by
  refine ⟨fun pins s σ H Q I h => wpAny_Call_Name_kw (ld_glob I hg hm ?_ hdb)⟩
  exact PySem.W.callWith_K (h₀ := X.base) I.ok.mod.kin hk (thn (ha.run pos pins s σ H _ I h) fun us s1 ⟨vs, H1, I1, r, l1, l2, q⟩ => ⟨I1.kIn, runF (ks := []) F hr hb (hx σ) I1 r (.nil : Vals [] []) l1 rfl q⟩) he hpl
theorem pf_both (F : FnOk X.prog X.w X.K X.mg X.base CX k f fd ps sp) (hr : Room k X.A) (hg : Gl X x) (hm : X.mg x = some (.ref f)) (hk : PySem.W.keepIn X.K (.ref f) = true) (hb : KBn X.K fd ps n ks g gV) (hx : ∀ σ, PassesAt CX X σ (E σ)) (ha : PA X (e :: es) t) (hkw : PK X kws tk)
    (hall : (backToKw pos (keywordEach kws X.env)).all (·.1.isSome) = true := by rfl) (hks : (backToKw pos (keywordEach kws X.env)).filterMap (·.1) = ks := by rfl) (hdb : (x == ("__debug__" : Str)) = false := by decide)
    (he : starEach (e :: es) X.env = (false, eval e X.env) :: starEach es X.env := by rfl) (hpl : ((backTo pos (starEach (e :: es) X.env)).any (·.1) || (backToKw pos (keywordEach kws X.env)).any (·.1.isNone)) = false := by rfl) :
    PE X (.Call (.Name x p) (e :: es) kws pos) (tFn n ks.length sp gV E t tk) := by
  refine ⟨fun pins s σ H Q I h => wpAny_Call_Name_kw (ld_glob I hg hm ?_ hdb)⟩
  refine PySem.W.callWith_KW (h₀ := X.base) I.ok.mod.kin hk hall (thn (ha.run pos pins s σ H _ I h) fun us s1 ⟨vs, H1, I1, r, q⟩ => ?_) hpl he
  refine thn (hkw.run pos pins s1 σ H1 _ I1 q) fun ws s2 ⟨zs, H2, I2, rz, l1, l2, q2⟩ => ⟨I2.kIn, ?_⟩
  rw [hks]
  exact runF F hr hb (hx σ) I2 r rz l1 l2 q2
theorem pf_kw (F : FnOk X.prog X.w X.K X.mg X.base CX k f fd ps sp) (hr : Room k X.A) (hg : Gl X x) (hm : X.mg x = some (.ref f)) (hk : PySem.W.keepIn X.K (.ref f) = true) (hb : KBn X.K fd ps 0 ks g gV) (hx : ∀ σ, PassesAt CX X σ (E σ)) (hkw : PK X kws tk)
    (hall : (backToKw pos (keywordEach kws X.env)).all (·.1.isSome) = true := by rfl) (hks : (backToKw pos (keywordEach kws X.env)).filterMap (·.1) = ks := by rfl) (hdb : (x == ("__debug__" : Str)) = false := by decide)
    (hpl : ((backTo pos (starEach [] X.env)).any (·.1) || (backToKw pos (keywordEach kws X.env)).any (·.1.isNone)) = false := by rfl) :
    PE X (.Call (.Name x p) [] kws pos) (tFn 0 ks.length sp gV E tNil tk) := by
  refine ⟨fun pins s σ H Q I h => wpAny_Call_Name_kw (ld_glob I hg hm ?_ hdb)⟩
  refine PySem.W.callWith_KW0 (h₀ := X.base) I.ok.mod.kin hk hall ?_ hpl
  refine thn (hkw.run pos pins s σ H _ I h) fun ws s2 ⟨zs, H2, I2, rz, l1, l2, q2⟩ => ⟨I2.kIn, ?_⟩
  rw [hks]
  exact runF (us := []) (vs := []) F hr hb (hx σ) I2 .nil rz rfl l2 q2
/-- o.m(e, .., k = v, ..) -/
def tMt (C : Addr) (m : Str) (n j : Nat) (sp : Sp) (gV : List V → List V → List V) (E : L2.St → XK) (to : TE) (t tk : TA) : TE := fun σ H Q => to σ H fun x H0 => ∃ a dx fs, x = .ref a ∧ H0 a = some (.ins C dx fs) ∧ fs.lookup m = none ∧
  t σ H0 fun vs H1 => tk σ H1 fun zs H2 => vs.length = n ∧ zs.length = j ∧ sp (gV (.ref a :: vs) zs) H2 Q (E σ)
theorem pm_pos {pl : Sem Bool} (ho : PE X o to) (c : Cls X.K C) (hm : Meth X.K C m f) (F : FnOk X.prog X.w X.K X.mg X.base CX k f fd ps sp) (hr : Room k X.A) (hb : KBn X.K fd ps (n + 1) [] g gV) (hx : ∀ σ, PassesAt CX X σ (E σ)) (ha : PA X (e :: es) t)
    (hst : starEach (e :: es) X.env = (false, eval e X.env) :: starEach es X.env := by rfl) (hpl : (backTo pos (starEach es X.env)).any (·.1) = false := by rfl)
    (ht : eval (.Call (.Attribute o m apos) (e :: es) [] pos) X.env = (do
      let ov ← eval o X.env
      standAt apos.atName
      let (f, first) ← holding [ov] (getMethod ov m pl)
      callWith pos f first (backTo pos (starEach (e :: es) X.env)) (backToKw pos (keywordEach [] X.env))) := by rfl) :
    PE X (.Call (.Attribute o m apos) (e :: es) [] pos) (tMt C m n 0 sp gV E to t tNil) := by
  refine ⟨fun pins s σ H Q I h => ?_⟩
  refine PySem.W.methodCall_KW (pl := pl) (thn (ho.run pins s σ H _ I h) fun u s1 ⟨x, H1, I1, rx, a, dx, fs, ex, ea, l, q⟩ => ?_) ht
  subst ex
  obtain rfl : u = Value.ref a := rx
  refine getmeth_ok I1 ea c hm l ?_
  exact PySem.W.callWith_K (first := [.ref a]) (h₀ := X.base) I.ok.mod.kin hm.kp (thn (ha.run pos pins s1 σ H1 _ I1 q) fun us s2 ⟨vs, H2, I2, r, l1, l2, q2⟩ =>
    ⟨I2.kIn, runF (ks := []) (us := .ref a :: us) (vs := .ref a :: vs) F hr hb (hx σ) I2 (.cons rfl r) (.nil : Vals [] []) (congrArg Nat.succ l1) rfl q2⟩) hst hpl
theorem pm_kw {pl : Sem Bool} (ho : PE X o to) (c : Cls X.K C) (hm : Meth X.K C m f) (F : FnOk X.prog X.w X.K X.mg X.base CX k f fd ps sp) (hr : Room k X.A) (hb : KBn X.K fd ps 1 ks g gV) (hx : ∀ σ, PassesAt CX X σ (E σ)) (hkw : PK X kws tk)
    (hall : (backToKw pos (keywordEach kws X.env)).all (·.1.isSome) = true := by rfl) (hks : (backToKw pos (keywordEach kws X.env)).filterMap (·.1) = ks := by rfl)
    (hpl : ((backTo pos (starEach [] X.env)).any (·.1) || (backToKw pos (keywordEach kws X.env)).any (·.1.isNone)) = false := by rfl)
    (ht : eval (.Call (.Attribute o m apos) [] kws pos) X.env = (do
      let ov ← eval o X.env
      standAt apos.atName
      let (f, first) ← holding [ov] (getMethod ov m pl)
      callWith pos f first (backTo pos (starEach [] X.env)) (backToKw pos (keywordEach kws X.env))) := by rfl) :
    PE X (.Call (.Attribute o m apos) [] kws pos) (tMt C m 0 ks.length sp gV E to tNil tk) := by
  refine ⟨fun pins s σ H Q I h => ?_⟩
  refine PySem.W.methodCall_KW (pl := pl) (thn (ho.run pins s σ H _ I h) fun u s1 ⟨x, H1, I1, rx, a, dx, fs, ex, ea, l, q⟩ => ?_) ht
  subst ex
  obtain rfl : u = Value.ref a := rx
  refine getmeth_ok I1 ea c hm l ?_
  refine PySem.W.callWith_KW0 (first := [.ref a]) (h₀ := X.base) I.ok.mod.kin hm.kp hall ?_ hpl
  refine thn (hkw.run pos pins s1 σ H1 _ I1 q) fun ws s2 ⟨zs, H2, I2, rz, l1, l2, q2⟩ => ⟨I2.kIn, ?_⟩
  rw [hks]
  exact runF (us := [.ref a]) (vs := [.ref a]) F hr hb (hx σ) I2 (.cons rfl .nil) rz rfl l2 q2
/-- C(e, .., k = v, ..) -/
def tMk (C : Addr) (n m : Nat) (sp : Sp) (gV : List V → List V → List V) (E : L2.St → XK) (t tk : TA) : TE := fun σ H Q => t σ H fun vs H1 => tk σ H1 fun zs H2 => vs.length = n ∧ zs.length = m ∧ ∀ a dx, H2 a = none → H2 dx = none → dx ≠ a →
  sp (gV (.ref a :: vs) zs) (upd (upd H2 dx (.own a)) a (.ins C dx [])) (fun v H3 => v = .non ∧ Q (.ref a) H3) (E σ)
theorem pc_pos (M : Mk X.K C f) (F : FnOk X.prog X.w X.K X.mg X.base CX k f fd ps sp) (hr : Room (k + 1) X.A) (hg : Gl X x) (hm : X.mg x = some (.ref C)) (hb : KBn X.K fd ps (n + 1) [] g gV) (hx : ∀ σ, PassesAt CX X σ (E σ)) (ha : PA X (e :: es) t)
    (hdb : (x == ("__debug__" : Str)) = false := by decide) (he : starEach (e :: es) X.env = (false, eval e X.env) :: starEach es X.env := by rfl) (hpl : (backTo pos (starEach es X.env)).any (·.1) = false := by rfl) :
    PE X (.Call (.Name x p) (e :: es) [] pos) (tMk C n 0 sp gV E t tNil) := by
  refine ⟨fun pins s σ H Q I h => wpAny_Call_Name_kw (ld_glob I hg hm ?_ hdb)⟩
  exact PySem.W.callWith_K (h₀ := X.base) I.ok.mod.kin M.kp (thn (ha.run pos pins s σ H _ I h) fun us s1 ⟨vs, H1, I1, r, l1, l2, q⟩ =>
    ⟨I1.kIn, runM (ks := []) M F hr hb (hx σ) I1 r (.nil : Vals [] []) l1 rfl q⟩) he hpl
theorem pc_both (M : Mk X.K C f) (F : FnOk X.prog X.w X.K X.mg X.base CX k f fd ps sp) (hr : Room (k + 1) X.A) (hg : Gl X x) (hm : X.mg x = some (.ref C)) (hb : KBn X.K fd ps (n + 1) ks g gV) (hx : ∀ σ, PassesAt CX X σ (E σ)) (ha : PA X (e :: es) t) (hkw : PK X kws tk)
    (hall : (backToKw pos (keywordEach kws X.env)).all (·.1.isSome) = true := by rfl) (hks : (backToKw pos (keywordEach kws X.env)).filterMap (·.1) = ks := by rfl) (hdb : (x == ("__debug__" : Str)) = false := by decide)
    (he : starEach (e :: es) X.env = (false, eval e X.env) :: starEach es X.env := by rfl) (hpl : ((backTo pos (starEach (e :: es) X.env)).any (·.1) || (backToKw pos (keywordEach kws X.env)).any (·.1.isNone)) = false := by rfl) :
    PE X (.Call (.Name x p) (e :: es) kws pos) (tMk C n ks.length sp gV E t tk) := by
  refine ⟨fun pins s σ H Q I h => wpAny_Call_Name_kw (ld_glob I hg hm ?_ hdb)⟩
  refine PySem.W.callWith_KW (h₀ := X.base) I.ok.mod.kin M.kp hall (thn (ha.run pos pins s σ H _ I h) fun us s1 ⟨vs, H1, I1, r, q⟩ => ?_) hpl he
  refine thn (hkw.run pos pins s1 σ H1 _ I1 q) fun ws s2 ⟨zs, H2, I2, rz, l1, l2, q2⟩ => ⟨I2.kIn, ?_⟩
  rw [hks]
  exact runM M F hr hb (hx σ) I2 r rz l1 l2 q2
theorem pc_kw (M : Mk X.K C f) (F : FnOk X.prog X.w X.K X.mg X.base CX k f fd ps sp) (hr : Room (k + 1) X.A) (hg : Gl X x) (hm : X.mg x = some (.ref C)) (hb : KBn X.K fd ps 1 ks g gV) (hx : ∀ σ, PassesAt CX X σ (E σ)) (hkw : PK X kws tk)
    (hall : (backToKw pos (keywordEach kws X.env)).all (·.1.isSome) = true := by rfl) (hks : (backToKw pos (keywordEach kws X.env)).filterMap (·.1) = ks := by rfl) (hdb : (x == ("__debug__" : Str)) = false := by decide)
    (hpl : ((backTo pos (starEach [] X.env)).any (·.1) || (backToKw pos (keywordEach kws X.env)).any (·.1.isNone)) = false := by rfl) :
    PE X (.Call (.Name x p) [] kws pos) (tMk C 0 ks.length sp gV E tNil tk) := by
  refine ⟨fun pins s σ H Q I h => wpAny_Call_Name_kw (ld_glob I hg hm ?_ hdb)⟩
  refine PySem.W.callWith_KW0 (h₀ := X.base) I.ok.mod.kin M.kp hall ?_ hpl
  refine thn (hkw.run pos pins s σ H _ I h) fun ws s2 ⟨zs, H2, I2, rz, l1, l2, q2⟩ => ⟨I2.kIn, ?_⟩
  rw [hks]
  exact runM (n := 0) (us := []) (vs := []) M F hr hb (hx σ) I2 .nil rz rfl l2 q2
/-- C0.m(e, ..), the def read off an own class -/
theorem pcl_pos {C0 : Addr} {mc : Value} {pl : Sem Bool} (hg : Gl X x) (hm : X.mg x = some (.ref C0)) (rd : PySem.W.readsIn X.K C0 mc = true) (ga : PySem.W.specialIn X.K (.ref C0) "__getattribute__" = some (some (.builtin "type.__getattribute__")))
    (fc : PySem.W.findCls X.K (.ref C0) mc m = some (.val (.ref f))) (hk : PySem.W.keepIn X.K (.ref f) = true) (F : FnOk X.prog X.w X.K X.mg X.base CX k f fd ps sp) (hr : Room k X.A) (hb : KBn X.K fd ps n [] g gV) (hx : ∀ σ, PassesAt CX X σ (E σ)) (ha : PA X (e :: es) t)
    (hdb : (x == ("__debug__" : Str)) = false := by decide) (hst : starEach (e :: es) X.env = (false, eval e X.env) :: starEach es X.env := by rfl) (hpl : (backTo pos (starEach es X.env)).any (·.1) = false := by rfl)
    (ht : eval (.Call (.Attribute (.Name x p) m apos) (e :: es) [] pos) X.env = (do
      let ov ← eval (.Name x p) X.env
      standAt apos.atName
      let (f, first) ← holding [ov] (getMethod ov m pl)
      callWith pos f first (backTo pos (starEach (e :: es) X.env)) (backToKw pos (keywordEach [] X.env))) := by rfl) :
    PE X (.Call (.Attribute (.Name x p) m apos) (e :: es) [] pos) (tFn n 0 sp gV E t tNil) := by
  refine ⟨fun pins s σ H Q I h => ?_⟩
  refine PySem.W.methodCall_KW (pl := pl) (ld_glob I hg hm ?_ hdb) ht
  refine PySem.W.method_cls I.kIn ga (PySem.W.cls_value I.kIn rd fc rfl ?_)
  exact PySem.W.callWith_K (first := []) (h₀ := X.base) I.ok.mod.kin hk (thn (ha.run pos pins _ σ H _ (I.tok _) h) fun us s2 ⟨vs, H2, I2, r, l1, l2, q2⟩ => ⟨I2.kIn, runF (ks := []) F hr hb (hx σ) I2 r (.nil : Vals [] []) l1 rfl q2⟩) hst hpl
end

/-! ### raise C(..) of an own class over ValueError: positional values, keywords, none -/
section
variable {X : Cx} {CX : CXT} {k n : Nat} {fI C : Addr} {fd : FuncData} {ps ks : List Str} {sp : Sp} {x : Str} {p pos : Pos} {e : Expr} {es : List Expr} {kws : List Keyword} {t tk : TA}
variable {g : List Value → List Value → List Value} {gV : List V → List V → List V} {pins : List (Addr × Obj)} {σ : L2.St} {H : Hp} {s : Shared} {Q : XK} {us ws : List Value} {vs zs : List V}
abbrev NoE : XK := fun _ _ _ => False
/-- what the written part says of C and its __init__ -/
structure ExK (K : PySem.W.Frag) (C fI : Addr) : Prop where
  made : ∃ (B newId initId : String) (bmB : List Value) (nm q : Str) (N : Addr) (bs bm : List Value) (sn : List Str) (sub : List Value) (ab : Bool) (col : Option Bool) (dd : Option Addr) (k0 k1 k2 k3 k5 : Option Value),
    ExcBaseFacts B newId initId bmB ∧ K.lookup C = some (excClassObj nm q C N bs bm true sn sub ab col dd k0 k1 k2 k3 k5 newId) ∧
    (bm.contains (.type B) = true ∧ bm.contains (.type "AttributeError") = false ∧ bm.contains (.type "NameError") = false)
  exC : PySem.W.subIn K (.ref C) (.type "BaseException") = some true
  tyC : PySem.W.typeIn K (.ref C) = some (.type "type")
  kC : PySem.W.keepIn K (.ref C) = true
  init : PySem.W.findIn K (.ref C) "__init__" = some (some (.ref fI))
  fn : PySem.W.typeIn K (.ref fI) = some (.type "function")
theorem exK_ve {K : PySem.W.Frag} {C fI : Addr} (T : OexC K C) (i : PySem.W.findIn K (.ref C) "__init__" = some (some (.ref fI))) (f : PySem.W.typeIn K (.ref fI) = some (.type "function")) : ExK K C fI := by
  obtain ⟨nm, q, N, bs, bm, sn, sub, ab, col, dd, k0, k1, k2, k3, k5, hC, hbm⟩ := T.cls
  have F := PySem.F.excBase_ValueError
  have c := fun Y => PySem.HandSPX.refsVE_contains Y bm hbm
  exact ⟨⟨_, _, _, _, _, _, _, _, _, _, _, _, _, _, _, _, _, _, _, F, hC, (c _).trans F.hasB, (c _).trans F.noAttr, (c _).trans F.noName⟩, T.exC, T.tyC, T.kC, i, f⟩
def BackX (a C : Addr) (H2 : Hp) (Q : XK) : VK := fun v H3 => v = .non ∧ ∃ (d : Addr) (fs : List (Str × V)), H3 a = some (exo a C (some d)) ∧ H3 d = some (exd d fs) ∧ H2 d = none ∧ Q (.ref C) (some d) (upd (del H3 a) d (.xd fs))
theorem runX (T : ExK X.K C fI) (F : FnOk X.prog X.w X.K X.mg X.base CX k fI fd ps sp) (hr : Room (k + 1) X.A) (hb : KBn X.K fd ps (n + 1) ks g gV) (hx : PassesAt CX X σ NoE) (I : Inv X pins σ H s) (r : Vals vs us) (rz : Vals zs ws) (l1 : vs.length = n) (l2 : zs.length = ks.length) (hn : n ≤ 1000)
    (h : ∀ a, H a = none → sp (gV (.ref a :: vs) zs) (upd H a (exo a C none)) (BackX a C H Q) NoE) : wpAny (model X.prog X.w) X.A (call (.ref C) us (ks.zip ws)) (MkP X pins σ Q) X.xe s := by
  obtain ⟨B, newId, initId, bmB, nm, q, N, bs, bm, sn, sub, ab, col, dd, k0, k1, k2, k3, k5, F0, hC, hbm⟩ := T.made
  obtain ⟨hp, gs, dr, tk, os⟩ := s
  have sz : hp.objs.size ≤ hp.objs.size + 1 := Nat.le_succ _
  have hq := h (hp.objs.size + 1) (I.hok.fresh sz)
  have kk : ∀ b o, hp.get? b = some o → ((hp.push (PySem.W.kdv_tup us)).push (PySem.HandSPX.excO C hp.objs.size)).get? b = some o := fun b o e => Heap.get?_push_of_some _ (Heap.get?_push_of_some _ e)
  have hat : ((hp.push (PySem.W.kdv_tup us)).push (PySem.HandSPX.excO C hp.objs.size)).get? (hp.objs.size + 1) = some (PySem.HandSPX.excO C hp.objs.size) := by heap_get
  have J : Inv X pins σ (upd H (hp.objs.size + 1) (exo (hp.objs.size + 1) C none)) ⟨(hp.push (PySem.W.kdv_tup us)).push (PySem.HandSPX.excO C hp.objs.size), gs, dr, tk, os⟩ :=
    I.laid (t' := tk) (a := hp.objs.size + 1) (o := exo (hp.objs.size + 1) C none) kk sz (exo_ok hat)
  have r1 : Vals (V.ref (hp.objs.size + 1) :: vs) (Value.ref (hp.objs.size + 1) :: us) := .cons rfl r
  have b := hb.to _ (Value.ref (hp.objs.size + 1) :: us) ws J.kIn (r1.length.symm.trans (congrArg Nat.succ l1)) (rz.length.symm.trans l2)
  have hus : us.length ≤ sizeLine := by
    rw [← r.length, l1, sizeLine_eq]
    omega
  refine wpAny_call (PySem.OwnK.excCall F0 hbm (I.kIn _ _ hC) (PySem.W.looks_findIn I.kIn T.init) (fun self => PySem.W.bind_fn I.kIn self T.fn) hus
    (codeAny_mono (F.run _ X.stack _ _ _ _ _ _ NoE (hr.make C us (ks.zip ws)) (J.env0.make C us (ks.zip ws)) b (hb.rel r1 rz) hq) fun r s' y => ?_))
  cases r with
  | error er => exact hx pins _ _ er s' J y
  | ok fl =>
    cases fl with
    | ret u =>
      obtain ⟨v, H2, os2, bare2, un2, hok2, rv, ev, d, fs, ea, ed, hd1, q2⟩ := y
      subst ev
      obtain ⟨h2, g2, d2, t2, os'⟩ := s'
      exact ⟨rv, mk_end (raises_own T.exC T.tyC) I sz kk un2 hok2 os2 bare2 ea ed hd1 q2⟩
    | next => exact y.elim
    | brk => exact y.elim
    | cont => exact y.elim
def tRz (C : Addr) (n m : Nat) (sp : Sp) (gV : List V → List V → List V) (t tk : TA) : L2.St → Hp → XK → Prop := fun σ H Q => t σ H fun vs H1 => tk σ H1 fun zs H2 => vs.length = n ∧ zs.length = m ∧ n ≤ 1000 ∧
  ∀ a, H2 a = none → sp (gV (.ref a :: vs) zs) (upd H2 a (exo a C none)) (BackX a C H2 Q) NoE
theorem px_pos (T : ExK X.K C fI) (F : FnOk X.prog X.w X.K X.mg X.base CX k fI fd ps sp) (hr : Room (k + 1) X.A) (hg : Gl X x) (hm : X.mg x = some (.ref C)) (hb : KBn X.K fd ps (n + 1) [] g gV) (hx : ∀ σ, PassesAt CX X σ NoE) (ha : PA X (e :: es) t)
    (hdb : (x == ("__debug__" : Str)) = false := by decide) (he : starEach (e :: es) X.env = (false, eval e X.env) :: starEach es X.env := by rfl) (hpl : (backTo pos (starEach es X.env)).any (·.1) = false := by rfl) :
    PMk X (.Call (.Name x p) (e :: es) [] pos) (tRz C n 0 sp gV t tNil) := by
  intro pins s σ H Q I h
  refine wpAny_Call_Name_kw (ld_glob I hg hm ?_ hdb)
  exact PySem.W.callWith_K (h₀ := X.base) I.ok.mod.kin T.kC (thn (ha.run pos pins s σ H _ I h) fun us s1 ⟨vs, H1, I1, r, l1, l2, l3, q⟩ => ⟨I1.kIn, runX (ks := []) T F hr hb (hx σ) I1 r (.nil : Vals [] []) l1 rfl l3 q⟩) he hpl
theorem px_both (T : ExK X.K C fI) (F : FnOk X.prog X.w X.K X.mg X.base CX k fI fd ps sp) (hr : Room (k + 1) X.A) (hg : Gl X x) (hm : X.mg x = some (.ref C)) (hb : KBn X.K fd ps (n + 1) ks g gV) (hx : ∀ σ, PassesAt CX X σ NoE) (ha : PA X (e :: es) t) (hkw : PK X kws tk)
    (hall : (backToKw pos (keywordEach kws X.env)).all (·.1.isSome) = true := by rfl) (hks : (backToKw pos (keywordEach kws X.env)).filterMap (·.1) = ks := by rfl) (hdb : (x == ("__debug__" : Str)) = false := by decide)
    (he : starEach (e :: es) X.env = (false, eval e X.env) :: starEach es X.env := by rfl) (hpl : ((backTo pos (starEach (e :: es) X.env)).any (·.1) || (backToKw pos (keywordEach kws X.env)).any (·.1.isNone)) = false := by rfl) :
    PMk X (.Call (.Name x p) (e :: es) kws pos) (tRz C n ks.length sp gV t tk) := by
  intro pins s σ H Q I h
  refine wpAny_Call_Name_kw (ld_glob I hg hm ?_ hdb)
  refine PySem.W.callWith_KW (h₀ := X.base) I.ok.mod.kin T.kC hall (thn (ha.run pos pins s σ H _ I h) fun us s1 ⟨vs, H1, I1, r, q⟩ => ?_) hpl he
  refine thn (hkw.run pos pins s1 σ H1 _ I1 q) fun ws s2 ⟨zs, H2, I2, rz, l1, l2, l3, q2⟩ => ⟨I2.kIn, ?_⟩
  rw [hks]
  exact runX T F hr hb (hx σ) I2 r rz l1 l2 l3 q2
theorem px_kw (T : ExK X.K C fI) (F : FnOk X.prog X.w X.K X.mg X.base CX k fI fd ps sp) (hr : Room (k + 1) X.A) (hg : Gl X x) (hm : X.mg x = some (.ref C)) (hb : KBn X.K fd ps 1 ks g gV) (hx : ∀ σ, PassesAt CX X σ NoE) (hkw : PK X kws tk)
    (hall : (backToKw pos (keywordEach kws X.env)).all (·.1.isSome) = true := by rfl) (hks : (backToKw pos (keywordEach kws X.env)).filterMap (·.1) = ks := by rfl) (hdb : (x == ("__debug__" : Str)) = false := by decide)
    (hpl : ((backTo pos (starEach [] X.env)).any (·.1) || (backToKw pos (keywordEach kws X.env)).any (·.1.isNone)) = false := by rfl) :
    PMk X (.Call (.Name x p) [] kws pos) (tRz C 0 ks.length sp gV tNil tk) := by
  intro pins s σ H Q I h
  refine wpAny_Call_Name_kw (ld_glob I hg hm ?_ hdb)
  refine PySem.W.callWith_KW0 (h₀ := X.base) I.ok.mod.kin T.kC hall ?_ hpl
  refine thn (hkw.run pos pins s σ H _ I h) fun ws s2 ⟨zs, H2, I2, rz, l1, l2, l3, q2⟩ => ⟨I2.kIn, ?_⟩
  rw [hks]
  exact runX (n := 0) (us := []) (vs := []) T F hr hb (hx σ) I2 .nil rz rfl l2 l3 q2
theorem px_none (T : ExK X.K C fI) (F : FnOk X.prog X.w X.K X.mg X.base CX k fI fd ps sp) (hr : Room (k + 1) X.A) (hg : Gl X x) (hm : X.mg x = some (.ref C)) (hb : KBn X.K fd ps 1 [] g gV) (hx : ∀ σ, PassesAt CX X σ NoE)
    (hdb : (x == ("__debug__" : Str)) = false := by decide) : PMk X (.Call (.Name x p) [] [] pos) (tRz C 0 0 sp gV tNil tNil) := by
  intro pins s σ H Q I h
  refine wpAny_Call_Name_kw (ld_glob I hg hm ?_ hdb)
  obtain ⟨l1, l2, l3, q⟩ := h
  exact PySem.W.callWith_K0 I.kIn T.kC (runX (n := 0) (ks := []) (us := []) (vs := []) T F hr hb (hx σ) I .nil (.nil : Vals [] []) rfl rfl l3 q)
end
end Own

/-! Own rules: repr and str of an instance with own __repr__, __str__; a text times 0 or 1; isinstance of a caught own exception that has fields. -/
namespace Own
open PySem PySem.Spec PyProof.Rows L2
section
variable {X : Cx} {CX : CXT} {k : Nat} {C f : Addr} {fd : FuncData} {ps : List Str} {sp : Sp} {E : XK}
/-- what repr or str by an own def asks of the written part -/
structure TxtOwn (K : PySem.W.Frag) (C f : Addr) (nm : Str) : Prop where
  fd : PySem.W.findIn K (.ref C) nm = some (some (.ref f))
  fn : PySem.W.isFn K (.ref f) = true
def rTxO (C : Addr) (sp : Sp) (E : XK) : List V → Hp → VK → Prop := fun xs H Q => ∃ (a dx : Addr) (fs : List (Str × V)), xs = [.ref a] ∧ H a = some (.ins C dx fs) ∧
  sp [.ref a] H (fun v H' => ∃ y : Str, v = .str y ∧ Q (.str y) H') E
theorem call_reprO (T : TxtOwn X.K C f "__repr__") (F : FnOk X.prog X.w X.K X.mg X.base CX k f fd ps sp) (hr : Room (k + 1) X.A) (hb : Binds X.K fd ps []) (hx : Passes CX X E) : CallR X (.builtin "repr") (rTxO C sp E) := by
  intro pins s σ H xs us Q I r h
  obtain ⟨a, dx, fs, rfl, ha, q⟩ := h
  obtain ⟨mA, J, _⟩ := ins_get I.hok ha
  obtain ⟨od, J, _⟩ := J.look
  obtain ⟨m, hF⟩ := I.fr
  obtain ⟨u, rfl, ru⟩ := vals1 r
  cases ru
  have r2 : Vals [V.ref a] [Value.ref a] := .cons rfl .nil
  refine PySem.W.repr_K hr.in1.units0 hF I.ok.mod.kin J T.fd T.fn ?_
  have hl : ([Value.ref a] : List Value).length = ps.length := (Paired.length r2).symm.trans (F.len _ _ _ _ q)
  have b0 := hb s [.ref a] I.kIn (by simpa using hl)
  rw [List.append_nil] at b0
  refine wpAny_call (codeAny_mono (F.run X.A.in1 X.stack s H ⟨[.ref a], []⟩ [.ref a] [.ref a] _ E hr.in1 I.env0.in1 b0 r2 q) fun r s' z => ?_)
  cases r with
  | error e => exact hx pins σ H s e s' I z
  | ok fl =>
    cases fl with
    | ret w =>
      obtain ⟨v', H', I', rv, y, ev, q'⟩ := I.after z
      subst ev
      obtain ⟨t, rfl⟩ := rv
      exact ⟨.str y, H', I', ⟨t, rfl⟩, q'⟩
    | next => exact z.elim
    | brk => exact z.elim
    | cont => exact z.elim
theorem call_strO (T : TxtOwn X.K C f "__str__") (F : FnOk X.prog X.w X.K X.mg X.base CX k f fd ps sp) (hr : Room (k + 2) X.A) (hb : Binds X.K fd ps []) (hx : Passes CX X E) : CallR X (.type "str") (rTxO C sp E) := by
  intro pins s σ H xs us Q I r h
  obtain ⟨a, dx, fs, rfl, ha, q⟩ := h
  obtain ⟨mA, J, _⟩ := ins_get I.hok ha
  obtain ⟨od, J, _⟩ := J.look
  obtain ⟨u, rfl, ru⟩ := vals1 r
  cases ru
  have r2 : Vals [V.ref a] [Value.ref a] := .cons rfl .nil
  refine PySem.W.kso_call hr.in1.in1.units0 I.kIn J T.fd T.fn ?_
  have hl : ([Value.ref a] : List Value).length = ps.length := (Paired.length r2).symm.trans (F.len _ _ _ _ q)
  have b0 := hb s [.ref a] I.kIn (by simpa using hl)
  rw [List.append_nil] at b0
  refine wpAny_call (codeAny_mono (F.run X.A.in1.in1 X.stack s H ⟨[.ref a], []⟩ [.ref a] [.ref a] _ E hr.in1.in1 I.env0.in1.in1 b0 r2 q) fun r s' z => ?_)
  cases r with
  | error e => exact hx pins σ H s e s' I z
  | ok fl =>
    cases fl with
    | ret w =>
      obtain ⟨v', H', I', rv, y, ev, q'⟩ := I.after z
      subst ev
      obtain ⟨t, rfl⟩ := rv
      exact ⟨.str y, H', I', ⟨t, rfl⟩, q'⟩
    | next => exact z.elim
    | brk => exact z.elim
    | cont => exact z.elim
/-- a text times int(a truth) -/
theorem op_mul01 : OpR X (binaryOp .Mult) (fun x y H Q => ∃ (z : Str) (n : Int), x = .str z ∧ y = .int n ∧ (n = 0 ∨ n = 1) ∧ Q (.str (if n = 1 then z else Str.empty)) H) := by
  intro pins s σ H x y v u Q I rx ry h
  obtain ⟨z, n, rfl, rfl, hn, q⟩ := h
  obtain ⟨t, rfl⟩ := rx
  obtain ⟨t', rfl⟩ := ry
  rcases hn with rfl | rfl
  · exact PySem.P.mul_str_none (by decide) (by decide) ⟨.str Str.empty, H, I.tok _, ⟨_, rfl⟩, q⟩
  · exact PySem.P.mul_str (by decide) (fun _ h => by simp at h) (fun _ h => by simp at h) (by rw [if_neg (by decide), if_pos (by rfl)]; exact ⟨.str z, H, I, ⟨_, rfl⟩, q⟩)
end
/-- isinstance(e, c), e the caught exception, of the class D, with the dict d -/
def rIsX (K : PySem.W.Frag) (D a : Addr) (cls : Value) (d : Option Addr) : List V → Hp → VK → Prop := fun xs H Q => ∃ (c : V) (cv : Value) (b : Bool) (dd : Addr) (fs : List (Str × V)), xs = [.ref a, c] ∧ (∀ u, RelV c u → u = cv) ∧ cls = .ref D ∧ d = some dd ∧ H dd = some (.xd fs) ∧
  PySem.W.kitOne K (.ref D) cv = some b ∧ Q (.bl b) H
theorem suite_inst {X : Cx} {a D dd : Addr} {oe : Obj} {cls : Value} {d : Option Addr} {pn pins : List (Addr × Obj)} {σ : L2.St} {H : Hp} {s : Shared} {fs : List (Str × V)} (hz : Zc cls d oe) (hf : ∃ vs, oe.data = .fields vs) (I : Inv (X.suite a ((a, oe) :: pn)) pins σ H s)
    (ec : cls = .ref D) (ed : d = some dd) (ea : H dd = some (.xd fs)) : ∃ od, PySem.W.InstAt s.heap a oe D (some od) := by
  subst ec
  subst ed
  obtain ⟨hget, _⟩ := I.pin (a, oe) (List.mem_append_left _ List.mem_cons_self)
  obtain ⟨vs, hv⟩ := hf
  have hx : ObjOk X.prog X.w H s.heap dd (.xd fs) := I.hok dd _ ea
  obtain ⟨mA, hns, hr⟩ := hx
  obtain ⟨od, ho, hl⟩ := lookIn_ns hns
  exact ⟨od, hget, hz.1, by unfold PySem.W.notCls; rw [hv] <;> rfl, by rw [hz.2]; exact ho⟩
theorem excC_cls {K : PySem.W.Frag} {D : Addr} (C : ExcC K D) : (PySem.W.clsIn K D).isSome = true := by
  obtain ⟨cd, hc, _⟩ := PySem.W.any_some C.hd
  rw [hc]
  rfl
theorem call_isX {X : Cx} {a D : Addr} {oe : Obj} {cls : Value} {d : Option Addr} {pn : List (Addr × Obj)} (C : ExcC X.K D) (hz : Zc cls d oe) (hf : ∃ vs, oe.data = .fields vs) : CallR (X.suite a ((a, oe) :: pn)) (.builtin "isinstance") (rIsX X.K D a cls d) := by
  intro pins s σ H xs us Q I r h
  obtain ⟨c, cv, b, dd, fs, rfl, hcv, ec, ed, ea, e, q⟩ := h
  obtain ⟨u1, u2, rfl, rx, rt⟩ := vals2 r
  cases rx
  have e2 := hcv _ rt
  subst e2
  obtain ⟨od, J⟩ := suite_inst hz hf I ec ed ea
  exact PySem.W.kia_one (PySem.W.kitx_exc (excC_cls C) C.hg C.hk C.hs C.ha C.hn C.ht C.hm) I.kIn J e (fun z => nomatch z) fun tk => ⟨.bl b, H, I.kept (t' := tk) fun _ _ z => z, rfl, q⟩
/-- isinstance(e, (c1, c2, ..)), the tuple just laid -/
def rIsXT (K : PySem.W.Frag) (D a : Addr) (cls : Value) (d : Option Addr) : List V → Hp → VK → Prop := fun xs H Q => ∃ (tp : Addr) (cs : List V) (us : List Value) (b : Bool) (dd : Addr) (fs : List (Str × V)), xs = [.ref a, .ref tp] ∧ H tp = some (.tup cs) ∧ Paired ClsV cs us ∧ cls = .ref D ∧ d = some dd ∧ H dd = some (.xd fs) ∧
  PySem.W.kitAny K (.ref D) us = some b ∧ Q (.bl b) H
theorem call_isXT {X : Cx} {a D : Addr} {oe : Obj} {cls : Value} {d : Option Addr} {pn : List (Addr × Obj)} (C : ExcC X.K D) (hz : Zc cls d oe) (hf : ∃ vs, oe.data = .fields vs) : CallR (X.suite a ((a, oe) :: pn)) (.builtin "isinstance") (rIsXT X.K D a cls d) := by
  intro pins s σ H xs us Q I r h
  obtain ⟨tp, cs, ws, b, dd, fs, rfl, hT, k, ec, ed, ea, e, q⟩ := h
  obtain ⟨u1, u2, rfl, rx, rt⟩ := vals2 r
  cases rx
  cases (show u2 = Value.ref tp from rt)
  obtain ⟨od, J⟩ := suite_inst hz hf I ec ed ea
  have ht : ObjOk X.prog X.w H s.heap tp (.tup cs) := I.hok tp _ hT
  obtain ⟨_, its, rv, o, h1, h2, n, h3⟩ := ht
  have e3 := ClsV.all k rv
  subst e3
  obtain ⟨oc, odd, dt, sl⟩ := o
  dsimp only at h2 h3
  subst h2 h3
  exact PySem.W.kia_tup (PySem.W.kitx_exc (excC_cls C) C.hg C.hk C.hs C.ha C.hn C.ht C.hm) I.kIn J h1 e (fun z => nomatch z) fun tk => ⟨.bl b, H, I.kept (t' := tk) fun _ _ z => z, rfl, q⟩
end Own

/-! Own rules: an own exception straight under KeyError, whose __init__ stores one field and calls no base. -/
namespace PySem
namespace OwnKy
open PySem.W PyProof.Rows Builtin Builtin.ObjectAttr HandSPX
abbrev kyTail : List Value := [.type "KeyError", .type "LookupError", .type "Exception", .type "BaseException", .type "object"]
theorem ky_pass (C : Addr) (self : Value) : refuseLoop self "__setattr__" (.ref C :: kyTail) = pure () := by
  rw [refuseLoop_ref]
  kernel_rfl
section
variable {prog : Program} {w : World} {A : Around} {R : Result → Shared → Prop} {h0 : Heap} {g : Array GenState} {d : Drawn} {t : Nat} {os : OsState} {K : Frag} {f : Str} {tk : Tok} {y : Value} {a C : Addr} {fv : Array Value} {cd : ClassData}
/-- the first field of an exception without a dict, whatever built-in classes stand above its own one -/
theorem first_field (X : K.In h0) (ea : h0.get? a = some { cls := .ref C, data := .fields fv }) (ec : clsIn K C = some cd) (pass : ∀ self, refuseLoop self "__setattr__" cd.mro = pure ()) (ob : cd.mro.contains (.type "object") = true) (ne : cd.mro.isEmpty = false)
    (dict : cd.hasDict = true) (no : findIn K (.ref C) f = some none)
    (k : ∀ h1 tk1 dx, (∀ b o, b ≠ a → h0.get? b = some o → h1.get? b = some o) → h0.objs.size ≤ dx → dx ≠ a → h1.get? a = some { cls := .ref C, dict := some dx, data := .fields fv } →
      h1.Ns1 dx (fun z => if z = f then some y else none) → R (.ok (.ret .none)) ⟨h1, g, d, tk1, os⟩) :
    codeAny (model prog w) A (.call (.builtin "object.__setattr__") ⟨[.ref a, .str f tk, y], []⟩) R ⟨h0, g, d, t, os⟩ := by
  have J : InstAt h0 a { cls := .ref C, data := .fields fv } C none := ⟨ea, rfl, rfl, trivial⟩
  have nea : h0.objs.size ≠ a := (Nat.ne_of_lt (Heap.lt_size ea)).symm
  have G := F.store_object
  have isO : Looks (model prog w) h0 (isInstance (.ref a) (.type "object")) true := J.type.andThen (looks_mroIn X (by unfold mroIn; rw [ec, Option.bind_some, if_neg (by rw [ne]; exact Bool.false_ne_true), ob]))
  have order : Looks (model prog w) h0 (mroOf (.ref C)) cd.mro := (looks_clsIn X ec).andThen .now
  have data : Looks (model prog w) h0 (classData C) cd := looks_clsIn X ec
  have nobody : Looks (model prog w) h0 (storeTaker? none) none := .now
  refine codeAny_call_builtin G.slot.plain G.entry (@check_slot (model prog w) _ _ ⟨h0, g, d, t, os⟩ "object.__setattr__" "object" "__setattr__" (.ref a) [.str f tk, y] [] _ G.kind G.split isO (G.args _ _ _) ?_)
  rw [osa_eq, refuse_eq]
  refine wpAny_bind (wpAny_bind (J.type.at (wpAny_bind (order.at ?_))))
  rw [pass]
  refine wpAny_pure (wpAny_bind (J.type.at (wpAny_bind ((looks_findIn X no).at (wpAny_bind (nobody.at ?_))))))
  show wpAny _ _ (storeInOwnDict (.ref a) (.ref C) (.str f tk) f y false) _ _ _
  obtain ⟨cnm, cbs, cmro, cns, cqn, chd, csn, csb, cab, ccol, cdel⟩ := cd
  obtain rfl : chd = true := dict
  unfold storeInOwnDict ownDictForStores
  repeat (first | with_reducible refine store_in_new ?_ ?_ | with_reducible refine wpAny_loadPart_at ea ?_ | with_reducible refine data.at ?_ | wp_step)
  · exact ⟨_, #[], _, (Heap.get?_update_ne _ _ _ _ nea).trans (Heap.get?_push_at rfl rfl), rfl, fun e he => absurd he (by simp), fun _ => rfl⟩
  · intro h1 tk1 hn sb
    have ea1 : (h0.push { cls := .type "dict", data := .dict #[] }).get? a = some { cls := .ref C, data := .fields fv } := Heap.get?_push_of_some _ ea
    exact k h1 tk1 h0.objs.size (fun b o hb ho => (sb.2 b (Nat.ne_of_lt (Heap.lt_size ho))).trans ((Heap.get?_update_ne _ _ _ _ hb).trans (Heap.get?_push_of_some _ ho))) (Nat.le_refl _) nea
      ((sb.2 a nea.symm).trans (Heap.get?_update_self _ ea1 rfl)) hn
end
end OwnKy
end PySem
namespace Own
open PySem PySem.Spec PyProof.Rows L2
/-- what the written part says of a class straight under KeyError -/
structure OkyC (K : PySem.W.Frag) (C : Addr) : Prop where
  cls : ∃ (nm q : Str) (N : Addr) (bs : List Value) (sn : List Str) (sub : List Value) (ab : Bool) (col : Option Bool) (dd : Option Addr) (k0 k1 k2 k3 k5 : Option Value),
    K.lookup C = some (excClassObj nm q C N bs PySem.OwnKy.kyTail true sn sub ab col dd k0 k1 k2 k3 k5 "LookupError.__new__")
  sa : PySem.W.findIn K (.ref C) "__setattr__" = some (some (.builtin "object.__setattr__"))
  exC : PySem.W.subIn K (.ref C) (.type "BaseException") = some true
  tyC : PySem.W.typeIn K (.ref C) = some (.type "type")
  kC : PySem.W.keepIn K (.ref C) = true
theorem exK_ky {K : PySem.W.Frag} {C fI : Addr} (T : OkyC K C) (i : PySem.W.findIn K (.ref C) "__init__" = some (some (.ref fI))) (f : PySem.W.typeIn K (.ref fI) = some (.type "function")) : ExK K C fI := by
  obtain ⟨nm, q, N, bs, sn, sub, ab, col, dd, k0, k1, k2, k3, k5, hC⟩ := T.cls
  exact ⟨⟨_, _, _, _, _, _, _, _, _, _, _, _, _, _, _, _, _, _, _, PySem.F.excBase_LookupError, hC, by decide +kernel, by decide +kernel, by decide +kernel⟩, T.exC, T.tyC, T.kC, i, f⟩
section
variable {X : Cx} {pins : List (Addr × Obj)} {σ : L2.St} {H : Hp} {s : Shared} {a C : Addr} {f : Str} {y : V} {u : Value} {Q : Unit → Shared → Prop} {E : Value → Shared → Prop} {A : Around}
theorem ky_first (T : OkyC X.K C) (I : Inv X pins σ H s) (e : H a = some (exo a C none)) (no : PySem.W.findIn X.K (.ref C) f = some none) (ry : RelV y u)
    (z : ∀ dx s', H dx = none → dx ≠ a → Inv X pins σ (upd (upd H dx (exd dx [(f, y)])) a (exo a C (some dx))) s' → Q () s') : wpAny (model X.prog X.w) A (setAttr (.ref a) f u) Q E s := by
  obtain ⟨nm, q, N, bs, sn, sub, ab, col, dd, k0, k1, k2, k3, k5, hC⟩ := T.cls
  have cl : PySem.W.clsIn X.K C = some { name := nm, bases := bs, mro := .ref C :: PySem.OwnKy.kyTail, ns := N, qualname := q, hasDict := true, slotNames := sn, subclasses := sub, abstract := ab, collection := col, hasDel := false } := by
    unfold PySem.W.clsIn
    rw [hC] <;> rfl
  obtain ⟨t1, ea⟩ := exo_at I.hok e
  obtain ⟨h0, g0, d0, t0, os0⟩ := s
  refine PySem.W.set_plain I.kIn (ox := ⟨.ref C, none, .fields #[.ref t1, .none, .none, .none, .bool false, .none], _⟩) (od := none) ⟨ea, rfl, rfl, trivial⟩ T.sa ?_
  refine PySem.OwnKy.first_field I.kIn ea cl (fun self => PySem.OwnKy.ky_pass C self) rfl rfl rfl no fun h1 tk1 dx k dn dne hx hn => ?_
  have fresh : H dx = none := I.hok.fresh dn
  have older : ∀ {b : Addr} {o : Obj}, h0.get? b = some o → b ≠ dx := fun ho => Nat.ne_of_lt (Nat.lt_of_lt_of_le (Heap.lt_size ho) dn)
  have other : ∀ {b : Addr}, H b = none → b ≠ a := fun hb z => by rw [z, e] at hb; cases hb
  have two : ∀ {b : Addr} {o : HO}, H b = some o → exo a C none ≠ o → (upd (upd H dx (exd dx [(f, y)])) a (exo a C (some dx))) b = some o := fun hb ne => by
    rw [upd_ne (at_ne e hb ne), upd_ne (ne_of_none hb fresh)]
    exact hb
  refine z dx ⟨h1, g0, d0, tk1, os0⟩ fresh dne (I.un (t' := tk1) ?_ fun b o hb => ?_)
  · exact ⟨fun b o ho hb _ _ => k b o (other hb) ho, fun b o ho hb _ _ => ⟨o.slots, k b o (other hb) ho⟩, fun b o ho hb _ => by rw [upd_ne (other hb), upd_ne (older ho)]; exact hb,
      fun b o ho _ => if h : b = a then ⟨_, (congrArg h1.get? h).trans hx⟩ else ⟨o, k b o h ho⟩, fun b xs hb => two hb exo_tup, fun b o v hb => two hb exo_frz, fun b ps hb => ⟨#[], by rw [two hb exo_tbl]; simp⟩⟩
  · by_cases ha : b = a
    · rw [ha, upd_same] at hb
      cases hb
      rw [ha]
      exact exo_ok hx
    · rw [upd_ne ha] at hb
      by_cases hd : b = dx
      · rw [hd, upd_same] at hb
        cases hb
        rw [hd]
        exact exd_ok hn (relO_put (fs := []) ry fun _ => True.intro)
      · rw [upd_ne hd] at hb
        exact (I.hok b o hb).stay (fun c v hc w => k c v (hc.elim (fun q => by rw [q]; exact ha) fun q => at_ne e q exo_own) w) (fun c hc => two hc exo_own) (fun c xs hc => two hc exo_tup)
end
/-- self.f = e, the first field of an exception straight under KeyError -/
def tKst (K : PySem.W.Frag) (f : Str) (to te : TE) : TS := fun D σ H => te σ H fun y H1 => to σ H1 fun x H2 => ∃ a C : Addr, x = .ref a ∧ OkyC K C ∧ PySem.W.findIn K (.ref C) f = some none ∧ H2 a = some (exo a C none) ∧
  ∀ dx, H2 dx = none → dx ≠ a → D.nx σ (upd (upd H2 dx (exd dx [(f, y)])) a (exo a C (some dx)))
theorem ps_kst {X : Cx} {o e : Expr} {to te : TE} {f : Str} {p' pos : Pos} (ho : PE X o to) (he : PE X e te) (hs : swapsWith e (some (.Attribute o f p')) pos.line X.env = pure false := by rfl) : PS X (.Assign [.Attribute o f p'] e pos) (tKst X.K f to te) := by
  refine ⟨fun pins s σ H D I h => plainObj_wpAny_Assign_Attribute (thn (he.run pins s σ H _ I h) fun v s1 ⟨y, H1, I1, r1, q1⟩ => thn (ho.run pins s1 σ H1 _ I1 q1) fun u s2 ⟨x, H2, I2, r2, q2⟩ => ?_) hs⟩
  obtain ⟨a, C, rfl, T, no, ea, q⟩ := q2
  cases r2
  exact ky_first T I2 ea no r1 fun dx s' n ne J => ⟨σ, _, J, q dx n ne⟩
end Own

/-! Own rules: one reading for things of several kinds. -/
namespace Own
open PySem PySem.Spec PyProof.Rows L2
section
variable {X : Cx}
def orR (r1 r2 : R2) : R2 := fun x y H Q => r1 x y H Q ∨ r2 x y H Q
theorem ix_or {r1 r2 : R2} (h1 : IxR X r1) (h2 : IxR X r2) : IxR X (orR r1 r2) := by
  intro value slice pins s σ H x y v u Q I rx ry h hs
  rcases h with h | h
  · exact h1 _ _ _ _ _ _ _ _ _ _ _ I rx ry h hs
  · exact h2 _ _ _ _ _ _ _ _ _ _ _ I rx ry h hs
theorem op_or {op : Value → Value → Sem Value} {r1 r2 : R2} (h1 : OpR X op r1) (h2 : OpR X op r2) : OpR X op (orR r1 r2) := by
  intro pins s σ H x y v u Q I rx ry h
  rcases h with h | h
  · exact h1 _ _ _ _ _ _ _ _ _ I rx ry h
  · exact h2 _ _ _ _ _ _ _ _ _ I rx ry h
theorem call_or {f : Value} {r1 r2 : List V → Hp → VK → Prop} (h1 : CallR X f r1) (h2 : CallR X f r2) : CallR X f (fun xs H Q => r1 xs H Q ∨ r2 xs H Q) := by
  intro pins s σ H xs us Q I r h
  rcases h with h | h
  · exact h1 _ _ _ _ _ _ _ I r h
  · exact h2 _ _ _ _ _ _ _ I r h
end
end Own

/-! set(names) and len(set(names)), names a list or a tuple of texts, however many. -/
namespace Own
open PySem PySem.Spec PyProof.Rows L2
/-- one more text is met -/
def meet (acc : List Str) (x : Str) : List Str := if acc.contains x then acc else acc ++ [x]
/-- the unlike ones, each where it is met first -/
def met (xs : List Str) : List Str := xs.foldl meet []
theorem met_more (xs : List Str) (x : Str) : met (xs ++ [x]) = meet (met xs) x := by
  unfold met
  rw [List.foldl_append]
  rfl
theorem meet_mem (acc : List Str) (x k : Str) : k ∈ meet acc x ↔ k ∈ acc ∨ k = x := by
  unfold meet
  by_cases h : acc.contains x = true
  · rw [if_pos h]
    exact ⟨.inl, fun q => q.elim id fun e => by rw [e]; exact List.contains_iff_mem.mp h⟩
  · rw [if_neg h, List.mem_append, List.mem_singleton]
theorem meet_len (acc : List Str) (x : Str) : (meet acc x).length = if acc.contains x = true then acc.length else acc.length + 1 := by
  unfold meet
  split
  · rfl
  · rw [List.length_append] <;> rfl
theorem foldl_meet_mem (k : Str) : ∀ (xs acc : List Str), k ∈ xs.foldl meet acc ↔ k ∈ acc ∨ k ∈ xs
  | [], acc => by simp
  | x :: xs, acc => by
    rw [List.foldl_cons, foldl_meet_mem k xs, meet_mem, List.mem_cons, or_assoc]
theorem met_mem (k : Str) (xs : List Str) : k ∈ met xs ↔ k ∈ xs := by
  unfold met
  rw [foldl_meet_mem]
  simp
theorem foldl_meet_nodup : ∀ (xs acc : List Str), acc.Nodup → (xs.foldl meet acc).Nodup
  | [], _, h => h
  | x :: xs, acc, h => by
    refine foldl_meet_nodup xs _ ?_
    unfold meet
    by_cases c : acc.contains x = true
    · rw [if_pos c]
      exact h
    · rw [if_neg c]
      refine List.nodup_append.mpr ⟨h, by simp, fun a ha b hb e => ?_⟩
      rw [List.mem_singleton.mp hb] at e
      exact c (List.contains_iff_mem.mpr (e ▸ ha))
theorem met_nodup (xs : List Str) : (met xs).Nodup := foldl_meet_nodup xs [] List.nodup_nil
theorem foldl_meet_le : ∀ (xs acc : List Str), (xs.foldl meet acc).length ≤ acc.length + xs.length
  | [], _ => Nat.le_refl _
  | x :: xs, acc => by
    have h := foldl_meet_le xs (meet acc x)
    have g := meet_len acc x
    rw [List.foldl_cons, List.length_cons]
    split at g <;> omega
theorem met_le (xs : List Str) : (met xs).length ≤ xs.length := by
  have := foldl_meet_le xs []
  rw [List.length_nil, Nat.zero_add] at this
  exact this
theorem foldl_meet_all : ∀ (xs acc : List Str), (acc ++ xs).Nodup → xs.foldl meet acc = acc ++ xs
  | [], acc, _ => by simp
  | x :: xs, acc, h => by
    have hx : ¬ acc.contains x = true := fun c => by
      have := (List.nodup_append.mp h).2.2 x (List.contains_iff_mem.mp c) x List.mem_cons_self
      exact this rfl
    have e : meet acc x = acc ++ [x] := if_neg hx
    have e2 : acc ++ [x] ++ xs = acc ++ x :: xs := by rw [List.append_assoc] <;> rfl
    rw [List.foldl_cons, e, foldl_meet_all xs (acc ++ [x]) (by rw [e2]; exact h), e2]
theorem met_all {xs : List Str} (h : xs.Nodup) : met xs = xs := foldl_meet_all xs [] h
theorem foldl_meet_full : ∀ (xs acc : List Str), acc.Nodup → (xs.foldl meet acc).length = acc.length + xs.length → (acc ++ xs).Nodup
  | [], acc, h, _ => by rw [List.append_nil]; exact h
  | x :: xs, acc, h, e => by
    have g := foldl_meet_le xs (meet acc x)
    have l := meet_len acc x
    rw [List.foldl_cons, List.length_cons] at e
    by_cases c : acc.contains x = true
    · rw [if_pos c] at l
      omega
    · rw [if_neg c] at l
      have e1 : meet acc x = acc ++ [x] := if_neg c
      have n : (meet acc x).Nodup := foldl_meet_nodup [x] acc h
      have := foldl_meet_full xs (meet acc x) n (by omega)
      rw [e1, List.append_assoc] at this
      exact this
theorem met_full {xs : List Str} (h : (met xs).length = xs.length) : xs.Nodup := foldl_meet_full xs [] List.nodup_nil (by rw [List.length_nil, Nat.zero_add]; exact h)
theorem met_iff (xs : List Str) : decide ((met xs).length = xs.length) = decide xs.Nodup := decide_eq_decide.mpr ⟨met_full, fun h => by rw [met_all h]⟩
section
variable {prog : Program} {w : World} {A : Around} {R : Result → Shared → Prop} {it S : Addr} {fp wr : List Addr} {G : Array GenState → Array GenState → Prop} {n : Nat} {P : Nat → Value → Prop} {St : Nat → Shared → Prop} {xs : List Str}
/-- what the set holds behind i texts -/
abbrev Holds (prog : Program) (w : World) (S : Addr) (l : List Str) (h : Heap) : Prop := h.SetOf (PySem.strKind prog w) S (fun k => decide (k ∈ met l)) (met l).length
theorem Holds.moved {l : List Str} {s s' : Shared} (h : Holds prog w S l s.heap) (m : ∀ o, s.heap.get? S = some o → s'.heap.get? S = some o) : Holds prog w S l s'.heap := by
  obtain ⟨o, es, ep, t, ho, r⟩ := h
  exact ⟨o, es, ep, t, m _ ho, r⟩
theorem fill (W : WalksS prog w A.in1 it fp wr G n P St) (out : S ∉ fp) (hn : xs.length = n) (small : n < 1000) (val : ∀ i v, P i v → ∃ t, v = .str (xs.getD i Str.empty) t) :
    ∀ (k i : Nat) (s : Shared), n - i = k → i ≤ n → St i s → Holds prog w S (xs.take i) s.heap →
      (∀ s', Moved (S :: wr) G s s' → Holds prog w S xs s'.heap → R (.ok (.ret .none)) s') → codeAny (model prog w) A (.builtin "set.update.loop" ⟨[.ref S, .ref it], []⟩) R s := by
  have nw : S ∉ wr := fun h => out (W.sub _ h)
  have more : ∀ b ∈ wr, b ∈ S :: wr := fun b hb => List.mem_cons_of_mem _ hb
  intro k
  induction k with
  | zero =>
    intro i s hk hi st hS hR
    obtain rfl : i = n := by omega
    refine codeAny_builtin PyProof.Rows.F.entry_set_update_loop ?_
    rw [Around.under_plainId PyProof.Rows.F.plain_set_update_loop _]
    refine wpAny_bind (m := pyNext (.ref it)) (W.done s _ _ st fun s' m => ?_)
    have hS' := hS.moved (s' := s') fun o e => m.heap S o nw e
    rw [← hn, List.take_length] at hS'
    exact wpAny_pure (hR s' (m.mono more) hS')
  | succ k ih =>
    intro i s hk hi st hS hR
    have lt : i < n := by omega
    refine codeAny_builtin PyProof.Rows.F.entry_set_update_loop ?_
    rw [Around.under_plainId PyProof.Rows.F.plain_set_update_loop _]
    refine wpAny_bind (m := pyNext (.ref it)) (W.item i s _ _ lt st fun v s' pv st' m => ?_)
    obtain ⟨t, rfl⟩ := val i v pv
    have hS' := hS.moved (s' := s') fun o e => m.heap S o nw e
    generalize hx : xs.getD i Str.empty = x at *
    have gx : xs[i]? = some x := by
      have l : i < xs.length := by omega
      rw [← hx, List.getD_eq_getElem?_getD, List.getElem?_eq_getElem l] <;> rfl
    have tk : xs.take (i + 1) = xs.take i ++ [x] := by rw [List.take_add_one, gx] <;> rfl
    refine wpAny_bind (m := holding [Value.str x t] (setAdd S (.str x t))) (wpAny_holding ?_)
    unfold setAdd
    refine wpAny_holding (wpAny_bind ((PySem.strKind prog w).pyHash (k := x) (strKind_is _ _ _ _) ?_))
    have room : (met (xs.take i)).length + 1 < scanBound := by
      have := met_le (xs.take i)
      rw [List.length_take] at this
      show _ < 4096
      omega
    refine wpAny_setAddHashed_of (knd := PySem.strKind prog w) (s := { s' with toks := s'.toks + 1 }) (strKind_is _ _ _ _) rfl hS' room fun h' sb hS2 => ?_
    have next : Holds prog w S (xs.take (i + 1)) h' := by
      refine PyProof.Rows.SetOf_congr hS2 (fun j => ?_) ?_
      · rw [tk, met_more, ← Bool.decide_or]
        exact decide_eq_decide.mpr (meet_mem _ x j).symm
      · rw [tk, met_more, meet_len]
        by_cases a : x ∈ met (xs.take i)
        · rw [if_pos (decide_eq_true a), if_pos (List.contains_iff_mem.mpr a)]
        · rw [if_neg (fun z => a (of_decide_eq_true z)), if_neg (fun z => a (List.contains_iff_mem.mp z))]
    refine wpAny_pure ⟨plainId_quiet PyProof.Rows.F.plain_set_update_loop _, ih (i + 1) _ (by omega) lt (W.frame _ s' _ _ st' (Nat.le_succ _) fun b hb o e => ?_) next fun s2 m2 hS3 => ?_⟩
    · exact (sb.2 b (fun z => out (z ▸ hb))).trans e
    · exact hR s2 (Moved.trans W.gtrans ((m.mono more).then_heap (Nat.le_succ _) fun b o hb e => (sb.2 b fun z => hb (z ▸ List.mem_cons_self)).trans e) m2) hS3
end
section
variable {prog : Program} {w : World} {A : Around} {E : Value → Shared → Prop} {s : Shared}
set_option maxHeartbeats 3200000 in
theorem set_of_list {l : Addr} {its : Array Value} {xs : List Str} {Q : Value → Shared → Prop} (hh : A.handled = none) (hl : s.heap.IsList l its) (hi : PyProof.Rows.StrsAre its.toList xs) (small : xs.length < 1000)
    (h : ∀ (h' : Heap) (tk : Nat), Holds prog w s.heap.objs.size xs h' → (∀ b o, b < s.heap.objs.size → s.heap.get? b = some o → h'.get? b = some o) → Q (.ref s.heap.objs.size) { s with heap := h', toks := tk }) :
    wpAny (model prog w) A (call (.type "set") [.ref l]) Q E s := by
  obtain ⟨c, tl, hmro⟩ := PySem.F.called_set.mro
  have hmade := PySem.F.called_set.made
  have hsub := PySem.F.called_set.sub
  refine wpAny_call (codeAny_of_tree (wpAny_pure ⟨Code.quiet_builtin _ (by decide +kernel), codeAny_builtin PySem.F.entry_type_call ?_⟩))
  rw [Around.under_plain (weight_type_call_type "set" [.ref l] []) rfl]
  have g1 := PySem.F.called_set.notType
  have g2 := PySem.F.called_set.canCreate
  have g3 := PySem.F.typeCall_set_1 (.ref l)
  repeat (any_goals (first | assumption | wp_step))
  -- the empty set is made
  refine codeAny_mono (code_set_new_1 (.ref l) (E := E) (Q₁ := fun v s₁ => ∃ led : Bool, v = .ref s.heap.objs.size ∧ s₁ = { s with heap := s.heap.push { cls := .type "set", dict := none, data := .set #[] 0 (.fresh 0 0 led) } }) fun led => ⟨led, rfl, rfl⟩) ?_
  rintro (e | _ | _ | _ | v) s₁ z
  · exact z
  · exact z.elim
  · exact z.elim
  · exact z.elim
  · obtain ⟨led, rfl, rfl⟩ := z
    have at0 : (s.heap.push { cls := .type "set", dict := none, data := .set #[] 0 (.fresh 0 0 led) }).get? s.heap.objs.size = some { cls := .type "set", dict := none, data := .set #[] 0 (.fresh 0 0 led) } := Heap.get?_push_size _ rfl
    have ty : Shared.TypeIs { s with heap := s.heap.push { cls := .type "set", dict := none, data := .set #[] 0 (.fresh 0 0 led) } } (.ref s.heap.objs.size) "set" := ⟨_, at0, rfl⟩
    have g4 := PySem.F.called_set.init.lookup
    have g5 := PySem.F.called_set.init.bind (.ref s.heap.objs.size)
    repeat (any_goals (first | assumption | wp_step))
    -- and filled
    refine codeAny_mono (codeAny_call_builtin (R := wants (fun r s₂ => r = .none ∧ ∃ h' tk, s₂ = { s with heap := h', toks := tk } ∧ Holds prog w s.heap.objs.size xs h' ∧ (∀ b o, b < s.heap.objs.size → s.heap.get? b = some o → h'.get? b = some o)) E)
      PySem.F.called_set.init.plain PySem.F.entry_set_init (check_set_init_1 ty ?_)) ?_
    · obtain ⟨⟨cls, dd, dat, sl⟩, hol, hc, nl, hd⟩ := hl
      simp only at hc hd
      subst hc hd
      have old := Heap.lt_size hol
      have hol2 : (s.heap.push { cls := .type "set", dict := none, data := .set #[] 0 (.fresh 0 0 led) }).get? l = some { cls := .type "list", dict := dd, data := .seq its nl, slots := sl } := Heap.get?_push_of_some _ hol
      have hl2 : (s.heap.push { cls := .type "set", dict := none, data := .set #[] 0 (.fresh 0 0 led) }).IsList l its := ⟨_, hol2, rfl, nl, rfl⟩
      have f1 := PySem.F.sub_list_set
      have f2 := PySem.F.sub_list_frozenset
      have f3 : (Value.type "list" == Value.type "dict") = false := by decide
      unfold Builtin.«set.__init__» noKeywords Builtin.Frozenset.updateFrom
      generalize hit : pyIter = itf
      wp_walk
      subst hit
      refine wpAny_pyIter_list hl2 ?_
      refine wpAny_bind (wpAny_runValue ?_)
      have top : (s.heap.push { cls := .type "set", dict := none, data := .set #[] 0 (.fresh 0 0 led) }).objs.size = s.heap.objs.size + 1 := Heap.size_push ..
      have ne1 : l ≠ (s.heap.push { cls := .type "set", dict := none, data := .set #[] 0 (.fresh 0 0 led) }).objs.size := by rw [top]; exact Nat.ne_of_lt (Nat.lt_succ_of_lt old)
      have out : s.heap.objs.size ∉ [(s.heap.push { cls := .type "set", dict := none, data := .set #[] 0 (.fresh 0 0 led) }).objs.size, l] := by
        rw [top]
        intro m
        rcases List.mem_cons.mp m with e | m
        · exact absurd e (Nat.ne_of_lt (Nat.lt_succ_self _))
        · exact absurd (List.mem_singleton.mp m) (Nat.ne_of_gt old)
      have len : xs.length = its.size := by rw [← StrsAre.len_eq hi, Array.length_toList]
      have val : ∀ (i : Nat) (v : Value), its[i]? = some v → ∃ t, v = .str (xs.getD i Str.empty) t := fun i v hv => SS.strs_at hi i v (by rw [Array.getElem?_toList]; exact hv)
      refine fill ((Walks.list (show A.in1.in1.in1.handled = none by simp [hh]) _ l ne1 its).toS) out len (by rw [← len]; exact small) val (its.size - 0) 0 _ (by omega) (Nat.zero_le _) ⟨⟨_, Heap.get?_push_size _ rfl, rfl, rfl⟩, hl2.push _⟩ ?_ ?_
      · have z : ((s.heap.push { cls := .type "set", dict := none, data := .set #[] 0 (.fresh 0 0 led) }).push { cls := .type "list_iterator", data := .fields #[.ref l, .int 0 0] }).get? s.heap.objs.size = some { cls := .type "set", dict := none, data := .set #[] 0 (.fresh 0 0 led) } := Heap.get?_push_of_some _ at0
        exact PyProof.Rows.SetOf_congr ((PyProof.Rows.setObjOf_fresh (knd := PySem.strKind prog w) led).setOf z (by unfold scanBound; omega)) (fun k => rfl) rfl
      · rintro ⟨h', g', d', tk', os'⟩ m hS'
        obtain rfl : g' = s.gens := m.gens
        obtain rfl : d' = s.drawn := m.drawn
        obtain rfl : os' = s.os := m.os
        refine wpAny_pure (wpAny_pure ⟨rfl, h', tk', rfl, hS', fun b o hb e => ?_⟩)
        refine m.heap b o (fun mm => ?_) (Heap.get?_push_of_some _ (Heap.get?_push_of_some _ e))
        rcases List.mem_cons.mp mm with e1 | mm
        · exact absurd e1 (Nat.ne_of_lt hb)
        · have e2 : b = (s.heap.push { cls := .type "set", dict := none, data := .set #[] 0 (.fresh 0 0 led) }).objs.size := List.mem_singleton.mp mm
          rw [top] at e2
          omega
    · rintro (e | _ | _ | _ | v) s₂ z
      · exact z
      · exact z.elim
      · exact z.elim
      · exact z.elim
      · obtain ⟨rfl, h', tk, rfl, hS', kp⟩ := z
        repeat (any_goals (first | assumption | wp_step))
        exact h _ _ hS' kp
end
section
variable {prog : Program} {w : World} {A : Around} {E : Value → Shared → Prop} {s : Shared}
set_option maxHeartbeats 3200000 in
theorem set_of_tuple {l : Addr} {its : Array Value} {xs : List Str} {Q : Value → Shared → Prop} (hh : A.handled = none) (hl : s.heap.IsTuple l its) (hi : PyProof.Rows.StrsAre its.toList xs) (small : xs.length < 1000)
    (h : ∀ (h' : Heap) (tk : Nat), Holds prog w s.heap.objs.size xs h' → (∀ b o, b < s.heap.objs.size → s.heap.get? b = some o → h'.get? b = some o) → Q (.ref s.heap.objs.size) { s with heap := h', toks := tk }) :
    wpAny (model prog w) A (call (.type "set") [.ref l]) Q E s := by
  obtain ⟨c, tl, hmro⟩ := PySem.F.called_set.mro
  have hmade := PySem.F.called_set.made
  have hsub := PySem.F.called_set.sub
  refine wpAny_call (codeAny_of_tree (wpAny_pure ⟨Code.quiet_builtin _ (by decide +kernel), codeAny_builtin PySem.F.entry_type_call ?_⟩))
  rw [Around.under_plain (weight_type_call_type "set" [.ref l] []) rfl]
  have g1 := PySem.F.called_set.notType
  have g2 := PySem.F.called_set.canCreate
  have g3 := PySem.F.typeCall_set_1 (.ref l)
  repeat (any_goals (first | assumption | wp_step))
  -- the empty set is made
  refine codeAny_mono (code_set_new_1 (.ref l) (E := E) (Q₁ := fun v s₁ => ∃ led : Bool, v = .ref s.heap.objs.size ∧ s₁ = { s with heap := s.heap.push { cls := .type "set", dict := none, data := .set #[] 0 (.fresh 0 0 led) } }) fun led => ⟨led, rfl, rfl⟩) ?_
  rintro (e | _ | _ | _ | v) s₁ z
  · exact z
  · exact z.elim
  · exact z.elim
  · exact z.elim
  · obtain ⟨led, rfl, rfl⟩ := z
    have at0 : (s.heap.push { cls := .type "set", dict := none, data := .set #[] 0 (.fresh 0 0 led) }).get? s.heap.objs.size = some { cls := .type "set", dict := none, data := .set #[] 0 (.fresh 0 0 led) } := Heap.get?_push_size _ rfl
    have ty : Shared.TypeIs { s with heap := s.heap.push { cls := .type "set", dict := none, data := .set #[] 0 (.fresh 0 0 led) } } (.ref s.heap.objs.size) "set" := ⟨_, at0, rfl⟩
    have g4 := PySem.F.called_set.init.lookup
    have g5 := PySem.F.called_set.init.bind (.ref s.heap.objs.size)
    repeat (any_goals (first | assumption | wp_step))
    -- and filled
    refine codeAny_mono (codeAny_call_builtin (R := wants (fun r s₂ => r = .none ∧ ∃ h' tk, s₂ = { s with heap := h', toks := tk } ∧ Holds prog w s.heap.objs.size xs h' ∧ (∀ b o, b < s.heap.objs.size → s.heap.get? b = some o → h'.get? b = some o)) E)
      PySem.F.called_set.init.plain PySem.F.entry_set_init (check_set_init_1 ty ?_)) ?_
    · obtain ⟨⟨cls, dd, dat, sl⟩, hol, hc, nl, hd⟩ := hl
      simp only at hc hd
      subst hc hd
      have old := Heap.lt_size hol
      have hol2 : (s.heap.push { cls := .type "set", dict := none, data := .set #[] 0 (.fresh 0 0 led) }).get? l = some { cls := .type "tuple", dict := dd, data := .seq its nl, slots := sl } := Heap.get?_push_of_some _ hol
      have hl2 : (s.heap.push { cls := .type "set", dict := none, data := .set #[] 0 (.fresh 0 0 led) }).IsTuple l its := ⟨_, hol2, rfl, nl, rfl⟩
      have f1 := PySem.F.sub_tuple_set
      have f2 := PySem.F.sub_tuple_frozenset
      have f3 : (Value.type "tuple" == Value.type "dict") = false := by decide
      unfold Builtin.«set.__init__» noKeywords Builtin.Frozenset.updateFrom
      generalize hit : pyIter = itf
      wp_walk
      subst hit
      refine wpAny_pyIter_tuple hl2 ?_
      refine wpAny_bind (wpAny_runValue ?_)
      have top : (s.heap.push { cls := .type "set", dict := none, data := .set #[] 0 (.fresh 0 0 led) }).objs.size = s.heap.objs.size + 1 := Heap.size_push ..
      have ne1 : l ≠ (s.heap.push { cls := .type "set", dict := none, data := .set #[] 0 (.fresh 0 0 led) }).objs.size := by rw [top]; exact Nat.ne_of_lt (Nat.lt_succ_of_lt old)
      have out : s.heap.objs.size ∉ [(s.heap.push { cls := .type "set", dict := none, data := .set #[] 0 (.fresh 0 0 led) }).objs.size, l] := by
        rw [top]
        intro m
        rcases List.mem_cons.mp m with e | m
        · exact absurd e (Nat.ne_of_lt (Nat.lt_succ_self _))
        · exact absurd (List.mem_singleton.mp m) (Nat.ne_of_gt old)
      have len : xs.length = its.size := by rw [← StrsAre.len_eq hi, Array.length_toList]
      have val : ∀ (i : Nat) (v : Value), its[i]? = some v → ∃ t, v = .str (xs.getD i Str.empty) t := fun i v hv => SS.strs_at hi i v (by rw [Array.getElem?_toList]; exact hv)
      refine fill ((Walks.tuple (show A.in1.in1.in1.handled = none by simp [hh]) _ l ne1 its).toS) out len (by rw [← len]; exact small) val (its.size - 0) 0 _ (by omega) (Nat.zero_le _) ⟨⟨_, Heap.get?_push_size _ rfl, rfl, rfl⟩, hl2.push _⟩ ?_ ?_
      · have z : ((s.heap.push { cls := .type "set", dict := none, data := .set #[] 0 (.fresh 0 0 led) }).push { cls := .type "tuple_iterator", data := .fields #[.ref l, .int 0 0] }).get? s.heap.objs.size = some { cls := .type "set", dict := none, data := .set #[] 0 (.fresh 0 0 led) } := Heap.get?_push_of_some _ at0
        exact PyProof.Rows.SetOf_congr ((PyProof.Rows.setObjOf_fresh (knd := PySem.strKind prog w) led).setOf z (by unfold scanBound; omega)) (fun k => rfl) rfl
      · rintro ⟨h', g', d', tk', os'⟩ m hS'
        obtain rfl : g' = s.gens := m.gens
        obtain rfl : d' = s.drawn := m.drawn
        obtain rfl : os' = s.os := m.os
        refine wpAny_pure (wpAny_pure ⟨rfl, h', tk', rfl, hS', fun b o hb e => ?_⟩)
        refine m.heap b o (fun mm => ?_) (Heap.get?_push_of_some _ (Heap.get?_push_of_some _ e))
        rcases List.mem_cons.mp mm with e1 | mm
        · exact absurd e1 (Nat.ne_of_lt hb)
        · have e2 : b = (s.heap.push { cls := .type "set", dict := none, data := .set #[] 0 (.fresh 0 0 led) }).objs.size := List.mem_singleton.mp mm
          rw [top] at e2
          omega
    · rintro (e | _ | _ | _ | v) s₂ z
      · exact z
      · exact z.elim
      · exact z.elim
      · exact z.elim
      · obtain ⟨rfl, h', tk, rfl, hS', kp⟩ := z
        repeat (any_goals (first | assumption | wp_step))
        exact h _ _ hS' kp
end
end Own

/-! len(set(names)) as a rule; a loop over a list or a tuple. -/
namespace Own
open PySem PySem.Spec PyProof.Rows L2
section
variable {X : Cx}
def tUnlike (K : PySem.W.Frag) (ta : TE) : TE := fun σ H Q => ta σ H fun x H1 => ∃ (l : Addr) (xs : List Str), x = .ref l ∧ (SqL K H1 l (xs.map V.str) ∨ SqT K H1 l (xs.map V.str)) ∧ xs.length < 1000 ∧ Q (.int (met xs).length) H1
theorem pe_unlike {a : Expr} {ta : TE} {p p2 q pos : Pos} (hc : X.calm = true) (hg : Gl X "len") (hm : X.mg "len" = none) (hg2 : Gl X "set") (hm2 : X.mg "set" = none) (ha : PE X a ta)
    (na : starEach [a] X.env = (false, eval a X.env) :: starEach [] X.env := by rfl) : PE X (.Call (.Name "len" p) [.Call (.Name "set" p2) [a] [] q] [] pos) (tUnlike X.K ta) := by
  refine ⟨fun pins s σ H Q I h => ?_⟩
  refine Call_ (ld_blt I hg hm boot_len (PyProof.Rows.callWith_builtin1 (PyProof.Rows.args_cons ?_ rfl) rfl rfl))
  refine Call_ (ld_blt I hg2 hm2 boot_set (PyProof.Rows.callWith_type1 (PyProof.Rows.args_cons (thn (ha.run pins s σ H _ I h) fun v s1 ⟨x, H1, J, rx, z⟩ => PyProof.Rows.args_nil ?_) na) na rfl))
  obtain ⟨l, xs, rfl, seq, small, q⟩ := z
  cases rx
  have done : ∀ (h' : Heap) (tk : Nat), Holds X.prog X.w s1.heap.objs.size xs h' → (∀ b o, b < s1.heap.objs.size → s1.heap.get? b = some o → h'.get? b = some o) →
      wpAny (model X.prog X.w) X.A (spliced (backTo pos (starEach [] X.env))) (fun vs s₂ => wpAny (model X.prog X.w) X.A (call (.builtin "len") (Value.ref s1.heap.objs.size :: vs)) (EP X pins σ Q) X.xe s₂) X.xe { s1 with heap := h', toks := tk } := fun h' tk hS kp => by
    obtain ⟨o, es, ep, t, ho, ex, hd, _, _, _, fits, hn⟩ := hS
    have J2 : Inv X pins σ H1 { s1 with heap := h', toks := tk } := J.kept fun b o e => kp b o (Heap.lt_size e) e
    have le := met_le xs
    exact PyProof.Rows.args_nil (call_len_set ho ex hd fits (by rw [hn]; omega) ⟨.int (met xs).length, H1, J2.tok _, ⟨_, by rw [hn]⟩, q⟩)
  rcases seq with hq | hq
  · obtain ⟨its, r, pl, _⟩ := J.list hq
    exact set_of_list (J.ok.hd hc) pl.isList (by simpa using strsAre_of r) small done
  · obtain ⟨its, r, pl, _⟩ := J.tuple hq
    exact set_of_tuple (J.ok.hd hc) pl (by simpa using strsAre_of r) small done
/-- what is walked may be of two kinds -/
theorem pi_or {tg e : Expr} {w1 w2 : TI} (h1 : PI X tg e w1) (h2 : PI X tg e w2) : PI X tg e (fun σ H R => w1 σ H R ∨ w2 σ H R) := ⟨fun pins s σ H R I h => h.elim (h1.run pins s σ H R I) (h2.run pins s σ H R I)⟩
end
end Own

/-! enumerate over a tuple: its making, its turns, the rule for a loop or a comprehension (pi_enumT). -/
namespace L2
open PySem PySem.Spec PyProof.Rows
theorem enum_newT (l : Addr) (items : Array Value) :
    Meets (Builtin.«enumerate.__new__» ⟨[.type "enumerate", .ref l], []⟩) (fun _ R s => s.heap.IsTuple l items ∧ R (.ok (.ret (.ref (s.heap.push { cls := .type "tuple_iterator", data := .fields #[.ref l, .int 0 0] }).objs.size)))
      { s with heap := (s.heap.push { cls := .type "tuple_iterator", data := .fields #[.ref l, .int 0 0] }).push { cls := .type "enumerate", data := .fields #[.none, .bool false, .ref s.heap.objs.size, rawInt 0, .none, .none] } }) :=
  .of_wp fun prog w A R s h => by
    obtain ⟨hp, g, d, tk, os⟩ := s
    obtain ⟨ht, h⟩ := h
    have f1 := sub_enumerate
    wp_walk using wpAny_pyIter_tuple ht
    refine wpAny_stack_any fun st => ?_
    wp_walk
    split
    · wp_walk
      split
      · wp_walk using wpAny_pyIter_tuple ht
        exact ⟨_, rfl, h⟩
      · wp_walk using wpAny_pyIter_tuple ht
        exact ⟨_, rfl, h⟩
    · wp_walk using wpAny_pyIter_tuple ht
      exact ⟨_, rfl, h⟩
theorem call_enumT {prog : Program} {w : World} {A : Around} {E : Value → Shared → Prop} {s : Shared} {l : Addr} {items : Array Value} {Q : Value → Shared → Prop} (ht : s.heap.IsTuple l items)
    (k : ∀ h' : Heap, IsEnum h' (s.heap.objs.size + 1) s.heap.objs.size 0 .none → h'.IsTupleIter s.heap.objs.size l 0 → h'.objs.size = s.heap.objs.size + 2 → (∀ (b : Addr) (o : Obj), s.heap.get? b = some o → h'.get? b = some o) →
      Q (.ref (s.heap.objs.size + 1)) { s with heap := h' }) : wpAny (model prog w) A (call (.type "enumerate") [.ref l]) Q E s := by
  have sz : ∀ (h : Heap) (o : Obj), (h.push o).objs.size = h.objs.size + 1 := fun h o => by unfold Heap.push; exact Array.size_push _
  refine callType_new F.called_enumerate (by decide) (F.typeCall_enumerate_1 _) (F.newCall_enumerate_1 _) (fun obj => F.args_object_init_2 _ _) F.entry_enumerate_new (enum_newT l items) ⟨ht, ?_⟩
  generalize ho1 : ({ cls := .type "tuple_iterator", data := .fields #[.ref l, .int 0 0] } : Obj) = o1
  generalize ho2 : ({ cls := .type "enumerate", data := .fields #[.none, .bool false, .ref s.heap.objs.size, rawInt 0, .none, .none] } : Obj) = o2
  have f1 : o1.isFreed = false := by rw [← ho1]; rfl
  have f2 : o2.isFreed = false := by rw [← ho2]; rfl
  have g2 : ((s.heap.push o1).push o2).get? (s.heap.push o1).objs.size = some o2 := Heap.get?_push_size _ f2
  have g1 : ((s.heap.push o1).push o2).get? s.heap.objs.size = some o1 := Heap.get?_push_of_some _ (Heap.get?_push_size _ f1)
  refine ⟨⟨o2, g2, by rw [← ho2]⟩, ?_⟩
  rw [sz] at g2 ⊢
  exact k _ (g2.trans (by rw [← ho2])) ⟨o1, g1, by rw [← ho1], by rw [← ho1]; rfl⟩ (by rw [sz, sz]) (fun b o e => Heap.get?_push_of_some _ (Heap.get?_push_of_some _ e))
theorem tup_next_item (it t : Addr) (i : Nat) (items : Array Value) (x : Value) :
    Meets (Builtin.«tuple_iterator.__next__» ⟨[.ref it], []⟩) (fun _ R s => s.heap.IsTupleIter it t i ∧ s.heap.IsTuple t items ∧ items[i]? = some x ∧ ∀ h' : Heap, h'.IsTupleIter it t (i + 1) → Heap.SameBut it s.heap h' → R (.ok (.ret x)) { s with heap := h' }) :=
  .of_wp fun prog w A R s h => by
    obtain ⟨hp, g, d, tk, os⟩ := s
    obtain ⟨hi, ht, hx, h⟩ := h
    obtain ⟨⟨cls, dd, data, sl⟩, ho, hc, hd⟩ := hi
    obtain ⟨⟨cls2, dd2, data2, sl2⟩, ho2, hc2, n2, hd2⟩ := ht
    simp only at hc hd hc2 hd2
    subst hc hd hc2 hd2
    have q2 : (#[Value.ref t, Value.int (↑i) 0] : Array Value)[1]? = some (Value.int (↑i) 0) := rfl
    wp_walk using wpAny_load' ho
    rw [Int.toNat_natCast, hx]
    refine wpAny_bind (wpAny_setField ho rfl (by show 1 < 2; decide) ?_)
    wp_walk
    exact ⟨_, rfl, h _ ⟨_, Heap.get?_update_self _ ho rfl, rfl, rfl⟩ (Heap.SameBut.update _ _ _)⟩
theorem tup_next_end (it t : Addr) (i : Nat) (items : Array Value) :
    Meets (Builtin.«tuple_iterator.__next__» ⟨[.ref it], []⟩) (fun A R s => A.handled = none ∧ s.heap.IsTupleIter it t i ∧ s.heap.IsTuple t items ∧ items[i]? = none ∧ ∀ (h' : Heap) (e : Addr), Heap.ExtBut it s.heap h' → (∃ o, h'.get? e = some o ∧ o.cls = .type "StopIteration") → R (.error (.ref e)) { s with heap := h' }) :=
  .of_wp fun prog w A R s h => by
    obtain ⟨hp, g, d, tk, os⟩ := s
    obtain ⟨hh, hi, ht, hx, h⟩ := h
    obtain ⟨⟨cls, dd, data, sl⟩, ho, hc, hd⟩ := hi
    obtain ⟨⟨cls2, dd2, data2, sl2⟩, ho2, hc2, n2, hd2⟩ := ht
    simp only at hc hd hc2 hd2
    subst hc hd hc2 hd2
    have q2 : (#[Value.ref t, Value.int (↑i) 0] : Array Value)[1]? = some (Value.int (↑i) 0) := rfl
    wp_walk using wpAny_load' ho
    rw [Int.toNat_natCast, hx]
    have hh1 : A.in1.handled = none := hh
    wp_walk using wpAny_raiseNew_none hh1
    refine h _ _ ?_ ?_
    · exact fun b o nb e => Heap.get?_push_of_some _ (Heap.get?_push_of_some _ ((Heap.get?_update_other _ _ (Ne.symm nb)).trans e))
    · exact ⟨_, Heap.get?_push_size _ rfl, rfl⟩
theorem nextOf_tup_item {prog : Program} {w : World} {A : Around} {E : Value → Shared → Prop} {s : Shared} {it t : Addr} {i : Nat} {items : Array Value} {x : Value} {Q : Value → Shared → Prop} (hi : s.heap.IsTupleIter it t i) (ht : s.heap.IsTuple t items) (hx : items[i]? = some x)
    (k : ∀ h' : Heap, h'.IsTupleIter it t (i + 1) → Heap.SameBut it s.heap h' → Q x { s with heap := h' }) : wpAny (model prog w) A (Builtin.SmallTypes.nextOf (.ref it)) Q E s := by
  unfold Builtin.SmallTypes.nextOf
  refine wpAny_bind (wpAny_callSpecial?_slot hi.typeIs F.slot_tuple_iterator_next (call_meets F.slot_tuple_iterator_next hi.typeIs F.entry_tuple_iterator_next (F.args_tuple_iterator_next_1 _) (tup_next_item it t i items x) ⟨hi, ht, hx, fun h' a b => ?_⟩))
  exact wpAny_pure (k h' a b)
theorem nextOf_tup_end {prog : Program} {w : World} {A : Around} {E : Value → Shared → Prop} {s : Shared} {it t : Addr} {i : Nat} {items : Array Value} {Q : Value → Shared → Prop} (hh : A.handled = none) (hi : s.heap.IsTupleIter it t i) (ht : s.heap.IsTuple t items) (hx : items[i]? = none)
    (k : ∀ (h' : Heap) (e : Addr), Heap.ExtBut it s.heap h' → (∃ o, h'.get? e = some o ∧ o.cls = .type "StopIteration") → E (.ref e) { s with heap := h' }) : wpAny (model prog w) A (Builtin.SmallTypes.nextOf (.ref it)) Q E s := by
  unfold Builtin.SmallTypes.nextOf
  exact wpAny_bind (wpAny_callSpecial?_slot hi.typeIs F.slot_tuple_iterator_next (call_meets F.slot_tuple_iterator_next hi.typeIs F.entry_tuple_iterator_next (F.args_tuple_iterator_next_1 _) (tup_next_end it t i items) ⟨hh, hi, ht, hx, k⟩))
theorem drawsTup {prog : Program} {w : World} {A : Around} (hh : A.handled = none) (it t : Addr) (ne : t ≠ it) (items : Array Value) :
    Draws prog w A it [it, t] items.size (fun i v => items[i]? = some v) (fun i h => h.IsTupleIter it t i ∧ h.IsTuple t items) where
  live := fun i h z => z.1.imp fun o y => y.1
  frame := fun i h h' z k => ⟨z.1.at fun o e => k it List.mem_cons_self o e, z.2.imp fun o y => ⟨k t (List.mem_cons_of_mem _ List.mem_cons_self) o y.1, y.2⟩⟩
  item := fun i s Q E hi z k => nextOf_tup_item z.1 z.2 (Array.getElem?_eq_getElem hi) fun h' a b => k _ h' s.toks (Array.getElem?_eq_getElem hi) ⟨a, z.2.imp fun o y => ⟨(b.2 t ne).trans y.1, y.2⟩⟩ b
  done := fun s Q E z k => nextOf_tup_end hh z.1 z.2 (Array.getElem?_eq_none (Nat.le_refl _)) k
def IteT (K : PySem.W.Frag) (a : Addr) : It where
  go := fun i H => ∃ xs x, SqT K H a xs ∧ xs[i]? = some x
  yld := fun i H v H' => ∃ T x, v = .ref T ∧ H T = none ∧ H' = upd H T (.tup [.int i, x]) ∧ ∀ xs, SqT K H a xs → xs[i]? = some x
  stop := fun i H => ∃ xs, SqT K H a xs ∧ xs.length ≤ i
theorem turn_enumT {P : Program} {w : World} {K : PySem.W.Frag} {elts : List Expr} {kk : Nat} {tpos : Pos} (a e it : Addr) :
    Turn P w K (.Tuple elts kk tpos) (IteT K a) [e, it] e (fun i h => (∃ old, IsEnum h e it (i : Int) old) ∧ h.IsTupleIter it a i ∧ e ≠ it) where
  mem := List.mem_cons_self
  obj := fun i h ⟨⟨old, h1⟩, ⟨o, h2, _, h4⟩, _⟩ b hb => by
    rcases List.mem_cons.mp hb with rfl | hb
    · exact ⟨_, h1, fun v z => by cases z⟩
    · rw [List.mem_singleton.mp hb]
      exact ⟨o, h2, fun v z => by rw [h4] at z; cases z⟩
  keep := fun i h h' ⟨⟨old, h1⟩, h2, ne⟩ k => ⟨⟨old, k e List.mem_cons_self _ h1⟩, h2.at fun o z => k it (List.mem_cons_of_mem _ List.mem_cons_self) o z, ne⟩
  item := fun X hP hw hK hc i pins s σ H E I hf ⟨⟨old, h1⟩, h2, ne⟩ ⟨xs, x, hx, hi⟩ => by
    subst hP hw hK
    obtain ⟨its, rv, ht, hl⟩ := I.tuple hx
    obtain ⟨u, hu, ru⟩ := Vals.get rv hi
    have hu' : its.toArray[i]? = some u := by rw [List.getElem?_toArray]; exact hu
    have hlt : i < its.toArray.size := by
      rcases Nat.lt_or_ge i its.toArray.size with z | z
      · exact z
      · rw [Array.getElem?_eq_none z] at hu'; cases hu'
    obtain ⟨oi, gi, ci, di⟩ := h2
    obtain ⟨ot, gt, ct, nt, dt⟩ := ht
    have ae : a ≠ e := fun z => by rw [z, h1] at gt; cases gt; exact absurd (Value.type.inj ct) (by decide)
    have ai : a ≠ it := fun z => by rw [z, gi] at gt; cases gt; rw [ci] at ct; exact absurd (Value.type.inj ct) (by decide)
    refine wpAny_pyNext_enum_itemD (drawsTup (A := X.A.in1) (I.ok.hd hc) it a ai its.toArray) h1 ⟨⟨oi, gi, ci, di⟩, ⟨ot, gt, ct, nt, dt⟩⟩ hlt ne (by simp [ne, ae.symm]) fun y h' tk hy out st gT sz keep => ?_
    rw [hu'] at hy
    cases hy
    have eT : e ≠ s.heap.objs.size := fun z => by rw [← z, out] at gT; exact absurd (Value.type.inj (congrArg Obj.cls (Option.some.inj gT))) (by decide)
    have iT : it ≠ s.heap.objs.size := fun z => by obtain ⟨o, g, c, _⟩ := st.1; rw [z, gT] at g; cases g; exact absurd (Value.type.inj c) (by decide)
    refine ⟨_, rfl, wpAny_letOwnedTupleGo_enum out fun h2 hE same => ⟨.ref s.heap.objs.size, upd H s.heap.objs.size (.tup [.int i, x]), ?_, rfl, ⟨_, x, rfl, I.fresh, rfl, fun ys hy => ?_⟩, ⟨⟨_, hE⟩, ?_, ne⟩, fun b hb => ?_⟩⟩
    · refine I.turnedNew (ch := [e, it]) (fun b o nb g => ?_) hf (Nat.le_refl _) ?_
      · have b1 : b ≠ e := fun z => nb (by rw [z]; exact List.mem_cons_self)
        have b2 : b ≠ it := fun z => nb (by rw [z]; exact List.mem_cons_of_mem _ List.mem_cons_self)
        exact (same.2 b b1).trans (keep b o b1 b2 g)
      · have g2 : h2.get? s.heap.objs.size = _ := (same.2 _ (Ne.symm eT)).trans gT
        exact ⟨by show 2 ≤ 16777216; decide, [.int i tk, u], .cons ⟨tk, rfl⟩ (.cons ru .nil), ⟨_, g2, rfl, _, rfl⟩⟩
    · rw [I.tuple_inj hy hx]
      exact hi
    · exact st.1.at fun o g => (same.2 it ne.symm).trans g
    · rcases List.mem_cons.mp hb with rfl | hb
      · rw [upd_ne eT]
        exact (hf _ List.mem_cons_self).1
      · rw [List.mem_singleton.mp hb, upd_ne iT]
        exact (hf it (List.mem_cons_of_mem _ List.mem_cons_self)).1
  done := fun X hP hw hK hc i pins s σ H E I hf ⟨⟨old, h1⟩, h2, ne⟩ ⟨xs, hx, hi⟩ => by
    subst hP hw hK
    obtain ⟨its, rv, ht, hl⟩ := I.tuple hx
    have hn : its.toArray[i]? = none := Array.getElem?_eq_none (by have := rv.length; simp; omega)
    have D : Draws X.prog X.w X.A.in1 it [it, a] i (fun _ _ => True) (fun j h => j = i ∧ h.IsTupleIter it a i ∧ h.IsTuple a its.toArray) :=
      { live := fun j h z => z.2.1.imp fun o y => y.1
        frame := fun j h h' z k => ⟨z.1, z.2.1.at fun o g => k it List.mem_cons_self o g, z.2.2.imp fun o y => ⟨k a (List.mem_cons_of_mem _ List.mem_cons_self) o y.1, y.2⟩⟩
        item := fun j s Q E hj z _ => absurd z.1 (Nat.ne_of_lt hj)
        done := fun s Q E z k => nextOf_tup_end (I.ok.hd hc) z.2.1 z.2.2 hn k }
    refine wpAny_pyNext_enum_endD D h1 ⟨rfl, h2, ht⟩ fun h' ext => ⟨rfl, I.turnedL (ch := [e, it]) (fun b o nb g => ext b o (fun z => nb (by rw [z]; exact List.mem_cons_of_mem _ List.mem_cons_self)) g) hf⟩
  self := fun A i s Q E ⟨⟨old, h1⟩, h2, ne⟩ q => wpAny_pyIter_enum h1 q
def iEnumT (K : PySem.W.Frag) (ta : TE) : TI := fun σ H R => ta σ H fun x H1 => ∃ (a : Addr) (xs : List V), x = .ref a ∧ SqT K H1 a xs ∧ R (IteT K a) H1
theorem pi_enumT {X : Cx} {e : Expr} {ta : TE} {p pos tpos : Pos} {elts : List Expr} {kk : Nat} (hg : Gl X "enumerate") (hm : X.mg "enumerate" = none) (ha : PE X e ta)
    (na : starEach [e] X.env = (false, eval e X.env) :: starEach [] X.env := by rfl) : PI X (.Tuple elts kk tpos) (.Call (.Name "enumerate" p) [e] [] pos) (iEnumT X.K ta) := by
  refine ⟨fun pins s σ H R I h => ?_⟩
  refine Call_ (ld_blt I hg hm PyProof.Rows.boot_enumerate (PyProof.Rows.callWith_type1 (PyProof.Rows.args_cons (thn (ha.run pins s σ H _ I h) fun v s1 ⟨x, H1, J, rx, z⟩ => PyProof.Rows.args_nil ?_) na) na rfl))
  obtain ⟨a, xs, rfl, hx, q⟩ := z
  cases rx
  obtain ⟨its, rv, ht, hl⟩ := J.tuple hx
  refine call_enumT ht fun h' hE hI sz kp => wpAny_pyIter_enum hE ?_
  have J2 : Inv X pins σ H1 { s1 with heap := h' } := J.kept fun b o e => kp b o e
  have f1 : H1 s1.heap.objs.size = none := J.fresh
  have J1 : Inv X pins σ H1 { s1 with heap := s1.heap.push { cls := .type "tuple", data := .seq #[] } } := J.kept fun b o e => Heap.get?_push_of_some _ e
  have f2 : H1 (s1.heap.objs.size + 1) = none := by
    have := J1.fresh
    rw [show (s1.heap.push { cls := .type "tuple", data := .seq #[] }).objs.size = s1.heap.objs.size + 1 from Array.size_push _] at this
    exact this
  refine ⟨_, [s1.heap.objs.size + 1, s1.heap.objs.size], _, IteT X.K a, H1, rfl, J2, turn_enumT a _ _, ⟨⟨.none, hE⟩, hI, Nat.succ_ne_self _⟩, fun b hb => ?_, q⟩
  rcases List.mem_cons.mp hb with rfl | hb
  · exact J.fpOk (Nat.le_succ _) f2
  · rw [List.mem_singleton.mp hb]
    exact J.fpOk (Nat.le_refl _) f1
/-- enumerate of a tuple, for for_it and lc_it -/
theorem walk_enumT {K : PySem.W.Frag} {a : Addr} {xs : List V} : Walk (IteT K a) xs.length (fun H => SqT K H a xs) (YPair (fun i => some (V.int i)) fun i => xs[i]?) where
  goes := fun i H hi h => ⟨xs, xs[i], h, List.getElem?_eq_getElem hi⟩
  stops := fun H h => ⟨xs, h, Nat.le_refl _⟩
  yields := fun i H x H' hi h ⟨T, y, e, n, u, k⟩ => ⟨T, _, y, e, n, u, rfl, k xs h⟩
end L2

namespace Own
open PySem PySem.Spec PyProof.Rows L2
/-! ### levels: the numbers that some things have, and the things cut by them -/
section
variable {α : Type} [DecidableEq α]
def Lev (zs : List α) (f : α → Int) (ls : List Int) : Prop := ls.Pairwise (· < ·) ∧ ∀ k, k ∈ ls ↔ ∃ z ∈ zs, f z = k
def cutBy (zs : List α) (f : α → Int) (ls : List Int) : List (List α) := ls.map fun k => zs.filter fun z => decide (f z = k)
theorem rise_eq : ∀ {a b : List Int}, a.Pairwise (· < ·) → b.Pairwise (· < ·) → (∀ k, k ∈ a ↔ k ∈ b) → a = b
  | [], [], _, _, _ => rfl
  | [], y :: b, _, _, h => by have := (h y).mpr List.mem_cons_self; cases this
  | x :: a, [], _, _, h => by have := (h x).mp List.mem_cons_self; cases this
  | x :: a, y :: b, h1, h2, h => by
    have p1 := List.pairwise_cons.mp h1
    have p2 := List.pairwise_cons.mp h2
    have e : x = y := by
      have a1 := (h x).mp List.mem_cons_self
      have a2 := (h y).mpr List.mem_cons_self
      rcases List.mem_cons.mp a1 with e | a1
      · exact e
      · rcases List.mem_cons.mp a2 with e | a2
        · exact e.symm
        · have := p2.1 x a1
          have := p1.1 y a2
          omega
    subst e
    refine congrArg _ (rise_eq p1.2 p2.2 fun k => ?_)
    have hk := h k
    constructor
    · intro m
      rcases List.mem_cons.mp (hk.mp (List.mem_cons_of_mem _ m)) with e | m'
      · have := p1.1 k m
        omega
      · exact m'
    · intro m
      rcases List.mem_cons.mp (hk.mpr (List.mem_cons_of_mem _ m)) with e | m'
      · have := p2.1 k m
        omega
      · exact m'
theorem Lev.uniq {zs : List α} {f : α → Int} {a b : List Int} (h : Lev zs f a) (g : Lev zs f b) : a = b := rise_eq h.1 g.1 fun k => (h.2 k).trans (g.2 k).symm
def pick (zs : List α) (f : α → Int) (g : α → Int) (k : Int) : Int := match zs.find? fun z => decide (f z = k) with
  | some z => g z
  | none => 0
theorem pick_at {zs : List α} {f g : α → Int} {z : α} (hz : z ∈ zs) : ∃ y ∈ zs, f y = f z ∧ pick zs f g (f z) = g y := by
  unfold pick
  cases e : zs.find? fun y => decide (f y = f z) with
  | none => exact absurd (List.find?_eq_none.mp e z hz) (by simp)
  | some y => exact ⟨y, List.mem_of_find?_eq_some e, (by have := List.find?_some e; simpa using this), rfl⟩
theorem cut_same {zs : List α} {f g : α → Int} {a b : List Int} (h : Lev zs f a) (k : Lev zs g b) (iso : ∀ y ∈ zs, ∀ z ∈ zs, (f y < f z ↔ g y < g z)) : cutBy zs f a = cutBy zs g b := by
  have eqv : ∀ y ∈ zs, ∀ z ∈ zs, (f y = f z ↔ g y = g z) := fun y hy z hz => by
    have h1 := iso y hy z hz
    have h2 := iso z hz y hy
    omega
  have e : b = a.map (pick zs f g) := by
    refine rise_eq k.1 (List.pairwise_map.mpr (h.1.imp_of_mem fun {i j} hi hj lt => ?_)) fun n => ?_
    · obtain ⟨y, hy, rfl⟩ := (h.2 i).mp hi
      obtain ⟨z, hz, rfl⟩ := (h.2 j).mp hj
      obtain ⟨y', hy', e1, e2⟩ := pick_at (g := g) (f := f) hy
      obtain ⟨z', hz', e3, e4⟩ := pick_at (g := g) (f := f) hz
      rw [e2, e4]
      exact (iso y' hy' z' hz').mp (by omega)
    · rw [k.2, List.mem_map]
      constructor
      · rintro ⟨z, hz, rfl⟩
        obtain ⟨y, hy, e1, e2⟩ := pick_at (g := g) (f := f) hz
        exact ⟨f z, (h.2 _).mpr ⟨z, hz, rfl⟩, e2.trans ((eqv y hy z hz).mp e1)⟩
      · rintro ⟨i, hi, rfl⟩
        obtain ⟨z, hz, rfl⟩ := (h.2 i).mp hi
        obtain ⟨y, hy, e1, e2⟩ := pick_at (g := g) (f := f) hz
        exact ⟨y, hy, e2.symm⟩
  rw [e]
  unfold cutBy
  rw [List.map_map]
  refine List.map_congr_left fun i hi => List.filter_congr fun z hz => ?_
  obtain ⟨y, hy, rfl⟩ := (h.2 i).mp hi
  obtain ⟨y', hy', e1, e2⟩ := pick_at (g := g) (f := f) hy
  show decide (f z = f y) = decide (g z = pick zs f g (f y))
  rw [e2]
  refine decide_eq_decide.mpr ?_
  rw [← eqv z hz y' hy', e1]
theorem cut_ne {zs : List α} {f : α → Int} {a : List Int} (h : Lev zs f a) : ∀ t ∈ cutBy zs f a, t ≠ [] := by
  intro t ht e
  obtain ⟨k, hk, rfl⟩ := List.mem_map.mp ht
  obtain ⟨z, hz, rfl⟩ := (h.2 k).mp hk
  have : z ∈ zs.filter fun y => decide (f y = f z) := List.mem_filter.mpr ⟨hz, decide_eq_true rfl⟩
  rw [e] at this
  cases this
theorem cut_mem {zs : List α} {f : α → Int} {a : List Int} (h : Lev zs f a) (z : α) : z ∈ (cutBy zs f a).flatten ↔ z ∈ zs := by
  rw [List.mem_flatten]
  constructor
  · rintro ⟨t, ht, hz⟩
    obtain ⟨k, hk, rfl⟩ := List.mem_map.mp ht
    exact (List.mem_filter.mp hz).1
  · intro hz
    exact ⟨_, List.mem_map.mpr ⟨f z, (h.2 _).mpr ⟨z, hz, rfl⟩, rfl⟩, List.mem_filter.mpr ⟨hz, decide_eq_true rfl⟩⟩
theorem cut_nodup {zs : List α} {f : α → Int} (n : zs.Nodup) : ∀ {a : List Int}, a.Pairwise (· < ·) → (cutBy zs f a).flatten.Nodup
  | [], _ => List.nodup_nil
  | k :: a, h => by
    have p := List.pairwise_cons.mp h
    show ((zs.filter fun z => decide (f z = k)) ++ (cutBy zs f a).flatten).Nodup
    refine List.nodup_append.mpr ⟨n.filter _, cut_nodup n p.2, fun x hx y hy e => ?_⟩
    subst e
    have h1 := of_decide_eq_true (List.mem_filter.mp hx).2
    obtain ⟨t, ht, hz⟩ := List.mem_flatten.mp hy
    obtain ⟨j, hj, rfl⟩ := List.mem_map.mp ht
    have h2 := of_decide_eq_true (List.mem_filter.mp hz).2
    have := p.1 j hj
    omega
/-- the place of the first part that has it -/
def place : List (List α) → α → Nat
  | [], _ => 0
  | t :: ts, z => if z ∈ t then 0 else place ts z + 1
theorem place_le (z : α) : ∀ ts : List (List α), place ts z ≤ ts.length
  | [] => Nat.le_refl _
  | t :: ts => by
    have := place_le z ts
    unfold place
    rw [List.length_cons]
    split <;> omega
theorem place_lt {z : α} : ∀ {ts : List (List α)}, z ∈ ts.flatten → place ts z < ts.length
  | [], h => by cases h
  | t :: ts, h => by
    unfold place
    rw [List.length_cons]
    by_cases e : z ∈ t
    · rw [if_pos e]; omega
    · rw [if_neg e]
      have h : z ∈ t ++ ts.flatten := h
      have := place_lt (ts := ts) ((List.mem_append.mp h).resolve_left e)
      omega
theorem place_out {z : α} : ∀ {ts : List (List α)}, z ∉ ts.flatten → place ts z = ts.length
  | [], _ => rfl
  | t :: ts, h => by
    have h : z ∉ t ++ ts.flatten := h
    unfold place
    rw [if_neg (fun e => h (List.mem_append_left _ e)), place_out (ts := ts) fun e => h (List.mem_append_right _ e)] <;> rfl
theorem place_at {z : α} : ∀ {ts : List (List α)} {i : Nat} {t : List α}, ts.flatten.Nodup → ts[i]? = some t → z ∈ t → place ts z = i
  | [], i, t, _, h, _ => by cases h
  | s :: ts, 0, t, _, h, hz => by
    cases h
    unfold place
    rw [if_pos hz]
  | s :: ts, i + 1, t, n, h, hz => by
    have n : (s ++ ts.flatten).Nodup := n
    have n2 := List.nodup_append.mp n
    have ht : ts[i]? = some t := h
    have hf : z ∈ ts.flatten := List.mem_flatten.mpr ⟨t, List.mem_of_getElem? ht, hz⟩
    unfold place
    rw [if_neg (fun e => n2.2.2 z e z hf rfl), place_at n2.2.1 ht hz]
theorem place_mem {z : α} : ∀ {ts : List (List α)} {i : Nat} {t : List α}, ts[i]? = some t → place ts z = i → z ∈ t
  | [], i, t, h, _ => by cases h
  | s :: ts, 0, t, h, hz => by
    cases h
    unfold place at hz
    by_cases e : z ∈ s
    · exact e
    · rw [if_neg e] at hz
      omega
  | s :: ts, i + 1, t, h, hz => by
    unfold place at hz
    by_cases e : z ∈ s
    · rw [if_pos e] at hz
      omega
    · rw [if_neg e] at hz
      exact place_mem (ts := ts) h (by omega)
/-- the places in what is cut rise as the numbers do -/
theorem cut_place {zs : List α} {f : α → Int} {a : List Int} (n : zs.Nodup) (h : Lev zs f a) {y z : α} (hy : y ∈ zs) (hz : z ∈ zs) : f y < f z ↔ place (cutBy zs f a) y < place (cutBy zs f a) z := by
  have nd := cut_nodup (f := f) n h.1
  have at' : ∀ {x : α}, x ∈ zs → ∃ i, a[i]? = some (f x) ∧ place (cutBy zs f a) x = i := fun {x} hx => by
    obtain ⟨i, hi⟩ := List.mem_iff_getElem?.mp ((h.2 (f x)).mpr ⟨x, hx, rfl⟩)
    refine ⟨i, hi, place_at nd (t := zs.filter fun z => decide (f z = f x)) ?_ (List.mem_filter.mpr ⟨hx, decide_eq_true rfl⟩)⟩
    unfold cutBy
    rw [List.getElem?_map, hi] <;> rfl
  obtain ⟨i, e1, e2⟩ := at' hy
  obtain ⟨j, e3, e4⟩ := at' hz
  rw [e2, e4]
  have up : ∀ {p q : Nat} {u v : Int}, a[p]? = some u → a[q]? = some v → p < q → u < v := fun {p q u v} hp hq lt => by
    obtain ⟨hp1, hp2⟩ := List.getElem?_eq_some_iff.mp hp
    obtain ⟨hq1, hq2⟩ := List.getElem?_eq_some_iff.mp hq
    rw [← hp2, ← hq2]
    exact List.pairwise_iff_getElem.mp h.1 p q hp1 hq1 lt
  constructor
  · intro lt
    rcases Nat.lt_trichotomy i j with c | c | c
    · exact c
    · subst c
      rw [e1] at e3
      have := Option.some.inj e3
      omega
    · have := up e3 e1 c
      omega
  · intro lt
    exact up e1 e3 lt
/-- numbers turned about -/
theorem Lev.neg {zs : List α} {f : α → Int} {a : List Int} (h : Lev zs f a) : Lev zs (fun z => -f z) (a.reverse.map fun k => -k) := by
  refine ⟨List.pairwise_map.mpr (List.pairwise_reverse.mpr (h.1.imp fun {i j} lt => by omega)), fun k => ?_⟩
  rw [List.mem_map]
  constructor
  · rintro ⟨j, hj, rfl⟩
    obtain ⟨z, hz, rfl⟩ := (h.2 j).mp (List.mem_reverse.mp hj)
    exact ⟨z, hz, rfl⟩
  · rintro ⟨z, hz, rfl⟩
    exact ⟨f z, List.mem_reverse.mpr ((h.2 _).mpr ⟨z, hz, rfl⟩), rfl⟩
theorem cut_neg {zs : List α} {f : α → Int} (a : List Int) : cutBy zs (fun z => -f z) (a.map fun k => -k) = cutBy zs f a := by
  unfold cutBy
  rw [List.map_map]
  refine List.map_congr_left fun k _ => List.filter_congr fun z _ => ?_
  show decide (-f z = -k) = decide (f z = k)
  exact decide_eq_decide.mpr ⟨fun e => by omega, fun e => by omega⟩
end
theorem nodup_out {α : Type} : ∀ {l : List α}, l.Nodup → ∀ {i : Nat} {z : α}, l[i]? = some z → z ∉ l.take i
  | [], _, i, z, h => by cases h
  | a :: l, n, 0, z, h => by rw [List.take_zero]; exact fun q => nomatch q
  | a :: l, n, i + 1, z, h => by
    have n2 := List.nodup_cons.mp n
    have h : l[i]? = some z := h
    rw [List.take_succ_cons]
    intro q
    rcases List.mem_cons.mp q with e | q
    · exact n2.1 (e ▸ List.mem_of_getElem? h)
    · exact nodup_out n2.2 h q
/-! ### a dict of names, each with its number -/
def tab (zs : List Str) (f : Str → Int) : List (Key × V) := zs.map fun z => (.inr z, .int (f z))
theorem tab_val (f : Str → Int) (z : Str) : ∀ zs : List Str, valV (tab zs f) (.inr z) = if z ∈ zs then some (.int (f z)) else none
  | [] => rfl
  | a :: zs => by
    by_cases e : a = z
    · subst e
      rw [if_pos List.mem_cons_self]
      exact valV_pos (p := (Sum.inr a, V.int (f a))) (r := tab zs f) rfl
    · have h : valV (tab (a :: zs) f) (.inr z) = valV (tab zs f) (.inr z) := valV_neg (p := (Sum.inr a, V.int (f a))) (r := tab zs f) (fun q => e (Sum.inr.inj q))
      rw [h, tab_val f z zs]
      by_cases m : z ∈ zs
      · rw [if_pos m, if_pos (List.mem_cons_of_mem _ m)]
      · rw [if_neg m, if_neg (fun q => (List.mem_cons.mp q).elim (fun q => e q.symm) m)]
theorem tab_len (zs : List Str) (f : Str → Int) : (tab zs f).length = zs.length := List.length_map ..
theorem tab_congr {zs : List Str} {f g : Str → Int} (h : ∀ z ∈ zs, f z = g z) : tab zs f = tab zs g := List.map_congr_left fun z hz => by rw [h z hz]
theorem tab_new {zs : List Str} {f : Str → Int} {z : Str} {n : Int} (h : z ∉ zs) (e : n = f z) : putK (tab zs f) (.inr z) (.int n) = tab (zs ++ [z]) f := by
  rw [putK_new _ (by rw [tab_val, if_neg h]), e]
  unfold tab
  rw [List.map_append]
  rfl
theorem tab_put {zs : List Str} {f : Str → Int} {z : Str} {n : Int} (h : z ∈ zs) : putK (tab zs f) (.inr z) (.int n) = tab zs (fun y => if y = z then n else f y) := by
  have a : ((tab zs f).any fun kv => decide (kv.1 = (.inr z : Key))) = true := by rw [valV_any, tab_val, if_pos h]; rfl
  unfold putK
  rw [if_pos a]
  unfold tab
  rw [List.map_map]
  refine List.map_congr_left fun y _ => ?_
  show (if (Sum.inr y : Key) = .inr z then ((Sum.inr y : Key), V.int n) else (.inr y, .int (f y))) = (.inr y, .int (if y = z then n else f y))
  by_cases e : y = z
  · rw [if_pos (congrArg Sum.inr e), if_pos e]
  · rw [if_neg (fun q => e (Sum.inr.inj q)), if_neg e]
theorem tab_merge (f : Str → Int) : ∀ (zs acc : List Str), (acc ++ zs).Nodup → mergeK (tab acc f) (tab zs f) = tab (acc ++ zs) f
  | [], acc, _ => by rw [List.append_nil] <;> rfl
  | z :: zs, acc, h => by
    have n : z ∉ acc := fun m => (List.nodup_append.mp h).2.2 z m z List.mem_cons_self rfl
    have e : acc ++ z :: zs = (acc ++ [z]) ++ zs := by rw [List.append_assoc] <;> rfl
    show mergeK (putK (tab acc f) (.inr z) (.int (f z))) (tab zs f) = _
    rw [tab_new n rfl, tab_merge f zs (acc ++ [z]) (by rw [← e]; exact h), e]
theorem tab_vals (zs : List Str) (f : Str → Int) : (tab zs f).map (·.2) = (zs.map f).map V.int := by
  unfold tab
  rw [List.map_map, List.map_map]
  rfl
end Own

/-! name = {k: v for ..} on one line, the name a local. -/
namespace Own
open PySem PySem.Spec PyProof.Rows L2
theorem swD_true {kx vx : Expr} {gs : List Comprehension} {scope : Scope} {pos py : Pos} {y : Str} {l : Nat} {env : Env} (fn : env.scope.kind = .function) (loc : env.scope.names.lookup y = some .local) (row : (py.line == pos.line) = true)
    (out : (scope.names.any fun (n, k) => n == y && (k == .local || k == .cell)) = false) : swapsWith (.DictComp kx vx gs scope pos) (some (.Name y py)) l env = pure true := by
  have kind : env.kindOf y = some .local := loc
  have block : env.blockKind = .function := by rw [Env.blockKind, fn] <;> rfl
  unfold swapsWith
  simp only [block, kind, out, Expr.pos, row]
  rfl
/-- a comprehension within a comprehension: what stands around it is told anew -/
theorem look_re {env : Env} {x : Str} : ∀ {names : List (Str × NameKind)}, names.lookup x = some .cell ∨ names.lookup x = some .free →
    (names.map fun (n, k) => if (k == NameKind.free && env.scope.kind == .function && env.kindOf n == some .cell) then (n, NameKind.cell) else (n, k)).lookup x = some .cell ∨
    (names.map fun (n, k) => if (k == NameKind.free && env.scope.kind == .function && env.kindOf n == some .cell) then (n, NameKind.cell) else (n, k)).lookup x = some .free
  | [], h => by rcases h with h | h <;> cases h
  | (n, k) :: r, h => by
    have ih := @look_re env x r
    have pair : ∀ c : Bool, (if c = true then (n, NameKind.cell) else (n, k)) = (n, if c = true then NameKind.cell else k) := fun c => by cases c <;> rfl
    rw [List.map_cons]
    dsimp only
    rw [pair]
    generalize (k == NameKind.free && env.scope.kind == .function && env.kindOf n == some .cell) = c
    by_cases e : x = n
    · subst e
      rw [List.lookup_cons_self] at h
      rw [List.lookup_cons_self]
      cases c with
      | true => exact .inl rfl
      | false => exact h
    · have b : (x == n) = false := beq_eq_false_iff_ne.mpr e
      rw [List.lookup_cons, b] at h
      rw [List.lookup_cons, b]
      exact ih h
theorem blkOk_re {N : List Str} {sc scope : Scope} {own : List (Str × Nat)} {env : Env} (h : BlkOk N sc scope own) : BlkOk N (relabel sc env) scope own :=
  ⟨h.kind, h.uniq, h.ix, fun y hy e => look_re (h.free y hy e), h.own⟩
section
variable {X : Cx} {i : Nat} {y : Str} {py : Pos} {kx vx tg iter : Expr} {ifs : List Expr} {scope : Scope} {own : List (Str × Nat)} {pos spos : Pos} {wi : TI} {g : TG} {tt : TT} {tk tv : TE}
theorem ps_setDc (hc : X.calm = true) (hN : X.N.Nodup) (hy : X.N[i]? = some y) (hyl : X.env.scope.names.lookup y = some .local) (hsw : swapsWith (.DictComp kx vx [⟨tg, iter, ifs, 0⟩] scope pos) (some (.Name y py)) spos.line X.env = pure true)
    (hi : PI X tg iter wi) (ok : BlkOk X.N X.env.scope scope own)
    (hg : ∀ (s : Shared) (H : Hp) (C : Addr) (cl : List (Str × Addr)) (fp : List Addr), PG (X.blk s H scope (compEnvC scope cl C X.env) fp) tg g)
    (ht : ∀ (s : Shared) (H : Hp) (C : Addr) (cl : List (Str × Addr)) (fp : List Addr), PTs (X.blk s H scope (compEnvC scope cl C X.env) fp) ifs tt)
    (hk : ∀ (s : Shared) (H : Hp) (C : Addr) (cl : List (Str × Addr)) (fp : List Addr), PE (X.blk s H scope (compEnvC scope cl C X.env) fp) kx tk)
    (he : ∀ (s : Shared) (H : Hp) (C : Addr) (cl : List (Str × Addr)) (fp : List Addr), PE (X.blk s H scope (compEnvC scope cl C X.env) fp) vx tv) (hs : ∀ x, foldedSetIterable iter X.env x = pure x := by intro _; rfl) :
    PS X (.Assign [.Name y py] (.DictComp kx vx [⟨tg, iter, ifs, 0⟩] scope pos) spos) (tAsg (tDc wi g tt tk tv (own.map (·.2))) (gName i)) := by
  refine ⟨fun pins s σ H D I given => ?_⟩
  rw [exec_Assign_Name_used _ _ _ _ hsw]
  refine wpAny_bind (wpAny_standAt (wpAny_bind (wpAny_bind ?_)))
  have given : tDc wi g tt tk tv (own.map (·.2)) σ H (fun x H1 => gName i x σ H1 D.nx) := given
  refine thn (dc_core (use := some (assign (.Name y py) X.env)) (Qf := fun _ s' => SP X pins D .next s') hc hN I hi ok hg ht hk he hs given ?_) fun _ s' done => wpAny_pure (wpAny_pure done)
  intro L C s' m H' J next held ⟨c0, c1, c2, c3, c4, c5⟩
  refine wpAny_assign_Name (store_ok2 (v := V.ref L) J hN hy (.inl hyl) rfl (fun s2 J2 ⟨a, same, which⟩ => ?_) (.inr hyl))
  have apart : C ≠ a := which.elim (fun z => by rw [z]; exact c1) fun z e => c4 y a z e.symm
  exact ⟨m, held.sameBut same apart, fun h3 sb => ⟨_, H', J2.turned (t' := s2.toks) (fun b o hb e => (sb.2 b hb).trans e) c0 c1 c3 c4 c5, next⟩⟩
end
end Own

/-! {k: v for a in xs if .. for b in ys if ..}, whatever the keys are. -/
namespace Own
open PySem PySem.Spec PyProof.Rows L2
section
variable {X : Cx} {pins : List (Addr × Obj)} {σ : L2.St} {H H' : Hp} {s : Shared} {E : Value → Shared → Prop} {D : Addr} {y v : V} {u r : Value} {Q : Unit → Shared → Prop}
/-- d[y] = v by a comprehension -/
theorem put_dict (room : X.A.units + 1 < cLine) (I : Inv X pins σ H s) (g : DPut H D y v H') (ry : RelV y u) (rv : RelV v r) (k : ∀ s', Inv X pins σ H' s' → Q () s') : wpAny (model X.prog X.w) X.A (dictSet D u r) Q E s := by
  rcases g with ⟨kvs, key, here, rfl, len, rfl⟩ | ⟨kvs, key, b, here, rfl, tup, len, rfl⟩
  · exact d_dictSet I here len ry rv k
  · cases ry
    obtain ⟨_, notMods, xs, rel, isDict⟩ := dt_of I.hok here
    have le := Paired.length rel
    have grow := length_putK kvs key v
    refine wpAny_dictSet_heap (hsz := by omega) (show X.A.units < cLine by omega) (key_of I.hok tup) isDict fun h' dd sb => k _ ?_
    obtain ⟨o, es, ep, ho, z2, z3, z4, _, z5⟩ := dd
    refine d_write I (by rw [here]; exact True.intro) sb ⟨o, ho⟩ ⟨by omega, notMods, _, (rel.put key tup rv).keeps fun c ys e => ?_, o, es, ep, ho, z2, z3, z4, z5⟩
    rw [upd_ne (fun z => by rw [z, here] at e; cases e)]
    exact e
end
section
variable {kx vx t0 i0 t1 i1 : Expr} {ifs0 ifs1 : List Expr} {scope : Scope} {pos : Pos} {it acc : Value} {env : Env} {D : Addr}
theorem turn_out : compTurn (.DictComp kx vx [⟨t0, i0, ifs0, 0⟩, ⟨t1, i1, ifs1, 0⟩] scope pos) 0 it acc env = (do
    standAt i0.pos
    match ← pyNext it with
    | none => pure (.done .next)
    | some item =>
      letOwnedTupleGo t0 it item
      assign t0 env item
      let mut go := true
      for t in ifs0 do
        if go then go ← isTrue t env (eval t env)
      if go then
        let xs ← eval i1 env
        standAt i1.pos
        let xs ← foldedSetIterable i1 env xs
        let _ ← runOwn (.compStart (.DictComp kx vx [⟨t0, i0, ifs0, 0⟩, ⟨t1, i1, ifs1, 0⟩] scope pos) 1 (← holding [xs] (pyIter xs)) acc env) env
      again (.compLoop (.DictComp kx vx [⟨t0, i0, ifs0, 0⟩, ⟨t1, i1, ifs1, 0⟩] scope pos) 0 it acc env)) := by rfl
theorem turn_in : compTurn (.DictComp kx vx [⟨t0, i0, ifs0, 0⟩, ⟨t1, i1, ifs1, 0⟩] scope pos) 1 it (.ref D) env = (do
    standAt i1.pos
    match ← pyNext it with
    | none => pure (.done .next)
    | some item =>
      letOwnedTupleGo t1 it item
      assign t1 env item
      let mut go := true
      for t in ifs1 do
        if go then go ← isTrue t env (eval t env)
      if go then
        (do
          let key ← eval kx env
          let val ← holding [key] (eval vx env)
          standAt { kx.pos with endLine := vx.pos.endLine, endCol := vx.pos.endCol }
          holding [key, val] (dictSet D key val))
      again (.compLoop (.DictComp kx vx [⟨t0, i0, ifs0, 0⟩, ⟨t1, i1, ifs1, 0⟩] scope pos) 1 it (.ref D) env)) := by rfl
end
section
variable {prog : Program} {w : World} {A : Around} {R : Result → Shared → Prop} {s : Shared} {kx vx t0 i0 t1 i1 : Expr} {ifs0 ifs1 : List Expr} {scope : Scope} {pos : Pos} {it acc : Value} {env : Env} {D : Addr}
/-- what an error within the comprehension comes to -/
abbrev Fell (prog : Program) (w : World) (A : Around) (env : Env) (R : Result → Shared → Prop) : Value → Shared → Prop := notedBy (model prog w) A env fun e s' => R (.error e) s'
/-- the tests of a clause -/
abbrev tests (ts : List Expr) (env : Env) : Sem Bool := forIn ts true fun t go => if go = true then do let ok ← isTrue t env (eval t env); pure (ForInStep.yield ok) else pure (ForInStep.yield go)
theorem loop_out (noFold : ∀ x, foldedSetIterable i1 env x = pure x) (Inn : Nat → Shared → Prop)
    (step : ∀ n s, Inn n s → wpAny (model prog w) A (pyNext it) (fun got s₁ => match got with
      | none => R (.ok .next) s₁
      | some x => wpAny (model prog w) A (letOwnedTupleGo t0 it x) (fun _ s₂ => wpAny (model prog w) A (assign t0 env x) (fun _ s₃ => wpAny (model prog w) A (tests ifs0 env) (fun go s₄ =>
          if go = true then wpAny (model prog w) A (eval i1 env) (fun xs s₅ => wpAny (model prog w) A (pyIter xs) (fun inner s₆ =>
            codeAny (model prog w) A (.compStart (.DictComp kx vx [⟨t0, i0, ifs0, 0⟩, ⟨t1, i1, ifs1, 0⟩] scope pos) 1 inner acc env) (fun res s' => match res with
              | .ok _ => ∃ m, m < n ∧ Inn m s'
              | .error _ => False) s₆) (Fell prog w A env R) s₅) (Fell prog w A env R) s₄
          else ∃ m, m < n ∧ Inn m s₄) (Fell prog w A env R) s₃) (Fell prog w A env R) s₂) (Fell prog w A env R) s₁) (Fell prog w A env R) s)
    (n : Nat) (start : Inn n s) : codeAny (model prog w) A (.compLoop (.DictComp kx vx [⟨t0, i0, ifs0, 0⟩, ⟨t1, i1, ifs1, 0⟩] scope pos) 0 it acc env) R s := by
  refine codeAny_loop rfl Inn (fun n s now => ?_) n start
  show wpAny _ A ((compTurn (.DictComp kx vx [⟨t0, i0, ifs0, 0⟩, ⟨t1, i1, ifs1, 0⟩] scope pos) 0 it acc env).onRaise (fun e => do noteFrame e env; theTreesLotGoes e)) _ _ s
  refine wpAny_noted ?_
  rw [turn_out]
  refine wpAny_bind (wpAny_standAt (wpAny_bind (wpAny_mono (step n s now) ?_ fun _ _ z => z)))
  rintro (_ | x) s₁ z₁
  · exact wpAny_pure z₁
  · refine wpAny_bind (wpAny_mono z₁ (fun _ s₂ z₂ => wpAny_bind (wpAny_mono z₂ (fun _ s₃ z₃ => wpAny_bind (wpAny_mono z₃ ?_ fun _ _ z => z)) fun _ _ z => z)) fun _ _ z => z)
    rintro (_ | _) s₄ z₄
    · exact wpAny_pure ⟨rfl, z₄⟩
    · refine wpAny_bind (wpAny_mono z₄ (fun xs s₅ z₅ => ?_) fun _ _ z => z)
      refine wpAny_bind (wpAny_standAt (wpAny_bind (wpAny_of_eq (noFold xs) (wpAny_bind (wpAny_holding (wpAny_mono z₅ (fun inner s₆ z₆ => ?_) fun _ _ z => z))))))
      refine wpAny_bind (wpAny_runOwn ?_)
      rw [Around.mark_none]
      refine codeAny_mono z₆ ?_
      rintro (e | f) s' done
      · exact done.elim
      · first
          | exact wpAny_pure ⟨rfl, done⟩
          | exact wpAny_bind (wpAny_pure (wpAny_pure ⟨rfl, done⟩))
theorem loop_in (Inn : Nat → Shared → Prop)
    (step : ∀ n s, Inn n s → wpAny (model prog w) A (pyNext it) (fun got s₁ => match got with
      | none => R (.ok .next) s₁
      | some x => wpAny (model prog w) A (letOwnedTupleGo t1 it x) (fun _ s₂ => wpAny (model prog w) A (assign t1 env x) (fun _ s₃ => wpAny (model prog w) A (tests ifs1 env) (fun go s₄ =>
          if go = true then wpAny (model prog w) A (eval kx env) (fun key s₅ => wpAny (model prog w) A (eval vx env) (fun val s₆ =>
            wpAny (model prog w) A (dictSet D key val) (fun _ s₇ => ∃ m, m < n ∧ Inn m s₇) (Fell prog w A env R) s₆) (Fell prog w A env R) s₅) (Fell prog w A env R) s₄
          else ∃ m, m < n ∧ Inn m s₄) (Fell prog w A env R) s₃) (Fell prog w A env R) s₂) (Fell prog w A env R) s₁) (Fell prog w A env R) s)
    (n : Nat) (start : Inn n s) : codeAny (model prog w) A (.compLoop (.DictComp kx vx [⟨t0, i0, ifs0, 0⟩, ⟨t1, i1, ifs1, 0⟩] scope pos) 1 it (.ref D) env) R s := by
  refine codeAny_loop rfl Inn (fun n s now => ?_) n start
  show wpAny _ A ((compTurn (.DictComp kx vx [⟨t0, i0, ifs0, 0⟩, ⟨t1, i1, ifs1, 0⟩] scope pos) 1 it (.ref D) env).onRaise (fun e => do noteFrame e env; theTreesLotGoes e)) _ _ s
  refine wpAny_noted ?_
  rw [turn_in]
  refine wpAny_bind (wpAny_standAt (wpAny_bind (wpAny_mono (step n s now) ?_ fun _ _ z => z)))
  rintro (_ | x) s₁ z₁
  · exact wpAny_pure z₁
  · refine wpAny_bind (wpAny_mono z₁ (fun _ s₂ z₂ => wpAny_bind (wpAny_mono z₂ (fun _ s₃ z₃ => wpAny_bind (wpAny_mono z₃ ?_ fun _ _ z => z)) fun _ _ z => z)) fun _ _ z => z)
    rintro (_ | _) s₄ z₄
    · exact wpAny_pure ⟨rfl, z₄⟩
    · exact wpAny_bind (wpAny_bind (wpAny_mono z₄ (fun key s₅ z₅ => wpAny_bind (wpAny_holding (wpAny_mono z₅ (fun val s₆ z₆ => wpAny_bind (wpAny_standAt (wpAny_holding (wpAny_mono z₆ (fun _ s₇ z₇ => wpAny_pure ⟨rfl, z₇⟩) fun _ _ z => z)))) fun _ _ z => z))) fun _ _ z => z))
theorem start_in (self : codeAny (model prog w) A (.compLoop (.DictComp kx vx [⟨t0, i0, ifs0, 0⟩, ⟨t1, i1, ifs1, 0⟩] scope pos) 1 it acc env) R s)
    (anew : wpAny (model prog w) A (pyIter it) (fun it' s' => codeAny (model prog w) A (.compLoop (.DictComp kx vx [⟨t0, i0, ifs0, 0⟩, ⟨t1, i1, ifs1, 0⟩] scope pos) 1 it' acc env) R s') (Fell prog w A env R) s) :
    codeAny (model prog w) A (.compStart (.DictComp kx vx [⟨t0, i0, ifs0, 0⟩, ⟨t1, i1, ifs1, 0⟩] scope pos) 1 it acc env) R s := by
  refine codeAny_of_tree ?_
  show wpAny _ _ ((compStart (.DictComp kx vx [⟨t0, i0, ifs0, 0⟩, ⟨t1, i1, ifs1, 0⟩] scope pos) 1 it acc env).onRaise (fun e => do noteFrame e env; standAt theWindowsPlace)) _ _ s
  refine wpAny_notedAt ?_
  unfold compStart
  show wpAny _ _ (ask >>= _) _ _ s
  refine wpAny_bind (wpAny_askSetting (wpAny_ite ?_))
  split
  · first
      | exact wpAny_bind (wpAny_pure (wpAny_pure (And.intro rfl self)))
      | exact wpAny_pure (And.intro rfl self)
  · first
      | exact wpAny_bind (wpAny_rule (wpAny_bind (wpAny_standAt (wpAny_bind (wpAny_mono anew (fun it' s' z => wpAny_pure (And.intro rfl z)) fun _ _ z => z)))))
      | (refine wpAny_bind (wpAny_rule ?_); show wpAny _ _ (standAt i1.pos >>= _) _ _ s; exact wpAny_bind (wpAny_standAt (wpAny_bind (wpAny_mono anew (fun it' s' z => wpAny_pure (And.intro rfl z)) fun _ _ z => z))))
end
/-- within the comprehension's block -/
abbrev InBlk (X : Cx) (scope : Scope) (J : Cx → Prop) : Prop := ∀ (s : Shared) (H : Hp) (C : Addr) (cl : List (Str × Addr)) (fp : List Addr), J (X.blk s H scope (compEnvC scope cl C X.env) fp)
/-- {k: v for tg in iter if .. for tg1 in iter1 if ..}: D the new dict, of keys of the one sort or of the other -/
def tDc2 (e0 : HO) (wi : TI) (g : TG) (tt : TT) (wi1 : TI) (g1 : TG) (tt1 : TT) (tk tv : TE) (vs vs1 : List Nat) : TE := fun σ H Q => wi σ H fun J H1 => ∀ D, H1 D = none → ∃ W : Nat → Nat → Hp → Prop, (∃ m, W 0 m (upd H1 D e0)) ∧ ∀ i m H, W i m H →
  (J.stop i H ∧ Q (.ref D) H) ∨ (J.go i H ∧ ∃ Nx : Hp → Prop, (∀ H', Nx H' → ∃ m', m' < m ∧ W (i + 1) m' H') ∧ ∀ x H', J.yld i H x H' → g x (wipe σ vs) H' fun σ2 H2 => wipe σ2 vs = wipe σ vs ∧ tt σ2 H2 fun b H3 =>
    if b = true then wi1 σ2 H3 fun J1 H4 => ∃ W1 : Nat → Nat → Hp → Prop, (∃ m, W1 0 m H4) ∧ ∀ j k H, W1 j k H →
      (J1.stop j H ∧ Nx H) ∨ (J1.go j H ∧ ∃ Nx1 : Hp → Prop, (∀ H', Nx1 H' → ∃ k', k' < k ∧ W1 (j + 1) k' H') ∧ ∀ x H', J1.yld j H x H' → g1 x (wipe σ2 vs1) H' fun σ3 H5 => wipe σ3 vs1 = wipe σ2 vs1 ∧ tt1 σ3 H5 fun b H6 =>
        if b = true then tk σ3 H6 fun y H7 => tv σ3 H7 fun z H8 => ∃ H9, DPut H8 D y z H9 ∧ Nx1 H9 else Nx1 H6)
    else Nx H3)
section
variable {X : Cx} {pins : List (Addr × Obj)} {s : Shared} {σ : L2.St} {H : Hp} {Q : VK} {kx vx tg iter tg1 iter1 : Expr} {ifs ifs1 : List Expr} {scope : Scope} {own : List (Str × Nat)} {vs1 : List Nat} {pos pos' : Pos} {wi wi1 : TI} {g g1 : TG} {tt tt1 : TT} {tk tv : TE} {e0 : HO}
  {use : Option (Value → Sem Unit)} {Qf : Value → Shared → Prop}
theorem dc2_core (he0 : e0 = .dK [] ∨ e0 = .dT []) (room : X.A.units + 1 < cLine) (calm : X.calm = true) (nd : X.N.Nodup) (I : Inv X pins σ H s) (src : PI X tg iter wi) (ok : BlkOk X.N X.env.scope scope own) (sub : ∀ i ∈ vs1, i ∈ own.map (·.2))
    (hg : InBlk X scope fun B => PG B tg g) (ht : InBlk X scope fun B => PTs B ifs tt) (src1 : InBlk X scope fun B => PI B tg1 iter1 wi1) (hg1 : InBlk X scope fun B => PG B tg1 g1) (ht1 : InBlk X scope fun B => PTs B ifs1 tt1)
    (hk : InBlk X scope fun B => PE B kx tk) (hv : InBlk X scope fun B => PE B vx tv) (noFold : ∀ x, foldedSetIterable iter X.env x = pure x) (noFold1 : ∀ env x, foldedSetIterable iter1 env x = pure x)
    (given : tDc2 e0 wi g tt wi1 g1 tt1 tk tv (own.map (·.2)) vs1 σ H Q)
    (after : ∀ D C s' m H', Inv X pins σ H' s' → Q (.ref D) H' → s'.heap.Ns C m → FpOk X pins H' C → compPost (model X.prog X.w) X.A X.xe use Qf (.ref D) C (.ok .next) s') :
    wpAny (model X.prog X.w) X.A (comprehension (.DictComp kx vx [⟨tg, iter, ifs, 0⟩, ⟨tg1, iter1, ifs1, 0⟩] scope pos) scope X.env pos' newDict false (eval iter X.env) use) Qf X.xe s := by
  have caught : ∀ y ∈ scope.names, y.2 = .free → ∃ c, X.env.cells.lookup y.1 = some c := fun y hy e => (ok.free y hy e).elim (fun k => I.ok.has _ (.inl k)) fun k => I.ok.has _ (.inr k)
  refine wpAny_comprehension_free (use := use) rfl noFold (closure_ok caught) ok.kind (fun y hy e => by rw [ok.uniq y hy, e]) (thn (src.run pins s σ H _ I given) fun xv s1 z1 => thn z1 fun itv s2 z2 => ?_)
  obtain ⟨it, fp, tn, J, H2, rfl, I2, T, st2, f2, q⟩ := z2
  refine wpAny_newObj_type (newEnv_comp ?_)
  generalize hD : s2.heap.objs.size = D
  obtain ⟨W, ⟨m0, w0⟩, turn⟩ := q D (I2.hok.fresh (Nat.le_of_eq hD))
  generalize hs3 : ({ s2 with heap := s2.heap.push { cls := .type "dict", data := .dict #[] } } : Shared) = s3
  have I3 : Inv X pins σ (upd H2 D e0) s3 := by
    rw [← hs3]
    refine I2.laid (t' := s2.toks) (fun b o e => Heap.get?_push_of_some _ e) (Nat.le_of_eq hD) ?_
    rw [← hD]
    rcases he0 with rfl | rfl
    · exact dk_empty s2.heap I2.big
    · exact dt_empty s2.heap I2.big
  have grown : s3.heap = s2.heap.push { cls := .type "dict", data := .dict #[] } := by rw [← hs3]
  have f3 : ∀ b ∈ fp, FpOk X pins (upd H2 D e0) b ∧ b < s3.heap.objs.size := fun b hb => by
    obtain ⟨o, e, _⟩ := T.obj _ _ st2 b hb
    have lt := Heap.lt_size e
    refine ⟨⟨?_, (f2 b hb).2⟩, by rw [grown, Heap.size_push]; exact Nat.lt_succ_of_lt lt⟩
    rw [upd_ne (by rw [← hD]; exact Nat.ne_of_lt lt)]
    exact (f2 b hb).1
  have st3 : tn 0 s3.heap := T.keep _ _ _ st2 fun b _ o e => by rw [grown]; exact Heap.get?_push_of_some _ e
  have I4 := block_start I3 ok nd f3
  generalize hcl : cellsFrom (s3.heap.objs.size + 1) scope.names (cloFrom X.env.cells scope.names []) = cl at I4 ⊢
  have pg := hg s3 (upd H2 D e0) s3.heap.objs.size cl fp
  have pt := ht s3 (upd H2 D e0) s3.heap.objs.size cl fp
  have ps1 := src1 s3 (upd H2 D e0) s3.heap.objs.size cl fp
  have pg1 := hg1 s3 (upd H2 D e0) s3.heap.objs.size cl fp
  have pt1 := ht1 s3 (upd H2 D e0) s3.heap.objs.size cl fp
  have pk := hk s3 (upd H2 D e0) s3.heap.objs.size cl fp
  have pv' := hv s3 (upd H2 D e0) s3.heap.objs.size cl fp
  show codeAny _ _ (.compStart (.DictComp kx vx [⟨tg, iter, ifs, 0⟩, ⟨tg1, iter1, ifs1, 0⟩] scope pos) 0 (.ref it) (.ref D) (compEnvC scope cl s3.heap.objs.size X.env)) (compPost (model X.prog X.w) X.A X.xe use Qf (.ref D) s3.heap.objs.size) { s3 with heap := pushCells (s3.heap.push { cls := .type "dict", data := .dict #[] }) scope.names }
  have nfp : ∀ b ∈ fp, (upd H2 D e0) b = none := fun b hb => (f3 b hb).1.1
  generalize hce : compEnvC scope cl s3.heap.objs.size X.env = ce at I4 pg pt ps1 pg1 pt1 pk pv' ⊢
  have cL : ce.locals = s3.heap.objs.size := by rw [← hce] <;> rfl
  generalize hH3 : upd H2 D e0 = H3 at I3 I4 pg pt ps1 pg1 pt1 pk pv' w0 nfp f3
  generalize hs4 : ({ s3 with heap := pushCells (s3.heap.push { cls := .type "dict", data := .dict #[] }) scope.names } : Shared) = s4 at I4 ⊢
  have st4 : tn 0 s4.heap := T.keep _ _ _ st3 fun b _ o e => by rw [← hs4]; exact pushCells_keeps _ _ _ _ (Heap.get?_push_of_some _ e)
  have still : ∀ {σ' : L2.St} {H' : Hp} {s' : Shared}, Inv (X.blk s3 H3 scope ce fp) [] σ' H' s' → (∀ b ∈ fp, H' b = none) → ∀ b ∈ fp, FpOk (X.blk s3 H3 scope ce fp) [] H' b := fun {σ' H' s'} I' out b hb =>
    ⟨out b hb, (I'.ok.exf b hb).1, I'.ok.exfs b hb, .inl hb, fun x c e => (I'.ok.exf b hb).2 x c e, fun p hp => absurd (show p ∈ ([] : List (Addr × Obj)) ++ [] from hp) (by simp)⟩
  have loop : codeAny (model X.prog X.w) X.A (.compLoop (.DictComp kx vx [⟨tg, iter, ifs, 0⟩, ⟨tg1, iter1, ifs1, 0⟩] scope pos) 0 (.ref it) (.ref D) ce) (compPost (model X.prog X.w) X.A X.xe use Qf (.ref D) s3.heap.objs.size) s4 := by
    refine loop_out (noFold1 ce) (fun n s' => ∃ i H', Inv (X.blk s3 H3 scope ce fp) [] (wipe σ (own.map (·.2))) H' s' ∧ tn i s'.heap ∧ (∀ b ∈ fp, H' b = none) ∧ W i n H') ?_ m0 ⟨0, H3, I4, st4, nfp, w0⟩
    rintro n s5 ⟨i, H5, I5, st5, n5, w5⟩
    rcases turn i n H5 w5 with ⟨stop, told⟩ | ⟨go, Nx, less, step⟩
    · refine thnF (T.done (X.blk s3 H3 scope ce fp) rfl rfl rfl calm i [] s5 _ H5 (fun _ _ => False) I5 (still I5 n5) st5 stop) fun r s6 ⟨hr, I6⟩ => ?_
      subst hr
      have I7 : Inv X pins σ H5 s6 := I3.call' (ch := fp) I6.os I6.base I6.hok I6.bare fun b hb => ⟨(f3 b hb).1.2.2.2.1, (f3 b hb).1.2.1, (f3 b hb).1.2.2.2.2.1, (f3 b hb).1.2.2.2.2.2⟩
      have nC : H5 s3.heap.objs.size = none := by
        rw [← cL]
        exact I6.free
      obtain ⟨m, held, _⟩ := I6.loc
      have held : s6.heap.Ns ce.locals m := held
      rw [cL] at held
      exact after D s3.heap.objs.size s6 m H5 I7 told held (I3.fpOk (Nat.le_refl _) nC)
    · refine thnF (T.item (X.blk s3 H3 scope ce fp) rfl rfl rfl calm i [] s5 _ H5 (fun _ _ => False) I5 (still I5 n5) st5 go) fun r s6 ⟨u, hr, z6⟩ => ?_
      subst hr
      refine thnF z6 fun _ s7 ⟨x, H7, I7, r7, y7, st7, n7⟩ => ?_
      have I7' := I7.pinned (still I7 n7) (T.obj _ _ st7)
      refine thnF (pg.run _ s7 _ H7 x u _ I7' r7 (step x H7 y7)) fun _ s8 ⟨σ8, H8, I8, as8, q8⟩ => ?_
      refine thnF (pt.run _ s8 σ8 H8 _ I8 q8) fun b s9 ⟨H9, I9, q9⟩ => ?_
      -- back at the loop's head, from whatever slots
      have head : ∀ {σ9 : L2.St} {s' : Shared} {H' : Hp}, Inv (X.blk s3 H3 scope ce fp) ([] ++ pinsAt fp s7.heap) σ9 H' s' → (wipe σ (own.map (·.2))).length = σ9.length → (∀ (j : Nat) v, (wipe σ (own.map (·.2)))[j]? = some (some v) → σ9[j]? = some (some v)) → Nx H' →
          ∃ m, m < n ∧ ∃ i H', Inv (X.blk s3 H3 scope ce fp) [] (wipe σ (own.map (·.2))) H' s' ∧ tn i s'.heap ∧ (∀ b ∈ fp, H' b = none) ∧ W i m H' := fun {σ9 s' H'} I' len keep nx => by
        obtain ⟨m', lt, w'⟩ := less H' nx
        have there : ∀ b ∈ fp, ∀ o, s7.heap.get? b = some o → s'.heap.get? b = some o ∧ H' b = none := fun b hb o e =>
          have z := I'.pin (b, o) (List.mem_append_right _ (List.mem_append_right _ (mem_pinsAt hb e)))
          ⟨z.1, z.2.1⟩
        refine ⟨m', lt, i + 1, H', (I'.unpinned (pins := [])).weak len keep, T.keep _ _ _ st7 fun b hb o e => (there b hb o e).1, fun b hb => ?_, w'⟩
        obtain ⟨o, e, _⟩ := T.obj _ _ st7 b hb
        exact (there b hb o e).2
      have len8 : (wipe σ (own.map (·.2))).length = σ8.length := by rw [← as8, wipe_length]
      have keep8 : ∀ (j : Nat) v, (wipe σ (own.map (·.2)))[j]? = some (some v) → σ8[j]? = some (some v) := fun j v e => (wipe_some (by rw [as8]; exact e)).1
      have keep9 : ∀ (j : Nat) v, (wipe σ (own.map (·.2)))[j]? = some (some v) → (wipe σ8 vs1)[j]? = some (some v) := fun j v e => by
        obtain ⟨z1, z2⟩ := wipe_some (by rw [as8]; exact e)
        exact (wipe_out fun z => z2 (sub j z)).trans z1
      cases b with
      | false =>
        simp only [Bool.false_eq_true, if_false] at q9 ⊢
        exact head I9 len8 keep8 q9
      | true =>
        simp only [if_true] at q9 ⊢
        refine thnF (ps1.run _ s9 σ8 H9 _ I9 q9) fun xv s10 z10 => thnF z10 fun itv s11 z11 => ?_
        obtain ⟨it1, fp1, tn1, J1, H11, rfl, I11, T1, st11, f11, W1, ⟨m1, w1⟩, turn1⟩ := z11
        have still1 : ∀ {H' : Hp}, (∀ b ∈ fp1, H' b = none) → ∀ b ∈ fp1, FpOk (X.blk s3 H3 scope ce fp) ([] ++ pinsAt fp s7.heap) H' b := fun out b hb => ⟨out b hb, (f11 b hb).2⟩
        have inner : codeAny (model X.prog X.w) X.A (.compLoop (.DictComp kx vx [⟨tg, iter, ifs, 0⟩, ⟨tg1, iter1, ifs1, 0⟩] scope pos) 1 (.ref it1) (.ref D) ce)
            (fun res s' => match res with
              | .ok _ => ∃ m, m < n ∧ ∃ i H', Inv (X.blk s3 H3 scope ce fp) [] (wipe σ (own.map (·.2))) H' s' ∧ tn i s'.heap ∧ (∀ b ∈ fp, H' b = none) ∧ W i m H'
              | .error _ => False) s11 := by
          refine loop_in (fun k s' => ∃ j H', Inv (X.blk s3 H3 scope ce fp) ([] ++ pinsAt fp s7.heap) (wipe σ8 vs1) H' s' ∧ tn1 j s'.heap ∧ (∀ b ∈ fp1, H' b = none) ∧ W1 j k H') ?_ m1 ⟨0, H11, I11.weak (wipe_length _ _) (fun j v e => (wipe_some e).1), st11, fun b hb => (f11 b hb).1, w1⟩
          rintro k s12 ⟨j, H12, I12, st12, n12, w12⟩
          rcases turn1 j k H12 w12 with ⟨stop1, nx1⟩ | ⟨go1, Nx1, less1, step1⟩
          · refine thnF (T1.done (X.blk s3 H3 scope ce fp) rfl rfl rfl calm j _ s12 (wipe σ8 vs1) H12 (fun _ _ => False) I12 (still1 n12) st12 stop1) fun r s13 ⟨hr, I13⟩ => ?_
            subst hr
            exact head I13 (len8.trans (wipe_length σ8 vs1).symm) keep9 nx1
          · refine thnF (T1.item (X.blk s3 H3 scope ce fp) rfl rfl rfl calm j _ s12 (wipe σ8 vs1) H12 (fun _ _ => False) I12 (still1 n12) st12 go1) fun r s13 ⟨u1, hr, z13⟩ => ?_
            subst hr
            refine thnF z13 fun _ s14 ⟨x1, H14, I14, r14, y14, st14, n14⟩ => ?_
            have I14' := I14.pinned (still1 n14) (T1.obj _ _ st14)
            refine thnF (pg1.run _ s14 (wipe σ8 vs1) H14 x1 u1 _ I14' r14 (step1 x1 H14 y14)) fun _ s15 ⟨σ15, H15, I15, as15, q15⟩ => ?_
            refine thnF (pt1.run _ s15 σ15 H15 _ I15 q15) fun b1 s16 ⟨H16, I16, q16⟩ => ?_
            have head1 : ∀ {s' : Shared} {H' : Hp}, Inv (X.blk s3 H3 scope ce fp) (([] ++ pinsAt fp s7.heap) ++ pinsAt fp1 s14.heap) σ15 H' s' → Nx1 H' →
                ∃ m, m < k ∧ ∃ j H', Inv (X.blk s3 H3 scope ce fp) ([] ++ pinsAt fp s7.heap) (wipe σ8 vs1) H' s' ∧ tn1 j s'.heap ∧ (∀ b ∈ fp1, H' b = none) ∧ W1 j m H' := fun {s' H'} I' nx => by
              obtain ⟨m', lt, w'⟩ := less1 H' nx
              have there : ∀ b ∈ fp1, ∀ o, s14.heap.get? b = some o → s'.heap.get? b = some o ∧ H' b = none := fun b hb o e =>
                have z := I'.pin (b, o) (List.mem_append_right _ (List.mem_append_right _ (mem_pinsAt hb e)))
                ⟨z.1, z.2.1⟩
              refine ⟨m', lt, j + 1, H', I'.unpinned.weak (by rw [← as15, wipe_length]) (fun j v e => (wipe_some (by rw [as15]; exact e)).1), T1.keep _ _ _ st14 fun b hb o e => (there b hb o e).1, fun b hb => ?_, w'⟩
              obtain ⟨o, e, _⟩ := T1.obj _ _ st14 b hb
              exact (there b hb o e).2
            cases b1 with
            | false =>
              simp only [Bool.false_eq_true, if_false] at q16 ⊢
              exact head1 I16 q16
            | true =>
              simp only [if_true] at q16 ⊢
              refine thnF (pk.run _ s16 σ15 H16 _ I16 q16) fun key s17 ⟨yk, H17, I17, r17, q17⟩ => ?_
              refine thnF (pv'.run _ s17 σ15 H17 _ I17 q17) fun val s18 ⟨yv, H18, I18, r18, H19, put, nx⟩ => ?_
              exact put_dict (X := X.blk s3 H3 scope ce fp) room I18 put r17 r18 fun s19 I19 => head1 I19 nx
        exact start_in inner (T1.self X.A 0 _ _ _ st11 inner)
  exact codeAny_compStart_dict loop (T.self X.A 0 _ _ _ st4 loop)
theorem pe_dc2 {pos : Pos} (he0 : e0 = .dK [] ∨ e0 = .dT []) (room : X.A.units + 1 < cLine) (calm : X.calm = true) (nd : X.N.Nodup) (src : PI X tg iter wi) (ok : BlkOk X.N X.env.scope scope own) (sub : ∀ i ∈ vs1, i ∈ own.map (·.2))
    (hg : InBlk X scope fun B => PG B tg g) (ht : InBlk X scope fun B => PTs B ifs tt) (src1 : InBlk X scope fun B => PI B tg1 iter1 wi1) (hg1 : InBlk X scope fun B => PG B tg1 g1) (ht1 : InBlk X scope fun B => PTs B ifs1 tt1)
    (hk : InBlk X scope fun B => PE B kx tk) (hv : InBlk X scope fun B => PE B vx tv) (noFold : ∀ x, foldedSetIterable iter X.env x = pure x := by intro _; rfl) (noFold1 : ∀ env x, foldedSetIterable iter1 env x = pure x := by intro _ _; rfl) :
    PE X (.DictComp kx vx [⟨tg, iter, ifs, 0⟩, ⟨tg1, iter1, ifs1, 0⟩] scope pos) (tDc2 e0 wi g tt wi1 g1 tt1 tk tv (own.map (·.2)) vs1) := by
  refine ⟨fun pins s σ H Q I given => ?_⟩
  rw [arm_eval_DictComp]
  refine dc2_core he0 room calm nd I src ok sub hg ht src1 hg1 ht1 hk hv noFold noFold1 given ?_
  intro D C s' m H' J told held ⟨c0, c1, c2, c3, c4, c5⟩
  exact ⟨m, held, fun h'' sb => ⟨.ref D, H', J.turned (t' := s'.toks) (fun b o hb e => (sb.2 b hb).trans e) c0 c1 c3 c4 c5, rfl, told⟩⟩
end
/-! both sources tuples -/
section
variable {K : PySem.W.Frag} {σ : L2.St} {D : Addr} {vs vs1 : List Nat}
/-- the second for, over a tuple that stays -/
theorem dIn_tup {b : Addr} {ys : List V} {g1 : TG} {tt1 : TT} {tk tv : TE} {H4 : Hp} {Nx : Hp → Prop} (Pw : Nat → Hp → Prop) (h0 : Pw 0 H4) (hl : ∀ j H, Pw j H → SqT K H b ys)
    (hs : ∀ j y H, ys[j]? = some y → Pw j H → g1 y (wipe σ vs1) H fun σ3 H5 => wipe σ3 vs1 = wipe σ vs1 ∧ tt1 σ3 H5 fun c H6 => if c = true then tk σ3 H6 fun y H7 => tv σ3 H7 fun z H8 => ∃ H9, DPut H8 D y z H9 ∧ Pw (j + 1) H9 else Pw (j + 1) H6)
    (hd : ∀ H, Pw ys.length H → Nx H) :
    ∃ W1 : Nat → Nat → Hp → Prop, (∃ m, W1 0 m H4) ∧ ∀ j k H, W1 j k H → ((Itt K b).stop j H ∧ Nx H) ∨ ((Itt K b).go j H ∧ ∃ Nx1 : Hp → Prop, (∀ H', Nx1 H' → ∃ k', k' < k ∧ W1 (j + 1) k' H') ∧
      ∀ x H', (Itt K b).yld j H x H' → g1 x (wipe σ vs1) H' fun σ3 H5 => wipe σ3 vs1 = wipe σ vs1 ∧ tt1 σ3 H5 fun c H6 => if c = true then tk σ3 H6 fun y H7 => tv σ3 H7 fun z H8 => ∃ H9, DPut H8 D y z H9 ∧ Nx1 H9 else Nx1 H6) := by
  refine ⟨fun j k H => k + j = ys.length ∧ Pw j H, ⟨ys.length, rfl, h0⟩, ?_⟩
  rintro j k H ⟨hk, p⟩
  cases k with
  | zero =>
    have e : j = ys.length := by omega
    rw [e] at p ⊢
    exact .inl ⟨⟨ys, hl _ _ p, Nat.le_refl _⟩, hd H p⟩
  | succ k =>
    have lt : j < ys.length := by omega
    refine .inr ⟨⟨ys, ys[j], hl _ _ p, List.getElem?_eq_getElem lt⟩, Pw (j + 1), fun H' p' => ⟨k, Nat.lt_succ_self _, by omega, p'⟩, ?_⟩
    rintro x H' ⟨rfl, y⟩
    exact hs j x _ (y ys (hl _ _ p)) p
/-- the first for -/
theorem dOut_tup {a : Addr} {xs : List V} {g g1 : TG} {tt tt1 : TT} {wi1 : TI} {e0 : HO} {tk tv : TE} {H1 : Hp} {Qd : Hp → Prop} (Pv : Nat → Hp → Prop) (h0 : Pv 0 (upd H1 D e0)) (hl : ∀ i H, Pv i H → SqT K H a xs)
    (hs : ∀ i x H, xs[i]? = some x → Pv i H → g x (wipe σ vs) H fun σ2 H2 => wipe σ2 vs = wipe σ vs ∧ tt σ2 H2 fun c H3 => if c = true then wi1 σ2 H3 fun J1 H4 => ∃ W1 : Nat → Nat → Hp → Prop, (∃ m, W1 0 m H4) ∧ ∀ j k H, W1 j k H → (J1.stop j H ∧ Pv (i + 1) H) ∨ (J1.go j H ∧ ∃ Nx1 : Hp → Prop, (∀ H', Nx1 H' → ∃ k', k' < k ∧ W1 (j + 1) k' H') ∧
      ∀ x H', J1.yld j H x H' → g1 x (wipe σ2 vs1) H' fun σ3 H5 => wipe σ3 vs1 = wipe σ2 vs1 ∧ tt1 σ3 H5 fun c H6 => if c = true then tk σ3 H6 fun y H7 => tv σ3 H7 fun z H8 => ∃ H9, DPut H8 D y z H9 ∧ Nx1 H9 else Nx1 H6) else Pv (i + 1) H3)
    (hd : ∀ H, Pv xs.length H → Qd H) :
    ∃ W : Nat → Nat → Hp → Prop, (∃ m, W 0 m (upd H1 D e0)) ∧ ∀ i m H, W i m H → ((Itt K a).stop i H ∧ Qd H) ∨ ((Itt K a).go i H ∧ ∃ Nx : Hp → Prop, (∀ H', Nx H' → ∃ m', m' < m ∧ W (i + 1) m' H') ∧
      ∀ x H', (Itt K a).yld i H x H' → g x (wipe σ vs) H' fun σ2 H2 => wipe σ2 vs = wipe σ vs ∧ tt σ2 H2 fun c H3 => if c = true then wi1 σ2 H3 fun J1 H4 => ∃ W1 : Nat → Nat → Hp → Prop, (∃ m, W1 0 m H4) ∧ ∀ j k H, W1 j k H → (J1.stop j H ∧ Nx H) ∨ (J1.go j H ∧ ∃ Nx1 : Hp → Prop, (∀ H', Nx1 H' → ∃ k', k' < k ∧ W1 (j + 1) k' H') ∧
        ∀ x H', J1.yld j H x H' → g1 x (wipe σ2 vs1) H' fun σ3 H5 => wipe σ3 vs1 = wipe σ2 vs1 ∧ tt1 σ3 H5 fun c H6 => if c = true then tk σ3 H6 fun y H7 => tv σ3 H7 fun z H8 => ∃ H9, DPut H8 D y z H9 ∧ Nx1 H9 else Nx1 H6) else Nx H3) := by
  refine ⟨fun i k H => k + i = xs.length ∧ Pv i H, ⟨xs.length, rfl, h0⟩, ?_⟩
  rintro i k H ⟨hk, p⟩
  cases k with
  | zero =>
    have e : i = xs.length := by omega
    rw [e] at p ⊢
    exact .inl ⟨⟨xs, hl _ _ p, Nat.le_refl _⟩, hd H p⟩
  | succ k =>
    have lt : i < xs.length := by omega
    refine .inr ⟨⟨xs, xs[i], hl _ _ p, List.getElem?_eq_getElem lt⟩, Pv (i + 1), fun H' p' => ⟨k, Nat.lt_succ_self _, by omega, p'⟩, ?_⟩
    rintro x H' ⟨rfl, y⟩
    exact hs i x _ (y xs (hl _ _ p)) p
end
end Own

/-! dict(xs) of a list of pairs whose keys are tuples. -/
namespace Own
open PySem PySem.Spec PyProof.Rows L2
theorem paired_at {α β : Type} {F : α → β → Prop} : ∀ {xs : List α} {ys : List β}, Paired F xs ys → ∀ {i : Nat} {y : β}, ys[i]? = some y → ∃ x, xs[i]? = some x ∧ F x y
  | _, _, .nil, i, y, h => by cases h
  | _, _, .cons r t, 0, y, h => by
    cases h
    exact ⟨_, rfl, r⟩
  | _, _, .cons r t, i + 1, y, h => paired_at t h
/-- a pair's tuple, its key's tuple, the key and the value -/
abbrev Trip := Addr × Addr × (List Key × V)
def mergeT (kvs more : List (List Key × V)) : List (List Key × V) := more.foldl (fun acc kv => putK acc kv.1 kv.2) kvs
theorem length_mergeT : ∀ (more kvs : List (List Key × V)), (mergeT kvs more).length ≤ kvs.length + more.length
  | [], _ => Nat.le_refl _
  | a :: more, kvs => by
    have h := length_mergeT more (putK kvs a.1 a.2)
    have g := length_putK kvs a.1 a.2
    show (mergeT (putK kvs a.1 a.2) more).length ≤ _
    rw [List.length_cons]
    omega
section
variable {X : Cx} {pins : List (Addr × Obj)} {σ : L2.St} {H : Hp} {s : Shared}
theorem trips_of (I : Inv X pins σ H s) : ∀ {ts : List Trip}, (∀ t ∈ ts, H t.1 = some (.tup [.ref t.2.1, t.2.2.2]) ∧ H t.2.1 = some (.tup (t.2.2.1.map kV))) →
    ∃ ps : List (List Key × Addr × Value), Paired (fun (t : Trip) q => t.2.2.1 = q.1 ∧ t.2.1 = q.2.1 ∧ RelV t.2.2.2 q.2.2 ∧ s.heap.IsTuple t.1 #[.ref q.2.1, q.2.2]) ts ps
  | [], _ => ⟨[], .nil⟩
  | t :: ts, h => by
    obtain ⟨ps, r⟩ := trips_of I fun t ht => h t (List.mem_cons_of_mem _ ht)
    obtain ⟨its, rv, isT, _⟩ := I.tuple (.of (h t List.mem_cons_self).1)
    obtain ⟨u, y, rfl, ru, ry⟩ := vals2 rv
    cases ru
    exact ⟨(t.2.2.1, t.2.1, y) :: ps, .cons ⟨rfl, rfl, ry, isT⟩ r⟩
theorem KT.all : ∀ {ts : List Trip} {ps : List (List Key × Addr × Value)} {kvs : List (List Key × V)} {xs : List (List Key × Addr × Value)},
    Paired (fun (t : Trip) q => t.2.2.1 = q.1 ∧ t.2.1 = q.2.1 ∧ RelV t.2.2.2 q.2.2 ∧ s.heap.IsTuple t.1 #[.ref q.2.1, q.2.2]) ts ps → (∀ t ∈ ts, H t.2.1 = some (.tup (t.2.2.1.map kV))) → KT H kvs xs → KT H (mergeT kvs (ts.map (·.2.2))) (storedAllH xs ps)
  | _, _, _, _, .nil, _, r => r
  | _, _, kvs, xs, .cons (a := t) (b := q) ⟨e1, e2, e3, _⟩ tl, h, r => by
    have h1 := h t List.mem_cons_self
    have step := r.put t.2.2.1 (b := q.2.1) (y := t.2.2.2) (u := q.2.2) (by rw [← e2]; exact h1) e3
    have rest := KT.all tl (fun t ht => h t (List.mem_cons_of_mem _ ht)) step
    rw [e1] at rest
    show KT H (mergeT (putK kvs t.2.2.1 t.2.2.2) _) (storedAllH (storedH xs q.1 q.2.1 q.2.2) _)
    rw [e1]
    exact rest
theorem call_dictT (calm : X.calm = true) (room : X.A.units + 3 < cLine) : CallR X (.type "dict") (fun xs H Q => ∃ (a : Addr) (ts : List Trip), xs = [.ref a] ∧ SqL X.K H a (ts.map fun t => V.ref t.1) ∧ (∀ t ∈ ts, H t.1 = some (.tup [.ref t.2.1, t.2.2.2]) ∧ H t.2.1 = some (.tup (t.2.2.1.map kV))) ∧
    ∀ p, H p = none → Q (.ref p) (upd H p (.dT (mergeT [] (ts.map (·.2.2)))))) := by
  rintro pins s σ H xs us Q I r ⟨a, ts, rfl, seq, pairs, q⟩
  obtain ⟨u, rfl, rx⟩ := vals1 r
  cases rx
  obtain ⟨its, rv, plain, len⟩ := I.list seq
  obtain ⟨ps, all⟩ := trips_of I pairs
  have lp := Paired.length all
  have refs : its = ts.map fun t => Value.ref t.1 := by
    have : ∀ {l : List Trip} {us : List Value}, Vals (l.map fun t => V.ref t.1) us → us = l.map fun t => Value.ref t.1 := by
      intro l
      induction l with
      | nil => intro us r; cases r; rfl
      | cons t l ih =>
        intro us r
        cases r with
        | cons h tl =>
          cases h
          rw [List.map_cons, ← ih tl]
    exact this rv
  rw [List.length_map] at len
  have arg := PairArg.list (prog := X.prog) (w := X.w) a its.toArray (fun j => (ts.map (·.1)).getD j 0) (ps.map fun q => (Value.ref q.2.1, q.2.2))
  have keys : ∀ x ∈ ps, (tupleKind (mixKind X.prog X.w)).is s.heap x.1 x.2.1 := fun x hx => by
    obtain ⟨j, hj⟩ := List.mem_iff_getElem?.mp hx
    obtain ⟨t, ht, e1, e2, _⟩ := paired_at all hj
    rw [← e1, ← e2]
    exact key_of I.hok (pairs t (List.mem_of_getElem? ht)).2
  refine call_dict_pairsH (knd := tupleKind (mixKind X.prog X.w)) (ps := ps) arg (I.ok.hd calm) (show X.A.in1.in1.units < cLine by show X.A.units + 1 + 1 < cLine; omega) ⟨?_, ?_, ?_⟩ ⟨by rw [List.length_map], ?_⟩ ?_ (by rw [List.length_map]; omega) ?_
  · exact plain
  · rw [refs]
    simp [lp]
  · intro j k v e
    rw [List.getElem?_map] at e
    cases hj : ps[j]? with
    | none => rw [hj] at e; cases e
    | some y =>
      rw [hj] at e
      cases e
      obtain ⟨t, ht, e1, e2, e3, e4⟩ := paired_at all hj
      have gd : (ts.map (·.1)).getD j 0 = t.1 := by rw [List.getD_eq_getElem?_getD, List.getElem?_map, ht] <;> rfl
      refine ⟨?_, .inl ?_⟩
      · dsimp only
        rw [List.getElem?_toArray, refs, List.getElem?_map, ht, gd] <;> rfl
      · dsimp only
        rw [gd]
        exact e4
  · intro i key v rel
    have rel : (ps.map fun q => (Value.ref q.2.1, q.2.2))[i]? = some (key, v) := rel
    rw [List.getElem?_map] at rel
    cases hj : ps[i]? with
    | none => rw [hj] at rel; cases rel
    | some y =>
      rw [hj] at rel
      cases rel
      exact ⟨y.1, y.2.1, rfl, rfl⟩
  · intro h' kp x hx
    obtain ⟨o, items, n, z1, z2, z3, z4⟩ := keys x hx
    exact ⟨o, items, n, kp _ _ (Nat.ne_of_lt (Heap.lt_size z1)) (by simp) z1, z2, z3, z4⟩
  · intro h' tk dd kp
    obtain ⟨o, es, ep, ho, z2, z3, z4, _, z5⟩ := dd
    have notMods : (s.heap.objs.size == sysModules) = false := beq_eq_false_iff_ne.mpr (Nat.ne_of_gt I.big)
    have fresh : H s.heap.objs.size = none := I.hok.fresh (Nat.le_refl _)
    have len2 : (mergeT [] (ts.map (·.2.2))).length ≤ sizeLine := by
      have := length_mergeT (ts.map (·.2.2)) []
      rw [List.length_map, List.length_nil] at this
      omega
    have rel := KT.all (H := H) (kvs := []) (xs := []) all (fun t ht => (pairs t ht).2) .nil
    refine ⟨.ref s.heap.objs.size, upd H s.heap.objs.size (.dT (mergeT [] (ts.map (·.2.2)))), I.laid (t' := tk) (fun b u e => kp b u (by simp) e) (Nat.le_refl _) ⟨len2, notMods, _, rel.keeps fun c ys e => ?_, o, es, ep, ho, z2, z3, z4, z5⟩, rfl, q _ fresh⟩
    rw [upd_ne (fun z => by rw [z, fresh] at e; cases e)]
    exact e
end
theorem room3 {A : Around} {k : Nat} (hr : Room k A) : A.units + 3 < cLine := by
  have := hr.units
  omega
end Own

namespace Own
/-! ### ways of which no step loses, and the top lot -/
section
variable {α : Type} [DecidableEq α]
inductive WayTo (f : α → α → Int) (zs : List α) (s : α) : α → List α → Prop
  | start : s ∈ zs → WayTo f zs s s [s]
  | step {x y : α} {w : List α} : WayTo f zs s x w → y ∈ zs → y ∉ w → 0 ≤ f x y → WayTo f zs s y (w ++ [y])
def Reach (f : α → α → Int) (zs : List α) (s y : α) : Prop := ∃ w, WayTo f zs s y w
variable {f : α → α → Int} {zs : List α}
theorem WayTo.last {s x : α} {w : List α} (h : WayTo f zs s x w) : x ∈ w := by
  cases h with
  | start _ => exact List.mem_singleton.mpr rfl
  | step _ _ _ _ => exact List.mem_append_right _ (List.mem_singleton.mpr rfl)
theorem WayTo.in {s x : α} {w : List α} (h : WayTo f zs s x w) : x ∈ zs := by
  cases h with
  | start h => exact h
  | step _ h _ _ => exact h
theorem WayTo.within {s x : α} {w : List α} (h : WayTo f zs s x w) : ∀ y ∈ w, Reach f zs s y := by
  induction h with
  | start h =>
    intro y hy
    rw [List.mem_singleton.mp hy]
    exact ⟨_, .start h⟩
  | step h m n e ih =>
    intro y hy
    rcases List.mem_append.mp hy with hy | hy
    · exact ih y hy
    · rw [List.mem_singleton.mp hy]
      exact ⟨_, .step h m n e⟩
theorem Reach.step {s x y : α} (h : Reach f zs s x) (m : y ∈ zs) (e : 0 ≤ f x y) : Reach f zs s y := by
  obtain ⟨w, h⟩ := h
  by_cases c : y ∈ w
  · exact h.within y c
  · exact ⟨_, .step h m c e⟩
theorem Reach.closed {s y : α} {S : α → Prop} (h : Reach f zs s y) (h0 : S s) (hs : ∀ x y, S x → y ∈ zs → 0 ≤ f x y → S y) : S y := by
  obtain ⟨w, h⟩ := h
  induction h with
  | start _ => exact h0
  | step _ m _ e ih => exact hs _ _ ih m e
theorem Reach.refl {s : α} (h : s ∈ zs) : Reach f zs s s := ⟨_, .start h⟩
theorem Reach.trans {s x y : α} (h : Reach f zs s x) (g : Reach f zs x y) : Reach f zs s y := g.closed h fun _ _ a m e => a.step m e
theorem Reach.in {s y : α} (h : Reach f zs s y) : y ∈ zs := h.elim fun _ w => w.in
theorem WayTo.nodup {s x : α} {w : List α} (h : WayTo f zs s x w) : w.Nodup := by
  induction h with
  | start _ => simp
  | step _ _ n _ ih => exact List.nodup_append.mpr ⟨ih, by simp, fun a ha b hb e => by rw [List.mem_singleton.mp hb] at e; exact n (e ▸ ha)⟩
theorem WayTo.all {s x : α} {w : List α} (h : WayTo f zs s x w) : ∀ y ∈ w, y ∈ zs := fun y hy => (h.within y hy).in
theorem nodup_le {a b : List α} (n : a.Nodup) (s : ∀ x ∈ a, x ∈ b) : a.length ≤ b.length := by
  induction a generalizing b with
  | nil => exact Nat.zero_le _
  | cons x a ih =>
    have n2 := List.nodup_cons.mp n
    have mx := s x List.mem_cons_self
    have := ih (b := b.erase x) n2.2 fun y hy => (List.mem_erase_of_ne (fun e => n2.1 (by rw [← e]; exact hy))).mpr (s y (List.mem_cons_of_mem _ hy))
    rw [List.length_erase_of_mem mx] at this
    have pos := List.length_pos_of_mem mx
    rw [List.length_cons]
    omega
theorem WayTo.len {s x : α} {w : List α} (h : WayTo f zs s x w) : w.length ≤ zs.length := nodup_le h.nodup h.all
theorem pairwise_two {R : α → α → Prop} : ∀ {l : List α}, l.Pairwise R → ∀ {a b : α}, a ∈ l → b ∈ l → a ≠ b → R a b ∨ R b a
  | [], _, _, _, h, _, _ => by cases h
  | c :: l, p, a, b, ha, hb, n => by
    have p2 := List.pairwise_cons.mp p
    rcases List.mem_cons.mp ha with e1 | h1
    · rcases List.mem_cons.mp hb with e2 | h2
      · exact absurd (e1.trans e2.symm) n
      · rw [e1]
        exact .inl (p2.1 b h2)
    · rcases List.mem_cons.mp hb with e2 | h2
      · rw [e2]
        exact .inr (p2.1 a h1)
      · exact pairwise_two p2.2 h1 h2 n
theorem Reach.mono {zs ws : List α} {s y : α} (h : Reach f zs s y) (m : ∀ x, x ∈ zs → x ∈ ws) : Reach f ws s y := by
  obtain ⟨w, h⟩ := h
  induction h with
  | start h => exact ⟨_, .start (m _ h)⟩
  | step _ i _ e ih => exact ih.step (m _ i) e
def Tops (f : α → α → Int) (zs : List α) (s : α) : Prop := ∀ y ∈ zs, Reach f zs s y
theorem tops_some (anti : ∀ x y, f x y = -f y x) : ∀ {l : List α}, l ≠ [] → (∀ x ∈ l, x ∈ zs) → ∃ s ∈ l, ∀ y ∈ l, Reach f zs s y
  | [], h, _ => absurd rfl h
  | [a], _, m => ⟨a, List.mem_singleton.mpr rfl, fun y hy => by rw [List.mem_singleton.mp hy]; exact .refl (m a List.mem_cons_self)⟩
  | a :: b :: l, _, m => by
    obtain ⟨s, hs, all⟩ := tops_some anti (l := b :: l) (by simp) fun x hx => m x (List.mem_cons_of_mem _ hx)
    have ma := m a List.mem_cons_self
    have ms := m s (List.mem_cons_of_mem _ hs)
    by_cases c : 0 ≤ f s a
    · refine ⟨s, List.mem_cons_of_mem _ hs, fun y hy => ?_⟩
      rcases List.mem_cons.mp hy with rfl | hy
      · exact (Reach.refl ms).step ma c
      · exact all y hy
    · have c : 0 ≤ f a s := by have := anti a s; omega
      refine ⟨a, List.mem_cons_self, fun y hy => ?_⟩
      rcases List.mem_cons.mp hy with rfl | hy
      · exact .refl ma
      · exact ((Reach.refl ma).step ms c).trans (all y hy)
/-- each of these beats each one that is not among them -/
def Dom (f : α → α → Int) (zs S : List α) : Prop := ∀ x ∈ S, ∀ y ∈ zs, y ∉ S → 0 < f x y
theorem Dom.holds (anti : ∀ x y, f x y = -f y x) {S : List α} (h : Dom f zs S) (n : S ≠ []) (sub : ∀ x ∈ S, x ∈ zs) {t : α} (ht : t ∈ zs) (a : Tops f zs t) : t ∈ S := by
  refine Classical.byContradiction fun out => ?_
  obtain ⟨s, hs⟩ := List.exists_mem_of_ne_nil S n
  have := (a s (sub s hs)).closed (S := fun x => x ∉ S ∧ x ∈ zs) ⟨out, ht⟩ fun x y ⟨nx, mx⟩ my e => ⟨fun hy => by
    have h1 := h y hy x mx nx
    have h2 := anti x y
    omega, my⟩
  exact this.1 hs
open Classical in
noncomputable def topB (f : α → α → Int) (zs : List α) (s : α) : Bool := decide (Tops f zs s)
open Classical in
theorem topB_iff {s : α} : topB f zs s = true ↔ Tops f zs s := by
  unfold topB
  exact decide_eq_true_iff
theorem top_dom (anti : ∀ x y, f x y = -f y x) : Dom f zs (zs.filter (topB f zs)) := by
  intro x hx y hy out
  obtain ⟨mx, tx⟩ := List.mem_filter.mp hx
  have tx : Tops f zs x := topB_iff.mp tx
  refine Classical.byContradiction fun c => out (List.mem_filter.mpr ⟨hy, ?_⟩)
  have e : 0 ≤ f y x := by have := anti x y; omega
  exact topB_iff.mpr fun z hz => ((Reach.refl hy).step mx e).trans (tx z hz)
theorem top_ne (anti : ∀ x y, f x y = -f y x) (n : zs ≠ []) : zs.filter (topB f zs) ≠ [] := by
  obtain ⟨s, hs, all⟩ := tops_some (f := f) (zs := zs) anti n fun _ h => h
  have : s ∈ zs.filter (topB f zs) := List.mem_filter.mpr ⟨hs, topB_iff.mpr all⟩
  intro e
  rw [e] at this
  cases this
/-- the lots of some names, as they are gone through -/
def lotsOf (zs : List α) : List (List α) := zs.foldl (fun acc z => acc ++ acc.map fun t => t ++ [z]) [[]]
theorem lots_more (zs : List α) (z : α) : lotsOf (zs ++ [z]) = lotsOf zs ++ (lotsOf zs).map fun t => t ++ [z] := by
  unfold lotsOf
  rw [List.foldl_append]
  rfl
theorem snoc_ind {P : List α → Prop} (h0 : P []) (hs : ∀ l a, P l → P (l ++ [a])) : ∀ l, P l := by
  have : ∀ l : List α, P l.reverse := fun l => by
    induction l with
    | nil => exact h0
    | cons a l ih =>
      rw [List.reverse_cons]
      exact hs _ _ ih
  intro l
  have h := this l.reverse
  rw [List.reverse_reverse] at h
  exact h
theorem lots_len : ∀ zs : List α, (lotsOf zs).length = 2 ^ zs.length := snoc_ind rfl fun l a h => by
  rw [lots_more, List.length_append, List.length_map, h, List.length_append, List.length_singleton, Nat.pow_succ]
  omega
theorem lots_sub : ∀ zs : List α, ∀ S ∈ lotsOf zs, S.Sublist zs := snoc_ind (fun S h => by rw [List.mem_singleton.mp h]; exact List.Sublist.refl _) fun l a ih S h => by
  rw [lots_more] at h
  rcases List.mem_append.mp h with h | h
  · exact (ih S h).trans (List.sublist_append_left _ _)
  · obtain ⟨t, ht, rfl⟩ := List.mem_map.mp h
    exact List.Sublist.append (ih t ht) (List.Sublist.refl _)
theorem lots_filter (B : α → Bool) : ∀ zs : List α, zs.filter B ∈ lotsOf zs := snoc_ind (List.mem_singleton.mpr rfl) fun l a ih => by
  rw [lots_more, List.filter_append]
  cases e : B a with
  | true => 
    rw [List.filter_cons_of_pos e, List.filter_nil]
    exact List.mem_append_right _ (List.mem_map.mpr ⟨_, ih, rfl⟩)
  | false =>
    rw [List.filter_cons_of_neg (by rw [e]; exact Bool.false_ne_true), List.filter_nil, List.append_nil]
    exact List.mem_append_left _ ih
theorem sub_filter {zs : List α} (nd : zs.Nodup) : ∀ {S : List α}, S.Sublist zs → S = zs.filter fun z => decide (z ∈ S) := by
  intro S h
  induction h with
  | slnil => rfl
  | cons a h ih =>
    have n := List.nodup_cons.mp nd
    rename_i l1 l2
    have out : a ∉ l1 := fun m => n.1 (h.subset m)
    rw [List.filter_cons_of_neg (by simpa using out)]
    exact ih n.2
  | cons_cons a h ih =>
    have n := List.nodup_cons.mp nd
    rename_i l1 l2
    rw [List.filter_cons_of_pos (by simp)]
    refine congrArg _ ((ih n.2).trans (List.filter_congr fun z hz => ?_))
    have : z ≠ a := fun e => n.1 (e ▸ hz)
    simp [this]
/-- the first lot that beats all others is the top one -/
theorem top_least (anti : ∀ x y, f x y = -f y x) (nd : zs.Nodup) {S : List α} (hS : S ∈ lotsOf zs) (n : S ≠ []) (d : Dom f zs S) (least : ∀ L ∈ lotsOf zs, L ≠ [] → L.length < S.length → ¬ Dom f zs L) : S = zs.filter (topB f zs) := by
  have sub := lots_sub zs S hS
  have e := sub_filter nd sub
  have hold : ∀ t ∈ zs, topB f zs t = true → t ∈ S := fun t ht b => d.holds anti n (fun x hx => sub.subset hx) ht (topB_iff.mp b)
  have ne : zs ≠ [] := fun z => n (by rw [z] at sub; exact List.sublist_nil.mp sub)
  have small : (zs.filter (topB f zs)).Sublist S := by
    rw [e]
    have : zs.filter (topB f zs) = (zs.filter fun z => decide (z ∈ S)).filter (topB f zs) := by
      rw [List.filter_filter]
      refine List.filter_congr fun z hz => ?_
      cases c : topB f zs z with
      | false => rfl
      | true => simp [hold z hz c]
    rw [this]
    exact List.filter_sublist
  have len := small.length_le
  rcases Nat.lt_or_ge (zs.filter (topB f zs)).length S.length with c | c
  · exact absurd (top_dom anti) (least _ (lots_filter _ zs) (top_ne anti ne) c)
  · exact (small.eq_of_length (by omega)).symm
end
end Own

/-! list(zip(t, u)), t and u tuples: each pair stays out, in the list. -/
namespace Own
open PySem PySem.Spec PyProof.Rows L2
section
variable {prog : Program} {w : World} {A : Around} {E : Value → Shared → Prop} {s : Shared}
/-- the next pair of a zip over two tuples whose pair T of before is still out -/
theorem zipT_more {z TI TO T p q a b : Addr} {f : Bool} {oT : Obj} {m n : Nat} {us vs : Array Value} {x y : Value} {Q : Value → Shared → Prop} (D : ZipApart z TI TO p q a b) (gz : PySem.IsZipHeld s.heap z TI TO T f) (gT : s.heap.get? T = some oT) (gI : IsPair s.heap TI (.ref p) (.ref q))
    (gp : s.heap.IsTupleIter p a m) (gq : s.heap.IsTupleIter q b n) (ga : s.heap.IsTuple a us) (gb : s.heap.IsTuple b vs) (ex : us[m]? = some x) (ey : vs[n]? = some y)
    (go : ∀ k, PySem.IsZipHeld k z TI TO T true → k.IsTupleIter p a (m + 1) → k.IsTupleIter q b (n + 1) → IsPair k s.heap.objs.size x y → k.objs.size = s.heap.objs.size + 1 → (∀ c o, c ≠ z → c ≠ p → c ≠ q → s.heap.get? c = some o → k.get? c = some o) → Q (.ref s.heap.objs.size) { s with heap := k }) :
    wpAny (model prog w) A (Builtin.«zip.__next__» ⟨[.ref z], []⟩) (fun r t => ∃ v, r = .done (.ret v) ∧ Q v t) E s := by
  show wpAny _ _ (field (.ref z) 2 >>= _) _ _ _
  refine wpAny_bind (wpAny_field gz rfl (x := .bool false) rfl ?_)
  show wpAny _ _ (field (.ref z) 3 >>= _) _ _ _
  refine wpAny_bind (wpAny_field gz rfl (x := .ref TI) rfl ?_)
  refine wpAny_bind (wpAny_seqItems gI rfl ?_)
  show wpAny _ _ (Builtin.SmallTypes.ownedTupleIsFree (.ref z) >>= _) _ _ _
  refine wpAny_bind (PySem.wpAny_tupleHeld_zip gz gT fun k1 z1 e1 => ?_)
  simp only [Bool.false_eq_true, if_false]
  refine wpAny_bind ?_
  rw [← Array.forIn_toList]
  simp only [List.forIn_cons, List.forIn_nil]
  refine wpAny_bind (wpAny_bind (wpAny_holding ?_))
  show wpAny _ _ (Builtin.SmallTypes.nextOf (.ref p) >>= _) _ _ _
  refine wpAny_bind (RZ.nextOf_tuple_item (s := { s with heap := k1 }) (gp.extBut e1.extBut D.i1z) (ga.extBut e1.extBut D.l1z) ex fun k2 p2 e2 => wpAny_pure ?_)
  refine wpAny_pure ?_
  refine wpAny_bind (wpAny_bind (wpAny_holding ?_))
  show wpAny _ _ (Builtin.SmallTypes.nextOf (.ref q) >>= _) _ _ _
  refine wpAny_bind (RZ.nextOf_tuple_item (s := { s with heap := k2 }) ((gq.extBut e1.extBut D.i2z).extBut e2.extBut D.i12.symm) ((gb.extBut e1.extBut D.l2z).extBut e2.extBut D.l2i1) ey fun k3 q3 e3 => wpAny_pure ?_)
  refine wpAny_pure (wpAny_pure ?_)
  show wpAny _ _ (newTuple [x, y] >>= _) _ _ _
  refine wpAny_bind (wpAny_newTuple ?_)
  have size3 : k3.objs.size = s.heap.objs.size := by rw [e3.1, e2.1, e1.1]
  have z3 : PySem.IsZipHeld k3 z TI TO T true := e3.extBut _ _ D.i2z.symm (e2.extBut _ _ D.i1z.symm z1)
  have rest : ∀ c o, c ≠ z → c ≠ p → c ≠ q → s.heap.get? c = some o → k3.get? c = some o := fun c o n1 n2 n3 e => e3.extBut _ _ n3 (e2.extBut _ _ n2 (e1.extBut _ _ n1 e))
  have p3 : k3.IsTupleIter p a (m + 1) := p2.extBut e3.extBut D.i12
  refine wpAny_pure ⟨_, rfl, ?_⟩
  show Q (.ref k3.objs.size) _
  have new : IsPair (k3.push { cls := .type "tuple", data := .seq #[x, y] }) k3.objs.size x y := Heap.get?_push_size _ rfl
  have more : (k3.push { cls := .type "tuple", data := .seq #[x, y] }).objs.size = k3.objs.size + 1 := Heap.size_push ..
  rw [size3] at new more ⊢
  exact go _ (Heap.get?_push_of_some _ z3) (p3.at fun o e => Heap.get?_push_of_some _ e) (q3.at fun o e => Heap.get?_push_of_some _ e) new more fun c o n1 n2 n3 e => Heap.get?_push_of_some _ (rest c o n1 n2 n3 e)
theorem zipT_over {z TI TO T p q a b : Addr} {f : Bool} {oT : Obj} {m n : Nat} {us vs : Array Value} {Q : Fin → Shared → Prop} (calm : A.handled = none) (D : ZipApart z TI TO p q a b) (gz : PySem.IsZipHeld s.heap z TI TO T f) (gT : s.heap.get? T = some oT) (gI : IsPair s.heap TI (.ref p) (.ref q))
    (gp : s.heap.IsTupleIter p a m) (gq : s.heap.IsTupleIter q b n) (ga : s.heap.IsTuple a us) (gb : s.heap.IsTuple b vs) (out : us[m]? = none ∨ vs[n]? = none)
    (go : ∀ k e, (∀ c o, c ≠ z → c ≠ p → c ≠ q → s.heap.get? c = some o → k.get? c = some o) → (∃ o, k.get? e = some o ∧ o.cls = .type "StopIteration") → E (.ref e) { s with heap := k }) :
    wpAny (model prog w) A (Builtin.«zip.__next__» ⟨[.ref z], []⟩) Q E s := by
  show wpAny _ _ (field (.ref z) 2 >>= _) _ _ _
  refine wpAny_bind (wpAny_field gz rfl (x := .bool false) rfl ?_)
  show wpAny _ _ (field (.ref z) 3 >>= _) _ _ _
  refine wpAny_bind (wpAny_field gz rfl (x := .ref TI) rfl ?_)
  refine wpAny_bind (wpAny_seqItems gI rfl ?_)
  show wpAny _ _ (Builtin.SmallTypes.ownedTupleIsFree (.ref z) >>= _) _ _ _
  refine wpAny_bind (PySem.wpAny_tupleHeld_zip gz gT fun k1 z1 e1 => ?_)
  simp only [Bool.false_eq_true, if_false]
  refine wpAny_bind ?_
  rw [← Array.forIn_toList]
  simp only [List.forIn_cons, List.forIn_nil]
  refine wpAny_bind (wpAny_bind (wpAny_holding ?_))
  show wpAny _ _ (Builtin.SmallTypes.nextOf (.ref p) >>= _) _ _ _
  cases ex : us[m]? with
  | none =>
    refine wpAny_bind (RZ.nextOf_tuple_end (s := { s with heap := k1 }) calm (gp.extBut e1.extBut D.i1z) (ga.extBut e1.extBut D.l1z) ex fun k2 e e2 he => ?_)
    exact go k2 e (fun c o n1 n2 _ h => e2 _ _ n2 (e1.extBut _ _ n1 h)) he
  | some x =>
    have ey : vs[n]? = none := out.resolve_left fun h => by rw [ex] at h; cases h
    refine wpAny_bind (RZ.nextOf_tuple_item (s := { s with heap := k1 }) (gp.extBut e1.extBut D.i1z) (ga.extBut e1.extBut D.l1z) ex fun k2 p2 e2 => wpAny_pure ?_)
    refine wpAny_pure ?_
    refine wpAny_bind (wpAny_bind (wpAny_holding ?_))
    show wpAny _ _ (Builtin.SmallTypes.nextOf (.ref q) >>= _) _ _ _
    refine wpAny_bind (RZ.nextOf_tuple_end (s := { s with heap := k2 }) calm ((gq.extBut e1.extBut D.i2z).extBut e2.extBut D.i12.symm) ((gb.extBut e1.extBut D.l2z).extBut e2.extBut D.l2i1) ey fun k3 e e3 he => ?_)
    exact go k3 e (fun c o n1 n2 n3 h => e3 _ _ n3 (e2.extBut _ _ n2 (e1.extBut _ _ n1 h))) he
theorem nextT_more {z TI TO T p q a b : Addr} {f : Bool} {oT : Obj} {m n : Nat} {us vs : Array Value} {x y : Value} {Q : Option Value → Shared → Prop} (D : ZipApart z TI TO p q a b) (gz : PySem.IsZipHeld s.heap z TI TO T f) (gT : s.heap.get? T = some oT) (gI : IsPair s.heap TI (.ref p) (.ref q))
    (gp : s.heap.IsTupleIter p a m) (gq : s.heap.IsTupleIter q b n) (ga : s.heap.IsTuple a us) (gb : s.heap.IsTuple b vs) (ex : us[m]? = some x) (ey : vs[n]? = some y)
    (go : ∀ k, PySem.IsZipHeld k z TI TO T true → k.IsTupleIter p a (m + 1) → k.IsTupleIter q b (n + 1) → IsPair k s.heap.objs.size x y → k.objs.size = s.heap.objs.size + 1 → (∀ c o, c ≠ z → c ≠ p → c ≠ q → s.heap.get? c = some o → k.get? c = some o) → Q (some (.ref s.heap.objs.size)) { s with heap := k }) :
    wpAny (model prog w) A (pyNext (.ref z)) Q E s := by
  have ty : s.TypeIs (.ref z) "zip" := ⟨_, gz, rfl⟩
  unfold pyNext
  refine wpAny_bind (wpAny_attempt (wpAny_callSpecial?_slot (name := Str.ofString "__next__") ty PySem.F.slot_zip_next (wpAny_call_entry PySem.F.slot_zip_next ty PySem.F.entry_zip_next ?_ (PySem.F.args_zip_next_1 _))))
  exact zipT_more D gz gT gI gp gq ga gb ex ey fun k b1 b2 b3 b4 b5 b6 => wpAny_pure (go k b1 b2 b3 b4 b5 b6)
theorem nextT_over {z TI TO T p q a b : Addr} {f : Bool} {oT : Obj} {m n : Nat} {us vs : Array Value} {Q : Option Value → Shared → Prop} (calm : A.handled = none) (D : ZipApart z TI TO p q a b) (gz : PySem.IsZipHeld s.heap z TI TO T f) (gT : s.heap.get? T = some oT) (gI : IsPair s.heap TI (.ref p) (.ref q))
    (gp : s.heap.IsTupleIter p a m) (gq : s.heap.IsTupleIter q b n) (ga : s.heap.IsTuple a us) (gb : s.heap.IsTuple b vs) (out : us[m]? = none ∨ vs[n]? = none)
    (go : ∀ k, (∀ c o, c ≠ z → c ≠ p → c ≠ q → s.heap.get? c = some o → k.get? c = some o) → Q none { s with heap := k }) : wpAny (model prog w) A (pyNext (.ref z)) Q E s := by
  have ty : s.TypeIs (.ref z) "zip" := ⟨_, gz, rfl⟩
  unfold pyNext
  refine wpAny_bind (wpAny_attempt (wpAny_callSpecial?_slot (name := Str.ofString "__next__") ty PySem.F.slot_zip_next (wpAny_call_entry PySem.F.slot_zip_next ty PySem.F.entry_zip_next (zipT_over calm D gz gT gI gp gq ga gb out fun k e hk he => ?_) (PySem.F.args_zip_next_1 _))))
  obtain ⟨o, ho, hc⟩ := he
  refine wpAny_bind (wpAny_isInstance (T := "StopIteration") (b := true) ⟨o, ho, hc⟩ isSubtype_stop ?_)
  exact wpAny_pure (go _ hk)
end
/-- where a zip over the tuples a and b stands, i pairs told -/
structure ZAt (h : Heap) (H : Hp) (z TI TO p q a b : Addr) (i : Nat) : Prop where
  both : IsPair h TI (.ref p) (.ref q)
  last : ∃ x y, IsPair h TO x y
  itA : h.IsTupleIter p a i
  itB : h.IsTupleIter q b i
  zip : IsZip h z TI TO .none ∨ ∃ T f ts, PySem.IsZipHeld h z TI TO T f ∧ H T = some (.tup ts)
theorem ZAt.move {h k : Heap} {H H2 : Hp} {z TI TO p q a b : Addr} {i : Nat} (g : ZAt h H z TI TO p q a b i) (e : ∀ c ∈ [z, TI, TO, p, q], ∀ o, h.get? c = some o → k.get? c = some o) (t : ∀ T ts, H T = some (.tup ts) → H2 T = some (.tup ts)) : ZAt k H2 z TI TO p q a b i := by
  obtain ⟨x, y, l⟩ := g.last
  refine ⟨e TI (by simp) _ g.both, ⟨x, y, e TO (by simp) _ l⟩, g.itA.at fun o u => e p (by simp) o u, g.itB.at fun o u => e q (by simp) o u, ?_⟩
  rcases g.zip with u | ⟨T, f, ts, u, v⟩
  · exact .inl (e z (by simp) _ u)
  · exact .inr ⟨T, f, ts, e z (by simp) _ u, t _ _ v⟩
/-- the pairs told so far -/
def Pairs (H : Hp) (xs ys : List V) (ts : List Addr) : Prop := ∀ (j : Nat) (t : Addr) (x y : V), ts[j]? = some t → xs[j]? = some x → ys[j]? = some y → H t = some (.tup [x, y])
section
variable {X : Cx} {pins : List (Addr × Obj)} {σ : L2.St}
theorem fp_upd {H : Hp} {c d : Addr} {o : HO} (n : c ≠ d) (f : FpOk X pins H c) : FpOk X pins (upd H d o) c := by
  obtain ⟨f0, f1⟩ := f
  exact ⟨by rw [upd_ne n]; exact f0, f1⟩
/-- one more pair -/
theorem z_item {B : Around} {E : Value → Shared → Prop} {s : Shared} {H : Hp} {z TI TO p q a b : Addr} {i : Nat} {xs ys : List V} {x y : V} {Q : Option Value → Shared → Prop} (calm : B.handled = none) (D : ZipApart z TI TO p q a b) (I : Inv X pins σ H s) (fp : ∀ c ∈ [z, TI, TO, p, q], FpOk X pins H c)
    (at0 : ZAt s.heap H z TI TO p q a b i) (ha : SqT X.K H a xs) (hb : SqT X.K H b ys) (ex : xs[i]? = some x) (ey : ys[i]? = some y)
    (go : ∀ (T : Addr) (s' : Shared), H T = none → T ∉ [z, TI, TO, p, q] → Inv X pins σ (upd H T (.tup [x, y])) s' → ZAt s'.heap (upd H T (.tup [x, y])) z TI TO p q a b (i + 1) → Q (some (.ref T)) s') : wpAny (model X.prog X.w) B (pyNext (.ref z)) Q E s := by
  obtain ⟨its, rv, ga, _⟩ := I.tuple ha
  obtain ⟨its2, rv2, gb, _⟩ := I.tuple hb
  obtain ⟨u, hu, ru⟩ := rv.get ex
  obtain ⟨u2, hu2, ru2⟩ := rv2.get ey
  obtain ⟨x0, y0, out⟩ := at0.last
  have low : ∀ c ∈ [z, TI, TO, p, q], c < s.heap.objs.size := fun c hc => by
    have e' : c = z ∨ c = TI ∨ c = TO ∨ c = p ∨ c = q := by simpa using hc
    rcases e' with e | e | e | e | e
    · rw [e]
      rcases at0.zip with g | ⟨_, _, _, g, _⟩ <;> exact Heap.lt_size g
    · rw [e]; exact Heap.lt_size at0.both
    · rw [e]; exact Heap.lt_size out
    · rw [e]; obtain ⟨_, g, _⟩ := at0.itA; exact Heap.lt_size g
    · rw [e]; obtain ⟨_, g, _⟩ := at0.itB; exact Heap.lt_size g
  have nT : s.heap.objs.size ∉ [z, TI, TO, p, q] := fun hc => Nat.lt_irrefl _ (low _ hc)
  have freeT : H s.heap.objs.size = none := I.hok.fresh (Nat.le_refl _)
  have obj : ∀ {k : Heap}, IsPair k s.heap.objs.size u u2 → ObjOk X.prog X.w (upd H s.heap.objs.size (.tup [x, y])) k s.heap.objs.size (.tup [x, y]) := fun g => ⟨by show 2 ≤ sizeLine; decide, [u, u2], .cons ru (.cons ru2 .nil), ⟨_, g, rfl, _, rfl⟩⟩
  have keep : ∀ {k : Heap}, (∀ c o, c ≠ z → c ≠ TO → c ≠ p → c ≠ q → s.heap.get? c = some o → k.get? c = some o) → ∀ c o, c ∉ [z, TI, TO, p, q] → s.heap.get? c = some o → k.get? c = some o := fun g c o n e =>
    g c o (fun h => n (by simp [h])) (fun h => n (by simp [h])) (fun h => n (by simp [h])) (fun h => n (by simp [h])) e
  have pa : s.heap.IsTuple a its.toArray := ga
  have pb : s.heap.IsTuple b its2.toArray := gb
  rcases at0.zip with g | ⟨T0, f, ts, g, hT0⟩
  · refine RZ.pyNext_zipT_item D g at0.both out at0.itA at0.itB pa pb (x := u) (y := u2) (by simpa using hu) (by simpa using hu2) fun k z' TO' k1 k2 kT ksz kk => ?_
    refine go _ _ freeT nT (I.turnedNew (t' := s.toks) (ch := [z, TI, TO, p, q]) (keep kk) fp (Nat.le_refl _) (obj kT)) ⟨kk _ _ D.TIz D.TITO D.TIi1 D.TIi2 at0.both, ⟨_, _, TO'⟩, k1, k2, .inr ⟨_, false, [x, y], z', upd_same⟩⟩
  · obtain ⟨_, _, _, ⟨oT, gT, _⟩⟩ := I.hok T0 _ hT0
    have n0 : ∀ c ∈ [z, TI, TO, p, q], T0 ≠ c := fun c hc e => by
      have := (fp c hc).1
      rw [← e, hT0] at this
      cases this
    refine nextT_more D g gT at0.both at0.itA at0.itB pa pb (x := u) (y := u2) (by simpa using hu) (by simpa using hu2) fun k z' k1 k2 kT ksz kk => ?_
    have kk' := keep (k := k) fun c o n1 _ n3 n4 e => kk c o n1 n3 n4 e
    refine go _ _ freeT nT (I.turnedNew (t' := s.toks) (ch := [z, TI, TO, p, q]) kk' fp (Nat.le_refl _) (obj kT)) ⟨kk _ _ D.TIz D.TIi1 D.TIi2 at0.both, ⟨_, _, kk _ _ D.TOz D.TOi1 D.TOi2 out⟩, k1, k2, .inr ⟨T0, true, ts, z', by rw [upd_ne (ne_of_none hT0 freeT)]; exact hT0⟩⟩
theorem z_done {B : Around} {E : Value → Shared → Prop} {s : Shared} {H : Hp} {z TI TO p q a b : Addr} {i : Nat} {xs ys : List V} {Q : Option Value → Shared → Prop} (calm : B.handled = none) (D : ZipApart z TI TO p q a b) (I : Inv X pins σ H s) (fp : ∀ c ∈ [z, TI, TO, p, q], FpOk X pins H c)
    (at0 : ZAt s.heap H z TI TO p q a b i) (ha : SqT X.K H a xs) (hb : SqT X.K H b ys) (e : xs[i]? = none ∨ ys[i]? = none)
    (go : ∀ (s' : Shared), Inv X pins σ H s' → Q none s') : wpAny (model X.prog X.w) B (pyNext (.ref z)) Q E s := by
  obtain ⟨its, rv, ga, _⟩ := I.tuple ha
  obtain ⟨its2, rv2, gb, _⟩ := I.tuple hb
  obtain ⟨x0, y0, out⟩ := at0.last
  have l1 := rv.length
  have l2 := rv2.length
  have he : its.toArray[i]? = none ∨ its2.toArray[i]? = none := by
    rcases e with h | h
    · have := List.getElem?_eq_none_iff.mp h
      exact .inl (by simp; omega)
    · have := List.getElem?_eq_none_iff.mp h
      exact .inr (by simp; omega)
  have pa : s.heap.IsTuple a its.toArray := ga
  have pb : s.heap.IsTuple b its2.toArray := gb
  have keep : ∀ {k : Heap}, (∀ c o, c ≠ z → c ≠ TO → c ≠ p → c ≠ q → s.heap.get? c = some o → k.get? c = some o) → ∀ c o, c ∉ [z, TI, TO, p, q] → s.heap.get? c = some o → k.get? c = some o := fun g c o n e =>
    g c o (fun h => n (by simp [h])) (fun h => n (by simp [h])) (fun h => n (by simp [h])) (fun h => n (by simp [h])) e
  rcases at0.zip with g | ⟨T0, f, ts, g, hT0⟩
  · exact RZ.pyNext_zipT_end calm D g at0.both out at0.itA at0.itB pa pb he fun k kk => go _ (I.turnedL (t' := s.toks) (ch := [z, TI, TO, p, q]) (keep kk) fp)
  · obtain ⟨_, _, _, ⟨oT, gT, _⟩⟩ := I.hok T0 _ hT0
    exact nextT_over calm D g gT at0.both at0.itA at0.itB pa pb he fun k kk => go _ (I.turnedL (t' := s.toks) (ch := [z, TI, TO, p, q]) (keep fun c o n1 _ n3 n4 e => kk c o n1 n3 n4 e) fp)
/-- the loop that fills the list S -/
theorem z_loop {B : Around} {H0 : Hp} {S z TI TO p q a b : Addr} {xs ys : List V} {R : Result → Shared → Prop} {res : Value} (calm : B.handled = none) (D : ZipApart z TI TO p q a b) (few : xs.length ≤ 1000) (eq : ys.length + 1 = xs.length ∨ ys.length = xs.length)
    (fin : ∀ (ts : List Addr) (H' : Hp) (s' : Shared), Inv X pins σ H' s' → (∀ c o, c ≠ S → H0 c = some o → H' c = some o) → H' S = some (.lst (ts.map V.ref)) → ts.length = ys.length → Pairs H' xs ys ts → R (.ok (.ret res)) s') :
    ∀ (k i : Nat) (ts : List Addr) (H : Hp) (s : Shared), ys.length - i = k → i ≤ ys.length → Inv X pins σ H s → (∀ c o, c ≠ S → H0 c = some o → H c = some o) → H S = some (.lst (ts.map V.ref)) → ts.length = i → Pairs H xs ys ts → (∀ c ∈ [z, TI, TO, p, q], FpOk X pins H c) → ZAt s.heap H z TI TO p q a b i → SqT X.K H a xs → SqT X.K H b ys →
      codeAny (model X.prog X.w) B (.builtin "list.extend.loop" ⟨[.ref S, .ref z, res], []⟩) R s := by
  intro k
  induction k with
  | zero =>
    intro i ts H s hk hi I sm hS lt pr fp at0 ha hb
    refine codeAny_builtin PySem.F.entry_extend_loop ?_
    rw [Around.under_plainId PySem.F.plain_extend_loop _]
    show wpAny _ B.in1 (pyNext (.ref z) >>= _) _ _ s
    refine wpAny_bind (z_done (B := B.in1) calm D I fp at0 ha hb (.inr (List.getElem?_eq_none (by omega))) fun s' I' => ?_)
    exact wpAny_pure (fin ts H s' I' sm hS (by omega) pr)
  | succ k ih =>
    intro i ts H s hk hi I sm hS lt pr fp at0 ha hb
    have il : i < ys.length := by omega
    have il2 : i < xs.length := by omega
    refine codeAny_builtin PySem.F.entry_extend_loop ?_
    rw [Around.under_plainId PySem.F.plain_extend_loop _]
    show wpAny _ B.in1 (pyNext (.ref z) >>= _) _ _ s
    refine wpAny_bind (z_item (B := B.in1) calm D I fp at0 ha hb (List.getElem?_eq_getElem il2) (List.getElem?_eq_getElem il) fun T s' nT fT I1 at1 => ?_)
    have ST : S ≠ T := ne_of_none hS nT
    have hS1 : (upd H T (.tup [xs[i], ys[i]])) S = some (.lst (ts.map V.ref)) := by rw [upd_ne ST]; exact hS
    have nS : S ∉ [z, TI, TO, p, q] := fun hc => by
      have := (fp S hc).1
      rw [hS] at this
      cases this
    obtain ⟨zz, its, n, r, hl, e⟩ := I1.lstM hS1
    have lts : its.length = i := by rw [← hl, List.length_map, lt]
    show wpAny _ B.in1 (updateSeq S (·.push (Value.ref T)) >>= _) _ _ _
    refine wpAny_bind ?_
    have I2 := I1.lset (t' := s'.toks) (f := (·.push (Value.ref T))) (its' := its ++ [.ref T]) (ys := (ts.map V.ref) ++ [V.ref T]) hS1 e (by simp) (r.append (.cons (show L2.RelV (V.ref T) (Value.ref T) from rfl) .nil)) (by rw [List.length_append, List.length_map, List.length_singleton]; exact Nat.le_of_lt (small1000 (by omega)))
    have other : ∀ c o, c ≠ S → (upd H T (.tup [xs[i], ys[i]])) c = some o → (upd (upd H T (.tup [xs[i], ys[i]])) S (.lst (ts.map V.ref ++ [V.ref T]))) c = some o := fun c o n h => by rw [upd_ne n]; exact h
    have tupS : ∀ c u, (upd H T (.tup [xs[i], ys[i]])) c = some (.tup u) → c ≠ S := fun c u h n => by rw [n, hS1] at h; cases h
    have sq : ∀ {c : Addr} {us : List V}, SqT X.K H c us → SqT X.K (upd (upd H T (.tup [xs[i], ys[i]])) S (.lst (ts.map V.ref ++ [V.ref T]))) c us := fun {c us} h => by
      rcases h with (h | ⟨ob, h⟩) | h
      · have h1 : (upd H T (.tup [xs[i], ys[i]])) c = some (.tup us) := by rw [upd_ne (ne_of_none h nT)]; exact h
        exact .inl (.inl (other _ _ (tupS _ _ h1) h1))
      · have h1 : (upd H T (.tup [xs[i], ys[i]])) c = some (.frz ob (.tup us)) := by rw [upd_ne (ne_of_none h nT)]; exact h
        exact .inl (.inr ⟨ob, other _ _ (fun n => by rw [n, hS1] at h1; cases h1) h1⟩)
      · exact .inr h
    refine wpAny_updateSeq e rfl (wpAny_pure ⟨plainId_quiet PySem.F.plain_extend_loop _, ih (i + 1) (ts ++ [T]) _ _ (by omega) il I2 (fun c o n h => ?_) ?_ (by rw [List.length_append, lt]; rfl) (fun j t x y et ex ey => ?_) (fun c hc => ?_) ?_ (sq ha) (sq hb)⟩) (by rw [List.size_toArray]; exact Nat.le_of_lt (small1000 (by omega))) (by show (its.toArray.push (Value.ref T)).size ≤ sizeLine + 1; rw [Array.size_push, List.size_toArray]; have := small1000 (n := its.length) (by omega); omega)
    · have h1 := sm c o n h
      rw [upd_ne n, upd_ne (ne_of_none h1 nT)]
      exact h1
    · rw [upd_same, List.map_append]
      rfl
    · rcases Nat.lt_or_ge j ts.length with h | h
      · rw [List.getElem?_append_left h] at et
        have h1 := pr j t x y et ex ey
        have h2 : (upd H T (.tup [xs[i], ys[i]])) t = some (.tup [x, y]) := by rw [upd_ne (ne_of_none h1 nT)]; exact h1
        exact other _ _ (tupS _ _ h2) h2
      · have jl : j < (ts ++ [T]).length := (List.getElem?_eq_some_iff.mp et).1
        rw [List.length_append, List.length_singleton] at jl
        have ej : j = ts.length := by omega
        subst ej
        have e1 : T = t := by simpa using et
        subst e1
        subst lt
        rw [List.getElem?_eq_getElem il2] at ex
        rw [List.getElem?_eq_getElem il] at ey
        cases ex
        cases ey
        exact other _ _ (Ne.symm ST) upd_same
    · exact fp_upd (fun h => nS (h ▸ hc)) (fp_upd (fun h => fT (h ▸ hc)) (fp c hc))
    · refine at1.move (fun c hc o h => ?_) fun t us h => other _ _ (tupS _ _ h) h
      exact (Heap.get?_update_other _ _ (fun h2 : S = c => nS (h2 ▸ hc))).trans h
theorem nolen_zip : typeLookup (.type "zip") "__len__" = pure none := by rw [typeLookup_type, builtinLookup_eq_fast]; kernel_rfl
theorem nohint_zip : typeLookup (.type "zip") "__length_hint__" = pure none := by rw [typeLookup_type, builtinLookup_eq_fast]; kernel_rfl
/-- list(z), z a zip over two tuples of which nothing was told yet -/
theorem z_call {B : Around} {E : Value → Shared → Prop} {s : Shared} {H : Hp} {z TI TO p q a b : Addr} {xs ys : List V} {Q : Value → Shared → Prop} (calm : B.handled = none) (D : ZipApart z TI TO p q a b) (few : xs.length ≤ 1000) (eq : ys.length + 1 = xs.length ∨ ys.length = xs.length)
    (I : Inv X pins σ H s) (fp : ∀ c ∈ [z, TI, TO, p, q], FpOk X pins H c) (low : ∀ c ∈ [z, TI, TO, p, q], c < s.heap.objs.size) (gz : IsZip s.heap z TI TO .none) (at0 : ZAt s.heap H z TI TO p q a b 0) (ha : SqT X.K H a xs) (hb : SqT X.K H b ys)
    (go : ∀ (S : Addr) (ts : List Addr) (H' : Hp) (s' : Shared), Inv X pins σ H' s' → Same H H' → H S = none → H' S = some (.lst (ts.map V.ref)) → ts.length = ys.length → Pairs H' xs ys ts → Q (.ref S) s') :
    wpAny (model X.prog X.w) B (call (.type "list") [.ref z]) Q E s := by
  refine callType_codes (Q₁ := fun obj s₁ => obj = .ref s.heap.objs.size ∧ s₁ = { s with heap := s.heap.push { cls := .type "list", data := .seq #[] } }) PySem.F.called_list (PySem.F.typeCall_list_1 _) PySem.F.entry_list_init (code_list_new _ ⟨rfl, rfl⟩) fun obj s₁ h₁ => ?_
  obtain ⟨rfl, rfl⟩ := h₁
  have nS : s.heap.objs.size ∉ [z, TI, TO, p, q] := fun hc => Nat.lt_irrefl _ (low _ hc)
  have freeS : H s.heap.objs.size = none := I.hok.fresh (Nat.le_refl _)
  have zS : s.heap.objs.size ≠ z := fun e => nS (by simp [e])
  have gS : (s.heap.push { cls := .type "list", data := .seq #[] }).get? s.heap.objs.size = some { cls := .type "list", data := .seq #[] } := Heap.get?_push_size _ rfl
  have I1 : Inv X pins σ (upd H s.heap.objs.size (.lst [])) { s with heap := s.heap.push { cls := .type "list", data := .seq #[] } } := I.lnew (t' := s.toks) (its := []) .nil (Nat.zero_le _)
  refine ⟨⟨_, gS, rfl⟩, PySem.F.args_list_init_2 _ _, ?_⟩
  generalize hS : s.heap.objs.size = S at nS freeS zS gS I1 ⊢
  have mv : ∀ {h k : Heap}, (∀ c o, c ≠ S → h.get? c = some o → k.get? c = some o) → ∀ c ∈ [z, TI, TO, p, q], ∀ o, h.get? c = some o → k.get? c = some o := fun g c hc o e => g c o (fun n => nS (n ▸ hc)) e
  have at1 : ZAt (s.heap.push { cls := .type "list", data := .seq #[] }) (upd H S (.lst [])) z TI TO p q a b 0 := at0.move (fun c hc o e => Heap.get?_push_of_some _ e) fun T us h => by rw [upd_ne (ne_of_none h freeS)]; exact h
  have gz1 : IsZip (s.heap.push { cls := .type "list", data := .seq #[] }) z TI TO .none := Heap.get?_push_of_some _ gz
  have upS : ∀ {h : Heap} {f : Array Value → Array Value} (c : Addr) (o : Obj), c ≠ S → h.get? c = some o → (h.update S (Obj.mapSeq f)).get? c = some o := fun c o n e => (Heap.get?_update_other _ _ (Ne.symm n)).trans e
  have tk : ∀ {H1 H2 : Hp} {ws : List V}, (∀ c, c ≠ S → H1 c = H2 c) → H1 S = some (.lst ws) → ∀ T us, H1 T = some (.tup us) → H2 T = some (.tup us) := fun e h T us g => by
    rw [← e T (fun n => by rw [n, h] at g; cases g)]
    exact g
  have e12 : ∀ {o o2 : HO} (c : Addr), c ≠ S → upd H S o c = upd H S o2 c := fun c n => by rw [upd_ne n, upd_ne n]
  have uu : ∀ {o o2 : HO}, upd (upd H S o) S o2 = upd H S o2 := fun {o o2} => by
    funext c
    by_cases n : c = S
    · rw [n, upd_same, upd_same]
    · rw [upd_ne n, upd_ne n, upd_ne n]
  show wpAny _ _ (do let old ← Builtin.List.listItems (.ref S); Builtin.List.listUpdate (.ref S) (fun _ => #[]); letGo old.toList.reverse; Builtin.List.listExtendWith (.ref S) (.ref z) .none) _ _ _
  refine wpAny_bind ?_
  unfold Builtin.List.listItems
  refine wpAny_bind (wpAny_seqItems gS rfl (wpAny_pure ?_))
  show wpAny _ _ (updateSeq S (fun _ => #[]) >>= fun _ => letGo (#[] : Array Value).toList.reverse >>= fun _ => Builtin.List.listExtendWith (.ref S) (.ref z) .none) _ _ _
  refine wpAny_bind (wpAny_updateSeq gS rfl ?_)
  have gS2 := Heap.get?_update_self (Obj.mapSeq (fun _ => (#[] : Array Value))) gS rfl
  have I2 := I1.lset (t' := s.toks) (f := fun _ => (#[] : Array Value)) (its := []) (its' := []) (ys := []) upd_same gS rfl .nil (Nat.zero_le _)
  rw [uu] at I2
  have at2 := at1.move (k := (s.heap.push { cls := .type "list", data := .seq #[] }).update S (Obj.mapSeq (fun _ => (#[] : Array Value)))) (mv (fun c o n e => upS c o n e)) fun T us h => h
  have gz2 : IsZip ((s.heap.push { cls := .type "list", data := .seq #[] }).update S (Obj.mapSeq (fun _ => (#[] : Array Value)))) z TI TO .none := upS z _ zS.symm gz1
  generalize (s.heap.push { cls := .type "list", data := .seq #[] }).update S (Obj.mapSeq (fun _ => (#[] : Array Value))) = h2 at gS2 I2 at2 gz2 ⊢
  refine wpAny_bind (wpAny_letGo ?_)
  unfold Builtin.List.listExtendWith
  have ty : ∀ {h : Heap} {t : Nat}, IsZip h z TI TO .none → ({ s with heap := h, toks := t } : Shared).TypeIs (.ref z) "zip" := fun g => ⟨_, g, rfl⟩
  refine wpAny_bind (wpAny_typeOf (T := "zip") (ty gz2) ?_)
  have f1 : Builtin.List.listSameRef (.ref S) (.ref z) = false := by simp [Builtin.List.listSameRef, zS]
  have f2 : (Value.type "zip" == Value.type "list") = false := by decide
  have f3 : (Value.type "zip" == Value.type "tuple") = false := by decide
  simp only [f1, f2, f3, Bool.or_false, Bool.false_eq_true, if_false]
  refine wpAny_bind (wpAny_pyIter_zip gz2 ?_)
  refine wpAny_bind (wpAny_holding ?_)
  unfold Builtin.List.listLengthHint
  refine wpAny_bind (wpAny_specialOf (ty gz2) nolen_zip ?_)
  show wpAny _ _ (specialOf (Value.ref z) (Str.ofString "__length_hint__") >>= _) _ _ _
  refine wpAny_bind (wpAny_specialOf (ty gz2) nohint_zip ?_)
  refine wpAny_pure ?_
  show wpAny _ _ (rule "list.extend.makes-room" >>= fun _ => Builtin.List.listTouch (.ref S) >>= fun _ => again (.builtin "list.extend.loop" ⟨[.ref S, .ref z, .none], []⟩)) _ _ _
  refine wpAny_bind (wpAny_rule ?_)
  refine wpAny_bind ?_
  show wpAny _ _ (updateSeq S (·.push .none) >>= fun _ => updateSeq S (·.pop)) _ _ _
  refine wpAny_bind (wpAny_updateSeq gS2 rfl ?_)
  have gS3 := Heap.get?_update_self (Obj.mapSeq (·.push Value.none)) gS2 rfl
  have I3 := I2.lset (t' := s.toks) (f := (·.push Value.none)) (its := []) (its' := [.none]) (ys := [V.non]) upd_same gS2 rfl (.cons rfl .nil) (by show 1 ≤ sizeLine; exact Nat.le_of_lt (small1000 (by decide)))
  rw [uu] at I3
  have at3 := at2.move (k := h2.update S (Obj.mapSeq (·.push Value.none))) (H2 := upd H S (.lst [V.non])) (mv (fun c o n e => upS c o n e)) (tk (fun c n => e12 c n) upd_same)
  generalize h2.update S (Obj.mapSeq (·.push Value.none)) = h3 at gS3 I3 at3 ⊢
  refine wpAny_updateSeq (hz := by seq_fits) gS3 rfl ?_
  have gS4 := Heap.get?_update_self (Obj.mapSeq (·.pop)) gS3 rfl
  have I4 := I3.lset (t' := s.toks) (f := (·.pop)) (its := [.none]) (its' := []) (ys := []) upd_same gS3 rfl .nil (Nat.zero_le _)
  rw [uu] at I4
  have at4 := at3.move (k := h3.update S (Obj.mapSeq (·.pop))) (H2 := upd H S (.lst [])) (mv (fun c o n e => upS c o n e)) (tk (fun c n => e12 c n) upd_same)
  have sq : ∀ {c : Addr} {us : List V}, SqT X.K H c us → SqT X.K (upd H S (.lst [])) c us := fun {c us} h => by
    rcases h with (h | ⟨ob, h⟩) | h
    · exact .inl (.inl (by rw [upd_ne (ne_of_none h freeS)]; exact h))
    · exact .inl (.inr ⟨ob, by rw [upd_ne (ne_of_none h freeS)]; exact h⟩)
    · exact .inr h
  refine wpAny_pure ⟨plainId_quiet PySem.F.plain_extend_loop _, ?_⟩
  refine z_loop (B := B.in1) (H0 := H) (S := S) (res := .none) (show B.in1.handled = none from calm) D few eq (fun ts H' s' J sm hSl lt pr => ?_) ys.length 0 [] (upd H S (.lst [])) _ rfl (Nat.zero_le _) I4 (fun c o n h => by rw [upd_ne n]; exact h) upd_same rfl (fun j t x y h => by cases h) (fun c hc => fp_upd (fun n => nS (n ▸ hc)) (fp c hc)) at4 (sq ha) (sq hb)
  exact ⟨rfl, go S ts H' s' J (fun c o h => sm c o (fun n => by rw [n, freeS] at h; cases h) h) freeS hSl lt pr⟩
end
def tListZip (K : PySem.W.Frag) (ta : TA) : TE := fun σ H Q => ta σ H fun ws H1 => ∃ a b xs ys, ws = [.ref a, .ref b] ∧ SqT K H1 a xs ∧ SqT K H1 b ys ∧ xs.length ≤ 1000 ∧ (ys.length + 1 = xs.length ∨ ys.length = xs.length) ∧ ∀ (S : Addr) (ts : List Addr) (H' : Hp), Same H1 H' → H1 S = none → H' S = some (.lst (ts.map V.ref)) → ts.length = ys.length → Pairs H' xs ys ts → Q (.ref S) H'
theorem pe_listZip {X : Cx} {e e2 : Expr} {ta : TA} {p pz pos posz : Pos} (hc : X.calm = true) (gl : Gl X "list") (ml : X.mg "list" = none) (gz : Gl X "zip") (mz : X.mg "zip" = none) (ha : PA X [e, e2] ta)
    (st : starEach [.Call (.Name "zip" pz) [e, e2] [] posz] X.env = (false, eval (.Call (.Name "zip" pz) [e, e2] [] posz) X.env) :: starEach [] X.env := by rfl) (st2 : starEach [e, e2] X.env = (false, eval e X.env) :: starEach [e2] X.env := by rfl) (pl : (backTo posz (starEach [e2] X.env)).any (·.1) = false := by rfl) :
    PE X (.Call (.Name "list" p) [.Call (.Name "zip" pz) [e, e2] [] posz] [] pos) (tListZip X.K ta) := by
  refine ⟨fun pins s σ H Q I h => ?_⟩
  refine wpAny_Call_Name_kw (ld_blt I gl ml (show bootBuiltins "list" = some (.type "list") by decide +kernel) ?_)
  refine PyProof.Rows.callWith_type1 ?_ st rfl
  rw [st]
  show wpAny _ _ (spliced ((false, eval (.Call (.Name "zip" pz) [e, e2] [] posz) X.env) :: backTo pos (starEach [] X.env))) _ _ s
  refine Calls.spliced_cons ?_
  refine Call_ (ld_blt I gz mz PyProof.Rows.boot_zip (PyProof.Rows.callWith_type1 (thn (ha.run posz pins s σ H _ I h) fun us s1 ⟨ws, H1, I1, r1, q1⟩ => ?_) st2 pl))
  obtain ⟨a, b, xs, ys, ex, ta, tb, few, eq, go⟩ := q1
  subst ex
  cases r1 with
  | cons r rr =>
    cases rr with
    | cons r' rr =>
      cases rr
      cases r
      cases r'
      obtain ⟨its, rv, ga, _⟩ := I1.tuple ta
      obtain ⟨its2, rv2, gb, _⟩ := I1.tuple tb
      obtain ⟨o1, ho1, _⟩ := id ga
      obtain ⟨o2, ho2, _⟩ := id gb
      refine RZ.call_zipT (show s1.heap.IsTuple a its.toArray from ga) (show s1.heap.IsTuple b its2.toArray from gb) fun k kz kTI kTO k1 k2 ksz kk => ?_
      have I2 : Inv X pins σ H1 { s1 with heap := k } := I1.kept (t' := s1.toks) kk
      refine Calls.spliced_nil ?_
      have mem : ∀ c, c ∈ [s1.heap.objs.size + 4, s1.heap.objs.size + 2, s1.heap.objs.size + 3, s1.heap.objs.size, s1.heap.objs.size + 1] → s1.heap.objs.size ≤ c ∧ c < s1.heap.objs.size + 5 := fun c hm => by
        have e' : c = s1.heap.objs.size + 4 ∨ c = s1.heap.objs.size + 2 ∨ c = s1.heap.objs.size + 3 ∨ c = s1.heap.objs.size ∨ c = s1.heap.objs.size + 1 := by simpa using hm
        omega
      refine z_call (I1.ok.hd hc) (PySem.W.ktu_apart s1.heap.objs.size a b (Heap.lt_size ho1) (Heap.lt_size ho2)) few eq I2 (fun c hm => I1.fpOk (mem c hm).1 (I1.hok.fresh (mem c hm).1)) (fun c hm => by show c < k.objs.size; rw [ksz]; exact (mem c hm).2) kz ⟨kTI, ⟨_, _, kTO⟩, k1, k2, .inl kz⟩ ta tb fun S ts H' s' J sm nS hS lt pr => ?_
      exact ⟨.ref S, H', J, rfl, go S ts H' sm nS hS lt pr⟩
end Own

/-! list(zip(t, u)), t and u lists or tuples, in any mix: each pair stays out, in the list. -/
namespace OwnM
open PySem PySem.Spec PyProof.Rows L2

/-- an iterator over a tuple (k) or a list -/
def IterK (k : Bool) (h : Heap) (p a : Addr) (i : Nat) : Prop := match k with
  | true => h.IsTupleIter p a i
  | false => h.IsListIter p a i
def ObjK (k : Bool) (h : Heap) (a : Addr) (us : Array Value) : Prop := match k with
  | true => h.IsTuple a us
  | false => h.IsList a us
def SeqK (k : Bool) (K : PySem.W.Frag) (H : Hp) (a : Addr) (xs : List V) : Prop := match k with
  | true => SqT K H a xs
  | false => SqL K H a xs
theorem IterK.extBut {k : Bool} {h h' : Heap} {p a b : Addr} {i : Nat} (x : IterK k h p a i) (e : Heap.ExtBut b h h') (n : p ≠ b) : IterK k h' p a i := by
  cases k
  · exact Heap.IsListIter.extBut x e n
  · exact Heap.IsTupleIter.extBut x e n
theorem IterK.at {k : Bool} {h h' : Heap} {p a : Addr} {i : Nat} (x : IterK k h p a i) (e : ∀ o, h.get? p = some o → h'.get? p = some o) : IterK k h' p a i := by
  cases k
  · exact Heap.IsListIter.at x e
  · exact Heap.IsTupleIter.at x e
theorem IterK.lt {k : Bool} {h : Heap} {p a : Addr} {i : Nat} (x : IterK k h p a i) : p < h.objs.size := by
  cases k
  · obtain ⟨_, g, _⟩ := (show h.IsListIter p a i from x)
    exact Heap.lt_size g
  · obtain ⟨_, g, _⟩ := (show h.IsTupleIter p a i from x)
    exact Heap.lt_size g
theorem ObjK.extBut {k : Bool} {h h' : Heap} {a b : Addr} {us : Array Value} (x : ObjK k h a us) (e : Heap.ExtBut b h h') (n : a ≠ b) : ObjK k h' a us := by
  cases k
  · exact Heap.IsList.extBut x e n
  · exact Heap.IsTuple.extBut x e n
theorem ObjK.lt {k : Bool} {h : Heap} {a : Addr} {us : Array Value} (x : ObjK k h a us) : a < h.objs.size := by
  cases k
  · obtain ⟨_, g, _⟩ := (show h.IsList a us from x)
    exact Heap.lt_size g
  · obtain ⟨_, g, _⟩ := (show h.IsTuple a us from x)
    exact Heap.lt_size g
section
variable {prog : Program} {w : World} {A : Around} {E : Value → Shared → Prop} {s : Shared}
theorem nextK_item {k : Bool} {it l : Addr} {i : Nat} {us : Array Value} {x : Value} {Q : Value → Shared → Prop} (g : IterK k s.heap it l i) (gl : ObjK k s.heap l us) (ex : us[i]? = some x)
    (go : ∀ h', IterK k h' it l (i + 1) → Heap.SameBut it s.heap h' → Q x { s with heap := h' }) : wpAny (model prog w) A (Builtin.SmallTypes.nextOf (.ref it)) Q E s := by
  cases k
  · exact PySem.wpAny_nextOf_list_item g gl ex go
  · exact RZ.nextOf_tuple_item g gl ex go
theorem nextK_end {k : Bool} {it l : Addr} {i : Nat} {us : Array Value} {Q : Value → Shared → Prop} (calm : A.handled = none) (g : IterK k s.heap it l i) (gl : ObjK k s.heap l us) (ex : us[i]? = none)
    (go : ∀ h' e, Heap.ExtBut it s.heap h' → (∃ o, h'.get? e = some o ∧ o.cls = .type "StopIteration") → E (.ref e) { s with heap := h' }) : wpAny (model prog w) A (Builtin.SmallTypes.nextOf (.ref it)) Q E s := by
  cases k
  · exact PySem.wpAny_nextOf_list_end calm g gl ex go
  · exact RZ.nextOf_tuple_end calm g gl ex go
theorem drawsK {k : Bool} {it l : Addr} (calm : A.handled = none) (n : l ≠ it) (us : Array Value) : Draws prog w A it [it, l] us.size (fun i v => us[i]? = some v) (fun i h => IterK k h it l i ∧ ObjK k h l us) := by
  cases k
  · exact Draws.list calm it l n us
  · exact Draws.tuple calm it l n us
def itObj (k : Bool) (l : Addr) : Obj := match k with
  | true => { cls := .type "tuple_iterator", data := .fields #[.ref l, .int 0 0] }
  | false => { cls := .type "list_iterator", data := .fields #[.ref l, .int 0 0] }
theorem beginsK {k : Bool} (l : Addr) (us : Array Value) : Begins (.ref l) (itObj k l) (fun h => ObjK k h l us) := by
  cases k
  · exact begins_list l us
  · exact begins_tuple l us
theorem IterK.begin {k : Bool} {h : Heap} {it l : Addr} (g : h.get? it = some (itObj k l)) : IterK k h it l 0 := by
  cases k
  · exact ⟨_, g, rfl, rfl⟩
  · exact ⟨_, g, rfl, rfl⟩
end
theorem sepK {z TI TO p q a b : Addr} (D : ZipApart z TI TO p q a b) (pb : p ≠ b) (qa : q ≠ a) : ZipSep2 z TI TO p q [p, a] [q, b] where
  TIz := D.TIz
  TOz := D.TOz
  TITO := D.TITO
  TIi1 := D.TIi1
  mem1 := by simp
  zf1 := by simp [D.i1z.symm, D.l1z.symm]
  Tf1 := by simp [D.TOi1, D.l1TO.symm]
  TIi2 := D.TIi2
  mem2 := by simp
  zf2 := by simp [D.i2z.symm, D.l2z.symm]
  Tf2 := by simp [D.TOi2, D.l2TO.symm]
  sep1_2 := by simp [D.i12, pb]
  sep2_1 := by simp [D.i12.symm, qa]
section
variable {prog : Program} {w : World} {A : Around} {E : Value → Shared → Prop} {s : Shared} {ka kb : Bool}
/-- the next pair of a zip over two tuples whose pair T of before is still out -/
theorem zipT_more {z TI TO T p q a b : Addr} {f : Bool} {oT : Obj} {m n : Nat} {us vs : Array Value} {x y : Value} {Q : Value → Shared → Prop} (D : ZipApart z TI TO p q a b) (gz : PySem.IsZipHeld s.heap z TI TO T f) (gT : s.heap.get? T = some oT) (gI : IsPair s.heap TI (.ref p) (.ref q))
    (gp : IterK ka s.heap p a m) (gq : IterK kb s.heap q b n) (ga : ObjK ka s.heap a us) (gb : ObjK kb s.heap b vs) (ex : us[m]? = some x) (ey : vs[n]? = some y)
    (go : ∀ k, PySem.IsZipHeld k z TI TO T true → IterK ka k p a (m + 1) → IterK kb k q b (n + 1) → IsPair k s.heap.objs.size x y → k.objs.size = s.heap.objs.size + 1 → (∀ c o, c ≠ z → c ≠ p → c ≠ q → s.heap.get? c = some o → k.get? c = some o) → Q (.ref s.heap.objs.size) { s with heap := k }) :
    wpAny (model prog w) A (Builtin.«zip.__next__» ⟨[.ref z], []⟩) (fun r t => ∃ v, r = .done (.ret v) ∧ Q v t) E s := by
  show wpAny _ _ (field (.ref z) 2 >>= _) _ _ _
  refine wpAny_bind (wpAny_field gz rfl (x := .bool false) rfl ?_)
  show wpAny _ _ (field (.ref z) 3 >>= _) _ _ _
  refine wpAny_bind (wpAny_field gz rfl (x := .ref TI) rfl ?_)
  refine wpAny_bind (wpAny_seqItems gI rfl ?_)
  show wpAny _ _ (Builtin.SmallTypes.ownedTupleIsFree (.ref z) >>= _) _ _ _
  refine wpAny_bind (PySem.wpAny_tupleHeld_zip gz gT fun k1 z1 e1 => ?_)
  simp only [Bool.false_eq_true, if_false]
  refine wpAny_bind ?_
  rw [← Array.forIn_toList]
  simp only [List.forIn_cons, List.forIn_nil]
  refine wpAny_bind (wpAny_bind (wpAny_holding ?_))
  show wpAny _ _ (Builtin.SmallTypes.nextOf (.ref p) >>= _) _ _ _
  refine wpAny_bind (nextK_item (s := { s with heap := k1 }) (gp.extBut e1.extBut D.i1z) (ga.extBut e1.extBut D.l1z) ex fun k2 p2 e2 => wpAny_pure ?_)
  refine wpAny_pure ?_
  refine wpAny_bind (wpAny_bind (wpAny_holding ?_))
  show wpAny _ _ (Builtin.SmallTypes.nextOf (.ref q) >>= _) _ _ _
  refine wpAny_bind (nextK_item (s := { s with heap := k2 }) ((gq.extBut e1.extBut D.i2z).extBut e2.extBut D.i12.symm) ((gb.extBut e1.extBut D.l2z).extBut e2.extBut D.l2i1) ey fun k3 q3 e3 => wpAny_pure ?_)
  refine wpAny_pure (wpAny_pure ?_)
  show wpAny _ _ (newTuple [x, y] >>= _) _ _ _
  refine wpAny_bind (wpAny_newTuple ?_)
  have size3 : k3.objs.size = s.heap.objs.size := by rw [e3.1, e2.1, e1.1]
  have z3 : PySem.IsZipHeld k3 z TI TO T true := e3.extBut _ _ D.i2z.symm (e2.extBut _ _ D.i1z.symm z1)
  have rest : ∀ c o, c ≠ z → c ≠ p → c ≠ q → s.heap.get? c = some o → k3.get? c = some o := fun c o n1 n2 n3 e => e3.extBut _ _ n3 (e2.extBut _ _ n2 (e1.extBut _ _ n1 e))
  have p3 : IterK ka k3 p a (m + 1) := p2.extBut e3.extBut D.i12
  refine wpAny_pure ⟨_, rfl, ?_⟩
  show Q (.ref k3.objs.size) _
  have new : IsPair (k3.push { cls := .type "tuple", data := .seq #[x, y] }) k3.objs.size x y := Heap.get?_push_size _ rfl
  have more : (k3.push { cls := .type "tuple", data := .seq #[x, y] }).objs.size = k3.objs.size + 1 := Heap.size_push ..
  rw [size3] at new more ⊢
  exact go _ (Heap.get?_push_of_some _ z3) (p3.at fun o e => Heap.get?_push_of_some _ e) (q3.at fun o e => Heap.get?_push_of_some _ e) new more fun c o n1 n2 n3 e => Heap.get?_push_of_some _ (rest c o n1 n2 n3 e)
theorem zipT_over {z TI TO T p q a b : Addr} {f : Bool} {oT : Obj} {m n : Nat} {us vs : Array Value} {Q : Fin → Shared → Prop} (calm : A.handled = none) (D : ZipApart z TI TO p q a b) (gz : PySem.IsZipHeld s.heap z TI TO T f) (gT : s.heap.get? T = some oT) (gI : IsPair s.heap TI (.ref p) (.ref q))
    (gp : IterK ka s.heap p a m) (gq : IterK kb s.heap q b n) (ga : ObjK ka s.heap a us) (gb : ObjK kb s.heap b vs) (out : us[m]? = none ∨ vs[n]? = none)
    (go : ∀ k e, (∀ c o, c ≠ z → c ≠ p → c ≠ q → s.heap.get? c = some o → k.get? c = some o) → (∃ o, k.get? e = some o ∧ o.cls = .type "StopIteration") → E (.ref e) { s with heap := k }) :
    wpAny (model prog w) A (Builtin.«zip.__next__» ⟨[.ref z], []⟩) Q E s := by
  show wpAny _ _ (field (.ref z) 2 >>= _) _ _ _
  refine wpAny_bind (wpAny_field gz rfl (x := .bool false) rfl ?_)
  show wpAny _ _ (field (.ref z) 3 >>= _) _ _ _
  refine wpAny_bind (wpAny_field gz rfl (x := .ref TI) rfl ?_)
  refine wpAny_bind (wpAny_seqItems gI rfl ?_)
  show wpAny _ _ (Builtin.SmallTypes.ownedTupleIsFree (.ref z) >>= _) _ _ _
  refine wpAny_bind (PySem.wpAny_tupleHeld_zip gz gT fun k1 z1 e1 => ?_)
  simp only [Bool.false_eq_true, if_false]
  refine wpAny_bind ?_
  rw [← Array.forIn_toList]
  simp only [List.forIn_cons, List.forIn_nil]
  refine wpAny_bind (wpAny_bind (wpAny_holding ?_))
  show wpAny _ _ (Builtin.SmallTypes.nextOf (.ref p) >>= _) _ _ _
  cases ex : us[m]? with
  | none =>
    refine wpAny_bind (nextK_end (s := { s with heap := k1 }) calm (gp.extBut e1.extBut D.i1z) (ga.extBut e1.extBut D.l1z) ex fun k2 e e2 he => ?_)
    exact go k2 e (fun c o n1 n2 _ h => e2 _ _ n2 (e1.extBut _ _ n1 h)) he
  | some x =>
    have ey : vs[n]? = none := out.resolve_left fun h => by rw [ex] at h; cases h
    refine wpAny_bind (nextK_item (s := { s with heap := k1 }) (gp.extBut e1.extBut D.i1z) (ga.extBut e1.extBut D.l1z) ex fun k2 p2 e2 => wpAny_pure ?_)
    refine wpAny_pure ?_
    refine wpAny_bind (wpAny_bind (wpAny_holding ?_))
    show wpAny _ _ (Builtin.SmallTypes.nextOf (.ref q) >>= _) _ _ _
    refine wpAny_bind (nextK_end (s := { s with heap := k2 }) calm ((gq.extBut e1.extBut D.i2z).extBut e2.extBut D.i12.symm) ((gb.extBut e1.extBut D.l2z).extBut e2.extBut D.l2i1) ey fun k3 e e3 he => ?_)
    exact go k3 e (fun c o n1 n2 n3 h => e3 _ _ n3 (e2.extBut _ _ n2 (e1.extBut _ _ n1 h))) he
theorem nextT_more {z TI TO T p q a b : Addr} {f : Bool} {oT : Obj} {m n : Nat} {us vs : Array Value} {x y : Value} {Q : Option Value → Shared → Prop} (D : ZipApart z TI TO p q a b) (gz : PySem.IsZipHeld s.heap z TI TO T f) (gT : s.heap.get? T = some oT) (gI : IsPair s.heap TI (.ref p) (.ref q))
    (gp : IterK ka s.heap p a m) (gq : IterK kb s.heap q b n) (ga : ObjK ka s.heap a us) (gb : ObjK kb s.heap b vs) (ex : us[m]? = some x) (ey : vs[n]? = some y)
    (go : ∀ k, PySem.IsZipHeld k z TI TO T true → IterK ka k p a (m + 1) → IterK kb k q b (n + 1) → IsPair k s.heap.objs.size x y → k.objs.size = s.heap.objs.size + 1 → (∀ c o, c ≠ z → c ≠ p → c ≠ q → s.heap.get? c = some o → k.get? c = some o) → Q (some (.ref s.heap.objs.size)) { s with heap := k }) :
    wpAny (model prog w) A (pyNext (.ref z)) Q E s := by
  have ty : s.TypeIs (.ref z) "zip" := ⟨_, gz, rfl⟩
  unfold pyNext
  refine wpAny_bind (wpAny_attempt (wpAny_callSpecial?_slot (name := Str.ofString "__next__") ty PySem.F.slot_zip_next (wpAny_call_entry PySem.F.slot_zip_next ty PySem.F.entry_zip_next ?_ (PySem.F.args_zip_next_1 _))))
  exact zipT_more D gz gT gI gp gq ga gb ex ey fun k b1 b2 b3 b4 b5 b6 => wpAny_pure (go k b1 b2 b3 b4 b5 b6)
theorem nextT_over {z TI TO T p q a b : Addr} {f : Bool} {oT : Obj} {m n : Nat} {us vs : Array Value} {Q : Option Value → Shared → Prop} (calm : A.handled = none) (D : ZipApart z TI TO p q a b) (gz : PySem.IsZipHeld s.heap z TI TO T f) (gT : s.heap.get? T = some oT) (gI : IsPair s.heap TI (.ref p) (.ref q))
    (gp : IterK ka s.heap p a m) (gq : IterK kb s.heap q b n) (ga : ObjK ka s.heap a us) (gb : ObjK kb s.heap b vs) (out : us[m]? = none ∨ vs[n]? = none)
    (go : ∀ k, (∀ c o, c ≠ z → c ≠ p → c ≠ q → s.heap.get? c = some o → k.get? c = some o) → Q none { s with heap := k }) : wpAny (model prog w) A (pyNext (.ref z)) Q E s := by
  have ty : s.TypeIs (.ref z) "zip" := ⟨_, gz, rfl⟩
  unfold pyNext
  refine wpAny_bind (wpAny_attempt (wpAny_callSpecial?_slot (name := Str.ofString "__next__") ty PySem.F.slot_zip_next (wpAny_call_entry PySem.F.slot_zip_next ty PySem.F.entry_zip_next (zipT_over calm D gz gT gI gp gq ga gb out fun k e hk he => ?_) (PySem.F.args_zip_next_1 _))))
  obtain ⟨o, ho, hc⟩ := he
  refine wpAny_bind (wpAny_isInstance (T := "StopIteration") (b := true) ⟨o, ho, hc⟩ isSubtype_stop ?_)
  exact wpAny_pure (go _ hk)
end
/-- where a zip over the tuples a and b stands, i pairs told -/
structure ZAt (ka kb : Bool) (h : Heap) (H : Hp) (z TI TO p q a b : Addr) (i : Nat) : Prop where
  both : IsPair h TI (.ref p) (.ref q)
  last : ∃ x y, IsPair h TO x y
  itA : IterK ka h p a i
  itB : IterK kb h q b i
  zip : IsZip h z TI TO .none ∨ ∃ T f ts, PySem.IsZipHeld h z TI TO T f ∧ H T = some (.tup ts)
theorem ZAt.move {ka kb : Bool} {h k : Heap} {H H2 : Hp} {z TI TO p q a b : Addr} {i : Nat} (g : ZAt ka kb h H z TI TO p q a b i) (e : ∀ c ∈ [z, TI, TO, p, q], ∀ o, h.get? c = some o → k.get? c = some o) (t : ∀ T ts, H T = some (.tup ts) → H2 T = some (.tup ts)) : ZAt ka kb k H2 z TI TO p q a b i := by
  obtain ⟨x, y, l⟩ := g.last
  refine ⟨e TI (by simp) _ g.both, ⟨x, y, e TO (by simp) _ l⟩, g.itA.at fun o u => e p (by simp) o u, g.itB.at fun o u => e q (by simp) o u, ?_⟩
  rcases g.zip with u | ⟨T, f, ts, u, v⟩
  · exact .inl (e z (by simp) _ u)
  · exact .inr ⟨T, f, ts, e z (by simp) _ u, t _ _ v⟩
/-- the pairs told so far -/
def Pairs (H : Hp) (xs ys : List V) (ts : List Addr) : Prop := ∀ (j : Nat) (t : Addr) (x y : V), ts[j]? = some t → xs[j]? = some x → ys[j]? = some y → H t = some (.tup [x, y])
section
variable {X : Cx} {pins : List (Addr × Obj)} {σ : L2.St} {ka kb : Bool}
theorem seqK_read {k : Bool} {H : Hp} {s : Shared} {a : Addr} {xs : List V} (I : Inv X pins σ H s) (h : SeqK k X.K H a xs) : ∃ its, Vals xs its ∧ ObjK k s.heap a its.toArray := by
  cases k
  · obtain ⟨its, rv, g, _⟩ := I.list h
    exact ⟨its, rv, g.isList⟩
  · obtain ⟨its, rv, g, _⟩ := I.tuple h
    exact ⟨its, rv, g⟩
/-- what stands of a list or tuple while all but S stays -/
theorem seqK_keep {k : Bool} {K : PySem.W.Frag} {H0 H : Hp} {S a : Addr} {xs : List V} (n : H0 S = none) (sm : ∀ c o, c ≠ S → H0 c = some o → H c = some o) (h : SeqK k K H0 a xs) : SeqK k K H a xs := by
  have st : ∀ o, H0 a = some o → H a = some o := fun o e => sm a o (fun z => by rw [z, n] at e; cases e) e
  cases k
  · rcases h with (h | ⟨o, h⟩) | h
    · exact .inl (.inl (st _ h))
    · exact .inl (.inr ⟨o, st _ h⟩)
    · exact .inr h
  · rcases h with (h | ⟨o, h⟩) | h
    · exact .inl (.inl (st _ h))
    · exact .inl (.inr ⟨o, st _ h⟩)
    · exact .inr h
theorem fp_upd {H : Hp} {c d : Addr} {o : HO} (n : c ≠ d) (f : FpOk X pins H c) : FpOk X pins (upd H d o) c := by
  obtain ⟨f0, f1⟩ := f
  exact ⟨by rw [upd_ne n]; exact f0, f1⟩
/-- one more pair -/
theorem z_item {B : Around} {E : Value → Shared → Prop} {s : Shared} {H : Hp} {z TI TO p q a b : Addr} {i : Nat} {xs ys : List V} {x y : V} {Q : Option Value → Shared → Prop} (calm : B.handled = none) (D : ZipApart z TI TO p q a b) (pb' : p ≠ b) (qa' : q ≠ a) (I : Inv X pins σ H s) (fp : ∀ c ∈ [z, TI, TO, p, q], FpOk X pins H c)
    (at0 : ZAt ka kb s.heap H z TI TO p q a b i) (ha : SeqK ka X.K H a xs) (hb : SeqK kb X.K H b ys) (ex : xs[i]? = some x) (ey : ys[i]? = some y)
    (go : ∀ (T : Addr) (s' : Shared), H T = none → T ∉ [z, TI, TO, p, q] → Inv X pins σ (upd H T (.tup [x, y])) s' → ZAt ka kb s'.heap (upd H T (.tup [x, y])) z TI TO p q a b (i + 1) → Q (some (.ref T)) s') : wpAny (model X.prog X.w) B (pyNext (.ref z)) Q E s := by
  obtain ⟨its, rv, ga⟩ := seqK_read I ha
  obtain ⟨its2, rv2, gb⟩ := seqK_read I hb
  obtain ⟨u, hu, ru⟩ := rv.get ex
  obtain ⟨u2, hu2, ru2⟩ := rv2.get ey
  obtain ⟨x0, y0, out⟩ := at0.last
  have low : ∀ c ∈ [z, TI, TO, p, q], c < s.heap.objs.size := fun c hc => by
    have e' : c = z ∨ c = TI ∨ c = TO ∨ c = p ∨ c = q := by simpa using hc
    rcases e' with e | e | e | e | e
    · rw [e]
      rcases at0.zip with g | ⟨_, _, _, g, _⟩ <;> exact Heap.lt_size g
    · rw [e]; exact Heap.lt_size at0.both
    · rw [e]; exact Heap.lt_size out
    · rw [e]; exact at0.itA.lt
    · rw [e]; exact at0.itB.lt
  have nT : s.heap.objs.size ∉ [z, TI, TO, p, q] := fun hc => Nat.lt_irrefl _ (low _ hc)
  have freeT : H s.heap.objs.size = none := I.hok.fresh (Nat.le_refl _)
  have obj : ∀ {k : Heap}, IsPair k s.heap.objs.size u u2 → ObjOk X.prog X.w (upd H s.heap.objs.size (.tup [x, y])) k s.heap.objs.size (.tup [x, y]) := fun g => ⟨by show 2 ≤ sizeLine; decide, [u, u2], .cons ru (.cons ru2 .nil), ⟨_, g, rfl, _, rfl⟩⟩
  have keep : ∀ {k : Heap}, (∀ c o, c ≠ z → c ≠ TO → c ≠ p → c ≠ q → s.heap.get? c = some o → k.get? c = some o) → ∀ c o, c ∉ [z, TI, TO, p, q] → s.heap.get? c = some o → k.get? c = some o := fun g c o n e =>
    g c o (fun h => n (by simp [h])) (fun h => n (by simp [h])) (fun h => n (by simp [h])) (fun h => n (by simp [h])) e
  have pa : ObjK ka s.heap a its.toArray := ga
  have pb : ObjK kb s.heap b its2.toArray := gb
  rcases at0.zip with g | ⟨T0, f, ts, g, hT0⟩
  · refine wpAny_pyNext_zipD2_item (i := i) (sepK D pb' qa') (drawsK (k := ka) (A := B.in1) calm D.l1i1 its.toArray) (drawsK (k := kb) (A := B.in1) calm D.l2i2 its2.toArray) g at0.both out ⟨at0.itA, pa⟩ ⟨at0.itB, pb⟩ (by have := rv.get ex; simp; exact (List.getElem?_eq_some_iff.mp hu).1) (by simp; exact (List.getElem?_eq_some_iff.mp hu2).1) fun x1 x2 k tk e1 e2 z' TO' k1 k2 kT ksz kk => ?_
    have ex1 : x1 = u := Option.some.inj (e1.symm.trans (by simpa using hu))
    have ex2 : x2 = u2 := Option.some.inj (e2.symm.trans (by simpa using hu2))
    subst ex1 ex2
    refine go _ _ freeT nT (I.turnedNew (t' := tk) (ch := [z, TI, TO, p, q]) (keep kk) fp (Nat.le_refl _) (obj kT)) ⟨kk _ _ D.TIz D.TITO D.TIi1 D.TIi2 at0.both, ⟨_, _, TO'⟩, k1.1, k2.1, .inr ⟨_, false, [x, y], z', upd_same⟩⟩
  · obtain ⟨_, _, _, ⟨oT, gT, _⟩⟩ := I.hok T0 _ hT0
    have n0 : ∀ c ∈ [z, TI, TO, p, q], T0 ≠ c := fun c hc e => by
      have := (fp c hc).1
      rw [← e, hT0] at this
      cases this
    refine nextT_more D g gT at0.both at0.itA at0.itB pa pb (x := u) (y := u2) (by simpa using hu) (by simpa using hu2) fun k z' k1 k2 kT ksz kk => ?_
    have kk' := keep (k := k) fun c o n1 _ n3 n4 e => kk c o n1 n3 n4 e
    refine go _ _ freeT nT (I.turnedNew (t' := s.toks) (ch := [z, TI, TO, p, q]) kk' fp (Nat.le_refl _) (obj kT)) ⟨kk _ _ D.TIz D.TIi1 D.TIi2 at0.both, ⟨_, _, kk _ _ D.TOz D.TOi1 D.TOi2 out⟩, k1, k2, .inr ⟨T0, true, ts, z', by rw [upd_ne (ne_of_none hT0 freeT)]; exact hT0⟩⟩
theorem z_done {B : Around} {E : Value → Shared → Prop} {s : Shared} {H : Hp} {z TI TO p q a b : Addr} {i : Nat} {xs ys : List V} {Q : Option Value → Shared → Prop} (calm : B.handled = none) (D : ZipApart z TI TO p q a b) (pb' : p ≠ b) (qa' : q ≠ a) (I : Inv X pins σ H s) (fp : ∀ c ∈ [z, TI, TO, p, q], FpOk X pins H c)
    (at0 : ZAt ka kb s.heap H z TI TO p q a b i) (ha : SeqK ka X.K H a xs) (hb : SeqK kb X.K H b ys) (lx : i ≤ xs.length) (ly : i ≤ ys.length) (e : i = xs.length ∨ i = ys.length)
    (go : ∀ (s' : Shared), Inv X pins σ H s' → Q none s') : wpAny (model X.prog X.w) B (pyNext (.ref z)) Q E s := by
  obtain ⟨its, rv, ga⟩ := seqK_read I ha
  obtain ⟨its2, rv2, gb⟩ := seqK_read I hb
  obtain ⟨x0, y0, out⟩ := at0.last
  have l1 := rv.length
  have l2 := rv2.length
  have he : its.toArray[i]? = none ∨ its2.toArray[i]? = none := by
    rcases e with h | h
    · exact .inl (by simp; omega)
    · exact .inr (by simp; omega)
  have pa : ObjK ka s.heap a its.toArray := ga
  have pb : ObjK kb s.heap b its2.toArray := gb
  have keep : ∀ {k : Heap}, (∀ c o, c ≠ z → c ≠ TO → c ≠ p → c ≠ q → s.heap.get? c = some o → k.get? c = some o) → ∀ c o, c ∉ [z, TI, TO, p, q] → s.heap.get? c = some o → k.get? c = some o := fun g c o n e =>
    g c o (fun h => n (by simp [h])) (fun h => n (by simp [h])) (fun h => n (by simp [h])) (fun h => n (by simp [h])) e
  rcases at0.zip with g | ⟨T0, f, ts, g, hT0⟩
  · exact wpAny_pyNext_zipD2_end (i := i) (sepK D pb' qa') (drawsK (k := ka) (A := B.in1) calm D.l1i1 its.toArray) (drawsK (k := kb) (A := B.in1) calm D.l2i2 its2.toArray) g at0.both out ⟨at0.itA, pa⟩ ⟨at0.itB, pb⟩ (by simp; omega) (by simp; omega) (by simp; omega) fun k tk kk => go _ (I.turnedL (t' := tk) (ch := [z, TI, TO, p, q]) (keep kk) fp)
  · obtain ⟨_, _, _, ⟨oT, gT, _⟩⟩ := I.hok T0 _ hT0
    exact nextT_over calm D g gT at0.both at0.itA at0.itB pa pb he fun k kk => go _ (I.turnedL (t' := s.toks) (ch := [z, TI, TO, p, q]) (keep fun c o n1 _ n3 n4 e => kk c o n1 n3 n4 e) fp)
/-- the loop that fills the list S -/
theorem z_loop {B : Around} {H0 : Hp} {S z TI TO p q a b : Addr} {xs ys : List V} {R : Result → Shared → Prop} {res : Value} (calm : B.handled = none) (D : ZipApart z TI TO p q a b) (pb' : p ≠ b) (qa' : q ≠ a) (nS0 : H0 S = none) (ha0 : SeqK ka X.K H0 a xs) (hb0 : SeqK kb X.K H0 b ys) (few : xs.length ≤ 1000) (eq : ys.length + 1 = xs.length ∨ ys.length = xs.length)
    (fin : ∀ (ts : List Addr) (H' : Hp) (s' : Shared), Inv X pins σ H' s' → (∀ c o, c ≠ S → H0 c = some o → H' c = some o) → H' S = some (.lst (ts.map V.ref)) → ts.length = ys.length → Pairs H' xs ys ts → R (.ok (.ret res)) s') :
    ∀ (k i : Nat) (ts : List Addr) (H : Hp) (s : Shared), ys.length - i = k → i ≤ ys.length → Inv X pins σ H s → (∀ c o, c ≠ S → H0 c = some o → H c = some o) → H S = some (.lst (ts.map V.ref)) → ts.length = i → Pairs H xs ys ts → (∀ c ∈ [z, TI, TO, p, q], FpOk X pins H c) → ZAt ka kb s.heap H z TI TO p q a b i → SeqK ka X.K H a xs → SeqK kb X.K H b ys →
      codeAny (model X.prog X.w) B (.builtin "list.extend.loop" ⟨[.ref S, .ref z, res], []⟩) R s := by
  intro k
  induction k with
  | zero =>
    intro i ts H s hk hi I sm hS lt pr fp at0 ha hb
    refine codeAny_builtin PySem.F.entry_extend_loop ?_
    rw [Around.under_plainId PySem.F.plain_extend_loop _]
    show wpAny _ B.in1 (pyNext (.ref z) >>= _) _ _ s
    refine wpAny_bind (z_done (B := B.in1) calm D pb' qa' I fp at0 ha hb (by omega) (by omega) (.inr (by omega)) fun s' I' => ?_)
    exact wpAny_pure (fin ts H s' I' sm hS (by omega) pr)
  | succ k ih =>
    intro i ts H s hk hi I sm hS lt pr fp at0 ha hb
    have il : i < ys.length := by omega
    have il2 : i < xs.length := by omega
    refine codeAny_builtin PySem.F.entry_extend_loop ?_
    rw [Around.under_plainId PySem.F.plain_extend_loop _]
    show wpAny _ B.in1 (pyNext (.ref z) >>= _) _ _ s
    refine wpAny_bind (z_item (B := B.in1) calm D pb' qa' I fp at0 ha hb (List.getElem?_eq_getElem il2) (List.getElem?_eq_getElem il) fun T s' nT fT I1 at1 => ?_)
    have ST : S ≠ T := ne_of_none hS nT
    have hS1 : (upd H T (.tup [xs[i], ys[i]])) S = some (.lst (ts.map V.ref)) := by rw [upd_ne ST]; exact hS
    have nS : S ∉ [z, TI, TO, p, q] := fun hc => by
      have := (fp S hc).1
      rw [hS] at this
      cases this
    obtain ⟨zz, its, n, r, hl, e⟩ := I1.lstM hS1
    have lts : its.length = i := by rw [← hl, List.length_map, lt]
    show wpAny _ B.in1 (updateSeq S (·.push (Value.ref T)) >>= _) _ _ _
    refine wpAny_bind ?_
    have I2 := I1.lset (t' := s'.toks) (f := (·.push (Value.ref T))) (its' := its ++ [.ref T]) (ys := (ts.map V.ref) ++ [V.ref T]) hS1 e (by simp) (r.append (.cons (show L2.RelV (V.ref T) (Value.ref T) from rfl) .nil)) (by rw [List.length_append, List.length_map, List.length_singleton]; exact Nat.le_of_lt (small1000 (by omega)))
    have other : ∀ c o, c ≠ S → (upd H T (.tup [xs[i], ys[i]])) c = some o → (upd (upd H T (.tup [xs[i], ys[i]])) S (.lst (ts.map V.ref ++ [V.ref T]))) c = some o := fun c o n h => by rw [upd_ne n]; exact h
    have tupS : ∀ c u, (upd H T (.tup [xs[i], ys[i]])) c = some (.tup u) → c ≠ S := fun c u h n => by rw [n, hS1] at h; cases h
    have smN : ∀ c o, c ≠ S → H0 c = some o → (upd (upd H T (.tup [xs[i], ys[i]])) S (.lst (ts.map V.ref ++ [V.ref T]))) c = some o := fun c o n h => by
      have h1 := sm c o n h
      rw [upd_ne n, upd_ne (ne_of_none h1 nT)]
      exact h1
    refine wpAny_updateSeq e rfl (wpAny_pure ⟨plainId_quiet PySem.F.plain_extend_loop _, ih (i + 1) (ts ++ [T]) _ _ (by omega) il I2 (fun c o n h => ?_) ?_ (by rw [List.length_append, lt]; rfl) (fun j t x y et ex ey => ?_) (fun c hc => ?_) ?_ (seqK_keep nS0 smN ha0) (seqK_keep nS0 smN hb0)⟩) (by rw [List.size_toArray]; exact Nat.le_of_lt (small1000 (by omega))) (by show (its.toArray.push (Value.ref T)).size ≤ sizeLine + 1; rw [Array.size_push, List.size_toArray]; have := small1000 (n := its.length) (by omega); omega)
    · have h1 := sm c o n h
      rw [upd_ne n, upd_ne (ne_of_none h1 nT)]
      exact h1
    · rw [upd_same, List.map_append]
      rfl
    · rcases Nat.lt_or_ge j ts.length with h | h
      · rw [List.getElem?_append_left h] at et
        have h1 := pr j t x y et ex ey
        have h2 : (upd H T (.tup [xs[i], ys[i]])) t = some (.tup [x, y]) := by rw [upd_ne (ne_of_none h1 nT)]; exact h1
        exact other _ _ (tupS _ _ h2) h2
      · have jl : j < (ts ++ [T]).length := (List.getElem?_eq_some_iff.mp et).1
        rw [List.length_append, List.length_singleton] at jl
        have ej : j = ts.length := by omega
        subst ej
        have e1 : T = t := by simpa using et
        subst e1
        subst lt
        rw [List.getElem?_eq_getElem il2] at ex
        rw [List.getElem?_eq_getElem il] at ey
        cases ex
        cases ey
        exact other _ _ (Ne.symm ST) upd_same
    · exact fp_upd (fun h => nS (h ▸ hc)) (fp_upd (fun h => fT (h ▸ hc)) (fp c hc))
    · refine at1.move (fun c hc o h => ?_) fun t us h => other _ _ (tupS _ _ h) h
      exact (Heap.get?_update_other _ _ (fun h2 : S = c => nS (h2 ▸ hc))).trans h
theorem nolen_zip : typeLookup (.type "zip") "__len__" = pure none := by rw [typeLookup_type, builtinLookup_eq_fast]; kernel_rfl
theorem nohint_zip : typeLookup (.type "zip") "__length_hint__" = pure none := by rw [typeLookup_type, builtinLookup_eq_fast]; kernel_rfl
/-- list(z), z a zip over two tuples of which nothing was told yet -/
theorem z_call {B : Around} {E : Value → Shared → Prop} {s : Shared} {H : Hp} {z TI TO p q a b : Addr} {xs ys : List V} {Q : Value → Shared → Prop} (calm : B.handled = none) (D : ZipApart z TI TO p q a b) (pb' : p ≠ b) (qa' : q ≠ a) (few : xs.length ≤ 1000) (eq : ys.length + 1 = xs.length ∨ ys.length = xs.length)
    (I : Inv X pins σ H s) (fp : ∀ c ∈ [z, TI, TO, p, q], FpOk X pins H c) (low : ∀ c ∈ [z, TI, TO, p, q], c < s.heap.objs.size) (gz : IsZip s.heap z TI TO .none) (at0 : ZAt ka kb s.heap H z TI TO p q a b 0) (ha : SeqK ka X.K H a xs) (hb : SeqK kb X.K H b ys)
    (go : ∀ (S : Addr) (ts : List Addr) (H' : Hp) (s' : Shared), Inv X pins σ H' s' → Same H H' → H S = none → H' S = some (.lst (ts.map V.ref)) → ts.length = ys.length → Pairs H' xs ys ts → Q (.ref S) s') :
    wpAny (model X.prog X.w) B (call (.type "list") [.ref z]) Q E s := by
  refine callType_codes (Q₁ := fun obj s₁ => obj = .ref s.heap.objs.size ∧ s₁ = { s with heap := s.heap.push { cls := .type "list", data := .seq #[] } }) PySem.F.called_list (PySem.F.typeCall_list_1 _) PySem.F.entry_list_init (code_list_new _ ⟨rfl, rfl⟩) fun obj s₁ h₁ => ?_
  obtain ⟨rfl, rfl⟩ := h₁
  have nS : s.heap.objs.size ∉ [z, TI, TO, p, q] := fun hc => Nat.lt_irrefl _ (low _ hc)
  have freeS : H s.heap.objs.size = none := I.hok.fresh (Nat.le_refl _)
  have zS : s.heap.objs.size ≠ z := fun e => nS (by simp [e])
  have gS : (s.heap.push { cls := .type "list", data := .seq #[] }).get? s.heap.objs.size = some { cls := .type "list", data := .seq #[] } := Heap.get?_push_size _ rfl
  have I1 : Inv X pins σ (upd H s.heap.objs.size (.lst [])) { s with heap := s.heap.push { cls := .type "list", data := .seq #[] } } := I.lnew (t' := s.toks) (its := []) .nil (Nat.zero_le _)
  refine ⟨⟨_, gS, rfl⟩, PySem.F.args_list_init_2 _ _, ?_⟩
  generalize hS : s.heap.objs.size = S at nS freeS zS gS I1 ⊢
  have mv : ∀ {h k : Heap}, (∀ c o, c ≠ S → h.get? c = some o → k.get? c = some o) → ∀ c ∈ [z, TI, TO, p, q], ∀ o, h.get? c = some o → k.get? c = some o := fun g c hc o e => g c o (fun n => nS (n ▸ hc)) e
  have at1 : ZAt ka kb (s.heap.push { cls := .type "list", data := .seq #[] }) (upd H S (.lst [])) z TI TO p q a b 0 := at0.move (fun c hc o e => Heap.get?_push_of_some _ e) fun T us h => by rw [upd_ne (ne_of_none h freeS)]; exact h
  have gz1 : IsZip (s.heap.push { cls := .type "list", data := .seq #[] }) z TI TO .none := Heap.get?_push_of_some _ gz
  have upS : ∀ {h : Heap} {f : Array Value → Array Value} (c : Addr) (o : Obj), c ≠ S → h.get? c = some o → (h.update S (Obj.mapSeq f)).get? c = some o := fun c o n e => (Heap.get?_update_other _ _ (Ne.symm n)).trans e
  have tk : ∀ {H1 H2 : Hp} {ws : List V}, (∀ c, c ≠ S → H1 c = H2 c) → H1 S = some (.lst ws) → ∀ T us, H1 T = some (.tup us) → H2 T = some (.tup us) := fun e h T us g => by
    rw [← e T (fun n => by rw [n, h] at g; cases g)]
    exact g
  have e12 : ∀ {o o2 : HO} (c : Addr), c ≠ S → upd H S o c = upd H S o2 c := fun c n => by rw [upd_ne n, upd_ne n]
  have uu : ∀ {o o2 : HO}, upd (upd H S o) S o2 = upd H S o2 := fun {o o2} => by
    funext c
    by_cases n : c = S
    · rw [n, upd_same, upd_same]
    · rw [upd_ne n, upd_ne n, upd_ne n]
  show wpAny _ _ (do let old ← Builtin.List.listItems (.ref S); Builtin.List.listUpdate (.ref S) (fun _ => #[]); letGo old.toList.reverse; Builtin.List.listExtendWith (.ref S) (.ref z) .none) _ _ _
  refine wpAny_bind ?_
  unfold Builtin.List.listItems
  refine wpAny_bind (wpAny_seqItems gS rfl (wpAny_pure ?_))
  show wpAny _ _ (updateSeq S (fun _ => #[]) >>= fun _ => letGo (#[] : Array Value).toList.reverse >>= fun _ => Builtin.List.listExtendWith (.ref S) (.ref z) .none) _ _ _
  refine wpAny_bind (wpAny_updateSeq gS rfl ?_)
  have gS2 := Heap.get?_update_self (Obj.mapSeq (fun _ => (#[] : Array Value))) gS rfl
  have I2 := I1.lset (t' := s.toks) (f := fun _ => (#[] : Array Value)) (its := []) (its' := []) (ys := []) upd_same gS rfl .nil (Nat.zero_le _)
  rw [uu] at I2
  have at2 := at1.move (k := (s.heap.push { cls := .type "list", data := .seq #[] }).update S (Obj.mapSeq (fun _ => (#[] : Array Value)))) (mv (fun c o n e => upS c o n e)) fun T us h => h
  have gz2 : IsZip ((s.heap.push { cls := .type "list", data := .seq #[] }).update S (Obj.mapSeq (fun _ => (#[] : Array Value)))) z TI TO .none := upS z _ zS.symm gz1
  generalize (s.heap.push { cls := .type "list", data := .seq #[] }).update S (Obj.mapSeq (fun _ => (#[] : Array Value))) = h2 at gS2 I2 at2 gz2 ⊢
  refine wpAny_bind (wpAny_letGo ?_)
  unfold Builtin.List.listExtendWith
  have ty : ∀ {h : Heap} {t : Nat}, IsZip h z TI TO .none → ({ s with heap := h, toks := t } : Shared).TypeIs (.ref z) "zip" := fun g => ⟨_, g, rfl⟩
  refine wpAny_bind (wpAny_typeOf (T := "zip") (ty gz2) ?_)
  have f1 : Builtin.List.listSameRef (.ref S) (.ref z) = false := by simp [Builtin.List.listSameRef, zS]
  have f2 : (Value.type "zip" == Value.type "list") = false := by decide
  have f3 : (Value.type "zip" == Value.type "tuple") = false := by decide
  simp only [f1, f2, f3, Bool.or_false, Bool.false_eq_true, if_false]
  refine wpAny_bind (wpAny_pyIter_zip gz2 ?_)
  refine wpAny_bind (wpAny_holding ?_)
  unfold Builtin.List.listLengthHint
  refine wpAny_bind (wpAny_specialOf (ty gz2) nolen_zip ?_)
  show wpAny _ _ (specialOf (Value.ref z) (Str.ofString "__length_hint__") >>= _) _ _ _
  refine wpAny_bind (wpAny_specialOf (ty gz2) nohint_zip ?_)
  refine wpAny_pure ?_
  show wpAny _ _ (rule "list.extend.makes-room" >>= fun _ => Builtin.List.listTouch (.ref S) >>= fun _ => again (.builtin "list.extend.loop" ⟨[.ref S, .ref z, .none], []⟩)) _ _ _
  refine wpAny_bind (wpAny_rule ?_)
  refine wpAny_bind ?_
  show wpAny _ _ (updateSeq S (·.push .none) >>= fun _ => updateSeq S (·.pop)) _ _ _
  refine wpAny_bind (wpAny_updateSeq gS2 rfl ?_)
  have gS3 := Heap.get?_update_self (Obj.mapSeq (·.push Value.none)) gS2 rfl
  have I3 := I2.lset (t' := s.toks) (f := (·.push Value.none)) (its := []) (its' := [.none]) (ys := [V.non]) upd_same gS2 rfl (.cons rfl .nil) (by show 1 ≤ sizeLine; exact Nat.le_of_lt (small1000 (by decide)))
  rw [uu] at I3
  have at3 := at2.move (k := h2.update S (Obj.mapSeq (·.push Value.none))) (H2 := upd H S (.lst [V.non])) (mv (fun c o n e => upS c o n e)) (tk (fun c n => e12 c n) upd_same)
  generalize h2.update S (Obj.mapSeq (·.push Value.none)) = h3 at gS3 I3 at3 ⊢
  refine wpAny_updateSeq (hz := by seq_fits) gS3 rfl ?_
  have gS4 := Heap.get?_update_self (Obj.mapSeq (·.pop)) gS3 rfl
  have I4 := I3.lset (t' := s.toks) (f := (·.pop)) (its := [.none]) (its' := []) (ys := []) upd_same gS3 rfl .nil (Nat.zero_le _)
  rw [uu] at I4
  have at4 := at3.move (k := h3.update S (Obj.mapSeq (·.pop))) (H2 := upd H S (.lst [])) (mv (fun c o n e => upS c o n e)) (tk (fun c n => e12 c n) upd_same)
  have sm4 : ∀ c o, c ≠ S → H c = some o → (upd H S (.lst [])) c = some o := fun c o n e => by rw [upd_ne n]; exact e
  refine wpAny_pure ⟨plainId_quiet PySem.F.plain_extend_loop _, ?_⟩
  refine z_loop (B := B.in1) (H0 := H) (S := S) (res := .none) (show B.in1.handled = none from calm) D pb' qa' freeS ha hb few eq (fun ts H' s' J sm hSl lt pr => ?_) ys.length 0 [] (upd H S (.lst [])) _ rfl (Nat.zero_le _) I4 (fun c o n h => by rw [upd_ne n]; exact h) upd_same rfl (fun j t x y h => by cases h) (fun c hc => fp_upd (fun n => nS (n ▸ hc)) (fp c hc)) at4 (seqK_keep freeS sm4 ha) (seqK_keep freeS sm4 hb)
  exact ⟨rfl, go S ts H' s' J (fun c o h => sm c o (fun n => by rw [n, freeS] at h; cases h) h) freeS hSl lt pr⟩
end
def tListZip (K : PySem.W.Frag) (ta : TA) : TE := fun σ H Q => ta σ H fun ws H1 => ∃ (ka kb : Bool) (a b : Addr) (xs ys : List V), ws = [.ref a, .ref b] ∧ SeqK ka K H1 a xs ∧ SeqK kb K H1 b ys ∧ xs.length ≤ 1000 ∧ (ys.length + 1 = xs.length ∨ ys.length = xs.length) ∧ ∀ (S : Addr) (ts : List Addr) (H' : Hp), Same H1 H' → H1 S = none → H' S = some (.lst (ts.map V.ref)) → ts.length = ys.length → Pairs H' xs ys ts → Q (.ref S) H'
theorem pe_listZip {X : Cx} {e e2 : Expr} {ta : TA} {p pz pos posz : Pos} (hc : X.calm = true) (gl : Gl X "list") (ml : X.mg "list" = none) (gz : Gl X "zip") (mz : X.mg "zip" = none) (ha : PA X [e, e2] ta)
    (st : starEach [.Call (.Name "zip" pz) [e, e2] [] posz] X.env = (false, eval (.Call (.Name "zip" pz) [e, e2] [] posz) X.env) :: starEach [] X.env := by rfl) (st2 : starEach [e, e2] X.env = (false, eval e X.env) :: starEach [e2] X.env := by rfl) (pl : (backTo posz (starEach [e2] X.env)).any (·.1) = false := by rfl) :
    PE X (.Call (.Name "list" p) [.Call (.Name "zip" pz) [e, e2] [] posz] [] pos) (tListZip X.K ta) := by
  refine ⟨fun pins s σ H Q I h => ?_⟩
  refine wpAny_Call_Name_kw (ld_blt I gl ml (show bootBuiltins "list" = some (.type "list") by decide +kernel) ?_)
  refine PyProof.Rows.callWith_type1 ?_ st rfl
  rw [st]
  show wpAny _ _ (spliced ((false, eval (.Call (.Name "zip" pz) [e, e2] [] posz) X.env) :: backTo pos (starEach [] X.env))) _ _ s
  refine Calls.spliced_cons ?_
  refine Call_ (ld_blt I gz mz PyProof.Rows.boot_zip (PyProof.Rows.callWith_type1 (thn (ha.run posz pins s σ H _ I h) fun us s1 ⟨ws, H1, I1, r1, q1⟩ => ?_) st2 pl))
  obtain ⟨ka, kb, a, b, xs, ys, ex, ta, tb, few, eq, go⟩ := q1
  subst ex
  cases r1 with
  | cons r rr =>
    cases rr with
    | cons r' rr =>
      cases rr
      cases r
      cases r'
      obtain ⟨its, rv, ga⟩ := seqK_read I1 ta
      obtain ⟨its2, rv2, gb⟩ := seqK_read I1 tb
      have la := ga.lt
      have lb := gb.lt
      refine zip_begins2 (beginsK (k := ka) a its.toArray) (beginsK (k := kb) b its2.toArray) ga gb fun k kz kTI kTO k1 k2 ksz kk => ?_
      have I2 : Inv X pins σ H1 { s1 with heap := k } := I1.kept (t' := s1.toks) kk
      refine Calls.spliced_nil ?_
      have mem : ∀ c, c ∈ [s1.heap.objs.size + 4, s1.heap.objs.size + 2, s1.heap.objs.size + 3, s1.heap.objs.size, s1.heap.objs.size + 1] → s1.heap.objs.size ≤ c ∧ c < s1.heap.objs.size + 5 := fun c hm => by
        have e' : c = s1.heap.objs.size + 4 ∨ c = s1.heap.objs.size + 2 ∨ c = s1.heap.objs.size + 3 ∨ c = s1.heap.objs.size ∨ c = s1.heap.objs.size + 1 := by simpa using hm
        omega
      refine z_call (I1.ok.hd hc) (PySem.W.ktu_apart s1.heap.objs.size a b la lb) (Nat.ne_of_gt lb) (Nat.ne_of_gt (Nat.lt_succ_of_lt la)) few eq I2 (fun c hm => I1.fpOk (mem c hm).1 (I1.hok.fresh (mem c hm).1)) (fun c hm => by show c < k.objs.size; rw [ksz]; exact (mem c hm).2) kz ⟨kTI, ⟨_, _, kTO⟩, .begin k1, .begin k2, .inl kz⟩ ta tb fun S ts H' s' J sm nS hS lt pr => ?_
      exact ⟨.ref S, H', J, rfl, go S ts H' sm nS hS lt pr⟩
end OwnM

/-! A list comprehension of two fors, over whatever can be walked. -/
namespace Own
open PySem PySem.Spec PyProof.Rows L2
section
variable {J J1 : It} {n n1 : Nat} {G G1 : Hp → Prop} {Y Y1 : Nat → Hp → V → Hp → Prop} {σ : L2.St} {D : Addr} {vs vs1 : List Nat}
/-- the inner for -/
theorem in_it (w : Walk J1 n1 G1 Y1) {g1 : TG} {tt1 : TT} {te : TE} {H4 : Hp} {Nx : Hp → Prop} (Pw : Nat → Hp → Prop) (h0 : Pw 0 H4) (hG : ∀ j H, j ≤ n1 → Pw j H → G1 H)
    (hs : ∀ j y H H', j < n1 → Pw j H → Y1 j H y H' → g1 y (wipe σ vs1) H' fun σ3 H5 => wipe σ3 vs1 = wipe σ vs1 ∧ tt1 σ3 H5 fun c H6 => if c = true then te σ3 H6 fun z H7 => ∃ acc, H7 D = some (.lst acc) ∧ acc.length < sizeLine ∧ Pw (j + 1) (upd H7 D (.lst (acc ++ [z]))) else Pw (j + 1) H6)
    (hd : ∀ H, Pw n1 H → Nx H) :
    ∃ W1 : Nat → Nat → Hp → Prop, (∃ m, W1 0 m H4) ∧ ∀ j k H, W1 j k H → (J1.stop j H ∧ Nx H) ∨ (J1.go j H ∧ ∃ Nx1 : Hp → Prop, (∀ H', Nx1 H' → ∃ k', k' < k ∧ W1 (j + 1) k' H') ∧
      ∀ x H', J1.yld j H x H' → g1 x (wipe σ vs1) H' fun σ3 H5 => wipe σ3 vs1 = wipe σ vs1 ∧ tt1 σ3 H5 fun c H6 => if c = true then te σ3 H6 fun z H7 => ∃ acc, H7 D = some (.lst acc) ∧ acc.length < sizeLine ∧ Nx1 (upd H7 D (.lst (acc ++ [z]))) else Nx1 H6) := by
  refine ⟨fun j k H => k = n1 - j ∧ j ≤ n1 ∧ Pw j H, ⟨n1, by simp, Nat.zero_le _, h0⟩, ?_⟩
  rintro j k H ⟨rfl, hj, p⟩
  have q := hG j H hj p
  rcases Nat.lt_or_ge j n1 with lt | ge
  · exact .inr ⟨w.goes j H lt q, Pw (j + 1), fun H' p' => ⟨n1 - (j + 1), by omega, rfl, lt, p'⟩, fun x H' y => hs j x H H' lt p (w.yields j H x H' lt q y)⟩
  · have e : j = n1 := by omega
    subst e
    exact .inl ⟨w.stops H q, hd H p⟩
/-- the outer for -/
theorem out_it (w : Walk J n G Y) {g g1 : TG} {tt tt1 : TT} {wi1 : TI} {te : TE} {H1 : Hp} {Qd : Hp → Prop} (Pv : Nat → Hp → Prop) (h0 : Pv 0 (upd H1 D (.lst []))) (hG : ∀ i H, i ≤ n → Pv i H → G H)
    (hs : ∀ i x H H0, i < n → Pv i H → Y i H x H0 → g x (wipe σ vs) H0 fun σ2 H2 => wipe σ2 vs = wipe σ vs ∧ tt σ2 H2 fun c H3 => if c = true then wi1 σ2 H3 fun J1 H4 => ∃ W1 : Nat → Nat → Hp → Prop, (∃ m, W1 0 m H4) ∧ ∀ j k H, W1 j k H → (J1.stop j H ∧ Pv (i + 1) H) ∨ (J1.go j H ∧ ∃ Nx1 : Hp → Prop, (∀ H', Nx1 H' → ∃ k', k' < k ∧ W1 (j + 1) k' H') ∧
      ∀ x H', J1.yld j H x H' → g1 x (wipe σ2 vs1) H' fun σ3 H5 => wipe σ3 vs1 = wipe σ2 vs1 ∧ tt1 σ3 H5 fun c H6 => if c = true then te σ3 H6 fun z H7 => ∃ acc, H7 D = some (.lst acc) ∧ acc.length < sizeLine ∧ Nx1 (upd H7 D (.lst (acc ++ [z]))) else Nx1 H6) else Pv (i + 1) H3)
    (hd : ∀ H, Pv n H → Qd H) :
    ∃ W : Nat → Nat → Hp → Prop, (∃ m, W 0 m (upd H1 D (.lst []))) ∧ ∀ i m H, W i m H → (J.stop i H ∧ Qd H) ∨ (J.go i H ∧ ∃ Nx : Hp → Prop, (∀ H', Nx H' → ∃ m', m' < m ∧ W (i + 1) m' H') ∧
      ∀ x H', J.yld i H x H' → g x (wipe σ vs) H' fun σ2 H2 => wipe σ2 vs = wipe σ vs ∧ tt σ2 H2 fun c H3 => if c = true then wi1 σ2 H3 fun J1 H4 => ∃ W1 : Nat → Nat → Hp → Prop, (∃ m, W1 0 m H4) ∧ ∀ j k H, W1 j k H → (J1.stop j H ∧ Nx H) ∨ (J1.go j H ∧ ∃ Nx1 : Hp → Prop, (∀ H', Nx1 H' → ∃ k', k' < k ∧ W1 (j + 1) k' H') ∧
        ∀ x H', J1.yld j H x H' → g1 x (wipe σ2 vs1) H' fun σ3 H5 => wipe σ3 vs1 = wipe σ2 vs1 ∧ tt1 σ3 H5 fun c H6 => if c = true then te σ3 H6 fun z H7 => ∃ acc, H7 D = some (.lst acc) ∧ acc.length < sizeLine ∧ Nx1 (upd H7 D (.lst (acc ++ [z]))) else Nx1 H6) else Nx H3) := by
  refine ⟨fun i m H => m = n - i ∧ i ≤ n ∧ Pv i H, ⟨n, by simp, Nat.zero_le _, h0⟩, ?_⟩
  rintro i m H ⟨rfl, hi, p⟩
  have q := hG i H hi p
  rcases Nat.lt_or_ge i n with lt | ge
  · exact .inr ⟨w.goes i H lt q, Pv (i + 1), fun H' p' => ⟨n - (i + 1), by omega, rfl, lt, p'⟩, fun x H' y => hs i x H H' lt p (w.yields i H x H' lt q y)⟩
  · have e : i = n := by omega
    subst e
    exact .inl ⟨w.stops H q, hd H p⟩
end
end Own

/-! x in t, t a tuple, all of any depth. -/
namespace Own
open PySem PySem.Spec PyProof.Rows L2
def rInT (K : PySem.W.Frag) : R2 := fun x y H Q => ∃ (d : PyData) (ds : List PyData), Dp K H x d ∧ Dp K H y (.tuple ds) ∧ SeqAt.shaped d = true ∧ SeqAt.shaped (.tuple ds) = true ∧ Q (.bl (ds.any fun z => PyData.eqv z d)) H
theorem op_inT {X : Cx} (room : X.A.units + 65 < cLine) : OpR X (compareOp .In) (rInT X.K) := by
  rintro pins s σ H x y v u Q I rx ry ⟨d, ds, dx, dy, sx, sy, q⟩
  obtain ⟨_, seen⟩ := Dp.reads I d x v dx rx
  obtain ⟨_, held⟩ := Dp.reads I (.tuple ds) y u dy ry
  exact SeqAt.in_tuple_reads held seen (SeqAt.canLay_of_shaped sy) (SeqAt.canLay_of_shaped sx) (room_in_shaped sx room) ⟨.bl _, H, I, rfl, q⟩
def rNotInT (K : PySem.W.Frag) : R2 := fun x y H Q => ∃ (d : PyData) (ds : List PyData), Dp K H x d ∧ Dp K H y (.tuple ds) ∧ SeqAt.shaped d = true ∧ SeqAt.shaped (.tuple ds) = true ∧ Q (.bl (!ds.any fun z => PyData.eqv z d)) H
theorem op_notInT {X : Cx} (room : X.A.units + 65 < cLine) : OpR X (compareOp .NotIn) (rNotInT X.K) := by
  rintro pins s σ H x y v u Q I rx ry ⟨d, ds, dx, dy, sx, sy, q⟩
  obtain ⟨_, there⟩ := Dp.reads I (.tuple ds) y u dy ry
  obtain ⟨_, own⟩ := Dp.reads I d x v dx rx
  exact SeqAt.notIn_tuple_reads there own (SeqAt.canLay_of_shaped sy) (SeqAt.canLay_of_shaped sx) (room_in_shaped sx room) ⟨.bl _, H, I, rfl, q⟩
end Own

/-! tuple(text): its letters. -/
namespace Own
open PySem PySem.Spec PyProof.Rows L2
/-- the texts of one letter each that a text is made of -/
def lettersOf (x : Str) : List Str := x.cps.toList.map fun c => (⟨#[c]⟩ : Str)
theorem lettersOf_len (x : Str) : (lettersOf x).length = x.length := by
  unfold lettersOf
  rw [List.length_map, Array.length_toList]
  rfl
theorem vals_ix : ∀ {xs : List V} {us : List Value}, xs.length = us.length → (∀ (j : Nat) (v : Value), us[j]? = some v → ∃ x : V, xs[j]? = some x ∧ RelV x v) → Vals xs us
  | [], [], _, _ => .nil
  | [], _ :: _, h, _ => (by cases h)
  | _ :: _, [], h, _ => (by cases h)
  | x :: xs, u :: us, h, g => by
    obtain ⟨x0, e, r⟩ := g 0 u rfl
    cases e
    exact .cons r (vals_ix (Nat.succ.inj h) fun j v hv => g (j + 1) v hv)
section
variable {X : Cx}
theorem call_tuple_txt (hc : X.calm = true) : CallR X (.type "tuple") (fun xs H Q => ∃ x, xs = [.str x] ∧ x.length ≤ sizeLine ∧ ∀ p, H p = none → Q (.ref p) (upd H p (.tup ((lettersOf x).map V.str)))) := by
  intro pins s σ H xs us Q I r h
  obtain ⟨x, rfl, hz, q⟩ := h
  obtain ⟨u, rfl, t, rfl⟩ := vals1 r
  refine call_tuple_str (I.ok.hd hc) x t (fun h' tk acc hk hi => ?_) hz
  have I2 : Inv X pins σ H { s with heap := h', toks := tk } := I.kept hk
  refine ⟨.ref h'.objs.size, upd H h'.objs.size (.tup ((lettersOf x).map V.str)), I2.laid (t' := tk) (fun c o e => Heap.get?_push_of_some _ e) (Nat.le_refl _) (show ObjOk X.prog X.w _ _ _ (.tup ((lettersOf x).map V.str)) from ⟨?_, acc.toList, vals_ix ?_ ?_, ?_⟩), rfl, q _ (I2.hok.fresh (Nat.le_refl _))⟩
  · rw [List.length_map, lettersOf_len]
    exact hz
  · rw [List.length_map, lettersOf_len, Array.length_toList, hi.1]
    rfl
  · intro j v hv
    obtain ⟨c, u, hc, rfl⟩ := hi.2 j v (by rw [← Array.getElem?_toList]; exact hv)
    refine ⟨.str ⟨#[c]⟩, ?_, u, rfl⟩
    unfold lettersOf
    rw [List.getElem?_map, List.getElem?_map, Array.getElem?_toList, hc]
    rfl
  · rw [Array.toArray_toList]
    exact IsTup.new _ _
end
end Own

/-! repr of any data where nothing is being shown; a tuple turned round. -/
namespace Own
open PySem PySem.Spec PyProof.Rows L2
section
variable {X : Cx}
/-- repr(v), whatever data v is -/
theorem call_reprA (hg : X.A.guards = some []) (hu : X.A.units + 66 < cLine) : CallR X (.builtin "repr") (fun xs H Q => ∃ (v : V) (d : PyData), xs = [v] ∧ Dp X.K H v d ∧ d.showable = true ∧ SeqAt.shaped d = true ∧ d.shown.length ≤ sizeLine ∧ Q (.str d.shown) H) := by
  intro pins s σ H xs us Q I r h
  obtain ⟨v, d, rfl, hd, hs, hf, hz, q⟩ := h
  obtain ⟨u, rfl, ru⟩ := vals1 r
  have go : ∀ {a : Addr} {d : PyData}, Dp X.K H (.ref a) d → RelV (.ref a) u → d.showable = true → SeqAt.shaped d = true → d.shown.length ≤ sizeLine → Q (.str d.shown) H →
      wpAny (model X.prog X.w) X.A (call (.builtin "repr") [u]) (fun u' s' => ∃ v' H', Inv X pins σ H' s' ∧ RelV v' u' ∧ Q v' H') X.xe s := fun {a d} hd ru hs hf hz q => by
    cases ru
    obtain ⟨as, rd⟩ := Dp.reads I d _ _ hd rfl
    have dep := SeqAt.depth_of_shaped hf
    exact repr_of_reads' rd hs (PyData.noDict_hsm (PyData.hasDict_of_canLay _ (SeqAt.canLay_of_shaped hf))) hg (by omega) (fun _ _ e => e) (fun h' u tk hk => ⟨.str _, H, I.kept (t' := tk) hk, ⟨u, rfl⟩, q⟩) hz
  cases hd with
  | non =>
    cases ru
    exact PySem.P.repr_of_none ⟨.str _, H, I.tok _, ⟨_, rfl⟩, q⟩
  | bl b =>
    cases ru
    refine PySem.P.repr_of_bool ⟨.str _, H, I.tok _, ⟨_, rfl⟩, ?_⟩
    have e : (PyData.bool b).shown = ((if b then "True" else "False" : String) : Str) := by cases b <;> rfl
    rw [e] at q
    cases b <;> exact q
  | int i =>
    obtain ⟨t, rfl⟩ := ru
    rw [PyData.showable, decide_eq_true_eq] at hs
    exact PySem.P.repr_of_int hs ⟨.str _, H, I.tok _, ⟨_, rfl⟩, q⟩
  | str x =>
    obtain ⟨t, rfl⟩ := ru
    exact PySem.P.repr_of_str ⟨.str _, H, I.tok _, ⟨_, rfl⟩, q⟩ hz
  | lst hl ha => exact go (.lst hl ha) ru hs hf hz q
  | tup hl ha => exact go (.tup hl ha) ru hs hf hz q
end
/-! ### t[::-1] of a tuple -/
theorem adjust_rev (n : Nat) : Builtin.Slice.sliceAdjust none none (-1) (n : Int) = ((n : Int) - 1, -1) := by
  unfold Builtin.Slice.sliceAdjust
  simp
theorem places_rev (n : Nat) : Builtin.Slice.slicePlaces ((n : Int) - 1) (-1) (-1) = n := by
  unfold Builtin.Slice.slicePlaces
  rw [if_neg (by decide), show (- -1 : Int) = 1 by decide, Int.ediv_one]
  split <;> omega
theorem fm_congr {α β : Type} {f g : α → Option β} : ∀ {l : List α}, (∀ x ∈ l, f x = g x) → l.filterMap f = l.filterMap g
  | [], _ => rfl
  | a :: l, h => by
    rw [List.filterMap_cons, List.filterMap_cons, h a List.mem_cons_self, fm_congr fun x hx => h x (List.mem_cons_of_mem _ hx)]
theorem pick_rev (xs : Array Value) : ((List.range xs.size).filterMap fun (m : Nat) => xs[(((xs.size : Int) - 1) + (m : Int) * (-1)).toNat]?) = xs.toList.reverse := by
  have e : ((List.range xs.size).map fun k => xs.size - 1 - k).filterMap (xs[·]?) = xs.toList.reverse := by
    rw [PySem.W.krv_range, List.filterMap_reverse, PySem.W.krv_all]
  rw [← e, List.filterMap_map]
  refine fm_congr fun m hm => ?_
  have := List.mem_range.mp hm
  have e2 : (((xs.size : Int) - 1) + (m : Int) * (-1)).toNat = xs.size - 1 - m := by omega
  rw [e2]
  rfl
section
variable {prog : Program} {w : World} {A : Around} {E : Value → Shared → Prop} {s : Shared}
theorem sliceApplied_rev {sl : Addr} {vl vu vs : Value} {n : Nat} {Q : Int × Int × Nat → Shared → Prop} (hs : s.heap.IsSliceOf sl vl vu vs) (pl : IsPart vl none) (pu : IsPart vu none) (ps : IsPart vs (some (-1)))
    (h : Q ((n : Int) - 1, -1, n) s) : wpAny (model prog w) A (Builtin.Slice.sliceApplied (.ref sl) (pure (n : Int))) Q E s := by
  obtain ⟨os, hos, hcs, hds⟩ := id hs
  unfold Builtin.Slice.sliceApplied Builtin.Slice.sliceFields
  refine wpAny_bind (wpAny_bind (wpAny_field hos hds (x := vl) rfl (wpAny_bind (wpAny_field hos hds (x := vu) rfl (wpAny_bind (wpAny_field hos hds (x := vs) rfl (wpAny_pure ?_)))))))
  refine wpAny_bind (HT.slicePart_ ps ?_)
  show wpAny _ _ (if ((-1 : Int) == 0) = true then _ else _) _ _ s
  rw [if_neg (by decide)]
  refine wpAny_bind (HT.slicePart_ pl (wpAny_bind (HT.slicePart_ pu (wpAny_bind (wpAny_pure ?_)))))
  show wpAny _ _ (match Builtin.Slice.sliceAdjust none none (-1) (n : Int) with | (lo, hi) => pure (lo, (-1 : Int), Builtin.Slice.slicePlaces lo hi (-1))) _ _ s
  rw [adjust_rev n]
  show wpAny _ _ (pure ((n : Int) - 1, (-1 : Int), Builtin.Slice.slicePlaces ((n : Int) - 1) (-1) (-1))) _ _ s
  rw [places_rev]
  exact wpAny_pure h
theorem getItem_tuple_rev {t sl : Addr} {items : Array Value} {vl vu vs : Value} {Q : Value → Shared → Prop} (ht : IsTup s.heap t items) (hs : s.heap.IsSliceOf sl vl vu vs) (pl : IsPart vl none) (pu : IsPart vu none) (ps : IsPart vs (some (-1)))
    (h : Q (.ref s.heap.objs.size) { s with heap := s.heap.push { cls := .type "tuple", data := .seq items.toList.reverse.toArray } })
    (hsz : items.size ≤ sizeLine) : wpAny (model prog w) A (getItem (.ref t) (.ref sl)) Q E s := by
  have htake : sizeOk (.seq items.toList.reverse.toArray) := by
    show items.toList.reverse.toArray.size ≤ sizeLine
    rw [List.size_toArray, List.length_reverse, Array.length_toList]
    exact hsz
  obtain ⟨os, hos, hcs, hds⟩ := id hs
  have hTs : s.TypeIs (.ref sl) "slice" := ⟨os, hos, hcs⟩
  unfold getItem
  try with_reducible refine wpAny_holding ?_
  first | refine wpAny_bind (wpAny_pure ?_) | skip
  refine wpAny_bind (wpAny_sequenceKey ht.typeIs (by decide) ?_)
  refine wpAny_bind (wpAny_callSpecial?_slot (name := Str.ofString "__getitem__") ht.typeIs PyProof.Rows.slot_tuple_getitem
    (wpAny_call_entry PyProof.Rows.slot_tuple_getitem ht.typeIs entry_tuple_getitem ?_ (args_tuple_getitem _ _)))
  show wpAny _ _ (Builtin.Tuple.tupleItemsOf (.ref t) >>= _) _ _ s
  refine wpAny_bind (tupleItemsOf_ ht ?_)
  refine wpAny_bind (wpAny_typeOf hTs ?_)
  rw [if_pos (by decide)]
  refine wpAny_bind (sliceApplied_rev hs pl pu ps ?_)
  have hno : ¬ ((((items.size : Int) - 1) == 0 && (-1 : Int) == 1 && items.size == items.size) = true) := by
    rw [show ((-1 : Int) == 1) = false by decide, Bool.and_false, Bool.false_and]
    exact Bool.false_ne_true
  show wpAny _ _ (if (((items.size : Int) - 1) == 0 && (-1 : Int) == 1 && items.size == items.size) = true then _ else _) _ _ s
  rw [if_neg hno, pick_rev]
  first
    | exact wpAny_bind (m := Builtin.Tuple.tupleExact _) (wpAny_newObj_type (wpAny_pure ⟨_, rfl, wpAny_pure h⟩) htake)
    | exact wpAny_bind (m := Builtin.Tuple.tupleExact _) (wpAny_newObj_type (wpAny_bind (wpAny_pure (wpAny_pure ⟨_, rfl, wpAny_pure h⟩))) htake)
    | exact wpAny_bind (wpAny_bind (m := Builtin.Tuple.tupleExact _) (wpAny_newObj_type (wpAny_pure (wpAny_pure ⟨_, rfl, wpAny_pure h⟩)) htake))
    | exact wpAny_bind (wpAny_bind (m := Builtin.Tuple.tupleExact _) (wpAny_newObj_type (wpAny_pure ⟨_, rfl, wpAny_pure h⟩) htake))
end
section
variable {X : Cx} {te : TE}
def tRevT (K : PySem.W.Frag) (te : TE) : TE := fun σ H Q => te σ H fun x H1 => ∃ a xs, x = .ref a ∧ SqT K H1 a xs ∧ ∀ p, H1 p = none → Q (.ref p) (upd H1 p (.tup xs.reverse))
theorem pe_revT {e : Expr} {k : Nat} {p1 p2 p3 pos : Pos} (he : PE X e te) : PE X (.Subscript e (.Slice none none (some (.UnaryOp .USub (.Constant (.int 1) k p1) p2)) p3) pos) (tRevT X.K te) := by
  refine ⟨fun pins s σ H Q I h => ?_⟩
  refine Subscript_ (thn (he.run pins s σ H _ I h) fun v s1 ⟨x, H1, I1, r1, q1⟩ => ?_)
  obtain ⟨a, xs, ex, hx, q⟩ := q1
  subst ex
  cases r1
  have hst : PO X (some (.UnaryOp .USub (.Constant (.int 1) k p1) p2)) (tPart (tUn (rU fun i => .int (-i)) (tC (.int 1)))) := po_some (pe_un un_neg pe_int)
  refine wpAny_Slice (thn (po_none.run pins s1 σ H1 (fun o H2 => o = none ∧ H2 = H1) I1 ⟨rfl, rfl⟩) fun vl s2 ⟨l, H2, I2, pl, el, e2⟩ => ?_)
  subst el e2
  refine thn (po_none.run pins s2 σ H2 (fun o H3 => o = none ∧ H3 = H2) I2 ⟨rfl, rfl⟩) fun vu s3 ⟨u, H3, I3, pu, eu, e3⟩ => ?_
  subst eu e3
  refine thn (hst.run pins s3 σ H3 (fun o H4 => o = some (-1) ∧ H4 = H3) I3 ⟨1, rfl, -1, rfl, rfl, rfl⟩) fun vs s4 ⟨o, H4, I4, ps, eo, e4⟩ => ?_
  subst eo e4
  have I5 : Inv X pins σ H4 { s4 with heap := s4.heap.push { cls := .type "slice", data := .fields #[vl, vu, vs] } } := I4.kept (t' := s4.toks) fun b ob q => Heap.get?_push_of_some _ q
  obtain ⟨its, r, ht, hz⟩ := I5.tuple hx
  have hlen := r.length
  show wpAny (model X.prog X.w) X.A (subscriptTail e (.Slice none none (some (.UnaryOp .USub (.Constant (.int 1) k p1) p2)) p3) (.ref a) (.ref s4.heap.objs.size)) (EP X pins σ Q) X.xe { s4 with heap := s4.heap.push { cls := .type "slice", data := .fields #[vl, vu, vs] } }
  refine tail_any (ops := [.ref a, .ref s4.heap.objs.size]) ht.typeIs (PyProof.Rows.slot_tuple_getitem.lookup) ?_ (by with_unfolding_all rfl)
  refine getItem_tuple_rev ht (Heap.IsSliceOf.new _ vl vu vs) pl pu ps ?_ (by rw [List.size_toArray]; omega)
  refine ⟨.ref _, _, I5.laid (t' := s4.toks) (o := .tup xs.reverse) (fun b ob q => Heap.get?_push_of_some _ q) (Nat.le_refl _) ?_, rfl, q _ (I5.hok.fresh (Nat.le_refl _))⟩
  exact ⟨by rw [List.length_reverse]; exact hz, _, r.reverse, IsTup.new _ _⟩
end
end Own

/-! The law's own def, as the judge calls it: there nothing is being shown, so repr of data is told in full. -/
namespace Own
open PySem PySem.Spec PyProof.Rows L2
/-- a promise of the law's def at that one call -/
def TopOk (P : Program) (w : World) (K : PySem.W.Frag) (mg : Str → Option Value) (base : Heap) (f : Addr) (fd : FuncData) (x : Str) (sp : Sp) : Prop :=
  ∀ (s : Shared) (H : Hp) (v : V) (u : Value) (Q : VK), Env0 P w K mg base callerA [] s H → BindsTo s fd ⟨[u], []⟩ [(x, u)] → RelV v u → sp [v] H Q E0 →
    codeAny (model P w) callerA (.call (.ref f) ⟨[u], []⟩) (CR CX0 [] P w H s Q E0) s
section
variable {P : Program} {w : World} {K : PySem.W.Frag} {mg : Str → Option Value} {base : Heap} {f : Addr} {fd : FuncData} {x name qual : Str} {st : Stmt} {N : List Str} {k : Nat} {sp : Sp}
theorem top_of (F : Fun K name qual st f fd) (S : FnScope N [x] (defScope st)) (hr : Room (k + 1) callerA)
    (body : ∀ (cdv : Value) (s : Shared) (H : Hp) (v : V) (Q : VK), Room k (callerA.deeper (envOfC qual (defScope st) s.heap.objs.size f cdv)) → (callerA.deeper (envOfC qual (defScope st) s.heap.objs.size f cdv)).guards = some [] → sp [v] H Q E0 →
      ∃ t, PSs (cxOf CX0 P w K mg base N qual (defScope st) f cdv callerA [] s H E0).nox (defBody st) t ∧ t { nx := fun _ H' => Q .non H', rt := Q } (L2.start N [v]) H) : TopOk P w K mg base f fd x sp := by
  intro s H v u Q e0 hb rv hsp
  obtain ⟨oc, od, kV, doc, pm, an, cdv, ct, osl, rfl, lk, hcd⟩ := F.ex
  have grow : ∀ b o, base.get? b = some o → s.heap.get? b = some o := fun b o e => (e0.bs b o e).1
  have inK : K.In s.heap := e0.mod.kin.keeps grow
  have kinds : ∀ y ∈ [(x, u)], (defScope st).names.lookup y.1 = some .local ∨ ((defScope st).names.lookup y.1 = some .cell ∧ ((cellsFrom (s.heap.objs.size + 1) (defScope st).names []).lookup y.1).isSome = true) := fun y hy => by
    rw [List.mem_singleton.mp hy]
    exact (S.par x List.mem_cons_self).imp id fun c => ⟨c, PySem.W.cellsFrom_some _ _ _ (.inl c)⟩
  refine codeAny_call_function hr.depth (inK _ _ lk) rfl S.co S.gen rfl (PySem.W.codeRec_of inK hcd) (hb _ _ _ _ (wpAny_newFunctionEnv_cells S.kind kinds ?_))
  rintro env rfl s1 made
  refine ⟨(e0.mod.nolimit.keeps grow).keeps made.toInCall.keep, codeAny_func ?_⟩
  obtain ⟨t, ht, hq⟩ := body cdv s H v Q (hr.deeper _) rfl hsp
  have J0 : Inv (cxOf CX0 P w K mg base N qual (defScope st) f cdv callerA [] s H E0) [] (L2.start N [v]) H s1 := inv_start S hr.hd e0 rfl (.cons rv .nil) made
  have back := ht.nox.run [] s1 (L2.start N [v]) H _ J0 hq
  refine wpAny_mono back ?_ fun _ _ z => z
  rintro (_ | _ | _ | r) s' z
  · obtain ⟨_, H', J, q⟩ := z
    exact ⟨.non, H', J.os, J.bare, J.base, J.hok, rfl, q⟩
  · obtain ⟨_, _, _, q⟩ := z
    exact q.elim
  · obtain ⟨_, _, _, q⟩ := z
    exact q.elim
  · obtain ⟨y, _, H', J, ry, q⟩ := z
    exact ⟨y, H', J.os, J.bare, J.base, J.hok, ry, q⟩
end
/-- the call, from an abstract heap that knows the script at most -/
theorem top_core {P : Program} {w : World} {K : PySem.W.Frag} {mg mb : Str → Option Value} {fa a : Addr} {fd : FuncData} {x : Str} {sp : Sp} {s₁ : Shared} {vs : List Value} {H : Hp}
    (KX : K.In s₁.heap) (hns : s₁.heap.Ns mainGlobals mg) (hb : s₁.heap.Ns builtinsNs mb) (hbb : ∀ x : Str, x ≠ "__name__" → mb x = bootBuiltins x) (hlim : s₁.heap.NoLimit) (hg : s₁.gens = #[])
    (ha : s₁.heap.get? a = some { cls := .type "list", data := .seq vs.toArray })
    (F : ∀ base : Heap, K.In base → base.Ns mainGlobals mg → TopOk P w K mg base fa fd x sp) (hbind : ∀ (s : Shared) (u : Value), BindsTo s fd ⟨[u], []⟩ [(x, u)])
    (only : Only H) (hok : HOk P w H s₁.heap) (own : ∀ b u, H b = some u → b = a ∧ K.lookup a = none) (hsp : sp [.ref a] H (fun v _ => v = .bl true) E0) :
    codeAny (model P w) callerA (.call (.ref fa) ⟨[.ref a], []⟩) (fun r s' => r = .ok (.ret (.bool true)) ∧ OldK s₁.heap s'.heap ∧ s'.os = s₁.os ∧ AllBare s'.gens) s₁ := by
  -- what is no list is not tracked
  have untr : ∀ {b : Addr} {o : Obj}, s₁.heap.get? b = some o → o.data ≠ .seq vs.toArray → H b = none := fun {b o} e ne => by
    cases g : H b with
    | none => rfl
    | some u =>
      obtain ⟨rfl, _⟩ := own b u g
      rw [ha] at e
      cases e
      exact absurd rfl ne
  have spaces : ∀ {b : Addr} {m : Str → Option Value}, s₁.heap.Ns b m → (hidT s₁.heap H).Ns b m := fun {b m} ⟨o, es, ep, e, dd, r⟩ =>
    ⟨o, es, ep, hidT_get e (untr e (by rw [dd]; intro z; cases z)), dd, r⟩
  have inK : K.In (hidT s₁.heap H) := fun b o e => hidT_get (KX b o e) (by
    cases g : H b with
    | none => rfl
    | some u =>
      obtain ⟨rfl, nk⟩ := own b u g
      rw [nk] at e
      cases e)
  have md : Mod K mg (hidT s₁.heap H) := ⟨inK, spaces hns, ⟨mb, spaces hb, hbb⟩, hlim.imp fun mc z => ⟨spaces z.1, z.2⟩⟩
  have e0 : Env0 P w K mg (hidT s₁.heap H) callerA [] s₁ H := ⟨rfl, md, fun b o e => of_hidT e, Nat.le_of_eq (hidT_size _ _), trivial, fun b z => (by cases z), hok, .of_eq hg⟩
  refine codeAny_mono (F _ inK (spaces hns) s₁ H (.ref a) (.ref a) _ e0 (hbind s₁ (.ref a)) rfl hsp) ?_
  rintro (e | _ | _ | _ | u) s' z
  · exact False.elim z
  · exact False.elim z
  · exact False.elim z
  · exact False.elim z
  · obtain ⟨v, H', os, bare, un, hok', rv, rfl⟩ := z
    cases rv
    refine ⟨rfl, OldK.of_keep fun b o e => ?_, os, bare⟩
    cases g : H b with
    | none => exact un.keep b o e g (fun z => by cases z) (fun z => by cases z)
    | some y =>
      rcases only b with z | ⟨ob, xs, z⟩
      · rw [g] at z
        cases z
      · have before := (hok b _ z).1
        have after := (hok' b _ (un.frzs b ob _ z)).1
        rw [e] at before
        cases before
        exact after
/-- from the call's heap: what is tracked there is the script, or nothing -/
theorem top_call {P : Program} {w : World} {K : PySem.W.Frag} {mg mb : Str → Option Value} {fa a : Addr} {fd : FuncData} {x : Str} {sp : Sp} {s₁ : Shared} {vs : List Value} {ns : List Int}
    (KX : K.In s₁.heap) (hns : s₁.heap.Ns mainGlobals mg) (hb : s₁.heap.Ns builtinsNs mb) (hbb : ∀ x : Str, x ≠ "__name__" → mb x = bootBuiltins x) (hlim : s₁.heap.NoLimit) (hg : s₁.gens = #[])
    (ha : s₁.heap.get? a = some { cls := .type "list", data := .seq vs.toArray }) (hi : IntsAre vs ns) (hl : ns.length ≤ sizeLine)
    (F : ∀ base : Heap, K.In base → base.Ns mainGlobals mg → TopOk P w K mg base fa fd x sp) (hbind : ∀ (s : Shared) (u : Value), BindsTo s fd ⟨[u], []⟩ [(x, u)])
    (hsp : ∀ H : Hp, Only H → SqL K H a (ns.map V.int) → sp [.ref a] H (fun v _ => v = .bl true) E0) :
    codeAny (model P w) callerA (.call (.ref fa) ⟨[.ref a], []⟩) (fun r s' => r = .ok (.ret (.bool true)) ∧ OldK s₁.heap s'.heap ∧ s'.os = s₁.os ∧ AllBare s'.gens) s₁ := by
  have rv := vals_ints hi
  have hlv : vs.length ≤ sizeLine := by rw [hi.length]; exact hl
  cases hk : K.lookup a with
  | some o =>
    have e := KX a o hk
    rw [ha] at e
    cases e
    have hS : SqL K (fun _ => none) a (ns.map V.int) := .inr ⟨_, vs.toArray, _, hk, rfl, rfl, rfl, by rw [List.size_toArray]; exact hlv, by simpa using rv⟩
    exact top_core KX hns hb hbb hlim hg ha F hbind (fun _ => .inl rfl) (fun _ _ z => by cases z) (fun _ _ z => by cases z) (hsp _ (fun _ => .inl rfl) hS)
  | none =>
    have at_ : ∀ {b : Addr} {u : HO}, (if b = a then some (HO.frz { cls := .type "list", data := .seq vs.toArray } (.lst (ns.map V.int))) else none) = some u → b = a ∧ u = .frz { cls := .type "list", data := .seq vs.toArray } (.lst (ns.map V.int)) := fun {b u} z => by
      by_cases q : b = a
      · rw [if_pos q] at z
        exact ⟨q, (Option.some.inj z).symm⟩
      · rw [if_neg q] at z
        cases z
    have hO : Only (fun b => if b = a then some (.frz { cls := .type "list", data := .seq vs.toArray } (.lst (ns.map V.int))) else none) := fun b => by
      by_cases q : b = a
      · exact .inr ⟨_, _, if_pos q⟩
      · exact .inl (if_neg q)
    refine top_core KX hns hb hbb hlim hg ha F hbind hO (fun b u z => ?_) (fun b u z => ⟨(at_ z).1, hk⟩) (hsp _ hO (.inl (.inr ⟨_, if_pos rfl⟩)))
    obtain ⟨rfl, rfl⟩ := at_ z
    exact ⟨ha, by rw [List.length_map]; exact hl, vs, _, rv, ha⟩
theorem top_walk {l : PySem.W.OpenLaw} {n : Nat} {q : Program} {loose : List Str} {XP : (Str → Option Value) → Heap → Prop} {YP : World → Heap → Prop} {d : DefRec} {K : Params → PySem.W.Frag} {sp : PySem.W.Frag → Sp} {x : Str}
    (hn : l.most = some n) (hn2 : n ≤ sizeLine) (hdf : d.params.defaults = []) (hY : ∀ (w : World) (h : Heap), YP w h → (K w.params).In h)
    (F : ∀ (w : World) (mg : Str → Option Value) (fa : Addr) (h : Heap), (K w.params).In h → h.Ns mainGlobals mg → mg d.name = some (.ref fa) →
      ∃ fd : FuncData, (∀ (s : Shared) (u : Value), BindsTo s fd ⟨[u], []⟩ [(x, u)]) ∧ ∀ base : Heap, (K w.params).In base → base.Ns mainGlobals mg → TopOk l.prog w (K w.params) mg base fa fd x (sp (K w.params)))
    (hsp : ∀ (K : PySem.W.Frag) (H : Hp) (a : Addr) (ns : List Int), ns.length ≤ n → SqL K H a (ns.map V.int) → sp K [.ref a] H (fun v _ => v = .bl true) E0) :
    PySem.W.WalkO q loose XP YP l.row.toRowW d [] (fun f vs => PySem.call f vs) := by
  refine Att.attach_call hn hdf fun w s₀ s₁ mg mb fa o pm cd doc a vs ns G Y ho hd hcd hmg hobj hints hlen hg => ?_
  have KX := hY w _ Y
  obtain ⟨fd, hb, hF⟩ := F w mg fa _ KX G.T.g hmg
  exact top_call KX G.T.g G.T.b G.T.builtins G.T.nolimit hg hobj hints (Nat.le_trans hlen hn2) hF hb fun H _ hS => hsp _ H a ns hlen hS
section
variable {X : Cx}
theorem call_reprD (hg : X.A.guards = some []) (hu : X.A.units + 66 < cLine) : CallR X (.builtin "repr") (fun xs H Q => ∃ (a : Addr) (d : PyData), xs = [.ref a] ∧ Dp X.K H (.ref a) d ∧ d.showable = true ∧ SeqAt.shaped d = true ∧ d.shown.length ≤ sizeLine ∧ Q (.str d.shown) H) := by
  intro pins s σ H xs us Q I r h
  obtain ⟨a, d, rfl, hd, hs, hf, hz, q⟩ := h
  obtain ⟨u, rfl, ru⟩ := vals1 r
  cases ru
  obtain ⟨as, rd⟩ := Dp.reads I d _ _ hd rfl
  have dep := SeqAt.depth_of_shaped hf
  exact repr_of_reads' rd hs (PyData.noDict_hsm (PyData.hasDict_of_canLay _ (SeqAt.canLay_of_shaped hf))) hg (by omega) (fun _ _ e => e) (fun h' u tk hk => ⟨.str _, H, I.kept (t' := tk) hk, ⟨u, rfl⟩, q⟩) hz
end
theorem hu65 {A : Around} {k : Nat} (hr : Room k A) : A.units + 65 < cLine := by
  have := hr.un
  omega
theorem hu66 {A : Around} {k : Nat} (hr : Room k A) : A.units + 66 < cLine := by
  have := hr.un
  omega
end Own

/-! Lambdas handed to an own def: the end of a law with the tables of code objects; a def whose code object is known. -/
namespace Own
open PySem PySem.Spec PyProof.Rows L2
/-- the ones that a lambda stands in: name, code object, its table -/
abbrev Tabs3 := List (Str × Addr × Addr)
/-- the law's end, with tables -/
theorem lam_walk {l : PySem.W.OpenLaw} {n k : Nat} {q : Program} {loose : List Str} {XP : (Str → Option Value) → Heap → Prop} {YP : World → Heap → Prop} {d : DefRec} {K : Params → PySem.W.Frag} {sp : PySem.W.Frag → Tabs3 → Sp} {x : Str}
    (hn : l.most = some n) (hn2 : n ≤ sizeLine) (hdf : d.params.defaults = []) (hr : Room k callerA) (hY : ∀ (w : World) (h : Heap), YP w h → (K w.params).In h)
    (F : ∀ (w : World) (mg : Str → Option Value) (fa : Addr) (h : Heap), (K w.params).In h → h.Ns mainGlobals mg → mg d.name = some (.ref fa) →
      ∃ (fd : FuncData) (cs : Tabs3), (∀ t ∈ cs, (∃ r, (recsOf q).find? (fun e => e.name == t.1) = some r) ∧ PySem.W.tabIn (K w.params) t.1 = some t.2 ∧ (K w.params).lookup t.2.2 = none) ∧ (∀ (s : Shared) (u : Value), BindsTo s fd ⟨[u], []⟩ [(x, u)]) ∧
        ∀ base : Heap, (K w.params).In base → base.Ns mainGlobals mg → (∀ t ∈ cs, LamX.TabB base mg t.2.1 t.2.2) → FnOk l.prog w (K w.params) mg base CX0 k fa fd [x] (sp (K w.params) cs))
    (hsp : ∀ (K : PySem.W.Frag) (cs : Tabs3) (H : Hp) (a : Addr) (ns : List Int), ns.length ≤ n → (∀ t ∈ cs, H t.2.2 = some (.tbl #[])) → SqL K H a (ns.map V.int) → sp K cs [.ref a] H (fun v _ => v = .bl true) E0) :
    PySem.W.WalkO q loose XP YP l.row.toRowW d [] (fun f vs => PySem.call f vs) := by
  refine Att.attach_callB hn hdf fun w s₀ s₁ mg mb fa o pm cd doc a vs ns G Y ho hd hcd hmg hobj hints hlen hbits hg => ?_
  have KX := hY w _ Y
  obtain ⟨fd, cs, facts, hb, hF⟩ := F w mg fa _ KX G.T.g hmg
  have both : ∀ t ∈ cs, PySem.W.CodeHd s₁.heap t.2.1 t.2.2 ∧ s₁.heap.get? t.2.2 = some { cls := .none, data := .fields #[] } := fun t ht => by
    obtain ⟨⟨r, hrec⟩, htab, _⟩ := facts t ht
    exact PySem.W.tab_of (x := t.1) (c := t.2.1) (P := t.2.2) G.T KX hrec htab
  have pull : ∀ {Z : Addr × Addr → Prop}, (∀ t ∈ cs, Z t.2) → ∀ p ∈ cs.map (·.2), Z p := fun {Z} h p hp => by
    obtain ⟨t, ht, rfl⟩ := List.mem_map.mp hp
    exact h t ht
  have back : ∀ {Z : Addr × Addr → Prop}, (∀ p ∈ cs.map (·.2), Z p) → ∀ t ∈ cs, Z t.2 := fun h t ht => h t.2 (List.mem_map.mpr ⟨t, ht, rfl⟩)
  refine LamX.law_callTs (cs := cs.map (·.2)) (CX := CX0) KX G.T.g G.T.b G.T.builtins G.T.nolimit hg (pull (Z := fun p => s₁.heap.get? p.2 = _) fun t ht => (both t ht).2) (pull (Z := fun p => (K w.params).lookup p.2 = none) fun t ht => (facts t ht).2.2) (pull (Z := fun p => PySem.W.CodeHd s₁.heap p.1 p.2) fun t ht => (both t ht).1)
    G.T.bmain hobj hints (Nat.le_trans hlen hn2) hr (fun base h1 h2 h3 => hF base h1 h2 (back (Z := fun p => LamX.TabB base mg p.1 p.2) h3)) hb (fun H hH hS => hsp _ cs H a ns hlen (back (Z := fun p => H p.2 = some (.tbl #[])) hH) hS) fun H e s' h => h
/-- a def by its body, its code object known -/
theorem ok_code {P : Program} {w : World} {K : PySem.W.Frag} {mg : Str → Option Value} {base : Heap} {x qual : Str} {st : Stmt} {f c : Addr} {fd : FuncData} {N ps : List Str} {k : Nat} {sp : Sp} (F : Fun K x qual st f fd) (hc : fd.code = .ref c) (S : FnScope N ps (defScope st)) (len : ∀ vs H Q E, sp vs H Q E → vs.length = ps.length)
    (hbody : ∀ (A : Around) (outer : List Env) (s : Shared) (H : Hp) (vs : List V) (Q : VK) (E : XK), Room k (A.deeper (envOfC qual (defScope st) s.heap.objs.size f (.ref c))) → sp vs H Q E →
      ∃ t, PSs (cxOf CX0 P w K mg base N qual (defScope st) f (.ref c) A outer s H E).nox (defBody st) t ∧ t { nx := fun _ H' => Q .non H', rt := Q } (L2.start N vs) H) : FnOk P w K mg base CX0 (k + 1) f fd ps sp := by
  obtain ⟨oc, od, kV, doc, pm, an, cdv, ct, osl, rfl, lk, hcd⟩ := F.ex
  have e : cdv = .ref c := hc
  subst e
  refine fn_of lk hcd S len fun A outer s H vs Q E hr hsp => ?_
  obtain ⟨t, h, q⟩ := hbody A outer s H vs Q E hr hsp
  exact ⟨t, h.nox, q⟩
/-- where a def's code object and its table stand, by what is written -/
theorem tab_by {K : PySem.W.Frag} {x : Str} {f c P : Addr} {oc o2 : Value} {od d2 : Option Addr} {sl s2 : Array (Option Value)} {fd : FuncData} {vs : Array Value} (a : PySem.W.nsIn K mainGlobals x = some (some (.ref f))) (l : K.lookup f = some ⟨oc, od, .func fd, sl⟩) (kd : fd.code = .ref c)
    (lc : K.lookup c = some ⟨o2, d2, .fields vs, s2⟩) (vp : (vs[11]? : Option Value) = some (.ref P)) : PySem.W.tabIn K x = some (c, P) := by
  unfold PySem.W.tabIn
  rw [a]
  dsimp only
  rw [l]
  dsimp only
  rw [kd]
  dsimp only
  rw [lc]
  dsimp only
  rw [vp]
/-- what is let out is taken of states of the right length alone -/
theorem takes_len {X : Cx} {W : WX} {n : Nat} (hn : X.N.length = n) (t : Takes X W) : Takes X (fun c d σ H => σ.length = n → W c d σ H) := fun u s' ⟨a, B, sI, pins, σ, H, cls, d, e, I, nb, up, sky, na, os, ag, w⟩ =>
  t u s' ⟨a, B, sI, pins, σ, H, cls, d, e, I, nb, up, sky, na, os, ag, w (I.len.trans hn)⟩
end Own

/-! A def in which data is shown by repr: its promise holds where nothing is being shown yet. The law's own call, with the tables of code objects. -/
namespace Own
open PySem PySem.Spec PyProof.Rows L2
/-- a def's promise where nothing is being shown -/
structure FnOkG (P : Program) (w : World) (K : PySem.W.Frag) (mg : Str → Option Value) (base : Heap) (CX : CXT) (k : Nat) (f : Addr) (fd : FuncData) (ps : List Str) (sp : Sp) : Prop where
  len : ∀ vs H Q E, sp vs H Q E → vs.length = ps.length
  run : ∀ (A : Around) (outer : List Env) (s : Shared) (H : Hp) (args : Args) (us : List Value) (vs : List V) (Q : VK) (E : XK), A.guards = some [] → Room k A → Env0 P w K mg base A outer s H → BindsTo s fd args (ps.zip us) → Vals vs us → sp vs H Q E →
    codeAny (model P w) A (.call (.ref f) args) (CR CX outer P w H s Q E) s
section
variable {P : Program} {w : World} {K : PySem.W.Frag} {mg : Str → Option Value} {base : Heap}
theorem Fun.okG {x qual : Str} {st : Stmt} {f : Addr} {fd : FuncData} {N ps : List Str} {k : Nat} {sp : Sp} (F : Fun K x qual st f fd) (S : FnScope N ps (defScope st)) (len : ∀ vs H Q E, sp vs H Q E → vs.length = ps.length)
    (body : ∀ (cdv : Value) (A : Around) (outer : List Env) (s : Shared) (H : Hp) (vs : List V) (Q : VK) (E : XK), (A.deeper (envOfC qual (defScope st) s.heap.objs.size f cdv)).guards = some [] → Room k (A.deeper (envOfC qual (defScope st) s.heap.objs.size f cdv)) → sp vs H Q E →
      ∃ t, PSs (cxOf CX0 P w K mg base N qual (defScope st) f cdv A outer s H E).nox (defBody st) t ∧ t { nx := fun _ H' => Q .non H', rt := Q } (L2.start N vs) H) : FnOkG P w K mg base CX0 (k + 1) f fd ps sp := by
  obtain ⟨oc, od, kV, doc, pm, an, cdv, ct, osl, rfl, lk, hcd⟩ := F.ex
  refine ⟨len, fun A outer s H args us vs Q E hg hr e0 hb r hsp => ?_⟩
  have lens := len _ _ _ _ hsp
  have grow : ∀ b o, base.get? b = some o → s.heap.get? b = some o := fun b o e => (e0.bs b o e).1
  have inK : K.In s.heap := e0.mod.kin.keeps grow
  have kinds : ∀ y ∈ ps.zip us, (defScope st).names.lookup y.1 = some .local ∨ ((defScope st).names.lookup y.1 = some .cell ∧ ((cellsFrom (s.heap.objs.size + 1) (defScope st).names []).lookup y.1).isSome = true) := fun y hy =>
    (S.par y.1 (List.of_mem_zip (show (y.1, y.2) ∈ ps.zip us from hy)).1).imp id fun c => ⟨c, PySem.W.cellsFrom_some _ _ _ (.inl c)⟩
  refine codeAny_call_function hr.depth (inK _ _ lk) rfl S.co S.gen rfl (PySem.W.codeRec_of inK hcd) (hb _ _ _ _ (wpAny_newFunctionEnv_cells S.kind kinds ?_))
  rintro env rfl s1 made
  refine ⟨(e0.mod.nolimit.keeps grow).keeps made.toInCall.keep, codeAny_func ?_⟩
  obtain ⟨t, ht, hq⟩ := body cdv A outer s H vs Q E hg (hr.deeper _) hsp
  have J0 : Inv (cxOf CX0 P w K mg base N qual (defScope st) f cdv A outer s H E) [] (L2.start N vs) H s1 := inv_start S hr.hd e0 lens r made
  refine wpAny_mono (ht.nox.run [] s1 (L2.start N vs) H _ J0 hq) ?_ fun _ _ z => z
  rintro (_ | _ | _ | u) s' z
  · obtain ⟨_, H', J, q⟩ := z
    exact ⟨.non, H', J.os, J.bare, J.base, J.hok, rfl, q⟩
  · obtain ⟨_, _, _, q⟩ := z
    exact q.elim
  · obtain ⟨_, _, _, q⟩ := z
    exact q.elim
  · obtain ⟨y, _, H', J, ry, q⟩ := z
    exact ⟨y, H', J.os, J.bare, J.base, J.hok, ry, q⟩
end
section
variable {X : Cx} {CX : CXT} {k : Nat} {f : Addr} {fd : FuncData} {ps : List Str} {sp : Sp} {x : Str} {p pos : Pos} {e : Expr} {es : List Expr} {t : TA} {ds : List Value} {dvs : List V}
theorem pe_callG (hgd : X.A.guards = some []) (F : FnOkG X.prog X.w X.K X.mg X.base CX k f fd ps sp) (hr : Room k X.A) (hg : Gl X x) (hm : X.mg x = some (.ref f)) (hk : PySem.W.keepIn X.K (.ref f) = true) (hb : Binds X.K fd ps ds) (hd : Vals dvs ds) (hx : Passes CX X E0)
    (ha : PA X (e :: es) t) (hdb : (x == ("__debug__" : Str)) = false := by decide) (he : starEach (e :: es) X.env = (false, eval e X.env) :: starEach es X.env := by rfl) (hpl : (backTo pos (starEach es X.env)).any (·.1) = false := by rfl) :
    PE X (.Call (.Name x p) (e :: es) [] pos) (tCall sp dvs E0 t) := by
  refine ⟨fun pins s σ H Q I h => ?_⟩
  refine wpAny_Call_Name_kw (ld_glob I hg hm ?_ hdb)
  refine PySem.W.callWith_K (h₀ := X.base) I.ok.mod.kin hk (thn (ha.run pos pins s σ H _ I h) fun us s1 ⟨vs, H1, I1, r, q⟩ => ⟨I1.kIn, ?_⟩) he hpl
  have r2 : Vals (vs ++ dvs) (us ++ ds) := r.append hd
  have lens : (us ++ ds).length = ps.length := by rw [← r2.length]; exact F.len _ _ _ _ q
  refine wpAny_call (codeAny_mono (F.run X.A X.stack s1 H1 ⟨us, []⟩ (us ++ ds) (vs ++ dvs) Q E0 hgd hr I1.env0 (hb s1 us I1.kIn lens) r2 q) ?_)
  rintro (er | _ | _ | _ | u) s' hq
  · exact hx pins σ H1 s1 er s' I1 hq
  · exact False.elim hq
  · exact False.elim hq
  · exact False.elim hq
  · exact I1.after hq
end
/-- the law's def at its one call, its code object known -/
theorem top_code {P : Program} {w : World} {K : PySem.W.Frag} {mg : Str → Option Value} {base : Heap} {f c : Addr} {fd : FuncData} {x name qual : Str} {st : Stmt} {N : List Str} {k : Nat} {sp : Sp} (F : Fun K name qual st f fd) (hc : fd.code = .ref c) (S : FnScope N [x] (defScope st)) (hr : Room (k + 1) callerA)
    (body : ∀ (s : Shared) (H : Hp) (v : V) (Q : VK), Room k (callerA.deeper (envOfC qual (defScope st) s.heap.objs.size f (.ref c))) → (callerA.deeper (envOfC qual (defScope st) s.heap.objs.size f (.ref c))).guards = some [] → sp [v] H Q E0 →
      ∃ t, PSs (cxOf CX0 P w K mg base N qual (defScope st) f (.ref c) callerA [] s H E0).nox (defBody st) t ∧ t { nx := fun _ H' => Q .non H', rt := Q } (L2.start N [v]) H) : TopOk P w K mg base f fd x sp := by
  intro s H v u Q e0 hb rv hsp
  obtain ⟨oc, od, kV, doc, pm, an, cdv, ct, osl, rfl, lk, hcd⟩ := F.ex
  have ec : cdv = .ref c := hc
  subst ec
  have grow : ∀ b o, base.get? b = some o → s.heap.get? b = some o := fun b o e => (e0.bs b o e).1
  have inK : K.In s.heap := e0.mod.kin.keeps grow
  have kinds : ∀ y ∈ [(x, u)], (defScope st).names.lookup y.1 = some .local ∨ ((defScope st).names.lookup y.1 = some .cell ∧ ((cellsFrom (s.heap.objs.size + 1) (defScope st).names []).lookup y.1).isSome = true) := fun y hy => by
    rw [List.mem_singleton.mp hy]
    exact (S.par x List.mem_cons_self).imp id fun c => ⟨c, PySem.W.cellsFrom_some _ _ _ (.inl c)⟩
  refine codeAny_call_function hr.depth (inK _ _ lk) rfl S.co S.gen rfl (PySem.W.codeRec_of inK hcd) (hb _ _ _ _ (wpAny_newFunctionEnv_cells S.kind kinds ?_))
  rintro env rfl s1 made
  refine ⟨(e0.mod.nolimit.keeps grow).keeps made.toInCall.keep, codeAny_func ?_⟩
  obtain ⟨t, ht, hq⟩ := body s H v Q (hr.deeper _) rfl hsp
  have J0 : Inv (cxOf CX0 P w K mg base N qual (defScope st) f (.ref c) callerA [] s H E0) [] (L2.start N [v]) H s1 := inv_start S hr.hd e0 rfl (.cons rv .nil) made
  refine wpAny_mono (ht.nox.run [] s1 (L2.start N [v]) H _ J0 hq) ?_ fun _ _ z => z
  rintro (_ | _ | _ | r) s' z
  · obtain ⟨_, H', J, q⟩ := z
    exact ⟨.non, H', J.os, J.bare, J.base, J.hok, rfl, q⟩
  · obtain ⟨_, _, _, q⟩ := z
    exact q.elim
  · obtain ⟨_, _, _, q⟩ := z
    exact q.elim
  · obtain ⟨y, _, H', J, ry, q⟩ := z
    exact ⟨y, H', J.os, J.bare, J.base, J.hok, ry, q⟩
/-- the call, from an abstract heap that knows the script, and empty tables, at most -/
theorem tab_core {P : Program} {w : World} {K : PySem.W.Frag} {mg mb : Str → Option Value} {fa a : Addr} {cs : List (Addr × Addr)} {fd : FuncData} {x : Str} {sp : Sp} {s₁ : Shared} {vs : List Value} {H : Hp}
    (KX : K.In s₁.heap) (hns : s₁.heap.Ns mainGlobals mg) (hb : s₁.heap.Ns builtinsNs mb) (hbb : ∀ x : Str, x ≠ "__name__" → mb x = bootBuiltins x) (hlim : s₁.heap.NoLimit) (hg : s₁.gens = #[])
    (hT : ∀ p ∈ cs, s₁.heap.get? p.2 = some { cls := .none, data := .fields #[] }) (nT : ∀ p ∈ cs, K.lookup p.2 = none) (C : ∀ p ∈ cs, PySem.W.CodeHd s₁.heap p.1 p.2)
    (hbm : ∃ (bm : Addr) (ob : Obj), mg "__builtins__" = some (.ref bm) ∧ bm ≠ builtinsNs ∧ s₁.heap.get? bm = some ob ∧ ob.cls = .type "module" ∧ ob.dict = some builtinsNs ∧ ob.data = .plain)
    (ha : s₁.heap.get? a = some { cls := .type "list", data := .seq vs.toArray })
    (F : ∀ base : Heap, K.In base → base.Ns mainGlobals mg → (∀ p ∈ cs, LamX.TabB base mg p.1 p.2) → TopOk P w K mg base fa fd x sp) (hbind : ∀ (s : Shared) (u : Value), BindsTo s fd ⟨[u], []⟩ [(x, u)])
    (tracked : ∀ b, b ∈ cs.map (·.2) → H b = some (.tbl #[])) (only : ∀ b, H b = none ∨ (b ∈ cs.map (·.2) ∧ H b = some (.tbl #[])) ∨ (b = a ∧ K.lookup a = none ∧ ∃ o xs, H b = some (.frz o (.lst xs)))) (hok : HOk P w H s₁.heap) (hsp : sp [.ref a] H (fun v _ => v = .bl true) E0) :
    codeAny (model P w) callerA (.call (.ref fa) ⟨[.ref a], []⟩) (fun r s' => r = .ok (.ret (.bool true)) ∧ OldK s₁.heap s'.heap ∧ s'.os = s₁.os ∧ AllBare s'.gens) s₁ := by
  have tabAt : ∀ b : Addr, b ∈ cs.map (·.2) → s₁.heap.get? b = some { cls := .none, data := .fields #[] } := fun b hb => by
    obtain ⟨p, hp, rfl⟩ := List.mem_map.mp hb
    exact hT p hp
  -- neither the script nor a table: not tracked
  have plain : ∀ {b : Addr} {o : Obj}, s₁.heap.get? b = some o → o.data ≠ .seq vs.toArray → o.data ≠ .fields #[] → H b = none := fun {b o} e n1 n2 => by
    rcases only b with z | ⟨hb, z⟩ | ⟨rfl, _⟩
    · exact z
    · rw [tabAt b hb] at e
      cases e
      exact absurd rfl n2
    · rw [ha] at e
      cases e
      exact absurd rfl n1
  have spaces : ∀ {b : Addr} {m : Str → Option Value}, s₁.heap.Ns b m → (hidT s₁.heap H).Ns b m := fun {b m} ⟨o, es, ep, e, dd, r⟩ =>
    ⟨o, es, ep, hidT_get e (plain e (by rw [dd]; intro z; cases z) (by rw [dd]; intro z; cases z)), dd, r⟩
  have inK : K.In (hidT s₁.heap H) := fun b o e => hidT_get (KX b o e) (by
    rcases only b with z | ⟨hb, _⟩ | ⟨rfl, nk, _⟩
    · exact z
    · obtain ⟨p, hp, rfl⟩ := List.mem_map.mp hb
      rw [nT p hp] at e
      cases e
    · rw [nk] at e
      cases e)
  have md : Mod K mg (hidT s₁.heap H) := ⟨inK, spaces hns, ⟨mb, spaces hb, hbb⟩, hlim.imp fun mc z => ⟨spaces z.1, z.2⟩⟩
  have tabs : ∀ p ∈ cs, LamX.TabB (hidT s₁.heap H) mg p.1 p.2 := fun p hp => by
    have notMain : mainGlobals ≠ p.2 := fun z => by
      obtain ⟨o, es, ep, e, dd, _⟩ := hns
      rw [z, hT p hp] at e
      cases e
      cases dd
    refine ⟨?_, ?_, notMain⟩
    · obtain ⟨o, us, file, tf, flags, tg, inF, text, tt, e, k1, k2, k3, more⟩ := C p hp
      refine ⟨o, us, file, tf, flags, tg, inF, text, tt, hidT_get e (plain e (by rw [k2]; intro z; cases z) (by rw [k2]; intro z; cases z; cases k3)), k1, k2, k3, more⟩
    · obtain ⟨bm, ob, g1, g2, g3, g4, g5, g6⟩ := hbm
      refine ⟨bm, ob, g1, g2, fun z => ?_, fun z => ?_, hidT_get g3 (plain g3 (by rw [g6]; intro z; cases z) (by rw [g6]; intro z; cases z)), g4, g5, g6⟩
      · obtain ⟨o, es, ep, e, dd, _⟩ := hns
        rw [z, e] at g3
        cases g3
        rw [dd] at g6
        cases g6
      · rw [z, hT p hp] at g3
        cases g3
        cases g6
  have e0 : Env0 P w K mg (hidT s₁.heap H) callerA [] s₁ H := ⟨rfl, md, fun b o e => of_hidT e, Nat.le_of_eq (hidT_size _ _), trivial, fun b z => (by cases z), hok, .of_eq hg⟩
  refine codeAny_mono (F _ inK (spaces hns) tabs s₁ H (.ref a) (.ref a) _ e0 (hbind s₁ (.ref a)) rfl hsp) ?_
  rintro (e | _ | _ | _ | u) s' z
  · exact False.elim z
  · exact False.elim z
  · exact False.elim z
  · exact False.elim z
  · obtain ⟨v, H', os, bare, un, hok', rv, rfl⟩ := z
    cases rv
    have other : ∀ b o, b ∉ cs.map (·.2) → s₁.heap.get? b = some o → s'.heap.get? b = some o := fun b o nb e => by
      rcases only b with g | ⟨hb, _⟩ | ⟨_, _, ob, xs, g⟩
      · exact un.keep b o e g (fun z => by cases z) (fun z => by cases z)
      · exact absurd hb nb
      · have before := (hok b _ g).1
        have after := (hok' b _ (un.frzs b ob _ g)).1
        rw [e] at before
        cases before
        exact after
    have table : ∀ b, b ∈ cs.map (·.2) → ∃ more : Array Value, s'.heap.get? b = some { cls := .none, data := .fields more } := fun b hb => by
      obtain ⟨more, hm⟩ := un.tbls b #[] (tracked b hb)
      exact ⟨_, hok' b _ hm⟩
    refine ⟨rfl, ⟨fun b o e => ?_, fun b o e => ?_⟩, os, bare⟩
    · by_cases hb : b ∈ cs.map (·.2)
      · obtain ⟨more, hm⟩ := table b hb
        obtain ⟨p, hp, rfl⟩ := List.mem_map.mp hb
        rw [hT p hp] at e
        cases e
        exact .inr (.inl ⟨((C p hp).tab (hT p hp)).isCodeTable, rfl, #[], more, rfl, by rw [Array.empty_append]; exact hm⟩)
      · exact .inl (other b o hb e)
    · by_cases hb : b ∈ cs.map (·.2)
      · obtain ⟨more, hm⟩ := table b hb
        exact ⟨_, hm⟩
      · exact ⟨o, other b o hb e⟩
/-- from the call's heap: what is tracked there is the script, or nothing, and the empty tables -/
theorem tab_call {P : Program} {w : World} {K : PySem.W.Frag} {mg mb : Str → Option Value} {fa a : Addr} {cs : List (Addr × Addr)} {fd : FuncData} {x : Str} {sp : Sp} {s₁ : Shared} {vs : List Value} {ns : List Int}
    (KX : K.In s₁.heap) (hns : s₁.heap.Ns mainGlobals mg) (hb : s₁.heap.Ns builtinsNs mb) (hbb : ∀ x : Str, x ≠ "__name__" → mb x = bootBuiltins x) (hlim : s₁.heap.NoLimit) (hg : s₁.gens = #[])
    (hT : ∀ p ∈ cs, s₁.heap.get? p.2 = some { cls := .none, data := .fields #[] }) (nT : ∀ p ∈ cs, K.lookup p.2 = none) (C : ∀ p ∈ cs, PySem.W.CodeHd s₁.heap p.1 p.2)
    (hbm : ∃ (bm : Addr) (ob : Obj), mg "__builtins__" = some (.ref bm) ∧ bm ≠ builtinsNs ∧ s₁.heap.get? bm = some ob ∧ ob.cls = .type "module" ∧ ob.dict = some builtinsNs ∧ ob.data = .plain)
    (ha : s₁.heap.get? a = some { cls := .type "list", data := .seq vs.toArray }) (hi : IntsAre vs ns) (hl : ns.length ≤ sizeLine)
    (F : ∀ base : Heap, K.In base → base.Ns mainGlobals mg → (∀ p ∈ cs, LamX.TabB base mg p.1 p.2) → TopOk P w K mg base fa fd x sp) (hbind : ∀ (s : Shared) (u : Value), BindsTo s fd ⟨[u], []⟩ [(x, u)])
    (hsp : ∀ H : Hp, (∀ p ∈ cs, H p.2 = some (.tbl #[])) → SqL K H a (ns.map V.int) → sp [.ref a] H (fun v _ => v = .bl true) E0) :
    codeAny (model P w) callerA (.call (.ref fa) ⟨[.ref a], []⟩) (fun r s' => r = .ok (.ret (.bool true)) ∧ OldK s₁.heap s'.heap ∧ s'.os = s₁.os ∧ AllBare s'.gens) s₁ := by
  have rv := vals_ints hi
  have hlv : vs.length ≤ sizeLine := by rw [hi.length]; exact hl
  have tabAt : ∀ b : Addr, b ∈ cs.map (·.2) → s₁.heap.get? b = some { cls := .none, data := .fields #[] } := fun b hb => by
    obtain ⟨p, hp, rfl⟩ := List.mem_map.mp hb
    exact hT p hp
  have aT : a ∉ cs.map (·.2) := fun z => by
    have q := tabAt a z
    rw [ha] at q
    have z' : Data.seq vs.toArray _ = Data.fields #[] := congrArg Obj.data (Option.some.inj q)
    cases z'
  have inT : ∀ p ∈ cs, p.2 ∈ cs.map (·.2) := fun p hp => List.mem_map.mpr ⟨p, hp, rfl⟩
  cases hk : K.lookup a with
  | some o =>
    have e := KX a o hk
    rw [ha] at e
    cases e
    have hS : ∀ H : Hp, SqL K H a (ns.map V.int) := fun H => .inr ⟨_, vs.toArray, _, hk, rfl, rfl, rfl, by rw [List.size_toArray]; exact hlv, by simpa using rv⟩
    have yes : ∀ b ∈ cs.map (·.2), (fun b => if b ∈ cs.map (·.2) then some (HO.tbl #[]) else none : Hp) b = some (.tbl #[]) := fun b hb => if_pos hb
    refine tab_core (H := fun b => if b ∈ cs.map (·.2) then some (HO.tbl #[]) else none) KX hns hb hbb hlim hg hT nT C hbm ha F hbind yes (fun b => ?_) (fun b u z => ?_) (hsp _ (fun p hp => yes _ (inT p hp)) (hS _))
    · by_cases hb : b ∈ cs.map (·.2)
      · exact .inr (.inl ⟨hb, if_pos hb⟩)
      · exact .inl (if_neg hb)
    · by_cases hb : b ∈ cs.map (·.2)
      · have z' := (if_pos hb).symm.trans z
        cases z'
        exact tabAt b hb
      · have z' := (if_neg hb).symm.trans z
        cases z'
  | none =>
    have at1 : (fun b => if b = a then some (HO.frz { cls := .type "list", data := .seq vs.toArray } (.lst (ns.map V.int))) else if b ∈ cs.map (·.2) then some (HO.tbl #[]) else none : Hp) a = some (HO.frz { cls := .type "list", data := .seq vs.toArray } (.lst (ns.map V.int))) := if_pos rfl
    have yes : ∀ b ∈ cs.map (·.2), (fun b => if b = a then some (HO.frz { cls := .type "list", data := .seq vs.toArray } (.lst (ns.map V.int))) else if b ∈ cs.map (·.2) then some (HO.tbl #[]) else none : Hp) b = some (.tbl #[]) := fun b hb =>
      (if_neg (fun z => aT (by rw [← z]; exact hb))).trans (if_pos hb)
    refine tab_core (H := fun b => if b = a then some (HO.frz { cls := .type "list", data := .seq vs.toArray } (.lst (ns.map V.int))) else if b ∈ cs.map (·.2) then some (HO.tbl #[]) else none) KX hns hb hbb hlim hg hT nT C hbm ha F hbind yes (fun b => ?_) (fun b u z => ?_) (hsp _ (fun p hp => yes _ (inT p hp)) (.inl (.inr ⟨_, at1⟩)))
    · by_cases q : b = a
      · exact .inr (.inr ⟨q, hk, _, _, if_pos q⟩)
      · by_cases hb : b ∈ cs.map (·.2)
        · exact .inr (.inl ⟨hb, yes b hb⟩)
        · exact .inl ((if_neg q).trans (if_neg hb))
    · by_cases q : b = a
      · have z' := (if_pos q).symm.trans z
        cases z'
        rw [q]
        exact ⟨ha, by rw [List.length_map]; exact hl, vs, _, rv, ha⟩
      · by_cases hb : b ∈ cs.map (·.2)
        · have z' := (yes b hb).symm.trans z
          cases z'
          exact tabAt b hb
        · have z' := ((if_neg q).trans (if_neg hb)).symm.trans z
          cases z'
/-- the law's end, where the law's own def is promised at its one call, with tables -/
theorem tab_walk {l : PySem.W.OpenLaw} {n : Nat} {q : Program} {loose : List Str} {XP : (Str → Option Value) → Heap → Prop} {YP : World → Heap → Prop} {d : DefRec} {K : Params → PySem.W.Frag} {sp : PySem.W.Frag → Tabs3 → Sp} {x : Str}
    (hn : l.most = some n) (hn2 : n ≤ sizeLine) (hdf : d.params.defaults = []) (hY : ∀ (w : World) (h : Heap), YP w h → (K w.params).In h)
    (F : ∀ (w : World) (mg : Str → Option Value) (fa : Addr) (h : Heap), (K w.params).In h → h.Ns mainGlobals mg → mg d.name = some (.ref fa) →
      ∃ (fd : FuncData) (cs : Tabs3), (∀ t ∈ cs, (∃ r, (recsOf q).find? (fun e => e.name == t.1) = some r) ∧ PySem.W.tabIn (K w.params) t.1 = some t.2 ∧ (K w.params).lookup t.2.2 = none) ∧ (∀ (s : Shared) (u : Value), BindsTo s fd ⟨[u], []⟩ [(x, u)]) ∧
        ∀ base : Heap, (K w.params).In base → base.Ns mainGlobals mg → (∀ t ∈ cs, LamX.TabB base mg t.2.1 t.2.2) → TopOk l.prog w (K w.params) mg base fa fd x (sp (K w.params) cs))
    (hsp : ∀ (K : PySem.W.Frag) (cs : Tabs3) (H : Hp) (a : Addr) (ns : List Int), ns.length ≤ n → (∀ t ∈ cs, H t.2.2 = some (.tbl #[])) → SqL K H a (ns.map V.int) → sp K cs [.ref a] H (fun v _ => v = .bl true) E0) :
    PySem.W.WalkO q loose XP YP l.row.toRowW d [] (fun f vs => PySem.call f vs) := by
  refine Att.attach_callB hn hdf fun w s₀ s₁ mg mb fa o pm cd doc a vs ns G Y ho hd hcd hmg hobj hints hlen hbits hg => ?_
  have KX := hY w _ Y
  obtain ⟨fd, cs, facts, hb, hF⟩ := F w mg fa _ KX G.T.g hmg
  have both : ∀ t ∈ cs, PySem.W.CodeHd s₁.heap t.2.1 t.2.2 ∧ s₁.heap.get? t.2.2 = some { cls := .none, data := .fields #[] } := fun t ht => by
    obtain ⟨⟨r, hrec⟩, htab, _⟩ := facts t ht
    exact PySem.W.tab_of (x := t.1) (c := t.2.1) (P := t.2.2) G.T KX hrec htab
  have pull : ∀ {Z : Addr × Addr → Prop}, (∀ t ∈ cs, Z t.2) → ∀ p ∈ cs.map (·.2), Z p := fun {Z} h p hp => by
    obtain ⟨t, ht, rfl⟩ := List.mem_map.mp hp
    exact h t ht
  have back : ∀ {Z : Addr × Addr → Prop}, (∀ p ∈ cs.map (·.2), Z p) → ∀ t ∈ cs, Z t.2 := fun h t ht => h t.2 (List.mem_map.mpr ⟨t, ht, rfl⟩)
  exact tab_call (cs := cs.map (·.2)) KX G.T.g G.T.b G.T.builtins G.T.nolimit hg (pull (Z := fun p => s₁.heap.get? p.2 = _) fun t ht => (both t ht).2) (pull (Z := fun p => (K w.params).lookup p.2 = none) fun t ht => (facts t ht).2.2) (pull (Z := fun p => PySem.W.CodeHd s₁.heap p.1 p.2) fun t ht => (both t ht).1)
    G.T.bmain hobj hints (Nat.le_trans hlen hn2) (fun base h1 h2 h3 => hF base h1 h2 (back (Z := fun p => LamX.TabB base mg p.1 p.2) h3)) hb (fun H hH hS => hsp _ cs H a ns hlen (back (Z := fun p => H p.2 = some (.tbl #[])) hH) hS)
end Own

/-! xs.count(k), xs.index(k) of a list of whole numbers. -/
namespace Own
open PySem PySem.Spec PyProof.Rows L2
section
variable {X : Cx}
def rCount : V → List V → Hp → VK → Prop := fun x vs H Q => ∃ (l : Addr) (ns : List Int) (k : Int), x = .ref l ∧ vs = [.int k] ∧ H l = some (.lst (ns.map V.int)) ∧ Q (.int ((ns.count k : Nat) : Int)) H
theorem mt_count : MtM X "list.count" rCount := by
  intro pins s σ H x vs v us Q I rx rv h
  obtain ⟨l, ns, k, rfl, rfl, hH, q⟩ := h
  cases rx
  obtain ⟨u, rfl, ru⟩ := rv.one
  obtain ⟨t, rfl⟩ := (show ∃ t, u = Value.int k t from ru)
  obtain ⟨z, its, n, r, hl, e0⟩ := I.lstM hH
  exact count_list_ints ⟨_, e0, rfl, n, rfl⟩ (intsAre_of r) ⟨.int _, _, I.tok _, ⟨_, rfl⟩, q⟩
def rIndex : V → List V → Hp → VK → Prop := fun x vs H Q => ∃ (l : Addr) (ns : List Int) (k : Int), x = .ref l ∧ vs = [.int k] ∧ H l = some (.lst (ns.map V.int)) ∧ k ∈ ns ∧ Q (.int ((ns.idxOf k : Nat) : Int)) H
theorem mt_index : MtM X "list.index" rIndex := by
  intro pins s σ H x vs v us Q I rx rv h
  obtain ⟨l, ns, k, rfl, rfl, hH, hk, q⟩ := h
  cases rx
  obtain ⟨u, rfl, ru⟩ := rv.one
  obtain ⟨t, rfl⟩ := (show ∃ t, u = Value.int k t from ru)
  obtain ⟨z, its, n, r, hl, e0⟩ := I.lstM hH
  exact PySem.SeqAt.list_index_ints ⟨_, e0, rfl, n, rfl⟩ (intsAre_of r) (by rw [List.length_map] at z; exact z) hk ⟨.int _, _, I.tok _, ⟨_, rfl⟩, q⟩
/-- xs[k], k from 0 on, ahead of an augmented store -/
theorem get_list : PGet X (rIxL X.K) := by
  intro pins s σ H x y v u Q I rx ry h
  obtain ⟨p, xs, i, z, rfl, rfl, hq, he, q⟩ := h
  cases rx
  obtain ⟨t, rfl⟩ := ry
  obtain ⟨its, r, pl, hz⟩ := I.list hq
  obtain ⟨j, h1, h2, h3, h4, h5⟩ := atI_get he
  obtain ⟨w, ew, rw'⟩ := r.get h2
  have hl := r.length
  have hn := line63
  by_cases h0 : 0 ≤ i
  · have hj : i.toNat = j := by
      rw [seqIndex_of h0 h5] at h1
      exact Option.some.inj h1
    exact wpAny_getItem_list pl.isList h0 (by omega) (by rw [hj]; simpa using ew) ⟨z, H, I, rw', q⟩
  · have hj : (i + (its.toArray.size : Int)).toNat = j := by
      rw [seqIndex_neg (by omega) h4] at h1
      rw [List.size_toArray, ← hl]
      exact Option.some.inj h1
    exact wpAny_getItem_list_neg pl.isList (by omega) (by rw [List.size_toArray] <;> omega) (by omega) (by rw [hj]; simpa using ew) ⟨z, H, I, rw', q⟩
end
end Own

/-! A try of several except clauses, each with a name of its own or with none. -/
namespace Own
open PySem PySem.Spec PyProof.Rows L2
/-- a clause: its class, its name, its suite; none: from here on no clause is come to -/
abbrev Clause := Option (Value × Option Nat × (Addr → Value → Option Addr → TS))
/-- what a clause's suite goes on with: its name is gone -/
def clauseD : Option Nat → Ends → Ends
  | none, D => D
  | some i, D => { nx := fun σ' H' => D.nx (σ'.set i none) H', rt := D.rt, bk := fun σ' H' => D.bk (σ'.set i none) H', ct := fun σ' H' => D.ct (σ'.set i none) H' }
def clauseF : Option Nat → L2.St → Addr → L2.St
  | none, σ, _ => σ
  | some i, σ, a => σ.set i (some (.ref a))
/-- what the clauses wish of an exception of the body, one after the other -/
def wAll (K : PySem.W.Frag) (Wout : WX) (D : Ends) : List Clause → WX
  | [] => Wout
  | none :: _ => fun _ _ _ _ => False
  | some (c, o, ts) :: r => fun cls d σ H => ∃ b, PySem.W.exmOne K cls c = some b ∧ (b = true → ∀ a, H a = none → ts a cls d (clauseD o D) (clauseF o σ a) H) ∧ (b = false → wAll K Wout D r cls d σ H)
inductive Clauses (X : Cx) : List ExceptHandler → List Clause → Prop
  | nil : Clauses X [] []
  | cons {x : Str} {c : Value} {ts : Addr → Value → Option Addr → TS} {b₀ : Stmt} {suite : List Stmt} {np pos' : Pos} {hds : List ExceptHandler} {l : List Clause} (hc : Names X x c)
      (hsu : ∀ (a : Addr) (oe : Obj) (cls : Value) (d : Option Addr) (pn : List (Addr × Obj)), Zc cls d oe → (∃ vs, oe.data = .fields vs) → PSs (X.suite a ((a, oe) :: pn)) (b₀ :: suite) (ts a cls d)) (r : Clauses X hds l) :
      Clauses X (.ExceptHandler (some (.Name x np)) none (b₀ :: suite) pos' :: hds) (some (c, none, ts) :: l)
  | named {x n : Str} {i : Nat} {c : Value} {ts : Addr → Value → Option Addr → TS} {b₀ : Stmt} {suite : List Stmt} {np pos' : Pos} {hds : List ExceptHandler} {l : List Clause} (hN : X.N.Nodup) (hi : X.N[i]? = some n) (hln : X.env.kindOf n = some .local) (hc : Names X x c)
      (hsu : ∀ (a : Addr) (oe : Obj) (cls : Value) (d : Option Addr) (pn : List (Addr × Obj)), Zc cls d oe → (∃ vs, oe.data = .fields vs) → PSs (X.suite a ((a, oe) :: pn)) (b₀ :: suite) (ts a cls d)) (r : Clauses X hds l) :
      Clauses X (.ExceptHandler (some (.Name x np)) (some n) (b₀ :: suite) pos' :: hds) (some (c, some i, ts) :: l)
  | dead {hds : List ExceptHandler} {l : List Clause} : Clauses X hds (none :: l)
section
variable {X : Cx} {body : List Stmt} {h₀ : ExceptHandler} {hds : List ExceptHandler} {l : List Clause} {pos : Pos} {tb : WX → TS} {Wout : WX}
theorem ps_try_all (hs : X.stack = X.env :: X.outer) (hf : X.env.frame = some X.env.locals) (tk : Takes X Wout)
    (hb : ∀ (W : WX) (pn : List (Addr × Obj)) (xe : Value → Shared → Prop), Takes (X.tr pn xe) W → PassesOwn (model X.prog X.w) X.A X.env xe → PSs (X.tr pn xe) body (tb W))
    (hh : Clauses X (h₀ :: hds) l) : PS X (.Try body (h₀ :: hds) [] [] pos) (fun D σ H => tb (wAll X.K Wout D l) D σ H) := by
  refine ⟨fun pins s σ H D I h => ?_⟩
  have ok := I.ok
  have hfr : X.A.frames = some (X.env :: X.outer) := by rw [ok.frames, hs]
  refine wpAny_Try_except ?_
  refine wpAny_mono ((hb (wAll X.K Wout D l) (X.pn ++ pins) (fun e s₁ => wpAny (model X.prog X.w) X.A (noteFrame e X.env) (fun _ s₂ => wpAny (model X.prog X.w) X.A (setFlight e none) (fun _ s₃ =>
    wpAny (model X.prog X.w) X.A (handleBy e X.env (h₀ :: hds)) (SP X pins D) X.xe s₃) X.xe s₂) X.xe s₁) (fun u s' xx => ?_) PassesOwn.looking).run [] s σ H D (I.toTry _) h) (fun f s1 hsp => ?_) (fun e s1 he => he)
  · obtain ⟨a, B, sI, pins', σ', H', cls, d, rfl, J', nb, up, sky, na, os, ag, w⟩ := xx
    have J : Inv X pins σ' H' sI := J'.ofTry ok
    have sky' : Sky B (X.env :: X.outer) a (Zc cls d) X.env.locals s'.heap := by rw [← hs]; exact sky
    show wpAny (model X.prog X.w) X.A (noteFrame (.ref a) X.env) _ _ _
    refine Sky.land Zc.steady hfr hf sky' fun h3 fl3 up3 => ?_
    have J3 : Inv X pins σ' H' { s' with heap := h3 } := J.landed nb fl3.1 (up.trans up3) os ag
    obtain ⟨oe3, vs3, he3, hz3, hd3⟩ := fl3.there
    have notFr : ∀ {h : Heap} {o : Obj} {vs : Array Value}, h.FunFrames B (X.env :: X.outer) → h.get? a = some o → o.data = .fields vs → a ∉ frs (X.env :: X.outer) := fun {h o vs} ff e dd hm => by
      obtain ⟨_, o', e', hnf⟩ := ff.mem hm
      rw [e] at e'; cases e'
      exact hnf _ dd
    have nfr := notFr fl3.2.2.1 he3 hd3
    have nL : a ≠ X.env.locals := fun z => nfr (List.mem_filterMap.mpr ⟨X.env, List.mem_cons_self, by rw [hf, z]⟩)
    have nF : a ∉ X.fs := fun hm => by
      obtain ⟨e, he, q⟩ := List.mem_filterMap.mp hm
      exact nfr (List.mem_filterMap.mpr ⟨e, List.mem_cons_of_mem _ he, q⟩)
    have S3 := J3.suite he3 hd3 na nL nF
    have LT : PySem.W.Looks (model X.prog X.w) h3 (typeOf (.ref a)) cls := fun A Q E s k q => wpAny_typeOf_ref (k _ _ he3) (by rw [hz3.1]; exact q)
    have test : ∀ {x : Str} {np : Pos} {c : Value}, Names X x c → ∀ {Q : Value → Shared → Prop} {E : Value → Shared → Prop}, Q c { s' with heap := h3 } → wpAny (model X.prog X.w) (X.A.mark (some (.ref a))) (eval (.Name x np) X.env) Q E { s' with heap := h3 } := fun {x np c} hc {Q E} q => by
      obtain ⟨hg, hdbg, hm | ⟨hm, hv, hnn⟩⟩ := hc
      · exact ld_glob (X := X.suite a ((a, oe3) :: (X.pn ++ pins))) S3 hg hm q hdbg
      · exact ld_blt (X := X.suite a ((a, oe3) :: (X.pn ++ pins))) S3 hg hm hv q hnn hdbg
    have go : ∀ {hds' : List ExceptHandler} {l' : List Clause}, Clauses X hds' l' → wAll X.K Wout D l' cls d σ' H' → wpAny (model X.prog X.w) X.A (handleBy (.ref a) X.env hds') (SP X pins D) X.xe { s' with heap := h3 } := by
      intro hds' l' hk
      induction hk with
      | nil =>
        intro w
        refine wpAny_handleBy_nil ?_
        obtain ⟨k1, k2, k3, oe, vs, T, oT, ts', he, hz, hd, h1, hr⟩ := id fl3
        unfold PySem.passOn
        refine wpAny_bind (wpAny_field he hd h1 ?_)
        rw [if_neg (show ¬ ((Value.ref T == Value.none) = true) from by simp)]
        have fin : wpAny (model X.prog X.w) X.A (setFlight (.ref a) X.env.frame) (fun _ s4 => wpAny (model X.prog X.w) X.A (throw (.ref a) : Sem Flow) (SP X pins D) X.xe s4) X.xe { s' with heap := h3 } := by
          rw [hf]
          refine HandSPX.setFlight_upZ fl3 fun h4 hh4 up4 => wpAny_throw (tk _ _ ?_)
          exact ⟨a, B, sI, pins, σ', H', cls, d, rfl, J, nb, (up.trans up3).trans up4, .inr (.inr (by rw [hs]; exact hh4)), na, os, ag, w⟩
        first
          | exact wpAny_bind (wpAny_pure (wpAny_bind fin))
          | exact wpAny_bind fin
      | @cons x c ts b₀ suite np pos' hds2 l2 hc hsu r ih =>
        intro w
        obtain ⟨b, hb1, hyes, hno⟩ := w
        refine wpAny_handleBy_cons (codeAny_handlers_test ?_) (by intro q; cases q)
        have LM := PySem.W.exm_one (M := model X.prog X.w) (J3.kIn) LT hb1
        refine test hc (LM.here ?_)
        cases b with
        | true =>
          refine codeAny_handlers_suite ?_
          refine HandSPX.lands_againZ fl3 fun h4 fl4 up4 => ?_
          have J4 : Inv X pins σ' H' { s' with heap := h4 } := J.landed nb fl4.1 ((up.trans up3).trans up4) os ag
          obtain ⟨oe4, vs4, he4, hz4, hd4⟩ := fl4.there
          have S4 := J4.suite he4 hd4 na nL nF
          refine wpAny_mono ((hsu a oe4 cls d (X.pn ++ pins) hz4 ⟨_, hd4⟩).run [] _ _ H' _ S4 (hyes rfl a na)) (fun f s6 hsp => ?_) (fun _ _ z => False.elim z)
          cases f with
          | next =>
            obtain ⟨σ6, H6, S6, q6⟩ := hsp
            exact ⟨_, _, S6.unsuite ok, q6⟩
          | brk =>
            obtain ⟨σ6, H6, S6, q6⟩ := hsp
            exact ⟨_, _, S6.unsuite ok, q6⟩
          | cont =>
            obtain ⟨σ6, H6, S6, q6⟩ := hsp
            exact ⟨_, _, S6.unsuite ok, q6⟩
          | ret u =>
            obtain ⟨v6, σ6, H6, S6, r6, q6⟩ := hsp
            exact ⟨_, _, _, S6.unsuite ok, r6, q6⟩
        | false =>
          show wpAny _ X.A (handleBy (.ref a) X.env hds2) _ _ _
          exact ih (hno rfl)
      | dead =>
        intro w
        exact False.elim w
      | @named x n i c ts b₀ suite np pos' hds2 l2 hN hi hln hc hsu r ih =>
        intro w
        have hloc : Loc X.env.scope n := .inl hln
        obtain ⟨b, hb1, hyes, hno⟩ := w
        refine wpAny_handleBy_cons (codeAny_handlers_test ?_) (by intro q; cases q)
        have LM := PySem.W.exm_one (M := model X.prog X.w) (J3.kIn) LT hb1
        refine test hc (LM.here ?_)
        cases b with
        | true =>
          refine codeAny_handlers_suite_as ?_
          refine HandSPX.lands_againZ fl3 fun h4 fl4 up4 => ?_
          have J4 : Inv X pins σ' H' { s' with heap := h4 } := J.landed nb fl4.1 ((up.trans up3).trans up4) os ag
          obtain ⟨oe4, vs4, he4, hz4, hd4⟩ := fl4.there
          have S4 := J4.suite he4 hd4 na nL nF
          refine store_ok (X := X.suite a ((a, oe4) :: (X.pn ++ pins))) (v := .ref a) S4 hN hi hloc rfl (fun s5 S5 => ?_) (.inr hln)
          refine wpAny_mono ((hsu a oe4 cls d (X.pn ++ pins) hz4 ⟨_, hd4⟩).run [] s5 _ H' _ S5 (hyes rfl a na)) (fun f s6 hsp => ?_) (fun _ _ z => False.elim z)
          have end_ : ∀ {σ6 : L2.St} {H6 : Hp} {Q : Shared → Prop}, Inv (X.suite a ((a, oe4) :: (X.pn ++ pins))) [] σ6 H6 s6 → (∀ s7, Inv X pins (σ6.set i none) H6 s7 → Q s7) →
              wpAny (model X.prog X.w) X.A (do bindName X.env n .none; unbindBehindTheSuite X.env n pos') (fun _ s7 => Q s7) X.xe s6 := fun {σ6 H6 Q} S6 hq => gone_ok (S6.unsuite ok) hN hi hln hq
          cases f with
          | next =>
            obtain ⟨σ6, H6, S6, q6⟩ := hsp
            exact end_ S6 fun s7 J7 => ⟨_, _, J7, q6⟩
          | brk =>
            obtain ⟨σ6, H6, S6, q6⟩ := hsp
            exact end_ S6 fun s7 J7 => ⟨_, _, J7, q6⟩
          | cont =>
            obtain ⟨σ6, H6, S6, q6⟩ := hsp
            exact end_ S6 fun s7 J7 => ⟨_, _, J7, q6⟩
          | ret u =>
            obtain ⟨v6, σ6, H6, S6, r6, q6⟩ := hsp
            exact end_ S6 fun s7 J7 => ⟨_, _, _, J7, r6, q6⟩
        | false =>
          show wpAny _ X.A (handleBy (.ref a) X.env hds2) _ _ _
          exact ih (hno rfl)
    exact go hh w
  · cases f with
    | next =>
      obtain ⟨σ', H', J', q⟩ := hsp
      exact wpAny_execs_nil ⟨σ', H', J'.ofTry ok, q⟩
    | brk =>
      obtain ⟨σ', H', J', q⟩ := hsp
      exact ⟨σ', H', J'.ofTry ok, q⟩
    | cont =>
      obtain ⟨σ', H', J', q⟩ := hsp
      exact ⟨σ', H', J'.ofTry ok, q⟩
    | ret u =>
      obtain ⟨v, σ', H', J', r, q⟩ := hsp
      exact ⟨v, σ', H', J'.ofTry ok, r, q⟩
end
end Own

/-! set(numbers) of a list; list(d.values()). -/
namespace Own
open PySem PySem.Spec PyProof.Rows L2
section
variable {prog : Program} {w : World} {A : Around} {E : Value → Shared → Prop} {s : Shared}
set_option maxHeartbeats 3200000 in
theorem ints_of_list {l : Addr} {its : Array Value} {ns : List Int} {Q : Value → Shared → Prop} (hh : A.handled = none) (hl : s.heap.IsList l its) (hi : PyProof.Rows.IntsAre its.toList ns) (small : ns.length < 1000)
    (h : ∀ (h' : Heap) (tk c : Nat), SetR w h' s.heap.objs.size (fun j => decide (j ∈ ns)) c → c ≤ ns.length → (∀ b o, b < s.heap.objs.size → s.heap.get? b = some o → h'.get? b = some o) → Q (.ref s.heap.objs.size) { s with heap := h', toks := tk }) :
    wpAny (model prog w) A (call (.type "set") [.ref l]) Q E s := by
  obtain ⟨c, tl, hmro⟩ := PySem.F.called_set.mro
  have hmade := PySem.F.called_set.made
  have hsub := PySem.F.called_set.sub
  refine wpAny_call (codeAny_of_tree (wpAny_pure ⟨Code.quiet_builtin _ (by decide +kernel), codeAny_builtin PySem.F.entry_type_call ?_⟩))
  rw [Around.under_plain (weight_type_call_type "set" [.ref l] []) rfl]
  have g1 := PySem.F.called_set.notType
  have g2 := PySem.F.called_set.canCreate
  have g3 := PySem.F.typeCall_set_1 (.ref l)
  repeat (any_goals (first | assumption | wp_step))
  -- the empty set is made
  generalize hled : (!w.params.followText "set-order") = led
  have made : ∀ {M : Value → Shared → Prop}, M (.ref s.heap.objs.size) { s with heap := s.heap.push { cls := .type "set", dict := none, data := .set #[] 0 (.fresh 0 0 led) } } → codeAny (model prog w) A.in1 (.call (.builtin "set.__new__") ⟨[.type "set", .ref l], []⟩) (wants M E) s := fun z => code_set_led1 (.ref l) (by rw [hled]; exact z)
  refine codeAny_mono (made (M := fun v s₁ => v = .ref s.heap.objs.size ∧ s₁ = { s with heap := s.heap.push { cls := .type "set", dict := none, data := .set #[] 0 (.fresh 0 0 led) } }) ⟨rfl, rfl⟩) ?_
  rintro (e | _ | _ | _ | v) s₁ z
  · exact z
  · exact z.elim
  · exact z.elim
  · exact z.elim
  · obtain ⟨rfl, rfl⟩ := z
    have at0 : (s.heap.push { cls := .type "set", dict := none, data := .set #[] 0 (.fresh 0 0 led) }).get? s.heap.objs.size = some { cls := .type "set", dict := none, data := .set #[] 0 (.fresh 0 0 led) } := Heap.get?_push_size _ rfl
    have ty : Shared.TypeIs { s with heap := s.heap.push { cls := .type "set", dict := none, data := .set #[] 0 (.fresh 0 0 led) } } (.ref s.heap.objs.size) "set" := ⟨_, at0, rfl⟩
    have g4 := PySem.F.called_set.init.lookup
    have g5 := PySem.F.called_set.init.bind (.ref s.heap.objs.size)
    repeat (any_goals (first | assumption | wp_step))
    -- and filled
    refine codeAny_mono (codeAny_call_builtin (R := wants (fun r s₂ => r = .none ∧ ∃ h' tk c, s₂ = { s with heap := h', toks := tk } ∧ SetR w h' s.heap.objs.size (fun j => decide (j ∈ ns)) c ∧ c ≤ ns.length ∧ (∀ b o, b < s.heap.objs.size → s.heap.get? b = some o → h'.get? b = some o)) E)
      PySem.F.called_set.init.plain PySem.F.entry_set_init (check_set_init_1 ty ?_)) ?_
    · obtain ⟨⟨cls, dd, dat, sl⟩, hol, hc, nl, hd⟩ := hl
      simp only at hc hd
      subst hc hd
      have old := Heap.lt_size hol
      have hol2 : (s.heap.push { cls := .type "set", dict := none, data := .set #[] 0 (.fresh 0 0 led) }).get? l = some { cls := .type "list", dict := dd, data := .seq its nl, slots := sl } := Heap.get?_push_of_some _ hol
      have hl2 : (s.heap.push { cls := .type "set", dict := none, data := .set #[] 0 (.fresh 0 0 led) }).IsList l its := ⟨_, hol2, rfl, nl, rfl⟩
      have f1 := PySem.F.sub_list_set
      have f2 := PySem.F.sub_list_frozenset
      have f3 : (Value.type "list" == Value.type "dict") = false := by decide
      unfold Builtin.«set.__init__» noKeywords Builtin.Frozenset.updateFrom
      generalize hit : pyIter = itf
      wp_walk
      subst hit
      refine wpAny_pyIter_list hl2 ?_
      refine wpAny_bind (wpAny_runValue ?_)
      have top : (s.heap.push { cls := .type "set", dict := none, data := .set #[] 0 (.fresh 0 0 led) }).objs.size = s.heap.objs.size + 1 := Heap.size_push ..
      have ne1 : l ≠ (s.heap.push { cls := .type "set", dict := none, data := .set #[] 0 (.fresh 0 0 led) }).objs.size := by rw [top]; exact Nat.ne_of_lt (Nat.lt_succ_of_lt old)
      have out : s.heap.objs.size ∉ [(s.heap.push { cls := .type "set", dict := none, data := .set #[] 0 (.fresh 0 0 led) }).objs.size, l] := by
        rw [top]
        intro m
        rcases List.mem_cons.mp m with e | m
        · exact absurd e (Nat.ne_of_lt (Nat.lt_succ_self _))
        · exact absurd (List.mem_singleton.mp m) (Nat.ne_of_gt old)
      have len : its.size = ns.length := by rw [← PyProof.Rows.IntsAre.length hi, Array.length_toList]
      have val : ∀ (i : Nat) (v : Value), its[i]? = some v → ∃ k t, ns[i]? = some k ∧ v = .int k t := fun i v hv => by
        have lt : i < ns.length := by rw [← len]; exact (Array.getElem?_eq_some_iff.mp hv).1
        obtain ⟨t, e⟩ := PyProof.Rows.IntsAre.int_at hi i v (by rw [Array.getElem?_toList]; exact hv)
        rw [List.getD_eq_getElem?_getD, List.getElem?_eq_getElem lt] at e
        exact ⟨ns[i], t, List.getElem?_eq_getElem lt, e⟩
      refine set_update_ints ((Walks.list (show A.in1.in1.in1.handled = none by simp [hh]) _ l ne1 its).toS) s.heap.objs.size out ns len (by show _ < 4096; omega) val (its.size - 0) 0 _ (by omega) (Nat.zero_le _) ⟨⟨_, Heap.get?_push_size _ rfl, rfl, rfl⟩, hl2.push _⟩ ⟨0, Nat.le_refl 0, setR_new_at ?_⟩ ?_
      · rw [hled]
        exact Heap.get?_push_of_some _ at0
      · rintro ⟨h', g', d', tk', os'⟩ c m hc hS'
        obtain rfl : g' = s.gens := m.gens
        obtain rfl : d' = s.drawn := m.drawn
        obtain rfl : os' = s.os := m.os
        refine wpAny_pure (wpAny_pure ⟨rfl, h', tk', c, rfl, hS', by omega, fun b o hb e => ?_⟩)
        refine m.heap b o (fun mm => ?_) (Heap.get?_push_of_some _ (Heap.get?_push_of_some _ e))
        rcases List.mem_cons.mp mm with e1 | mm
        · exact absurd e1 (Nat.ne_of_lt hb)
        · have e2 : b = (s.heap.push { cls := .type "set", dict := none, data := .set #[] 0 (.fresh 0 0 led) }).objs.size := List.mem_singleton.mp mm
          rw [top] at e2
          omega
    · rintro (e | _ | _ | _ | v) s₂ z
      · exact z
      · exact z.elim
      · exact z.elim
      · exact z.elim
      · obtain ⟨rfl, h', tk, c, rfl, hS', hc, kp⟩ := z
        repeat (any_goals (first | assumption | wp_step))
        exact h _ _ _ hS' hc kp
end
section
variable {X : Cx}
def rSetL (w : World) (K : PySem.W.Frag) : List V → Hp → VK → Prop := fun vs H Q => ∃ (l : Addr) (ns : List Int), vs = [.ref l] ∧ SqL K H l (ns.map V.int) ∧ ns.length < 1000 ∧
  ∀ (p : Addr) (c : Nat), H p = none → c ≤ ns.length → Q (.ref p) (upd H p (SetO w p (fun j => decide (j ∈ ns)) c))
/-- set(numbers) of a list -/
theorem cr_setL {w : World} (hc : X.calm = true) (hw : X.w = w) : CallR X (.type "set") (rSetL w X.K) := by
  subst hw
  intro pins s σ H vs us Q I r h
  obtain ⟨l, ns, rfl, hq, small, q⟩ := h
  rw [Vals.ref1 r]
  obtain ⟨its, rv, pl, _⟩ := I.list hq
  refine ints_of_list (I.ok.hd hc) pl.isList (by simpa using ints_of_vals rv) small fun h' tk c hS le kp => ?_
  have n := I.hok.fresh (Nat.le_refl s.heap.objs.size)
  exact ⟨.ref _, upd H s.heap.objs.size (SetO X.w s.heap.objs.size (fun j => decide (j ∈ ns)) c), I.laid (t' := tk) (fun b u e => kp b u (Heap.lt_size e) e) (Nat.le_refl _) (setO_new hS), rfl, q _ c n le⟩
theorem vals_snd : ∀ {kvs : List (Key × V)} {vs : List (Key × Value)}, KV kvs vs → Vals (kvs.map (·.2)) (vs.map (·.2))
  | _, _, .nil => .nil
  | _, _, .cons h t => .cons h.2 (vals_snd t)
variable {e : Expr} {te : TE} {p apos cpos pos : Pos}
def tListVals (te : TE) : TE := fun σ H Q => te σ H fun x H1 => ∃ (d : Addr) (kvs : List (Key × V)), x = .ref d ∧ H1 d = some (.dK kvs) ∧ ∀ l, H1 l = none → Q (.ref l) (upd H1 l (.lst (kvs.map (·.2))))
/-- list(e.values()) -/
theorem pe_listVals (hc : X.calm = true) (he : PE X e te) (hg : Gl X "list") (hm : X.mg "list" = none) (hv : bootBuiltins "list" = some (.type "list")) (hbase : attributeBase e "values" X.env (eval e X.env) = eval e X.env := by rfl) (hline : (apos.endLine == cpos.line) = true := by rfl)
    (hs : starEach [.Call (.Attribute e "values" apos) [] [] cpos] X.env = (false, eval (.Call (.Attribute e "values" apos) [] [] cpos) X.env) :: starEach [] X.env := by rfl) :
    PE X (.Call (.Name "list" p) [.Call (.Attribute e "values" apos) [] [] cpos] [] pos) (tListVals te) := by
  refine ⟨fun pins s σ H Q I z => wpAny_Call_Name_kw (ld_blt I hg hm hv (PyProof.Rows.callWith_type1 ?_ hs rfl))⟩
  rw [hs]
  refine Calls.spliced_cons (wpAny_Call_method (T := "dict") (id := "dict.values") hbase rfl hline PySem.F.plainAttrs_dict PySem.F.slot_dict_values PySem.F.type_dict_values (thn (he.run pins s σ H _ I z) ?_))
  rintro u s1 ⟨x, H1, I1, rx, d, kvs, rfl, hd, q⟩
  cases rx
  obtain ⟨len, notMods, vs, kv, isDict⟩ := I1.hok d _ hd
  obtain ⟨ep, stands⟩ := isDict.dictAt
  have same : kvs.length = vs.length := Paired.length kv
  refine ⟨isDict.typeIs, isDict.mapOf.noDict, method_meetsIn PySem.F.slot_dict_values PySem.F.entry_dict_values rfl (PySem.evalArgs_none ⟨rfl, isDict.typeIs, PySem.F.args_dict_values_1 _, _, meets_dict_values (mixKind X.prog X.w) d notMods, ⟨vs, isDict⟩, Calls.spliced_nil ?_⟩)⟩
  have J : Inv X pins σ H1 { s1 with heap := s1.heap.push { cls := .type "dict_values", data := .fields #[.ref d] } } := I1.kept (t' := s1.toks) fun _ _ there => Heap.get?_push_of_some _ there
  refine PySem.W.kdl_call (PySem.W.kdl_values (knd := mixKind X.prog X.w) (kvs := vs) (ep := ep) (r := s1.heap.objs.size) (d := d)) (I1.ok.hd hc) ⟨⟨_, Heap.get?_push_size _ rfl, rfl, rfl⟩, stands.push _⟩ (by omega) fun h' tk acc c' kp at0 its => ?_
  have all : acc.toList = vs.map (·.2) := PySem.W.kdl_vals_eq acc.toList (by rw [Array.length_toList]; exact its.1) fun j v e => its.2 j v (by rw [← Array.getElem?_toList]; exact e)
  refine ⟨.ref _, upd H1 _ (.lst (kvs.map (·.2))), J.laid (t' := tk) kp (Nat.le_refl _) ⟨by rw [List.length_map]; exact len, acc.toList, c', by rw [all]; exact vals_snd kv, ?_⟩, rfl, q _ (J.hok.fresh (Nat.le_refl _))⟩
  rw [Array.toArray_toList]
  exact at0
end
end Own

/-! tuple(xs) whose very object is kept in mind; dict(t) of such a tuple of pairs. -/
namespace Own
open PySem PySem.Spec PyProof.Rows L2
section
variable {X : Cx}
theorem call_tupleF : CallR X (.type "tuple") (fun xs H Q => ∃ p ys, xs = [.ref p] ∧ SqL X.K H p ys ∧ ∀ (l : Addr) (o : Obj), H l = none → o.cls = .type "tuple" → o.dict = none → Q (.ref l) (upd H l (.frz o (.tup ys)))) := by
  intro pins s σ H xs us Q I r h
  obtain ⟨p, ys, rfl, hq, q⟩ := h
  obtain ⟨u, rfl, rx⟩ := vals1 r
  cases rx
  obtain ⟨its, r', pl, hz⟩ := I.list hq
  have hlen := r'.length
  refine call_tuple_list pl.isList (fun h' kp => ?_) (by simp only [List.size_toArray] <;> omega)
  have I1 : Inv X pins σ H { s with heap := h' } := I.kept (t' := s.toks) kp
  have I2 : Inv X pins σ (upd H h'.objs.size (.frz { cls := .type "tuple", data := .seq its.toArray } (.tup ys))) { s with heap := h'.push { cls := .type "tuple", data := .seq its.toArray } } :=
    I1.laid (t' := s.toks) (fun b o e => Heap.get?_push_of_some _ e) (Nat.le_refl _) ⟨Heap.get?_push_size _ rfl, hz, its, r', IsTup.new _ _⟩
  exact ⟨.ref h'.objs.size, _, I2, rfl, q _ _ (I1.hok.fresh (Nat.le_refl _)) rfl rfl⟩
theorem call_dictF (hcalm : X.calm = true) : CallR X (.type "dict") (fun xs H Q => ∃ (a : Addr) (o : Obj) (ps : List Addr) (kvs : List (Key × V)), xs = [.ref a] ∧ H a = some (.frz o (.tup (ps.map V.ref))) ∧ o.dict = none ∧ Paired (fun p kv => SqT X.K H p [kV kv.1, kv.2]) ps kvs ∧
    ∀ p, H p = none → Q (.ref p) (upd H p (.dK (mergeK [] kvs)))) := by
  intro pins s σ H xs us Q I r q
  obtain ⟨a, o, ps, kvs, ex, hq, nd, hp, q⟩ := q
  subst ex
  obtain ⟨u, eu, rx⟩ := vals1 r
  subst eu
  cases rx
  obtain ⟨ho, hz, its, rv, o', ho', hc, n, hdat⟩ := I.hok a _ hq
  rw [ho] at ho'
  cases ho'
  have ei := refs_at rv
  subst ei
  rw [List.length_map] at hz
  obtain ⟨prs, rel, hl, hpr⟩ := pairs_of I hp
  have each : ∀ j : Nat, ∃ u : Value, ∀ q, prs[j]? = some q → ∃ b, ps[j]? = some b ∧ IsTup s.heap b #[u, q.2] ∧ keyIs q.1 u = true := fun j => by
    cases e : prs[j]? with
    | none => exact ⟨.none, fun q h => by cases h⟩
    | some q0 =>
      obtain ⟨b, u, h1, h2, h3⟩ := hpr j q0 e
      exact ⟨u, fun q h => by cases h; exact ⟨b, h1, h2, h3⟩⟩
  obtain ⟨f, hf⟩ := Classical.axiomOfChoice each
  generalize hps : (List.range prs.length).map (fun j => (f j, (prs[j]?.map (·.2)).getD Value.none)) = psv
  have lpv : psv.length = prs.length := by rw [← hps, List.length_map, List.length_range]
  have atv : ∀ (j : Nat) (k v : Value), psv[j]? = some (k, v) → ∃ q, prs[j]? = some q ∧ k = f j ∧ v = q.2 := fun j k v h => by
    have hj : j < prs.length := by
      have := (List.getElem?_eq_some_iff.mp h).1
      omega
    rw [← hps, List.getElem?_map, List.getElem?_range hj] at h
    have e := List.getElem?_eq_getElem hj
    have h : some (f j, (prs[j]?.map (·.2)).getD Value.none) = some (k, v) := h
    rw [e] at h
    cases h
    exact ⟨_, e, rfl, rfl⟩
  have items : PairItems s.heap (ps.map Value.ref).toArray (fun j => ps.getD j 0) psv := ⟨by simp [lpv, hl], fun j k v h => by
    obtain ⟨q, hq', rfl, rfl⟩ := atv j k v h
    obtain ⟨b, h1, h2, _⟩ := hf j q hq'
    have e : ps.getD j 0 = b := by simp [h1]
    dsimp only
    rw [e]
    exact ⟨by simp [h1], .inl (by obtain ⟨o, a1, a2, n, a3⟩ := h2; exact ⟨o, a1, a2, n, a3⟩)⟩⟩
  refine PySem.call_dict_pairs (knd := mixKind X.prog X.w) (kvs := prs) (PairArg.tuple a (ps.map Value.ref).toArray (fun j => ps.getD j 0) psv) (I.ok.hd hcalm) ⟨⟨o, n, ho, hc, nd, hdat⟩, items⟩ ⟨lpv.symm, fun i key v h => ?_⟩ (by omega) fun h' tk hd' k => ?_
  · obtain ⟨q, hq', rfl, rfl⟩ := atv i key v h
    obtain ⟨b, _, _, h3⟩ := hf i q hq'
    exact ⟨q.1, hq', h3⟩
  · have hm : (s.heap.objs.size == sysModules) = false := beq_eq_false_iff_ne.mpr (Nat.ne_of_gt I.big)
    have hlen : (mergeK [] kvs).length ≤ sizeLine := by
      refine Nat.le_trans (length_mergeK kvs []) ?_
      rw [List.length_nil, Nat.zero_add, rel.length, hl]
      exact hz
    exact ⟨.ref s.heap.objs.size, upd H s.heap.objs.size (.dK (mergeK [] kvs)), I.laid (t' := tk) (fun b o e => k b o (by simp) e) (Nat.le_refl _) (show ObjOk X.prog X.w _ _ _ (.dK (mergeK [] kvs)) from ⟨hlen, hm, merged [] prs, KV.merge rel .nil, hd'⟩), rfl, q _ (I.hok.fresh (Nat.le_refl _))⟩
end
end Own

/-! Law k51 over the landed papers: by hand, over the layer. -/
namespace Own
open PySem PySem.Spec PyProof.Rows L2
/-! ### the text -/
/-- the k-th block of a statement -/
def blkOf (s : Stmt) (k : Nat) : List Stmt := match s with
  | .If _ a b _ => if k = 0 then a else b
  | .For _ _ a _ _ => a
  | .While _ a _ _ => a
  | .Try a hs _ _ _ => match k, hs with
    | 0, _ => a
    | j + 1, hs => match hs[j]? with
      | some (.ExceptHandler _ _ b _) => b
      | none => []
  | _ => []
abbrev noE : Expr := .Constant .none 0 ⟨0, 0, 0, 0⟩
/-- a statement's own expression; the k-th part of an expression -/
def rootE (s : Stmt) : Expr := match s with
  | .Assign _ v _ => v
  | .Return (some v) _ => v
  | .Expr v _ => v
  | .AugAssign _ _ v _ => v
  | .If t _ _ _ => t
  | .While t _ _ _ => t
  | .For _ i _ _ _ => i
  | _ => noE
def subE (e : Expr) (k : Nat) : Expr := match e with
  | .BinOp a _ b _ => if k = 0 then a else b
  | .BoolOp _ vs _ => vs.getD k noE
  | .UnaryOp _ a _ => a
  | .Compare a _ cs _ => (a :: cs).getD k noE
  | .Call f as kws _ => (f :: (as ++ kws.map (·.value))).getD k noE
  | .Attribute a _ _ => a
  | .Subscript a b _ => if k = 0 then a else b
  | .Tuple es _ _ => es.getD k noE
  | .List es _ => es.getD k noE
  | .IfExp c a b _ => [c, a, b].getD k noE
  | .Slice a b c _ => ([a, b, c].getD k none).getD noE
  | .ListComp a gs _ _ => match gs with
    | g :: _ => ([a, g.iter, g.target] ++ g.ifs).getD k noE
    | [] => noE
  | .DictComp a b gs _ _ => match gs with
    | g :: _ => ([a, b, g.iter, g.target] ++ g.ifs).getD k noE
    | [] => noE
  | _ => noE
def lcScope (e : Expr) : Scope := match e with
  | .ListComp _ _ sc _ => sc
  | .DictComp _ _ _ sc _ => sc
  | _ => { kind := .function, names := [], isGenerator := false, isCoroutine := false }
def lcG (e : Expr) (k : Nat) : Comprehension := match e with
  | .ListComp _ gs _ _ => gs.getD k ⟨noE, noE, [], 0⟩
  | .DictComp _ _ gs _ _ => gs.getD k ⟨noE, noE, [], 0⟩
  | _ => ⟨noE, noE, [], 0⟩
def lcIfs (e : Expr) : List Expr := match e with
  | .ListComp _ (g :: _) _ _ => g.ifs
  | .DictComp _ _ (g :: _) _ _ => g.ifs
  | _ => []
def topS (i : Nat) : Stmt := PySem.Challenge.pw_voicefold_k57_slack_counted.main.body.getD i (.Pass ⟨0, 0, 0, 0⟩)
abbrev s_PollError_init : Stmt := inClass (topS 2) 0
theorem sc_PollError_init : FnScope ["self", "why"] ["self", "why"] (defScope s_PollError_init) := ⟨rfl, rfl, rfl, by decide +kernel, rfl, by decide +kernel, by decide +kernel⟩
abbrev s_is_whole : Stmt := topS 9
theorem sc_is_whole : FnScope ["thing"] ["thing"] (defScope s_is_whole) := ⟨rfl, rfl, rfl, by decide +kernel, rfl, by decide +kernel, by decide +kernel⟩
abbrev s_is_name : Stmt := topS 10
theorem sc_is_name : FnScope ["thing", "sign"] ["thing"] (defScope s_is_name) := ⟨rfl, rfl, rfl, by decide +kernel, rfl, by decide +kernel, by decide +kernel⟩
abbrev s_is_tuple_of : Stmt := topS 11
theorem sc_is_tuple_of : FnScope ["thing", "many"] ["thing", "many"] (defScope s_is_tuple_of) := ⟨rfl, rfl, rfl, by decide +kernel, rfl, by decide +kernel, by decide +kernel⟩
abbrev s_are_names : Stmt := topS 15
theorem sc_are_names : FnScope ["thing", "name"] ["thing"] (defScope s_are_names) := ⟨rfl, rfl, rfl, by decide +kernel, rfl, by decide +kernel, by decide +kernel⟩
abbrev s_are_options : Stmt := topS 16
theorem sc_are_options : FnScope ["thing"] ["thing"] (defScope s_are_options) := ⟨rfl, rfl, rfl, by decide +kernel, rfl, by decide +kernel, by decide +kernel⟩
abbrev s_is_option : Stmt := topS 17
theorem sc_is_option : FnScope ["options", "thing"] ["options", "thing"] (defScope s_is_option) := ⟨rfl, rfl, rfl, by decide +kernel, rfl, by decide +kernel, by decide +kernel⟩
abbrev s_are_unlike_options : Stmt := topS 18
theorem sc_are_unlike_options : FnScope ["options", "names", "name"] ["options", "names"] (defScope s_are_unlike_options) := ⟨rfl, rfl, rfl, by decide +kernel, rfl, by decide +kernel, by decide +kernel⟩
abbrev s_is_mark : Stmt := topS 22
theorem sc_is_mark : FnScope ["thing"] ["thing"] (defScope s_is_mark) := ⟨rfl, rfl, rfl, by decide +kernel, rfl, by decide +kernel, by decide +kernel⟩
abbrev s_are_tiers : Stmt := topS 20
theorem sc_are_tiers : FnScope ["options", "told", "tier", "name"] ["options", "told"] (defScope s_are_tiers) := ⟨rfl, rfl, rfl, by decide +kernel, rfl, by decide +kernel, by decide +kernel⟩
abbrev s_are_marks : Stmt := topS 21
theorem sc_are_marks : FnScope ["options", "told", "pair"] ["options", "told"] (defScope s_are_marks) := ⟨rfl, rfl, rfl, by decide +kernel, rfl, by decide +kernel, by decide +kernel⟩
abbrev s_is_ballot : Stmt := topS 19
theorem sc_is_ballot : FnScope ["options", "thing", "form", "told"] ["options", "thing"] (defScope s_is_ballot) := ⟨rfl, rfl, rfl, by decide +kernel, rfl, by decide +kernel, by decide +kernel⟩
abbrev s_is_row : Stmt := topS 44
theorem sc_is_row : FnScope ["options", "thing"] ["options", "thing"] (defScope s_is_row) := ⟨rfl, rfl, rfl, by decide +kernel, rfl, by decide +kernel, by decide +kernel⟩
abbrev s_check_poll : Stmt := topS 43
theorem sc_check_poll : FnScope ["options", "voices", "row"] ["options", "voices"] (defScope s_check_poll) := ⟨rfl, rfl, rfl, by decide +kernel, rfl, by decide +kernel, by decide +kernel⟩
abbrev s_Poll_init : Stmt := inClass (topS 42) 0
theorem sc_Poll_init : FnScope ["self", "options", "voices"] ["self", "options", "voices"] (defScope s_Poll_init) := ⟨rfl, rfl, rfl, by decide +kernel, rfl, by decide +kernel, by decide +kernel⟩
abbrev s_is_lot_of : Stmt := topS 34
theorem sc_is_lot_of : FnScope ["options", "thing", "both", "name"] ["options", "thing", "both"] (defScope s_is_lot_of) := ⟨rfl, rfl, rfl, by decide +kernel, rfl, by decide +kernel, by decide +kernel⟩
abbrev s_is_claim : Stmt := topS 33
theorem sc_is_claim : FnScope ["options", "thing"] ["options", "thing"] (defScope s_is_claim) := ⟨rfl, rfl, rfl, by decide +kernel, rfl, by decide +kernel, by decide +kernel⟩
abbrev s_check_claim : Stmt := topS 35
theorem sc_check_claim : FnScope ["options", "claim"] ["options", "claim"] (defScope s_check_claim) := ⟨rfl, rfl, rfl, by decide +kernel, rfl, by decide +kernel, by decide +kernel⟩
abbrev s_order_ranks : Stmt := topS 24
theorem sc_order_ranks : FnScope ["options", "told", "found", "at", "tier", "name"] ["options", "told"] (defScope s_order_ranks) := ⟨rfl, rfl, rfl, by decide +kernel, rfl, by decide +kernel, by decide +kernel⟩
abbrev s_ranks : Stmt := topS 23
theorem sc_ranks : FnScope ["options", "ballot", "form", "told", "marks", "name", "mark"] ["options", "ballot"] (defScope s_ranks) := ⟨rfl, rfl, rfl, by decide +kernel, rfl, by decide +kernel, by decide +kernel⟩
abbrev s_tiers : Stmt := topS 25
theorem sc_tiers : FnScope ["options", "ballot", "rank", "levels", "level", "name"] ["options", "ballot"] (defScope s_tiers) := ⟨rfl, rfl, rfl, by decide +kernel, rfl, by decide +kernel, by decide +kernel⟩
abbrev s_alone_at : Stmt := topS 29
theorem sc_alone_at : FnScope ["poll", "at", "found", "ballot", "many", "tier", "name"] ["poll", "at"] (defScope s_alone_at) := ⟨rfl, rfl, rfl, by decide +kernel, rfl, by decide +kernel, by decide +kernel⟩
abbrev s_firsts : Stmt := topS 28
theorem sc_firsts : FnScope ["poll"] ["poll"] (defScope s_firsts) := ⟨rfl, rfl, rfl, by decide +kernel, rfl, by decide +kernel, by decide +kernel⟩
abbrev s_ranked : Stmt := topS 27
theorem sc_ranked : FnScope ["poll", "ballot", "many"] ["poll"] (defScope s_ranked) := ⟨rfl, rfl, rfl, by decide +kernel, rfl, by decide +kernel, by decide +kernel⟩
abbrev s_tally_by : Stmt := topS 31
theorem sc_tally_by : FnScope ["rows", "left", "found", "rank", "many", "least", "foremost", "name"] ["rows", "left"] (defScope s_tally_by) := ⟨rfl, rfl, rfl, by decide +kernel, rfl, by decide +kernel, by decide +kernel⟩
abbrev s_lead : Stmt := topS 37
theorem sc_lead : FnScope ["poll", "claim", "one", "other", "rows", "held", "rank", "many"] ["poll", "claim"] (defScope s_lead) := ⟨rfl, rfl, rfl, by decide +kernel, rfl, by decide +kernel, by decide +kernel⟩
abbrev s_Poll_many : Stmt := inClass (topS 42) 3
theorem sc_Poll_many : FnScope ["self", "_", "many"] ["self"] (defScope s_Poll_many) := ⟨rfl, rfl, rfl, by decide +kernel, rfl, by decide +kernel, by decide +kernel⟩
abbrev s_check_claims : Stmt := topS 36
theorem sc_check_claims : FnScope ["options", "claims", "claim"] ["options", "claims"] (defScope s_check_claims) := ⟨rfl, rfl, rfl, by decide +kernel, rfl, by decide +kernel, by decide +kernel⟩
abbrev s_slack : Stmt := topS 38
theorem sc_slack : FnScope ["poll", "claims", "least", "claim"] ["poll", "claims"] (defScope s_slack) := ⟨rfl, rfl, rfl, by decide +kernel, rfl, by decide +kernel, by decide +kernel⟩
abbrev s_law_mixed : Stmt := topS 47
theorem sc_law_mixed : FnScope ["_law_cell", "_law_k", "_law_figure"] ["_law_cell", "_law_k"] (defScope s_law_mixed) := ⟨rfl, rfl, rfl, by decide +kernel, rfl, by decide +kernel, by decide +kernel⟩
abbrev s_law_source : Stmt := topS 48
theorem sc_law_source : FnScope ["_law_cell"] ["_law_cell"] (defScope s_law_source) := ⟨rfl, rfl, rfl, by decide +kernel, rfl, by decide +kernel, by decide +kernel⟩
abbrev s_law_take : Stmt := topS 49
theorem sc_law_take : FnScope ["_law_source_here", "_law_size", "_law_found"] ["_law_source_here", "_law_size"] (defScope s_law_take) := ⟨rfl, rfl, rfl, by decide +kernel, rfl, by decide +kernel, by decide +kernel⟩
abbrev s_law_one : Stmt := topS 50
theorem sc_law_one : FnScope ["_law_source_here", "_law_some"] ["_law_source_here", "_law_some"] (defScope s_law_one) := ⟨rfl, rfl, rfl, by decide +kernel, rfl, by decide +kernel, by decide +kernel⟩
abbrev s_law_shuffled : Stmt := topS 51
theorem sc_law_shuffled : FnScope ["_law_source_here", "_law_some", "_law_left", "_law_found"] ["_law_source_here", "_law_some"] (defScope s_law_shuffled) := ⟨rfl, rfl, rfl, by decide +kernel, rfl, by decide +kernel, by decide +kernel⟩
abbrev s_law_names : Stmt := topS 52
theorem sc_law_names : FnScope ["_law_source_here", "_law_size", "_law_letters", "_law_start", "_law_stem", "_law_mark", "_law_found", "_law_k", "_law_word"] ["_law_source_here", "_law_size"] (defScope s_law_names) := ⟨rfl, rfl, rfl, by decide +kernel, rfl, by decide +kernel, by decide +kernel⟩
abbrev s_law_ballot : Stmt := topS 53
theorem sc_law_ballot : FnScope ["_law_source_here", "_law_people", "_law_row", "_law_kind", "_law_steps", "_law_name"] ["_law_source_here", "_law_people"] (defScope s_law_ballot) := ⟨rfl, rfl, rfl, by decide +kernel, rfl, by decide +kernel, by decide +kernel⟩
abbrev s_law_rows : Stmt := topS 54
theorem sc_law_rows : FnScope ["_law_source_here", "_law_people", "_law_size", "_law_found", "_law_k", "_law_way", "_law_much"] ["_law_source_here", "_law_people", "_law_size"] (defScope s_law_rows) := ⟨rfl, rfl, rfl, by decide +kernel, rfl, by decide +kernel, by decide +kernel⟩
abbrev s_law_high : Stmt := topS 55
theorem sc_law_high : FnScope ["_law_ballot_here", "_law_name", "_law_word", "_law_things", "_law_found", "_law_k"] ["_law_ballot_here", "_law_name"] (defScope s_law_high) := ⟨rfl, rfl, rfl, by decide +kernel, rfl, by decide +kernel, by decide +kernel⟩
abbrev s_law_counts : Stmt := topS 56
theorem sc_law_counts : FnScope ["_law_rows_here", "_law_left", "_law_found", "_law_ballot_here", "_law_much", "_law_highs", "_law_name"] ["_law_rows_here", "_law_left"] (defScope s_law_counts) := ⟨rfl, rfl, rfl, by decide +kernel, rfl, by decide +kernel, by decide +kernel⟩
abbrev s_law_lead : Stmt := topS 57
theorem sc_law_lead : FnScope ["_law_rows_here", "_law_people", "_law_claim_here", "_law_one_here", "_law_other", "_law_counts_here", "_law_against", "_law_ballot_here", "_law_much"] ["_law_rows_here", "_law_people", "_law_claim_here"] (defScope s_law_lead) := ⟨rfl, rfl, rfl, by decide +kernel, rfl, by decide +kernel, by decide +kernel⟩
abbrev s_law_claim : Stmt := topS 58
theorem sc_law_claim : FnScope ["_law_source_here", "_law_people", "_law_one_here", "_law_other", "_law_kept", "_law_name"] ["_law_source_here", "_law_people"] (defScope s_law_claim) := ⟨rfl, rfl, rfl, by decide +kernel, rfl, by decide +kernel, by decide +kernel⟩
abbrev s_law_no_claim : Stmt := topS 59
theorem sc_law_no_claim : FnScope ["_law_source_here", "_law_people", "_law_one_here", "_law_other", "_law_row", "_law_fresh", "_law_odd", "_law_letter"] ["_law_source_here", "_law_people"] (defScope s_law_no_claim) := ⟨rfl, rfl, rfl, by decide +kernel, rfl, by decide +kernel, by decide +kernel⟩
abbrev s_law_due : Stmt := topS 60
theorem sc_law_due : FnScope ["_law_rows_here", "_law_people", "_law_claims", "_law_leads", "_law_claim_here", "_law_ballot_here", "_law_much"] ["_law_rows_here", "_law_people", "_law_claims"] (defScope s_law_due) := ⟨rfl, rfl, rfl, by decide +kernel, rfl, by decide +kernel, by decide +kernel⟩
abbrev s_law_is_refused : Stmt := topS 61
theorem sc_law_is_refused : FnScope ["_law_poll", "_law_claims", "e"] ["_law_poll", "_law_claims"] (defScope s_law_is_refused) := ⟨rfl, rfl, rfl, by decide +kernel, rfl, by decide +kernel, by decide +kernel⟩
abbrev s_law : Stmt := topS 62
theorem sc_law : FnScope ["_law_script", "_law_cell", "_law_source_here", "_law_people", "_law_rows_here", "_law_poll", "_law_some", "_law_good", "_law_claims", "_law_handed", "_law_spot", "_law_bad", "_law_k", "_law_claim_here"] ["_law_script"] (defScope s_law) := ⟨rfl, rfl, rfl, by decide +kernel, rfl, by decide +kernel, by decide +kernel⟩
structure Txt (K : PySem.W.Frag) (mg : Str → Option Value) where
  f_PollError_init : Addr
  fd_PollError_init : FuncData
  F_PollError_init : FunD K "__init__" "PollError.__init__" (defArgs s_PollError_init) (defBody s_PollError_init) (defScope s_PollError_init) [.str ""] [] f_PollError_init fd_PollError_init
  gkb_PollError_init_2 : List Value → List Value → List Value
  kb_PollError_init_2 : KBn K fd_PollError_init ["self", "why"] 2 [] gkb_PollError_init_2 (fun vs zs => vs)
  f_is_whole : Addr
  fd_is_whole : FuncData
  F_is_whole : Fun K "is_whole" "is_whole" s_is_whole f_is_whole fd_is_whole
  b_is_whole : Binds K fd_is_whole ["thing"] []
  g_is_whole : mg "is_whole" = some (.ref f_is_whole)
  f_is_name : Addr
  fd_is_name : FuncData
  F_is_name : Fun K "is_name" "is_name" s_is_name f_is_name fd_is_name
  b_is_name : Binds K fd_is_name ["thing"] []
  g_is_name : mg "is_name" = some (.ref f_is_name)
  f_is_tuple_of : Addr
  fd_is_tuple_of : FuncData
  F_is_tuple_of : Fun K "is_tuple_of" "is_tuple_of" s_is_tuple_of f_is_tuple_of fd_is_tuple_of
  b_is_tuple_of : Binds K fd_is_tuple_of ["thing", "many"] []
  g_is_tuple_of : mg "is_tuple_of" = some (.ref f_is_tuple_of)
  f_are_names : Addr
  fd_are_names : FuncData
  F_are_names : Fun K "are_names" "are_names" s_are_names f_are_names fd_are_names
  b_are_names : Binds K fd_are_names ["thing"] []
  g_are_names : mg "are_names" = some (.ref f_are_names)
  f_are_options : Addr
  fd_are_options : FuncData
  F_are_options : Fun K "are_options" "are_options" s_are_options f_are_options fd_are_options
  b_are_options : Binds K fd_are_options ["thing"] []
  g_are_options : mg "are_options" = some (.ref f_are_options)
  f_is_option : Addr
  fd_is_option : FuncData
  F_is_option : Fun K "is_option" "is_option" s_is_option f_is_option fd_is_option
  b_is_option : Binds K fd_is_option ["options", "thing"] []
  g_is_option : mg "is_option" = some (.ref f_is_option)
  f_are_unlike_options : Addr
  fd_are_unlike_options : FuncData
  F_are_unlike_options : Fun K "are_unlike_options" "are_unlike_options" s_are_unlike_options f_are_unlike_options fd_are_unlike_options
  b_are_unlike_options : Binds K fd_are_unlike_options ["options", "names"] []
  g_are_unlike_options : mg "are_unlike_options" = some (.ref f_are_unlike_options)
  f_is_mark : Addr
  fd_is_mark : FuncData
  F_is_mark : Fun K "is_mark" "is_mark" s_is_mark f_is_mark fd_is_mark
  b_is_mark : Binds K fd_is_mark ["thing"] []
  g_is_mark : mg "is_mark" = some (.ref f_is_mark)
  f_are_tiers : Addr
  fd_are_tiers : FuncData
  F_are_tiers : Fun K "are_tiers" "are_tiers" s_are_tiers f_are_tiers fd_are_tiers
  b_are_tiers : Binds K fd_are_tiers ["options", "told"] []
  g_are_tiers : mg "are_tiers" = some (.ref f_are_tiers)
  f_are_marks : Addr
  fd_are_marks : FuncData
  F_are_marks : Fun K "are_marks" "are_marks" s_are_marks f_are_marks fd_are_marks
  b_are_marks : Binds K fd_are_marks ["options", "told"] []
  g_are_marks : mg "are_marks" = some (.ref f_are_marks)
  f_is_ballot : Addr
  fd_is_ballot : FuncData
  F_is_ballot : Fun K "is_ballot" "is_ballot" s_is_ballot f_is_ballot fd_is_ballot
  b_is_ballot : Binds K fd_is_ballot ["options", "thing"] []
  g_is_ballot : mg "is_ballot" = some (.ref f_is_ballot)
  f_is_row : Addr
  fd_is_row : FuncData
  F_is_row : Fun K "is_row" "is_row" s_is_row f_is_row fd_is_row
  b_is_row : Binds K fd_is_row ["options", "thing"] []
  g_is_row : mg "is_row" = some (.ref f_is_row)
  f_check_poll : Addr
  fd_check_poll : FuncData
  F_check_poll : Fun K "check_poll" "check_poll" s_check_poll f_check_poll fd_check_poll
  b_check_poll : Binds K fd_check_poll ["options", "voices"] []
  g_check_poll : mg "check_poll" = some (.ref f_check_poll)
  gkb_check_poll_2 : List Value → List Value → List Value
  kb_check_poll_2 : KBn K fd_check_poll ["options", "voices"] 2 [] gkb_check_poll_2 (fun vs zs => vs)
  f_Poll_init : Addr
  fd_Poll_init : FuncData
  e_Poll_init : Addr
  F_Poll_init : FunD K "__init__" "Poll.__init__" (defArgs s_Poll_init) (defBody s_Poll_init) (defScope s_Poll_init) [.ref e_Poll_init] [] f_Poll_init fd_Poll_init
  gkb_Poll_init_3 : List Value → List Value → List Value
  kb_Poll_init_3 : KBn K fd_Poll_init ["self", "options", "voices"] 3 [] gkb_Poll_init_3 (fun vs zs => vs)
  f_is_lot_of : Addr
  fd_is_lot_of : FuncData
  F_is_lot_of : Fun K "is_lot_of" "is_lot_of" s_is_lot_of f_is_lot_of fd_is_lot_of
  b_is_lot_of : Binds K fd_is_lot_of ["options", "thing", "both"] []
  g_is_lot_of : mg "is_lot_of" = some (.ref f_is_lot_of)
  f_is_claim : Addr
  fd_is_claim : FuncData
  F_is_claim : Fun K "is_claim" "is_claim" s_is_claim f_is_claim fd_is_claim
  b_is_claim : Binds K fd_is_claim ["options", "thing"] []
  g_is_claim : mg "is_claim" = some (.ref f_is_claim)
  f_check_claim : Addr
  fd_check_claim : FuncData
  F_check_claim : Fun K "check_claim" "check_claim" s_check_claim f_check_claim fd_check_claim
  b_check_claim : Binds K fd_check_claim ["options", "claim"] []
  g_check_claim : mg "check_claim" = some (.ref f_check_claim)
  gkb_check_claim_2 : List Value → List Value → List Value
  kb_check_claim_2 : KBn K fd_check_claim ["options", "claim"] 2 [] gkb_check_claim_2 (fun vs zs => vs)
  f_order_ranks : Addr
  fd_order_ranks : FuncData
  F_order_ranks : Fun K "order_ranks" "order_ranks" s_order_ranks f_order_ranks fd_order_ranks
  b_order_ranks : Binds K fd_order_ranks ["options", "told"] []
  g_order_ranks : mg "order_ranks" = some (.ref f_order_ranks)
  f_ranks : Addr
  fd_ranks : FuncData
  F_ranks : Fun K "ranks" "ranks" s_ranks f_ranks fd_ranks
  b_ranks : Binds K fd_ranks ["options", "ballot"] []
  g_ranks : mg "ranks" = some (.ref f_ranks)
  f_tiers : Addr
  fd_tiers : FuncData
  F_tiers : Fun K "tiers" "tiers" s_tiers f_tiers fd_tiers
  b_tiers : Binds K fd_tiers ["options", "ballot"] []
  g_tiers : mg "tiers" = some (.ref f_tiers)
  f_alone_at : Addr
  fd_alone_at : FuncData
  F_alone_at : Fun K "alone_at" "alone_at" s_alone_at f_alone_at fd_alone_at
  b_alone_at : Binds K fd_alone_at ["poll", "at"] []
  g_alone_at : mg "alone_at" = some (.ref f_alone_at)
  f_firsts : Addr
  fd_firsts : FuncData
  F_firsts : Fun K "firsts" "firsts" s_firsts f_firsts fd_firsts
  b_firsts : Binds K fd_firsts ["poll"] []
  g_firsts : mg "firsts" = some (.ref f_firsts)
  f_ranked : Addr
  fd_ranked : FuncData
  F_ranked : Fun K "ranked" "ranked" s_ranked f_ranked fd_ranked
  b_ranked : Binds K fd_ranked ["poll"] []
  g_ranked : mg "ranked" = some (.ref f_ranked)
  f_tally_by : Addr
  fd_tally_by : FuncData
  F_tally_by : Fun K "tally_by" "tally_by" s_tally_by f_tally_by fd_tally_by
  b_tally_by : Binds K fd_tally_by ["rows", "left"] []
  g_tally_by : mg "tally_by" = some (.ref f_tally_by)
  f_lead : Addr
  fd_lead : FuncData
  F_lead : Fun K "lead" "lead" s_lead f_lead fd_lead
  b_lead : Binds K fd_lead ["poll", "claim"] []
  g_lead : mg "lead" = some (.ref f_lead)
  gkb_lead_2 : List Value → List Value → List Value
  kb_lead_2 : KBn K fd_lead ["poll", "claim"] 2 [] gkb_lead_2 (fun vs zs => vs)
  f_Poll_many : Addr
  fd_Poll_many : FuncData
  F_Poll_many : Fun K "many" "Poll.many" s_Poll_many f_Poll_many fd_Poll_many
  b_Poll_many : Binds K fd_Poll_many ["self"] []
  gkb_Poll_many_1 : List Value → List Value → List Value
  kb_Poll_many_1 : KBn K fd_Poll_many ["self"] 1 [] gkb_Poll_many_1 (fun vs zs => vs)
  f_check_claims : Addr
  fd_check_claims : FuncData
  F_check_claims : Fun K "check_claims" "check_claims" s_check_claims f_check_claims fd_check_claims
  b_check_claims : Binds K fd_check_claims ["options", "claims"] []
  g_check_claims : mg "check_claims" = some (.ref f_check_claims)
  gkb_check_claims_2 : List Value → List Value → List Value
  kb_check_claims_2 : KBn K fd_check_claims ["options", "claims"] 2 [] gkb_check_claims_2 (fun vs zs => vs)
  f_slack : Addr
  fd_slack : FuncData
  F_slack : Fun K "slack" "slack" s_slack f_slack fd_slack
  b_slack : Binds K fd_slack ["poll", "claims"] []
  g_slack : mg "slack" = some (.ref f_slack)
  gkb_slack_2 : List Value → List Value → List Value
  kb_slack_2 : KBn K fd_slack ["poll", "claims"] 2 [] gkb_slack_2 (fun vs zs => vs)
  f_law_mixed : Addr
  fd_law_mixed : FuncData
  F_law_mixed : Fun K "_law_mixed" "_law_mixed" s_law_mixed f_law_mixed fd_law_mixed
  b_law_mixed : Binds K fd_law_mixed ["_law_cell", "_law_k"] []
  g_law_mixed : mg "_law_mixed" = some (.ref f_law_mixed)
  f_law_source : Addr
  fd_law_source : FuncData
  F_law_source : Fun K "_law_source" "_law_source" s_law_source f_law_source fd_law_source
  b_law_source : Binds K fd_law_source ["_law_cell"] []
  g_law_source : mg "_law_source" = some (.ref f_law_source)
  f_law_take : Addr
  fd_law_take : FuncData
  F_law_take : Fun K "_law_take" "_law_take" s_law_take f_law_take fd_law_take
  b_law_take : Binds K fd_law_take ["_law_source_here", "_law_size"] []
  g_law_take : mg "_law_take" = some (.ref f_law_take)
  f_law_one : Addr
  fd_law_one : FuncData
  F_law_one : Fun K "_law_one" "_law_one" s_law_one f_law_one fd_law_one
  b_law_one : Binds K fd_law_one ["_law_source_here", "_law_some"] []
  g_law_one : mg "_law_one" = some (.ref f_law_one)
  f_law_shuffled : Addr
  fd_law_shuffled : FuncData
  F_law_shuffled : Fun K "_law_shuffled" "_law_shuffled" s_law_shuffled f_law_shuffled fd_law_shuffled
  b_law_shuffled : Binds K fd_law_shuffled ["_law_source_here", "_law_some"] []
  g_law_shuffled : mg "_law_shuffled" = some (.ref f_law_shuffled)
  f_law_names : Addr
  fd_law_names : FuncData
  F_law_names : Fun K "_law_names" "_law_names" s_law_names f_law_names fd_law_names
  b_law_names : Binds K fd_law_names ["_law_source_here", "_law_size"] []
  g_law_names : mg "_law_names" = some (.ref f_law_names)
  f_law_ballot : Addr
  fd_law_ballot : FuncData
  F_law_ballot : Fun K "_law_ballot" "_law_ballot" s_law_ballot f_law_ballot fd_law_ballot
  b_law_ballot : Binds K fd_law_ballot ["_law_source_here", "_law_people"] []
  g_law_ballot : mg "_law_ballot" = some (.ref f_law_ballot)
  f_law_rows : Addr
  fd_law_rows : FuncData
  F_law_rows : Fun K "_law_rows" "_law_rows" s_law_rows f_law_rows fd_law_rows
  b_law_rows : Binds K fd_law_rows ["_law_source_here", "_law_people", "_law_size"] []
  g_law_rows : mg "_law_rows" = some (.ref f_law_rows)
  f_law_high : Addr
  fd_law_high : FuncData
  F_law_high : Fun K "_law_high" "_law_high" s_law_high f_law_high fd_law_high
  b_law_high : Binds K fd_law_high ["_law_ballot_here", "_law_name"] []
  g_law_high : mg "_law_high" = some (.ref f_law_high)
  f_law_counts : Addr
  fd_law_counts : FuncData
  F_law_counts : Fun K "_law_counts" "_law_counts" s_law_counts f_law_counts fd_law_counts
  b_law_counts : Binds K fd_law_counts ["_law_rows_here", "_law_left"] []
  g_law_counts : mg "_law_counts" = some (.ref f_law_counts)
  f_law_lead : Addr
  fd_law_lead : FuncData
  F_law_lead : Fun K "_law_lead" "_law_lead" s_law_lead f_law_lead fd_law_lead
  b_law_lead : Binds K fd_law_lead ["_law_rows_here", "_law_people", "_law_claim_here"] []
  g_law_lead : mg "_law_lead" = some (.ref f_law_lead)
  f_law_claim : Addr
  fd_law_claim : FuncData
  F_law_claim : Fun K "_law_claim" "_law_claim" s_law_claim f_law_claim fd_law_claim
  b_law_claim : Binds K fd_law_claim ["_law_source_here", "_law_people"] []
  g_law_claim : mg "_law_claim" = some (.ref f_law_claim)
  f_law_no_claim : Addr
  fd_law_no_claim : FuncData
  F_law_no_claim : Fun K "_law_no_claim" "_law_no_claim" s_law_no_claim f_law_no_claim fd_law_no_claim
  b_law_no_claim : Binds K fd_law_no_claim ["_law_source_here", "_law_people"] []
  g_law_no_claim : mg "_law_no_claim" = some (.ref f_law_no_claim)
  f_law_due : Addr
  fd_law_due : FuncData
  F_law_due : Fun K "_law_due" "_law_due" s_law_due f_law_due fd_law_due
  b_law_due : Binds K fd_law_due ["_law_rows_here", "_law_people", "_law_claims"] []
  g_law_due : mg "_law_due" = some (.ref f_law_due)
  f_law_is_refused : Addr
  fd_law_is_refused : FuncData
  F_law_is_refused : Fun K "_law_is_refused" "_law_is_refused" s_law_is_refused f_law_is_refused fd_law_is_refused
  b_law_is_refused : Binds K fd_law_is_refused ["_law_poll", "_law_claims"] []
  g_law_is_refused : mg "_law_is_refused" = some (.ref f_law_is_refused)
  f_law : Addr
  fd_law : FuncData
  F_law : Fun K "law" "law" s_law f_law fd_law
  b_law : Binds K fd_law ["_law_script"] []
  g_law : mg "law" = some (.ref f_law)
  C_PollError : Addr
  k_PollError : mg "PollError" = some (.ref C_PollError)
  ex_PollError : ExK K C_PollError f_PollError_init
  ox_PollError : OexC K C_PollError
  xf_PollError : XfC K C_PollError
  nf_PollError_why : PySem.W.findIn K (.ref C_PollError) "why" = some none
  rd_PollError : PySem.W.readsIn K C_PollError (.type "type") = true
  ga_PollError : PySem.W.specialIn K (.ref C_PollError) "__getattribute__" = some (some (.builtin "type.__getattribute__"))
  fc_PollError_init : PySem.W.findCls K (.ref C_PollError) (.type "type") "__init__" = some (.val (.ref f_PollError_init))
  C_BadClaim : Addr
  k_BadClaim : mg "BadClaim" = some (.ref C_BadClaim)
  ex_BadClaim : ExK K C_BadClaim f_PollError_init
  ox_BadClaim : OexC K C_BadClaim
  xf_BadClaim : XfC K C_BadClaim
  nf_BadClaim_why : PySem.W.findIn K (.ref C_BadClaim) "why" = some none
  ic_BadClaim : ExcC K C_BadClaim
  C_BadOrder : Addr
  k_BadOrder : mg "BadOrder" = some (.ref C_BadOrder)
  ex_BadOrder : ExK K C_BadOrder f_PollError_init
  ox_BadOrder : OexC K C_BadOrder
  xf_BadOrder : XfC K C_BadOrder
  nf_BadOrder_why : PySem.W.findIn K (.ref C_BadOrder) "why" = some none
  C_BadPoll : Addr
  k_BadPoll : mg "BadPoll" = some (.ref C_BadPoll)
  ex_BadPoll : ExK K C_BadPoll f_PollError_init
  ox_BadPoll : OexC K C_BadPoll
  xf_BadPoll : XfC K C_BadPoll
  nf_BadPoll_why : PySem.W.findIn K (.ref C_BadPoll) "why" = some none
  C_Poll : Addr
  k_Poll : mg "Poll" = some (.ref C_Poll)
  cl_Poll : Cls K C_Poll
  n_Poll_options : NoAttr K C_Poll "options"
  n_Poll_voices : NoAttr K C_Poll "voices"
  mk_Poll : Mk K C_Poll f_Poll_init
  me_Poll_many : Meth K C_Poll "many" f_Poll_many
  te_BadClaim_BadClaim : PySem.W.exmOne K (.ref C_BadClaim) (.ref C_BadClaim) = some true
  kt_BadClaim_BadOrder : PySem.W.kitOne K (.ref C_BadClaim) (.ref C_BadOrder) = some false
  kt_BadClaim_ValueError : PySem.W.kitOne K (.ref C_BadClaim) (.type "ValueError") = some true
  vV : PySem.W.findCls K (.type "ValueError") (.type "type") "__init__" = some (.val (.builtin "ValueError.__init__"))
  z_ValueError : mg "ValueError" = none
  z_isinstance : mg "isinstance" = none
  z_bool : mg "bool" = none
  z_int : mg "int" = none
  z_str : mg "str" = none
  z_len : mg "len" = none
  z_all : mg "all" = none
  z_tuple : mg "tuple" = none
  z_enumerate : mg "enumerate" = none
  z_sorted : mg "sorted" = none
  z_set : mg "set" = none
  z_list : mg "list" = none
  z_min : mg "min" = none
  z_sum : mg "sum" = none
  z_range : mg "range" = none
  z_max : mg "max" = none
  z_dict : mg "dict" = none
  z_zip : mg "zip" = none
  z_repr : mg "repr" = none
  t_LONGEST_NAME : Tok
  c_LONGEST_NAME : mg "LONGEST_NAME" = some (.int 8 t_LONGEST_NAME)
  t_MOST_OPTIONS : Tok
  c_MOST_OPTIONS : mg "MOST_OPTIONS" = some (.int 6 t_MOST_OPTIONS)
  t_GREATEST_MARK : Tok
  c_GREATEST_MARK : mg "GREATEST_MARK" = some (.int 9 t_GREATEST_MARK)
  t_MOST_VOICES : Tok
  c_MOST_VOICES : mg "MOST_VOICES" = some (.int 1000000 t_MOST_VOICES)
  t_MOST_ROWS : Tok
  c_MOST_ROWS : mg "MOST_ROWS" = some (.int 30 t_MOST_ROWS)
/-! ### sources -/
/-- a source's three numbers, k a bound of how often it was drawn from -/
def WellL (w : List V) (k : Nat) : Prop := ∃ a b c : Int, w = [.int a, .int b, .int c] ∧ 0 ≤ c ∧ c ≤ k
theorem WellL.mono {w : List V} {j k : Nat} (h : WellL w j) (hk : j ≤ k) : WellL w k := by
  obtain ⟨a, b, c, e, h1, h2⟩ := h
  exact ⟨a, b, c, e, h1, by omega⟩
theorem mix_mod (x m : Int) (h : 0 < m) : 0 ≤ x % m ∧ x % m < m := ⟨Int.emod_nonneg x (by omega), Int.emod_lt_of_pos x h⟩
theorem div_nn {a n : Int} (h : 0 ≤ a) (hn : 0 < n) : 0 ≤ a / n := Int.ediv_nonneg h (by omega)
theorem same_upd {H : Hp} {p : Addr} {o : HO} (h : H p = none) : Same H (upd H p o) := fun b x e => by
  rw [upd_ne (ne_of_none e h)]
  exact e
theorem same_mut {H H' : Hp} {p : Addr} {o : HO} (e : Same H H') (h : H p = none) : Same H (upd H' p o) := fun b x q => by
  rw [upd_ne (ne_of_none q h)]
  exact e b x q
theorem mulOk {a b : Int} {n m : Nat} (ha : a.natAbs < 2 ^ n) (hb : b.natAbs < 2 ^ m) (h : n + m + 1 ≤ 8000) : CMulW a b :=
  wide_mul (a := n + 1) (b := m + 1) (Nat.lt_of_lt_of_le ha (Nat.pow_le_pow_right (by decide) (by omega))) (Nat.lt_of_lt_of_le hb (Nat.pow_le_pow_right (by decide) (by omega))) (by omega) (by omega) (by omega)
theorem line_of {n : Nat} (h : n ≤ 1000) : n ≤ sizeLine := Nat.le_of_lt (small1000 h)
/-- what was tracked besides p stays -/
def But (p : Addr) (H H' : Hp) : Prop := ∀ b o, b ≠ p → H b = some o → H' b = some o
theorem But.refl (p : Addr) (H : Hp) : But p H H := fun _ _ _ h => h
theorem But.upd {p : Addr} {H H' : Hp} (e : But p H H') (o : HO) : But p H (upd H' p o) := fun b u hb q => by
  rw [upd_ne hb]
  exact e b u hb q
theorem But.new {p q : Addr} {H H' : Hp} (e : But p H H') (n : H' q = none) (o : HO) : But p H (L2.upd H' q o) := fun b u hb h => by
  have h2 := e b u hb h
  rw [upd_ne (ne_of_none h2 n)]
  exact h2
theorem But.same {p : Addr} {H H1 H2 : Hp} (e : But p H H1) (s : Same H1 H2) : But p H H2 := fun b u hb h => s b u (e b u hb h)
theorem But.trans {p : Addr} {H H1 H2 : Hp} (e : But p H H1) (f : But p H1 H2) : But p H H2 := fun b u hb h => f b u hb (e b u hb h)
/-- p new to H0 -/
theorem But.ext {p : Addr} {H0 H H' : Hp} (s : Same H0 H) (n : H0 p = none) (e : But p H H') : Same H0 H' := fun b u h => e b u (ne_of_none h n) (s b u h)
theorem size_ok {n : Int} (h0 : 0 ≤ n) (h : n ≤ 1000) : n.natAbs < 2 ^ 8000 := Nat.lt_of_le_of_lt (show n.natAbs ≤ 1000 by omega) (by decide +kernel)
theorem cut_ints (ns : List Int) (lo hi : Option Int) : ∃ ms : List Int, cutV (ns.map V.int) lo hi = ms.map V.int ∧ ms.length ≤ ns.length := by
  refine ⟨(ns.drop (HT.sIx (ns.map V.int).length 0 lo)).take (HT.sIx (ns.map V.int).length (ns.map V.int).length hi - HT.sIx (ns.map V.int).length 0 lo), ?_, ?_⟩
  · unfold cutV
    rw [← List.map_drop, ← List.map_take]
  · rw [List.length_take, List.length_drop]
    omega
theorem take_more {α : Type} : ∀ {l : List α} {i : Nat} {x : α}, l[i]? = some x → l.take (i + 1) = l.take i ++ [x]
  | [], i, x, h => by simp at h
  | a :: l, 0, x, h => by
    have e : a = x := Option.some.inj h
    subst e
    rfl
  | a :: l, i + 1, x, h => by
    have ih := take_more (l := l) (i := i) (x := x) h
    show a :: l.take (i + 1) = a :: l.take i ++ [x]
    rw [ih]
    rfl
section
variable {P : Program} {w : World} {K : PySem.W.Frag} {mg : Str → Option Value} {base : Heap}
/-! ### the law's own small defs -/
def sp_law_mixed : Sp := fun vs H Q _ => ∃ (c k : Int), vs = [.int c, .int k] ∧ 0 ≤ k ∧ k ≤ 2000000 ∧ ∀ m : Int, 0 ≤ m → m < 2147483563 → Q (.int m) H
theorem ok_law_mixed (T : Txt K mg) : FnOk P w K mg base CX0 1 T.f_law_mixed T.fd_law_mixed ["_law_cell", "_law_k"] sp_law_mixed := by
  refine T.F_law_mixed.ok sc_law_mixed (fun vs H Q E h => ?_) (fun cdv A outer s H vs Q E hr h => ?_)
  · obtain ⟨c, k, rfl, _⟩ := h
    rfl
  · obtain ⟨c, k, rfl, k0, k1, q⟩ := h
    refine ⟨_, (pss_cons
 (ps_set (i := 2) sc_law_mixed.nd rfl (Or.inl rfl) (pe_op op_mod (pe_op op_mul (pe_op op_add (pe_op op_mod (pv 0) pe_int) pe_int) (pe_op op_add (pe_op op_mul (pv 1) pe_int) pe_int)) pe_int))
 (pss_cons
 (ps_set (i := 2) sc_law_mixed.nd rfl (Or.inl rfl) (pe_op op_mod (pe_op op_mul (pe_op op_add (pv 2) (pe_op op_mul (pe_op op_mod (pe_op op_fdivW (pv 0) pe_int) pe_int) (pe_op op_add (pv 1) pe_int))) pe_int) pe_int))
 (pss_cons
 (ps_set (i := 2) sc_law_mixed.nd rfl (Or.inl rfl) (pe_op op_mod (pe_op op_mul (pv 2) (pe_op op_add (pe_op op_add (pe_op op_fdiv (pv 2) pe_int) pe_int) (pv 1))) pe_int))
 (pss_one
 (ps_ret (pe_op op_mod (pe_op op_mul (pv 2) (pe_op op_add (pe_op op_fdiv (pv 2) pe_int) pe_int)) pe_int)))))), ?_⟩
    have m1 := mix_mod c 2147483646 (by decide)
    refine ⟨.int c, rfl, c, 2147483646, rfl, rfl, (by show (0 : Int) < 2147483646; decide), _, 1, rfl, rfl, .int k, rfl, k, 7919, rfl, rfl, .inr ⟨by decide, by decide⟩, _, 104729, rfl, rfl, _, _, rfl, rfl, .inl ⟨by omega, by omega⟩, _, 2147483647, rfl, rfl, (by show (0 : Int) < 2147483647; decide), ?_⟩
    dsimp only
    generalize hg : (_ : Int) % 2147483647 = f
    have hf : 0 ≤ f ∧ f < 2147483647 := hg ▸ mix_mod _ _ (by decide)
    have m2 := mix_mod (c / 2147483646) 1000003 (by decide)
    refine ⟨.int f, rfl, .int c, rfl, c, 2147483646, rfl, rfl, wide_div (b := 40) (by decide) (by decide) (by decide) (by decide), _, 1000003, rfl, rfl, (by show (0 : Int) < 1000003; decide), .int k, rfl, k, 31, rfl, rfl, _, _, rfl, rfl, .inl ⟨by omega, by omega⟩, f, _, rfl, rfl, _, 48271, rfl, rfl, .inr ⟨by decide, by decide⟩, _, 2147483629, rfl, rfl, (by show (0 : Int) < 2147483629; decide), ?_⟩
    dsimp only
    generalize hg2 : (_ : Int) % 2147483629 = f2
    have hf2 : 0 ≤ f2 ∧ f2 < 2147483629 := hg2 ▸ mix_mod _ _ (by decide)
    refine ⟨.int f2, rfl, .int f2, rfl, f2, 1013, rfl, rfl, ⟨by decide, by decide⟩, _, 69621, rfl, rfl, .int k, rfl, _, k, rfl, rfl, f2, _, rfl, rfl, .inl ⟨by omega, by omega⟩, _, 2147483587, rfl, rfl, (by show (0 : Int) < 2147483587; decide), ?_⟩
    dsimp only
    generalize hg3 : (_ : Int) % 2147483587 = f3
    have hf3 : 0 ≤ f3 ∧ f3 < 2147483587 := hg3 ▸ mix_mod _ _ (by decide)
    refine ⟨.int f3, rfl, .int f3, rfl, f3, 2003, rfl, rfl, ⟨by decide, by decide⟩, _, 40692, rfl, rfl, f3, _, rfl, rfl, .inl ⟨by omega, by omega⟩, _, 2147483563, rfl, rfl, (by show (0 : Int) < 2147483563; decide), ?_⟩
    have hd := mix_mod (f3 * (f3 / 2003 + 40692)) 2147483563 (by decide)
    exact q _ hd.1 hd.2
def sp_law_source : Sp := fun vs H Q _ => ∃ z : Int, vs = [.int z] ∧ ∀ (p : Addr) (x : List V), H p = none → WellL x 0 → Q (.ref p) (upd H p (.lst x))
theorem ok_law_source (T : Txt K mg) : FnOk P w K mg base CX0 1 T.f_law_source T.fd_law_source ["_law_cell"] sp_law_source := by
  refine T.F_law_source.ok sc_law_source (fun vs H Q E h => ?_) (fun cdv A outer s H vs Q E hr h => ?_)
  · obtain ⟨z, rfl, _⟩ := h
    rfl
  · obtain ⟨z, rfl, q⟩ := h
    refine ⟨_, (pss_one
 (ps_ret (pe_lst (pa_cons (pv 0) (pa_cons (pv 0) (pa_cons pe_int pa_nil)))))), ?_⟩
    exact ⟨.int z, rfl, .int z, rfl, line_of (show 3 ≤ 1000 by decide), fun p np => q p _ np ⟨z, z, 0, rfl, by decide, by decide⟩⟩
/-- taking: a number below the size; the source holds three numbers again -/
def sp_law_take : Sp := fun vs H Q _ => ∃ (p : Addr) (n : Int) (x : List V) (k : Nat), vs = [.ref p, .int n] ∧ H p = some (.lst x) ∧ WellL x k ∧ k ≤ 1000000 ∧ 0 < n ∧ n.natAbs < 2 ^ 8000 ∧
  ∀ (d : Int) (y : List V), 0 ≤ d → d < n → WellL y (k + 1) → Q (.int d) (upd H p (.lst y))
theorem ok_law_take (T : Txt K mg) : FnOk P w K mg base CX0 2 T.f_law_take T.fd_law_take ["_law_source_here", "_law_size"] sp_law_take := by
  refine T.F_law_take.ok sc_law_take (fun vs H Q E h => ?_) (fun cdv A outer s H vs Q E hr h => ?_)
  · obtain ⟨p, n, x, k, rfl, _⟩ := h
    rfl
  · obtain ⟨p, n, x, k, rfl, hp, ⟨a, b, c, rfl, hc, hck⟩, hk, hn, hn2, q⟩ := h
    refine ⟨_, (pss_cons
 (ps_if (pt_cmpR op_ge (pe_ix ix_list (pv 0) pe_int (fun _ _ => rfl)) (pe_op op_pow pe_int pe_int) (nomark _))
 (pss_cons
 (ps_set (i := 2) sc_law_take.nd rfl (Or.inl rfl) (pe_op op_mod (pe_ix ix_list (pv 0) pe_int (fun _ _ => rfl)) (pv 1)))
 (pss_cons
 (ps_asg (pe_op op_fdivW (pe_ix ix_list (pv 0) pe_int (fun _ _ => rfl)) (pv 1)) (pg_sub (pv 0) pe_int set_list))
 (pss_one
 (ps_ret (pv 2)))))
 pss_nil)
 (pss_cons
 (ps_asg (pe_op op_add (pe_ix ix_list (pv 0) pe_int (fun _ _ => rfl)) pe_int) (pg_sub (pv 0) pe_int set_list))
 (pss_one
 (ps_ret (pe_op op_mod (pe_call (ok_law_mixed T) (hr.mono (by decide)) (by rfl) T.g_law_mixed T.F_law_mixed.kp T.b_law_mixed .nil pass0 (pa_cons (pe_ix ix_list (pv 0) pe_int (fun _ _ => rfl)) (pa_cons (pe_ix ix_list (pv 0) pe_int (fun _ _ => rfl)) pa_nil))) (pv 1)))))), ?_⟩
    refine ⟨.ref p, rfl, p, _, 0, .int a, rfl, rfl, .of hp, rfl, 10, 18, rfl, rfl, ⟨by decide, by decide, by decide⟩, a, _, rfl, rfl, _, rfl, ite2 (fun e => ?_) (fun e => ?_)⟩
    · have hd := mix_mod a n hn
      refine ⟨.ref p, rfl, p, _, 0, .int a, rfl, rfl, .of hp, rfl, .int n, rfl, a, n, rfl, rfl, hn, ?_⟩
      refine ⟨.ref p, rfl, p, _, 0, .int a, rfl, rfl, .of hp, rfl, .int n, rfl, a, n, rfl, rfl, wide_div hn hn2 (by decide) (by decide), .ref p, rfl, p, _, 0, 0, rfl, rfl, hp, rfl, ?_⟩
      exact ⟨_, rfl, q (a % n) _ hd.1 hd.2 ⟨a / n, b, c, rfl, hc, by omega⟩⟩
    · refine ⟨.ref p, rfl, p, _, 2, .int c, rfl, rfl, .of hp, rfl, c, 1, rfl, rfl, .ref p, rfl, p, _, 2, 2, rfl, rfl, hp, rfl, ?_⟩
      have h1 : (upd H p (.lst [V.int a, V.int b, V.int (c + 1)])) p = some (.lst [V.int a, V.int b, V.int (c + 1)]) := upd_same
      refine ⟨.ref p, rfl, p, _, 1, .int b, rfl, rfl, .of h1, rfl, .ref p, rfl, p, _, 2, .int (c + 1), rfl, rfl, .of h1, rfl, b, c + 1, rfl, by omega, by omega, fun m m0 m1 => ?_⟩
      refine ⟨.int n, rfl, m, n, rfl, rfl, hn, ?_⟩
      have hd := mix_mod m n hn
      exact q _ _ hd.1 hd.2 ⟨a, b, c + 1, rfl, by omega, by omega⟩
end
theorem But.mut {p q : Addr} {H H' : Hp} {o : HO} (e : But p H H') (n : H q = none) : But p H (L2.upd H' q o) := fun b u hb h => by
  have hq : b ≠ q := fun z => by rw [z, n] at h; cases h
  rw [upd_ne hq]
  exact e b u hb h
theorem But.free {p q : Addr} {H H' : Hp} {o : HO} (e : But p H H') (hp : H' p = some o) (n : H' q = none) : H q = none := by
  have hq : q ≠ p := fun z => by rw [z, hp] at n; cases n
  cases h : H q with
  | none => rfl
  | some u => rw [e q u hq h] at n; cases n
theorem pick_perm {α : Type} : ∀ (l : List α) (n : Nat) (h : n < l.length), (l[n] :: l.eraseIdx n).Perm l
  | [], _, h => absurd h (Nat.not_lt_zero _)
  | a :: l, 0, _ => List.Perm.refl _
  | a :: l, n + 1, h => (List.Perm.swap a (l[n]'(Nat.lt_of_succ_lt_succ h)) (l.eraseIdx n)).trans ((pick_perm l n (Nat.lt_of_succ_lt_succ h)).cons a)
abbrev abc : Str := "abcdefghijklmnopqrstuvwxyz"
theorem abc_len : abc.length = 26 := by decide +kernel
theorem abc_all : ∀ j : Fin 26, abc.cps.toList[j.val]? = some (97 + j.val) := by decide +kernel
theorem abc_at {d : Int} (h0 : 0 ≤ d) (h1 : d < 26) : atI abc.cps.toList d = some (97 + d.toNat) := by
  obtain ⟨j, rfl⟩ := Int.eq_ofNat_of_zero_le h0
  exact atI_nat (abc_all ⟨j, by omega⟩)
def Small (z : Str) : Prop := ∀ c ∈ z.cps.toList, 97 ≤ c ∧ c ≤ 122
def NameOk (z : Str) : Prop := 1 ≤ z.length ∧ z.length ≤ 8 ∧ Small z
def lastc (z : Str) : Nat := z.cps.toList.getLastD 0
theorem cps_more (z : Str) (c : Nat) : (z ++ ⟨#[c]⟩ : Str).cps.toList = z.cps.toList ++ [c] := by
  rw [Str.cps_append, Array.toList_append]
theorem len_more (z : Str) (c : Nat) : (z ++ ⟨#[c]⟩ : Str).length = z.length + 1 := by
  rw [Str.length_append]
  rfl
theorem small_more {z : Str} {d : Int} (h : Small z) (h0 : 0 ≤ d) (h1 : d < 26) : Small (z ++ ⟨#[97 + d.toNat]⟩) := fun c hc => by
  rw [cps_more] at hc
  rcases List.mem_append.mp hc with hc | hc
  · exact h c hc
  · rw [List.mem_singleton.mp hc]
    omega
theorem last_more (z : Str) (c : Nat) : lastc (z ++ ⟨#[c]⟩) = c := by
  unfold lastc
  rw [cps_more, List.getLastD_concat]
theorem steps_nodup (a : Int) {n : Nat} (hn : n ≤ 6) : ((List.range n).map fun j : Nat => 97 + ((a + 3 * (j : Int)) % 26).toNat).Nodup := by
  refine List.pairwise_map.mpr (List.Pairwise.imp_of_mem (fun {i j} hi hj h => ?_) (List.pairwise_lt_range (n := n)))
  have h1 := List.mem_range.mp hi
  have h2 := List.mem_range.mp hj
  intro e
  omega
def tyD (t : List Str) : PyData := .tuple (t.map PyData.str)
theorem lay_strs : ∀ t : List Str, (∀ z ∈ t, PyData.strOk z = true) → PyData.canLayAll0 (t.map PyData.str) = true ∧ PyData.depthAll (t.map PyData.str) ≤ 0
  | [], _ => ⟨rfl, by decide⟩
  | a :: l, h => by
    obtain ⟨h1, h2⟩ := lay_strs l fun z hz => h z (List.mem_cons_of_mem _ hz)
    constructor
    · rw [List.map_cons, PyData.canLayAll0, h1]
      simp [PyData.canLay0, h a List.mem_cons_self]
    · rw [List.map_cons, PyData.depthAll]
      have : PyData.depth (.str a) = 0 := rfl
      omega
theorem lay_tiers : ∀ ts : List (List Str), (∀ t ∈ ts, ∀ z ∈ t, PyData.strOk z = true) → PyData.canLayAll0 (ts.map tyD) = true ∧ PyData.depthAll (ts.map tyD) ≤ 1
  | [], _ => ⟨rfl, by decide⟩
  | a :: l, h => by
    obtain ⟨h1, h2⟩ := lay_tiers l fun t ht => h t (List.mem_cons_of_mem _ ht)
    obtain ⟨g1, g2⟩ := lay_strs a (h a List.mem_cons_self)
    constructor
    · rw [List.map_cons, PyData.canLayAll0, h1]
      simp [tyD, PyData.canLay0, g1]
    · rw [List.map_cons, PyData.depthAll]
      have : PyData.depth (tyD a) ≤ 1 := by
        show PyData.depth (.tuple (a.map PyData.str)) ≤ 1
        rw [PyData.depth]
        omega
      omega
theorem shaped_tiers {ts : List (List Str)} (h : ∀ t ∈ ts, ∀ z ∈ t, PyData.strOk z = true) : SeqAt.shaped (.list (ts.map tyD)) = true := by
  obtain ⟨h1, h2⟩ := lay_tiers ts h
  unfold SeqAt.shaped
  rw [PyData.canLay0, h1, PyData.depth]
  simp only [Bool.true_and, decide_eq_true_eq]
  omega
theorem dp_strs {K : PySem.W.Frag} {H : Hp} : ∀ t : List Str, DpAll K H (t.map V.str) (t.map PyData.str)
  | [] => .nil
  | a :: l => .cons (.str a) (dp_strs l)
def Tiers (H : Hp) (bs : List (Addr × List Str)) : Prop := ∀ b ∈ bs, H b.1 = some (.tup (b.2.map V.str)) ∧ b.2 ≠ []
theorem dp_tiers {K : PySem.W.Frag} {H : Hp} : ∀ bs : List (Addr × List Str), Tiers H bs → DpAll K H (bs.map fun b => V.ref b.1) ((bs.map (·.2)).map tyD)
  | [], _ => .nil
  | b :: l, h => .cons (.tup (.of (h b List.mem_cons_self).1) (dp_strs b.2)) (dp_tiers l fun c hc => h c (List.mem_cons_of_mem _ hc))
theorem small_ok {z : Str} (h : Small z) : PyData.strOk z = true := by
  unfold PyData.strOk
  rw [← Array.all_toList, List.all_eq_true]
  exact fun c hc => decide_eq_true (by have := (h c hc).2; omega)
theorem cut_strs (ws : List Str) (lo hi : Option Int) : ∃ ms : List Str, cutV (ws.map V.str) lo hi = ms.map V.str ∧ ms.Sublist ws := by
  refine ⟨(ws.drop (HT.sIx (ws.map V.str).length 0 lo)).take (HT.sIx (ws.map V.str).length (ws.map V.str).length hi - HT.sIx (ws.map V.str).length 0 lo), ?_, (List.take_sublist _ _).trans (List.drop_sublist _ _)⟩
  unfold cutV
  rw [← List.map_drop, ← List.map_take]
theorem perm_strs {ys : List V} {zs : List Str} (h : ys.Perm (zs.map V.str)) : ∃ ws : List Str, ys = ws.map V.str ∧ ws.Perm zs := by
  let g : V → Str := fun v => match v with | .str s => s | _ => Str.empty
  have e : ∀ l : List Str, (l.map V.str).map g = l := fun l => by
    rw [List.map_map]
    exact List.map_id l
  refine ⟨ys.map g, ?_, by have := h.map g; rw [e] at this; exact this⟩
  rw [List.map_map]
  refine (List.map_id ys).symm.trans (List.map_congr_left fun v hv => ?_)
  obtain ⟨z, _, rfl⟩ := List.mem_map.mp (h.mem_iff.mp hv)
  rfl
theorem ix_last (n : Nat) : ixN (n + 1) (-1) = some n := by
  unfold ixN
  rw [if_neg (by decide)]
  simp
  omega
theorem set_last {α : Type} : ∀ (l : List α) (a b : α), (l ++ [a]).set l.length b = l ++ [b]
  | [], _, _ => rfl
  | c :: l, a, b => congrArg (c :: ·) (set_last l a b)
theorem at_last {α : Type} (l : List α) (a : α) : atI (l ++ [a]) (-1) = some a := by
  unfold atI
  rw [List.length_append, List.length_singleton, ix_last]
  show (l ++ [a])[l.length]? = some a
  rw [List.getElem?_append_right (Nat.le_refl _), Nat.sub_self]
  rfl
/-- a ballot, as the document tells them -/
inductive Bal where
  | order (ts : List (List Str))
  | lets (ns : List Str)
  | marks (ms : List (Str × Int))
def Bal.Ok (zs : List Str) : Bal → Prop
  | .order ts => ts.flatten.Nodup ∧ (∀ z ∈ ts.flatten, z ∈ zs) ∧ ∀ t ∈ ts, t ≠ []
  | .lets ns => ns.Nodup ∧ ∀ z ∈ ns, z ∈ zs
  | .marks ms => (ms.map (·.1)).Nodup ∧ (∀ m ∈ ms, m.1 ∈ zs) ∧ ∀ m ∈ ms, 0 ≤ m.2 ∧ m.2 ≤ 9
def BalAt (H : Hp) (t : Addr) : Bal → Prop
  | .order ts => ∃ (u : Addr) (bs : List (Addr × List Str)), H t = some (.tup [.str "order", .ref u]) ∧ H u = some (.tup (bs.map fun b => V.ref b.1)) ∧ Tiers H bs ∧ bs.map (·.2) = ts
  | .lets ns => ∃ u : Addr, H t = some (.tup [.str "lets", .ref u]) ∧ H u = some (.tup (ns.map V.str))
  | .marks ms => ∃ (u : Addr) (o : Obj) (bs : List (Addr × (Str × Int))), H t = some (.tup [.str "marks", .ref u]) ∧ (o.dict = none ∧ H u = some (.frz o (.tup (bs.map fun b => V.ref b.1)))) ∧ (∀ b ∈ bs, H b.1 = some (.tup [.str b.2.1, .int b.2.2])) ∧ bs.map (·.2) = ms
/-- tuples stay, also those tracked with their very object -/
structure TK (H H' : Hp) : Prop where
  tup : ∀ a xs, H a = some (.tup xs) → H' a = some (.tup xs)
  frz : ∀ a o u, H a = some (.frz o u) → H' a = some (.frz o u)
instance {H H' : Hp} : CoeFun (TK H H') (fun _ => ∀ a xs, H a = some (.tup xs) → H' a = some (.tup xs)) := ⟨TK.tup⟩
theorem BalAt.keep {H H' : Hp} {t : Addr} : ∀ {b : Bal}, TK H H' → BalAt H t b → BalAt H' t b
  | .order _, k, ⟨u, bs, h1, h2, h3, h4⟩ => ⟨u, bs, k _ _ h1, k _ _ h2, fun b hb => ⟨k _ _ (h3 b hb).1, (h3 b hb).2⟩, h4⟩
  | .lets _, k, ⟨u, h1, h2⟩ => ⟨u, k _ _ h1, k _ _ h2⟩
  | .marks _, k, ⟨u, o, bs, h1, h2, h3, h4⟩ => ⟨u, o, bs, k _ _ h1, ⟨h2.1, k.frz _ _ _ h2.2⟩, fun b hb => k _ _ (h3 b hb), h4⟩
theorem But.tups {p : Addr} {H H' : Hp} {x : List V} (b : But p H H') (hp : H p = some (.lst x)) : TK H H' := ⟨fun a xs h => b a _ (fun e => by rw [e, hp] at h; cases h) h, fun a o u h => b a _ (fun e => by rw [e, hp] at h; cases h) h⟩
theorem TK.trans {H H1 H2 : Hp} (a : TK H H1) (b : TK H1 H2) : TK H H2 := ⟨fun c xs h => b c xs (a c xs h), fun c o u h => b.frz _ _ _ (a.frz _ _ _ h)⟩
theorem TK.new {H : Hp} {q : Addr} {o : HO} (n : H q = none) : TK H (upd H q o) := ⟨fun c xs h => (upd_ne (ne_of_none h n)).trans h, fun c o u h => (upd_ne (ne_of_none h n)).trans h⟩
theorem TK.lst {H : Hp} {q : Addr} {x : List V} {o : HO} (n : H q = some (.lst x)) : TK H (upd H q o) := ⟨fun c xs h => (upd_ne (fun e => by rw [e, n] at h; cases h)).trans h, fun c o u h => (upd_ne (fun e => by rw [e, n] at h; cases h)).trans h⟩
theorem TK.same {H H' : Hp} (s : Same H H') : TK H H' := ⟨fun a xs h => s a _ h, fun a o u h => s a _ h⟩
def RowsAt (H : Hp) (u : Addr) (rows : List (Bal × Int)) : Prop := ∃ as : List (Addr × Addr × (Bal × Int)), H u = some (.tup (as.map fun a => V.ref a.1)) ∧ (∀ a ∈ as, H a.1 = some (.tup [.ref a.2.1, .int a.2.2.2]) ∧ BalAt H a.2.1 a.2.2.1) ∧ as.map (·.2.2) = rows
theorem RowsAt.keep {H H' : Hp} {u : Addr} {rows : List (Bal × Int)} (k : TK H H') (h : RowsAt H u rows) : RowsAt H' u rows := by
  obtain ⟨as, h1, h2, h3⟩ := h
  exact ⟨as, k _ _ h1, fun a ha => ⟨k _ _ (h2 a ha).1, (h2 a ha).2.keep k⟩, h3⟩
def RowsOk (zs : List Str) (n : Nat) (rows : List (Bal × Int)) : Prop := rows.length ≤ n ∧ ∀ r ∈ rows, r.1.Ok zs ∧ 1 ≤ r.2 ∧ r.2 ≤ 1000000
theorem two_of (a b : V) (c : Bool) : atI [a, b] (if c = true then 1 else 0) = some (if c = true then b else a) := by
  cases c with
  | true => exact atI_nat (j := 1) rfl
  | false => exact atI_nat (j := 0) rfl
theorem mill : (10 : Int) ^ (6 : Int).toNat = 1000000 := by decide +kernel
section
variable {P : Program} {w : World} {K : PySem.W.Frag} {mg : Str → Option Value} {base : Heap}
/-! ### one of several -/
def sp_law_one : Sp := fun vs H Q _ => ∃ (p l : Addr) (xs x : List V) (k : Nat), vs = [.ref p, .ref l] ∧ H p = some (.lst x) ∧ WellL x k ∧ k ≤ 900000 ∧ H l = some (.lst xs) ∧ l ≠ p ∧ 0 < xs.length ∧ xs.length ≤ 1000 ∧ ∀ (v : V) (y : List V), v ∈ xs → WellL y (k + 1) → Q v (upd H p (.lst y))
theorem at_mem {α : Type} {xs : List α} {d : Int} (h0 : 0 ≤ d) (h1 : d < xs.length) : ∃ v, atI xs d = some v ∧ v ∈ xs := by
  obtain ⟨j, rfl⟩ := Int.eq_ofNat_of_zero_le h0
  have hj : j < xs.length := by omega
  exact ⟨xs[j], atI_nat (List.getElem?_eq_getElem hj), List.getElem_mem hj⟩
theorem ok_law_one (T : Txt K mg) : FnOk P w K mg base CX0 3 T.f_law_one T.fd_law_one ["_law_source_here", "_law_some"] sp_law_one := by
  refine T.F_law_one.ok sc_law_one (fun vs H Q E h => ?_) (fun cdv A outer s H vs Q E hr h => ?_)
  · obtain ⟨p, l, xs, x, k, rfl, _⟩ := h
    rfl
  · obtain ⟨p, l, xs, x, k, rfl, hp, hx, hk, hl, hlp, l0, l1, q⟩ := h
    refine ⟨_, (pss_one
 (ps_ret (pe_ix ix_list (pv 1) (pe_call (ok_law_take T) (hr.mono (by decide)) (by rfl) T.g_law_take T.F_law_take.kp T.b_law_take .nil pass0 (pa_cons (pv 0) (pa_cons (pe_callB call_len_seq (by rfl) T.z_len (by decide +kernel) (pa_cons (pv 1) pa_nil)) pa_nil))) (fun _ _ => rfl)))), ?_⟩
    refine ⟨.ref l, rfl, .ref p, rfl, .ref l, rfl, l, _, rfl, .inl (.of hl), p, _, x, k, rfl, hp, hx, by omega, by omega, size_ok (by omega) (by omega), fun d y h0 h1 hy => ?_⟩
    obtain ⟨v, hv, hm⟩ := at_mem h0 h1
    exact ⟨l, xs, d, v, rfl, rfl, .of (by rw [upd_ne hlp]; exact hl), hv, q v y hm hy⟩
end
/-! ### drawn names -/
theorem abc_small : ∀ c ∈ abc.cps.toList, 97 ≤ c ∧ c ≤ 122 := by decide +kernel
theorem sum_ones : ∀ ys : List Str, (∀ z ∈ ys, z.length = 1) → (ys.map (·.length)).sum ≤ ys.length
  | [], _ => Nat.le_refl _
  | a :: l, h => by
    have := sum_ones l fun z hz => h z (List.mem_cons_of_mem _ hz)
    have := h a List.mem_cons_self
    rw [List.map_cons, List.sum_cons, List.length_cons]
    omega
theorem stem_ok (ys : List Str) (h : ∀ z ∈ ys, Small z ∧ z.length = 1) : Small (Txt.join Str.empty ys) ∧ (Txt.join Str.empty ys).length ≤ ys.length := by
  have e : Txt.join Str.empty ys = Str.join Str.empty ys := StrLaws.glued_eq_join _ _
  rw [e]
  constructor
  · intro c hc
    rcases (PyProof.Rows.mem_join Str.empty c ys).mp hc with ⟨t, ht, hct⟩ | ⟨_, hn⟩
    · exact (h t ht).1 c hct
    · cases hn
  · have h1 := StrLaws.join_length_le Str.empty ys
    have h2 := sum_ones ys fun z hz => (h z hz).2
    have : Str.empty.length = 0 := rfl
    rw [this] at h1
    omega
theorem cutS_small {z : Str} (h : Small z) (lo hi : Option Int) : Small (cutS z lo hi) := fun c hc => by
  unfold cutS at hc
  exact h c (List.mem_of_mem_drop (List.mem_of_mem_take (by simpa using hc)))
theorem cutS_few (z : Str) {m d : Int} (h0 : 0 ≤ m) (h1 : 0 ≤ d) : (cutS z (some m) (some (m + d))).length ≤ d.toNat := by
  show (((z.cps.toList.drop (HT.sIx z.length 0 (some m))).take (HT.sIx z.length z.length (some (m + d)) - HT.sIx z.length 0 (some m))).toArray).size ≤ _
  rw [List.size_toArray, List.length_take]
  have e1 : HT.sIx z.length 0 (some m) = min m.toNat z.length := if_neg (by omega)
  have e2 : HT.sIx z.length z.length (some (m + d)) = min (m + d).toNat z.length := if_neg (by omega)
  rw [e1, e2]
  omega
theorem cutS_head (z : Str) {m : Int} (h0 : 0 ≤ m) : (cutS z none (some m)).length ≤ m.toNat := by
  show (((z.cps.toList.drop 0).take (HT.sIx z.length z.length (some m) - 0)).toArray).size ≤ _
  rw [List.size_toArray, List.length_take]
  have e2 : HT.sIx z.length z.length (some m) = min m.toNat z.length := if_neg (by omega)
  rw [e2]
  omega
def nmOf (a : Str) (c : Nat) (b : Str) : Str := a ++ ⟨#[c]⟩ ++ b
def keyOf (n : Nat) (z : Str) : Nat := z.cps.toList.getD n 0
theorem key_nm (a : Str) (c : Nat) (b : Str) : keyOf a.length (nmOf a c b) = c := by
  unfold keyOf nmOf
  have e : a.length = a.cps.toList.length := by unfold Str.length; rw [Array.length_toList]
  rw [Str.cps_append, Str.cps_append, Array.toList_append, Array.toList_append, e, List.append_assoc]
  simp
theorem nm_ok {a b : Str} {c : Nat} (ha : Small a) (hb : Small b) (la : a.length ≤ 3) (lb : b.length ≤ 4) (h0 : 97 ≤ c) (h1 : c ≤ 122) : NameOk (nmOf a c b) := by
  have one : (⟨#[c]⟩ : Str).length = 1 := rfl
  have sm : Small (⟨#[c]⟩ : Str) := fun d hd => by
    have : d = c := by simpa using hd
    omega
  have cat : ∀ {a b : Str}, Small a → Small b → Small (a ++ b) := fun ha hb d hd => by
    rw [Str.cps_append, Array.toList_append] at hd
    rcases List.mem_append.mp hd with hd | hd
    · exact ha d hd
    · exact hb d hd
  unfold nmOf
  exact ⟨by rw [Str.length_append, Str.length_append]; omega, by rw [Str.length_append, Str.length_append]; omega, cat (cat ha sm) hb⟩
theorem steps7_nodup (a : Int) {n : Nat} (hn : n ≤ 6) : ((List.range n).map fun j : Nat => 97 + ((a + 7 * (j : Int)) % 26).toNat).Nodup := by
  refine List.pairwise_map.mpr (List.Pairwise.imp_of_mem (fun {i j} hi hj h => ?_) (List.pairwise_lt_range (n := n)))
  have h1 := List.mem_range.mp hi
  have h2 := List.mem_range.mp hj
  intro e
  omega
section
variable {P : Program} {w : World} {K : PySem.W.Frag} {mg : Str → Option Value} {base : Heap}
def sp_law_names : Sp := fun vs H Q _ => ∃ (p : Addr) (n : Int) (x : List V) (k : Nat), vs = [.ref p, .int n] ∧ H p = some (.lst x) ∧ WellL x k ∧ k ≤ 900000 ∧ 0 ≤ n ∧ n ≤ 6 ∧
  ∀ (t : Addr) (zs : List Str) (y : List V) (H' : Hp), zs.length = n.toNat → zs.Nodup → (∀ z ∈ zs, NameOk z) → But p H H' → H t = none → t ≠ p → H' t = some (.lst (zs.map V.str)) → H' p = some (.lst y) → WellL y (k + 20) → Q (.ref t) H'
theorem ok_law_names (T : Txt K mg) : FnOk P w K mg base CX0 3 T.f_law_names T.fd_law_names ["_law_source_here", "_law_size"] sp_law_names := by
  refine T.F_law_names.ok sc_law_names (fun vs H Q E h => ?_) (fun cdv A outer s H vs Q E hr h => ?_)
  · obtain ⟨p, n, x, k, rfl, _⟩ := h
    rfl
  · obtain ⟨p, n, x, k, rfl, hp, hx, hk, n0, n6, q⟩ := h
    refine ⟨_, (pss_cons
 (ps_set (i := 2) sc_law_names.nd rfl (Or.inr rfl) pe_str)
 (pss_cons
 (ps_set (i := 3) sc_law_names.nd rfl (Or.inl rfl) (pe_call (ok_law_take T) (hr.mono (by decide)) (by rfl) T.g_law_take T.F_law_take.kp T.b_law_take .nil pass0 (pa_cons (pv 0) (pa_cons pe_int pa_nil))))
 (pss_cons
 (ps_set (i := 4) sc_law_names.nd rfl (Or.inl rfl) (pe_join pe_str (pe_lc (own := [("_law_k", 7)]) (g := gName 7) (tt := tYes) rfl sc_law_names.nd (pi_range1 rfl T.z_range (pa_cons pe_int pa_nil)) (blkOk_by (own := [("_law_k", 7)]) (N := ["_law_source_here", "_law_size", "_law_letters", "_law_start", "_law_stem", "_law_mark", "_law_found", "_law_k", "_law_word"]) (sc := (defScope s_law_names)) (by decide +kernel)) (fun _ _ _ _ _ => pg_name (i := 7) sc_law_names.nd rfl (Or.inl rfl)) (fun _ _ _ _ _ => pts_nil) (fun s0 H0 C0 cl0 fp0 => (by have h := ((pe_ix ix_str (pv 2) (pe_call (ok_law_take T) (hr.mono (by decide)) (by rfl) T.g_law_take T.F_law_take.kp T.b_law_take .nil pass0 (pa_cons (pv 0) (pa_cons pe_int pa_nil))) (fun _ _ => rfl)) : PE ((cxOf CX0 P w K mg base ["_law_source_here", "_law_size", "_law_letters", "_law_start", "_law_stem", "_law_mark", "_law_found", "_law_k", "_law_word"] "_law_names" (defScope s_law_names) T.f_law_names cdv A outer s H E).nox.blk s0 H0 (lcScope (subE (rootE ((defBody s_law_names).getD 2 (.Pass ⟨0, 0, 0, 0⟩))) 1)) (compEnvC (lcScope (subE (rootE ((defBody s_law_names).getD 2 (.Pass ⟨0, 0, 0, 0⟩))) 1)) cl0 C0 (cxOf CX0 P w K mg base ["_law_source_here", "_law_size", "_law_letters", "_law_start", "_law_stem", "_law_mark", "_law_found", "_law_k", "_law_word"] "_law_names" (defScope s_law_names) T.f_law_names cdv A outer s H E).nox.env) fp0) (subE (subE (rootE ((defBody s_law_names).getD 2 (.Pass ⟨0, 0, 0, 0⟩))) 1) 0) _); dsimp only [Cx.blk, Cx.tr, Cx.suite, Cx.nox, Cx.wish, cxOf] at h; exact h)))))
 (pss_cons
 (ps_set (i := 5) sc_law_names.nd rfl (Or.inl rfl) (pe_call (ok_law_take T) (hr.mono (by decide)) (by rfl) T.g_law_take T.F_law_take.kp T.b_law_take .nil pass0 (pa_cons (pv 0) (pa_cons pe_int pa_nil))))
 (pss_cons
 (ps_set (i := 6) sc_law_names.nd rfl (Or.inl rfl) (pe_lst pa_nil))
 (pss_cons
 (ps_for PassesOwn.never rfl (pi_range1 rfl T.z_range (pa_cons (pv 1) pa_nil)) (pg_name (i := 7) sc_law_names.nd rfl (Or.inl rfl))
 (pss_cons
 (ps_set (i := 8) sc_law_names.nd rfl (Or.inl rfl) (pe_op op_add_str (pe_slice sl_str (pv 4) po_none (po_some (pv 5))) (pe_ix ix_str (pv 2) (pe_op op_mod (pe_op op_add (pv 3) (pe_op op_mulW pe_int (pv 7))) pe_int) (fun _ _ => rfl))))
 (pss_one
 (ps_expr (pe_bm PySem.F.plainAttrs_list PySem.F.slot_list_append PySem.F.type_list_append mt_append (pv 6) (pa_cons (pe_op op_add_str (pv 8) (pe_slice sl_str (pv 4) (po_some (pv 5)) (po_some (pe_op op_add (pv 5) (pe_call (ok_law_take T) (hr.mono (by decide)) (by rfl) T.g_law_take T.F_law_take.kp T.b_law_take .nil pass0 (pa_cons (pv 0) (pa_cons pe_int pa_nil))))))) pa_nil))))))
 (pss_one
 (ps_ret (pv 6))))))))), ?_⟩
    have lenL : abc.length ≤ sizeLine := line_of (by rw [abc_len]; decide)
    refine ⟨.ref p, rfl, p, 26, x, k, rfl, hp, hx, by omega, by decide, size_ok (by decide) (by decide), fun a x1 a0 a1 w1 => ?_⟩
    have hpm : (upd H p (.lst x1)) p = some (.lst x1) := upd_same
    refine ⟨⟨_, rfl⟩, 8, rfl, by omega, by omega, fun D nD => ?_⟩
    have pD := ne_of_none hpm nD
    have nDH : H D = none := by rw [upd_ne pD.symm] at nD; exact nD
    refine lc_range (fun i H' => ∃ (ys : List Str) (y : List V), H' D = some (.lst (ys.map V.str)) ∧ ys.length = i ∧ (∀ z ∈ ys, Small z ∧ z.length = 1) ∧ But p H H' ∧ H' p = some (.lst y) ∧ WellL y (k + 1 + i))
      ⟨[], x1, upd_same, rfl, fun _ h => (by cases h), ((But.refl p H).upd _).mut nDH, by rw [upd_ne pD]; exact hpm, w1⟩ ?_ ?_
    · rintro i H1 hi ⟨ys, y, hD, ly, hys, hb, hp1, hw⟩
      refine ⟨rfl, .str abc, rfl, .ref p, rfl, p, 26, y, _, rfl, hp1, hw, by omega, by decide, size_ok (by decide) (by decide), fun d y2 d0 d1 hw2 => ?_⟩
      refine ⟨abc, d, _, rfl, rfl, lenL, abc_at d0 d1, ?_⟩
      refine ⟨ys.map V.str, by rw [upd_ne pD.symm]; exact hD, small1000 (by rw [List.length_map]; omega), ys ++ [⟨#[97 + d.toNat]⟩], y2, ?_, by rw [List.length_append, ly]; rfl, ?_, (hb.upd _).mut nDH, by rw [upd_ne pD, upd_same], hw2.mono (by omega)⟩
      · rw [upd_same, List.map_append]
        rfl
      · intro z hz
        rcases List.mem_append.mp hz with hz | hz
        · exact hys z hz
        · rw [List.mem_singleton.mp hz]
          exact ⟨fun e he => by
            have : e = 97 + d.toNat := by simpa using he
            omega, rfl⟩
    · rintro H1 ⟨ys, y, hD, ly, hys, hb, hp1, hw⟩
      obtain ⟨st1, st2⟩ := stem_ok ys hys
      refine ⟨Str.empty, D, ys, rfl, rfl, .inl (.of hD), ?_, ?_⟩
      · have e : (ys.map (·.length)).sum ≤ ys.length := sum_ones ys fun z hz => (hys z hz).2
        have : Str.empty.length = 0 := rfl
        rw [this]
        omega
      rw [ly] at st2
      have st3 : (Txt.join Str.empty ys).length ≤ 8 := by omega
      show _
      generalize Txt.join Str.empty ys = st at st1 st3
      refine ⟨.ref p, rfl, p, 4, y, _, rfl, hp1, hw, by omega, by decide, size_ok (by decide) (by decide), fun tn y3 t0 t1 w3 => ?_⟩
      refine ⟨line_of (show 0 ≤ 1000 by decide), fun l nl => ?_⟩
      have hpm3 : (upd H1 p (.lst y3)) p = some (.lst y3) := upd_same
      have pl := ne_of_none hpm3 nl
      have nlH : H l = none := (hb.upd (.lst y3)).free hpm3 nl
      have lst : st.length ≤ sizeLine := line_of (by omega)
      have shd := cutS_small st1 none (some tn)
      have lhd : (cutS st none (some tn)).length ≤ 3 := by have := cutS_head st t0; omega
      refine ⟨.int n, rfl, n, rfl, by omega, by omega, for_range (fun i σ H' => ∃ (x7 x8 : Option V) (zs : List Str) (y : List V), σ = [some (.ref p), some (.int n), some (.str abc), some (.int a), some (.str st), some (.int tn), some (.ref l), x7, x8] ∧ H' l = some (.lst (zs.map V.str)) ∧
          zs.map (keyOf (cutS st none (some tn)).length) = ((List.range i).map fun j : Nat => 97 + ((a + 7 * (j : Int)) % 26).toNat) ∧ (∀ z ∈ zs, NameOk z) ∧ But p H H' ∧ H' p = some (.lst y) ∧ WellL y (k + 10 + i))
        ⟨_, none, [], y3, rfl, upd_same, rfl, fun _ h => (by cases h), (hb.upd _).mut nlH, by rw [upd_ne pl]; exact hpm3, w3.mono (by omega)⟩ ?_ ?_⟩
      · rintro i σ H2 hi ⟨x7, x8, zs, y4, rfl, hl, hm, hz, hb2, hp2, w4⟩
        have lz : zs.length = i := by
          have := congrArg List.length hm
          rw [List.length_map, List.length_map, List.length_range] at this
          exact this
        have m0 : 0 ≤ (a + 7 * (0 + (i : Int))) % 26 ∧ (a + 7 * (0 + (i : Int))) % 26 < 26 := mix_mod _ _ (by decide)
        refine ⟨.str st, rfl, .int tn, rfl, tn, rfl, st, rfl, lst, .str abc, rfl, .int a, rfl, .int (0 + (i : Int)), rfl, _, _, rfl, rfl, mulOk (n := 3) (m := 3) (by decide) (by omega) (by decide), _, _, rfl, rfl, _, _, rfl, rfl, (by show (0 : Int) < 26; decide), ?_⟩
        refine ⟨abc, _, _, rfl, rfl, lenL, abc_at m0.1 m0.2, ?_⟩
        have hc : 97 ≤ 97 + ((a + 7 * (0 + (i : Int))) % 26).toNat ∧ 97 + ((a + 7 * (0 + (i : Int))) % 26).toNat ≤ 122 := by omega
        have ec : 97 + ((a + 7 * (0 + (i : Int))) % 26).toNat = 97 + ((a + 7 * (i : Int)) % 26).toNat := by rw [Int.zero_add]
        generalize 97 + ((a + 7 * (0 + (i : Int))) % 26).toNat = c at hc ec
        have l1 : (⟨#[c]⟩ : Str).length = 1 := rfl
        refine ⟨_, _, rfl, rfl, line_of (by omega), ?_⟩
        refine ⟨.ref l, rfl, .inl ⟨rfl, _, .of hl⟩, .str (cutS st none (some tn) ++ ⟨#[c]⟩), rfl, .str st, rfl, .int tn, rfl, tn, rfl, .int tn, rfl, .ref p, rfl, p, 5, y4, _, rfl, hp2, w4, by omega, by decide, size_ok (by decide) (by decide), fun d y5 d0 d1 w5 => ?_⟩
        have sb := cutS_small st1 (some tn) (some (tn + d))
        have lb : (cutS st (some tn) (some (tn + d))).length ≤ 4 := by have := cutS_few st t0 d0; omega
        refine ⟨tn, d, rfl, rfl, _, rfl, st, rfl, lst, _, _, rfl, rfl, line_of (by rw [Str.length_append]; omega), ?_⟩
        have nw := nm_ok shd sb lhd lb hc.1 hc.2
        refine ⟨l, _, _, rfl, rfl, by rw [upd_ne pl.symm]; exact hl, small1000 (by rw [List.length_map]; omega), _, _, zs ++ [nmOf (cutS st none (some tn)) c (cutS st (some tn) (some (tn + d)))], y5, rfl, ?_, ?_, ?_, (hb2.upd _).mut nlH, by rw [upd_ne pl, upd_same], w5.mono (by omega)⟩
        · rw [upd_same, List.map_append]
          rfl
        · rw [List.map_append, hm, List.range_succ, List.map_append]
          refine congrArg _ ?_
          show [keyOf _ (nmOf _ c _)] = [_]
          rw [key_nm, ec]
        · intro z hz'
          rcases List.mem_append.mp hz' with h | h
          · exact hz z h
          · rw [List.mem_singleton.mp h]
            exact nw
      · rintro σ H2 ⟨x7, x8, zs, y4, rfl, hl, hm, hz, hb2, hp2, w4⟩
        have lz : zs.length = n.toNat := by
          have := congrArg List.length hm
          rw [List.length_map, List.length_map, List.length_range] at this
          omega
        refine ⟨.ref l, rfl, q l zs y4 _ lz ?_ hz hb2 nlH pl.symm hl hp2 (w4.mono (by omega))⟩
        have nd := steps7_nodup a (n := n.toNat) (by omega)
        rw [← hm] at nd
        exact (List.pairwise_map.mp nd).imp fun h e => h (by rw [e])
end
section
variable {P : Program} {w : World} {K : PySem.W.Frag} {mg : Str → Option Value} {base : Heap}
/-! ### any order -/
theorem shaped_strs {t : List Str} (h : ∀ z ∈ t, PyData.strOk z = true) : SeqAt.shaped (.list (t.map PyData.str)) = true := by
  obtain ⟨h1, h2⟩ := lay_strs t h
  unfold SeqAt.shaped
  rw [PyData.canLay0, h1, PyData.depth]
  simp only [Bool.true_and, decide_eq_true_eq]
  omega
def sp_law_shuffled : Sp := fun vs H Q _ => ∃ (p t : Addr) (zs : List Str) (x : List V) (k : Nat), vs = [.ref p, .ref t] ∧ H p = some (.lst x) ∧ H t = some (.lst (zs.map V.str)) ∧ t ≠ p ∧ zs.length ≤ 6 ∧ (∀ z ∈ zs, NameOk z) ∧ WellL x k ∧ k ≤ 900000 ∧
  ∀ (u : Addr) (ws : List Str) (y : List V) (H' : Hp), ws.Perm zs → But p H H' → H u = none → u ≠ p → H' u = some (.lst (ws.map V.str)) → H' p = some (.lst y) → WellL y (k + 6) → Q (.ref u) H'
theorem erase_map {α β : Type} (f : α → β) : ∀ (l : List α) (n : Nat), (l.map f).eraseIdx n = (l.eraseIdx n).map f
  | [], _ => rfl
  | _ :: _, 0 => rfl
  | a :: l, n + 1 => congrArg (f a :: ·) (erase_map f l n)
def leftOf (l : Addr) (_ : L2.St) (H : Hp) : Nat := match H l with
  | some (.lst xs) => xs.length
  | _ => 0
theorem ok_law_shuffled (T : Txt K mg) : FnOk P w K mg base CX0 3 T.f_law_shuffled T.fd_law_shuffled ["_law_source_here", "_law_some"] sp_law_shuffled := by
  refine T.F_law_shuffled.ok sc_law_shuffled (fun vs H Q E h => ?_) (fun cdv A outer s H vs Q E hr h => ?_)
  · obtain ⟨p, t, zs, x, k, rfl, _⟩ := h
    rfl
  · obtain ⟨p, t, zs, x, k, rfl, hp, ht, htp, hn, ok, hx, hk, q⟩ := h
    refine ⟨_, (pss_cons
 (ps_set (i := 2) sc_law_shuffled.nd rfl (Or.inl rfl) (pe_callTy call_list_of (by rfl) T.z_list (by decide +kernel) (pa_cons (pv 1) pa_nil)))
 (pss_cons
 (ps_set (i := 3) sc_law_shuffled.nd rfl (Or.inl rfl) (pe_lst pa_nil))
 (pss_cons
 (ps_while PassesOwn.never (pt_cmpR (op_neD hr.units) (pv 2) (pe_lst pa_nil) (nomark _))
 (pss_one
 (ps_expr (pe_bm PySem.F.plainAttrs_list PySem.F.slot_list_append PySem.F.type_list_append mt_append (pv 3) (pa_cons (pe_bm PySem.F.plainAttrs_list PySem.F.slot_list_pop PySem.F.type_list_pop mt_popAt (pv 2) (pa_cons (pe_call (ok_law_take T) (hr.mono (by decide)) (by rfl) T.g_law_take T.F_law_take.kp T.b_law_take .nil pass0 (pa_cons (pv 0) (pa_cons (pe_callB call_len_seq (by rfl) T.z_len (by decide +kernel) (pa_cons (pv 2) pa_nil)) pa_nil))) pa_nil)) pa_nil)))))
 (pss_one
 (ps_ret (pv 3)))))), ?_⟩
    refine ⟨.ref t, rfl, t, _, rfl, .inl (.of ht), fun l nl => ?_⟩
    have hpl := ne_of_none hp nl
    refine ⟨line_of (show 0 ≤ 1000 by decide), fun g ng => ?_⟩
    have hlg : l ≠ g := fun e => by rw [← e, upd_same] at ng; cases ng
    have ngH : H g = none := by rw [upd_ne hlg.symm] at ng; exact ng
    have hpg := ne_of_none hp ngH
    refine while_by (fun σ H' => σ = [some (.ref p), some (.ref t), some (.ref l), some (.ref g)] ∧ ∃ (left done : List Str) (y : List V) (i : Nat), H' l = some (.lst (left.map V.str)) ∧ H' g = some (.lst (done.map V.str)) ∧ (done ++ left).Perm zs ∧ done.length = i ∧
        But p H H' ∧ H' p = some (.lst y) ∧ WellL y (k + i)) (leftOf l)
      ⟨rfl, zs, [], x, 0, by rw [upd_ne hlg, upd_same], upd_same, List.Perm.refl _, rfl, ((But.refl p H).mut nl).mut ngH, by rw [upd_ne hpg, upd_ne hpl]; exact hp, hx⟩ ?_
      (fun σ H Q Q' imp h => by
        obtain ⟨x, h1, h2, h3⟩ := h
        refine ⟨x, h1, h2, fun le nle => ?_⟩
        obtain ⟨d, e, a, b, c, f, kk, gg, hh⟩ := h3 le nle
        exact ⟨d, e, a, b, c, f, kk, gg, imp _ _ hh⟩)
    rintro σ H1 ⟨rfl, left, done, y, i, hl, hg, pm, ld, hb, hp1, hw⟩
    have len := pm.length_eq
    rw [List.length_append] at len
    have sok : ∀ z ∈ left, PyData.strOk z = true := fun z hz => small_ok (ok z (pm.mem_iff.mp (List.mem_append_right _ hz))).2.2
    refine ⟨.ref l, rfl, line_of (show 0 ≤ 1000 by decide), fun le nle => ?_⟩
    have lle := ne_of_none hl nle
    have gle := ne_of_none hg nle
    have ple := ne_of_none hp1 nle
    have hl' : (upd H1 le (.lst [])) l = some (.lst (left.map V.str)) := by rw [upd_ne lle]; exact hl
    have hg' : (upd H1 le (.lst [])) g = some (.lst (done.map V.str)) := by rw [upd_ne gle]; exact hg
    have hp' : (upd H1 le (.lst [])) p = some (.lst y) := by rw [upd_ne ple]; exact hp1
    have hb' := hb.mut (o := HO.lst []) (hb.free hp1 nle)
    refine ⟨.list (left.map PyData.str), .list [], .lst (.of hl') (dp_strs left), .lst (.of upd_same) .nil, shaped_strs sok, rfl, ?_⟩
    have eL : leftOf l [some (.ref p), some (.ref t), some (.ref l), some (.ref g)] H1 = left.length := by
      unfold leftOf
      rw [hl]
      exact List.length_map _
    generalize upd H1 le (.lst []) = H2 at hl' hg' hp' hb'
    by_cases h0 : left = []
    · subst h0
      refine ⟨_, rfl, iteF ?_⟩
      rw [List.append_nil] at pm
      exact ⟨.ref g, rfl, q g done y _ pm hb' ngH hpg.symm hg' hp' (hw.mono (by
        have : ([] : List Str).length = 0 := rfl
        omega))⟩
    · have hc : (!PyData.eqv (.list (left.map PyData.str)) (.list [])) = true := by
        cases left with
        | nil => exact absurd rfl h0
        | cons a r => rfl
      rw [hc]
      have hpos := List.length_pos_iff.mpr h0
      refine ⟨_, rfl, iteT ?_⟩
      refine ⟨.ref g, rfl, .inl ⟨rfl, _, .of hg'⟩, .ref l, rfl, .inl ⟨rfl, _, .of hl'⟩, .ref p, rfl, .ref l, rfl, l, _, rfl, .inl (.of hl'), p, _, y, _, rfl, hp', hw, by omega, by rw [List.length_map]; omega, size_ok (by rw [List.length_map]; omega) (by rw [List.length_map]; omega), fun d y2 d0 d1 hw2 => ?_⟩
      rw [List.length_map] at d1
      have hd : d.toNat < left.length := by omega
      refine ⟨l, _, d, d.toNat, .str left[d.toNat], rfl, rfl, by rw [upd_ne hpl.symm]; exact hl', by omega, by omega, by rw [List.length_map]; exact seqIndex_of d0 d1, by rw [List.getElem?_map, List.getElem?_eq_getElem hd]; rfl, ?_⟩
      have hg2 : (upd (upd H2 p (.lst y2)) l (.lst ((left.map V.str).eraseIdx d.toNat))) g = some (.lst (done.map V.str)) := by rw [upd_ne hlg.symm, upd_ne hpg.symm]; exact hg'
      refine ⟨g, _, _, rfl, rfl, hg2, small1000 (by rw [List.length_map]; omega), ⟨rfl, left.eraseIdx d.toNat, done ++ [left[d.toNat]], y2, i + 1, ?_, ?_, ?_, by rw [List.length_append, ld]; rfl, ((hb'.upd _).mut nl).mut ngH, by rw [upd_ne hpg, upd_ne hpl, upd_same], hw2⟩, ?_⟩
      · rw [upd_ne hlg, upd_same, erase_map]
      · rw [upd_same, List.map_append]
        rfl
      · rw [List.append_assoc]
        exact ((pick_perm left d.toNat hd).append_left done).trans pm
      · rw [eL]
        unfold leftOf
        rw [upd_ne hlg, upd_same]
        show ((left.map V.str).eraseIdx d.toNat).length < left.length
        rw [erase_map, List.length_map, List.length_eraseIdx]
        split <;> omega
end
theorem Tiers.keep {H H' : Hp} {bs : List (Addr × List Str)} (k : TK H H') (h : Tiers H bs) : Tiers H' bs := fun b hb => ⟨k _ _ (h b hb).1, (h b hb).2⟩
theorem strs_at {ms : List Str} {i : Nat} {v : V} (h : (ms.map V.str)[i]? = some v) : ∃ wd, ms[i]? = some wd ∧ v = V.str wd := by
  rw [List.getElem?_map] at h
  cases e : ms[i]? with
  | none => rw [e] at h; cases h
  | some b => rw [e] at h; exact ⟨b, rfl, (Option.some.inj h).symm⟩
theorem tiers_len {fb : List (Addr × List Str)} {ms : List Str} {i : Nat} (hne : ∀ b ∈ fb, b.2 ≠ []) (hf : (fb.map (·.2)).flatten = ms.take i) : fb.length ≤ i := by
  have h1 : ∀ l : List (Addr × List Str), (∀ b ∈ l, b.2 ≠ []) → l.length ≤ (l.map (·.2)).flatten.length := fun l => by
    induction l with
    | nil => intro _; exact Nat.le_refl _
    | cons b r ih =>
      intro hne
      have := ih fun c hc => hne c (List.mem_cons_of_mem _ hc)
      have := List.length_pos_iff.mpr (hne b List.mem_cons_self)
      rw [List.map_cons, List.flatten_cons, List.length_append, List.length_cons]
      omega
  have := h1 fb hne
  rw [hf, List.length_take] at this
  omega
section
variable {P : Program} {w : World} {K : PySem.W.Frag} {mg : Str → Option Value} {base : Heap}
/-! ### a ballot drawn -/
def sp_law_ballot : Sp := fun vs H Q _ => ∃ (p t : Addr) (zs : List Str) (x : List V) (k : Nat), vs = [.ref p, .ref t] ∧ H p = some (.lst x) ∧ H t = some (.lst (zs.map V.str)) ∧ t ≠ p ∧ zs.length ≤ 6 ∧ zs.Nodup ∧ (∀ z ∈ zs, NameOk z) ∧ WellL x k ∧ k ≤ 700000 ∧
  ∀ (u : Addr) (b : Bal) (y : List V) (H' : Hp), BalAt H' u b → b.Ok zs → But p H H' → H u = none → H' p = some (.lst y) → WellL y (k + 40) → Q (.ref u) H'
theorem ok_law_ballot (T : Txt K mg) : FnOk P w K mg base CX0 4 T.f_law_ballot T.fd_law_ballot ["_law_source_here", "_law_people"] (sp_law_ballot) := by
  refine T.F_law_ballot.ok sc_law_ballot (fun vs H Q E h => ?_) (fun cdv A outer s H vs Q E hr h => ?_)
  · obtain ⟨p, t, zs, x, k, rfl, _⟩ := h
    rfl
  · obtain ⟨p, t, zs, x, k, rfl, hp, ht, htp, hn, nd, ok, hx, hk, q⟩ := h
    refine ⟨_, (pss_cons
 (ps_set (i := 2) sc_law_ballot.nd rfl (Or.inl rfl) (pe_call (ok_law_shuffled T) (hr.mono (by decide)) (by rfl) T.g_law_shuffled T.F_law_shuffled.kp T.b_law_shuffled .nil pass0 (pa_cons (pv 0) (pa_cons (pv 1) pa_nil))))
 (pss_cons
 (ps_set (i := 2) sc_law_ballot.nd rfl (Or.inl rfl) (pe_slice sl_list (pv 2) po_none (po_some (pe_callB (call_max2 rfl) (by rfl) T.z_max (by decide +kernel) (pa_cons pe_int (pa_cons (pe_op op_sub (pe_callB call_len_seq (by rfl) T.z_len (by decide +kernel) (pa_cons (pv 2) pa_nil)) (pe_ix ix_list (pe_lst (pa_cons pe_int (pa_cons pe_int (pa_cons pe_int (pa_cons pe_int (pa_cons pe_int pa_nil)))))) (pe_call (ok_law_take T) (hr.mono (by decide)) (by rfl) T.g_law_take T.F_law_take.kp T.b_law_take .nil pass0 (pa_cons (pv 0) (pa_cons pe_int pa_nil))) (fun _ _ => rfl))) pa_nil))))))
 (pss_cons
 (ps_set (i := 3) sc_law_ballot.nd rfl (Or.inl rfl) (pe_call (ok_law_take T) (hr.mono (by decide)) (by rfl) T.g_law_take T.F_law_take.kp T.b_law_take .nil pass0 (pa_cons (pv 0) (pa_cons pe_int pa_nil))))
 (pss_cons
 (ps_if (pt_cmpR op_lt (pv 3) pe_int (nomark _))
 (pss_cons
 (ps_set (i := 4) sc_law_ballot.nd rfl (Or.inl rfl) (pe_lst pa_nil))
 (pss_cons
 (ps_for PassesOwn.never rfl (pi_list (pv 2)) (pg_name (i := 5) sc_law_ballot.nd rfl (Or.inl rfl))
 (pss_one
 (ps_if (PW.pt (pw_and (pt_cmpR (op_neD hr.units) (pv 4) (pe_lst pa_nil) (nomark _)) (pw_and1 (pt_cmpR op_eq (pe_call (ok_law_take T) (hr.mono (by decide)) (by rfl) T.g_law_take T.F_law_take.kp T.b_law_take .nil pass0 (pa_cons (pv 0) (pa_cons pe_int pa_nil))) pe_int (nomark _)))))
 (pss_one
 (ps_asg (pe_op op_catT (pe_ix ix_list (pv 4) (pe_un un_neg pe_int) (fun _ _ => rfl)) (pe_tup (pa_cons (pv 5) pa_nil))) (pg_sub (pv 4) (pe_un un_neg pe_int) set_list)))
 (pss_one
 (ps_expr (pe_bm PySem.F.plainAttrs_list PySem.F.slot_list_append PySem.F.type_list_append mt_append (pv 4) (pa_cons (pe_tup (pa_cons (pv 5) pa_nil)) pa_nil)))))))
 (pss_one
 (ps_ret (pe_tup (pa_cons pe_str (pa_cons (pe_callTy call_tuple_of (by rfl) T.z_tuple (by decide +kernel) (pa_cons (pv 4) pa_nil)) pa_nil)))))))
 pss_nil)
 (pss_cons
 (ps_if (pt_cmpR op_lt (pv 3) pe_int (nomark _))
 (pss_one
 (ps_ret (pe_tup (pa_cons pe_str (pa_cons (pe_callTy call_tuple_of (by rfl) T.z_tuple (by decide +kernel) (pa_cons (pe_slice sl_list (pv 2) po_none (po_some (pe_call (ok_law_take T) (hr.mono (by decide)) (by rfl) T.g_law_take T.F_law_take.kp T.b_law_take .nil pass0 (pa_cons (pv 0) (pa_cons (pe_op op_add (pe_callB call_len_seq (by rfl) T.z_len (by decide +kernel) (pa_cons (pv 2) pa_nil)) pe_int) pa_nil))))) pa_nil)) pa_nil)))))
 pss_nil)
 (pss_one
 (ps_ret (pe_tup (pa_cons pe_str (pa_cons (pe_callTy (call_tupleF) (by rfl) T.z_tuple (by decide +kernel) (pa_cons (pe_lc (own := [("_law_name", 5)]) (g := gName 5) (tt := tYes) rfl sc_law_ballot.nd (pi_list (pv 2)) (blkOk_by (own := [("_law_name", 5)]) (N := ["_law_source_here", "_law_people", "_law_row", "_law_kind", "_law_steps", "_law_name"]) (sc := (defScope s_law_ballot)) (by decide +kernel)) (fun _ _ _ _ _ => pg_name (i := 5) sc_law_ballot.nd rfl (Or.inl rfl)) (fun _ _ _ _ _ => pts_nil) (fun _ _ _ _ _ => (pe_tup (pa_cons (pv 5) (pa_cons (pe_call (ok_law_take T) (hr.mono (by decide)) (by rfl) T.g_law_take T.F_law_take.kp T.b_law_take .nil pass0 (pa_cons (pv 0) (pa_cons pe_int pa_nil))) pa_nil))))) pa_nil)) pa_nil)))))))))), ?_⟩
    refine ⟨.ref p, rfl, .ref t, rfl, p, t, zs, x, _, rfl, hp, ht, htp, hn, ok, hx, by omega, fun u ws y1 H1 pw b1 nu up hu hp1 w2 => ?_⟩
    have wnd : ws.Nodup := (pw.nodup_iff).mpr nd
    have wsub : ∀ z ∈ ws, z ∈ zs := fun z hz => pw.mem_iff.mp hz
    have wl := pw.length_eq
    refine ⟨.ref u, rfl, ?_⟩
    dsimp only [tNoPart]
    refine ⟨.ref u, rfl, u, _, rfl, .inl (.of hu), line_of (show 5 ≤ 1000 by decide), fun l5 n5 => ?_⟩
    have p5 := ne_of_none hp1 n5
    have u5 := ne_of_none hu n5
    refine ⟨.ref p, rfl, p, 5, y1, _, rfl, by rw [upd_ne p5]; exact hp1, w2, by omega, by decide, size_ok (by decide) (by decide), fun d y2 d0 d1 w3 => ?_⟩
    obtain ⟨v, hv, hm⟩ : ∃ v, atI [V.int 0, V.int 0, V.int 0, V.int 1, V.int 2] d = some v ∧ v ∈ [V.int 0, V.int 0, V.int 0, V.int 1, V.int 2] := at_mem d0 d1
    obtain ⟨m, rfl⟩ : ∃ m : Int, v = .int m := by
      simp only [List.mem_cons, List.not_mem_nil, or_false] at hm
      rcases hm with rfl | rfl | rfl | rfl | rfl <;> exact ⟨_, rfl⟩
    refine ⟨l5, _, d, .int m, rfl, rfl, .of (by rw [upd_ne p5.symm, upd_same]), hv, _, _, rfl, rfl, 0, _, rfl, _, rfl, ?_⟩
    have b2 : But p H (upd (upd H1 l5 (.lst [V.int 0, V.int 0, V.int 0, V.int 1, V.int 2])) p (.lst y2)) := (b1.mut (b1.free hp1 n5)).upd _
    have hu2 : (upd (upd H1 l5 (.lst [V.int 0, V.int 0, V.int 0, V.int 1, V.int 2])) p (.lst y2)) u = some (.lst (ws.map V.str)) := by rw [upd_ne up, upd_ne u5]; exact hu
    have hp2 : (upd (upd H1 l5 (.lst [V.int 0, V.int 0, V.int 0, V.int 1, V.int 2])) p (.lst y2)) p = some (.lst y2) := upd_same
    generalize upd (upd H1 l5 (.lst [V.int 0, V.int 0, V.int 0, V.int 1, V.int 2])) p (.lst y2) = H2 at b2 hu2 hp2 ⊢
    refine ⟨u, _, rfl, .of hu2, fun s ns => ?_⟩
    obtain ⟨ms, em, sub⟩ := cut_strs ws none (some (if (((ws.map V.str).length : Nat) : Int) - m > 0 then (((ws.map V.str).length : Nat) : Int) - m else 0))
    rw [em]
    have ps := ne_of_none hp2 ns
    have nsH := b2.free hp2 ns
    have b3 : But p H (upd H2 s (.lst (ms.map V.str))) := b2.mut nsH
    have hs3 : (upd H2 s (.lst (ms.map V.str))) s = some (.lst (ms.map V.str)) := upd_same
    have hp3 : (upd H2 s (.lst (ms.map V.str))) p = some (.lst y2) := by rw [upd_ne ps]; exact hp2
    generalize upd H2 s (.lst (ms.map V.str)) = H3 at b3 hs3 hp3 ⊢
    refine ⟨.ref p, rfl, p, 8, y2, _, rfl, hp3, w3, by omega, by decide, size_ok (by decide) (by decide), fun kd y3 k0 k1 w4 => ?_⟩
    have b4 : But p H (upd H3 p (.lst y3)) := b3.upd _
    have hs4 : (upd H3 p (.lst y3)) s = some (.lst (ms.map V.str)) := by rw [upd_ne ps.symm]; exact hs3
    have hp4 : (upd H3 p (.lst y3)) p = some (.lst y3) := upd_same
    generalize upd H3 p (.lst y3) = H4 at b4 hs4 hp4 ⊢
    have lms : ms.length ≤ 6 := by have := sub.length_le; omega
    have hms : ∀ z ∈ ms, NameOk z := fun z hz => ok z (wsub z (sub.subset hz))
    have mnd := wnd.sublist sub
    have msub : ∀ z ∈ ms, z ∈ zs := fun z hz => wsub z (sub.subset hz)
    have w5 : WellL y3 (k + 8) := w4.mono (by omega)
    clear w4 w3 w2
    refine ⟨.int kd, rfl, _, _, rfl, rfl, _, rfl, ?_⟩
    cases decide (kd < 5) with
    | true =>
      have close : ∀ (bs : List (Addr × List Str)) (y : List V) (H3 : Hp) (l0 : Addr), H3 l0 = some (.lst (bs.map fun b => V.ref b.1)) → Tiers H3 bs → (bs.map (·.2)).flatten.Sublist ms → But p H H3 → H3 p = some (.lst y) → WellL y (k + 30) →
          ∀ (u2 : Addr), H3 u2 = none → ∀ v : Addr, (upd H3 u2 (.tup (bs.map fun b => V.ref b.1))) v = none → Q (.ref v) (upd (upd H3 u2 (.tup (bs.map fun b => V.ref b.1))) v (.tup [V.str "order", V.ref u2])) := fun bs y H3 l0 hl0 htb hsb hb hp3 hw u2 nu2 v nv => by
        have bu := hb.mut (o := HO.tup (bs.map fun b => V.ref b.1)) (hb.free hp3 nu2)
        have hpu := (upd_ne (o := HO.tup (bs.map fun b => V.ref b.1)) (ne_of_none hp3 nu2)).trans hp3
        refine q v (.order (bs.map (·.2))) y _ ⟨u2, bs, upd_same, TK.new nv _ _ upd_same, htb.keep ((TK.new nu2).trans (TK.new nv)), rfl⟩ ⟨mnd.sublist hsb, fun z hz => msub z (hsb.subset hz), ?_⟩ (bu.mut (bu.free hpu nv)) (bu.free hpu nv) (by rw [upd_ne (ne_of_none hpu nv)]; exact hpu) (hw.mono (by omega))
        intro tr htr
        obtain ⟨c, hc, rfl⟩ := List.mem_map.mp htr
        exact (htb c hc).2
      refine iteT ⟨line_of (show 0 ≤ 1000 by decide), fun l nl => ?_⟩
      have hpl := ne_of_none hp4 nl
      have nlH := b4.free hp4 nl
      have hsl := ne_of_none hs4 nl
      have hp5 : (upd H4 l (.lst [])) p = some (.lst y3) := by rw [upd_ne hpl]; exact hp4
      have hl5 : (upd H4 l (.lst [])) l = some (.lst []) := upd_same
      have hs5 : (upd H4 l (.lst [])) s = some (.lst (ms.map V.str)) := by rw [upd_ne hsl]; exact hs4
      refine ⟨.ref s, rfl, s, rfl, ⟨_, .of hs5⟩, for_list (K := K) (a := s) (xs := ms.map V.str)
        (fun i σ H' => ∃ (x5 : Option V) (fb : List (Addr × List Str)) (y : List V), σ = [some (.ref p), some (.ref t), some (.ref s), some (.int kd), some (.ref l), x5] ∧ H' l = some (.lst (fb.map fun b => V.ref b.1)) ∧ Tiers H' fb ∧ (fb.map (·.2)).flatten = ms.take i ∧
          H' s = some (.lst (ms.map V.str)) ∧ But p H H' ∧ H' p = some (.lst y) ∧ WellL y (k + 10 + i))
        ⟨_, [], y3, rfl, hl5, fun _ h => (by cases h), rfl, hs5, b4.mut nlH, hp5, w5.mono (by omega)⟩ (fun _ _ _ _ h => by obtain ⟨_, _, _, _, _, _, _, z, _⟩ := h; exact .of z) ?_ ?_⟩
      · rintro i v9 σ H3 hi ⟨x5, fb, y, rfl, hl, hfb, hflat, hs6, hb, hp3, hw⟩
        obtain ⟨wd, hwd, rfl⟩ := strs_at hi
        have il : i < ms.length := (List.getElem?_eq_some_iff.mp hwd).1
        have lfb := tiers_len (fun b hb => (hfb b hb).2) hflat
        have sok : ∀ tr ∈ fb.map (·.2), ∀ z ∈ tr, PyData.strOk z = true := fun tr htr z hz => by
          have : z ∈ ms.take i := by
            rw [← hflat]
            exact List.mem_flatten.mpr ⟨tr, htr, hz⟩
          exact small_ok (hms z (List.mem_of_mem_take this)).2.2
        refine ⟨.ref l, rfl, line_of (show 0 ≤ 1000 by decide), fun le nle => ?_⟩
        have se := same_upd (o := HO.lst []) nle
        have ke := TK.new (o := HO.lst []) nle
        have hle := se _ _ hl
        have hpe := se _ _ hp3
        have hse := se _ _ hs6
        have hbe := hb.mut (o := HO.lst []) (hb.free hp3 nle)
        have hfe := hfb.keep ke
        refine ⟨.list ((fb.map (·.2)).map tyD), .list [], .lst (.of hle) (dp_tiers fb hfe), .lst (.of upd_same) .nil, shaped_tiers sok, rfl, ?_⟩
        generalize upd H3 le (.lst []) = H4 at hle hpe hbe hfe hse
        by_cases hfb0 : fb = []
        · have hc : (!PyData.eqv (.list ((fb.map (·.2)).map tyD)) (.list [])) = false := by rw [hfb0]; rfl
          rw [hc]
          refine ⟨_, rfl, iteF (iteF ?_)⟩
          refine ⟨.ref l, rfl, .inl ⟨rfl, _, .of hle⟩, .str wd, rfl, line_of (show 1 ≤ 1000 by decide), fun b nb => ?_⟩
          have kb := TK.new (o := HO.tup [V.str wd]) nb
          have hlb := (upd_ne (o := HO.tup [V.str wd]) (ne_of_none hle nb)).trans hle
          have kl := TK.lst (o := HO.lst ((fb.map fun b => V.ref b.1) ++ [V.ref b])) hlb
          refine ⟨l, _, _, rfl, rfl, hlb, small1000 (by rw [List.length_map]; omega), _, fb ++ [(b, [wd])], _, rfl, ?_, ?_, ?_, by rw [upd_ne hsl, upd_ne (ne_of_none hse nb)]; exact hse, (hbe.mut (hbe.free hpe nb)).mut nlH, by rw [upd_ne hpl, upd_ne (ne_of_none hpe nb)]; exact hpe, hw.mono (by omega)⟩
          · rw [upd_same]
            simp
          · intro c hc
            rcases List.mem_append.mp hc with hc | hc
            · exact (hfe.keep (kb.trans kl)) c hc
            · rw [List.mem_singleton.mp hc]
              exact ⟨kl _ _ upd_same, List.cons_ne_nil _ _⟩
          · rw [take_more hwd, ← hflat, List.map_append, List.flatten_append]
            rfl
        · obtain ⟨fi, bl, rfl⟩ : ∃ fi bl, fb = fi ++ [bl] := ⟨fb.dropLast, fb.getLast hfb0, (List.dropLast_concat_getLast hfb0).symm⟩
          have hc : (!PyData.eqv (.list (((fi ++ [bl]).map (·.2)).map tyD)) (.list [])) = true := by
            cases fi with
            | nil => rfl
            | cons a r => rfl
          rw [hc]
          refine ⟨_, rfl, iteT ?_⟩
          refine ⟨.ref p, rfl, p, 5, y, _, rfl, hpe, hw, by omega, by decide, size_ok (by decide) (by decide), fun dd yy dd0 dd1 ww => ?_⟩
          have kp := TK.lst (o := HO.lst yy) hpe
          have hlp : (upd H4 p (.lst yy)) l = some (.lst ((fi ++ [bl]).map fun b => V.ref b.1)) := by rw [upd_ne hpl.symm]; exact hle
          have hsp : (upd H4 p (.lst yy)) s = some (.lst (ms.map V.str)) := by rw [upd_ne ps.symm]; exact hse
          have hpp : (upd H4 p (.lst yy)) p = some (.lst yy) := upd_same
          have hbp := hbe.upd (.lst yy)
          have hfp := hfe.keep kp
          generalize upd H4 p (.lst yy) = H5 at hlp hpp hbp hfp hsp
          refine ⟨rfl, _, rfl, ?_⟩
          cases decide (V.int dd = V.int 0) with
          | false =>
            refine iteF ?_
            refine ⟨.ref l, rfl, .inl ⟨rfl, _, .of hlp⟩, .str wd, rfl, line_of (show 1 ≤ 1000 by decide), fun b nb => ?_⟩
            have kb := TK.new (o := HO.tup [V.str wd]) nb
            have hlb := (upd_ne (o := HO.tup [V.str wd]) (ne_of_none hlp nb)).trans hlp
            have kl := TK.lst (o := HO.lst (((fi ++ [bl]).map fun b => V.ref b.1) ++ [V.ref b])) hlb
            refine ⟨l, _, _, rfl, rfl, hlb, small1000 (by rw [List.length_map]; omega), _, (fi ++ [bl]) ++ [(b, [wd])], _, rfl, ?_, ?_, ?_, by rw [upd_ne hsl, upd_ne (ne_of_none hsp nb)]; exact hsp, (hbp.mut (hbp.free hpp nb)).mut nlH, by rw [upd_ne hpl, upd_ne (ne_of_none hpp nb)]; exact hpp, ww.mono (by omega)⟩
            · rw [upd_same]
              simp
            · intro c hc
              rcases List.mem_append.mp hc with hc | hc
              · exact (hfp.keep (kb.trans kl)) c hc
              · rw [List.mem_singleton.mp hc]
                exact ⟨kl _ _ upd_same, List.cons_ne_nil _ _⟩
            · rw [take_more hwd, ← hflat, List.map_append, List.flatten_append]
              rfl
          | true =>
            rw [List.map_append] at hlp
            refine iteT ⟨.ref l, rfl, 1, rfl, l, _, _, .ref bl.1, rfl, rfl, .of hlp, at_last _ _, .str wd, rfl, line_of (show 1 ≤ 1000 by decide), fun b nb => ?_⟩
            obtain ⟨gb, nbe⟩ := hfp bl (List.mem_append_right _ List.mem_cons_self)
            have sb := same_upd (o := HO.tup [V.str wd]) nb
            have lb2 : bl.2.length ≤ 6 := by
              have h1 : ((fi ++ [bl]).map (·.2)).flatten.length = (ms.take i).length := congrArg List.length hflat
              rw [List.map_append, List.flatten_append, List.length_append, List.length_take] at h1
              have h2 : (([bl].map (·.2)).flatten).length = bl.2.length := by simp
              omega
            refine ⟨bl.1, b, bl.2.map V.str, [V.str wd], rfl, rfl, .of (sb _ _ gb), .of upd_same, by simpa using nbe, line_of (by rw [List.length_map]; show bl.2.length + 1 ≤ 1000; omega), fun h => absurd h (List.cons_ne_nil _ _), fun _ b2' nb2 => ?_⟩
            have sb2 := sb.trans (same_upd (o := HO.tup (bl.2.map V.str ++ [V.str wd])) nb2)
            have hq2 : (upd (upd H5 b (.tup [V.str wd])) b2' (.tup (bl.2.map V.str ++ [V.str wd]))) b2' = some (.tup (bl.2.map V.str ++ [V.str wd])) := upd_same
            have hbb := hbp.same sb2
            have hl5 := sb2 _ _ hlp
            have hp5 := sb2 _ _ hpp
            have hs5 := sb2 _ _ hsp
            have hf5 := hfp.keep (TK.same sb2)
            generalize upd (upd H5 b (.tup [V.str wd])) b2' (.tup (bl.2.map V.str ++ [V.str wd])) = H6 at hq2 hbb hl5 hp5 hf5 hs5
            refine ⟨.ref l, rfl, 1, rfl, l, _, _, fi.length, rfl, rfl, hl5, by rw [List.length_append, List.length_map]; exact ix_last _, ?_⟩
            have kz := TK.lst (o := HO.lst (((fi.map fun b => V.ref b.1) ++ [V.ref bl.1]).set fi.length (V.ref b2'))) hl5
            refine ⟨_, fi ++ [(b2', bl.2 ++ [wd])], yy, rfl, ?_, ?_, ?_, by rw [upd_ne hsl]; exact hs5, hbb.mut nlH, by rw [upd_ne hpl]; exact hp5, ww.mono (by omega)⟩
            · rw [upd_same, List.map_append]
              have e := set_last (fi.map fun b => V.ref b.1) (V.ref bl.1) (V.ref b2')
              rw [List.length_map] at e
              exact congrArg (fun l => some (HO.lst l)) e
            · intro c hc
              rcases List.mem_append.mp hc with hc | hc
              · exact (hf5.keep kz) c (List.mem_append_left _ hc)
              · rw [List.mem_singleton.mp hc]
                refine ⟨?_, by simp⟩
                rw [List.map_append]
                exact kz _ _ hq2
            · rw [take_more hwd, ← hflat, List.map_append, List.map_append, List.flatten_append, List.flatten_append]
              simp
      · rintro σ H3 ⟨x5, fb, y, rfl, hl, hfb, hflat, hs6, hb, hp3, hw⟩
        rw [List.length_map, List.take_length] at hflat
        exact ⟨.ref l, rfl, l, _, rfl, .inl ⟨.of hl, fun u2 nu2 => ⟨line_of (show 2 ≤ 1000 by decide), fun v nv => close fb y H3 l hl hfb (by rw [hflat]; exact List.Sublist.refl _) hb hp3 (hw.mono (by rw [List.length_map]; omega)) u2 nu2 v nv⟩⟩⟩
    | false =>
      refine iteF ⟨.int kd, rfl, _, _, rfl, rfl, _, rfl, ?_⟩
      cases decide (kd < 7) with
      | true =>
        refine iteT ⟨.ref s, rfl, ?_⟩
        dsimp only [tNoPart]
        refine ⟨.ref p, rfl, .ref s, rfl, s, _, rfl, .inl (.of hs4), _, _, rfl, rfl, p, _, y3, _, rfl, hp4, w5, by omega, by rw [List.length_map]; omega, size_ok (by rw [List.length_map]; omega) (by rw [List.length_map]; omega), fun e y4 e0 e1 w6 => ⟨e, rfl, ?_⟩⟩
        have hs5 : (upd H4 p (.lst y4)) s = some (.lst (ms.map V.str)) := by rw [upd_ne ps.symm]; exact hs4
        have hp5 : (upd H4 p (.lst y4)) p = some (.lst y4) := upd_same
        have b5 := b4.upd (.lst y4)
        generalize upd H4 p (.lst y4) = H5 at hs5 hp5 b5 ⊢
        refine ⟨s, _, rfl, .of hs5, fun r nr => ?_⟩
        obtain ⟨ls, el, sl⟩ := cut_strs ms none (some e)
        rw [el]
        have s6 := same_upd (o := HO.lst (ls.map V.str)) nr
        refine ⟨r, _, rfl, .inl ⟨.of upd_same, fun c nc => ⟨line_of (show 2 ≤ 1000 by decide), fun v nv => ?_⟩⟩⟩
        have s7 := s6.trans (same_upd (o := HO.tup (ls.map V.str)) nc)
        have b7 := b5.same s7
        have hp7 := s7 _ _ hp5
        exact q v (.lets ls) y4 _ ⟨c, upd_same, same_upd nv _ _ upd_same⟩ ⟨mnd.sublist sl, fun z hz => msub z (sl.subset hz)⟩ (b7.mut (b7.free hp7 nv)) (b7.free hp7 nv) (same_upd nv _ _ hp7) (w6.mono (by omega))
      | false =>
        refine iteF ⟨.ref s, rfl, s, rfl, ⟨_, .of hs4⟩, fun D nD => ?_⟩
        have pD := ne_of_none hp4 nD
        have sD := ne_of_none hs4 nD
        have nDH := b4.free hp4 nD
        refine lc_list (K := K) (a := s) (xs := ms.map V.str) (fun i H' => ∃ (bs : List (Addr × (Str × Int))) (y : List V), H' D = some (.lst (bs.map fun b => V.ref b.1)) ∧ (∀ b ∈ bs, H' b.1 = some (.tup [.str b.2.1, .int b.2.2])) ∧
            bs.map (·.2.1) = ms.take i ∧ (∀ b ∈ bs, 0 ≤ b.2.2 ∧ b.2.2 ≤ 9) ∧ But p H H' ∧ H' p = some (.lst y) ∧ WellL y (k + 10 + 2 * i) ∧ H' s = some (.lst (ms.map V.str)))
          ⟨[], y3, upd_same, fun _ h => (by cases h), rfl, fun _ h => (by cases h), b4.mut nDH, by rw [upd_ne pD]; exact hp4, w5.mono (by omega), by rw [upd_ne sD]; exact hs4⟩ (fun _ _ _ h => by obtain ⟨_, _, _, _, _, _, _, _, _, z⟩ := h; exact .of z) ?_ ?_
        · rintro i v9 H3 hi ⟨bs, y, hD, hbs, hm, hr9, hb, hp3, hw, hs3⟩
          obtain ⟨wd, hwd, rfl⟩ := strs_at hi
          have il : i < ms.length := (List.getElem?_eq_some_iff.mp hwd).1
          have lbs : bs.length ≤ i := by
            have := congrArg List.length hm
            rw [List.length_map, List.length_take] at this
            omega
          refine ⟨rfl, .str wd, rfl, .ref p, rfl, p, 10, y, _, rfl, hp3, hw, by omega, by decide, size_ok (by decide) (by decide), fun d y4 d0 d1 hw4 => ⟨line_of (show 2 ≤ 1000 by decide), fun b nb => ?_⟩⟩
          have hp4' : (upd H3 p (.lst y4)) p = some (.lst y4) := upd_same
          have hD4' : (upd H3 p (.lst y4)) D = some (.lst (bs.map fun b => V.ref b.1)) := by rw [upd_ne pD.symm]; exact hD
          have hs4' : (upd H3 p (.lst y4)) s = some (.lst (ms.map V.str)) := by rw [upd_ne ps.symm]; exact hs3
          have k5 : TK H3 (upd (upd H3 p (.lst y4)) b (.tup [V.str wd, V.int d])) := (TK.lst hp3).trans (TK.new nb)
          have sb := same_upd (o := HO.tup [V.str wd, V.int d]) nb
          have hD5 := sb _ _ hD4'
          have hb5 := (hb.upd (.lst y4)).mut (o := HO.tup [V.str wd, V.int d]) ((hb.upd (.lst y4)).free hp4' nb)
          have hp5 := sb _ _ hp4'
          have hs5 := sb _ _ hs4'
          have hq5 : (upd (upd H3 p (.lst y4)) b (.tup [V.str wd, V.int d])) b = some (.tup [V.str wd, V.int d]) := upd_same
          generalize upd (upd H3 p (.lst y4)) b (.tup [V.str wd, V.int d]) = H5 at k5 hD5 hb5 hp5 hq5 hs5
          have kD := TK.lst (o := HO.lst ((bs.map fun b => V.ref b.1) ++ [V.ref b])) hD5
          refine ⟨bs.map fun b => V.ref b.1, hD5, small1000 (by rw [List.length_map]; omega), bs ++ [(b, (wd, d))], y4, ?_, ?_, ?_, ?_, hb5.mut nDH, by rw [upd_ne pD]; exact hp5, hw4.mono (by omega), by rw [upd_ne sD]; exact hs5⟩
          · rw [upd_same, List.map_append]
            rfl
          · intro c hc
            rcases List.mem_append.mp hc with hc | hc
            · exact (k5.trans kD) _ _ (hbs c hc)
            · rw [List.mem_singleton.mp hc]
              exact kD _ _ hq5
          · rw [List.map_append, hm, take_more hwd]
            rfl
          · intro c hc
            rcases List.mem_append.mp hc with hc | hc
            · exact hr9 c hc
            · rw [List.mem_singleton.mp hc]
              exact ⟨d0, by show d ≤ 9; omega⟩
        · rintro H3 ⟨bs, y, hD, hbs, hm, hr9, hb, hp3, hw, hs3⟩
          rw [List.length_map, List.take_length] at hm
          refine ⟨D, _, rfl, .of hD, fun u2 o nu2 oc od => ⟨line_of (show 2 ≤ 1000 by decide), fun v nv => ?_⟩⟩
          have bu := hb.mut (o := HO.frz o (.tup (bs.map fun b => V.ref b.1))) (hb.free hp3 nu2)
          have hpu := (upd_ne (o := HO.frz o (.tup (bs.map fun b => V.ref b.1))) (ne_of_none hp3 nu2)).trans hp3
          have k2 := TK.new (o := HO.tup [V.str "marks", V.ref u2]) nv
          have kk := (TK.new (o := HO.frz o (.tup (bs.map fun b => V.ref b.1))) nu2).trans k2
          have hm2 : (bs.map (·.2)).map (·.1) = ms := by rw [List.map_map]; exact hm
          refine q v (.marks (bs.map (·.2))) y _ ⟨u2, o, bs, upd_same, ⟨od, k2.frz _ _ _ upd_same⟩, fun c hc => kk _ _ (hbs c hc), rfl⟩ ⟨by rw [hm2]; exact mnd, ?_, ?_⟩ (bu.mut (bu.free hpu nv)) (bu.free hpu nv) (by rw [upd_ne (ne_of_none hpu nv)]; exact hpu) (hw.mono (by rw [List.length_map]; omega))
          · intro m hm'
            exact msub _ (by rw [← hm2]; exact List.mem_map.mpr ⟨m, hm', rfl⟩)
          · intro m hm'
            obtain ⟨c, hc, rfl⟩ := List.mem_map.mp hm'
            exact hr9 c hc
end
/-- the list of rows, not yet a tuple -/
def RowsL (H : Hp) (g : Addr) (as : List (Addr × Addr × (Bal × Int))) : Prop := H g = some (.lst (as.map fun a => V.ref a.1)) ∧ ∀ a ∈ as, H a.1 = some (.tup [.ref a.2.1, .int a.2.2.2]) ∧ BalAt H a.2.1 a.2.2.1
theorem RowsL.push {H1 H2 : Hp} {g u c : Addr} {as : List (Addr × Addr × (Bal × Int))} {b : Bal} {m : Int} (h : RowsL H1 g as) (k : TK H1 H2) (hg : H2 g = some (.lst (as.map fun a => V.ref a.1))) (hb : BalAt H2 u b) (nc : H2 c = none) :
    RowsL (upd (upd H2 c (.tup [.ref u, .int m])) g (.lst ((as.map fun a => V.ref a.1) ++ [V.ref c]))) g (as ++ [(c, u, (b, m))]) ∧ TK H1 (upd (upd H2 c (.tup [.ref u, .int m])) g (.lst ((as.map fun a => V.ref a.1) ++ [V.ref c]))) := by
  have kc := TK.new (o := HO.tup [V.ref u, V.int m]) nc
  have hgc := (upd_ne (o := HO.tup [V.ref u, V.int m]) (ne_of_none hg nc)).trans hg
  have kg := TK.lst (o := HO.lst ((as.map fun a => V.ref a.1) ++ [V.ref c])) hgc
  refine ⟨⟨by rw [upd_same]; simp, fun a ha => ?_⟩, (k.trans kc).trans kg⟩
  rcases List.mem_append.mp ha with ha | ha
  · exact ⟨((k.trans kc).trans kg) _ _ (h.2 a ha).1, (h.2 a ha).2.keep ((k.trans kc).trans kg)⟩
  · rw [List.mem_singleton.mp ha]
    exact ⟨kg _ _ upd_same, (hb.keep kc).keep kg⟩
def RowOk (zs : List Str) (a : Addr × Addr × (Bal × Int)) : Prop := a.2.2.1.Ok zs ∧ 1 ≤ a.2.2.2 ∧ a.2.2.2 ≤ 1000000
theorem rowOk_push {zs : List Str} {as : List (Addr × Addr × (Bal × Int))} {a : Addr × Addr × (Bal × Int)} (h : ∀ a ∈ as, RowOk zs a) (ha : RowOk zs a) : ∀ b ∈ as ++ [a], RowOk zs b := fun b hb => by
  rcases List.mem_append.mp hb with hb | hb
  · exact h b hb
  · rw [List.mem_singleton.mp hb]
    exact ha
section
variable {P : Program} {w : World} {K : PySem.W.Frag} {mg : Str → Option Value} {base : Heap}
/-! ### rows drawn -/
def sp_law_rows : Sp := fun vs H Q _ => ∃ (p t : Addr) (n : Int) (zs : List Str) (x : List V) (k : Nat), vs = [.ref p, .ref t, .int n] ∧ H p = some (.lst x) ∧ H t = some (.lst (zs.map V.str)) ∧ t ≠ p ∧ 0 ≤ n ∧ n ≤ 10 ∧ zs.length ≤ 6 ∧ zs.Nodup ∧ (∀ z ∈ zs, NameOk z) ∧ WellL x k ∧ k ≤ 600000 ∧
  ∀ (g : Addr) (as : List (Addr × Addr × (Bal × Int))) (y : List V) (H' : Hp), RowsL H' g as → (∀ a ∈ as, RowOk zs a) → as.length = n.toNat → But p H H' → H g = none → g ≠ p → H' p = some (.lst y) → WellL y (k + 500) → Q (.ref g) H'
theorem ok_law_rows (T : Txt K mg) : FnOk P w K mg base CX0 5 T.f_law_rows T.fd_law_rows ["_law_source_here", "_law_people", "_law_size"] (sp_law_rows) := by
  refine T.F_law_rows.ok sc_law_rows (fun vs H Q E h => ?_) (fun cdv A outer s H vs Q E hr h => ?_)
  · obtain ⟨p, t, n, zs, x, k, rfl, _⟩ := h
    rfl
  · obtain ⟨p, t, n, zs, x, k, rfl, hp, ht, htp, n0, n1, hn, nd, ok, hx, hk, q⟩ := h
    refine ⟨_, (pss_cons
 (ps_set (i := 3) sc_law_rows.nd rfl (Or.inl rfl) (pe_lst pa_nil))
 (pss_cons
 (ps_for PassesOwn.never rfl (pi_range1 rfl T.z_range (pa_cons (pv 2) pa_nil)) (pg_name (i := 4) sc_law_rows.nd rfl (Or.inl rfl))
 (pss_cons
 (ps_set (i := 5) sc_law_rows.nd rfl (Or.inl rfl) (pe_call (ok_law_take T) (hr.mono (by decide)) (by rfl) T.g_law_take T.F_law_take.kp T.b_law_take .nil pass0 (pa_cons (pv 0) (pa_cons pe_int pa_nil))))
 (pss_cons
 (ps_set (i := 6) sc_law_rows.nd rfl (Or.inl rfl) pe_int)
 (pss_cons
 (ps_if (pt_cmpR op_gt (pv 5) pe_int (nomark _))
 (pss_one
 (ps_set (i := 6) sc_law_rows.nd rfl (Or.inl rfl) (pe_op op_add pe_int (pe_call (ok_law_take T) (hr.mono (by decide)) (by rfl) T.g_law_take T.F_law_take.kp T.b_law_take .nil pass0 (pa_cons (pv 0) (pa_cons (pe_ix ix_list (pe_lst (pa_cons pe_int (pa_cons pe_int (pa_cons pe_int (pa_cons (pe_op op_pow pe_int pe_int) pa_nil))))) (pv 5) (fun _ _ => rfl)) pa_nil))))))
 pss_nil)
 (pss_one
 (ps_expr (pe_bm PySem.F.plainAttrs_list PySem.F.slot_list_append PySem.F.type_list_append mt_append (pv 3) (pa_cons (pe_tup (pa_cons (pe_call (ok_law_ballot T) (hr.mono (by decide)) (by rfl) T.g_law_ballot T.F_law_ballot.kp T.b_law_ballot .nil pass0 (pa_cons (pv 0) (pa_cons (pv 1) pa_nil))) (pa_cons (pv 6) pa_nil))) pa_nil))))))))
 (pss_one
 (ps_ret (pv 3))))), ?_⟩
    refine ⟨line_of (show 0 ≤ 1000 by decide), fun g ng => ?_⟩
    have pg := ne_of_none hp ng
    have tg := ne_of_none ht ng
    refine ⟨.int n, rfl, n, rfl, by omega, by omega, for_range (fun i σ H' => ∃ (x4 x5 x6 : Option V) (as : List (Addr × Addr × (Bal × Int))) (y : List V), σ = [some (.ref p), some (.ref t), some (.int n), some (.ref g), x4, x5, x6] ∧ RowsL H' g as ∧ (∀ a ∈ as, RowOk zs a) ∧ as.length = i ∧ But p H H' ∧
        H' p = some (.lst y) ∧ WellL y (k + 50 * i) ∧ H' t = some (.lst (zs.map V.str)))
      ⟨_, _, _, [], x, rfl, ⟨upd_same, fun _ h => (by cases h)⟩, fun _ h => (by cases h), rfl, (But.refl p H).mut ng, by rw [upd_ne pg]; exact hp, hx, by rw [upd_ne tg]; exact ht⟩ ?_ ?_⟩
    · rintro i σ H2 hi ⟨x4, x5, x6, as, y, rfl, hrl, hok, la, hb, hp2, hw, ht2⟩
      refine ⟨.ref p, rfl, p, 4, y, _, rfl, hp2, hw, by omega, by decide, size_ok (by decide) (by decide), fun wy y2 w0 w1 w2 => ?_⟩
      have k2 : TK H2 (upd H2 p (.lst y2)) := TK.lst hp2
      have hg2 : (upd H2 p (.lst y2)) g = some (.lst (as.map fun a => V.ref a.1)) := by rw [upd_ne pg.symm]; exact hrl.1
      have ht3 : (upd H2 p (.lst y2)) t = some (.lst (zs.map V.str)) := by rw [upd_ne htp]; exact ht2
      have hp3 : (upd H2 p (.lst y2)) p = some (.lst y2) := upd_same
      have b3 := hb.upd (.lst y2)
      have ba : ∀ a ∈ as, (upd H2 p (.lst y2)) a.1 = some (.tup [.ref a.2.1, .int a.2.2.2]) ∧ BalAt (upd H2 p (.lst y2)) a.2.1 a.2.2.1 := fun a ha => ⟨k2 _ _ (hrl.2 a ha).1, (hrl.2 a ha).2.keep k2⟩
      generalize upd H2 p (.lst y2) = H3 at hg2 ht3 hp3 b3 ba ⊢
      clear k2
      have fin : ∀ (m : Int) (x5 x6 : Option V) (y : List V) (H4 : Hp), 1 ≤ m → m ≤ 1000000 → H4 g = some (.lst (as.map fun a => V.ref a.1)) → H4 t = some (.lst (zs.map V.str)) → H4 p = some (.lst y) → But p H H4 → (∀ a ∈ as, H4 a.1 = some (.tup [.ref a.2.1, .int a.2.2.2]) ∧ BalAt H4 a.2.1 a.2.2.1) → WellL y (k + 50 * i + 3) →
          ∀ (u : Addr) (b : Bal) (y5 : List V) (H5 : Hp), BalAt H5 u b → b.Ok zs → But p H4 H5 → H4 u = none → H5 p = some (.lst y5) → WellL y5 (k + 50 * i + 3 + 40) → ∀ c : Addr, H5 c = none →
          ∃ (as' : List (Addr × Addr × (Bal × Int))), RowsL (upd (upd H5 c (.tup [.ref u, .int m])) g (.lst ((as.map fun a => V.ref a.1) ++ [V.ref c]))) g as' ∧ (∀ a ∈ as', RowOk zs a) ∧ as'.length = i + 1 ∧ But p H (upd (upd H5 c (.tup [.ref u, .int m])) g (.lst ((as.map fun a => V.ref a.1) ++ [V.ref c]))) ∧
            (upd (upd H5 c (.tup [.ref u, .int m])) g (.lst ((as.map fun a => V.ref a.1) ++ [V.ref c]))) p = some (.lst y5) ∧ WellL y5 (k + 50 * (i + 1)) ∧ (upd (upd H5 c (.tup [.ref u, .int m])) g (.lst ((as.map fun a => V.ref a.1) ++ [V.ref c]))) t = some (.lst (zs.map V.str)) := by
        intro m x5 x6 y H4 m0 m1 hg4 ht4 hp4 b4 ba4 w4 u b y5 H5 hbal hbok b5 nu hp5 w5 c nc
        have kk : TK H4 H5 := b5.tups hp4
        have hg5 := b5 g _ pg.symm hg4
        obtain ⟨r1, r2⟩ := RowsL.push (m := m) (show RowsL H4 g as from ⟨hg4, ba4⟩) kk hg5 hbal nc
        have hbb := b4.trans b5
        refine ⟨_, r1, rowOk_push hok ⟨hbok, m0, m1⟩, by rw [List.length_append, la]; rfl, (hbb.mut (hbb.free hp5 nc)).mut ng, by rw [upd_ne pg, upd_ne (ne_of_none hp5 nc)]; exact hp5, w5.mono (by omega), ?_⟩
        have ht5 := b5 t _ htp ht4
        rw [upd_ne tg, upd_ne (ne_of_none ht5 nc)]
        exact ht5
      refine ⟨.int wy, rfl, _, _, rfl, rfl, _, rfl, ?_⟩
      cases decide (0 < wy) with
      | false =>
        refine iteF ⟨.ref g, rfl, .inl ⟨rfl, _, .of hg2⟩, .ref p, rfl, .ref t, rfl, p, t, zs, y2, _, rfl, hp3, ht3, htp, hn, nd, ok, w2, by omega, fun u b y5 H5 hbal hbok b5 nu hp5 w5 => ?_⟩
        refine ⟨.int 1, rfl, line_of (show 2 ≤ 1000 by decide), fun c nc => ?_⟩
        have hg5 := b5 g _ pg.symm hg2
        obtain ⟨as', z1, z2, z3, z4, z5, z6, z7⟩ := fin 1 none none y2 H3 (by decide) (by decide) hg2 ht3 hp3 b3 ba (w2.mono (by omega)) u b y5 H5 hbal hbok b5 nu hp5 (w5.mono (by omega)) c nc
        exact ⟨g, _, _, rfl, rfl, (upd_ne (ne_of_none hg5 nc)).trans hg5, small1000 (by rw [List.length_map]; omega), _, _, _, as', y5, rfl, z1, z2, z3, z4, z5, z6, z7⟩
      | true =>
        refine iteT ⟨.ref p, rfl, 10, 6, rfl, rfl, ⟨by decide, by decide, by decide⟩, line_of (show 4 ≤ 1000 by decide), fun l4 n4 => ?_⟩
        have s4 := same_upd (o := HO.lst [V.int 1, V.int 3, V.int 20, V.int (10 ^ (6 : Int).toNat)]) n4
        obtain ⟨v, hv, hm⟩ : ∃ v, atI [V.int 1, V.int 3, V.int 20, V.int (10 ^ (6 : Int).toNat)] wy = some v ∧ v ∈ [V.int 1, V.int 3, V.int 20, V.int (10 ^ (6 : Int).toNat)] := at_mem w0 w1
        obtain ⟨m, rfl, m0, m1⟩ : ∃ m : Int, v = .int m ∧ 1 ≤ m ∧ m ≤ 1000000 := by
          simp only [List.mem_cons, List.not_mem_nil, or_false] at hm
          rcases hm with rfl | rfl | rfl | rfl
          · exact ⟨_, rfl, by decide, by decide⟩
          · exact ⟨_, rfl, by decide, by decide⟩
          · exact ⟨_, rfl, by decide, by decide⟩
          · exact ⟨_, rfl, by decide, by decide⟩
        have hb4 := b3.same s4
        have hg4 := s4 _ _ hg2
        have ht4 := s4 _ _ ht3
        have hp4 := s4 _ _ hp3
        have k4 : TK H3 (upd H3 l4 (.lst [V.int 1, V.int 3, V.int 20, V.int (10 ^ (6 : Int).toNat)])) := TK.new n4
        have ba4 : ∀ a ∈ as, (upd H3 l4 (.lst [V.int 1, V.int 3, V.int 20, V.int (10 ^ (6 : Int).toNat)])) a.1 = some (.tup [.ref a.2.1, .int a.2.2.2]) ∧ BalAt (upd H3 l4 (.lst [V.int 1, V.int 3, V.int 20, V.int (10 ^ (6 : Int).toNat)])) a.2.1 a.2.2.1 := fun a ha => ⟨k4 _ _ (ba a ha).1, (ba a ha).2.keep k4⟩
        have hl4 : (upd H3 l4 (.lst [V.int 1, V.int 3, V.int 20, V.int (10 ^ (6 : Int).toNat)])) l4 = some (.lst [V.int 1, V.int 3, V.int 20, V.int (10 ^ (6 : Int).toNat)]) := upd_same
        refine ⟨.int wy, rfl, l4, _, wy, .int m, rfl, rfl, .of hl4, hv, ?_⟩
        generalize upd H3 l4 (.lst [V.int 1, V.int 3, V.int 20, V.int (10 ^ (6 : Int).toNat)]) = H4 at hb4 hg4 ht4 hp4 ba4 ⊢
        refine ⟨p, m, y2, _, rfl, hp4, w2, by omega, by omega, Nat.lt_of_le_of_lt (show m.natAbs ≤ 1000000 by omega) (by decide +kernel), fun d y3 d0 d1 w3 => ?_⟩
        have k5 : TK H4 (upd H4 p (.lst y3)) := TK.lst hp4
        have ba5 : ∀ a ∈ as, (upd H4 p (.lst y3)) a.1 = some (.tup [.ref a.2.1, .int a.2.2.2]) ∧ BalAt (upd H4 p (.lst y3)) a.2.1 a.2.2.1 := fun a ha => ⟨k5 _ _ (ba4 a ha).1, (ba4 a ha).2.keep k5⟩
        have hb5 := hb4.upd (.lst y3)
        have hg5 : (upd H4 p (.lst y3)) g = some (.lst (as.map fun a => V.ref a.1)) := by rw [upd_ne pg.symm]; exact hg4
        have ht5 : (upd H4 p (.lst y3)) t = some (.lst (zs.map V.str)) := by rw [upd_ne htp]; exact ht4
        have hp5 : (upd H4 p (.lst y3)) p = some (.lst y3) := upd_same
        generalize upd H4 p (.lst y3) = H5 at ba5 hb5 hg5 ht5 hp5 ⊢
        refine ⟨1, d, rfl, rfl, ?_⟩
        refine ⟨.ref g, rfl, .inl ⟨rfl, _, .of hg5⟩, .ref p, rfl, .ref t, rfl, p, t, zs, y3, _, rfl, hp5, ht5, htp, hn, nd, ok, w3, by omega, fun u b y6 H6 hbal hbok b6 nu hp6 w6 => ?_⟩
        refine ⟨.int (1 + d), rfl, line_of (show 2 ≤ 1000 by decide), fun c nc => ?_⟩
        have hg6 := b6 g _ pg.symm hg5
        obtain ⟨as', z1, z2, z3, z4, z5, z6, z7⟩ := fin (1 + d) none none y3 H5 (by omega) (by omega) hg5 ht5 hp5 hb5 ba5 (w3.mono (by omega)) u b y6 H6 hbal hbok b6 nu hp6 (w6.mono (by omega)) c nc
        exact ⟨g, _, _, rfl, rfl, (upd_ne (ne_of_none hg6 nc)).trans hg6, small1000 (by rw [List.length_map]; omega), _, _, _, as', y6, rfl, z1, z2, z3, z4, z5, z6, z7⟩
    · rintro σ H2 ⟨x4, x5, x6, as, y, rfl, hrl, hok, la, hb, hp2, hw, ht2⟩
      exact ⟨.ref g, rfl, q g as y _ hrl hok la hb ng pg.symm hp2 (hw.mono (by omega))⟩
end
theorem slX_of {K : PySem.W.Frag} {H : Hp} {a : Addr} {xs : List V} {lo hi : Option Int} {Q : VK} (h : H a = some (.tup xs)) (c : ∀ (s : Addr) (H' : Hp), H' s = some (.tup (cutV xs lo hi)) → Same H H' → Q (.ref s) H') : rSlA K (.ref a) lo hi H Q := by
  refine ⟨a, xs, rfl, .of h, fun e => c a H ?_ (Same.refl _), fun _ s ns => c s _ upd_same (same_upd ns)⟩
  have e2 : cutV xs lo hi = xs := by
    unfold cutV
    rw [e.1, e.2, List.drop_zero, Nat.sub_zero, List.take_length]
  rw [e2]
  exact h
theorem catA_of {K : PySem.W.Frag} {H : Hp} {a b : Addr} {xs ys : List V} {Q : VK} (ha : H a = some (.tup xs)) (hb : H b = some (.tup ys)) (hz : xs.length + ys.length ≤ sizeLine) (c : ∀ (s : Addr) (H' : Hp), H' s = some (.tup (xs ++ ys)) → Same H H' → Q (.ref s) H') : rCatA K (.ref a) (.ref b) H Q := by
  refine ⟨a, b, xs, ys, rfl, rfl, .of ha, .of hb, hz, fun e => ?_, fun _ e => ?_, fun _ _ s ns => c s _ upd_same (same_upd ns)⟩
  · refine c b H ?_ (Same.refl _)
    rw [e]
    exact hb
  · refine c a H ?_ (Same.refl _)
    rw [e, List.append_nil]
    exact ha
theorem turn_perm {α : Type} (l : List α) (k : Nat) : (l.drop k ++ l.take k).Perm l := List.perm_append_comm.trans (by rw [List.take_append_drop])
theorem cut_from {xs : List V} {k : Nat} (h : k ≤ xs.length) : cutV xs (some (k : Int)) none = xs.drop k := by
  unfold cutV
  rw [HT.sIx_nat, HT.sIx_none, Nat.min_eq_left h, List.take_of_length_le (by rw [List.length_drop]; exact Nat.le_refl _)]
theorem cut_to {xs : List V} {k : Nat} (h : k ≤ xs.length) : cutV xs none (some (k : Int)) = xs.take k := by
  unfold cutV
  rw [HT.sIx_nat, HT.sIx_none, Nat.min_eq_left h, List.drop_zero, Nat.sub_zero]
/-! ### what stands apart from the well -/
/-- all that is tracked, but p -/
def hide (p : Addr) (H : Hp) : Hp := fun a => if a = p then none else H a
theorem hide_ne {p a : Addr} {H : Hp} (h : a ≠ p) : hide p H a = H a := if_neg h
theorem hide_at {p : Addr} {H : Hp} : hide p H p = none := if_pos rfl
theorem hide_sub (p : Addr) (H : Hp) : Same (hide p H) H := fun b o h => by
  by_cases e : b = p
  · rw [e, hide_at] at h
    cases h
  · rw [hide_ne e] at h
    exact h
theorem But.hid {p : Addr} {H H' : Hp} (b : But p H H') : Same (hide p H) (hide p H') := fun a o h => by
  by_cases e : a = p
  · rw [e, hide_at] at h
    cases h
  · rw [hide_ne e] at h ⊢
    exact b a o e h
theorem hid_but {p : Addr} {H H' : Hp} (s : Same (hide p H) (hide p H')) : But p H H' := fun a o e h => by
  have := s a o (by rw [hide_ne e]; exact h)
  rw [hide_ne e] at this
  exact this
theorem hide_upd {p : Addr} {H : Hp} {o : HO} : hide p (upd H p o) = hide p H := by
  funext a
  by_cases e : a = p
  · rw [e, hide_at, hide_at]
  · rw [hide_ne e, hide_ne e, upd_ne e]
theorem hid_same {p : Addr} {H H' : Hp} (s : Same H H') : Same (hide p H) (hide p H') := But.hid fun a o _ h => s a o h
theorem hid_new {p a : Addr} {H : Hp} {o u : HO} (hp : H p = some o) (n : H a = none) (h : H' a = some u) : hide p H' a = some u := by
  rw [hide_ne (fun e => by rw [e, hp] at n; cases n)]
  exact h
theorem hid_tup {p a : Addr} {H : Hp} {x : List V} {xs : List V} (hp : H p = some (.lst x)) (h : H a = some (.tup xs)) : hide p H a = some (.tup xs) := by
  rw [hide_ne (fun e => by rw [e, hp] at h; cases h)]
  exact h
/-- as H stood, but for the well p, which holds y -/
def On (p : Addr) (H : Hp) (y : List V) (Hc : Hp) : Prop := Same (hide p H) (hide p Hc) ∧ Hc p = some (.lst y)
theorem On.start {p : Addr} {H : Hp} {y : List V} (h : H p = some (.lst y)) : On p H y H := ⟨Same.refl _, h⟩
theorem On.same {p : Addr} {H Hc H' : Hp} {y : List V} (o : On p H y Hc) (s : Same Hc H') : On p H y H' := ⟨o.1.trans (hid_same s), s _ _ o.2⟩
theorem On.new {p q : Addr} {H Hc : Hp} {y : List V} {u : HO} (o : On p H y Hc) (n : Hc q = none) : On p H y (upd Hc q u) := o.same (same_upd n)
theorem On.put {p : Addr} {H Hc : Hp} {y z : List V} (o : On p H y Hc) : On p H z (upd Hc p (.lst z)) := ⟨by rw [hide_upd]; exact o.1, upd_same⟩
theorem On.trans {p : Addr} {H H1 H2 : Hp} {y z : List V} (o : On p H y H1) (c : On p H1 z H2) : On p H z H2 := ⟨o.1.trans c.1, c.2⟩
theorem On.hid {p q : Addr} {H Hc : Hp} {y : List V} {u : HO} (o : On p H y Hc) (n : Hc q = none) : hide p (upd Hc q u) q = some u := hid_new o.2 n upd_same
theorem On.free {p q : Addr} {H Hc : Hp} {y : List V} {u : HO} (o : On p H y Hc) (h : H p = some u) (n : Hc q = none) : H q = none := by
  have e : q ≠ p := fun z => by rw [z, o.2] at n; cases n
  cases g : H q with
  | none => rfl
  | some b =>
    have z := hide_sub p Hc q b (o.1 q b (by rw [hide_ne e]; exact g))
    rw [z] at n
    cases n
/-- a list made meanwhile is changed -/
theorem On.lstD {p D : Addr} {H Hc : Hp} {y : List V} {o : HO} (h : On p H y Hc) (n : H D = none) (d : D ≠ p) : On p H y (upd Hc D o) := by
  refine ⟨fun a u g => ?_, by rw [upd_ne d.symm]; exact h.2⟩
  have ap : a ≠ p := fun e => by rw [e, hide_at] at g; cases g
  have z := h.1 a u g
  rw [hide_ne ap] at z g ⊢
  rw [upd_ne (ne_of_none g n)]
  exact z
theorem hide_put {p q : Addr} {H : Hp} {o : HO} (h : q ≠ p) : hide p (upd H q o) = upd (hide p H) q o := by
  funext a
  by_cases e : a = p
  · rw [e, hide_at, upd_ne h.symm, hide_at]
  · rw [hide_ne e]
    by_cases e3 : a = q
    · rw [e3, upd_same, upd_same]
    · rw [upd_ne e3, upd_ne e3, hide_ne e]
theorem puts {p : Addr} {G Hc : Hp} {o : HO} (s : Same G (hide p Hc)) : Same G (hide p (upd Hc p o)) := by
  rw [hide_upd]
  exact s
theorem item_map {α : Type} {f : α → V} {l : List α} {i : Nat} {v : V} (h : (l.map f)[i]? = some v) : ∃ a, l[i]? = some a ∧ v = f a := by
  rw [List.getElem?_map] at h
  cases e : l[i]? with
  | none => rw [e] at h; cases h
  | some a => rw [e] at h; exact ⟨a, rfl, (Option.some.inj h).symm⟩
theorem cut_next {xs : List V} {k : Nat} (h : k + 1 ≤ xs.length) : cutV xs (some ((k : Int) + 1)) none = xs.drop (k + 1) := cut_from (k := k + 1) h
/-! ### [e for a in t for b in a], both tuples -/
section
variable {K : PySem.W.Frag} {σ : L2.St} {D : Addr} {vs vs1 : List Nat}
/-- the second for, over a tuple that stays -/
theorem inner_tup {b : Addr} {ys : List V} {g1 : TG} {tt1 : TT} {te : TE} {H4 : Hp} {Nx : Hp → Prop} (Pw : Nat → Hp → Prop) (h0 : Pw 0 H4) (hl : ∀ j H, Pw j H → SqT K H b ys)
    (hs : ∀ j y H, ys[j]? = some y → Pw j H → g1 y (wipe σ vs1) H fun σ3 H5 => wipe σ3 vs1 = wipe σ vs1 ∧ tt1 σ3 H5 fun c H6 => if c = true then te σ3 H6 fun z H7 => ∃ acc, H7 D = some (.lst acc) ∧ acc.length < sizeLine ∧ Pw (j + 1) (upd H7 D (.lst (acc ++ [z]))) else Pw (j + 1) H6)
    (hd : ∀ H, Pw ys.length H → Nx H) :
    ∃ W1 : Nat → Nat → Hp → Prop, (∃ m, W1 0 m H4) ∧ ∀ j k H, W1 j k H → ((Itt K b).stop j H ∧ Nx H) ∨ ((Itt K b).go j H ∧ ∃ Nx1 : Hp → Prop, (∀ H', Nx1 H' → ∃ k', k' < k ∧ W1 (j + 1) k' H') ∧
      ∀ x H', (Itt K b).yld j H x H' → g1 x (wipe σ vs1) H' fun σ3 H5 => wipe σ3 vs1 = wipe σ vs1 ∧ tt1 σ3 H5 fun c H6 => if c = true then te σ3 H6 fun z H7 => ∃ acc, H7 D = some (.lst acc) ∧ acc.length < sizeLine ∧ Nx1 (upd H7 D (.lst (acc ++ [z]))) else Nx1 H6) := by
  refine ⟨fun j k H => k + j = ys.length ∧ Pw j H, ⟨ys.length, rfl, h0⟩, ?_⟩
  rintro j k H ⟨hk, p⟩
  cases k with
  | zero =>
    have e : j = ys.length := by omega
    rw [e] at p ⊢
    exact .inl ⟨⟨ys, hl _ _ p, Nat.le_refl _⟩, hd H p⟩
  | succ k =>
    have lt : j < ys.length := by omega
    refine .inr ⟨⟨ys, ys[j], hl _ _ p, List.getElem?_eq_getElem lt⟩, Pw (j + 1), fun H' p' => ⟨k, Nat.lt_succ_self _, by omega, p'⟩, ?_⟩
    rintro x H' ⟨rfl, y⟩
    exact hs j x _ (y ys (hl _ _ p)) p
/-- the first for -/
theorem outer_tup {a : Addr} {xs : List V} {g g1 : TG} {tt tt1 : TT} {wi1 : TI} {te : TE} {H1 : Hp} {Qd : Hp → Prop} (Pv : Nat → Hp → Prop) (h0 : Pv 0 (upd H1 D (.lst []))) (hl : ∀ i H, Pv i H → SqT K H a xs)
    (hs : ∀ i x H, xs[i]? = some x → Pv i H → g x (wipe σ vs) H fun σ2 H2 => wipe σ2 vs = wipe σ vs ∧ tt σ2 H2 fun c H3 => if c = true then wi1 σ2 H3 fun J1 H4 => ∃ W1 : Nat → Nat → Hp → Prop, (∃ m, W1 0 m H4) ∧ ∀ j k H, W1 j k H → (J1.stop j H ∧ Pv (i + 1) H) ∨ (J1.go j H ∧ ∃ Nx1 : Hp → Prop, (∀ H', Nx1 H' → ∃ k', k' < k ∧ W1 (j + 1) k' H') ∧
      ∀ x H', J1.yld j H x H' → g1 x (wipe σ2 vs1) H' fun σ3 H5 => wipe σ3 vs1 = wipe σ2 vs1 ∧ tt1 σ3 H5 fun c H6 => if c = true then te σ3 H6 fun z H7 => ∃ acc, H7 D = some (.lst acc) ∧ acc.length < sizeLine ∧ Nx1 (upd H7 D (.lst (acc ++ [z]))) else Nx1 H6) else Pv (i + 1) H3)
    (hd : ∀ H, Pv xs.length H → Qd H) :
    ∃ W : Nat → Nat → Hp → Prop, (∃ m, W 0 m (upd H1 D (.lst []))) ∧ ∀ i m H, W i m H → ((Itt K a).stop i H ∧ Qd H) ∨ ((Itt K a).go i H ∧ ∃ Nx : Hp → Prop, (∀ H', Nx H' → ∃ m', m' < m ∧ W (i + 1) m' H') ∧
      ∀ x H', (Itt K a).yld i H x H' → g x (wipe σ vs) H' fun σ2 H2 => wipe σ2 vs = wipe σ vs ∧ tt σ2 H2 fun c H3 => if c = true then wi1 σ2 H3 fun J1 H4 => ∃ W1 : Nat → Nat → Hp → Prop, (∃ m, W1 0 m H4) ∧ ∀ j k H, W1 j k H → (J1.stop j H ∧ Nx H) ∨ (J1.go j H ∧ ∃ Nx1 : Hp → Prop, (∀ H', Nx1 H' → ∃ k', k' < k ∧ W1 (j + 1) k' H') ∧
        ∀ x H', J1.yld j H x H' → g1 x (wipe σ2 vs1) H' fun σ3 H5 => wipe σ3 vs1 = wipe σ2 vs1 ∧ tt1 σ3 H5 fun c H6 => if c = true then te σ3 H6 fun z H7 => ∃ acc, H7 D = some (.lst acc) ∧ acc.length < sizeLine ∧ Nx1 (upd H7 D (.lst (acc ++ [z]))) else Nx1 H6) else Nx H3) := by
  refine ⟨fun i k H => k + i = xs.length ∧ Pv i H, ⟨xs.length, rfl, h0⟩, ?_⟩
  rintro i k H ⟨hk, p⟩
  cases k with
  | zero =>
    have e : i = xs.length := by omega
    rw [e] at p ⊢
    exact .inl ⟨⟨xs, hl _ _ p, Nat.le_refl _⟩, hd H p⟩
  | succ k =>
    have lt : i < xs.length := by omega
    refine .inr ⟨⟨xs, xs[i], hl _ _ p, List.getElem?_eq_getElem lt⟩, Pv (i + 1), fun H' p' => ⟨k, Nat.lt_succ_self _, by omega, p'⟩, ?_⟩
    rintro x H' ⟨rfl, y⟩
    exact hs i x _ (y xs (hl _ _ p)) p
end
/-! ### data: None, truths, numbers, texts, lists and tuples of such; a tuple may be tracked with its very object -/
theorem rd_same {H H' : Hp} {a : Addr} {u : HO} (s : Same H H') (h : Rd H a u) : Rd H' a u := h.elim (fun e => .inl (s _ _ e)) fun ⟨o, e⟩ => .inr ⟨o, s _ _ e⟩
instance {H : Hp} {a : Addr} {u : HO} : Coe (H a = some u) (Rd H a u) := ⟨Rd.of⟩
theorem rd_ty {K : PySem.W.Frag} {H : Hp} {a : Addr} {xs : List V} (h : Rd H a (.tup xs)) : TyX K H (.ref a) (.type "tuple") := h.elim (fun e => .base (.tup e)) fun ⟨_, e⟩ => .fTuple e
mutual
def DAt (H : Hp) : PyData → V → Prop
  | .none, v => v = .non
  | .bool b, v => v = .bl b
  | .int i, v => v = .int i
  | .str z, v => v = .str z
  | .list ds, v => ∃ p xs, v = .ref p ∧ H p = some (.lst xs) ∧ DAll H ds xs
  | .tuple ds, v => ∃ p xs, v = .ref p ∧ Rd H p (.tup xs) ∧ DAll H ds xs
  | .dict _, _ => False
def DAll (H : Hp) : List PyData → List V → Prop
  | [], xs => xs = []
  | d :: ds, xs => ∃ v r, xs = v :: r ∧ DAt H d v ∧ DAll H ds r
end
mutual
theorem DAt.same {H H' : Hp} (s : Same H H') : ∀ (d : PyData) {v : V}, DAt H d v → DAt H' d v
  | .none, _, h => h
  | .bool _, _, h => h
  | .int _, _, h => h
  | .str _, _, h => h
  | .list ds, _, ⟨p, xs, e, h, g⟩ => ⟨p, xs, e, s _ _ h, DAll.same s ds g⟩
  | .tuple ds, _, ⟨p, xs, e, h, g⟩ => ⟨p, xs, e, rd_same s h, DAll.same s ds g⟩
  | .dict _, _, h => h
theorem DAll.same {H H' : Hp} (s : Same H H') : ∀ (ds : List PyData) {xs : List V}, DAll H ds xs → DAll H' ds xs
  | [], _, h => h
  | d :: ds, _, ⟨v, r, e, h, g⟩ => ⟨v, r, e, DAt.same s d h, DAll.same s ds g⟩
end
mutual
theorem DAt.dp {K : PySem.W.Frag} {H : Hp} : ∀ (d : PyData) {v : V}, DAt H d v → Dp K H v d
  | .none, _, h => by rw [show _ = V.non from h]; exact .non
  | .bool b, _, h => by rw [show _ = V.bl b from h]; exact .bl b
  | .int i, _, h => by rw [show _ = V.int i from h]; exact .int i
  | .str z, _, h => by rw [show _ = V.str z from h]; exact .str z
  | .list ds, _, ⟨p, xs, e, h, g⟩ => by rw [e]; exact .lst (.of h) (DAll.dp ds g)
  | .tuple ds, _, ⟨p, xs, e, h, g⟩ => by rw [e]; exact .tup (.inl h) (DAll.dp ds g)
  | .dict _, _, h => h.elim
theorem DAll.dp {K : PySem.W.Frag} {H : Hp} : ∀ (ds : List PyData) {xs : List V}, DAll H ds xs → DpAll K H xs ds
  | [], _, h => by rw [show _ = ([] : List V) from h]; exact .nil
  | d :: ds, _, ⟨v, r, e, h, g⟩ => by rw [e]; exact .cons (DAt.dp d h) (DAll.dp ds g)
end
theorem DAll.len {H : Hp} : ∀ {l : List PyData} {xs : List V}, DAll H l xs → xs.length = l.length
  | [], _, h => by rw [show _ = [] from h]; rfl
  | k :: l, _, ⟨v, r, e, h, g⟩ => by rw [e]; exact congrArg Nat.succ (DAll.len g)
theorem DAll.get {H : Hp} : ∀ {l : List PyData} {xs : List V}, DAll H l xs → ∀ {i : Nat} {v : V}, xs[i]? = some v → ∃ k, l[i]? = some k ∧ DAt H k v
  | [], _, h, i, v, e => by
    rw [show _ = [] from h] at e
    simp at e
  | k :: l, _, ⟨v, r, e, h, g⟩, 0, u, q => by
    rw [e] at q
    cases q
    exact ⟨k, rfl, h⟩
  | k :: l, _, ⟨v, r, e, h, g⟩, i + 1, u, q => by
    rw [e] at q
    exact DAll.get g (i := i) q
theorem DAll.append {H : Hp} : ∀ {l m : List PyData} {xs ys : List V}, DAll H l xs → DAll H m ys → DAll H (l ++ m) (xs ++ ys)
  | [], _, _, _, h, g => by rw [show _ = [] from h]; exact g
  | k :: l, _, _, _, ⟨v, r, e, h, g⟩, q => by rw [e]; exact ⟨v, _, rfl, h, DAll.append g q⟩
theorem DAll.take {H : Hp} : ∀ (n : Nat) {l : List PyData} {xs : List V}, DAll H l xs → DAll H (l.take n) (xs.take n)
  | 0, _, _, _ => by rw [List.take_zero, List.take_zero]; rfl
  | n + 1, [], _, h => by rw [show _ = [] from h]; rfl
  | n + 1, k :: l, _, ⟨v, r, e, h, g⟩ => by rw [e]; exact ⟨v, _, rfl, h, DAll.take n g⟩
theorem DAll.drop {H : Hp} : ∀ (n : Nat) {l : List PyData} {xs : List V}, DAll H l xs → DAll H (l.drop n) (xs.drop n)
  | 0, _, _, h => h
  | n + 1, [], _, h => by rw [show _ = [] from h]; rfl
  | n + 1, k :: l, _, ⟨v, r, e, h, g⟩ => by rw [e]; exact DAll.drop n g
theorem DAll.strs {H : Hp} : ∀ (zs : List Str), DAll H (zs.map PyData.str) (zs.map V.str)
  | [] => rfl
  | z :: zs => ⟨.str z, _, rfl, rfl, DAll.strs zs⟩
theorem da0 {H : Hp} : DAll H [] [] := rfl
theorem da1 {H : Hp} {k : PyData} {v : V} {l : List PyData} {xs : List V} (a : DAt H k v) (b : DAll H l xs) : DAll H (k :: l) (v :: xs) := ⟨v, xs, rfl, a, b⟩
def dT : PyData → Bool
  | .tuple _ => true
  | _ => false
def dS : PyData → Bool
  | .str _ => true
  | _ => false
def dI : PyData → Bool
  | .int _ => true
  | .bool _ => true
  | _ => false
def dB : PyData → Bool
  | .bool _ => true
  | _ => false
theorem DAt.ty {K : PySem.W.Frag} {H : Hp} : ∀ {d : PyData} {v : V}, DAt H d v → ∃ t, TyX K H v t ∧ PySem.W.kitOne K t (.type "tuple") = some (dT d) ∧ PySem.W.kitOne K t (.type "str") = some (dS d) ∧ PySem.W.kitOne K t (.type "int") = some (dI d) ∧ PySem.W.kitOne K t (.type "bool") = some (dB d)
  | .none, _, h => by
    rw [show _ = V.non from h]
    exact ⟨_, .base .non, kit_ty (show kitB "NoneType" "tuple" = some false by decide +kernel), kit_ty (show kitB "NoneType" "str" = some false by decide +kernel), kit_ty (show kitB "NoneType" "int" = some false by decide +kernel), kit_ty (show kitB "NoneType" "bool" = some false by decide +kernel)⟩
  | .bool b, _, h => by
    rw [show _ = V.bl b from h]
    exact ⟨_, .base (.bl b), kit_ty (show kitB "bool" "tuple" = some false by decide +kernel), kit_ty (show kitB "bool" "str" = some false by decide +kernel), kit_ty (show kitB "bool" "int" = some true by decide +kernel), kit_ty (show kitB "bool" "bool" = some true by decide +kernel)⟩
  | .int i, _, h => by
    rw [show _ = V.int i from h]
    exact ⟨_, .base (.int i), kit_ty (show kitB "int" "tuple" = some false by decide +kernel), kit_ty (show kitB "int" "str" = some false by decide +kernel), kit_ty (show kitB "int" "int" = some true by decide +kernel), kit_ty (show kitB "int" "bool" = some false by decide +kernel)⟩
  | .str z, _, h => by
    rw [show _ = V.str z from h]
    exact ⟨_, .base (.str z), kit_ty (show kitB "str" "tuple" = some false by decide +kernel), kit_ty (show kitB "str" "str" = some true by decide +kernel), kit_ty (show kitB "str" "int" = some false by decide +kernel), kit_ty (show kitB "str" "bool" = some false by decide +kernel)⟩
  | .list ds, _, ⟨p, xs, e, h, g⟩ => by
    rw [e]
    exact ⟨_, .base (.lst h), kit_ty (show kitB "list" "tuple" = some false by decide +kernel), kit_ty (show kitB "list" "str" = some false by decide +kernel), kit_ty (show kitB "list" "int" = some false by decide +kernel), kit_ty (show kitB "list" "bool" = some false by decide +kernel)⟩
  | .tuple ds, _, ⟨p, xs, e, h, g⟩ => by
    rw [e]
    exact ⟨_, rd_ty h, kit_ty (show kitB "tuple" "tuple" = some true by decide +kernel), kit_ty (show kitB "tuple" "str" = some false by decide +kernel), kit_ty (show kitB "tuple" "int" = some false by decide +kernel), kit_ty (show kitB "tuple" "bool" = some false by decide +kernel)⟩
  | .dict _, _, h => h.elim
/-- data that can be laid, of some depth and weight, told in short texts -/
structure Ok (n m : Nat) (d : PyData) : Prop where
  lay : d.canLay0 = true
  dep : d.depth ≤ n
  sho : d.showable = true
  lea : d.leavesShort 40 = true
  wei : d.weight ≤ m
structure OkA (n m : Nat) (ds : List PyData) : Prop where
  lay : PyData.canLayAll0 ds = true
  dep : PyData.depthAll ds ≤ n
  sho : PyData.showableAll ds = true
  lea : PyData.leavesShortAll 40 ds = true
  wei : PyData.weightAll ds ≤ m
theorem OkA.nil {n m : Nat} : OkA n m [] := ⟨rfl, Nat.zero_le _, rfl, rfl, Nat.zero_le _⟩
theorem Ok.mono {n m n' m' : Nat} {d : PyData} (h : Ok n m d) (a : n ≤ n') (b : m ≤ m') : Ok n' m' d := ⟨h.lay, Nat.le_trans h.dep a, h.sho, h.lea, Nat.le_trans h.wei b⟩
theorem OkA.mono {n m n' m' : Nat} {d : List PyData} (h : OkA n m d) (a : n ≤ n') (b : m ≤ m') : OkA n' m' d := ⟨h.lay, Nat.le_trans h.dep a, h.sho, h.lea, Nat.le_trans h.wei b⟩
theorem OkA.cons {n m k : Nat} {d : PyData} {ds : List PyData} (a : Ok n m d) (b : OkA n k ds) : OkA n (m + 1 + k) (d :: ds) := by
  refine ⟨?_, ?_, ?_, ?_, ?_⟩
  · rw [PyData.canLayAll0, a.lay, b.lay] <;> rfl
  · rw [PyData.depthAll]
    exact Nat.max_le.mpr ⟨a.dep, b.dep⟩
  · rw [PyData.showableAll, a.sho, b.sho] <;> rfl
  · rw [PyData.leavesShortAll, a.lea, b.lea] <;> rfl
  · rw [PyData.weightAll]
    have := a.wei
    have := b.wei
    omega
theorem OkA.head {n m : Nat} {d : PyData} {ds : List PyData} (h : OkA n m (d :: ds)) : Ok n m d := by
  have h1 := h.lay
  have h2 := h.dep
  have h3 := h.sho
  have h4 := h.lea
  have h5 := h.wei
  rw [PyData.canLayAll0, Bool.and_eq_true] at h1
  rw [PyData.depthAll] at h2
  rw [PyData.showableAll, Bool.and_eq_true] at h3
  rw [PyData.leavesShortAll, Bool.and_eq_true] at h4
  rw [PyData.weightAll] at h5
  exact ⟨h1.1, (Nat.max_le.mp h2).1, h3.1, h4.1, by omega⟩
theorem OkA.tail {n m : Nat} {d : PyData} {ds : List PyData} (h : OkA n m (d :: ds)) : OkA n m ds := by
  have h1 := h.lay
  have h2 := h.dep
  have h3 := h.sho
  have h4 := h.lea
  have h5 := h.wei
  rw [PyData.canLayAll0, Bool.and_eq_true] at h1
  rw [PyData.depthAll] at h2
  rw [PyData.showableAll, Bool.and_eq_true] at h3
  rw [PyData.leavesShortAll, Bool.and_eq_true] at h4
  rw [PyData.weightAll] at h5
  exact ⟨h1.2, (Nat.max_le.mp h2).2, h3.2, h4.2, by omega⟩
theorem OkA.get {n m : Nat} : ∀ {ds : List PyData}, OkA n m ds → ∀ d ∈ ds, Ok n m d
  | [], _, _, h => by cases h
  | a :: ds, h, d, hd => by
    rcases List.mem_cons.mp hd with e | hd
    · rw [e]
      exact h.head
    · exact h.tail.get d hd
theorem OkA.append {n m k : Nat} : ∀ {a b : List PyData}, OkA n m a → OkA n k b → OkA n (m + k) (a ++ b)
  | [], b, h, g => g.mono (Nat.le_refl _) (by omega)
  | d :: a, b, h, g => by
    have e := h.wei
    rw [PyData.weightAll] at e
    have hd : Ok n d.weight d := ⟨h.head.lay, h.head.dep, h.head.sho, h.head.lea, Nat.le_refl _⟩
    have ha : OkA n (PyData.weightAll a) a := ⟨h.tail.lay, h.tail.dep, h.tail.sho, h.tail.lea, Nat.le_refl _⟩
    exact (OkA.cons hd (OkA.append ha g)).mono (Nat.le_refl _) (by omega)
theorem OkA.take {n m : Nat} : ∀ (k : Nat) {a : List PyData}, OkA n m a → OkA n m (a.take k)
  | 0, _, _ => OkA.nil
  | _ + 1, [], _ => OkA.nil
  | k + 1, d :: a, h => by
    have e := h.wei
    rw [PyData.weightAll] at e
    have hd : Ok n d.weight d := ⟨h.head.lay, h.head.dep, h.head.sho, h.head.lea, Nat.le_refl _⟩
    have ha : OkA n (PyData.weightAll a) a := ⟨h.tail.lay, h.tail.dep, h.tail.sho, h.tail.lea, Nat.le_refl _⟩
    exact (OkA.cons hd (ha.take k)).mono (Nat.le_refl _) (by omega)
theorem OkA.drop {n m : Nat} : ∀ (k : Nat) {a : List PyData}, OkA n m a → OkA n m (a.drop k)
  | 0, _, h => h
  | _ + 1, [], _ => OkA.nil
  | k + 1, _ :: _, h => h.tail.drop k
theorem OkA.tuple {n m : Nat} {ds : List PyData} (h : OkA n m ds) : Ok (n + 1) m (.tuple ds) := by
  refine ⟨?_, ?_, ?_, ?_, ?_⟩
  · rw [PyData.canLay0]; exact h.lay
  · have := h.dep
    rw [PyData.depth]
    omega
  · rw [PyData.showable]; exact h.sho
  · rw [PyData.leavesShort]; exact h.lea
  · rw [PyData.weight]; exact h.wei
theorem OkA.list {n m : Nat} {ds : List PyData} (h : OkA n m ds) : Ok (n + 1) m (.list ds) := by
  refine ⟨?_, ?_, ?_, ?_, ?_⟩
  · rw [PyData.canLay0]; exact h.lay
  · have := h.dep
    rw [PyData.depth]
    omega
  · rw [PyData.showable]; exact h.sho
  · rw [PyData.leavesShort]; exact h.lea
  · rw [PyData.weight]; exact h.wei
theorem Ok.shaped {n m : Nat} {d : PyData} (h : Ok n m d) (hn : n ≤ 64) : SeqAt.shaped d = true := by
  unfold SeqAt.shaped
  rw [h.lay, Bool.true_and]
  exact decide_eq_true (Nat.le_trans h.dep hn)
theorem Ok.fits {n m : Nat} {d : PyData} (h : Ok n m d) (hm : m ≤ 100000) : d.shown.length ≤ sizeLine := by
  have := PyData.shown_le 40 (by decide) d h.lea
  have := h.wei
  show _ ≤ 16777216
  omega
theorem ok_none {n m : Nat} : Ok n m .none := ⟨rfl, Nat.zero_le _, rfl, rfl, Nat.zero_le _⟩
theorem ok_bool {n m : Nat} (b : Bool) : Ok n m (.bool b) := ⟨rfl, Nat.zero_le _, rfl, rfl, Nat.zero_le _⟩
theorem ok_str {n m : Nat} {z : Str} (h : PyData.strOk z = true) (g : z.length ≤ m) : Ok n m (.str z) := by
  refine ⟨by rw [PyData.canLay0]; exact h, Nat.zero_le _, by rw [PyData.showable], ?_, by rw [PyData.weight]; exact g⟩
  rw [PyData.leavesShort, List.all_eq_true]
  intro c hc
  unfold PyData.strOk at h
  rw [← Array.all_toList, List.all_eq_true] at h
  have := of_decide_eq_true (h c hc)
  exact decide_eq_true (Nat.lt_trans this (by decide))
/-! ### what the program's own looks tell of data -/
def wholeD : PyData → Bool
  | .int _ => true
  | _ => false
def tupD : PyData → Nat → Bool
  | .tuple l, n => decide (l.length = n)
  | _, _ => false
def optD (zs : List Str) : PyData → Bool
  | .str z => decide (z ∈ zs)
  | _ => false
def unS : PyData → Option Str
  | .str z => some z
  | _ => none
def unlikeD (zs : List Str) (ds : List PyData) : Bool := ds.all (optD zs) && decide (ds.filterMap unS).Nodup
def markD : PyData → Bool
  | .int i => decide (0 ≤ i) && decide (i ≤ 9)
  | _ => false
def parts : PyData → List PyData
  | .tuple l => l
  | _ => []
def tierD : PyData → Bool
  | .tuple l => decide (0 < l.length)
  | _ => false
def pairD : PyData → Bool
  | .tuple [_, m] => markD m
  | _ => false
def firstD : PyData → PyData
  | .tuple (a :: _) => a
  | _ => .none
def tiersD (zs : List Str) (ds : List PyData) : Bool := ds.all tierD && unlikeD zs (ds.flatMap parts)
def marksD (zs : List Str) (ds : List PyData) : Bool := ds.all pairD && unlikeD zs (ds.map firstD)
def ballotD (zs : List Str) : PyData → Bool
  | .tuple [.str f, .tuple l] => if f = "order" then tiersD zs l else if f = "lets" then unlikeD zs l else if f = "marks" then marksD zs l else false
  | _ => false
theorem inV_str (z : Str) : ∀ zs : List Str, inV (.str z) (zs.map V.str) = decide (z ∈ zs)
  | [] => rfl
  | a :: l => by
    have ih := inV_str z l
    unfold inV at ih ⊢
    rw [List.map_cons, List.any_cons, ih]
    show ((a == z) || decide (z ∈ l)) = decide (z ∈ a :: l)
    by_cases h : a = z
    · rw [h]
      simp
    · have : (a == z) = false := beq_eq_false_iff_ne.mpr h
      rw [this, Bool.false_or]
      exact decide_eq_decide.mpr ⟨fun m => List.mem_cons_of_mem _ m, fun m => (List.mem_cons.mp m).elim (fun e => absurd e.symm h) id⟩
theorem flat_strs (zs : List Str) : (zs.map V.str).all flatV = true := by
  rw [List.all_map, List.all_eq_true]
  exact fun _ _ => rfl
theorem opt_strs {zs : List Str} : ∀ {ds : List PyData}, ds.all (optD zs) = true → ds = (ds.filterMap unS).map PyData.str
  | [], _ => rfl
  | d :: ds, h => by
    rw [List.all_cons, Bool.and_eq_true] at h
    cases d with
    | str z => exact congrArg (PyData.str z :: ·) (opt_strs h.2)
    | _ => cases h.1
theorem DAll.of_strs {H : Hp} : ∀ {zs : List Str} {xs : List V}, DAll H (zs.map PyData.str) xs → xs = zs.map V.str
  | [], _, h => h
  | z :: zs, _, ⟨v, r, e, h, g⟩ => by
    rw [e, show v = V.str z from h, DAll.of_strs g] <;> rfl
section
variable {P : Program} {w : World} {K : PySem.W.Frag} {mg : Str → Option Value} {base : Heap}
def sp_is_whole : Sp := fun vs H Q _ => ∃ (v : V) (d : PyData), vs = [v] ∧ DAt H d v ∧ Q (.bl (wholeD d)) H
theorem ok_is_whole (T : Txt K mg) : FnOk P w K mg base CX0 1 T.f_is_whole T.fd_is_whole ["thing"] sp_is_whole := by
  refine T.F_is_whole.ok sc_is_whole (fun vs H Q E h => ?_) (fun cdv A outer s H vs Q E hr h => ?_)
  · obtain ⟨v, d, rfl, _⟩ := h
    rfl
  · obtain ⟨v, d, rfl, hd, q⟩ := h
    refine ⟨_, (pss_one
 (ps_ret (pe_and (pe_callB call_isi (by rfl) T.z_isinstance (by decide +kernel) (pa_cons (pv 0) (pa_cons (pe_bltn (v := .ty "int") (u := .type "int") rfl T.z_int (by decide +kernel) rfl) pa_nil))) (pe_one (pe_not (pe_callB call_isi (by rfl) T.z_isinstance (by decide +kernel) (pa_cons (pv 0) (pa_cons (pe_bltn (v := .ty "bool") (u := .type "bool") rfl T.z_bool (by decide +kernel) rfl) pa_nil)))))))), ?_⟩
    obtain ⟨t, ht, _, _, k3, k4⟩ := hd.ty (K := K)
    refine ⟨v, rfl, v, _, t, _, dI d, rfl, .ty _, ht, k3, dI d, rfl, ?_⟩
    have e : (if dI d = true then !dB d else false) = wholeD d := by cases d <;> rfl
    rw [← e] at q
    cases h1 : dI d with
    | false =>
      rw [h1] at q
      exact iteF q
    | true =>
      rw [h1] at q
      exact iteT ⟨v, rfl, v, _, t, _, dB d, rfl, .ty _, ht, k4, dB d, rfl, q⟩
def sp_is_tuple_of : Sp := fun vs H Q _ => ∃ (v : V) (n : Nat) (d : PyData), vs = [v, .int n] ∧ DAt H d v ∧ Q (.bl (tupD d n)) H
theorem ok_is_tuple_of (T : Txt K mg) : FnOk P w K mg base CX0 1 T.f_is_tuple_of T.fd_is_tuple_of ["thing", "many"] sp_is_tuple_of := by
  refine T.F_is_tuple_of.ok sc_is_tuple_of (fun vs H Q E h => ?_) (fun cdv A outer s H vs Q E hr h => ?_)
  · obtain ⟨v, n, d, rfl, _⟩ := h
    rfl
  · obtain ⟨v, n, d, rfl, hd, q⟩ := h
    refine ⟨_, (pss_one
 (ps_ret (pe_and (pe_callB call_isi (by rfl) T.z_isinstance (by decide +kernel) (pa_cons (pv 0) (pa_cons (pe_bltn (v := .ty "tuple") (u := .type "tuple") rfl T.z_tuple (by decide +kernel) rfl) pa_nil))) (pe_one (pe_cmpR op_eq (pe_callB call_len_seq (by rfl) T.z_len (by decide +kernel) (pa_cons (pv 0) pa_nil)) (pv 1) (nomark _)))))), ?_⟩
    obtain ⟨t, ht, k1, _⟩ := hd.ty (K := K)
    refine ⟨v, rfl, v, _, t, _, dT d, rfl, .ty _, ht, k1, dT d, rfl, ?_⟩
    cases d with
    | tuple l =>
      obtain ⟨p, xs, rfl, hp, ha⟩ := hd
      refine iteT ⟨.ref p, rfl, p, _, rfl, .inr (.inl hp), .int n, rfl, rfl, ?_⟩
      rw [ha.len]
      have e : decide (V.int (l.length : Int) = V.int (n : Int)) = decide (l.length = n) := decide_eq_decide.mpr ⟨fun h => by have := V.int.inj h; omega, fun h => by rw [h]⟩
      rw [e]
      exact q
    | _ => exact iteF q
def sp_is_option : Sp := fun vs H Q _ => ∃ (o : Addr) (zs : List Str) (v : V) (d : PyData), vs = [.ref o, v] ∧ H o = some (.tup (zs.map V.str)) ∧ DAt H d v ∧ Q (.bl (optD zs d)) H
theorem ok_is_option (T : Txt K mg) : FnOk P w K mg base CX0 1 T.f_is_option T.fd_is_option ["options", "thing"] sp_is_option := by
  refine T.F_is_option.ok sc_is_option (fun vs H Q E h => ?_) (fun cdv A outer s H vs Q E hr h => ?_)
  · obtain ⟨o, zs, v, d, rfl, _⟩ := h
    rfl
  · obtain ⟨o, zs, v, d, rfl, ho, hd, q⟩ := h
    refine ⟨_, (pss_one
 (ps_ret (pe_and (pe_callB call_isi (by rfl) T.z_isinstance (by decide +kernel) (pa_cons (pv 1) (pa_cons (pe_bltn (v := .ty "str") (u := .type "str") rfl T.z_str (by decide +kernel) rfl) pa_nil))) (pe_one (pe_cmpR op_in_seq (pv 1) (pv 0) rfl))))), ?_⟩
    obtain ⟨t, ht, _, k2, _⟩ := hd.ty (K := K)
    refine ⟨v, rfl, v, _, t, _, dS d, rfl, .ty _, ht, k2, dS d, rfl, ?_⟩
    cases d with
    | str z =>
      rw [show v = V.str z from hd]
      refine iteT ⟨.str z, rfl, .ref o, rfl, o, _, rfl, .inr (.of ho), rfl, flat_strs zs, ?_⟩
      show Q (.bl (inV (.str z) (zs.map V.str))) H
      rw [inV_str]
      exact q
    | _ => exact iteF q
def sp_are_unlike_options : Sp := fun vs H Q _ => ∃ (o p : Addr) (zs : List Str) (xs : List V) (ds : List PyData), vs = [.ref o, .ref p] ∧ H o = some (.tup (zs.map V.str)) ∧ (H p = some (.lst xs) ∨ Rd H p (.tup xs)) ∧ DAll H ds xs ∧ ds.length ≤ 500 ∧ ∀ H', Same H H' → Q (.bl (unlikeD zs ds)) H'
theorem ok_are_unlike_options (T : Txt K mg) : FnOk P w K mg base CX0 2 T.f_are_unlike_options T.fd_are_unlike_options ["options", "names"] sp_are_unlike_options := by
  refine T.F_are_unlike_options.ok sc_are_unlike_options (fun vs H Q E h => ?_) (fun cdv A outer s H vs Q E hr h => ?_)
  · obtain ⟨o, p, zs, xs, ds, rfl, _⟩ := h
    rfl
  · obtain ⟨o, p, zs, xs, ds, rfl, ho, hp, ha, hl, q⟩ := h
    refine ⟨_, (pss_one
 (ps_ret (pe_and (pe_callB (cr_all rfl) (by rfl) T.z_all (by decide +kernel) (pa_cons (pe_lc (own := [("name", 2)]) (g := gName 2) (tt := tYes) rfl sc_are_unlike_options.nd (pi_or (pi_list (pv 1)) (pi_tup (pv 1))) (blkOk_by (own := [("name", 2)]) (N := ["options", "names", "name"]) (sc := (defScope s_are_unlike_options)) (by decide +kernel)) (fun _ _ _ _ _ => pg_name (i := 2) sc_are_unlike_options.nd rfl (Or.inl rfl)) (fun _ _ _ _ _ => pts_nil) (fun _ _ _ _ _ => (pe_call (ok_is_option T) (hr.mono (by decide)) (by rfl) T.g_is_option T.F_is_option.kp T.b_is_option .nil pass0 (pa_cons (pv 0) (pa_cons (pv 2) pa_nil))))) pa_nil)) (pe_one (pe_cmpR op_eq (pe_unlike rfl (by rfl) T.z_len (by rfl) T.z_set (pv 1)) (pe_callB call_len_seq (by rfl) T.z_len (by decide +kernel) (pa_cons (pv 1) pa_nil)) (nomark _)))))), ?_⟩
    have lx : xs.length = ds.length := ha.len
    -- behind the comprehension
    have go : ∀ (H1 : Hp), Same H H1 → ∀ (R : VK), (∀ b H', Same H H' → b = unlikeD zs ds → R (.bl b) H') →
        (ds.all (optD zs) = false → R (.bl false) H1) ∧ (ds.all (optD zs) = true → ∀ b, b = decide (V.int ((met (ds.filterMap unS)).length : Int) = V.int (xs.length : Int)) → R (.bl b) H1) := by
      intro H1 s1 R c
      refine ⟨fun e => c _ _ s1 ?_, fun e b hb => c _ _ s1 ?_⟩
      · unfold unlikeD
        rw [e] <;> rfl
      · have es := opt_strs e
        have el : (ds.filterMap unS).length = ds.length := by
          have := congrArg List.length es
          rw [List.length_map] at this
          exact this.symm
        unfold unlikeD
        rw [e, Bool.true_and, ← met_iff, hb]
        exact decide_eq_decide.mpr ⟨fun h => by have := V.int.inj h; omega, fun h => by rw [h, el, ← lx]⟩
    have turn : ∀ (D : Addr) (nD : H D = none) (i : Nat) (x : V) (H1 : Hp), xs[i]? = some x → (Same H H1 ∧ H1 D = some (.lst (((ds.take i).map (optD zs)).map V.bl))) → ∃ kk, ds[i]? = some kk ∧ DAt H1 kk x ∧ H1 o = some (.tup (zs.map V.str)) ∧
        H1 D = some (.lst (((ds.take i).map (optD zs)).map V.bl)) ∧ (((ds.take i).map (optD zs)).map V.bl).length < sizeLine ∧ Same H (upd H1 D (.lst (((ds.take i).map (optD zs)).map V.bl ++ [V.bl (optD zs kk)]))) ∧
        (upd H1 D (.lst (((ds.take i).map (optD zs)).map V.bl ++ [V.bl (optD zs kk)]))) D = some (.lst (((ds.take (i + 1)).map (optD zs)).map V.bl)) := by
      rintro D nD i x H1 hi ⟨s1, e1⟩
      obtain ⟨kk, hkk, hx⟩ := ha.get hi
      refine ⟨kk, hkk, DAt.same s1 _ hx, s1 _ _ ho, e1, ?_, same_mut s1 nD, ?_⟩
      · rw [List.length_map, List.length_map, List.length_take]
        exact small1000 (by omega)
      · rw [upd_same, take_more hkk, List.map_append, List.map_append]
        rfl
    rcases hp with hp | hp
    · refine .inl ⟨.ref p, rfl, p, rfl, ⟨_, .of hp⟩, fun D nD => ?_⟩
      refine lc_list (K := K) (a := p) (xs := xs) (fun i H' => Same H H' ∧ H' D = some (.lst (((ds.take i).map (optD zs)).map V.bl))) ⟨same_upd nD, upd_same⟩ (fun _ _ _ h => .of (h.1 _ _ hp)) ?_ ?_
      · intro i x H1 hi h
        obtain ⟨kk, hkk, hx, ho1, e1, z1, z2, z3⟩ := turn D nD i x H1 hi h
        exact ⟨rfl, .ref o, rfl, x, rfl, o, zs, x, kk, rfl, ho1, hx, _, e1, z1, z2, z3⟩
      · rintro H1 ⟨s1, e1⟩
        rw [lx, List.take_length] at e1
        refine ⟨D, _, rfl, .of e1, _, rfl, ?_⟩
        have ea : (ds.map (optD zs)).all id = ds.all (optD zs) := by rw [List.all_map]; rfl
        rw [ea]
        obtain ⟨g1, g2⟩ := go H1 s1 Q (fun b H' s e => by rw [e]; exact q _ s)
        cases hs : ds.all (optD zs) with
        | false => exact iteF (g1 hs)
        | true =>
          have es := opt_strs hs
          have ex : xs = (ds.filterMap unS).map V.str := by rw [es] at ha; exact ha.of_strs
          have lw : (ds.filterMap unS).length ≤ 500 := Nat.le_trans (List.length_filterMap_le _ _) hl
          exact iteT ⟨.ref p, rfl, p, ds.filterMap unS, rfl, .inl (.of (by rw [← ex]; exact s1 _ _ hp)), by omega, .ref p, rfl, p, _, rfl, .inl (.of (s1 _ _ hp)), rfl, g2 hs _ rfl⟩
    · refine .inr ⟨.ref p, rfl, p, rfl, ⟨_, .inl hp⟩, fun D nD => ?_⟩
      refine lc_tup (K := K) (a := p) (xs := xs) (fun i H' => Same H H' ∧ H' D = some (.lst (((ds.take i).map (optD zs)).map V.bl))) ⟨same_upd nD, upd_same⟩ (fun _ _ _ h => .inl (rd_same h.1 hp)) ?_ ?_
      · intro i x H1 hi h
        obtain ⟨kk, hkk, hx, ho1, e1, z1, z2, z3⟩ := turn D nD i x H1 hi h
        exact ⟨rfl, .ref o, rfl, x, rfl, o, zs, x, kk, rfl, ho1, hx, _, e1, z1, z2, z3⟩
      · rintro H1 ⟨s1, e1⟩
        rw [lx, List.take_length] at e1
        refine ⟨D, _, rfl, .of e1, _, rfl, ?_⟩
        have ea : (ds.map (optD zs)).all id = ds.all (optD zs) := by rw [List.all_map]; rfl
        rw [ea]
        obtain ⟨g1, g2⟩ := go H1 s1 Q (fun b H' s e => by rw [e]; exact q _ s)
        cases hs : ds.all (optD zs) with
        | false => exact iteF (g1 hs)
        | true =>
          have es := opt_strs hs
          have ex : xs = (ds.filterMap unS).map V.str := by rw [es] at ha; exact ha.of_strs
          have lw : (ds.filterMap unS).length ≤ 500 := Nat.le_trans (List.length_filterMap_le _ _) hl
          exact iteT ⟨.ref p, rfl, p, ds.filterMap unS, rfl, .inr (.inl (by rw [← ex]; exact rd_same s1 hp)), by omega, .ref p, rfl, p, _, rfl, .inr (.inl (rd_same s1 hp)), rfl, g2 hs _ rfl⟩
end
section
variable {P : Program} {w : World} {K : PySem.W.Frag} {mg : Str → Option Value} {base : Heap}
def sp_is_mark : Sp := fun vs H Q _ => ∃ (v : V) (d : PyData), vs = [v] ∧ DAt H d v ∧ Q (.bl (markD d)) H
theorem ok_is_mark (T : Txt K mg) : FnOk P w K mg base CX0 2 T.f_is_mark T.fd_is_mark ["thing"] sp_is_mark := by
  refine T.F_is_mark.ok sc_is_mark (fun vs H Q E h => ?_) (fun cdv A outer s H vs Q E hr h => ?_)
  · obtain ⟨v, d, rfl, _⟩ := h
    rfl
  · obtain ⟨v, d, rfl, hd, q⟩ := h
    refine ⟨_, (pss_one
 (ps_ret (pe_and (pe_call (ok_is_whole T) (hr.mono (by decide)) (by rfl) T.g_is_whole T.F_is_whole.kp T.b_is_whole .nil pass0 (pa_cons (pv 0) pa_nil)) (pe_one (pe_chain op_le op_le pe_int (pv 0) (pe_glob (v := .int 9) rfl T.c_GREATEST_MARK ⟨_, rfl⟩)))))), ?_⟩
    refine ⟨v, rfl, v, d, rfl, hd, wholeD d, rfl, ?_⟩
    cases d with
    | int i =>
      rw [show v = V.int i from hd]
      have e : markD (.int i) = if decide (0 ≤ i) = true then decide (i ≤ 9) else false := by
        show (decide (0 ≤ i) && decide (i ≤ 9)) = _
        by_cases h : 0 ≤ i <;> simp [h]
      rw [e] at q
      refine iteT ⟨.int i, rfl, _, _, rfl, rfl, _, rfl, ?_⟩
      by_cases h : 0 ≤ i
      · rw [decide_eq_true h] at q ⊢
        exact iteT ⟨_, _, rfl, rfl, q⟩
      · rw [decide_eq_false h] at q ⊢
        exact iteF q
    | _ => exact iteF q
/-- a tuple of which no part is long -/
def Wide (ds : List PyData) : Prop := ds.length ≤ 20 ∧ ∀ d ∈ ds, (parts d).length ≤ 20
def sp_are_tiers : Sp := fun vs H Q _ => ∃ (o t : Addr) (zs : List Str) (xs : List V) (ds : List PyData), vs = [.ref o, .ref t] ∧ H o = some (.tup (zs.map V.str)) ∧ Rd H t (.tup xs) ∧ DAll H ds xs ∧ Wide ds ∧ ∀ H', Same H H' → Q (.bl (tiersD zs ds)) H'
theorem flat_le {ds : List PyData} (h : Wide ds) : (ds.flatMap parts).length ≤ 400 := by
  obtain ⟨h1, h2⟩ := h
  have : ∀ l : List PyData, (∀ d ∈ l, (parts d).length ≤ 20) → (l.flatMap parts).length ≤ 20 * l.length := by
    intro l
    induction l with
    | nil => intro _; exact Nat.le_refl _
    | cons a l ih =>
      intro g
      have a1 := g a List.mem_cons_self
      have a2 := ih fun d hd => g d (List.mem_cons_of_mem _ hd)
      rw [List.flatMap_cons, List.length_append, List.length_cons]
      omega
  have := this ds h2
  omega
theorem ok_are_tiers (T : Txt K mg) : FnOk P w K mg base CX0 3 T.f_are_tiers T.fd_are_tiers ["options", "told"] sp_are_tiers := by
  refine T.F_are_tiers.ok sc_are_tiers (fun vs H Q E h => ?_) (fun cdv A outer s H vs Q E hr h => ?_)
  · obtain ⟨o, t, zs, xs, ds, rfl, _⟩ := h
    rfl
  · obtain ⟨o, t, zs, xs, ds, rfl, ho, ht, ha, hw, q⟩ := h
    refine ⟨_, (pss_cons
 (ps_if (pt_not (pt_val (pe_callB (cr_all rfl) (by rfl) T.z_all (by decide +kernel) (pa_cons (pe_lc (own := [("tier", 2)]) (g := gName 2) (tt := tYes) rfl sc_are_tiers.nd (pi_tup (pv 1)) (blkOk_by (own := [("tier", 2)]) (N := ["options", "told", "tier", "name"]) (sc := (defScope s_are_tiers)) (by decide +kernel)) (fun _ _ _ _ _ => pg_name (i := 2) sc_are_tiers.nd rfl (Or.inl rfl)) (fun _ _ _ _ _ => pts_nil) (fun s0 H0 C0 cl0 fp0 => (by have h := ((pe_and (pe_callB call_isi (by rfl) T.z_isinstance (by decide +kernel) (pa_cons (pv 2) (pa_cons (pe_bltn (v := .ty "tuple") (u := .type "tuple") rfl T.z_tuple (by decide +kernel) rfl) pa_nil))) (pe_one (pe_cmpR op_gt (pe_callB call_len_seq (by rfl) T.z_len (by decide +kernel) (pa_cons (pv 2) pa_nil)) pe_int (nomark _)))) : PE ((cxOf CX0 P w K mg base ["options", "told", "tier", "name"] "are_tiers" (defScope s_are_tiers) T.f_are_tiers cdv A outer s H E).nox.blk s0 H0 (lcScope (subE (subE (rootE ((defBody s_are_tiers).getD 0 (.Pass ⟨0, 0, 0, 0⟩))) 0) 1)) (compEnvC (lcScope (subE (subE (rootE ((defBody s_are_tiers).getD 0 (.Pass ⟨0, 0, 0, 0⟩))) 0) 1)) cl0 C0 (cxOf CX0 P w K mg base ["options", "told", "tier", "name"] "are_tiers" (defScope s_are_tiers) T.f_are_tiers cdv A outer s H E).nox.env) fp0) (subE (subE (subE (rootE ((defBody s_are_tiers).getD 0 (.Pass ⟨0, 0, 0, 0⟩))) 0) 1) 0) _); dsimp only [Cx.blk, Cx.tr, Cx.suite, Cx.nox, Cx.wish, cxOf] at h; exact h))) pa_nil))))
 (pss_one
 (ps_ret pe_bl))
 pss_nil)
 (pss_one
 (ps_ret (pe_call (ok_are_unlike_options T) (hr.mono (by decide)) (by rfl) T.g_are_unlike_options T.F_are_unlike_options.kp T.b_are_unlike_options .nil pass0 (pa_cons (pv 0) (pa_cons (pe_lc2 (own := [("tier", 2), ("name", 3)]) (vs1 := [3]) (g := gName 2) (g1 := gName 3) (tt := tYes) (tt1 := tYes) rfl sc_are_tiers.nd (pi_tup (pv 1)) (blkOk_by (own := [("tier", 2), ("name", 3)]) (N := ["options", "told", "tier", "name"]) (sc := (defScope s_are_tiers)) (by decide +kernel)) (by decide) (fun _ _ _ _ _ => pg_name (i := 2) sc_are_tiers.nd rfl (Or.inl rfl)) (fun _ _ _ _ _ => pts_nil) (fun s0 H0 C0 cl0 fp0 => (by have h := ((pi_tup (pv 2)) : PI ((cxOf CX0 P w K mg base ["options", "told", "tier", "name"] "are_tiers" (defScope s_are_tiers) T.f_are_tiers cdv A outer s H E).nox.blk s0 H0 (lcScope (subE (rootE ((defBody s_are_tiers).getD 1 (.Pass ⟨0, 0, 0, 0⟩))) 2)) (compEnvC (lcScope (subE (rootE ((defBody s_are_tiers).getD 1 (.Pass ⟨0, 0, 0, 0⟩))) 2)) cl0 C0 (cxOf CX0 P w K mg base ["options", "told", "tier", "name"] "are_tiers" (defScope s_are_tiers) T.f_are_tiers cdv A outer s H E).nox.env) fp0) (lcG (subE (rootE ((defBody s_are_tiers).getD 1 (.Pass ⟨0, 0, 0, 0⟩))) 2) 1).target (lcG (subE (rootE ((defBody s_are_tiers).getD 1 (.Pass ⟨0, 0, 0, 0⟩))) 2) 1).iter _); dsimp only [Cx.blk, Cx.tr, Cx.suite, Cx.nox, Cx.wish, cxOf] at h; exact h)) (fun _ _ _ _ _ => pg_name (i := 3) sc_are_tiers.nd rfl (Or.inl rfl)) (fun _ _ _ _ _ => pts_nil) (fun _ _ _ _ _ => (pv 3))) pa_nil)))))), ?_⟩
    have lx : xs.length = ds.length := ha.len
    have l20 := hw.1
    refine ⟨.ref t, rfl, t, rfl, ⟨_, .inl ht⟩, fun D nD => ?_⟩
    refine lc_tup (K := K) (a := t) (xs := xs) (fun i H' => Same H H' ∧ H' D = some (.lst (((ds.take i).map tierD).map V.bl))) ⟨same_upd nD, upd_same⟩ (fun _ _ _ h => .inl (rd_same h.1 ht)) ?_ ?_
    · rintro i x H1 hi ⟨s1, e1⟩
      obtain ⟨kk, hkk, hx⟩ := ha.get hi
      have hx := DAt.same s1 _ hx
      obtain ⟨ty, hty, k1, _⟩ := hx.ty (K := K)
      have fin : ∀ b, b = tierD kk → ∃ acc, H1 D = some (.lst acc) ∧ acc.length < sizeLine ∧ Same H (upd H1 D (.lst (acc ++ [V.bl b]))) ∧ (upd H1 D (.lst (acc ++ [V.bl b]))) D = some (.lst (((ds.take (i + 1)).map tierD).map V.bl)) := fun b e => by
        refine ⟨_, e1, ?_, same_mut s1 nD, ?_⟩
        · rw [List.length_map, List.length_map, List.length_take]
          exact small1000 (by omega)
        · rw [upd_same, take_more hkk, List.map_append, List.map_append, e]
          rfl
      refine ⟨rfl, x, rfl, x, _, ty, _, dT kk, rfl, .ty _, hty, k1, dT kk, rfl, ?_⟩
      cases kk with
      | tuple l =>
        obtain ⟨a1, ys, rfl, h1, h2⟩ := hx
        refine iteT ⟨.ref a1, rfl, a1, _, rfl, .inr (.inl h1), _, _, rfl, rfl, fin _ ?_⟩
        rw [h2.len]
        exact decide_eq_decide.mpr ⟨fun h => by omega, fun h => by omega⟩
      | _ => exact iteF (fin _ rfl)
    · rintro H1 ⟨s1, e1⟩
      rw [lx, List.take_length] at e1
      refine ⟨D, _, rfl, .of e1, _, rfl, ?_⟩
      have ea : (ds.map tierD).all id = ds.all tierD := by rw [List.all_map]; rfl
      rw [ea]
      cases hs : ds.all tierD with
      | false =>
        refine iteT ?_
        have := q H1 s1
        unfold tiersD at this
        rw [hs] at this
        exact this
      | true =>
        have q : ∀ H', Same H H' → Q (.bl (unlikeD zs (ds.flatMap parts))) H' := fun H' s' => by
          have := q H' s'
          unfold tiersD at this
          rw [hs] at this
          exact this
        refine iteF ⟨.ref o, rfl, .ref t, rfl, t, rfl, ⟨_, .inl (rd_same s1 ht)⟩, fun D2 nD2 => ?_⟩
        have every : ∀ {i : Nat} {k : PyData}, ds[i]? = some k → ∃ l, k = .tuple l := fun {i k} h => by
          have := List.all_eq_true.mp hs _ (List.mem_of_getElem? h)
          cases k with
          | tuple l => exact ⟨l, rfl⟩
          | _ => cases this
        refine outer_tup (K := K) (a := t) (xs := xs) (fun i H' => ∃ ys, Same H1 H' ∧ H' D2 = some (.lst ys) ∧ DAll H1 ((ds.take i).flatMap parts) ys) ⟨[], same_upd nD2, upd_same, rfl⟩ (fun _ _ ⟨_, h, _⟩ => .inl (rd_same h (rd_same s1 ht))) ?_ ?_
        · rintro i x H2 hi ⟨ys, s2, e2, d2⟩
          obtain ⟨kk, hkk, hx⟩ := ha.get hi
          obtain ⟨l, rfl⟩ := every hkk
          obtain ⟨a1, us, rfl, h1, h2⟩ := hx
          have h1 := rd_same s1 h1
          have h2 := DAll.same s1 _ h2
          have lu : us.length = l.length := h2.len
          refine ⟨rfl, .ref a1, rfl, a1, rfl, ⟨_, .inl (rd_same s2 h1)⟩, inner_tup (K := K) (b := a1) (ys := us) (fun j H' => ∃ zs', Same H1 H' ∧ H' D2 = some (.lst (ys ++ zs')) ∧ DAll H1 (l.take j) zs') ⟨[], s2, by rw [List.append_nil]; exact e2, rfl⟩ (fun _ _ ⟨_, h, _⟩ => .inl (rd_same h h1)) ?_ ?_⟩
          · rintro j u H3 hj ⟨zs', s3, e3, d3⟩
            obtain ⟨ku, hku, hu⟩ := h2.get hj
            refine ⟨rfl, u, rfl, _, e3, ?_, zs' ++ [u], same_mut s3 nD2, by rw [upd_same, List.append_assoc], ?_⟩
            · have z1 := d2.len
              have z2 := d3.len
              have z3 : ((ds.take i).flatMap parts).length ≤ 400 := flat_le ⟨by rw [List.length_take]; omega, fun d hd => hw.2 d (List.mem_of_mem_take hd)⟩
              have z4 := hw.2 _ (List.mem_of_getElem? hkk)
              have z5 : (parts (.tuple l)).length = l.length := rfl
              rw [List.length_take] at z2
              rw [List.length_append]
              exact small1000 (by omega)
            · rw [take_more hku]
              exact d3.append (da1 hu da0)
          · rintro H3 ⟨zs', s3, e3, d3⟩
            rw [lu, List.take_length] at d3
            refine ⟨_, s3, e3, ?_⟩
            rw [take_more hkk, List.flatMap_append]
            exact d2.append (by simpa [parts] using d3)
        · rintro H2 ⟨ys, s2, e2, d2⟩
          rw [lx, List.take_length] at d2
          exact ⟨o, D2, zs, ys, _, rfl, s2 _ _ (s1 _ _ ho), .inl e2, DAll.same s2 _ d2, by have := flat_le hw; omega, fun H3 s3 => q H3 (s1.trans (s2.trans s3))⟩
end
section
variable {P : Program} {w : World} {K : PySem.W.Frag} {mg : Str → Option Value} {base : Heap}
theorem tupD_two : ∀ {d : PyData}, tupD d 2 = true → ∃ a b, d = .tuple [a, b]
  | .tuple [a, b], _ => ⟨a, b, rfl⟩
  | .tuple [], h => (by cases h)
  | .tuple [_], h => (by cases h)
  | .tuple (_ :: _ :: _ :: _), h => (by simp [tupD] at h)
  | .none, h => (by cases h)
  | .bool _, h => (by cases h)
  | .int _, h => (by cases h)
  | .str _, h => (by cases h)
  | .list _, h => (by cases h)
  | .dict _, h => (by cases h)
theorem pairD_two {d : PyData} (h : tupD d 2 = false) : pairD d = false := by
  unfold pairD
  split
  · simp [tupD] at h
  · rfl
theorem ballotD_two {zs : List Str} {d : PyData} (h : tupD d 2 = false) : ballotD zs d = false := by
  unfold ballotD
  split
  · simp [tupD] at h
  · rfl
def sp_are_marks : Sp := fun vs H Q _ => ∃ (o t : Addr) (zs : List Str) (xs : List V) (ds : List PyData), vs = [.ref o, .ref t] ∧ H o = some (.tup (zs.map V.str)) ∧ Rd H t (.tup xs) ∧ DAll H ds xs ∧ ds.length ≤ 20 ∧ ∀ H', Same H H' → Q (.bl (marksD zs ds)) H'
theorem ok_are_marks (T : Txt K mg) : FnOk P w K mg base CX0 3 T.f_are_marks T.fd_are_marks ["options", "told"] sp_are_marks := by
  refine T.F_are_marks.ok sc_are_marks (fun vs H Q E h => ?_) (fun cdv A outer s H vs Q E hr h => ?_)
  · obtain ⟨o, t, zs, xs, ds, rfl, _⟩ := h
    rfl
  · obtain ⟨o, t, zs, xs, ds, rfl, ho, ht, ha, l20, q⟩ := h
    refine ⟨_, (pss_cons
 (ps_if (pt_not (pt_val (pe_callB (cr_all rfl) (by rfl) T.z_all (by decide +kernel) (pa_cons (pe_lc (own := [("pair", 2)]) (g := gName 2) (tt := tYes) rfl sc_are_marks.nd (pi_tup (pv 1)) (blkOk_by (own := [("pair", 2)]) (N := ["options", "told", "pair"]) (sc := (defScope s_are_marks)) (by decide +kernel)) (fun _ _ _ _ _ => pg_name (i := 2) sc_are_marks.nd rfl (Or.inl rfl)) (fun _ _ _ _ _ => pts_nil) (fun s0 H0 C0 cl0 fp0 => (by have h := ((pe_and (pe_call (ok_is_tuple_of T) (hr.mono (by decide)) (by rfl) T.g_is_tuple_of T.F_is_tuple_of.kp T.b_is_tuple_of .nil pass0 (pa_cons (pv 2) (pa_cons pe_int pa_nil))) (pe_one (pe_call (ok_is_mark T) (hr.mono (by decide)) (by rfl) T.g_is_mark T.F_is_mark.kp T.b_is_mark .nil pass0 (pa_cons (pe_ix ix_tup (pv 2) pe_int (fun _ _ => rfl)) pa_nil)))) : PE ((cxOf CX0 P w K mg base ["options", "told", "pair"] "are_marks" (defScope s_are_marks) T.f_are_marks cdv A outer s H E).nox.blk s0 H0 (lcScope (subE (subE (rootE ((defBody s_are_marks).getD 0 (.Pass ⟨0, 0, 0, 0⟩))) 0) 1)) (compEnvC (lcScope (subE (subE (rootE ((defBody s_are_marks).getD 0 (.Pass ⟨0, 0, 0, 0⟩))) 0) 1)) cl0 C0 (cxOf CX0 P w K mg base ["options", "told", "pair"] "are_marks" (defScope s_are_marks) T.f_are_marks cdv A outer s H E).nox.env) fp0) (subE (subE (subE (rootE ((defBody s_are_marks).getD 0 (.Pass ⟨0, 0, 0, 0⟩))) 0) 1) 0) _); dsimp only [Cx.blk, Cx.tr, Cx.suite, Cx.nox, Cx.wish, cxOf] at h; exact h))) pa_nil))))
 (pss_one
 (ps_ret pe_bl))
 pss_nil)
 (pss_one
 (ps_ret (pe_call (ok_are_unlike_options T) (hr.mono (by decide)) (by rfl) T.g_are_unlike_options T.F_are_unlike_options.kp T.b_are_unlike_options .nil pass0 (pa_cons (pv 0) (pa_cons (pe_lc (own := [("pair", 2)]) (g := gName 2) (tt := tYes) rfl sc_are_marks.nd (pi_tup (pv 1)) (blkOk_by (own := [("pair", 2)]) (N := ["options", "told", "pair"]) (sc := (defScope s_are_marks)) (by decide +kernel)) (fun _ _ _ _ _ => pg_name (i := 2) sc_are_marks.nd rfl (Or.inl rfl)) (fun _ _ _ _ _ => pts_nil) (fun s0 H0 C0 cl0 fp0 => (by have h := ((pe_ix ix_tup (pv 2) pe_int (fun _ _ => rfl)) : PE ((cxOf CX0 P w K mg base ["options", "told", "pair"] "are_marks" (defScope s_are_marks) T.f_are_marks cdv A outer s H E).nox.blk s0 H0 (lcScope (subE (rootE ((defBody s_are_marks).getD 1 (.Pass ⟨0, 0, 0, 0⟩))) 2)) (compEnvC (lcScope (subE (rootE ((defBody s_are_marks).getD 1 (.Pass ⟨0, 0, 0, 0⟩))) 2)) cl0 C0 (cxOf CX0 P w K mg base ["options", "told", "pair"] "are_marks" (defScope s_are_marks) T.f_are_marks cdv A outer s H E).nox.env) fp0) (subE (subE (rootE ((defBody s_are_marks).getD 1 (.Pass ⟨0, 0, 0, 0⟩))) 2) 0) _); dsimp only [Cx.blk, Cx.tr, Cx.suite, Cx.nox, Cx.wish, cxOf] at h; exact h))) pa_nil)))))), ?_⟩
    have lx : xs.length = ds.length := ha.len
    refine ⟨.ref t, rfl, t, rfl, ⟨_, .inl ht⟩, fun D nD => ?_⟩
    refine lc_tup (K := K) (a := t) (xs := xs) (fun i H' => Same H H' ∧ H' D = some (.lst (((ds.take i).map pairD).map V.bl))) ⟨same_upd nD, upd_same⟩ (fun _ _ _ h => .inl (rd_same h.1 ht)) ?_ ?_
    · rintro i x H1 hi ⟨s1, e1⟩
      obtain ⟨kk, hkk, hx⟩ := ha.get hi
      have hx := DAt.same s1 _ hx
      have fin : ∀ b, b = pairD kk → ∃ acc, H1 D = some (.lst acc) ∧ acc.length < sizeLine ∧ Same H (upd H1 D (.lst (acc ++ [V.bl b]))) ∧ (upd H1 D (.lst (acc ++ [V.bl b]))) D = some (.lst (((ds.take (i + 1)).map pairD).map V.bl)) := fun b e => by
        refine ⟨_, e1, ?_, same_mut s1 nD, ?_⟩
        · rw [List.length_map, List.length_map, List.length_take]
          exact small1000 (by omega)
        · rw [upd_same, take_more hkk, List.map_append, List.map_append, e]
          rfl
      refine ⟨rfl, x, rfl, x, 2, kk, rfl, hx, tupD kk 2, rfl, ?_⟩
      cases h2 : tupD kk 2 with
      | false => exact iteF (fin _ (pairD_two h2).symm)
      | true =>
        obtain ⟨a, b, rfl⟩ := tupD_two h2
        obtain ⟨a1, ys, rfl, h1, v0, r, rfl, _, v1, r2, rfl, hb, rfl⟩ := hx
        exact iteT ⟨.ref a1, rfl, a1, _, 1, v1, rfl, rfl, .inl h1, atI_nat (j := 1) rfl, v1, b, rfl, hb, fin _ rfl⟩
    · rintro H1 ⟨s1, e1⟩
      rw [lx, List.take_length] at e1
      refine ⟨D, _, rfl, .of e1, _, rfl, ?_⟩
      have ea : (ds.map pairD).all id = ds.all pairD := by rw [List.all_map]; rfl
      rw [ea]
      cases hs : ds.all pairD with
      | false =>
        refine iteT ?_
        have := q H1 s1
        unfold marksD at this
        rw [hs] at this
        exact this
      | true =>
        have q : ∀ H', Same H H' → Q (.bl (unlikeD zs (ds.map firstD))) H' := fun H' s' => by
          have := q H' s'
          unfold marksD at this
          rw [hs] at this
          exact this
        refine iteF ⟨.ref o, rfl, .ref t, rfl, t, rfl, ⟨_, .inl (rd_same s1 ht)⟩, fun D2 nD2 => ?_⟩
        refine lc_tup (K := K) (a := t) (xs := xs) (fun i H' => ∃ ys, Same H1 H' ∧ H' D2 = some (.lst ys) ∧ DAll H1 ((ds.take i).map firstD) ys) ⟨[], same_upd nD2, upd_same, rfl⟩ (fun _ _ _ ⟨_, h, _⟩ => .inl (rd_same h (rd_same s1 ht))) ?_ ?_
        · rintro i x H2 hi ⟨ys, s2, e2, d2⟩
          obtain ⟨kk, hkk, hx⟩ := ha.get hi
          have hp := List.all_eq_true.mp hs _ (List.mem_of_getElem? hkk)
          have h2 : tupD kk 2 = true := by
            cases h : tupD kk 2 with
            | true => rfl
            | false => rw [pairD_two h] at hp; cases hp
          obtain ⟨a, b, rfl⟩ := tupD_two h2
          obtain ⟨a1, us, rfl, h1, v0, r, rfl, hv, v1, r2, rfl, _, rfl⟩ := hx
          refine ⟨rfl, .ref a1, rfl, a1, _, 0, v0, rfl, rfl, .inl (rd_same (s1.trans s2) h1), atI_nat (j := 0) rfl, _, e2, ?_, ys ++ [v0], same_mut s2 nD2, upd_same, ?_⟩
          · rw [d2.len, List.length_map, List.length_take]
            exact small1000 (by omega)
          · rw [take_more hkk, List.map_append]
            exact d2.append (da1 (DAt.same s1 _ hv) da0)
        · rintro H2 ⟨ys, s2, e2, d2⟩
          rw [lx, List.take_length] at d2
          exact ⟨o, D2, zs, ys, _, rfl, s2 _ _ (s1 _ _ ho), .inl e2, DAll.same s2 _ d2, by rw [List.length_map]; omega, fun H3 s3 => q H3 (s1.trans (s2.trans s3))⟩
/-- no part too long: what a ballot's second half may be -/
def Fit : PyData → Prop
  | .tuple [_, .tuple l] => Wide l
  | _ => True
def sp_is_ballot : Sp := fun vs H Q _ => ∃ (o : Addr) (zs : List Str) (v : V) (d : PyData), vs = [.ref o, v] ∧ H o = some (.tup (zs.map V.str)) ∧ DAt H d v ∧ Fit d ∧ ∀ H', Same H H' → Q (.bl (ballotD zs d)) H'
theorem ok_is_ballot (T : Txt K mg) : FnOk P w K mg base CX0 4 T.f_is_ballot T.fd_is_ballot ["options", "thing"] sp_is_ballot := by
  refine T.F_is_ballot.ok sc_is_ballot (fun vs H Q E h => ?_) (fun cdv A outer s H vs Q E hr h => ?_)
  · obtain ⟨o, zs, v, d, rfl, _⟩ := h
    rfl
  · obtain ⟨o, zs, v, d, rfl, ho, hd, hf, q⟩ := h
    refine ⟨_, (pss_cons
 (ps_if (PW.pt (pw_or (pt_not (pt_val (pe_call (ok_is_tuple_of T) (hr.mono (by decide)) (by rfl) T.g_is_tuple_of T.F_is_tuple_of.kp T.b_is_tuple_of .nil pass0 (pa_cons (pv 1) (pa_cons pe_int pa_nil))))) (pw_or (pt_not (pt_val (pe_callB call_isi (by rfl) T.z_isinstance (by decide +kernel) (pa_cons (pe_ix ix_tup (pv 1) pe_int (fun _ _ => rfl)) (pa_cons (pe_bltn (v := .ty "str") (u := .type "str") rfl T.z_str (by decide +kernel) rfl) pa_nil))))) (pw_or1 (pt_not (pt_val (pe_callB call_isi (by rfl) T.z_isinstance (by decide +kernel) (pa_cons (pe_ix ix_tup (pv 1) pe_int (fun _ _ => rfl)) (pa_cons (pe_bltn (v := .ty "tuple") (u := .type "tuple") rfl T.z_tuple (by decide +kernel) rfl) pa_nil)))))))))
 (pss_one
 (ps_ret pe_bl))
 pss_nil)
 (pss_cons
 (ps_asg (pv 1) (pg_tup rfl (pgs_cons (pg_name (i := 2) sc_is_ballot.nd rfl (Or.inl rfl)) (pgs_cons (pg_name (i := 3) sc_is_ballot.nd rfl (Or.inl rfl)) pgs_nil))))
 (pss_cons
 (ps_if (pt_cmpR op_eq (pv 2) pe_str (nomark _))
 (pss_one
 (ps_ret (pe_call (ok_are_tiers T) (hr.mono (by decide)) (by rfl) T.g_are_tiers T.F_are_tiers.kp T.b_are_tiers .nil pass0 (pa_cons (pv 0) (pa_cons (pv 3) pa_nil)))))
 pss_nil)
 (pss_cons
 (ps_if (pt_cmpR op_eq (pv 2) pe_str (nomark _))
 (pss_one
 (ps_ret (pe_call (ok_are_unlike_options T) (hr.mono (by decide)) (by rfl) T.g_are_unlike_options T.F_are_unlike_options.kp T.b_are_unlike_options .nil pass0 (pa_cons (pv 0) (pa_cons (pv 3) pa_nil)))))
 pss_nil)
 (pss_cons
 (ps_if (pt_cmpR op_eq (pv 2) pe_str (nomark _))
 (pss_one
 (ps_ret (pe_call (ok_are_marks T) (hr.mono (by decide)) (by rfl) T.g_are_marks T.F_are_marks.kp T.b_are_marks .nil pass0 (pa_cons (pv 0) (pa_cons (pv 3) pa_nil)))))
 pss_nil)
 (pss_one
 (ps_ret pe_bl))))))), ?_⟩
    have q0 := q H (Same.refl H)
    refine ⟨v, rfl, v, 2, d, rfl, hd, tupD d 2, rfl, ?_⟩
    cases h2 : tupD d 2 with
    | false =>
      rw [ballotD_two h2] at q0
      exact iteT q0
    | true =>
      obtain ⟨a, b, rfl⟩ := tupD_two h2
      obtain ⟨p, xs, rfl, hp, v0, r, rfl, ha, v1, r2, rfl, hb, rfl⟩ := hd
      obtain ⟨t0, ht0, _, k0, _⟩ := ha.ty (K := K)
      refine iteF ⟨.ref p, rfl, p, _, 0, v0, rfl, rfl, .inl hp, atI_nat (j := 0) rfl, v0, _, t0, _, dS a, rfl, .ty _, ht0, k0, dS a, rfl, ?_⟩
      cases a with
      | str f =>
        obtain ⟨t1, ht1, k1, _⟩ := hb.ty (K := K)
        refine iteF ⟨.ref p, rfl, p, _, 1, v1, rfl, rfl, .inl hp, atI_nat (j := 1) rfl, v1, _, t1, _, dT b, rfl, .ty _, ht1, k1, dT b, rfl, ?_⟩
        cases b with
        | tuple l =>
          obtain ⟨pt, us, rfl, hpt, hl⟩ := hb
          rw [show v0 = V.str f from ha] at hp
          have wl : Wide l := hf
          refine iteF ⟨.ref p, rfl, p, _, rfl, .inl hp, rfl, _, _, rfl, _, _, rfl, rfl, ?_⟩
          have es : ∀ z : Str, decide (V.str f = V.str z) = decide (f = z) := fun z => decide_eq_decide.mpr ⟨fun h => V.str.inj h, fun h => by rw [h]⟩
          have eq : ballotD zs (.tuple [.str f, .tuple l]) = if f = "order" then tiersD zs l else if f = "lets" then unlikeD zs l else if f = "marks" then marksD zs l else false := rfl
          rw [eq] at q q0
          refine ⟨.str f, rfl, rfl, _, rfl, ?_⟩
          rw [es]
          by_cases e1 : f = "order"
          · rw [decide_eq_true e1]
            rw [if_pos e1] at q
            exact iteT ⟨.ref o, rfl, .ref pt, rfl, o, pt, zs, us, l, rfl, ho, hpt, hl, wl, q⟩
          · rw [decide_eq_false e1]
            rw [if_neg e1] at q q0
            refine iteF ⟨.str f, rfl, rfl, _, rfl, ?_⟩
            rw [es]
            by_cases e2 : f = "lets"
            · rw [decide_eq_true e2]
              rw [if_pos e2] at q
              exact iteT ⟨.ref o, rfl, .ref pt, rfl, o, pt, zs, us, l, rfl, ho, .inr hpt, hl, by have := wl.1; omega, q⟩
            · rw [decide_eq_false e2]
              rw [if_neg e2] at q q0
              refine iteF ⟨.str f, rfl, rfl, _, rfl, ?_⟩
              rw [es]
              by_cases e3 : f = "marks"
              · rw [decide_eq_true e3]
                rw [if_pos e3] at q
                exact iteT ⟨.ref o, rfl, .ref pt, rfl, o, pt, zs, us, l, rfl, ho, hpt, hl, wl.1, q⟩
              · rw [decide_eq_false e3]
                rw [if_neg e3] at q0
                exact iteF q0
        | none => exact iteT q0
        | bool _ => exact iteT q0
        | int _ => exact iteT q0
        | str _ => exact iteT q0
        | list _ => exact iteT q0
        | dict _ => exact iteT q0
      | none => exact iteT q0
      | bool _ => exact iteT q0
      | int _ => exact iteT q0
      | tuple _ => exact iteT q0
      | list _ => exact iteT q0
      | dict _ => exact iteT q0
def BadE (C : Addr) (H : Hp) (E : XK) : Prop := ∀ (d : Addr) (fs : List (Str × V)) (H' : Hp), Same H H' → H d = none → H' d = some (.xd fs) → E (.ref C) (some d) H'
def sp_PollError_init (K : PySem.W.Frag) : Sp := fun vs H Q _ => ∃ (a C : Addr) (z : Str), vs = [.ref a, .str z] ∧ H a = some (exo a C none) ∧ OexC K C ∧ PySem.W.findIn K (.ref C) "why" = some none ∧
  ∀ dx, H dx = none → dx ≠ a → Q .non (upd (upd H dx (exd dx [("why", .str z)])) a (exo a C (some dx)))
theorem ok_PollError_init (T : Txt K mg) : FnOk P w K mg base CX0 1 T.f_PollError_init T.fd_PollError_init ["self", "why"] (sp_PollError_init K) := by
  refine T.F_PollError_init.ok (CX := CX0) sc_PollError_init (fun vs H Q E h => ?_) (fun cdv A outer s H vs Q E hr h => ?_)
  · obtain ⟨a, C, z, rfl, _⟩ := h
    rfl
  · obtain ⟨a, C, z, rfl, ha, hT, hno, q⟩ := h
    refine ⟨_, (pss_cons
 (ps_expr (pe_veinit (by rfl) T.z_ValueError T.vV (pa_cons (pv 0) (pa_cons (pv 1) pa_nil))))
 (pss_one
 (ps_ost (pv 0) (pv 1)))), ?_⟩
    refine ⟨.ref a, rfl, .str z, rfl, a, C, [.str z], rfl, (by show 1 ≤ 1000; decide), hT, ha, ?_⟩
    exact ⟨.str z, rfl, .ref a, rfl, a, C, rfl, hT, hno, .inl ⟨ha, fun dx n1 n2 => q dx n1 n2⟩⟩
end
theorem ok_int {n m : Nat} {i : Int} (h : PyData.leavesShort 40 (.int i) = true) (g : (PyData.int i).weight ≤ m) (f : (PyData.int i).showable = true) : Ok n m (.int i) := ⟨rfl, Nat.zero_le _, f, h, g⟩
theorem ok_small {z : Str} (h : NameOk z) : Ok 0 8 (.str z) := ok_str (small_ok h.2.2) h.2.1
def PieceD (wd : Str) (d : PyData) : Prop := (parts d).length ≤ 6 ∧ (((∃ z, d = .str z) ∧ wd ≠ "marks") ∨ ∃ a l, d = .tuple (a :: l))
/-! ### good ballots as data -/
def tyT (t : List Str) : PyData := .tuple (t.map PyData.str)
def mkT (m : Str × Int) : PyData := .tuple [.str m.1, .int m.2]
def Bal.word : Bal → Str
  | .order _ => "order"
  | .lets _ => "lets"
  | .marks _ => "marks"
def Bal.things : Bal → List PyData
  | .order ts => ts.map tyT
  | .lets ns => ns.map PyData.str
  | .marks ms => ms.map mkT
def Bal.data (b : Bal) : PyData := .tuple [.str b.word, .tuple b.things]
theorem DAll.of_map {α : Type} {H : Hp} {f : α → PyData} {g : α → V} : ∀ {l : List α}, (∀ a ∈ l, DAt H (f a) (g a)) → DAll H (l.map f) (l.map g)
  | [], _ => rfl
  | a :: l, h => ⟨_, _, rfl, h a List.mem_cons_self, DAll.of_map fun b hb => h b (List.mem_cons_of_mem _ hb)⟩
theorem BalAt.things {H : Hp} {t : Addr} : ∀ {b : Bal}, BalAt H t b → ∃ (u : Addr) (xs : List V), H t = some (.tup [.str b.word, .ref u]) ∧ Rd H u (.tup xs) ∧ DAll H b.things xs
  | .order ts, ⟨u, bs, h1, h2, h3, h4⟩ => by
    refine ⟨u, _, h1, .of h2, ?_⟩
    show DAll H (ts.map tyT) _
    rw [← h4, List.map_map]
    exact DAll.of_map fun b hb => ⟨b.1, _, rfl, .of (h3 b hb).1, DAll.strs b.2⟩
  | .lets ns, ⟨u, h1, h2⟩ => ⟨u, _, h1, .of h2, DAll.strs ns⟩
  | .marks ms, ⟨u, o, bs, h1, h2, h3, h4⟩ => by
    refine ⟨u, _, h1, .inr ⟨o, h2.2⟩, ?_⟩
    show DAll H (ms.map mkT) _
    rw [← h4, List.map_map]
    exact DAll.of_map fun b hb => ⟨b.1, _, rfl, .of (h3 b hb), da1 rfl (da1 rfl da0)⟩
theorem BalAt.data {H : Hp} {t : Addr} {b : Bal} (h : BalAt H t b) : DAt H b.data (.ref t) := by
  obtain ⟨u, xs, h1, h2, a⟩ := h.things
  exact ⟨t, _, rfl, .of h1, da1 rfl (da1 ⟨u, xs, rfl, h2, a⟩ da0)⟩
theorem flat_strsD : ∀ ts : List (List Str), (ts.map tyT).flatMap parts = ts.flatten.map PyData.str
  | [] => rfl
  | t :: ts => by
    rw [List.map_cons, List.flatMap_cons, flat_strsD ts, List.flatten_cons, List.map_append]
    rfl
theorem unS_strs : ∀ ws : List Str, (ws.map PyData.str).filterMap unS = ws
  | [] => rfl
  | a :: ws => by
    rw [List.map_cons, List.filterMap_cons]
    show a :: (ws.map PyData.str).filterMap unS = a :: ws
    rw [unS_strs ws]
theorem unlike_strs {zs ws : List Str} (h : ws.Nodup) (g : ∀ z ∈ ws, z ∈ zs) : unlikeD zs (ws.map PyData.str) = true := by
  unfold unlikeD
  rw [unS_strs, decide_eq_true h, Bool.and_true, List.all_eq_true]
  intro d hd
  obtain ⟨z, hz, rfl⟩ := List.mem_map.mp hd
  exact decide_eq_true (g z hz)
theorem firsts_marks : ∀ ms : List (Str × Int), (ms.map mkT).map firstD = (ms.map (·.1)).map PyData.str
  | [] => rfl
  | m :: ms => by
    rw [List.map_cons, List.map_cons, firsts_marks ms]
    rfl
theorem Bal.Ok.good {zs : List Str} : ∀ {b : Bal}, b.Ok zs → ballotD zs b.data = true
  | .order ts, h => by
    obtain ⟨h1, h2, h3⟩ := h
    show tiersD zs (ts.map tyT) = true
    unfold tiersD
    rw [flat_strsD, unlike_strs h1 h2, Bool.and_true, List.all_eq_true]
    intro d hd
    obtain ⟨t, ht, rfl⟩ := List.mem_map.mp hd
    cases t with
    | nil => exact absurd rfl (h3 _ ht)
    | cons a l => exact decide_eq_true (Nat.succ_pos (l.map PyData.str).length)
  | .lets ns, h => unlike_strs h.1 h.2
  | .marks ms, h => by
    obtain ⟨h1, h2, h3⟩ := h
    show marksD zs (ms.map mkT) = true
    unfold marksD
    rw [firsts_marks, unlike_strs h1 (fun z hz => by obtain ⟨m, hm, rfl⟩ := List.mem_map.mp hz; exact h2 m hm), Bool.and_true, List.all_eq_true]
    intro d hd
    obtain ⟨m, hm, rfl⟩ := List.mem_map.mp hd
    show (decide ((0 : Int) ≤ m.2) && decide (m.2 ≤ 9)) = true
    rw [decide_eq_true (h3 m hm).1, decide_eq_true (h3 m hm).2]
    rfl
theorem few {zs ws : List Str} (n : zs.length ≤ 6) (h : ws.Nodup) (g : ∀ z ∈ ws, z ∈ zs) : ws.length ≤ 6 := Nat.le_trans (h.length_le_of_subset g) n
theorem flat_few : ∀ {ts : List (List Str)}, (∀ t ∈ ts, t ≠ []) → ts.length ≤ ts.flatten.length
  | [], _ => Nat.le_refl _
  | t :: ts, h => by
    rw [List.flatten_cons, List.length_append, List.length_cons]
    have := flat_few fun u hu => h u (List.mem_cons_of_mem _ hu)
    have := List.length_pos_iff.mpr (h t List.mem_cons_self)
    omega
theorem part_few {t : List Str} : ∀ {ts : List (List Str)}, t ∈ ts → t.length ≤ ts.flatten.length
  | u :: ts, h => by
    rw [List.flatten_cons, List.length_append]
    rcases List.mem_cons.mp h with rfl | h
    · omega
    · have := part_few h
      omega
theorem Bal.Ok.few {zs : List Str} (n : zs.length ≤ 6) : ∀ {b : Bal}, b.Ok zs → b.things.length ≤ 6 ∧ ∀ d ∈ b.things, PieceD b.word d
  | .order ts, h => by
    obtain ⟨h1, h2, h3⟩ := h
    have f := Own.few n h1 h2
    refine ⟨by show (ts.map tyT).length ≤ 6; rw [List.length_map]; exact Nat.le_trans (flat_few h3) f, fun d hd => ?_⟩
    obtain ⟨t, ht, rfl⟩ := List.mem_map.mp hd
    refine ⟨by show (t.map PyData.str).length ≤ 6; rw [List.length_map]; exact Nat.le_trans (part_few ht) f, .inr ?_⟩
    cases t with
    | nil => exact absurd rfl (h3 _ ht)
    | cons a l => exact ⟨_, _, rfl⟩
  | .lets ns, h => by
    refine ⟨by show (ns.map PyData.str).length ≤ 6; rw [List.length_map]; exact Own.few n h.1 h.2, fun d hd => ?_⟩
    obtain ⟨z, hz, rfl⟩ := List.mem_map.mp hd
    exact ⟨Nat.zero_le _, .inl ⟨⟨z, rfl⟩, by show ("lets" : Str) ≠ "marks"; decide⟩⟩
  | .marks ms, h => by
    obtain ⟨h1, h2, h3⟩ := h
    have f := Own.few n h1 (fun z hz => by obtain ⟨m, hm, rfl⟩ := List.mem_map.mp hz; exact h2 m hm)
    rw [List.length_map] at f
    refine ⟨by show (ms.map mkT).length ≤ 6; rw [List.length_map]; exact f, fun d hd => ?_⟩
    obtain ⟨m, hm, rfl⟩ := List.mem_map.mp hd
    exact ⟨by show 2 ≤ 6; decide, .inr ⟨_, _, rfl⟩⟩
theorem OkA.of {n m : Nat} : ∀ {l : List PyData}, (∀ d ∈ l, Ok n m d) → OkA n (l.length * (m + 1)) l
  | [], _ => OkA.nil
  | d :: l, h => by
    refine ((OkA.cons (h d List.mem_cons_self) (OkA.of fun e he => h e (List.mem_cons_of_mem _ he)))).mono (Nat.le_refl _) ?_
    rw [List.length_cons, Nat.succ_mul]
    omega
theorem ok_mark {n : Nat} {i : Int} (h0 : 0 ≤ i) (h9 : i ≤ 9) : Ok n 8 (.int i) := by
  have : i = 0 ∨ i = 1 ∨ i = 2 ∨ i = 3 ∨ i = 4 ∨ i = 5 ∨ i = 6 ∨ i = 7 ∨ i = 8 ∨ i = 9 := by omega
  rcases this with rfl | rfl | rfl | rfl | rfl | rfl | rfl | rfl | rfl | rfl <;> exact ok_int (by decide +kernel) (by decide +kernel) (by decide +kernel)
theorem ok_names {t : List Str} (h : ∀ z ∈ t, NameOk z) (g : t.length ≤ 6) : Ok 1 54 (tyT t) := by
  have := OkA.of (n := 0) (m := 8) (l := t.map PyData.str) fun d hd => by
    obtain ⟨z, hz, rfl⟩ := List.mem_map.mp hd
    exact ok_small (h z hz)
  rw [List.length_map] at this
  exact (this.mono (Nat.le_refl _) (show t.length * 9 ≤ 54 by omega)).tuple
theorem Bal.Ok.okA {zs : List Str} (n : zs.length ≤ 6) (hz : ∀ z ∈ zs, NameOk z) : ∀ {b : Bal}, b.Ok zs → OkA 4 1000 b.things
  | .order ts, h => by
    have f := Bal.Ok.few n h
    obtain ⟨h1, h2, h3⟩ := h
    have f6 := Own.few n h1 h2
    have := OkA.of (n := 1) (m := 54) (l := ts.map tyT) fun d hd => by
      obtain ⟨t, ht, rfl⟩ := List.mem_map.mp hd
      exact ok_names (fun z h => hz z (h2 z (List.mem_flatten.mpr ⟨t, ht, h⟩))) (Nat.le_trans (part_few ht) f6)
    have l6 : (ts.map tyT).length ≤ 6 := f.1
    exact this.mono (by decide) (by omega)
  | .lets ns, h => by
    have l6 : (ns.map PyData.str).length ≤ 6 := (Bal.Ok.few (b := .lets ns) n h).1
    have := OkA.of (n := 0) (m := 8) (l := ns.map PyData.str) fun d hd => by
      obtain ⟨z, hz', rfl⟩ := List.mem_map.mp hd
      exact ok_small (hz z (h.2 z hz'))
    exact this.mono (by decide) (by omega)
  | .marks ms, h => by
    have l6 : (ms.map mkT).length ≤ 6 := (Bal.Ok.few (b := .marks ms) n h).1
    obtain ⟨h1, h2, h3⟩ := h
    have := OkA.of (n := 1) (m := 20) (l := ms.map mkT) fun d hd => by
      obtain ⟨m, hm, rfl⟩ := List.mem_map.mp hd
      exact ((OkA.cons (n := 0) (ok_small (hz _ (h2 m hm))) (OkA.cons (k := 0) (ok_mark (h3 m hm).1 (h3 m hm).2) OkA.nil)).mono (Nat.le_refl _) (by decide)).tuple
    exact this.mono (by decide) (by omega)
theorem Bal.wordOk : ∀ b : Bal, Own.Ok 0 8 (.str b.word)
  | .order _ => (ok_str (by decide +kernel) (by decide +kernel) : Own.Ok 0 8 (.str "order"))
  | .lets _ => (ok_str (by decide +kernel) (by decide +kernel) : Own.Ok 0 8 (.str "lets"))
  | .marks _ => (ok_str (by decide +kernel) (by decide +kernel) : Own.Ok 0 8 (.str "marks"))
theorem Bal.Ok.fit {zs : List Str} {b : Bal} (n : zs.length ≤ 6) (h : b.Ok zs) : Fit b.data := by
  obtain ⟨f1, f2⟩ := h.few n
  exact (⟨by omega, fun d hd => by have := (f2 d hd).1; omega⟩ : Wide b.things)
theorem hid_tk {p : Addr} {H : Hp} {y : List V} (hp : H p = some (.lst y)) : TK H (hide p H) := ⟨fun _ _ e => hid_tup hp e, fun a o u e => by
  rw [hide_ne (fun z => by rw [z, hp] at e; cases e)]
  exact e⟩
theorem BalAt.hid {p u : Addr} {H : Hp} {y : List V} {b : Bal} (hp : H p = some (.lst y)) (h : BalAt H u b) : BalAt (hide p H) u b := h.keep (hid_tk hp)
/-! ### ranks, in plain words -/
def mkAt : List (Str × Int) → Str → Option Int
  | [], _ => none
  | m :: ms, z => if m.1 = z then some m.2 else mkAt ms z
def mT (ms : List (Str × Int)) : List (Key × V) := ms.map fun m => (.inr m.1, .int m.2)
theorem mT_val (z : Str) : ∀ ms : List (Str × Int), valV (mT ms) (.inr z) = (mkAt ms z).map V.int
  | [] => rfl
  | m :: ms => by
    by_cases e : m.1 = z
    · have h : valV (mT (m :: ms)) (.inr z) = some (V.int m.2) := valV_pos (p := ((.inr m.1 : Key), V.int m.2)) (r := mT ms) (congrArg Sum.inr e)
      rw [h]
      unfold mkAt
      rw [if_pos e] <;> rfl
    · have h : valV (mT (m :: ms)) (.inr z) = valV (mT ms) (.inr z) := valV_neg (p := ((.inr m.1 : Key), V.int m.2)) (r := mT ms) (fun q => e (Sum.inr.inj q))
      rw [h, mT_val z ms]
      show _ = Option.map V.int (if m.1 = z then some m.2 else mkAt ms z)
      rw [if_neg e]
theorem mk_none {z : Str} : ∀ {ms : List (Str × Int)}, z ∉ ms.map (·.1) → mkAt ms z = none
  | [], _ => rfl
  | m :: ms, h => by
    unfold mkAt
    rw [if_neg (fun e => h (by rw [← e]; exact List.mem_cons_self)), mk_none fun q => h (List.mem_cons_of_mem _ q)]
theorem mk_some {ms : List (Str × Int)} (n : (ms.map (·.1)).Nodup) : ∀ {i : Nat} {m : Str × Int}, ms[i]? = some m → mkAt ms m.1 = some m.2 := by
  induction ms with
  | nil => intro i m h; cases h
  | cons a ms ih =>
    intro i m h
    have n2 := List.nodup_cons.mp n
    unfold mkAt
    cases i with
    | zero => cases h; rw [if_pos rfl]
    | succ i =>
      have h : ms[i]? = some m := h
      have hm : m.1 ∈ ms.map (·.1) := List.mem_map.mpr ⟨m, List.mem_of_getElem? h, rfl⟩
      rw [if_neg (fun e => n2.1 (by show a.1 ∈ _; rw [e]; exact hm))]
      exact ih n2.2 h
theorem mT_put {ms : List (Str × Int)} {m : Str × Int} (h : m.1 ∉ ms.map (·.1)) : putK (mT ms) (.inr m.1) (.int m.2) = mT (ms ++ [m]) := by
  rw [putK_new _ (by rw [mT_val, mk_none h]; rfl)]
  unfold mT
  rw [List.map_append]
  rfl
/-- the rank that the program gives, the height that the law gives -/
def Bal.rk : Bal → Str → Int
  | .order ts, z => place ts z
  | .lets ns, z => if z ∈ ns then 0 else 1
  | .marks ms, z => -((mkAt ms z).getD 0)
def Bal.hi : Bal → Str → Int
  | .order ts, z => if z ∈ ts.flatten then 99 - place ts z else 0
  | .lets ns, z => if z ∈ ns then 1 else 0
  | .marks ms, z => (mkAt ms z).getD 0
theorem Bal.turn {b : Bal} {zs : List Str} (n : zs.length ≤ 6) (h : b.Ok zs) (y z : Str) : b.rk y < b.rk z ↔ b.hi z < b.hi y := by
  cases b with
  | order ts =>
    have f := (Bal.Ok.few (b := .order ts) n h).1
    have f : (ts.map tyT).length ≤ 6 := f
    rw [List.length_map] at f
    show ((place ts y : Nat) : Int) < (place ts z : Nat) ↔ (if z ∈ ts.flatten then (99 : Int) - (place ts z : Nat) else 0) < (if y ∈ ts.flatten then (99 : Int) - (place ts y : Nat) else 0)
    have l1 := place_le y ts
    have l2 := place_le z ts
    by_cases hy : y ∈ ts.flatten <;> by_cases hz : z ∈ ts.flatten
    · rw [if_pos hy, if_pos hz]
      omega
    · rw [if_pos hy, if_neg hz, place_out hz]
      have := place_lt hy
      omega
    · rw [if_neg hy, if_pos hz, place_out hy]
      have := place_lt hz
      omega
    · rw [if_neg hy, if_neg hz, place_out hy, place_out hz]
      omega
  | lets ns =>
    show (if y ∈ ns then (0 : Int) else 1) < (if z ∈ ns then 0 else 1) ↔ (if z ∈ ns then (1 : Int) else 0) < (if y ∈ ns then 1 else 0)
    by_cases hy : y ∈ ns <;> by_cases hz : z ∈ ns <;> simp [hy, hz]
  | marks ms =>
    show -((mkAt ms y).getD 0) < -((mkAt ms z).getD 0) ↔ (mkAt ms z).getD 0 < (mkAt ms y).getD 0
    omega
section
variable {P : Program} {w : World} {K : PySem.W.Frag} {mg : Str → Option Value} {base : Heap}
/-! ### ranks by an order -/
theorem mem_part {z : Str} {t : List Str} {ts : List (List Str)} {i : Nat} (h : ts[i]? = some t) (m : z ∈ t) : z ∈ ts.flatten := List.mem_flatten.mpr ⟨t, List.mem_of_getElem? h, m⟩
def sp_order_ranks : Sp := fun vs H Q _ => ∃ (o u : Addr) (zs : List Str) (bs : List (Addr × List Str)), vs = [.ref o, .ref u] ∧ H o = some (.tup (zs.map V.str)) ∧ H u = some (.tup (bs.map fun b => V.ref b.1)) ∧ Tiers H bs ∧ zs.Nodup ∧ zs.length ≤ 100 ∧ bs.length ≤ 100 ∧ (bs.map (·.2)).flatten.Nodup ∧ (∀ z ∈ (bs.map (·.2)).flatten, z ∈ zs) ∧
  ∀ (D : Addr) (H' : Hp), Same H H' → H D = none → H' D = some (.dK (tab zs fun z => place (bs.map (·.2)) z)) → Q (.ref D) H'
theorem ok_order_ranks (T : Txt K mg) : FnOk P w K mg base CX0 1 T.f_order_ranks T.fd_order_ranks ["options", "told"] sp_order_ranks := by
  refine T.F_order_ranks.ok sc_order_ranks (fun vs H Q E h => ?_) (fun cdv A outer s H vs Q E hr h => ?_)
  · obtain ⟨o, u, zs, bs, rfl, _⟩ := h
    rfl
  · obtain ⟨o, u, zs, bs, rfl, ho, hu, ht, nd, lz, lb, fn, fm, q⟩ := h
    refine ⟨_, (pss_cons
 (ps_setDc (i := 2) (own := [("name", 5)]) (g := gName 5) (tt := tYes) rfl sc_order_ranks.nd rfl rfl (swD_true rfl rfl rfl (by decide +kernel)) (pi_tup (pv 0)) (blkOk_by (own := [("name", 5)]) (N := ["options", "told", "found", "at", "tier", "name"]) (sc := (defScope s_order_ranks)) (by decide +kernel)) (fun _ _ _ _ _ => pg_name (i := 5) sc_order_ranks.nd rfl (Or.inl rfl)) (fun _ _ _ _ _ => pts_nil) (fun _ _ _ _ _ => (pv 5)) (fun s0 H0 C0 cl0 fp0 => (by have h := ((pe_callB call_len_seq (by rfl) T.z_len (by decide +kernel) (pa_cons (pv 1) pa_nil)) : PE ((cxOf CX0 P w K mg base ["options", "told", "found", "at", "tier", "name"] "order_ranks" (defScope s_order_ranks) T.f_order_ranks cdv A outer s H E).nox.blk s0 H0 (lcScope (rootE ((defBody s_order_ranks).getD 0 (.Pass ⟨0, 0, 0, 0⟩)))) (compEnvC (lcScope (rootE ((defBody s_order_ranks).getD 0 (.Pass ⟨0, 0, 0, 0⟩)))) cl0 C0 (cxOf CX0 P w K mg base ["options", "told", "found", "at", "tier", "name"] "order_ranks" (defScope s_order_ranks) T.f_order_ranks cdv A outer s H E).nox.env) fp0) (subE (rootE ((defBody s_order_ranks).getD 0 (.Pass ⟨0, 0, 0, 0⟩))) 1) _); dsimp only [Cx.blk, Cx.tr, Cx.suite, Cx.nox, Cx.wish, cxOf] at h; exact h)))
 (pss_cons
 (ps_for PassesOwn.never rfl (pi_enumT (by rfl) T.z_enumerate (pv 1)) (pg_tup rfl (pgs_cons (pg_name (i := 3) sc_order_ranks.nd rfl (Or.inl rfl)) (pgs_cons (pg_name (i := 4) sc_order_ranks.nd rfl (Or.inl rfl)) pgs_nil)))
 (pss_one
 (ps_for PassesOwn.never rfl (pi_tup (pv 4)) (pg_name (i := 5) sc_order_ranks.nd rfl (Or.inl rfl))
 (pss_one
 (ps_dput (hu_of hr) (pv 2) (pv 5) (pv 3) (by rfl))))))
 (pss_one
 (ps_ret (pv 2))))), ?_⟩
    generalize hts : bs.map (·.2) = ts at fn fm q
    have lt : ts.length = bs.length := by rw [← hts, List.length_map]
    refine ⟨.ref o, rfl, o, rfl, ⟨_, .of ho⟩, fun D nD => ?_⟩
    refine dc_tup (K := K) (a := o) (xs := zs.map V.str) (fun i H' => Same H H' ∧ H' D = some (.dK (tab (zs.take i) fun _ => (ts.length : Int)))) ⟨same_upd nD, upd_same⟩ (fun _ _ _ h => .of (h.1 _ _ ho)) ?_ ?_
    · rintro i x H1 hi ⟨s1, e1⟩
      obtain ⟨z, hz, rfl⟩ := item_map hi
      have zn : z ∉ zs.take i := fun m => nodup_out nd hz m
      refine ⟨rfl, .str z, rfl, .ref u, rfl, u, _, rfl, .inr (.of (s1 _ _ hu)), _, .inr z, rfl, e1, ?_, same_mut s1 nD, ?_⟩
      · rw [tab_len, List.length_take]
        exact small1000 (by omega)
      · rw [upd_same, tab_new (f := fun _ => (ts.length : Int)) zn (by rw [List.length_map, lt]), ← take_more hz]
    · rintro H1 ⟨s1, e1⟩
      rw [List.length_map, List.take_length] at e1
      have hu1 := s1 _ _ hu
      let fin : List Str → Str → Int := fun seen z => if z ∈ seen then (place ts z : Nat) else (ts.length : Nat)
      refine ⟨.ref u, rfl, u, _, rfl, .of hu1, for_it walk_enumT (fun i σ H' => ∃ x3 x4 x5 : Option V, σ = [some (.ref o), some (.ref u), some (.ref D), x3, x4, x5] ∧ Same H H' ∧ H' D = some (.dK (tab zs (fin (ts.take i).flatten))))
        ⟨none, none, none, rfl, s1, ?_⟩ (fun _ _ _ _ ⟨_, _, _, _, h, _⟩ => .of (h _ _ hu)) ?_ ?_⟩
      · rw [e1]
        exact congrArg (fun l => some (HO.dK l)) (tab_congr fun z _ => (if_neg (by simp)).symm)
      · rintro i x σ H2 H3 hi ⟨x3, x4, x5, rfl, s2, e2⟩ ⟨Tt, a, b, rfl, nT, rfl, ea, eb⟩
        cases ea
        obtain ⟨bb, hb, rfl⟩ := item_map eb
        have s3 : Same H2 _ := same_upd (o := HO.tup [V.int (i : Int), V.ref bb.1]) nT
        have e3 := s3 _ _ e2
        have s3' := s2.trans s3
        have hbt := ht bb (List.mem_of_getElem? hb)
        have tsi : ts[i]? = some bb.2 := by rw [← hts, List.getElem?_map, hb]; rfl
        refine ⟨Tt, _, rfl, .of upd_same, rfl, _, _, rfl, _, _, rfl, rfl, ?_⟩
        refine ⟨.ref bb.1, rfl, bb.1, rfl, ⟨_, .of (s3' _ _ hbt.1)⟩, for_tup (K := K) (a := bb.1) (xs := bb.2.map V.str) (fun j σ H' => ∃ x5 : Option V, σ = [some (.ref o), some (.ref u), some (.ref D), some (.int i), some (.ref bb.1), x5] ∧ Same H H' ∧ H' D = some (.dK (tab zs (fin ((ts.take i).flatten ++ bb.2.take j)))))
          ⟨x5, rfl, s3', ?_⟩ (fun _ _ _ _ ⟨_, _, h, _⟩ => .of (h _ _ hbt.1)) ?_ ?_⟩
        · rw [List.take_zero, List.append_nil]
          exact e3
        · rintro j x σ H4 hj ⟨x5, rfl, s4, e4⟩
          obtain ⟨z, hz, rfl⟩ := item_map hj
          have mz : z ∈ bb.2 := List.mem_of_getElem? hz
          have zz := fm z (mem_part tsi mz)
          refine ⟨.int i, rfl, .ref D, rfl, .str z, rfl, D, _, rfl, DPut.k (k := .inr z) e4 ?_, some (.str z), rfl, same_mut s4 nD, ?_⟩
          · rw [tab_len]
            exact small1000 (by omega)
          · rw [upd_same, tab_put zz]
            refine congrArg (fun l => some (HO.dK l)) (tab_congr fun y _ => ?_)
            show (if y = z then (i : Int) else if y ∈ (ts.take i).flatten ++ bb.2.take j then ((place ts y : Nat) : Int) else (ts.length : Nat)) = if y ∈ (ts.take i).flatten ++ bb.2.take (j + 1) then ((place ts y : Nat) : Int) else (ts.length : Nat)
            rw [take_more hz, ← List.append_assoc]
            by_cases e : y = z
            · rw [if_pos e, if_pos (by rw [e]; exact List.mem_append_right _ (List.mem_singleton.mpr rfl)), e, place_at fn tsi mz]
            · rw [if_neg e]
              have : (y ∈ (ts.take i).flatten ++ bb.2.take j ++ [z]) ↔ y ∈ (ts.take i).flatten ++ bb.2.take j := by
                rw [List.mem_append, List.mem_singleton]
                exact ⟨fun h => h.resolve_right e, .inl⟩
              by_cases m : y ∈ (ts.take i).flatten ++ bb.2.take j
              · rw [if_pos m, if_pos (this.mpr m)]
              · rw [if_neg m, if_neg fun h => m (this.mp h)]
        · rintro σ H4 ⟨x5, rfl, s4, e4⟩
          rw [List.length_map, List.take_length] at e4
          refine ⟨_, _, _, rfl, s4, ?_⟩
          rw [take_more tsi, List.flatten_append]
          simpa using e4
      · rintro σ H2 ⟨x3, x4, x5, rfl, s2, e2⟩
        refine ⟨.ref D, rfl, q D H2 s2 nD ?_⟩
        rw [List.length_map, ← lt, List.take_length] at e2
        rw [e2]
        refine congrArg (fun l => some (HO.dK l)) (tab_congr fun z _ => ?_)
        show (if z ∈ ts.flatten then ((place ts z : Nat) : Int) else (ts.length : Nat)) = (place ts z : Nat)
        by_cases m : z ∈ ts.flatten
        · rw [if_pos m]
        · rw [if_neg m, place_out m]
/-! ### ranks -/
def sp_ranks : Sp := fun vs H Q _ => ∃ (o t : Addr) (zs : List Str) (b : Bal), vs = [.ref o, .ref t] ∧ H o = some (.tup (zs.map V.str)) ∧ BalAt H t b ∧ b.Ok zs ∧ zs.Nodup ∧ zs.length ≤ 6 ∧
  ∀ (D : Addr) (H' : Hp), Same H H' → H D = none → H' D = some (.dK (tab zs b.rk)) → Q (.ref D) H'
theorem ok_ranks (T : Txt K mg) : FnOk P w K mg base CX0 2 T.f_ranks T.fd_ranks ["options", "ballot"] sp_ranks := by
  refine T.F_ranks.ok sc_ranks (fun vs H Q E h => ?_) (fun cdv A outer s H vs Q E hr h => ?_)
  · obtain ⟨o, t, zs, b, rfl, _⟩ := h
    rfl
  · obtain ⟨o, t, zs, b, rfl, ho, hb, bok, nd, lz, q⟩ := h
    refine ⟨_, (pss_cons
 (ps_asg (pv 1) (pg_tup rfl (pgs_cons (pg_name (i := 2) sc_ranks.nd rfl (Or.inl rfl)) (pgs_cons (pg_name (i := 3) sc_ranks.nd rfl (Or.inr rfl)) pgs_nil))))
 (pss_cons
 (ps_if (pt_cmpR op_eq (pv 2) pe_str (nomark _))
 (pss_one
 (ps_ret (pe_call (ok_order_ranks T) (hr.mono (by decide)) (by rfl) T.g_order_ranks T.F_order_ranks.kp T.b_order_ranks .nil pass0 (pa_cons (pv 0) (pa_cons (pv 3) pa_nil)))))
 pss_nil)
 (pss_cons
 (ps_if (pt_cmpR op_eq (pv 2) pe_str (nomark _))
 (pss_one
 (ps_ret (pe_dc (own := [("name", 5)]) (g := gName 5) (tt := tYes) rfl sc_ranks.nd (pi_tup (pv 0)) (blkOk_by (own := [("name", 5)]) (N := ["options", "ballot", "form", "told", "marks", "name", "mark"]) (sc := (defScope s_ranks)) (by decide +kernel)) (fun _ _ _ _ _ => pg_name (i := 5) sc_ranks.nd rfl (Or.inl rfl)) (fun _ _ _ _ _ => pts_nil) (fun _ _ _ _ _ => (pv 5)) (fun s0 H0 C0 cl0 fp0 => (by have h := ((pe_ifExp (pt_cmpR op_in_seq (pv 5) (pv 3) rfl) pe_int pe_int) : PE ((cxOf CX0 P w K mg base ["options", "ballot", "form", "told", "marks", "name", "mark"] "ranks" (defScope s_ranks) T.f_ranks cdv A outer s H E).nox.blk s0 H0 (lcScope (rootE ((blkOf ((defBody s_ranks).getD 2 (.Pass ⟨0, 0, 0, 0⟩)) 0).getD 0 (.Pass ⟨0, 0, 0, 0⟩)))) (compEnvC (lcScope (rootE ((blkOf ((defBody s_ranks).getD 2 (.Pass ⟨0, 0, 0, 0⟩)) 0).getD 0 (.Pass ⟨0, 0, 0, 0⟩)))) cl0 C0 (cxOf CX0 P w K mg base ["options", "ballot", "form", "told", "marks", "name", "mark"] "ranks" (defScope s_ranks) T.f_ranks cdv A outer s H E).nox.env) fp0) (subE (rootE ((blkOf ((defBody s_ranks).getD 2 (.Pass ⟨0, 0, 0, 0⟩)) 0).getD 0 (.Pass ⟨0, 0, 0, 0⟩))) 1) _); dsimp only [Cx.blk, Cx.tr, Cx.suite, Cx.nox, Cx.wish, cxOf] at h; exact h)))))
 pss_nil)
 (pss_cons
 (ps_set (i := 4) sc_ranks.nd rfl (Or.inr rfl) (pe_dc (own := [("name", 5), ("mark", 6)]) (tt := tYes) rfl sc_ranks.nd (pi_tup (pv 3)) (blkOk_by (own := [("name", 5), ("mark", 6)]) (N := ["options", "ballot", "form", "told", "marks", "name", "mark"]) (sc := (defScope s_ranks)) (by decide +kernel)) (fun s0 H0 C0 cl0 fp0 => (by have h := (pg_tup (n := 2) rfl (pgs_cons (pg_name (i := 5) sc_ranks.nd rfl (Or.inl rfl)) (pgs_cons (pg_name (i := 6) sc_ranks.nd rfl (Or.inl rfl)) pgs_nil)) : PG ((cxOf CX0 P w K mg base ["options", "ballot", "form", "told", "marks", "name", "mark"] "ranks" (defScope s_ranks) T.f_ranks cdv A outer s H E).nox.blk s0 H0 (lcScope (rootE ((defBody s_ranks).getD 3 (.Pass ⟨0, 0, 0, 0⟩)))) (compEnvC (lcScope (rootE ((defBody s_ranks).getD 3 (.Pass ⟨0, 0, 0, 0⟩)))) cl0 C0 (cxOf CX0 P w K mg base ["options", "ballot", "form", "told", "marks", "name", "mark"] "ranks" (defScope s_ranks) T.f_ranks cdv A outer s H E).nox.env) fp0) (subE (rootE ((defBody s_ranks).getD 3 (.Pass ⟨0, 0, 0, 0⟩))) 3) _); dsimp only [Cx.blk, Cx.tr, Cx.suite, Cx.nox, Cx.wish, cxOf] at h; exact h)) (fun _ _ _ _ _ => pts_nil) (fun _ _ _ _ _ => (pv 5)) (fun _ _ _ _ _ => (pv 6))))
 (pss_one
 (ps_ret (pe_dc (own := [("name", 5)]) (g := gName 5) (tt := tYes) rfl sc_ranks.nd (pi_tup (pv 0)) (blkOk_by (own := [("name", 5)]) (N := ["options", "ballot", "form", "told", "marks", "name", "mark"]) (sc := (defScope s_ranks)) (by decide +kernel)) (fun _ _ _ _ _ => pg_name (i := 5) sc_ranks.nd rfl (Or.inl rfl)) (fun _ _ _ _ _ => pts_nil) (fun _ _ _ _ _ => (pv 5)) (fun s0 H0 C0 cl0 fp0 => (by have h := ((pe_un un_neg (pe_dget2 (hu_of hr) (pv 4) (pv 5) pe_int ⟨by rfl, by rfl, by rfl, by rfl⟩)) : PE ((cxOf CX0 P w K mg base ["options", "ballot", "form", "told", "marks", "name", "mark"] "ranks" (defScope s_ranks) T.f_ranks cdv A outer s H E).nox.blk s0 H0 (lcScope (rootE ((defBody s_ranks).getD 4 (.Pass ⟨0, 0, 0, 0⟩)))) (compEnvC (lcScope (rootE ((defBody s_ranks).getD 4 (.Pass ⟨0, 0, 0, 0⟩)))) cl0 C0 (cxOf CX0 P w K mg base ["options", "ballot", "form", "told", "marks", "name", "mark"] "ranks" (defScope s_ranks) T.f_ranks cdv A outer s H E).nox.env) fp0) (subE (rootE ((defBody s_ranks).getD 4 (.Pass ⟨0, 0, 0, 0⟩))) 1) _); dsimp only [Cx.blk, Cx.tr, Cx.suite, Cx.nox, Cx.wish, cxOf] at h; exact h))))))))), ?_⟩
    have few := (bok.few lz).1
    cases b with
    | order ts =>
      obtain ⟨u, bs, h1, h2, h3, h4⟩ := hb
      obtain ⟨b1, b2, b3⟩ := bok
      have lb : bs.length ≤ 6 := by
        have e : bs.length = ts.length := by rw [← h4, List.length_map]
        have : (ts.map tyT).length ≤ 6 := few
        rw [List.length_map] at this
        omega
      rw [← h4] at b1 b2
      refine ⟨.ref t, rfl, t, _, rfl, .of h1, rfl, _, _, rfl, _, _, rfl, rfl, ?_⟩
      refine ⟨.str "order", rfl, rfl, _, rfl, iteT ?_⟩
      exact ⟨.ref o, rfl, .ref u, rfl, o, u, zs, bs, rfl, ho, h2, h3, nd, by omega, by omega, b1, b2, fun D H' s n e => q D H' s n (by rw [e, h4]; rfl)⟩
    | lets ns =>
      obtain ⟨u, h1, h2⟩ := hb
      refine ⟨.ref t, rfl, t, _, rfl, .of h1, rfl, _, _, rfl, _, _, rfl, rfl, ?_⟩
      refine ⟨.str "lets", rfl, rfl, _, rfl, iteF ?_⟩
      refine ⟨.str "lets", rfl, rfl, _, rfl, iteT ?_⟩
      refine ⟨.ref o, rfl, o, rfl, ⟨_, .of ho⟩, fun D nD => ?_⟩
      refine dc_tup (K := K) (a := o) (xs := zs.map V.str) (fun i H' => Same H H' ∧ H' D = some (.dK (tab (zs.take i) (Bal.lets ns).rk))) ⟨same_upd nD, upd_same⟩ (fun _ _ _ h => .of (h.1 _ _ ho)) ?_ ?_
      · rintro i x H1 hi ⟨s1, e1⟩
        obtain ⟨z, hz, rfl⟩ := item_map hi
        have zn : z ∉ zs.take i := fun m => nodup_out nd hz m
        have small : (tab (zs.take i) (Bal.lets ns).rk).length < sizeLine := by
          rw [tab_len, List.length_take]
          exact small1000 (by omega)
        refine ⟨rfl, .str z, rfl, .str z, rfl, .ref u, rfl, u, _, rfl, .inr (.of (s1 _ _ h2)), rfl, flat_strs ns, ?_⟩
        refine ⟨_, rfl, ?_⟩
        rw [inV_str]
        by_cases m : z ∈ ns
        · rw [decide_eq_true m]
          refine iteT ⟨_, .inr z, rfl, e1, small, same_mut s1 nD, ?_⟩
          rw [upd_same, tab_new (f := (Bal.lets ns).rk) zn (show (0 : Int) = if z ∈ ns then 0 else 1 by rw [if_pos m]), ← take_more hz]
        · rw [decide_eq_false m]
          refine iteF ⟨_, .inr z, rfl, e1, small, same_mut s1 nD, ?_⟩
          rw [upd_same, tab_new (f := (Bal.lets ns).rk) zn (show (1 : Int) = if z ∈ ns then 0 else 1 by rw [if_neg m]), ← take_more hz]
      · rintro H1 ⟨s1, e1⟩
        rw [List.length_map, List.take_length] at e1
        exact q D H1 s1 nD e1
    | marks ms =>
      obtain ⟨u, oo, bs, h1, ⟨_, h2⟩, h3, h4⟩ := hb
      have h2 : Rd H u (.tup (bs.map fun b => V.ref b.1)) := .inr ⟨oo, h2⟩
      obtain ⟨b1, b2, b3⟩ := bok
      have lb : bs.length ≤ 6 := by
        have e : bs.length = ms.length := by rw [← h4, List.length_map]
        have : (ms.map mkT).length ≤ 6 := few
        rw [List.length_map] at this
        omega
      refine ⟨.ref t, rfl, t, _, rfl, .of h1, rfl, _, _, rfl, _, _, rfl, rfl, ?_⟩
      refine ⟨.str "marks", rfl, rfl, _, rfl, iteF ?_⟩
      refine ⟨.str "marks", rfl, rfl, _, rfl, iteF ?_⟩
      refine ⟨.ref u, rfl, u, rfl, ⟨_, .inl h2⟩, fun M nM => ?_⟩
      refine dc_tup (K := K) (a := u) (xs := bs.map fun b => V.ref b.1) (fun i H' => Same H H' ∧ H' M = some (.dK (mT (ms.take i)))) ⟨same_upd nM, upd_same⟩ (fun _ _ _ h => .inl (rd_same h.1 h2)) ?_ ?_
      · rintro i x H1 hi ⟨s1, e1⟩
        obtain ⟨bb, hbb, rfl⟩ := item_map hi
        have hm : ms[i]? = some bb.2 := by rw [← h4, List.getElem?_map, hbb]; rfl
        have out : bb.2.1 ∉ (ms.take i).map (·.1) := by
          rw [List.map_take]
          exact nodup_out b1 (by rw [List.getElem?_map, hm]; rfl)
        refine ⟨bb.1, _, rfl, .of (s1 _ _ (h3 bb (List.mem_of_getElem? hbb))), rfl, _, _, rfl, _, _, rfl, rfl, rfl, .str bb.2.1, rfl, .int bb.2.2, rfl, _, .inr bb.2.1, rfl, e1, ?_, same_mut s1 nM, ?_⟩
        · unfold mT
          rw [List.length_map, List.length_take]
          exact small1000 (by have : ms.length = bs.length := by rw [← h4, List.length_map]
                              omega)
        · rw [upd_same, mT_put out, ← take_more hm]
      · rintro H1 ⟨s1, e1⟩
        have lm : ms.length = bs.length := by rw [← h4, List.length_map]
        rw [List.length_map, ← lm, List.take_length] at e1
        have ho1 := s1 _ _ ho
        refine ⟨.ref o, rfl, o, rfl, ⟨_, .of ho1⟩, fun D nD => ?_⟩
        have nD0 := s1.free nD
        refine dc_tup (K := K) (a := o) (xs := zs.map V.str) (fun i H' => Same H1 H' ∧ H' D = some (.dK (tab (zs.take i) (Bal.marks ms).rk))) ⟨same_upd nD, upd_same⟩ (fun _ _ _ h => .of (h.1 _ _ ho1)) ?_ ?_
        · rintro i x H2 hi ⟨s2, e2⟩
          obtain ⟨z, hz, rfl⟩ := item_map hi
          have zn : z ∉ zs.take i := fun m => nodup_out nd hz m
          have e1' := s2 _ _ e1
          refine ⟨rfl, .str z, rfl, .ref M, rfl, M, rfl, .inl ⟨_, .inl e1'⟩, .str z, rfl, _, DGet.k (k := .inr z) e1', ?_⟩
          rw [mT_val]
          refine ⟨(mkAt ms z).getD 0, ?_, _, .inr z, rfl, e2, ?_, same_mut s2 nD, ?_⟩
          · cases mkAt ms z <;> rfl
          · rw [tab_len, List.length_take]
            exact small1000 (by omega)
          · rw [upd_same]
            show some (HO.dK (putK (tab (zs.take i) (Bal.marks ms).rk) (.inr z) (V.int (-((mkAt ms z).getD 0))))) = _
            rw [tab_new (f := (Bal.marks ms).rk) (n := -((mkAt ms z).getD 0)) zn rfl, ← take_more hz]
        · rintro H2 ⟨s2, e2⟩
          rw [List.length_map, List.take_length] at e2
          exact q D H2 (s1.trans s2) nD0 e2
end
/-! ### polls, good ones -/
/-- the poll of options at o and rows at u stands at p -/
def pollF (o u : Addr) : List (Str × V) := putF "voices" (.ref u) (putF "options" (.ref o) [])
theorem pollF_options (o u : Addr) : (pollF o u).lookup ("options" : Str) = some (.ref o) := by
  unfold pollF
  rw [lookup_putF, if_neg (by decide +kernel), lookup_putF, if_pos rfl]
theorem pollF_voices (o u : Addr) : (pollF o u).lookup ("voices" : Str) = some (.ref u) := by
  unfold pollF
  rw [lookup_putF, if_pos rfl]
def PollAt (C : Addr) (H : Hp) (p o u : Addr) : Prop := ∃ dx, H p = some (.ins C dx (pollF o u))
theorem PollAt.same {C : Addr} {H H' : Hp} {p o u : Addr} (s : Same H H') (h : PollAt C H p o u) : PollAt C H' p o u := by
  obtain ⟨dx, h⟩ := h
  exact ⟨dx, s _ _ h⟩
theorem BalAt.same {H H' : Hp} {t : Addr} {b : Bal} (s : Same H H') (h : BalAt H t b) : BalAt H' t b := h.keep (TK.same s)
theorem RowsAt.same {H H' : Hp} {u : Addr} {rows : List (Bal × Int)} (s : Same H H') (h : RowsAt H u rows) : RowsAt H' u rows := h.keep (TK.same s)
theorem sign_a {c : Nat} (h : 97 ≤ c) : (!decide ((⟨#[c]⟩ : Str).cps.toList < ("a" : Str).cps.toList)) = true := by
  have e : ("a" : Str).cps.toList = [97] := by decide +kernel
  rw [e]
  show (!decide ([c] < [97])) = true
  rw [decide_eq_false fun z => ?_] <;> try rfl
  rcases List.cons_lt_cons_iff.mp z with z | z
  · omega
  · exact absurd z.2 (List.lt_irrefl _)
theorem sign_z {c : Nat} (h : c ≤ 122) : (!decide (("z" : Str).cps.toList < (⟨#[c]⟩ : Str).cps.toList)) = true := by
  have e : ("z" : Str).cps.toList = [122] := by decide +kernel
  rw [e]
  show (!decide ([122] < [c])) = true
  rw [decide_eq_false fun z => ?_] <;> try rfl
  rcases List.cons_lt_cons_iff.mp z with z | z
  · omega
  · exact absurd z.2 (List.lt_irrefl _)
/-- options as they must be -/
structure OptsOk (zs : List Str) : Prop where
  some : zs ≠ []
  few : zs.length ≤ 6
  nodup : zs.Nodup
  names : ∀ z ∈ zs, NameOk z
section
variable {P : Program} {w : World} {K : PySem.W.Frag} {mg : Str → Option Value} {base : Heap}
def sp_is_name : Sp := fun vs H Q _ => ∃ z : Str, vs = [.str z] ∧ NameOk z ∧ ∀ H', Same H H' → Q (.bl true) H'
theorem ok_is_name (T : Txt K mg) : FnOk P w K mg base CX0 1 T.f_is_name T.fd_is_name ["thing"] sp_is_name := by
  refine T.F_is_name.ok sc_is_name (fun vs H Q E h => ?_) (fun cdv A outer s H vs Q E hr h => ?_)
  · obtain ⟨z, rfl, _⟩ := h
    rfl
  · obtain ⟨z, rfl, hz, q⟩ := h
    refine ⟨_, (pss_cons
 (ps_if (pt_not (pt_val (pe_callB call_isi (by rfl) T.z_isinstance (by decide +kernel) (pa_cons (pv 0) (pa_cons (pe_bltn (v := .ty "str") (u := .type "str") rfl T.z_str (by decide +kernel) rfl) pa_nil)))))
 (pss_one
 (ps_ret pe_bl))
 pss_nil)
 (pss_cons
 (ps_if (pt_not (pt_chain op_le op_le pe_int (pe_callB call_len_str (by rfl) T.z_len (by decide +kernel) (pa_cons (pv 0) pa_nil)) (pe_glob (v := .int 8) rfl T.c_LONGEST_NAME ⟨_, rfl⟩)))
 (pss_one
 (ps_ret pe_bl))
 pss_nil)
 (pss_one
 (ps_ret (pe_callB (cr_all rfl) (by rfl) T.z_all (by decide +kernel) (pa_cons (pe_lc (own := [("sign", 1)]) (g := gName 1) (tt := tYes) rfl sc_is_name.nd (pi_str (pv 0)) (blkOk_by (own := [("sign", 1)]) (N := ["thing", "sign"]) (sc := (defScope s_is_name)) (by decide +kernel)) (fun _ _ _ _ _ => pg_name (i := 1) sc_is_name.nd rfl (Or.inl rfl)) (fun _ _ _ _ _ => pts_nil) (fun _ _ _ _ _ => (pe_chain op_le_str op_le_str pe_str (pv 1) pe_str))) pa_nil)))))), ?_⟩
    obtain ⟨h1, h8, hs⟩ := hz
    obtain ⟨t, ht, _, k2, _⟩ := (show DAt H (.str z) (.str z) from rfl).ty (K := K)
    refine ⟨.str z, rfl, .str z, _, t, _, true, rfl, .ty _, ht, k2, true, rfl, iteF ?_⟩
    refine ⟨.str z, rfl, z, rfl, line_of (by omega), 1, _, rfl, rfl, _, rfl, ite2 (fun _ => ?_) (fun e => absurd (decide_eq_true (show (1 : Int) ≤ (z.length : Int) by omega)) e)⟩
    refine ⟨_, 8, rfl, rfl, _, rfl, ?_⟩
    show if (!decide ((z.length : Int) ≤ 8)) = true then _ else _
    rw [decide_eq_true (show (z.length : Int) ≤ 8 by omega)]
    refine iteF ?_
    refine ⟨.str z, rfl, z, rfl, fun D nD => ?_⟩
    refine lc_it walk_str (fun i H' => Same H H' ∧ H' D = some (.lst ((List.replicate i true).map V.bl))) ⟨same_upd nD, upd_same⟩ (fun _ _ _ _ => trivial) ?_ ?_
    · rintro i x H1 H2 hi ⟨s1, e1⟩ ⟨rfl, c, hc, rfl⟩
      have hc2 : z.cps.toList[i]? = some c := by rw [Array.getElem?_toList]; exact hc
      obtain ⟨c1, c2⟩ := hs c (List.mem_of_getElem? hc2)
      have il := (List.getElem?_eq_some_iff.mp hc2).1
      have l8 : z.cps.toList.length = z.length := by simp [Str.length]
      refine ⟨rfl, .str ⟨#[c]⟩, rfl, _, _, rfl, rfl, _, rfl, ite2 (fun _ => ?_) (fun e => absurd (sign_a c1) e)⟩
      refine ⟨_, _, rfl, rfl, _, e1, small1000 (by rw [List.length_map, List.length_replicate]; omega), same_mut s1 nD, ?_⟩
      rw [upd_same, sign_z c2, List.replicate_succ', List.map_append]
      rfl
    · rintro H1 ⟨s1, e1⟩
      refine ⟨D, _, rfl, .of e1, ?_⟩
      have ea : ∀ n, (List.replicate n true).all id = true := fun n => by induction n with
        | zero => rfl
        | succ n ih => rw [List.replicate_succ, List.all_cons, ih] <;> rfl
      rw [ea]
      exact q _ s1
def sp_are_names : Sp := fun vs H Q _ => ∃ (o : Addr) (zs : List Str), vs = [.ref o] ∧ H o = some (.tup (zs.map V.str)) ∧ OptsOk zs ∧ ∀ H', Same H H' → Q (.bl true) H'
theorem ok_are_names (T : Txt K mg) : FnOk P w K mg base CX0 2 T.f_are_names T.fd_are_names ["thing"] sp_are_names := by
  refine T.F_are_names.ok sc_are_names (fun vs H Q E h => ?_) (fun cdv A outer s H vs Q E hr h => ?_)
  · obtain ⟨o, zs, rfl, _⟩ := h
    rfl
  · obtain ⟨o, zs, rfl, ho, ok, q⟩ := h
    refine ⟨_, (pss_cons
 (ps_if (PW.pt (pw_or (pt_not (pt_val (pe_callB call_isi (by rfl) T.z_isinstance (by decide +kernel) (pa_cons (pv 0) (pa_cons (pe_bltn (v := .ty "tuple") (u := .type "tuple") rfl T.z_tuple (by decide +kernel) rfl) pa_nil))))) (pw_or1 (pt_cmpR op_eq (pe_callB call_len_seq (by rfl) T.z_len (by decide +kernel) (pa_cons (pv 0) pa_nil)) pe_int (nomark _)))))
 (pss_one
 (ps_ret pe_bl))
 pss_nil)
 (pss_one
 (ps_ret (pe_and (pe_callB (cr_all rfl) (by rfl) T.z_all (by decide +kernel) (pa_cons (pe_lc (own := [("name", 1)]) (g := gName 1) (tt := tYes) rfl sc_are_names.nd (pi_tup (pv 0)) (blkOk_by (own := [("name", 1)]) (N := ["thing", "name"]) (sc := (defScope s_are_names)) (by decide +kernel)) (fun _ _ _ _ _ => pg_name (i := 1) sc_are_names.nd rfl (Or.inl rfl)) (fun _ _ _ _ _ => pts_nil) (fun _ _ _ _ _ => (pe_call (ok_is_name T) (hr.mono (by decide)) (by rfl) T.g_is_name T.F_is_name.kp T.b_is_name .nil pass0 (pa_cons (pv 1) pa_nil)))) pa_nil)) (pe_one (pe_cmpR op_eq (pe_unlike rfl (by rfl) T.z_len (by rfl) T.z_set (pv 0)) (pe_callB call_len_seq (by rfl) T.z_len (by decide +kernel) (pa_cons (pv 0) pa_nil)) (nomark _))))))), ?_⟩
    obtain ⟨ty, hty, k1, _⟩ := (show DAt H (.tuple (zs.map PyData.str)) (.ref o) from ⟨o, _, rfl, .of ho, DAll.strs zs⟩).ty (K := K)
    have pos : 0 < zs.length := List.length_pos_iff.mpr ok.some
    refine ⟨.ref o, rfl, .ref o, _, ty, _, true, rfl, .ty _, hty, k1, true, rfl, iteF ?_⟩
    refine ⟨.ref o, rfl, o, _, rfl, .inr (.of ho), rfl, _, rfl, ite2 (fun e => ?_) (fun _ => ?_)⟩
    · have e := V.int.inj (of_decide_eq_true e)
      rw [List.length_map] at e
      omega
    · refine ⟨.ref o, rfl, o, rfl, ⟨_, .of ho⟩, fun D nD => ?_⟩
      refine lc_tup (K := K) (a := o) (xs := zs.map V.str) (fun i H' => Same H H' ∧ H' D = some (.lst ((List.replicate i true).map V.bl))) ⟨same_upd nD, upd_same⟩ (fun _ _ _ h => .of (h.1 _ _ ho)) ?_ ?_
      · rintro i x H1 hi ⟨s1, e1⟩
        obtain ⟨z, hz, rfl⟩ := item_map hi
        have il := (List.getElem?_eq_some_iff.mp hz).1
        have few := ok.few
        refine ⟨rfl, .str z, rfl, z, rfl, ok.names z (List.mem_of_getElem? hz), fun H2 s2 => ⟨_, s2 _ _ e1, small1000 (by rw [List.length_map, List.length_replicate]; omega), same_mut (s1.trans s2) nD, ?_⟩⟩
        rw [upd_same, List.replicate_succ', List.map_append]
        rfl
      · rintro H1 ⟨s1, e1⟩
        refine ⟨D, _, rfl, .of e1, ?_⟩
        have ea : ∀ n, (List.replicate n true).all id = true := fun n => by induction n with
          | zero => rfl
          | succ n ih => rw [List.replicate_succ, List.all_cons, ih] <;> rfl
        rw [ea]
        have few := ok.few
        refine ⟨_, rfl, iteT ⟨.ref o, rfl, o, zs, rfl, .inr (.of (s1 _ _ ho)), by omega, .ref o, rfl, o, _, rfl, .inr (.of (s1 _ _ ho)), rfl, ?_⟩⟩
        rw [met_all ok.nodup, List.length_map, decide_eq_true rfl]
        exact q _ s1
def sp_are_options : Sp := fun vs H Q _ => ∃ (o : Addr) (zs : List Str), vs = [.ref o] ∧ H o = some (.tup (zs.map V.str)) ∧ OptsOk zs ∧ ∀ H', Same H H' → Q (.bl true) H'
theorem ok_are_options (T : Txt K mg) : FnOk P w K mg base CX0 3 T.f_are_options T.fd_are_options ["thing"] sp_are_options := by
  refine T.F_are_options.ok sc_are_options (fun vs H Q E h => ?_) (fun cdv A outer s H vs Q E hr h => ?_)
  · obtain ⟨o, zs, rfl, _⟩ := h
    rfl
  · obtain ⟨o, zs, rfl, ho, ok, q⟩ := h
    refine ⟨_, (pss_one
 (ps_ret (pe_and (pe_call (ok_are_names T) (hr.mono (by decide)) (by rfl) T.g_are_names T.F_are_names.kp T.b_are_names .nil pass0 (pa_cons (pv 0) pa_nil)) (pe_one (pe_cmpR op_le (pe_callB call_len_seq (by rfl) T.z_len (by decide +kernel) (pa_cons (pv 0) pa_nil)) (pe_glob (v := .int 6) rfl T.c_MOST_OPTIONS ⟨_, rfl⟩) (nomark _)))))), ?_⟩
    refine ⟨.ref o, rfl, o, zs, rfl, ho, ok, fun H1 s1 => ⟨_, rfl, iteT ⟨.ref o, rfl, o, _, rfl, .inr (.of (s1 _ _ ho)), _, _, rfl, rfl, ?_⟩⟩⟩
    have few := ok.few
    have e : decide (((zs.map V.str).length : Int) ≤ 6) = true := decide_eq_true (by rw [List.length_map]; omega)
    show Q (.bl (decide (((zs.map V.str).length : Int) ≤ 6))) H1
    rw [e]
    exact q _ s1
def sp_is_row : Sp := fun vs H Q _ => ∃ (o r t : Addr) (zs : List Str) (b : Bal) (m : Int), vs = [.ref o, .ref r] ∧ H o = some (.tup (zs.map V.str)) ∧ H r = some (.tup [.ref t, .int m]) ∧ BalAt H t b ∧ b.Ok zs ∧ zs.length ≤ 6 ∧ 1 ≤ m ∧ m ≤ 1000000 ∧ ∀ H', Same H H' → Q (.bl true) H'
theorem ok_is_row (T : Txt K mg) : FnOk P w K mg base CX0 5 T.f_is_row T.fd_is_row ["options", "thing"] sp_is_row := by
  refine T.F_is_row.ok sc_is_row (fun vs H Q E h => ?_) (fun cdv A outer s H vs Q E hr h => ?_)
  · obtain ⟨o, r, t, zs, b, m, rfl, _⟩ := h
    rfl
  · obtain ⟨o, r, t, zs, b, m, rfl, ho, hrow, hb, bok, n6, m1, m2, q⟩ := h
    refine ⟨_, (pss_cons
 (ps_if (PW.pt (pw_or (pt_not (pt_val (pe_call (ok_is_tuple_of T) (hr.mono (by decide)) (by rfl) T.g_is_tuple_of T.F_is_tuple_of.kp T.b_is_tuple_of .nil pass0 (pa_cons (pv 1) (pa_cons pe_int pa_nil))))) (pw_or1 (pt_not (pt_val (pe_call (ok_is_ballot T) (hr.mono (by decide)) (by rfl) T.g_is_ballot T.F_is_ballot.kp T.b_is_ballot .nil pass0 (pa_cons (pv 0) (pa_cons (pe_ix ix_tup (pv 1) pe_int (fun _ _ => rfl)) pa_nil))))))))
 (pss_one
 (ps_ret pe_bl))
 pss_nil)
 (pss_one
 (ps_ret (pe_and (pe_call (ok_is_whole T) (hr.mono (by decide)) (by rfl) T.g_is_whole T.F_is_whole.kp T.b_is_whole .nil pass0 (pa_cons (pe_ix ix_tup (pv 1) pe_int (fun _ _ => rfl)) pa_nil)) (pe_one (pe_chain op_le op_le pe_int (pe_ix ix_tup (pv 1) pe_int (fun _ _ => rfl)) (pe_glob (v := .int 1000000) rfl T.c_MOST_VOICES ⟨_, rfl⟩))))))), ?_⟩
    have dr : DAt H (.tuple [b.data, .int m]) (.ref r) := ⟨r, _, rfl, .of hrow, da1 hb.data (da1 rfl da0)⟩
    refine ⟨.ref r, rfl, .ref r, 2, _, rfl, dr, true, rfl, iteF ?_⟩
    refine ⟨.ref o, rfl, .ref r, rfl, r, _, 0, .ref t, rfl, rfl, .of hrow, atI_nat (j := 0) rfl, o, zs, .ref t, b.data, rfl, ho, hb.data, bok.fit n6, fun H1 s1 => ?_⟩
    rw [bok.good]
    refine ⟨true, rfl, iteF ?_⟩
    refine ⟨.ref r, rfl, r, _, 1, .int m, rfl, rfl, .of (s1 _ _ hrow), atI_nat (j := 1) rfl, .int m, .int m, rfl, rfl, true, rfl, iteT ?_⟩
    refine ⟨.ref r, rfl, r, _, 1, .int m, rfl, rfl, .of (s1 _ _ hrow), atI_nat (j := 1) rfl, _, _, rfl, rfl, _, rfl, ite2 (fun _ => ?_) (fun e => absurd (decide_eq_true m1) e)⟩
    refine ⟨_, _, rfl, rfl, ?_⟩
    show Q (.bl (decide (m ≤ 1000000))) H1
    rw [decide_eq_true m2]
    exact q _ s1
def sp_check_poll : Sp := fun vs H Q _ => ∃ (o u : Addr) (zs : List Str) (rows : List (Bal × Int)), vs = [.ref o, .ref u] ∧ H o = some (.tup (zs.map V.str)) ∧ RowsAt H u rows ∧ OptsOk zs ∧ RowsOk zs 30 rows ∧ ∀ H', Same H H' → Q .non H'
theorem ok_check_poll (T : Txt K mg) : FnOk P w K mg base (L2.CX P w) 6 T.f_check_poll T.fd_check_poll ["options", "voices"] sp_check_poll := by
  refine T.F_check_poll.okX sc_check_poll (fun vs H Q E h => ?_) (fun cdv A outer s H vs Q E hr h => ?_)
  · obtain ⟨o, u, zs, rows, rfl, _⟩ := h
    rfl
  · obtain ⟨o, u, zs, rows, rfl, ho, ⟨as, hu, ha, hm⟩, ok, rok, q⟩ := h
    refine ⟨_, (pss_cons
 (ps_if (pt_not (pt_val (pe_call (ok_are_options T) (hr.mono (by decide)) (by rfl) T.g_are_options T.F_are_options.kp T.b_are_options .nil pass0 (pa_cons (pv 0) pa_nil))))
 (pss_one
 (ps_raise rfl (takes_of rfl rfl rfl rfl) (px_pos T.ex_BadPoll (ok_PollError_init T) (hr.mono (by decide)) (by rfl) T.k_BadPoll T.kb_PollError_init_2 (fun σ => at0 σ) (pa_cons pe_str pa_nil))))
 pss_nil)
 (pss_cons
 (ps_if (PW.pt (pw_or (pt_not (pt_val (pe_callB call_isi (by rfl) T.z_isinstance (by decide +kernel) (pa_cons (pv 1) (pa_cons (pe_bltn (v := .ty "tuple") (u := .type "tuple") rfl T.z_tuple (by decide +kernel) rfl) pa_nil))))) (pw_or1 (pt_cmpR op_gt (pe_callB call_len_seq (by rfl) T.z_len (by decide +kernel) (pa_cons (pv 1) pa_nil)) (pe_glob (v := .int 30) rfl T.c_MOST_ROWS ⟨_, rfl⟩) (nomark _)))))
 (pss_one
 (ps_raise rfl (takes_of rfl rfl rfl rfl) (px_pos T.ex_BadPoll (ok_PollError_init T) (hr.mono (by decide)) (by rfl) T.k_BadPoll T.kb_PollError_init_2 (fun σ => at0 σ) (pa_cons pe_str pa_nil))))
 pss_nil)
 (pss_one
 (ps_if (pt_not (pt_val (pe_callB (cr_all rfl) (by rfl) T.z_all (by decide +kernel) (pa_cons (pe_lc (own := [("row", 2)]) (g := gName 2) (tt := tYes) rfl sc_check_poll.nd (pi_tup (pv 1)) (blkOk_by (own := [("row", 2)]) (N := ["options", "voices", "row"]) (sc := (defScope s_check_poll)) (by decide +kernel)) (fun _ _ _ _ _ => pg_name (i := 2) sc_check_poll.nd rfl (Or.inl rfl)) (fun _ _ _ _ _ => pts_nil) (fun _ _ _ _ _ => (pe_call (ok_is_row T) (hr.mono (by decide)) (by rfl) T.g_is_row T.F_is_row.kp T.b_is_row .nil pass0 (pa_cons (pv 0) (pa_cons (pv 2) pa_nil))))) pa_nil))))
 (pss_one
 (ps_raise rfl (takes_of rfl rfl rfl rfl) (px_pos T.ex_BadPoll (ok_PollError_init T) (hr.mono (by decide)) (by rfl) T.k_BadPoll T.kb_PollError_init_2 (fun σ => at0 σ) (pa_cons pe_str pa_nil))))
 pss_nil)))), ?_⟩
    have la : as.length = rows.length := by rw [← hm, List.length_map]
    have l30 := rok.1
    refine ⟨.ref o, rfl, o, zs, rfl, ho, ok, fun H1 s1 => ⟨true, rfl, iteF ?_⟩⟩
    have hu1 := s1 _ _ hu
    refine ⟨.ref u, rfl, .ref u, _, _, _, true, rfl, .ty _, .base (.tup hu1), kit_ty (show kitB "tuple" "tuple" = some true by decide +kernel), true, rfl, iteF ?_⟩
    refine ⟨.ref u, rfl, u, _, rfl, .inr (.of hu1), _, _, rfl, rfl, _, rfl, ite2 (fun e => ?_) (fun _ => ?_)⟩
    · have e := of_decide_eq_true e
      rw [List.length_map] at e
      omega
    · refine ⟨.ref u, rfl, u, rfl, ⟨_, .of hu1⟩, fun D nD => ?_⟩
      have nDH := s1.free nD
      refine lc_tup (K := K) (a := u) (xs := as.map fun a => V.ref a.1) (fun i H' => Same H H' ∧ H' D = some (.lst ((List.replicate i true).map V.bl))) ⟨s1.trans (same_upd nD), upd_same⟩ (fun _ _ _ h => .of (h.1 _ _ hu)) ?_ ?_
      · rintro i x H2 hi ⟨s2, e2⟩
        obtain ⟨a, hai, rfl⟩ := item_map hi
        have il := (List.getElem?_eq_some_iff.mp hai).1
        obtain ⟨h1, h2⟩ := ha a (List.mem_of_getElem? hai)
        obtain ⟨bok, m1, m2⟩ := rok.2 a.2.2 (by rw [← hm]; exact List.mem_map.mpr ⟨a, List.mem_of_getElem? hai, rfl⟩)
        refine ⟨rfl, .ref o, rfl, .ref a.1, rfl, o, a.1, a.2.1, zs, a.2.2.1, a.2.2.2, rfl, s2 _ _ ho, s2 _ _ h1, h2.same s2, bok, ok.few, m1, m2, fun H3 s3 => ⟨_, s3 _ _ e2, small1000 (by rw [List.length_map, List.length_replicate]; omega), same_mut (s2.trans s3) nDH, ?_⟩⟩
        rw [upd_same, List.replicate_succ', List.map_append]
        rfl
      · rintro H2 ⟨s2, e2⟩
        refine ⟨D, _, rfl, .of e2, ?_⟩
        have ea : ∀ n, (List.replicate n true).all id = true := fun n => by induction n with
          | zero => rfl
          | succ n ih => rw [List.replicate_succ, List.all_cons, ih] <;> rfl
        rw [ea]
        exact ⟨_, rfl, iteF (q _ s2)⟩
def sp_Poll_init (C : Addr) : Sp := fun vs H Q _ => ∃ (p dx o u : Addr) (zs : List Str) (rows : List (Bal × Int)), vs = [.ref p, .ref o, .ref u] ∧ H p = some (.ins C dx []) ∧ H o = some (.tup (zs.map V.str)) ∧ RowsAt H u rows ∧ OptsOk zs ∧ RowsOk zs 30 rows ∧
  ∀ H', But p H H' → H' p = some (.ins C dx (pollF o u)) → Q .non H'
theorem ok_Poll_init (T : Txt K mg) : FnOk P w K mg base (L2.CX P w) 7 T.f_Poll_init T.fd_Poll_init ["self", "options", "voices"] (sp_Poll_init T.C_Poll) := by
  refine T.F_Poll_init.ok (CX := L2.CX P w) sc_Poll_init (fun vs H Q E h => ?_) (fun cdv A outer s H vs Q E hr h => ?_)
  · obtain ⟨p, dx, o, u, zs, rows, rfl, _⟩ := h
    rfl
  · obtain ⟨p, dx, o, u, zs, rows, rfl, hp, ho, hu, ok, rok, q⟩ := h
    refine ⟨_, (pss_cons
 (ps_expr (pf_pos (ok_check_poll T) (hr.mono (by decide)) (by rfl) T.g_check_poll T.F_check_poll.kp T.kb_check_poll_2 (fun σ => atN σ) (pa_cons (pv 1) (pa_cons (pv 2) pa_nil))))
 (pss_cons
 (ps_fld (pv 0) (pv 1) rfl)
 (pss_one
 (ps_fld (pv 0) (pv 2) rfl)))), ?_⟩
    refine ⟨.ref o, rfl, .ref u, rfl, rfl, rfl, o, u, zs, rows, rfl, ho, hu, ok, rok, fun H1 s1 => ?_⟩
    refine ⟨.ref o, rfl, .ref p, rfl, p, T.C_Poll, dx, [], rfl, s1 _ _ hp, T.cl_Poll, T.n_Poll_options, by decide, ?_⟩
    refine ⟨.ref u, rfl, .ref p, rfl, p, T.C_Poll, dx, _, rfl, upd_same, T.cl_Poll, T.n_Poll_voices, (by show 1 < 1000; decide), ?_⟩
    refine q _ (fun y x hy hx => ?_) upd_same
    rw [upd_ne hy, upd_ne hy]
    exact s1 _ _ hx
end
theorem val_none {κ : Type} [DecidableEq κ] {kvs : List (κ × V)} {k : κ} (h : ∀ e ∈ kvs, e.1 ≠ k) : valV kvs k = none := by
  unfold valV
  rw [List.find?_eq_none.mpr fun e he => by simpa using h e he] <;> rfl
/-- a good poll at p -/
structure PollOk (C : Addr) (H : Hp) (p o u : Addr) (zs : List Str) (rows : List (Bal × Int)) : Prop where
  poll : PollAt C H p o u
  opts : H o = some (.tup (zs.map V.str))
  votes : RowsAt H u rows
  ok : OptsOk zs
  rok : RowsOk zs 30 rows
theorem PollOk.same {C : Addr} {H H' : Hp} {p o u : Addr} {zs : List Str} {rows : List (Bal × Int)} (s : Same H H') (h : PollOk C H p o u zs rows) : PollOk C H' p o u zs rows := ⟨h.poll.same s, s _ _ h.opts, h.votes.same s, h.ok, h.rok⟩
/-! ### the rows of ranks (for laws that ask no margins) -/
def RkAt (H : Hp) (l : Addr) (zs : List Str) (qs : List (Addr × Addr × (Bal × Int))) : Prop := H l = some (.lst (qs.map fun q => V.ref q.1)) ∧ ∀ q ∈ qs, H q.1 = some (.tup [.ref q.2.1, .int q.2.2.2]) ∧ H q.2.1 = some (.dK (tab zs q.2.2.1.rk))
theorem RkAt.same {H H' : Hp} {l : Addr} {zs : List Str} {qs : List (Addr × Addr × (Bal × Int))} (s : Same H H') (h : RkAt H l zs qs) : RkAt H' l zs qs := ⟨s _ _ h.1, fun q hq => ⟨s _ _ (h.2 q hq).1, s _ _ (h.2 q hq).2⟩⟩
section
variable {P : Program} {w : World} {K : PySem.W.Frag} {mg : Str → Option Value} {base : Heap}
def sp_ranked (C : Addr) : Sp := fun vs H Q _ => ∃ (p o u : Addr) (zs : List Str) (rows : List (Bal × Int)), vs = [.ref p] ∧ PollOk C H p o u zs rows ∧
  ∀ (l : Addr) (qs : List (Addr × Addr × (Bal × Int))) (H' : Hp), Same H H' → RkAt H' l zs qs → qs.map (·.2.2) = rows → Q (.ref l) H'
theorem ok_ranked (T : Txt K mg) : FnOk P w K mg base CX0 3 T.f_ranked T.fd_ranked ["poll"] (sp_ranked T.C_Poll) := by
  refine T.F_ranked.ok sc_ranked (fun vs H Q E h => ?_) (fun cdv A outer s H vs Q E hr h => ?_)
  · obtain ⟨p, o, u, zs, rows, rfl, _⟩ := h
    rfl
  · obtain ⟨p, o, u, zs, rows, rfl, pk, q⟩ := h
    refine ⟨_, (pss_one
 (ps_ret (pe_lc (own := [("ballot", 1), ("many", 2)]) (tt := tYes) rfl sc_ranked.nd (pi_tup (pe_fld (pv 0) rfl)) (blkOk_by (own := [("ballot", 1), ("many", 2)]) (N := ["poll", "ballot", "many"]) (sc := (defScope s_ranked)) (by decide +kernel)) (fun s0 H0 C0 cl0 fp0 => (by have h := (pg_tup (n := 2) rfl (pgs_cons (pg_name (i := 1) sc_ranked.nd rfl (Or.inl rfl)) (pgs_cons (pg_name (i := 2) sc_ranked.nd rfl (Or.inl rfl)) pgs_nil)) : PG ((cxOf CX0 P w K mg base ["poll", "ballot", "many"] "ranked" (defScope s_ranked) T.f_ranked cdv A outer s H E).nox.blk s0 H0 (lcScope (rootE ((defBody s_ranked).getD 0 (.Pass ⟨0, 0, 0, 0⟩)))) (compEnvC (lcScope (rootE ((defBody s_ranked).getD 0 (.Pass ⟨0, 0, 0, 0⟩)))) cl0 C0 (cxOf CX0 P w K mg base ["poll", "ballot", "many"] "ranked" (defScope s_ranked) T.f_ranked cdv A outer s H E).nox.env) fp0) (subE (rootE ((defBody s_ranked).getD 0 (.Pass ⟨0, 0, 0, 0⟩))) 2) _); dsimp only [Cx.blk, Cx.tr, Cx.suite, Cx.nox, Cx.wish, cxOf] at h; exact h)) (fun _ _ _ _ _ => pts_nil) (fun s0 H0 C0 cl0 fp0 => (by have h := ((pe_tup (pa_cons (pe_call (ok_ranks T) (hr.mono (by decide)) (by rfl) T.g_ranks T.F_ranks.kp T.b_ranks .nil pass0 (pa_cons (pe_fld (pv 0) rfl) (pa_cons (pv 1) pa_nil))) (pa_cons (pv 2) pa_nil))) : PE ((cxOf CX0 P w K mg base ["poll", "ballot", "many"] "ranked" (defScope s_ranked) T.f_ranked cdv A outer s H E).nox.blk s0 H0 (lcScope (rootE ((defBody s_ranked).getD 0 (.Pass ⟨0, 0, 0, 0⟩)))) (compEnvC (lcScope (rootE ((defBody s_ranked).getD 0 (.Pass ⟨0, 0, 0, 0⟩)))) cl0 C0 (cxOf CX0 P w K mg base ["poll", "ballot", "many"] "ranked" (defScope s_ranked) T.f_ranked cdv A outer s H E).nox.env) fp0) (subE (rootE ((defBody s_ranked).getD 0 (.Pass ⟨0, 0, 0, 0⟩))) 0) _); dsimp only [Cx.blk, Cx.tr, Cx.suite, Cx.nox, Cx.wish, cxOf] at h; exact h))))), ?_⟩
    obtain ⟨⟨dx, hp⟩, ho, ⟨as, hu, ha, hm⟩, ok, rok⟩ := pk
    have la : as.length = rows.length := by rw [← hm, List.length_map]
    have l30 := rok.1
    refine ⟨.ref p, rfl, p, T.C_Poll, dx, _, .ref u, rfl, hp, T.cl_Poll, T.n_Poll_voices, pollF_voices o u, u, rfl, ⟨_, .of hu⟩, fun D nD => ?_⟩
    refine lc_tup (K := K) (a := u) (xs := as.map fun a => V.ref a.1) (fun i H' => ∃ qs : List (Addr × Addr × (Bal × Int)), Same H H' ∧ RkAt H' D zs qs ∧ qs.map (·.2.2) = rows.take i) ⟨[], same_upd nD, ⟨upd_same, fun _ h => (by cases h)⟩, rfl⟩ (fun _ _ _ ⟨_, h, _⟩ => .of (h _ _ hu)) ?_ ?_
    · rintro i x H1 hi ⟨qs, s1, rk, m1⟩
      obtain ⟨a, hai, rfl⟩ := item_map hi
      have il := (List.getElem?_eq_some_iff.mp hai).1
      obtain ⟨h1, h2⟩ := ha a (List.mem_of_getElem? hai)
      have mem : a.2.2 ∈ rows := by rw [← hm]; exact List.mem_map.mpr ⟨a, List.mem_of_getElem? hai, rfl⟩
      have ri : rows[i]? = some a.2.2 := by rw [← hm, List.getElem?_map, hai]; rfl
      obtain ⟨bok, _, _⟩ := rok.2 a.2.2 mem
      have lq : qs.length = i := by
        have := congrArg List.length m1
        rw [List.length_map, List.length_take] at this
        omega
      refine ⟨a.1, _, rfl, .of (s1 _ _ h1), rfl, _, _, rfl, _, _, rfl, rfl, rfl, ?_⟩
      refine ⟨.ref p, rfl, p, T.C_Poll, dx, _, .ref o, rfl, s1 _ _ hp, T.cl_Poll, T.n_Poll_options, pollF_options o u, .ref a.2.1, rfl, o, a.2.1, zs, a.2.2.1, rfl, s1 _ _ ho, h2.same s1, bok, ok.nodup, ok.few, fun Dr H2 s2 nDr eDr => ?_⟩
      refine ⟨.int a.2.2.2, rfl, line_of (show 2 ≤ 1000 by decide), fun t nt => ?_⟩
      have s3 := same_upd (o := HO.tup [V.ref Dr, V.int a.2.2.2]) nt
      have et : (upd H2 t (.tup [V.ref Dr, V.int a.2.2.2])) t = some (.tup [V.ref Dr, V.int a.2.2.2]) := upd_same
      have rk3 := (rk.same s2).same s3
      have eD := s3 _ _ eDr
      generalize upd H2 t (.tup [V.ref Dr, V.int a.2.2.2]) = H3 at s3 et rk3 eD
      refine ⟨_, rk3.1, small1000 (by rw [List.length_map]; omega), qs ++ [(t, Dr, a.2.2)], same_mut (s1.trans (s2.trans s3)) nD, ⟨by rw [upd_same, List.map_append]; rfl, fun q' hq => ?_⟩, by rw [List.map_append, m1, take_more ri]; rfl⟩
      have both : H3 q'.1 = some (.tup [.ref q'.2.1, .int q'.2.2.2]) ∧ H3 q'.2.1 = some (.dK (tab zs q'.2.2.1.rk)) := by
        rcases List.mem_append.mp hq with hq | hq
        · exact rk3.2 q' hq
        · rw [List.mem_singleton.mp hq]
          exact ⟨et, eD⟩
      rw [upd_ne (fun e => by rw [e, rk3.1] at both; cases both.1), upd_ne (fun e => by rw [e, rk3.1] at both; cases both.2)]
      exact both
    · rintro H1 ⟨qs, s1, rk, m1⟩
      rw [List.length_map, la, List.take_length] at m1
      exact q D qs H1 s1 rk m1
end
/-! ### who alone stands foremost -/
def aloneB (zs : List Str) (g : Str → Int) (z : Str) : Bool := decide (z ∈ zs) && zs.all fun y => decide (y = z) || decide (g z < g y)
theorem alone_one {zs : List Str} {g : Str → Int} {k : Int} {z : Str} (hk : ∀ y ∈ zs, k ≤ g y) (h : zs.filter (fun y => decide (g y = k)) = [z]) {y : Str} (hy : y ∈ zs) : aloneB zs g y = decide (y = z) := by
  have mz : z ∈ zs.filter fun y => decide (g y = k) := by rw [h]; exact List.mem_singleton.mpr rfl
  obtain ⟨mz, gz⟩ := List.mem_filter.mp mz
  have gz : g z = k := of_decide_eq_true gz
  unfold aloneB
  rw [decide_eq_true hy, Bool.true_and]
  by_cases e : y = z
  · rw [decide_eq_true e, List.all_eq_true]
    intro t ht
    by_cases et : t = y
    · rw [decide_eq_true et] <;> rfl
    · have nt : g t ≠ k := fun h0 => et (by
        have : t ∈ zs.filter fun y => decide (g y = k) := List.mem_filter.mpr ⟨ht, decide_eq_true h0⟩
        rw [h] at this
        rw [List.mem_singleton.mp this, e])
      have := hk t ht
      rw [decide_eq_true (show g y < g t by rw [e, gz]; omega), Bool.or_true]
  · rw [decide_eq_false e, List.all_eq_false]
    refine ⟨z, mz, ?_⟩
    have := hk y hy
    rw [decide_eq_false (fun h0 => e h0.symm), decide_eq_false (show ¬ g y < g z by omega)]
    exact Bool.false_ne_true
theorem alone_none {zs : List Str} {g : Str → Int} {k : Int} (nd : zs.Nodup) (hk : ∀ y ∈ zs, k ≤ g y) (he : ∃ z ∈ zs, g z = k) (h : (zs.filter fun y => decide (g y = k)).length ≠ 1) {y : Str} (hy : y ∈ zs) : aloneB zs g y = false := by
  cases e : aloneB zs g y with
  | false => rfl
  | true =>
    exfalso
    unfold aloneB at e
    rw [decide_eq_true hy, Bool.true_and, List.all_eq_true] at e
    have least : ∀ t ∈ zs, t ≠ y → g y < g t := fun t ht n => by
      have := e t ht
      rw [decide_eq_false n, Bool.false_or] at this
      exact of_decide_eq_true this
    obtain ⟨z, mz, gz⟩ := he
    have gy : g y = k := by
      by_cases c : z = y
      · rw [← c]
        exact gz
      · have := least z mz c
        have := hk y hy
        omega
    have my : y ∈ zs.filter fun y => decide (g y = k) := List.mem_filter.mpr ⟨hy, decide_eq_true gy⟩
    have all : ∀ t ∈ zs.filter (fun y => decide (g y = k)), t = y := fun t ht => by
      obtain ⟨m, gt⟩ := List.mem_filter.mp ht
      have gt : g t = k := of_decide_eq_true gt
      by_cases c : t = y
      · exact c
      · have := least t m c
        omega
    have nf : (zs.filter fun y => decide (g y = k)).Nodup := nd.sublist List.filter_sublist
    match hf : zs.filter (fun y => decide (g y = k)), my, all, nf, h with
    | [], m, _, _, _ => cases m
    | [_], _, _, _, n => exact n rfl
    | a :: b :: l, _, al, nf, _ =>
      have h1 := al a List.mem_cons_self
      have h2 := al b (List.mem_cons_of_mem _ List.mem_cons_self)
      exact (List.nodup_cons.mp nf).1 (by rw [h1, ← h2]; exact List.mem_cons_self)
/-- how many voices have an option foremost alone among some -/
def tallySum (ls : List Str) (rows : List (Bal × Int)) (z : Str) : Int := (rows.map fun r => if aloneB ls r.1.rk z = true then r.2 else 0).sum
theorem tally_more {ls : List Str} {rows : List (Bal × Int)} {i : Nat} {r : Bal × Int} (h : rows[i]? = some r) (z : Str) : tallySum ls (rows.take (i + 1)) z = tallySum ls (rows.take i) z + if aloneB ls r.1.rk z = true then r.2 else 0 := by
  unfold tallySum
  rw [take_more h, List.map_append, List.sum_append]
  simp
/-! ### what is a list -/
def dLs : PyData → Bool
  | .list _ => true
  | _ => false
theorem DAt.tyL {K : PySem.W.Frag} {H : Hp} : ∀ {d : PyData} {v : V}, DAt H d v → ∃ t, TyX K H v t ∧ PySem.W.kitOne K t (.type "list") = some (dLs d)
  | .none, _, h => by
    rw [show _ = V.non from h]
    exact ⟨_, .base .non, kit_ty (show kitB "NoneType" "list" = some false by decide +kernel)⟩
  | .bool b, _, h => by
    rw [show _ = V.bl b from h]
    exact ⟨_, .base (.bl b), kit_ty (show kitB "bool" "list" = some false by decide +kernel)⟩
  | .int i, _, h => by
    rw [show _ = V.int i from h]
    exact ⟨_, .base (.int i), kit_ty (show kitB "int" "list" = some false by decide +kernel)⟩
  | .str z, _, h => by
    rw [show _ = V.str z from h]
    exact ⟨_, .base (.str z), kit_ty (show kitB "str" "list" = some false by decide +kernel)⟩
  | .list ds, _, ⟨p, xs, e, h, g⟩ => by
    rw [e]
    exact ⟨_, .base (.lst h), kit_ty (show kitB "list" "list" = some true by decide +kernel)⟩
  | .tuple ds, _, ⟨p, xs, e, h, g⟩ => by
    rw [e]
    exact ⟨_, rd_ty h, kit_ty (show kitB "tuple" "list" = some false by decide +kernel)⟩
  | .dict _, _, h => h.elim
section
variable {P : Program} {w : World} {K : PySem.W.Frag} {mg : Str → Option Value} {base : Heap}
/-! ### tiers -/
theorem Tiers.same {H H' : Hp} {bs : List (Addr × List Str)} (s : Same H H') (h : Tiers H bs) : Tiers H' bs := fun b hb => ⟨s _ _ (h b hb).1, (h b hb).2⟩
theorem Tiers.add {H : Hp} {bs : List (Addr × List Str)} {b : Addr × List Str} (h : Tiers H bs) (e : H b.1 = some (.tup (b.2.map V.str))) (n : b.2 ≠ []) : Tiers H (bs ++ [b]) := fun c hc => by
  rcases List.mem_append.mp hc with hc | hc
  · exact h c hc
  · rw [List.mem_singleton.mp hc]
    exact ⟨e, n⟩
theorem cut_take {zs : List Str} {f : Str → Int} {ls : List Int} {i : Nat} {k : Int} (h : ls[i]? = some k) : cutBy zs f (ls.take (i + 1)) = cutBy zs f (ls.take i) ++ [zs.filter fun z => decide (f z = k)] := by
  rw [take_more h]
  unfold cutBy
  rw [List.map_append]
  rfl
theorem filter_take {zs : List Str} {f : Str → Bool} {j : Nat} {z : Str} (h : zs[j]? = some z) : (zs.take (j + 1)).filter f = (zs.take j).filter f ++ if f z = true then [z] else [] := by
  rw [take_more h, List.filter_append]
  refine congrArg _ ?_
  cases e : f z with
  | true => rw [if_pos rfl, List.filter_cons_of_pos e] <;> rfl
  | false => rw [if_neg Bool.false_ne_true, List.filter_cons_of_neg (by rw [e]; exact Bool.false_ne_true)] <;> rfl
def sp_tiers : Sp := fun vs H Q _ => ∃ (o t : Addr) (zs : List Str) (b : Bal), vs = [.ref o, .ref t] ∧ H o = some (.tup (zs.map V.str)) ∧ BalAt H t b ∧ b.Ok zs ∧ zs.Nodup ∧ zs.length ≤ 6 ∧
  ∀ (u : Addr) (bs : List (Addr × List Str)) (ls : List Int) (H' : Hp), Lev zs b.rk ls → Same H H' → H' u = some (.tup (bs.map fun b => V.ref b.1)) → Tiers H' bs → bs.map (·.2) = cutBy zs b.rk ls → Q (.ref u) H'
theorem ok_tiers (T : Txt K mg) : FnOk P w K mg base CX0 3 T.f_tiers T.fd_tiers ["options", "ballot"] sp_tiers := by
  refine T.F_tiers.ok sc_tiers (fun vs H Q E h => ?_) (fun cdv A outer s H vs Q E hr h => ?_)
  · obtain ⟨o, t, zs, b, rfl, _⟩ := h
    rfl
  · obtain ⟨o, t, zs, b, rfl, ho, hb, bok, nd, lz, q⟩ := h
    refine ⟨_, (pss_cons
 (ps_set (i := 2) sc_tiers.nd rfl (Or.inr rfl) (pe_call (ok_ranks T) (hr.mono (by decide)) (by rfl) T.g_ranks T.F_ranks.kp T.b_ranks .nil pass0 (pa_cons (pv 0) (pa_cons (pv 1) pa_nil))))
 (pss_cons
 (ps_set (i := 3) sc_tiers.nd rfl (Or.inl rfl) (pe_callB (cr_sortedSet rfl) (by rfl) T.z_sorted (by decide +kernel) (pa_cons (pe_callTy (cr_setL (w := w) rfl rfl) (by rfl) T.z_set (by decide +kernel) (pa_cons (pe_listVals rfl (pv 2) (by rfl) T.z_list (by decide +kernel)) pa_nil)) pa_nil)))
 (pss_one
 (ps_ret (pe_callTy call_tuple_of (by rfl) T.z_tuple (by decide +kernel) (pa_cons (pe_lc (own := [("level", 4)]) (g := gName 4) (tt := tYes) rfl sc_tiers.nd (pi_list (pv 3)) (blkOk_by (own := [("level", 4)]) (N := ["options", "ballot", "rank", "levels", "level", "name"]) (sc := (defScope s_tiers)) (by decide +kernel)) (fun _ _ _ _ _ => pg_name (i := 4) sc_tiers.nd rfl (Or.inr rfl)) (fun _ _ _ _ _ => pts_nil) (fun s0 H0 C0 cl0 fp0 => (by have h := ((pe_callTy call_tuple_of (by rfl) T.z_tuple (by decide +kernel) (pa_cons (pe_lc (own := [("name", 5)]) (g := gName 5) rfl sc_tiers.nd (pi_tup (pv 0)) (blkOk_re (blkOk_by (own := [("name", 5)]) (N := ["options", "ballot", "rank", "levels", "level", "name"]) (sc := (lcScope (subE (rootE ((defBody s_tiers).getD 2 (.Pass ⟨0, 0, 0, 0⟩))) 1))) (by decide +kernel))) (fun _ _ _ _ _ => pg_name (i := 5) sc_tiers.nd rfl (Or.inl rfl)) (fun s1 H1 C1 cl1 fp1 => (by have h := ((pts_one (pt_cmpR op_eq (pe_dget (hu_of hr) (pv 2) (pv 5) (fun _ _ => rfl)) (pv 4) (nomark _))) : PTs (((cxOf CX0 P w K mg base ["options", "ballot", "rank", "levels", "level", "name"] "tiers" (defScope s_tiers) T.f_tiers cdv A outer s H E).nox.blk s0 H0 (lcScope (subE (rootE ((defBody s_tiers).getD 2 (.Pass ⟨0, 0, 0, 0⟩))) 1)) (compEnvC (lcScope (subE (rootE ((defBody s_tiers).getD 2 (.Pass ⟨0, 0, 0, 0⟩))) 1)) cl0 C0 (cxOf CX0 P w K mg base ["options", "ballot", "rank", "levels", "level", "name"] "tiers" (defScope s_tiers) T.f_tiers cdv A outer s H E).nox.env) fp0).blk s1 H1 (lcScope (subE (subE (subE (rootE ((defBody s_tiers).getD 2 (.Pass ⟨0, 0, 0, 0⟩))) 1) 0) 1)) (compEnvC (lcScope (subE (subE (subE (rootE ((defBody s_tiers).getD 2 (.Pass ⟨0, 0, 0, 0⟩))) 1) 0) 1)) cl1 C1 ((cxOf CX0 P w K mg base ["options", "ballot", "rank", "levels", "level", "name"] "tiers" (defScope s_tiers) T.f_tiers cdv A outer s H E).nox.blk s0 H0 (lcScope (subE (rootE ((defBody s_tiers).getD 2 (.Pass ⟨0, 0, 0, 0⟩))) 1)) (compEnvC (lcScope (subE (rootE ((defBody s_tiers).getD 2 (.Pass ⟨0, 0, 0, 0⟩))) 1)) cl0 C0 (cxOf CX0 P w K mg base ["options", "ballot", "rank", "levels", "level", "name"] "tiers" (defScope s_tiers) T.f_tiers cdv A outer s H E).nox.env) fp0).env) fp1) (lcIfs (subE (subE (subE (rootE ((defBody s_tiers).getD 2 (.Pass ⟨0, 0, 0, 0⟩))) 1) 0) 1)) _); dsimp only [Cx.blk, Cx.tr, Cx.suite, Cx.nox, Cx.wish, cxOf] at h; exact h)) (fun _ _ _ _ _ => (pv 5))) pa_nil)) : PE ((cxOf CX0 P w K mg base ["options", "ballot", "rank", "levels", "level", "name"] "tiers" (defScope s_tiers) T.f_tiers cdv A outer s H E).nox.blk s0 H0 (lcScope (subE (rootE ((defBody s_tiers).getD 2 (.Pass ⟨0, 0, 0, 0⟩))) 1)) (compEnvC (lcScope (subE (rootE ((defBody s_tiers).getD 2 (.Pass ⟨0, 0, 0, 0⟩))) 1)) cl0 C0 (cxOf CX0 P w K mg base ["options", "ballot", "rank", "levels", "level", "name"] "tiers" (defScope s_tiers) T.f_tiers cdv A outer s H E).nox.env) fp0) (subE (subE (rootE ((defBody s_tiers).getD 2 (.Pass ⟨0, 0, 0, 0⟩))) 1) 0) _); dsimp only [Cx.blk, Cx.tr, Cx.suite, Cx.nox, Cx.wish, cxOf] at h; exact h))) pa_nil)))))), ?_⟩
    refine ⟨.ref o, rfl, .ref t, rfl, o, t, zs, b, rfl, ho, hb, bok, nd, lz, fun D H1 s1 nD eD => ?_⟩
    refine ⟨.ref D, rfl, D, _, rfl, eD, fun l nl => ⟨l, zs.map b.rk, rfl, .of (by rw [upd_same, tab_vals]), by rw [List.length_map]; omega, fun p c np lc => ⟨p, _, c, rfl, upd_same, by rw [List.length_map] at lc; omega, fun ls q0 rise mem len nq => ?_⟩⟩⟩
    have lev : Lev zs b.rk ls := ⟨rise, fun k => (mem k).trans (by rw [decide_eq_true_iff, List.mem_map])⟩
    have lls : ls.length ≤ 6 := by rw [List.length_map] at lc; omega
    have s2 : Same H1 (upd (upd (upd H1 l (.lst ((tab zs b.rk).map (·.2)))) p (SetO w p (fun j => decide (j ∈ zs.map b.rk)) c)) q0 (.lst (ls.map V.int))) := ((same_upd nl).trans (same_upd np)).trans (same_upd nq)
    have hq0 : (upd (upd (upd H1 l (.lst ((tab zs b.rk).map (·.2)))) p (SetO w p (fun j => decide (j ∈ zs.map b.rk)) c)) q0 (.lst (ls.map V.int))) q0 = some (.lst (ls.map V.int)) := upd_same
    generalize upd (upd (upd H1 l (.lst ((tab zs b.rk).map (·.2)))) p (SetO w p (fun j => decide (j ∈ zs.map b.rk)) c)) q0 (.lst (ls.map V.int)) = H2 at s2 hq0
    have eD2 := s2 _ _ eD
    have ho2 := s2 _ _ (s1 _ _ ho)
    refine ⟨.ref q0, rfl, q0, rfl, ⟨_, .of hq0⟩, fun D1 nD1 => ?_⟩
    refine lc_list (K := K) (a := q0) (xs := ls.map V.int) (fun i H' => ∃ bs : List (Addr × List Str), Same H2 H' ∧ H' D1 = some (.lst (bs.map fun b => V.ref b.1)) ∧ Tiers H' bs ∧ bs.map (·.2) = cutBy zs b.rk (ls.take i))
      ⟨[], same_upd nD1, upd_same, fun _ h => (by cases h), rfl⟩ (fun _ _ _ ⟨_, h, _⟩ => .of (h _ _ hq0)) ?_ ?_
    · rintro i x H3 hi ⟨bs, s3, e3, t3, m3⟩
      obtain ⟨k, hk, rfl⟩ := item_map hi
      have il : i < ls.length := (List.getElem?_eq_some_iff.mp hk).1
      have lbs : bs.length ≤ 6 := by
        have := congrArg List.length m3
        unfold cutBy at this
        rw [List.length_map, List.length_map, List.length_take] at this
        omega
      refine ⟨rfl, .ref o, rfl, o, rfl, ⟨_, .of (s3 _ _ ho2)⟩, fun D2 nD2 => ?_⟩
      have ne12 : D1 ≠ D2 := ne_of_none e3 nD2
      refine lc_tup (K := K) (a := o) (xs := zs.map V.str) (fun j H' => Same H3 H' ∧ H' D2 = some (.lst (((zs.take j).filter fun z => decide (b.rk z = k)).map V.str))) ⟨same_upd nD2, upd_same⟩ (fun _ _ _ h => .of (h.1 _ _ (s3 _ _ ho2))) ?_ ?_
      · rintro j x H4 hj ⟨s4, e4⟩
        obtain ⟨z, hz, rfl⟩ := item_map hj
        have got : DGet H4 D (.str z) (some (.int (b.rk z))) := by
          have := DGet.k (k := .inr z) (s4 _ _ (s3 _ _ eD2))
          rw [tab_val, if_pos (List.mem_of_getElem? hz)] at this
          exact this
        have small : (((zs.take j).filter fun z => decide (b.rk z = k)).map V.str).length < sizeLine := by
          rw [List.length_map]
          have := List.length_filter_le (fun z => decide (b.rk z = k)) (zs.take j)
          rw [List.length_take] at this
          exact small1000 (by omega)
        refine ⟨rfl, .ref D, rfl, .str z, rfl, D, _, rfl, got, .int k, rfl, rfl, _, rfl, ?_⟩
        have eb : decide (V.int (b.rk z) = V.int k) = decide (b.rk z = k) := decide_eq_decide.mpr ⟨fun h => V.int.inj h, fun h => by rw [h]⟩
        rw [eb]
        have ft := filter_take (f := fun z => decide (b.rk z = k)) hz
        cases ec : decide (b.rk z = k) with
        | true =>
          rw [if_pos ec] at ft
          refine iteT ⟨.str z, rfl, _, e4, small, same_mut s4 nD2, ?_⟩
          rw [upd_same, ft, List.map_append]
          rfl
        | false =>
          rw [if_neg (by rw [ec]; exact Bool.false_ne_true), List.append_nil] at ft
          refine iteF ⟨s4, ?_⟩
          rw [ft]
          exact e4
      · rintro H4 ⟨s4, e4⟩
        rw [List.length_map, List.take_length] at e4
        refine ⟨D2, _, rfl, .inl ⟨.of e4, fun u nu => ?_⟩⟩
        have s5 := s4.trans (same_upd (o := HO.tup ((zs.filter fun z => decide (b.rk z = k)).map V.str)) nu)
        have eu : (upd H4 u (.tup ((zs.filter fun z => decide (b.rk z = k)).map V.str))) u = some (.tup ((zs.filter fun z => decide (b.rk z = k)).map V.str)) := upd_same
        generalize upd H4 u (.tup ((zs.filter fun z => decide (b.rk z = k)).map V.str)) = H5 at s5 eu
        have e5 := s5 _ _ e3
        have nD1' : H2 D1 = none := nD1
        have uD : u ≠ D1 := fun e => by rw [e, e5] at eu; cases eu
        refine ⟨_, e5, small1000 (by rw [List.length_map]; omega), bs ++ [(u, zs.filter fun z => decide (b.rk z = k))], same_mut (s3.trans s5) nD1, ?_, ?_, ?_⟩
        · rw [upd_same, List.map_append]
          rfl
        · have tt := (t3.same s5).add (b := (u, zs.filter fun z => decide (b.rk z = k))) eu (cut_ne lev _ (List.mem_map.mpr ⟨k, List.mem_of_getElem? hk, rfl⟩))
          refine fun c hc => ⟨?_, (tt c hc).2⟩
          rw [upd_ne fun e => ?_]
          · exact (tt c hc).1
          · have := (tt c hc).1
            rw [e, e5] at this
            cases this
        · rw [List.map_append, m3, cut_take hk]
          rfl
    · rintro H3 ⟨bs, s3, e3, t3, m3⟩
      rw [List.length_map, List.take_length] at m3
      refine ⟨D1, _, rfl, .inl ⟨.of e3, fun u nu => ?_⟩⟩
      exact q u bs ls _ lev (s1.trans (s2.trans (s3.trans (same_upd nu)))) upd_same (t3.same (same_upd nu)) m3
/-! ### who is ahead -/
end
def side (at0 : Int) (i : Int) : Int := if at0 = 0 then i else -i
/-- how many voices have an option alone at a place -/
def aloneSum (at0 : Int) (zs : List Str) (rows : List (Bal × Int)) (z : Str) : Int := (rows.map fun r => if aloneB zs (fun t => side at0 (r.1.rk t)) z = true then r.2 else 0).sum
theorem alone_more {at0 : Int} {zs : List Str} {rows : List (Bal × Int)} {i : Nat} {r : Bal × Int} (h : rows[i]? = some r) (z : Str) : aloneSum at0 zs (rows.take (i + 1)) z = aloneSum at0 zs (rows.take i) z + if aloneB zs (fun t => side at0 (r.1.rk t)) z = true then r.2 else 0 := by
  unfold aloneSum
  rw [take_more h, List.map_append, List.sum_append]
  simp
theorem lev_at {zs : List Str} {f : Str → Int} {ls : List Int} (lev : Lev zs f ls) {at0 k : Int} (h : at0 = 0 ∧ ls[0]? = some k ∨ at0 = -1 ∧ ls[ls.length - 1]? = some k) : (∀ y ∈ zs, side at0 k ≤ side at0 (f y)) ∧ (∃ z ∈ zs, side at0 (f z) = side at0 k) ∧ (zs.filter fun y => decide (f y = k)) = zs.filter fun y => decide (side at0 (f y) = side at0 k) := by
  have mk : k ∈ ls := by
    rcases h with ⟨_, h⟩ | ⟨_, h⟩ <;> exact List.mem_of_getElem? h
  obtain ⟨z, mz, fz⟩ := (lev.2 k).mp mk
  have pw := List.pairwise_iff_getElem.mp lev.1
  refine ⟨fun y hy => ?_, ⟨z, mz, by rw [fz]⟩, List.filter_congr fun y _ => decide_eq_decide.mpr ?_⟩
  · have my : f y ∈ ls := (lev.2 _).mpr ⟨y, hy, rfl⟩
    obtain ⟨j, hj, ej⟩ := List.mem_iff_getElem.mp my
    unfold side
    rcases h with ⟨rfl, h⟩ | ⟨rfl, h⟩
    · rw [if_pos rfl, if_pos rfl]
      obtain ⟨h0, e0⟩ := List.getElem?_eq_some_iff.mp h
      rcases Nat.eq_zero_or_pos j with c | c
      · subst c
        omega
      · have := pw 0 j h0 hj c
        omega
    · rw [if_neg (by decide), if_neg (by decide)]
      obtain ⟨h0, e0⟩ := List.getElem?_eq_some_iff.mp h
      by_cases c : j = ls.length - 1
      · subst c
        omega
      · have := pw j (ls.length - 1) hj h0 (by omega)
        omega
  · unfold side
    split <;> omega
section
variable {P : Program} {w : World} {K : PySem.W.Frag} {mg : Str → Option Value} {base : Heap}
def sp_alone_at (C : Addr) : Sp := fun vs H Q _ => ∃ (p o u : Addr) (zs : List Str) (rows : List (Bal × Int)) (at0 : Int), vs = [.ref p, .int at0] ∧ PollOk C H p o u zs rows ∧ (at0 = 0 ∨ at0 = -1) ∧
  ∀ (D : Addr) (H' : Hp), Same H H' → H D = none → H' D = some (.dK (tab zs (aloneSum at0 zs rows))) → Q (.ref D) H'
theorem ok_alone_at (T : Txt K mg) : FnOk P w K mg base CX0 4 T.f_alone_at T.fd_alone_at ["poll", "at"] (sp_alone_at T.C_Poll) := by
  refine T.F_alone_at.ok sc_alone_at (fun vs H Q E h => ?_) (fun cdv A outer s H vs Q E hr h => ?_)
  · obtain ⟨p, o, u, zs, rows, at0, rfl, _⟩ := h
    rfl
  · obtain ⟨p, o, u, zs, rows, at0, rfl, pk, hat, q⟩ := h
    refine ⟨_, (pss_cons
 (ps_setDc (i := 2) (own := [("name", 6)]) (g := gName 6) (tt := tYes) rfl sc_alone_at.nd rfl rfl (swD_true rfl rfl rfl (by decide +kernel)) (pi_tup (pe_fld (pv 0) rfl)) (blkOk_by (own := [("name", 6)]) (N := ["poll", "at", "found", "ballot", "many", "tier", "name"]) (sc := (defScope s_alone_at)) (by decide +kernel)) (fun _ _ _ _ _ => pg_name (i := 6) sc_alone_at.nd rfl (Or.inl rfl)) (fun _ _ _ _ _ => pts_nil) (fun _ _ _ _ _ => (pv 6)) (fun _ _ _ _ _ => pe_int))
 (pss_cons
 (ps_for PassesOwn.never rfl (pi_tup (pe_fld (pv 0) rfl)) (pg_tup rfl (pgs_cons (pg_name (i := 3) sc_alone_at.nd rfl (Or.inl rfl)) (pgs_cons (pg_name (i := 4) sc_alone_at.nd rfl (Or.inl rfl)) pgs_nil)))
 (pss_cons
 (ps_set (i := 5) sc_alone_at.nd rfl (Or.inl rfl) (pe_ix ix_tup (pe_call (ok_tiers T) (hr.mono (by decide)) (by rfl) T.g_tiers T.F_tiers.kp T.b_tiers .nil pass0 (pa_cons (pe_fld (pv 0) rfl) (pa_cons (pv 3) pa_nil))) (pv 1) (fun _ _ => rfl)))
 (pss_one
 (ps_if (pt_cmpR op_eq (pe_callB call_len_seq (by rfl) T.z_len (by decide +kernel) (pa_cons (pv 5) pa_nil)) pe_int (nomark _))
 (pss_one
 (ps_daug (hu_of hr) (pv 2) (pe_ix ix_tup (pv 5) pe_int (fun _ _ => rfl)) (pv 4) in_add (fun _ _ _ => rfl)))
 pss_nil))))
 (pss_one
 (ps_ret (pv 2))))), ?_⟩
    obtain ⟨⟨dx, hp⟩, ho, ⟨as, hu, ha, hm⟩, ok, rok⟩ := id pk
    have nd := ok.nodup
    have few := ok.few
    have la : as.length = rows.length := by rw [← hm, List.length_map]
    refine ⟨.ref p, rfl, p, T.C_Poll, dx, _, .ref o, rfl, hp, T.cl_Poll, T.n_Poll_options, pollF_options o u, o, rfl, ⟨_, .of ho⟩, fun D nD => ?_⟩
    refine dc_tup (K := K) (a := o) (xs := zs.map V.str) (fun i H' => Same H H' ∧ H' D = some (.dK (tab (zs.take i) fun _ => (0 : Int)))) ⟨same_upd nD, upd_same⟩ (fun _ _ _ h => .of (h.1 _ _ ho)) ?_ ?_
    · rintro i x H1 hi ⟨s1, e1⟩
      obtain ⟨z, hz, rfl⟩ := item_map hi
      have zn : z ∉ zs.take i := fun m => nodup_out nd hz m
      refine ⟨rfl, .str z, rfl, _, .inr z, rfl, e1, ?_, same_mut s1 nD, ?_⟩
      · rw [tab_len, List.length_take]
        exact small1000 (by omega)
      · rw [upd_same, tab_new (f := fun _ => (0 : Int)) zn rfl, ← take_more hz]
    · rintro H1 ⟨s1, e1⟩
      rw [List.length_map, List.take_length] at e1
      have hp1 := s1 _ _ hp
      have hu1 := s1 _ _ hu
      refine ⟨.ref p, rfl, p, T.C_Poll, dx, _, .ref u, rfl, hp1, T.cl_Poll, T.n_Poll_voices, pollF_voices o u, u, rfl, ⟨_, .of hu1⟩, for_tup (K := K) (a := u) (xs := as.map fun a => V.ref a.1) (fun i σ H' => ∃ x3 x4 x5 x6 : Option V, σ = [some (.ref p), some (.int at0), some (.ref D), x3, x4, x5, x6] ∧ Same H H' ∧ H' D = some (.dK (tab zs (aloneSum at0 zs (rows.take i)))))
        ⟨none, none, none, none, rfl, s1, e1⟩ (fun _ _ _ _ ⟨_, _, _, _, _, h, _⟩ => .of (h _ _ hu)) ?_ ?_⟩
      · rintro i x σ H2 hi ⟨x3, x4, x5, x6, rfl, s2, e2⟩
        obtain ⟨a, hai, rfl⟩ := item_map hi
        obtain ⟨h1, h2⟩ := ha a (List.mem_of_getElem? hai)
        have mem : a.2.2 ∈ rows := by rw [← hm]; exact List.mem_map.mpr ⟨a, List.mem_of_getElem? hai, rfl⟩
        have ri : rows[i]? = some a.2.2 := by rw [← hm, List.getElem?_map, hai]; rfl
        obtain ⟨bok, _, _⟩ := rok.2 a.2.2 mem
        refine ⟨a.1, _, rfl, .of (s2 _ _ h1), rfl, _, _, rfl, _, _, rfl, rfl, ?_⟩
        refine ⟨.ref p, rfl, p, T.C_Poll, dx, _, .ref o, rfl, s2 _ _ hp, T.cl_Poll, T.n_Poll_options, pollF_options o u, .ref a.2.1, rfl, o, a.2.1, zs, a.2.2.1, rfl, s2 _ _ ho, h2.same s2, bok, nd, few, fun Tt bs ls H3 lev s3 eT ht em => ?_⟩
        have lbs : bs.length = ls.length := by
          have := congrArg List.length em
          unfold cutBy at this
          rw [List.length_map, List.length_map] at this
          exact this
        have lne : 0 < ls.length := by
          obtain ⟨z0, zs', ez⟩ : ∃ z0 zs', zs = z0 :: zs' := by
            cases hz : zs with
            | nil => exact absurd hz ok.some
            | cons a l => exact ⟨a, l, rfl⟩
          exact List.length_pos_of_mem ((lev.2 _).mpr ⟨z0, by rw [ez]; exact List.mem_cons_self, rfl⟩)
        obtain ⟨j, k, bt, hside, hj, hb, hix⟩ : ∃ (j : Nat) (k : Int) (bt : Addr × List Str), (at0 = 0 ∧ ls[0]? = some k ∨ at0 = -1 ∧ ls[ls.length - 1]? = some k) ∧ ls[j]? = some k ∧ bs[j]? = some bt ∧ atI (bs.map fun b => V.ref b.1) at0 = some (V.ref bt.1) := by
          rcases hat with rfl | rfl
          · have e1 := List.getElem?_eq_getElem lne
            have e2 := List.getElem?_eq_getElem (show 0 < bs.length by omega)
            exact ⟨0, _, _, .inl ⟨rfl, e1⟩, e1, e2, atI_nat (j := 0) (by rw [List.getElem?_map, e2]; rfl)⟩
          · have e1 := List.getElem?_eq_getElem (show ls.length - 1 < ls.length by omega)
            have e2 := List.getElem?_eq_getElem (show ls.length - 1 < bs.length by omega)
            refine ⟨ls.length - 1, _, _, .inr ⟨rfl, e1⟩, e1, e2, ?_⟩
            have ne : bs ≠ [] := fun h => by rw [h] at lbs; simp at lbs; omega
            have e3 : bs[ls.length - 1]'(by omega) = bs.getLast ne := by
              rw [List.getLast_eq_getElem]
              congr 1
              omega
            rw [e3]
            have e4 := List.dropLast_concat_getLast ne
            have : (bs.map fun b => V.ref b.1) = (bs.dropLast.map fun b => V.ref b.1) ++ [V.ref (bs.getLast ne).1] := by
              conv => lhs; rw [← e4]
              rw [List.map_append]
              rfl
            rw [this]
            exact atI_last _ _
        obtain ⟨hk, he, hf⟩ := lev_at lev hside
        have ebt : bt.2 = zs.filter fun y => decide (side at0 (a.2.2.1.rk y) = side at0 k) := by
          rw [← hf]
          have e1 : (bs.map (·.2))[j]? = some bt.2 := by rw [List.getElem?_map, hb]; rfl
          have e2 : (cutBy zs a.2.2.1.rk ls)[j]? = some (zs.filter fun y => decide (a.2.2.1.rk y = k)) := by
            unfold cutBy
            rw [List.getElem?_map, hj]
            rfl
          rw [em, e2] at e1
          exact (Option.some.inj e1).symm
        have htb := (ht bt (List.mem_of_getElem? hb)).1
        have s23 := s2.trans s3
        have e3 := s3 _ _ e2
        refine ⟨.int at0, rfl, Tt, _, at0, .ref bt.1, rfl, rfl, .of eT, hix, .ref bt.1, rfl, bt.1, _, rfl, .inr (.of htb), rfl, _, rfl, ?_⟩
        by_cases one : bt.2.length = 1
        · rw [decide_eq_true (show V.int (((bt.2.map V.str).length : Nat) : Int) = V.int 1 by rw [List.length_map, one] <;> rfl)]
          obtain ⟨z, ez⟩ : ∃ z, bt.2 = [z] := by
            match h : bt.2, one with
            | [z], _ => exact ⟨z, rfl⟩
          have ezf := ez
          rw [ebt] at ezf
          have mz : z ∈ zs := (List.mem_filter.mp (show z ∈ zs.filter (fun y => decide (side at0 (a.2.2.1.rk y) = side at0 k)) by rw [ezf]; exact List.mem_singleton.mpr rfl)).1
          rw [ez] at htb
          have got : DGet H3 D (.str z) (some (.int (aloneSum at0 zs (rows.take i) z))) := by
            have := DGet.k (k := .inr z) e3
            rw [tab_val, if_pos mz] at this
            exact this
          refine iteT ⟨.ref D, rfl, .ref bt.1, rfl, bt.1, _, 0, .str z, rfl, rfl, .of htb, atI_nat (j := 0) rfl, D, _, rfl, got, .int a.2.2.2, rfl, _, _, rfl, rfl, _, DPut.k (k := .inr z) e3 ?_, _, _, _, _, rfl, same_mut s23 nD, ?_⟩
          · rw [tab_len]
            exact small1000 (by omega)
          · rw [upd_same, tab_put mz]
            refine congrArg (fun l => some (HO.dK l)) (tab_congr fun y hy => ?_)
            rw [alone_more ri, alone_one hk ezf hy]
            by_cases c : y = z
            · rw [if_pos c, decide_eq_true c, if_pos rfl, c]
            · rw [if_neg c, decide_eq_false c, if_neg Bool.false_ne_true, Int.add_zero]
        · rw [decide_eq_false fun h => one (by have := V.int.inj h; rw [List.length_map] at this; omega)]
          refine iteF ⟨_, _, _, _, rfl, s23, ?_⟩
          rw [e3]
          refine congrArg (fun l => some (HO.dK l)) (tab_congr fun y hy => ?_)
          rw [alone_more ri, alone_none nd hk he (by rw [← ebt]; exact one) hy, if_neg Bool.false_ne_true, Int.add_zero]
      · rintro σ H2 ⟨x3, x4, x5, x6, rfl, s2, e2⟩
        rw [List.length_map, la, List.take_length] at e2
        exact ⟨.ref D, rfl, q D H2 s2 nD e2⟩
end
/-! ### voices counted for those who stand foremost alone -/
section
variable {P : Program} {w : World} {K : PySem.W.Frag} {mg : Str → Option Value} {base : Heap}
def sp_tally_by : Sp := fun vs H Q _ => ∃ (l t : Addr) (zs ls : List Str) (qs : List (Addr × Addr × (Bal × Int))), vs = [.ref l, .ref t] ∧ RkAt H l zs qs ∧ Rd H t (.tup (ls.map V.str)) ∧ 0 < ls.length ∧ ls.length ≤ 6 ∧ ls.Nodup ∧ (∀ z ∈ ls, z ∈ zs) ∧
  ∀ (D : Addr) (H' : Hp), Same H H' → H D = none → H' D = some (.dK (tab ls (tallySum ls (qs.map (·.2.2))))) → Q (.ref D) H'
theorem ok_tally_by (T : Txt K mg) : FnOk P w K mg base CX0 1 T.f_tally_by T.fd_tally_by ["rows", "left"] sp_tally_by := by
  refine T.F_tally_by.ok sc_tally_by (fun vs H Q E h => ?_) (fun cdv A outer s H vs Q E hr h => ?_)
  · obtain ⟨l, t, zs, ls, qs, rfl, _⟩ := h
    rfl
  · obtain ⟨l, t, zs, ls, qs, rfl, rk, ht, l0, l6, nd, sub, q⟩ := h
    refine ⟨_, (pss_cons
 (ps_setDc (i := 2) (own := [("name", 7)]) (g := gName 7) (tt := tYes) rfl sc_tally_by.nd rfl rfl (swD_true rfl rfl rfl (by decide +kernel)) (pi_tup (pv 1)) (blkOk_by (own := [("name", 7)]) (N := ["rows", "left", "found", "rank", "many", "least", "foremost", "name"]) (sc := (defScope s_tally_by)) (by decide +kernel)) (fun _ _ _ _ _ => pg_name (i := 7) sc_tally_by.nd rfl (Or.inl rfl)) (fun _ _ _ _ _ => pts_nil) (fun _ _ _ _ _ => (pv 7)) (fun _ _ _ _ _ => pe_int))
 (pss_cons
 (ps_for PassesOwn.never rfl (pi_list (pv 0)) (pg_tup rfl (pgs_cons (pg_name (i := 3) sc_tally_by.nd rfl (Or.inr rfl)) (pgs_cons (pg_name (i := 4) sc_tally_by.nd rfl (Or.inl rfl)) pgs_nil)))
 (pss_cons
 (ps_set (i := 5) sc_tally_by.nd rfl (Or.inr rfl) (pe_callB (cr_min rfl) (by rfl) T.z_min (by decide +kernel) (pa_cons (pe_lc (own := [("name", 7)]) (g := gName 7) (tt := tYes) rfl sc_tally_by.nd (pi_tup (pv 1)) (blkOk_by (own := [("name", 7)]) (N := ["rows", "left", "found", "rank", "many", "least", "foremost", "name"]) (sc := (defScope s_tally_by)) (by decide +kernel)) (fun _ _ _ _ _ => pg_name (i := 7) sc_tally_by.nd rfl (Or.inl rfl)) (fun _ _ _ _ _ => pts_nil) (fun s0 H0 C0 cl0 fp0 => (by have h := ((pe_dget (hu_of hr) (pv 3) (pv 7) (fun _ _ => rfl)) : PE ((cxOf CX0 P w K mg base ["rows", "left", "found", "rank", "many", "least", "foremost", "name"] "tally_by" (defScope s_tally_by) T.f_tally_by cdv A outer s H E).nox.blk s0 H0 (lcScope (subE (rootE ((blkOf ((defBody s_tally_by).getD 1 (.Pass ⟨0, 0, 0, 0⟩)) 0).getD 0 (.Pass ⟨0, 0, 0, 0⟩))) 1)) (compEnvC (lcScope (subE (rootE ((blkOf ((defBody s_tally_by).getD 1 (.Pass ⟨0, 0, 0, 0⟩)) 0).getD 0 (.Pass ⟨0, 0, 0, 0⟩))) 1)) cl0 C0 (cxOf CX0 P w K mg base ["rows", "left", "found", "rank", "many", "least", "foremost", "name"] "tally_by" (defScope s_tally_by) T.f_tally_by cdv A outer s H E).nox.env) fp0) (subE (subE (rootE ((blkOf ((defBody s_tally_by).getD 1 (.Pass ⟨0, 0, 0, 0⟩)) 0).getD 0 (.Pass ⟨0, 0, 0, 0⟩))) 1) 0) _); dsimp only [Cx.blk, Cx.tr, Cx.suite, Cx.nox, Cx.wish, cxOf] at h; exact h))) pa_nil)))
 (pss_cons
 (ps_setLc (i := 6) (own := [("name", 7)]) (g := gName 7) rfl sc_tally_by.nd rfl rfl (sw_true rfl rfl rfl (by decide +kernel)) (pi_tup (pv 1)) (blkOk_by (own := [("name", 7)]) (N := ["rows", "left", "found", "rank", "many", "least", "foremost", "name"]) (sc := (defScope s_tally_by)) (by decide +kernel)) (fun _ _ _ _ _ => pg_name (i := 7) sc_tally_by.nd rfl (Or.inl rfl)) (fun s0 H0 C0 cl0 fp0 => (by have h := ((pts_one (pt_cmpR op_eq (pe_dget (hu_of hr) (pv 3) (pv 7) (fun _ _ => rfl)) (pv 5) (nomark _))) : PTs ((cxOf CX0 P w K mg base ["rows", "left", "found", "rank", "many", "least", "foremost", "name"] "tally_by" (defScope s_tally_by) T.f_tally_by cdv A outer s H E).nox.blk s0 H0 (lcScope (rootE ((blkOf ((defBody s_tally_by).getD 1 (.Pass ⟨0, 0, 0, 0⟩)) 0).getD 1 (.Pass ⟨0, 0, 0, 0⟩)))) (compEnvC (lcScope (rootE ((blkOf ((defBody s_tally_by).getD 1 (.Pass ⟨0, 0, 0, 0⟩)) 0).getD 1 (.Pass ⟨0, 0, 0, 0⟩)))) cl0 C0 (cxOf CX0 P w K mg base ["rows", "left", "found", "rank", "many", "least", "foremost", "name"] "tally_by" (defScope s_tally_by) T.f_tally_by cdv A outer s H E).nox.env) fp0) (lcIfs (rootE ((blkOf ((defBody s_tally_by).getD 1 (.Pass ⟨0, 0, 0, 0⟩)) 0).getD 1 (.Pass ⟨0, 0, 0, 0⟩)))) _); dsimp only [Cx.blk, Cx.tr, Cx.suite, Cx.nox, Cx.wish, cxOf] at h; exact h)) (fun _ _ _ _ _ => (pv 7)))
 (pss_one
 (ps_if (pt_cmpR op_eq (pe_callB call_len_seq (by rfl) T.z_len (by decide +kernel) (pa_cons (pv 6) pa_nil)) pe_int (nomark _))
 (pss_one
 (ps_daug (hu_of hr) (pv 2) (pe_ix ix_list (pv 6) pe_int (fun _ _ => rfl)) (pv 4) in_add (fun _ _ _ => rfl)))
 pss_nil)))))
 (pss_one
 (ps_ret (pv 2))))), ?_⟩
    refine ⟨.ref t, rfl, t, rfl, ⟨_, .inl ht⟩, fun D nD => ?_⟩
    refine dc_tup (K := K) (a := t) (xs := ls.map V.str) (fun i H' => Same H H' ∧ H' D = some (.dK (tab (ls.take i) fun _ => (0 : Int)))) ⟨same_upd nD, upd_same⟩ (fun _ _ _ h => .inl (rd_same h.1 ht)) ?_ ?_
    · rintro i x H1 hi ⟨s1, e1⟩
      obtain ⟨z, hz, rfl⟩ := item_map hi
      have zn : z ∉ ls.take i := fun m => nodup_out nd hz m
      refine ⟨rfl, .str z, rfl, _, .inr z, rfl, e1, ?_, same_mut s1 nD, ?_⟩
      · rw [tab_len, List.length_take]
        exact small1000 (by omega)
      · rw [upd_same, tab_new (f := fun _ => (0 : Int)) zn rfl, ← take_more hz]
    · rintro H1 ⟨s1, e1⟩
      rw [List.length_map, List.take_length] at e1
      refine ⟨.ref l, rfl, l, rfl, ⟨_, .of (s1 _ _ rk.1)⟩, for_list (K := K) (a := l) (xs := qs.map fun q => V.ref q.1) (fun i σ H' => ∃ x3 x4 x5 x6 x7 : Option V, σ = [some (.ref l), some (.ref t), some (.ref D), x3, x4, x5, x6, x7] ∧ Same H H' ∧ H' D = some (.dK (tab ls (tallySum ls ((qs.take i).map (·.2.2))))))
        ⟨none, none, none, none, none, rfl, s1, e1⟩ (fun _ _ _ _ ⟨_, _, _, _, _, _, h, _⟩ => .of (h _ _ rk.1)) ?_ ?_⟩
      · rintro i x σ H2 hi ⟨x3, x4, x5, x6, x7, rfl, s2, e2⟩
        obtain ⟨a, hai, rfl⟩ := item_map hi
        obtain ⟨h1, h2⟩ := rk.2 a (List.mem_of_getElem? hai)
        have h1 := s2 _ _ h1
        have h2 := s2 _ _ h2
        have ht2 := rd_same s2 ht
        have next : ∀ z, tallySum ls ((qs.take (i + 1)).map (·.2.2)) z = tallySum ls ((qs.take i).map (·.2.2)) z + if aloneB ls a.2.2.1.rk z = true then a.2.2.2 else 0 := fun z => by
          rw [List.map_take, List.map_take]
          exact tally_more (by rw [List.getElem?_map, hai]; rfl) z
        have get : ∀ {H3 : Hp}, Same H2 H3 → ∀ {x : Str}, x ∈ ls → DGet H3 a.2.1 (.str x) (some (.int (a.2.2.1.rk x))) := fun {H3} s3 {x} hx => by
          have := DGet.k (k := .inr x) (s3 _ _ h2)
          rw [tab_val, if_pos (sub x hx)] at this
          exact this
        refine ⟨a.1, _, rfl, .of h1, rfl, _, _, rfl, _, _, rfl, rfl, ?_⟩
        -- the least rank
        refine ⟨.ref t, rfl, t, rfl, ⟨_, .inl ht2⟩, fun D1 nD1 => ?_⟩
        refine lc_tup (K := K) (a := t) (xs := ls.map V.str) (fun j H' => Same H2 H' ∧ H' D1 = some (.lst (((ls.take j).map a.2.2.1.rk).map V.int))) ⟨same_upd nD1, upd_same⟩ (fun _ _ _ h => .inl (rd_same h.1 ht2)) ?_ ?_
        · rintro j x H3 hj ⟨s3, e3⟩
          obtain ⟨z, hz, rfl⟩ := item_map hj
          have il := (List.getElem?_eq_some_iff.mp hz).1
          refine ⟨rfl, .ref a.2.1, rfl, .str z, rfl, a.2.1, _, rfl, get s3 (List.mem_of_getElem? hz), _, e3, small1000 (by rw [List.length_map, List.length_map, List.length_take]; omega), same_mut s3 nD1, ?_⟩
          rw [upd_same, take_more hz, List.map_append, List.map_append]
          rfl
        rintro H3 ⟨s3, e3⟩
        rw [List.length_map, List.take_length] at e3
        refine ⟨D1, _, rfl, .of e3, by rw [List.length_map]; exact l0, fun k hk hle => ?_⟩
        have hk' : ∀ y ∈ ls, k ≤ a.2.2.1.rk y := fun y hy => hle _ (List.mem_map.mpr ⟨y, hy, rfl⟩)
        obtain ⟨z0, mz0, ez0⟩ := List.mem_map.mp hk
        -- who has it
        have ht3 := rd_same s3 ht2
        refine ⟨.ref t, rfl, t, rfl, ⟨_, .inl ht3⟩, fun D2 nD2 => ?_⟩
        refine lc_tup (K := K) (a := t) (xs := ls.map V.str) (fun j H' => Same H3 H' ∧ H' D2 = some (.lst (((ls.take j).filter fun y => decide (a.2.2.1.rk y = k)).map V.str))) ⟨same_upd nD2, upd_same⟩ (fun _ _ _ h => .inl (rd_same h.1 ht3)) ?_ ?_
        · rintro j x H4 hj ⟨s4, e4⟩
          obtain ⟨z, hz, rfl⟩ := item_map hj
          have il := (List.getElem?_eq_some_iff.mp hz).1
          have ft := filter_take (f := fun y => decide (a.2.2.1.rk y = k)) hz
          refine ⟨rfl, .ref a.2.1, rfl, .str z, rfl, a.2.1, _, rfl, get (s3.trans s4) (List.mem_of_getElem? hz), .int k, rfl, rfl, _, rfl, ?_⟩
          by_cases c : a.2.2.1.rk z = k
          · rw [decide_eq_true (show V.int (a.2.2.1.rk z) = V.int k by rw [c])]
            rw [if_pos (decide_eq_true c)] at ft
            refine iteT ⟨.str z, rfl, _, e4, ?_, same_mut s4 nD2, ?_⟩
            · rw [List.length_map]
              have := List.length_filter_le (fun y => decide (a.2.2.1.rk y = k)) (ls.take j)
              rw [List.length_take] at this
              exact small1000 (by omega)
            · rw [upd_same, ft, List.map_append]
              rfl
          · rw [decide_eq_false (show ¬ V.int (a.2.2.1.rk z) = V.int k from fun e => c (V.int.inj e))]
            rw [if_neg (by rw [decide_eq_false c]; exact Bool.false_ne_true), List.append_nil] at ft
            refine iteF ⟨s4, ?_⟩
            rw [ft]
            exact e4
        rintro H4 ⟨s4, e4⟩
        rw [List.length_map, List.take_length] at e4
        have s24 := s3.trans s4
        have s04 := s2.trans s24
        have eD4 := s24 _ _ e2
        refine ⟨.ref D2, rfl, D2, _, rfl, .inl (.of e4), rfl, _, rfl, ?_⟩
        by_cases one : (ls.filter fun y => decide (a.2.2.1.rk y = k)).length = 1
        · rw [decide_eq_true (show V.int ((((ls.filter fun y => decide (a.2.2.1.rk y = k)).map V.str).length : Nat) : Int) = V.int 1 by rw [List.length_map, one] <;> rfl)]
          obtain ⟨z, ez⟩ : ∃ z, (ls.filter fun y => decide (a.2.2.1.rk y = k)) = [z] := by
            match h : ls.filter (fun y => decide (a.2.2.1.rk y = k)), one with
            | [z], _ => exact ⟨z, rfl⟩
          have mz : z ∈ ls := (List.mem_filter.mp (show z ∈ ls.filter (fun y => decide (a.2.2.1.rk y = k)) by rw [ez]; exact List.mem_singleton.mpr rfl)).1
          rw [ez] at e4
          have got : DGet H4 D (.str z) (some (.int (tallySum ls ((qs.take i).map (·.2.2)) z))) := by
            have := DGet.k (k := .inr z) eD4
            rw [tab_val, if_pos mz] at this
            exact this
          refine iteT ⟨.ref D, rfl, .ref D2, rfl, D2, _, 0, .str z, rfl, rfl, .of e4, atI_nat (j := 0) rfl, D, _, rfl, got, .int a.2.2.2, rfl, _, _, rfl, rfl, _, DPut.k (k := .inr z) eD4 ?_, _, _, _, _, _, rfl, same_mut s04 nD, ?_⟩
          · rw [tab_len]
            exact small1000 (by omega)
          · rw [upd_same, tab_put mz]
            refine congrArg (fun l => some (HO.dK l)) (tab_congr fun y hy => ?_)
            rw [next, alone_one hk' ez hy]
            by_cases c : y = z
            · rw [if_pos c, decide_eq_true c, if_pos rfl, c]
            · rw [if_neg c, decide_eq_false c, if_neg Bool.false_ne_true, Int.add_zero]
        · rw [decide_eq_false fun h => one (by have := V.int.inj h; rw [List.length_map] at this; omega)]
          refine iteF ⟨_, _, _, _, _, rfl, s04, ?_⟩
          rw [eD4]
          refine congrArg (fun l => some (HO.dK l)) (tab_congr fun y hy => ?_)
          rw [next, alone_none nd hk' ⟨z0, mz0, ez0⟩ one hy, if_neg Bool.false_ne_true, Int.add_zero]
      · rintro σ H2 ⟨x3, x4, x5, x6, x7, rfl, s2, e2⟩
        rw [List.length_map, List.take_length] at e2
        exact ⟨.ref D, rfl, q D H2 s2 nD e2⟩
end
/-! ### claims -/
def lotD (zs : List Str) (a b : Str) : PyData → Bool
  | .tuple ds => unlikeD zs ds && (decide (ds.filterMap unS = zs.filter fun z => decide (z ∈ ds.filterMap unS)) && (decide (a ∈ ds.filterMap unS) && decide (b ∈ ds.filterMap unS)))
  | _ => false
def withinD (zs : List Str) (w a b : Str) : List PyData → Bool
  | [l] => decide (w = "within") && lotD zs a b l
  | _ => false
def claimD (zs : List Str) : PyData → Bool
  | .tuple (.str w :: .str a :: .str b :: rest) => unlikeD zs [.str a, .str b] && (if w = "before" then rest.isEmpty else withinD zs w a b rest)
  | _ => false
theorem eqvAll_strs : ∀ as bs : List Str, PyData.eqvAll (as.map PyData.str) (bs.map PyData.str) = decide (as = bs)
  | [], [] => rfl
  | [], _ :: _ => rfl
  | _ :: _, [] => rfl
  | a :: as, b :: bs => by
    have e : PyData.eqvAll ((a :: as).map PyData.str) ((b :: bs).map PyData.str) = ((a == b) && PyData.eqvAll (as.map PyData.str) (bs.map PyData.str)) := rfl
    rw [e, eqvAll_strs as bs]
    by_cases c : a = b
    · subst c
      rw [beq_self_eq_true, Bool.true_and]
      exact decide_eq_decide.mpr ⟨fun h => by rw [h], fun h => (List.cons.inj h).2⟩
    · rw [decide_eq_false fun h : a :: as = b :: bs => c (List.cons.inj h).1, beq_eq_false_iff_ne.mpr c, Bool.false_and]
theorem eqv_tups (as bs : List Str) : PyData.eqv (.tuple (as.map PyData.str)) (.tuple (bs.map PyData.str)) = decide (as = bs) := eqvAll_strs as bs
theorem shaped_tup {ws : List Str} (h : ∀ z ∈ ws, PyData.strOk z = true) : SeqAt.shaped (.tuple (ws.map PyData.str)) = true := by
  obtain ⟨h1, h2⟩ := lay_strs ws h
  unfold SeqAt.shaped
  rw [PyData.canLay0, h1, PyData.depth]
  simp only [Bool.true_and, decide_eq_true_eq]
  omega
theorem slX_rd {K : PySem.W.Frag} {H : Hp} {a : Addr} {xs : List V} {lo hi : Option Int} {Q : VK} (h : Rd H a (.tup xs)) (c : ∀ (s : Addr) (H' : Hp), Rd H' s (.tup (cutV xs lo hi)) → Same H H' → Q (.ref s) H') : rSlA K (.ref a) lo hi H Q := by
  refine ⟨a, xs, rfl, .inl h, fun e => c a H ?_ (Same.refl _), fun _ s ns => c s _ (.of upd_same) (same_upd ns)⟩
  have e2 : cutV xs lo hi = xs := by
    unfold cutV
    rw [e.1, e.2, List.drop_zero, Nat.sub_zero, List.take_length]
  rw [e2]
  exact h
def fewC : PyData → Prop
  | .tuple ds => ds.length ≤ 20 ∧ (∀ d ∈ ds, fewD d) 
  | _ => True
  where fewD : PyData → Prop
  | .tuple ds => ds.length ≤ 20
  | _ => True
section
variable {P : Program} {w : World} {K : PySem.W.Frag} {mg : Str → Option Value} {base : Heap}
def sp_firsts (C : Addr) : Sp := fun vs H Q _ => ∃ (p o u : Addr) (zs : List Str) (rows : List (Bal × Int)), vs = [.ref p] ∧ PollOk C H p o u zs rows ∧
  ∀ (D : Addr) (H' : Hp), Same H H' → H D = none → H' D = some (.dK (tab zs (aloneSum 0 zs rows))) → Q (.ref D) H'
theorem ok_firsts (T : Txt K mg) : FnOk P w K mg base CX0 5 T.f_firsts T.fd_firsts ["poll"] (sp_firsts T.C_Poll) := by
  refine T.F_firsts.ok sc_firsts (fun vs H Q E h => ?_) (fun cdv A outer s H vs Q E hr h => ?_)
  · obtain ⟨p, o, u, zs, rows, rfl, _⟩ := h
    rfl
  · obtain ⟨p, o, u, zs, rows, rfl, pk, q⟩ := h
    exact ⟨_, (pss_one
 (ps_ret (pe_call (ok_alone_at T) (hr.mono (by decide)) (by rfl) T.g_alone_at T.F_alone_at.kp T.b_alone_at .nil pass0 (pa_cons (pv 0) (pa_cons pe_int pa_nil))))), .ref p, rfl, p, o, u, zs, rows, 0, rfl, pk, .inl rfl, q⟩
def sp_is_lot_of : Sp := fun vs H Q _ => ∃ (o t : Addr) (zs : List Str) (v : V) (d : PyData) (a b : Str), vs = [.ref o, v, .ref t] ∧ H o = some (.tup (zs.map V.str)) ∧ zs.length ≤ 6 ∧ (∀ z ∈ zs, NameOk z) ∧ DAt H d v ∧ fewC.fewD d ∧ Rd H t (.tup [.str a, .str b]) ∧ ∀ H', Same H H' → Q (.bl (lotD zs a b d)) H'
theorem ok_is_lot_of (T : Txt K mg) : FnOk P w K mg base CX0 3 T.f_is_lot_of T.fd_is_lot_of ["options", "thing", "both"] sp_is_lot_of := by
  refine T.F_is_lot_of.ok sc_is_lot_of (fun vs H Q E h => ?_) (fun cdv A outer s H vs Q E hr h => ?_)
  · obtain ⟨o, t, zs, v, d, a, b, rfl, _⟩ := h
    rfl
  · obtain ⟨o, t, zs, v, d, a, b, rfl, ho, z6, okz, hd, few, ht, q⟩ := h
    refine ⟨_, (pss_cons
 (ps_if (PW.pt (pw_or (pt_not (pt_val (pe_callB call_isi (by rfl) T.z_isinstance (by decide +kernel) (pa_cons (pv 1) (pa_cons (pe_bltn (v := .ty "tuple") (u := .type "tuple") rfl T.z_tuple (by decide +kernel) rfl) pa_nil))))) (pw_or1 (pt_not (pt_val (pe_call (ok_are_unlike_options T) (hr.mono (by decide)) (by rfl) T.g_are_unlike_options T.F_are_unlike_options.kp T.b_are_unlike_options .nil pass0 (pa_cons (pv 0) (pa_cons (pv 1) pa_nil))))))))
 (pss_one
 (ps_ret pe_bl))
 pss_nil)
 (pss_cons
 (ps_if (pt_cmpR (op_neD hr.units) (pv 1) (pe_callTy call_tuple_of (by rfl) T.z_tuple (by decide +kernel) (pa_cons (pe_lc (own := [("name", 3)]) (g := gName 3) rfl sc_is_lot_of.nd (pi_tup (pv 0)) (blkOk_by (own := [("name", 3)]) (N := ["options", "thing", "both", "name"]) (sc := (defScope s_is_lot_of)) (by decide +kernel)) (fun _ _ _ _ _ => pg_name (i := 3) sc_is_lot_of.nd rfl (Or.inl rfl)) (fun s0 H0 C0 cl0 fp0 => (by have h := ((pts_one (pt_cmpR op_in_seq (pv 3) (pv 1) rfl)) : PTs ((cxOf CX0 P w K mg base ["options", "thing", "both", "name"] "is_lot_of" (defScope s_is_lot_of) T.f_is_lot_of cdv A outer s H E).nox.blk s0 H0 (lcScope (subE (subE (rootE ((defBody s_is_lot_of).getD 1 (.Pass ⟨0, 0, 0, 0⟩))) 1) 1)) (compEnvC (lcScope (subE (subE (rootE ((defBody s_is_lot_of).getD 1 (.Pass ⟨0, 0, 0, 0⟩))) 1) 1)) cl0 C0 (cxOf CX0 P w K mg base ["options", "thing", "both", "name"] "is_lot_of" (defScope s_is_lot_of) T.f_is_lot_of cdv A outer s H E).nox.env) fp0) (lcIfs (subE (subE (rootE ((defBody s_is_lot_of).getD 1 (.Pass ⟨0, 0, 0, 0⟩))) 1) 1)) _); dsimp only [Cx.blk, Cx.tr, Cx.suite, Cx.nox, Cx.wish, cxOf] at h; exact h)) (fun _ _ _ _ _ => (pv 3))) pa_nil)) (nomark _))
 (pss_one
 (ps_ret pe_bl))
 pss_nil)
 (pss_one
 (ps_ret (pe_callB (cr_all rfl) (by rfl) T.z_all (by decide +kernel) (pa_cons (pe_lc (own := [("name", 3)]) (g := gName 3) (tt := tYes) rfl sc_is_lot_of.nd (pi_tup (pv 2)) (blkOk_by (own := [("name", 3)]) (N := ["options", "thing", "both", "name"]) (sc := (defScope s_is_lot_of)) (by decide +kernel)) (fun _ _ _ _ _ => pg_name (i := 3) sc_is_lot_of.nd rfl (Or.inl rfl)) (fun _ _ _ _ _ => pts_nil) (fun s0 H0 C0 cl0 fp0 => (by have h := ((pe_cmpR op_in_seq (pv 3) (pv 1) rfl) : PE ((cxOf CX0 P w K mg base ["options", "thing", "both", "name"] "is_lot_of" (defScope s_is_lot_of) T.f_is_lot_of cdv A outer s H E).nox.blk s0 H0 (lcScope (subE (rootE ((defBody s_is_lot_of).getD 2 (.Pass ⟨0, 0, 0, 0⟩))) 1)) (compEnvC (lcScope (subE (rootE ((defBody s_is_lot_of).getD 2 (.Pass ⟨0, 0, 0, 0⟩))) 1)) cl0 C0 (cxOf CX0 P w K mg base ["options", "thing", "both", "name"] "is_lot_of" (defScope s_is_lot_of) T.f_is_lot_of cdv A outer s H E).nox.env) fp0) (subE (subE (rootE ((defBody s_is_lot_of).getD 2 (.Pass ⟨0, 0, 0, 0⟩))) 1) 0) _); dsimp only [Cx.blk, Cx.tr, Cx.suite, Cx.nox, Cx.wish, cxOf] at h; exact h))) pa_nil)))))), ?_⟩
    obtain ⟨ty, hty, k1, _⟩ := hd.ty (K := K)
    refine ⟨v, rfl, v, _, ty, _, dT d, rfl, .ty _, hty, k1, dT d, rfl, ?_⟩
    cases d with
    | tuple ds =>
      obtain ⟨p, xs, rfl, hp, hx⟩ := hd
      have few : ds.length ≤ 20 := few
      refine iteF ⟨.ref o, rfl, .ref p, rfl, o, p, zs, xs, ds, rfl, ho, .inr hp, hx, by omega, fun H1 s1 => ⟨_, rfl, ?_⟩⟩
      cases cu : unlikeD zs ds with
      | false =>
        have e : lotD zs a b (.tuple ds) = false := by
          show (unlikeD zs ds && _) = false
          rw [cu, Bool.false_and]
        rw [e] at q
        exact iteT (q _ s1)
      | true =>
        have cu' := cu
        unfold unlikeD at cu'
        rw [Bool.and_eq_true] at cu'
        have es := opt_strs cu'.1
        have nd := of_decide_eq_true cu'.2
        have e : lotD zs a b (.tuple ds) = (decide (ds.filterMap unS = zs.filter fun z => decide (z ∈ ds.filterMap unS)) && (decide (a ∈ ds.filterMap unS) && decide (b ∈ ds.filterMap unS))) := by
          show (unlikeD zs ds && _) = _
          rw [cu, Bool.true_and]
        have sub : ∀ z ∈ ds.filterMap unS, z ∈ zs := fun z hz => by
          have hz2 : PyData.str z ∈ ds := by rw [es]; exact List.mem_map.mpr ⟨z, hz, rfl⟩
          exact of_decide_eq_true ((List.all_eq_true.mp cu'.1) _ hz2)
        rw [e] at q
        have ex : xs = (ds.filterMap unS).map V.str := by rw [es] at hx; exact hx.of_strs
        have ed : DAt H (.tuple ((ds.filterMap unS).map PyData.str)) (.ref p) := ⟨p, xs, rfl, hp, by rw [← es]; exact hx⟩
        generalize ds.filterMap unS = ws at q nd ex ed sub
        subst ex
        refine iteF ⟨.ref p, rfl, .ref o, rfl, o, rfl, ⟨_, .of (s1 _ _ ho)⟩, fun D nD => ?_⟩
        refine lc_tup (K := K) (a := o) (xs := zs.map V.str) (fun j H' => Same H1 H' ∧ H' D = some (.lst (((zs.take j).filter fun z => decide (z ∈ ws)).map V.str))) ⟨same_upd nD, upd_same⟩ (fun _ _ _ h => .of (h.1 _ _ (s1 _ _ ho))) ?_ ?_
        · rintro j x H2 hj ⟨s2, e2⟩
          obtain ⟨z, hz, rfl⟩ := item_map hj
          have il := (List.getElem?_eq_some_iff.mp hz).1
          have ft := filter_take (f := fun y => decide (y ∈ ws)) hz
          refine ⟨rfl, .str z, rfl, .ref p, rfl, p, _, rfl, .inr (.inl (rd_same (s1.trans s2) hp)), rfl, flat_strs _, _, rfl, ?_⟩
          rw [inV_str]
          by_cases c : z ∈ ws
          · rw [decide_eq_true c]
            rw [if_pos (decide_eq_true c)] at ft
            refine iteT ⟨.str z, rfl, _, e2, ?_, same_mut s2 nD, ?_⟩
            · rw [List.length_map]
              have := List.length_filter_le (fun y => decide (y ∈ ws)) (zs.take j)
              rw [List.length_take] at this
              exact small1000 (by omega)
            · rw [upd_same, ft, List.map_append]
              rfl
          · rw [decide_eq_false c]
            rw [if_neg (by rw [decide_eq_false c]; exact Bool.false_ne_true), List.append_nil] at ft
            refine iteF ⟨s2, ?_⟩
            rw [ft]
            exact e2
        rintro H2 ⟨s2, e2⟩
        rw [List.length_map, List.take_length] at e2
        refine ⟨D, _, rfl, .inl ⟨.of e2, fun u nu => ?_⟩⟩
        have s3 := same_upd (o := HO.tup ((zs.filter fun z => decide (z ∈ ws)).map V.str)) nu
        have e3 : (upd H2 u (.tup ((zs.filter fun z => decide (z ∈ ws)).map V.str))) u = some (.tup ((zs.filter fun z => decide (z ∈ ws)).map V.str)) := upd_same
        generalize upd H2 u (.tup ((zs.filter fun z => decide (z ∈ ws)).map V.str)) = H3 at s3 e3 ⊢
        have s13 := s2.trans s3
        have s03 := s1.trans s13
        have shw := shaped_tup (ws := ws) fun z hz => small_ok (okz z (sub z hz)).2.2
        have shf := shaped_tup (ws := zs.filter fun z => decide (z ∈ ws)) fun z hz => small_ok (okz z (List.mem_filter.mp hz).1).2.2
        refine ⟨_, _, DAt.dp _ (DAt.same s03 _ ed), DAt.dp (.tuple ((zs.filter fun z => decide (z ∈ ws)).map PyData.str)) ⟨u, _, rfl, .of e3, DAll.strs _⟩, shw, shf, ?_⟩
        rw [eqv_tups]
        by_cases c : ws = zs.filter fun z => decide (z ∈ ws)
        · rw [decide_eq_true c]
          rw [decide_eq_true c, Bool.true_and] at q
          refine ⟨_, rfl, iteF ?_⟩
          have rt := rd_same s03 ht
          refine ⟨.ref t, rfl, t, rfl, ⟨_, .inl rt⟩, fun F nF => ?_⟩
          refine lc_tup (K := K) (a := t) (xs := [V.str a, V.str b]) (fun j H' => Same H3 H' ∧ H' F = some (.lst ((([a, b].take j).map fun z => decide (z ∈ ws)).map V.bl))) ⟨same_upd nF, upd_same⟩ (fun _ _ _ h => .inl (rd_same h.1 rt)) ?_ ?_
          · rintro j x H4 hj ⟨s4, e4⟩
            have hj' : ([a, b].map V.str)[j]? = some x := hj
            obtain ⟨z, hz, rfl⟩ := item_map hj'
            have il := (List.getElem?_eq_some_iff.mp hz).1
            have il : j < 2 := il
            refine ⟨rfl, .str z, rfl, .ref p, rfl, p, _, rfl, .inr (.inl (rd_same (s03.trans s4) hp)), rfl, flat_strs _, _, e4, small1000 (by rw [List.length_map, List.length_map, List.length_take]; omega), same_mut s4 nF, ?_⟩
            rw [upd_same, take_more hz, List.map_append, List.map_append, inV_str]
            rfl
          · rintro H4 ⟨s4, e4⟩
            refine ⟨F, _, rfl, .of e4, ?_⟩
            have ea : ([a, b].map fun z => decide (z ∈ ws)).all id = (decide (a ∈ ws) && decide (b ∈ ws)) := by
              show (decide (a ∈ ws) && (decide (b ∈ ws) && true)) = _
              rw [Bool.and_true]
            exact ea ▸ q _ (s03.trans s4)
        · rw [decide_eq_false c]
          rw [decide_eq_false c, Bool.false_and] at q
          exact ⟨_, rfl, iteT (q _ s03)⟩
    | _ => exact iteT (q _ (Same.refl _))
theorem claim_odd {zs : List Str} {w : Str} {d1 d2 : PyData} {rest : List PyData} (h : unlikeD zs [d1, d2] = false) : claimD zs (.tuple (.str w :: d1 :: d2 :: rest)) = false := by
  cases d1 with
  | str a =>
    cases d2 with
    | str b =>
      show (unlikeD zs [.str a, .str b] && _) = false
      rw [h, Bool.false_and]
    | _ => rfl
  | _ => rfl
theorem claim_one {zs : List Str} (x : PyData) : claimD zs (.tuple [x]) = false := by cases x <;> rfl
theorem claim_two {zs : List Str} (x y : PyData) : claimD zs (.tuple [x, y]) = false := by
  cases x with
  | str a => cases y <;> rfl
  | _ => rfl
theorem cut_two {x0 x1 x2 : V} {xr : List V} : cutV (x0 :: x1 :: x2 :: xr) (some 1) (some 3) = [x1, x2] := by
  unfold cutV
  have e1 : HT.sIx (x0 :: x1 :: x2 :: xr).length 0 (some 1) = 1 := by
    show (if (1 : Int) < 0 then ((1 : Int) + ((x0 :: x1 :: x2 :: xr).length : Int)).toNat else min (1 : Int).toNat (x0 :: x1 :: x2 :: xr).length) = 1
    rw [if_neg (by decide)]
    show min 1 (xr.length + 3) = 1
    omega
  have e2 : HT.sIx (x0 :: x1 :: x2 :: xr).length (x0 :: x1 :: x2 :: xr).length (some 3) = 3 := by
    show (if (3 : Int) < 0 then ((3 : Int) + ((x0 :: x1 :: x2 :: xr).length : Int)).toNat else min (3 : Int).toNat (x0 :: x1 :: x2 :: xr).length) = 3
    rw [if_neg (by decide)]
    show min 3 (xr.length + 3) = 3
    omega
  rw [e1, e2]
  rfl
def sp_is_claim : Sp := fun vs H Q _ => ∃ (o : Addr) (zs : List Str) (v : V) (d : PyData), vs = [.ref o, v] ∧ H o = some (.tup (zs.map V.str)) ∧ zs.length ≤ 6 ∧ (∀ z ∈ zs, NameOk z) ∧ DAt H d v ∧ fewC d ∧ ∀ H', Same H H' → Q (.bl (claimD zs d)) H'
theorem ok_is_claim (T : Txt K mg) : FnOk P w K mg base CX0 4 T.f_is_claim T.fd_is_claim ["options", "thing"] sp_is_claim := by
  refine T.F_is_claim.ok sc_is_claim (fun vs H Q E h => ?_) (fun cdv A outer s H vs Q E hr h => ?_)
  · obtain ⟨o, zs, v, d, rfl, _⟩ := h
    rfl
  · obtain ⟨o, zs, v, d, rfl, ho, z6, okz, hd, few, q⟩ := h
    refine ⟨_, (pss_cons
 (ps_if (PW.pt (pw_or (pt_not (pt_val (pe_callB call_isi (by rfl) T.z_isinstance (by decide +kernel) (pa_cons (pv 1) (pa_cons (pe_bltn (v := .ty "tuple") (u := .type "tuple") rfl T.z_tuple (by decide +kernel) rfl) pa_nil))))) (pw_or (pt_cmpR op_lt (pe_callB call_len_seq (by rfl) T.z_len (by decide +kernel) (pa_cons (pv 1) pa_nil)) pe_int (nomark _)) (pw_or1 (pt_not (pt_val (pe_callB call_isi (by rfl) T.z_isinstance (by decide +kernel) (pa_cons (pe_ix ix_tup (pv 1) pe_int (fun _ _ => rfl)) (pa_cons (pe_bltn (v := .ty "str") (u := .type "str") rfl T.z_str (by decide +kernel) rfl) pa_nil)))))))))
 (pss_one
 (ps_ret pe_bl))
 pss_nil)
 (pss_cons
 (ps_if (pt_not (pt_val (pe_call (ok_are_unlike_options T) (hr.mono (by decide)) (by rfl) T.g_are_unlike_options T.F_are_unlike_options.kp T.b_are_unlike_options .nil pass0 (pa_cons (pv 0) (pa_cons (pe_slice sl_tupA (pv 1) (po_some pe_int) (po_some pe_int)) pa_nil)))))
 (pss_one
 (ps_ret pe_bl))
 pss_nil)
 (pss_cons
 (ps_if (pt_cmpR op_eq (pe_ix ix_tup (pv 1) pe_int (fun _ _ => rfl)) pe_str (nomark _))
 (pss_one
 (ps_ret (pe_cmpR op_eq (pe_callB call_len_seq (by rfl) T.z_len (by decide +kernel) (pa_cons (pv 1) pa_nil)) pe_int (nomark _))))
 pss_nil)
 (pss_one
 (ps_ret (pe_and (pe_cmpR op_eq (pe_ix ix_tup (pv 1) pe_int (fun _ _ => rfl)) pe_str (nomark _)) (pe_and (pe_cmpR op_eq (pe_callB call_len_seq (by rfl) T.z_len (by decide +kernel) (pa_cons (pv 1) pa_nil)) pe_int (nomark _)) (pe_one (pe_call (ok_is_lot_of T) (hr.mono (by decide)) (by rfl) T.g_is_lot_of T.F_is_lot_of.kp T.b_is_lot_of .nil pass0 (pa_cons (pv 0) (pa_cons (pe_ix ix_tup (pv 1) pe_int (fun _ _ => rfl)) (pa_cons (pe_slice sl_tupA (pv 1) (po_some pe_int) (po_some pe_int)) pa_nil)))))))))))), ?_⟩
    obtain ⟨ty, hty, k1, _⟩ := hd.ty (K := K)
    refine ⟨v, rfl, v, _, ty, _, dT d, rfl, .ty _, hty, k1, dT d, rfl, ?_⟩
    cases d with
    | tuple ds =>
      obtain ⟨p, xs, rfl, hp, hx⟩ := hd
      obtain ⟨few, fewD⟩ : ds.length ≤ 20 ∧ ∀ d ∈ ds, fewC.fewD d := few
      have lx := hx.len
      refine iteF ⟨.ref p, rfl, p, _, rfl, .inr (.inl hp), _, 3, rfl, rfl, _, rfl, ?_⟩
      match ds, hx, few, fewD, lx, q with
      | [], hx, _, _, lx, q =>
        have lx : xs.length = 0 := lx
        rw [decide_eq_true (show ((xs.length : Nat) : Int) < 3 by omega)]
        exact iteT (q _ (Same.refl _))
      | [_], hx, _, _, lx, q =>
        have lx : xs.length = 1 := lx
        rw [decide_eq_true (show ((xs.length : Nat) : Int) < 3 by omega)]
        rw [claim_one] at q
        exact iteT (q _ (Same.refl _))
      | [_, _], hx, _, _, lx, q =>
        have lx : xs.length = 2 := lx
        rw [decide_eq_true (show ((xs.length : Nat) : Int) < 3 by omega)]
        rw [claim_two] at q
        exact iteT (q _ (Same.refl _))
      | d0 :: d1 :: d2 :: rest, hx, few, fewD, lx, q =>
        have lx : xs.length = rest.length + 3 := lx
        rw [decide_eq_false (show ¬ ((xs.length : Nat) : Int) < 3 by omega)]
        have hx0 := hx
        obtain ⟨x0, _, rfl, h0, x1, _, rfl, h1, x2, xr, rfl, h2, hr'⟩ := hx
        have at0 : atI (x0 :: x1 :: x2 :: xr) 0 = some x0 := atI_nat (j := 0) rfl
        obtain ⟨ty0, hty0, _, k2, _⟩ := h0.ty (K := K)
        refine iteF ⟨.ref p, rfl, p, _, 0, x0, rfl, rfl, .inl hp, at0, x0, _, ty0, _, dS d0, rfl, .ty _, hty0, k2, dS d0, rfl, ?_⟩
        cases d0 with
        | str w =>
          obtain rfl : x0 = V.str w := h0
          refine iteF ⟨.ref o, rfl, .ref p, rfl, 1, rfl, 3, rfl, ?_⟩
          refine slX_rd hp fun s2 H2 rd2 sm2 => ?_
          rw [cut_two] at rd2
          refine ⟨o, s2, zs, [x1, x2], [d1, d2], rfl, sm2 _ _ ho, .inr rd2, da1 (DAt.same sm2 _ h1) (da1 (DAt.same sm2 _ h2) da0), (by show 2 ≤ 500; decide), fun H3 sm3 => ⟨_, rfl, ?_⟩⟩
          have s03 := sm2.trans sm3
          cases cu : unlikeD zs [d1, d2] with
          | false =>
            rw [claim_odd cu] at q
            exact iteT (q _ s03)
          | true =>
            have cu' := cu
            unfold unlikeD at cu'
            rw [Bool.and_eq_true, List.all_cons, List.all_cons, Bool.and_eq_true, Bool.and_eq_true] at cu'
            obtain ⟨a, rfl⟩ : ∃ a, d1 = .str a := by
              cases d1 with
              | str a => exact ⟨a, rfl⟩
              | _ => cases cu'.1.1
            obtain ⟨b, rfl⟩ : ∃ b, d2 = .str b := by
              cases d2 with
              | str b => exact ⟨b, rfl⟩
              | _ => cases cu'.1.2.1
            obtain rfl : x1 = V.str a := h1
            obtain rfl : x2 = V.str b := h2
            have e : claimD zs (.tuple (.str w :: .str a :: .str b :: rest)) = (if w = "before" then rest.isEmpty else withinD zs w a b rest) := by
              show (unlikeD zs [.str a, .str b] && _) = _
              rw [cu, Bool.true_and]
            rw [e] at q
            have hp3 := rd_same s03 hp
            have lr : xr.length = rest.length := hr'.len
            refine iteF ⟨.ref p, rfl, p, _, 0, _, rfl, rfl, .inl hp3, at0, rfl, _, rfl, ?_⟩
            by_cases cb : w = "before"
            · rw [decide_eq_true (congrArg V.str cb)]
              rw [if_pos cb] at q
              refine iteT ⟨.ref p, rfl, p, _, rfl, .inr (.inl hp3), rfl, ?_⟩
              have e3 : decide (V.int (((V.str w :: V.str a :: V.str b :: xr).length : Nat) : Int) = V.int 3) = rest.isEmpty := by
                cases rest with
                | nil =>
                  have : xr = [] := List.length_eq_zero_iff.mp lr
                  rw [this]
                  rfl
                | cons y ys =>
                  refine decide_eq_false fun h => ?_
                  have h := V.int.inj h
                  have : (V.str w :: V.str a :: V.str b :: xr).length = xr.length + 3 := rfl
                  rw [this, lr, List.length_cons] at h
                  omega
              exact e3 ▸ q _ s03
            · rw [decide_eq_false fun h => cb (V.str.inj h)]
              rw [if_neg cb] at q
              refine iteF ⟨.ref p, rfl, p, _, 0, _, rfl, rfl, .inl hp3, at0, rfl, _, rfl, ?_⟩
              by_cases cw : w = "within"
              · rw [decide_eq_true (congrArg V.str cw)]
                refine iteT ⟨.ref p, rfl, p, _, rfl, .inr (.inl hp3), rfl, _, rfl, ?_⟩
                have lxx : (V.str w :: V.str a :: V.str b :: xr).length = rest.length + 3 := by rw [← lr] <;> rfl
                match rest, hr', fewD, q, lxx with
                | [], _, _, q, lxx =>
                  rw [decide_eq_false fun h => by have h := V.int.inj h; rw [lxx] at h; have : ([] : List PyData).length = 0 := rfl; omega]
                  exact iteF (q _ s03)
                | [l], hr', fewD, q, lxx =>
                  rw [decide_eq_true (show V.int (((V.str w :: V.str a :: V.str b :: xr).length : Nat) : Int) = V.int 4 by rw [lxx] <;> rfl)]
                  have e : withinD zs w a b [l] = lotD zs a b l := by
                    show (decide (w = "within") && lotD zs a b l) = _
                    rw [decide_eq_true cw, Bool.true_and]
                  rw [e] at q
                  obtain ⟨x3, _, rfl, h3, hnil⟩ := hr'
                  have at3 : atI (V.str w :: V.str a :: V.str b :: x3 :: ‹List V›) 3 = some x3 := atI_nat (j := 3) rfl
                  refine iteT ⟨.ref o, rfl, .ref p, rfl, p, _, 3, x3, rfl, rfl, .inl hp3, at3, .ref p, rfl, 1, rfl, 3, rfl, ?_⟩
                  refine slX_rd hp3 fun s4 H4 rd4 sm4 => ?_
                  rw [cut_two] at rd4
                  exact ⟨o, s4, zs, x3, l, a, b, rfl, (s03.trans sm4) _ _ ho, z6, okz, DAt.same (s03.trans sm4) _ h3, fewD l (List.mem_cons_of_mem _ (List.mem_cons_of_mem _ (List.mem_cons_of_mem _ List.mem_cons_self))), rd4, fun H5 sm5 => q _ (s03.trans (sm4.trans sm5))⟩
                | _ :: _ :: _, _, _, q, lxx =>
                  rw [decide_eq_false fun h => by have h := V.int.inj h; rw [lxx, List.length_cons, List.length_cons] at h; omega]
                  exact iteF (q _ s03)
              · rw [decide_eq_false fun h => cw (V.str.inj h)]
                have ef : withinD zs w a b rest = false := by
                  cases rest with
                  | nil => rfl
                  | cons y ys =>
                    cases ys with
                    | nil =>
                      show (decide (w = "within") && _) = false
                      rw [decide_eq_false cw, Bool.false_and]
                    | cons _ _ => rfl
                rw [ef] at q
                exact iteF (q _ s03)
        | _ => exact iteT (q _ (Same.refl _))
    | _ => exact iteT (q _ (Same.refl _))
end
/-! ### how many voices more a claim tells -/
theorem filter_takeG {α : Type} {f : α → Bool} {l : List α} {i : Nat} {a : α} (h : l[i]? = some a) : (l.take (i + 1)).filter f = (l.take i).filter f ++ if f a = true then [a] else [] := by
  rw [take_more h, List.filter_append]
  congr 1
  cases e : f a with
  | true => rw [if_pos rfl, List.filter_cons, if_pos e] <;> rfl
  | false => rw [if_neg Bool.false_ne_true, List.filter_cons, if_neg (by rw [e]; exact Bool.false_ne_true)] <;> rfl
inductive Clm where
  | before (a b : Str)
  | within (a b : Str) (ls : List Str)
def Clm.one : Clm → Str
  | .before a _ => a
  | .within a _ _ => a
def Clm.two : Clm → Str
  | .before _ b => b
  | .within _ b _ => b
def Clm.data : Clm → PyData
  | .before a b => .tuple [.str "before", .str a, .str b]
  | .within a b ls => .tuple [.str "within", .str a, .str b, .tuple (ls.map PyData.str)]
def Clm.Ok (zs : List Str) : Clm → Prop
  | .before a b => a ∈ zs ∧ b ∈ zs ∧ a ≠ b
  | .within a b ls => a ∈ zs ∧ b ∈ zs ∧ a ≠ b ∧ ls.Nodup ∧ (ls = zs.filter fun z => decide (z ∈ ls)) ∧ a ∈ ls ∧ b ∈ ls
def against (rows : List (Bal × Int)) (a b : Str) : Int := (rows.map fun r => if r.1.rk b < r.1.rk a then r.2 else 0).sum
def Clm.lead (zs : List Str) (rows : List (Bal × Int)) : Clm → Int
  | .before a b => tallySum zs rows a - against rows a b
  | .within a b ls => tallySum ls rows a - tallySum ls rows b
theorem unlike_two {zs : List Str} {a b : Str} (ha : a ∈ zs) (hb : b ∈ zs) (ne : a ≠ b) : unlikeD zs [.str a, .str b] = true :=
  unlike_strs (ws := [a, b]) (by simp [ne]) fun z hz => by
    rcases List.mem_cons.mp hz with rfl | hz
    · exact ha
    · rw [List.mem_singleton.mp hz]
      exact hb
theorem Clm.Ok.claim {zs : List Str} : ∀ {c : Clm}, c.Ok zs → claimD zs c.data = true
  | .before a b, ⟨ha, hb, ne⟩ => by
    show (unlikeD zs [.str a, .str b] && (if ("before" : Str) = "before" then true else _)) = true
    rw [unlike_two ha hb ne, if_pos rfl] <;> rfl
  | .within a b ls, ⟨ha, hb, ne, nd, el, ma, mb⟩ => by
    have h1 : unlikeD zs (ls.map PyData.str) = true := unlike_strs nd fun z hz => by rw [el] at hz; exact (List.mem_filter.mp hz).1
    have h2 : lotD zs a b (.tuple (ls.map PyData.str)) = true := by
      show (unlikeD zs (ls.map PyData.str) && (decide ((ls.map PyData.str).filterMap unS = zs.filter fun z => decide (z ∈ (ls.map PyData.str).filterMap unS)) && (decide (a ∈ (ls.map PyData.str).filterMap unS) && decide (b ∈ (ls.map PyData.str).filterMap unS)))) = true
      rw [unS_strs, h1, decide_eq_true el, decide_eq_true ma, decide_eq_true mb] <;> rfl
    show (unlikeD zs [.str a, .str b] && (if ("within" : Str) = "before" then _ else (decide (("within" : Str) = "within") && lotD zs a b (.tuple (ls.map PyData.str))))) = true
    rw [unlike_two ha hb ne, if_neg (by decide +kernel), h2, decide_eq_true rfl] <;> rfl
theorem alone_tally (zs : List Str) (z : Str) : ∀ rows : List (Bal × Int), aloneSum 0 zs rows z = tallySum zs rows z
  | [] => rfl
  | r :: rows => by
    have ih := alone_tally zs z rows
    show (if aloneB zs (fun y => side 0 (r.1.rk y)) z = true then r.2 else 0) + aloneSum 0 zs rows z = (if aloneB zs r.1.rk z = true then r.2 else 0) + tallySum zs rows z
    rw [ih]
    rfl
section
variable {P : Program} {w : World} {K : PySem.W.Frag} {mg : Str → Option Value} {base : Heap}
def sp_check_claim (CB : Addr) : Sp := fun vs H Q E => ∃ (o : Addr) (zs : List Str) (v : V) (d : PyData), vs = [.ref o, v] ∧ H o = some (.tup (zs.map V.str)) ∧ zs.length ≤ 6 ∧ (∀ z ∈ zs, NameOk z) ∧ DAt H d v ∧ fewC d ∧ (claimD zs d = true → ∀ H', Same H H' → Q .non H') ∧ (claimD zs d = false → BadE CB H E)
theorem ok_check_claim (T : Txt K mg) : FnOk P w K mg base (L2.CX P w) 5 T.f_check_claim T.fd_check_claim ["options", "claim"] (sp_check_claim T.C_BadClaim) := by
  refine T.F_check_claim.okX sc_check_claim (fun vs H Q E h => ?_) (fun cdv A outer s H vs Q E hr h => ?_)
  · obtain ⟨o, zs, v, d, rfl, _⟩ := h
    rfl
  · obtain ⟨o, zs, v, d, rfl, ho, z6, okz, hd, few, q, bad⟩ := h
    refine ⟨_, (pss_one
 (ps_if (pt_not (pt_val (pe_call (ok_is_claim T) (hr.mono (by decide)) (by rfl) T.g_is_claim T.F_is_claim.kp T.b_is_claim .nil pass0 (pa_cons (pv 0) (pa_cons (pv 1) pa_nil)))))
 (pss_one
 (ps_raise rfl (takes_of rfl rfl rfl rfl) (px_pos T.ex_BadClaim (ok_PollError_init T) (hr.mono (by decide)) (by rfl) T.k_BadClaim T.kb_PollError_init_2 (fun σ => at0 σ) (pa_cons pe_str pa_nil))))
 pss_nil)), ?_⟩
    refine ⟨.ref o, rfl, v, rfl, o, zs, v, d, rfl, ho, z6, okz, hd, few, fun H1 s1 => ⟨_, rfl, ?_⟩⟩
    cases c : claimD zs d with
    | true => exact iteF (q c H1 s1)
    | false =>
      refine iteT ⟨rfl, rfl, by decide, fun x nx => ⟨x, T.C_BadClaim, _, rfl, upd_same, T.ox_BadClaim, T.nf_BadClaim_why, fun dx n1 n2 => ⟨rfl, dx, _, upd_same, by rw [upd_ne n2, upd_same], ?_, ?_⟩⟩⟩
      · rw [upd_ne n2] at n1
        exact n1
      · rw [upd_ne n2] at n1
        refine bad c dx _ _ (s1.trans fun y o ho => ?_) (s1.free n1) upd_same
        have y1 : y ≠ dx := ne_of_none ho n1
        have y2 : y ≠ x := ne_of_none ho nx
        rw [upd_ne y1, del_ne y2, upd_ne y2, upd_ne y1, upd_ne y2]
        exact ho
def sp_lead (C CB : Addr) : Sp := fun vs H Q E => ∃ (p o u : Addr) (zs : List Str) (rows : List (Bal × Int)) (v : V) (d : PyData), vs = [.ref p, v] ∧ PollOk C H p o u zs rows ∧ DAt H d v ∧ fewC d ∧
  ((∃ c : Clm, d = c.data ∧ c.Ok zs ∧ ∀ H', Same H H' → Q (.int (c.lead zs rows)) H') ∨ (claimD zs d = false ∧ BadE CB H E))
theorem Clm.words {H : Hp} {c : Clm} {v : V} (h : DAt H c.data v) : ∃ (p : Addr) (xr : List V), v = .ref p ∧ (match c with
    | .before a b => Rd H p (.tup [.str "before", .str a, .str b])
    | .within a b ls => ∃ t : Addr, Rd H p (.tup [.str "within", .str a, .str b, .ref t]) ∧ Rd H t (.tup (ls.map V.str))) := by
  cases c with
  | before a b =>
    obtain ⟨p, xs, e, hp, x0, _, rfl, h0, x1, _, rfl, h1, x2, _, rfl, h2, hn⟩ := h
    obtain rfl : x0 = V.str "before" := h0
    obtain rfl : x1 = V.str a := h1
    obtain rfl : x2 = V.str b := h2
    rw [show _ = ([] : List V) from hn] at hp
    exact ⟨p, [], e, hp⟩
  | within a b ls =>
    obtain ⟨p, xs, e, hp, x0, _, rfl, h0, x1, _, rfl, h1, x2, _, rfl, h2, x3, _, rfl, h3, hn⟩ := h
    obtain rfl : x0 = V.str "within" := h0
    obtain rfl : x1 = V.str a := h1
    obtain rfl : x2 = V.str b := h2
    obtain ⟨t, ys, rfl, ht, hy⟩ := h3
    rw [show _ = ([] : List V) from hn] at hp
    rw [hy.of_strs] at ht
    exact ⟨p, [], e, t, hp, ht⟩
theorem ok_lead (T : Txt K mg) : FnOk P w K mg base (L2.CX P w) 6 T.f_lead T.fd_lead ["poll", "claim"] (sp_lead T.C_Poll T.C_BadClaim) := by
  refine T.F_lead.okX sc_lead (fun vs H Q E h => ?_) (fun cdv A outer s H vs Q E hr h => ?_)
  · obtain ⟨p, o, u, zs, rows, v, d, rfl, _⟩ := h
    rfl
  · obtain ⟨p, o, u, zs, rows, v, d, rfl, pk, hd, few, h⟩ := h
    refine ⟨_, (pss_cons
 (ps_expr (pf_pos (ok_check_claim T) (hr.mono (by decide)) (by rfl) T.g_check_claim T.F_check_claim.kp T.kb_check_claim_2 (fun σ => atE (takes_of rfl rfl rfl rfl) σ) (pa_cons (pe_fld (pv 0) rfl) (pa_cons (pv 1) pa_nil))))
 (pss_cons
 (ps_asg (pe_slice sl_tupA (pv 1) (po_some pe_int) (po_some pe_int)) (pg_tup rfl (pgs_cons (pg_name (i := 2) sc_lead.nd rfl (Or.inr rfl)) (pgs_cons (pg_name (i := 3) sc_lead.nd rfl (Or.inr rfl)) pgs_nil))))
 (pss_cons
 (ps_set (i := 4) sc_lead.nd rfl (Or.inl rfl) (pe_call (ok_ranked T) (hr.mono (by decide)) (by rfl) T.g_ranked T.F_ranked.kp T.b_ranked .nil pass0 (pa_cons (pv 0) pa_nil)))
 (pss_cons
 (ps_if (pt_cmpR op_eq (pe_ix ix_tup (pv 1) pe_int (fun _ _ => rfl)) pe_str (nomark _))
 (pss_one
 (ps_ret (pe_op op_sub (pe_dget (hu_of hr) (pe_call (ok_firsts T) (hr.mono (by decide)) (by rfl) T.g_firsts T.F_firsts.kp T.b_firsts .nil pass0 (pa_cons (pv 0) pa_nil)) (pv 2) (fun _ _ => rfl)) (pe_callB (cr_sum rfl) (by rfl) T.z_sum (by decide +kernel) (pa_cons (pe_lc (own := [("rank", 6), ("many", 7)]) rfl sc_lead.nd (pi_list (pv 4)) (blkOk_by (own := [("rank", 6), ("many", 7)]) (N := ["poll", "claim", "one", "other", "rows", "held", "rank", "many"]) (sc := (defScope s_lead)) (by decide +kernel)) (fun s0 H0 C0 cl0 fp0 => (by have h := (pg_tup (n := 2) rfl (pgs_cons (pg_name (i := 6) sc_lead.nd rfl (Or.inl rfl)) (pgs_cons (pg_name (i := 7) sc_lead.nd rfl (Or.inl rfl)) pgs_nil)) : PG ((cxOf (L2.CX P w) P w K mg base ["poll", "claim", "one", "other", "rows", "held", "rank", "many"] "lead" (defScope s_lead) T.f_lead cdv A outer s H E).blk s0 H0 (lcScope (subE (subE (rootE ((blkOf ((defBody s_lead).getD 3 (.Pass ⟨0, 0, 0, 0⟩)) 0).getD 0 (.Pass ⟨0, 0, 0, 0⟩))) 1) 1)) (compEnvC (lcScope (subE (subE (rootE ((blkOf ((defBody s_lead).getD 3 (.Pass ⟨0, 0, 0, 0⟩)) 0).getD 0 (.Pass ⟨0, 0, 0, 0⟩))) 1) 1)) cl0 C0 (cxOf (L2.CX P w) P w K mg base ["poll", "claim", "one", "other", "rows", "held", "rank", "many"] "lead" (defScope s_lead) T.f_lead cdv A outer s H E).env) fp0) (subE (subE (subE (rootE ((blkOf ((defBody s_lead).getD 3 (.Pass ⟨0, 0, 0, 0⟩)) 0).getD 0 (.Pass ⟨0, 0, 0, 0⟩))) 1) 1) 2) _); dsimp only [Cx.blk, Cx.tr, Cx.suite, Cx.nox, Cx.wish, cxOf] at h; exact h)) (fun s0 H0 C0 cl0 fp0 => (by have h := ((pts_one (pt_cmpR op_lt (pe_dget (hu_of hr) (pv 6) (pv 3) (fun _ _ => rfl)) (pe_dget (hu_of hr) (pv 6) (pv 2) (fun _ _ => rfl)) (nomark _))) : PTs ((cxOf (L2.CX P w) P w K mg base ["poll", "claim", "one", "other", "rows", "held", "rank", "many"] "lead" (defScope s_lead) T.f_lead cdv A outer s H E).blk s0 H0 (lcScope (subE (subE (rootE ((blkOf ((defBody s_lead).getD 3 (.Pass ⟨0, 0, 0, 0⟩)) 0).getD 0 (.Pass ⟨0, 0, 0, 0⟩))) 1) 1)) (compEnvC (lcScope (subE (subE (rootE ((blkOf ((defBody s_lead).getD 3 (.Pass ⟨0, 0, 0, 0⟩)) 0).getD 0 (.Pass ⟨0, 0, 0, 0⟩))) 1) 1)) cl0 C0 (cxOf (L2.CX P w) P w K mg base ["poll", "claim", "one", "other", "rows", "held", "rank", "many"] "lead" (defScope s_lead) T.f_lead cdv A outer s H E).env) fp0) (lcIfs (subE (subE (rootE ((blkOf ((defBody s_lead).getD 3 (.Pass ⟨0, 0, 0, 0⟩)) 0).getD 0 (.Pass ⟨0, 0, 0, 0⟩))) 1) 1)) _); dsimp only [Cx.blk, Cx.tr, Cx.suite, Cx.nox, Cx.wish, cxOf] at h; exact h)) (fun _ _ _ _ _ => (pv 7))) pa_nil)))))
 pss_nil)
 (pss_cons
 (ps_set (i := 5) sc_lead.nd rfl (Or.inl rfl) (pe_call (ok_tally_by T) (hr.mono (by decide)) (by rfl) T.g_tally_by T.F_tally_by.kp T.b_tally_by .nil pass0 (pa_cons (pv 4) (pa_cons (pe_ix ix_tup (pv 1) pe_int (fun _ _ => rfl)) pa_nil))))
 (pss_one
 (ps_ret (pe_op op_sub (pe_dget (hu_of hr) (pv 5) (pv 2) (fun _ _ => rfl)) (pe_dget (hu_of hr) (pv 5) (pv 3) (fun _ _ => rfl)))))))))), ?_⟩
    obtain ⟨⟨dx, hp⟩, ho, hrow, ok, rok⟩ := id pk
    refine ⟨.ref p, rfl, p, T.C_Poll, dx, _, .ref o, rfl, hp, T.cl_Poll, T.n_Poll_options, pollF_options o u, v, rfl, rfl, rfl, o, zs, v, d, rfl, ho, ok.few, ok.names, hd, few, ?_⟩
    rcases h with ⟨c, rfl, cok, q⟩ | ⟨c0, bad⟩
    case inr => exact ⟨fun e => (by rw [c0] at e; cases e), fun _ => bad⟩
    refine ⟨fun _ H1 s1 => ?_, fun e => (by rw [cok.claim] at e; cases e)⟩
    cases c with
    | before a b =>
      obtain ⟨pc, _, rfl, rd⟩ := Clm.words hd
      have rd : Rd H pc (.tup [.str "before", .str a, .str b]) := rd
      have rd1 := rd_same s1 rd
      obtain ⟨ha, hb, ne⟩ := cok
      refine ⟨.ref pc, rfl, 1, rfl, 3, rfl, ?_⟩
      refine slX_rd rd1 fun s2 H2 rd2 sm2 => ?_
      rw [cut_two] at rd2
      refine ⟨s2, _, rfl, .inl rd2, rfl, _, _, rfl, _, _, rfl, rfl, ?_⟩
      have s12 := s1.trans sm2
      refine ⟨.ref p, rfl, p, o, u, zs, rows, rfl, pk.same s12, fun l qs H3 s3 rk em => ?_⟩
      have s13 := s12.trans s3
      refine ⟨.ref pc, rfl, pc, _, 0, _, rfl, rfl, .inl (rd_same s13 rd), atI_nat (j := 0) rfl, rfl, _, rfl, ?_⟩
      rw [decide_eq_true rfl]
      refine iteT ⟨.ref p, rfl, p, o, u, zs, rows, rfl, pk.same s13, fun D H4 s4 nD eD => ?_⟩
      have gd : DGet H4 D (.str a) (some (.int (tallySum zs rows a))) := by
        have := DGet.k (k := .inr a) eD
        rw [tab_val, if_pos ha, alone_tally] at this
        exact this
      refine ⟨.str a, rfl, D, _, rfl, gd, ?_⟩
      have rk4 := rk.same s4
      refine ⟨.ref l, rfl, l, rfl, ⟨_, .of rk4.1⟩, fun F nF => ?_⟩
      refine lc_list (K := K) (a := l) (xs := qs.map fun q => V.ref q.1) (fun j H' => Same H4 H' ∧ H' F = some (.lst ((((qs.take j).filter fun q => decide (q.2.2.1.rk b < q.2.2.1.rk a)).map (·.2.2.2)).map V.int))) ⟨same_upd nF, upd_same⟩ (fun _ _ _ h => .of (h.1 _ _ rk4.1)) ?_ ?_
      · rintro j x H5 hj ⟨s5, e5⟩
        obtain ⟨q0, hq, rfl⟩ := item_map hj
        obtain ⟨h1, h2⟩ := rk4.2 q0 (List.mem_of_getElem? hq)
        have h1 := s5 _ _ h1
        have h2 := s5 _ _ h2
        have get : ∀ {x : Str}, x ∈ zs → DGet H5 q0.2.1 (.str x) (some (.int (q0.2.2.1.rk x))) := fun {x} hx => by
          have := DGet.k (k := .inr x) h2
          rw [tab_val, if_pos hx] at this
          exact this
        have ft := filter_takeG (f := fun q : Addr × Addr × (Bal × Int) => decide (q.2.2.1.rk b < q.2.2.1.rk a)) hq
        refine ⟨q0.1, _, rfl, .of h1, rfl, _, _, rfl, _, _, rfl, rfl, rfl, ?_⟩
        refine ⟨.ref q0.2.1, rfl, .str b, rfl, q0.2.1, _, rfl, get hb, .ref q0.2.1, rfl, .str a, rfl, q0.2.1, _, rfl, get ha, _, _, rfl, rfl, _, rfl, ?_⟩
        by_cases c : q0.2.2.1.rk b < q0.2.2.1.rk a
        · rw [decide_eq_true c]
          rw [if_pos (decide_eq_true c)] at ft
          refine iteT ⟨.int q0.2.2.2, rfl, _, e5, ?_, same_mut s5 nF, ?_⟩
          · rw [List.length_map, List.length_map]
            have := List.length_filter_le (fun q : Addr × Addr × (Bal × Int) => decide (q.2.2.1.rk b < q.2.2.1.rk a)) (qs.take j)
            have l30 : qs.length ≤ 30 := by
              have := rok.1
              rw [← em, List.length_map] at this
              exact this
            rw [List.length_take] at this
            exact small1000 (by omega)
          · rw [upd_same, ft, List.map_append, List.map_append]
            rfl
        · rw [decide_eq_false c]
          rw [if_neg (by rw [decide_eq_false c]; exact Bool.false_ne_true), List.append_nil] at ft
          refine iteF ⟨s5, ?_⟩
          rw [ft]
          exact e5
      · rintro H5 ⟨s5, e5⟩
        rw [List.length_map, List.take_length] at e5
        refine ⟨F, _, rfl, .of e5, _, _, rfl, rfl, ?_⟩
        have es : ((qs.filter fun q => decide (q.2.2.1.rk b < q.2.2.1.rk a)).map (·.2.2.2)).sum = against rows a b := by
          rw [← em]
          unfold against
          clear e5 eD gd rk rk4 em
          induction qs with
          | nil => rfl
          | cons q0 qs ih =>
            rw [List.map_cons, List.map_cons, List.sum_cons, List.filter_cons]
            by_cases c : q0.2.2.1.rk b < q0.2.2.1.rk a
            · rw [if_pos (decide_eq_true c), if_pos c, List.map_cons, List.sum_cons, ih]
            · rw [if_neg (by rw [decide_eq_false c]; exact Bool.false_ne_true), if_neg c, ih, Int.zero_add]
        rw [es]
        exact q _ (s13.trans (s4.trans s5))
    | within a b ls =>
      obtain ⟨pc, _, rfl, tl, rd, rt⟩ := Clm.words hd
      have rd1 := rd_same s1 rd
      obtain ⟨ha, hb, ne, nd, el, ma, mb⟩ := cok
      have sub : ∀ z ∈ ls, z ∈ zs := fun z hz => by rw [el] at hz; exact (List.mem_filter.mp hz).1
      refine ⟨.ref pc, rfl, 1, rfl, 3, rfl, ?_⟩
      refine slX_rd rd1 fun s2 H2 rd2 sm2 => ?_
      rw [cut_two] at rd2
      refine ⟨s2, _, rfl, .inl rd2, rfl, _, _, rfl, _, _, rfl, rfl, ?_⟩
      have s12 := s1.trans sm2
      refine ⟨.ref p, rfl, p, o, u, zs, rows, rfl, pk.same s12, fun l qs H3 s3 rk em => ?_⟩
      have s13 := s12.trans s3
      refine ⟨.ref pc, rfl, pc, _, 0, _, rfl, rfl, .inl (rd_same s13 rd), atI_nat (j := 0) rfl, rfl, _, rfl, ?_⟩
      rw [decide_eq_false (show ¬ V.str "within" = V.str "before" by decide +kernel)]
      refine iteF ⟨.ref l, rfl, .ref pc, rfl, pc, _, 3, _, rfl, rfl, .inl (rd_same s13 rd), atI_nat (j := 3) rfl, ?_⟩
      refine ⟨l, tl, zs, ls, qs, rfl, rk, rd_same s13 rt, List.length_pos_of_mem ma, Nat.le_trans (nd.length_le_of_subset sub) ok.few, nd, sub, fun D H4 s4 nD eD => ?_⟩
      rw [em] at eD
      have get : ∀ {x : Str}, x ∈ ls → DGet H4 D (.str x) (some (.int (tallySum ls rows x))) := fun {x} hx => by
        have := DGet.k (k := .inr x) eD
        rw [tab_val, if_pos hx] at this
        exact this
      refine ⟨.ref D, rfl, .str a, rfl, D, _, rfl, get ma, .ref D, rfl, .str b, rfl, D, _, rfl, get mb, _, _, rfl, rfl, ?_⟩
      exact q _ (s13.trans s4)
end
/-! ### the law's own heights -/
def Bal.hj : Bal → Str → Int
  | .order ts, z => (ts.length : Int) - (place ts z : Nat)
  | .lets ns, z => if z ∈ ns then 1 else 0
  | .marks ms, z => (mkAt ms z).getD 0
theorem mT_merge : ∀ {ms a : List (Str × Int)}, ((a ++ ms).map (·.1)).Nodup → mergeK (mT a) (mT ms) = mT (a ++ ms)
  | [], a, _ => by rw [List.append_nil]; rfl
  | m :: ms, a, h => by
    have out : m.1 ∉ a.map (·.1) := by
      rw [List.map_append, List.map_cons] at h
      intro q
      exact (List.nodup_append.mp h).2.2 _ q _ List.mem_cons_self rfl
    show mergeK (putK (mT a) (.inr m.1) (.int m.2)) (mT ms) = _
    rw [mT_put out, mT_merge (by rw [List.append_assoc]; exact h), List.append_assoc]
    rfl
theorem paired_marks {K : PySem.W.Frag} {H : Hp} : ∀ {bs : List (Addr × (Str × Int))}, (∀ b ∈ bs, H b.1 = some (.tup [.str b.2.1, .int b.2.2])) → Paired (fun p (kv : Key × V) => SqT K H p [kV kv.1, kv.2]) (bs.map (·.1)) (mT (bs.map (·.2)))
  | [], _ => .nil
  | b :: bs, h => .cons (.of (h b List.mem_cons_self)) (paired_marks fun c hc => h c (List.mem_cons_of_mem _ hc))
section
variable {P : Program} {w : World} {K : PySem.W.Frag} {mg : Str → Option Value} {base : Heap}
def sp_law_high : Sp := fun vs H Q _ => ∃ (t : Addr) (z : Str) (zs : List Str) (b : Bal), vs = [.ref t, .str z] ∧ BalAt H t b ∧ b.Ok zs ∧ zs.length ≤ 6 ∧ ∀ H', Same H H' → Q (.int (b.hj z)) H'
theorem ok_law_high (T : Txt K mg) : FnOk P w K mg base CX0 1 T.f_law_high T.fd_law_high ["_law_ballot_here", "_law_name"] sp_law_high := by
  refine T.F_law_high.ok sc_law_high (fun vs H Q E h => ?_) (fun cdv A outer s H vs Q E hr h => ?_)
  · obtain ⟨t, z, zs, b, rfl, _⟩ := h
    rfl
  · obtain ⟨t, z, zs, b, rfl, hb, bok, lz, q⟩ := h
    refine ⟨_, (pss_cons
 (ps_asg (pv 0) (pg_tup rfl (pgs_cons (pg_name (i := 2) sc_law_high.nd rfl (Or.inl rfl)) (pgs_cons (pg_name (i := 3) sc_law_high.nd rfl (Or.inr rfl)) pgs_nil))))
 (pss_cons
 (ps_if (pt_cmpR op_eq (pv 2) pe_str (nomark _))
 (pss_cons
 (ps_setLc (i := 4) (own := [("_law_k", 5)]) (g := gName 5) rfl sc_law_high.nd rfl rfl (sw_true rfl rfl rfl (by decide +kernel)) (pi_range1 rfl T.z_range (pa_cons (pe_callB call_len_seq (by rfl) T.z_len (by decide +kernel) (pa_cons (pv 3) pa_nil)) pa_nil)) (blkOk_by (own := [("_law_k", 5)]) (N := ["_law_ballot_here", "_law_name", "_law_word", "_law_things", "_law_found", "_law_k"]) (sc := (defScope s_law_high)) (by decide +kernel)) (fun _ _ _ _ _ => pg_name (i := 5) sc_law_high.nd rfl (Or.inl rfl)) (fun s0 H0 C0 cl0 fp0 => (by have h := ((pts_one (pt_cmpR op_in_seq (pv 1) (pe_ix ix_tup (pv 3) (pv 5) (fun _ _ => rfl)) rfl)) : PTs ((cxOf CX0 P w K mg base ["_law_ballot_here", "_law_name", "_law_word", "_law_things", "_law_found", "_law_k"] "_law_high" (defScope s_law_high) T.f_law_high cdv A outer s H E).nox.blk s0 H0 (lcScope (rootE ((blkOf ((defBody s_law_high).getD 1 (.Pass ⟨0, 0, 0, 0⟩)) 0).getD 0 (.Pass ⟨0, 0, 0, 0⟩)))) (compEnvC (lcScope (rootE ((blkOf ((defBody s_law_high).getD 1 (.Pass ⟨0, 0, 0, 0⟩)) 0).getD 0 (.Pass ⟨0, 0, 0, 0⟩)))) cl0 C0 (cxOf CX0 P w K mg base ["_law_ballot_here", "_law_name", "_law_word", "_law_things", "_law_found", "_law_k"] "_law_high" (defScope s_law_high) T.f_law_high cdv A outer s H E).nox.env) fp0) (lcIfs (rootE ((blkOf ((defBody s_law_high).getD 1 (.Pass ⟨0, 0, 0, 0⟩)) 0).getD 0 (.Pass ⟨0, 0, 0, 0⟩)))) _); dsimp only [Cx.blk, Cx.tr, Cx.suite, Cx.nox, Cx.wish, cxOf] at h; exact h)) (fun s0 H0 C0 cl0 fp0 => (by have h := ((pe_op op_sub (pe_callB call_len_seq (by rfl) T.z_len (by decide +kernel) (pa_cons (pv 3) pa_nil)) (pv 5)) : PE ((cxOf CX0 P w K mg base ["_law_ballot_here", "_law_name", "_law_word", "_law_things", "_law_found", "_law_k"] "_law_high" (defScope s_law_high) T.f_law_high cdv A outer s H E).nox.blk s0 H0 (lcScope (rootE ((blkOf ((defBody s_law_high).getD 1 (.Pass ⟨0, 0, 0, 0⟩)) 0).getD 0 (.Pass ⟨0, 0, 0, 0⟩)))) (compEnvC (lcScope (rootE ((blkOf ((defBody s_law_high).getD 1 (.Pass ⟨0, 0, 0, 0⟩)) 0).getD 0 (.Pass ⟨0, 0, 0, 0⟩)))) cl0 C0 (cxOf CX0 P w K mg base ["_law_ballot_here", "_law_name", "_law_word", "_law_things", "_law_found", "_law_k"] "_law_high" (defScope s_law_high) T.f_law_high cdv A outer s H E).nox.env) fp0) (subE (rootE ((blkOf ((defBody s_law_high).getD 1 (.Pass ⟨0, 0, 0, 0⟩)) 0).getD 0 (.Pass ⟨0, 0, 0, 0⟩))) 0) _); dsimp only [Cx.blk, Cx.tr, Cx.suite, Cx.nox, Cx.wish, cxOf] at h; exact h)))
 (pss_one
 (ps_ret (pe_ix ix_list (pe_op op_cat (pv 4) (pe_lst (pa_cons pe_int pa_nil))) pe_int (fun _ _ => rfl)))))
 pss_nil)
 (pss_cons
 (ps_if (pt_cmpR op_eq (pv 2) pe_str (nomark _))
 (pss_one
 (ps_ret (pe_callTy call_int1 (by rfl) T.z_int (by decide +kernel) (pa_cons (pe_cmpR op_in_seq (pv 1) (pv 3) rfl) pa_nil))))
 pss_nil)
 (pss_one
 (ps_ret (pe_dget2 (hu_of hr) (pe_callTy (call_dictF rfl) (by rfl) T.z_dict (by decide +kernel) (pa_cons (pv 3) pa_nil)) (pv 1) pe_int ⟨by rfl, by rfl, by rfl, by rfl⟩)))))), ?_⟩
    have few := (bok.few lz).1
    cases b with
    | order ts =>
      obtain ⟨u, bs, h1, h2, h3, h4⟩ := hb
      refine ⟨.ref t, rfl, t, _, rfl, .of h1, rfl, _, _, rfl, _, _, rfl, rfl, ?_⟩
      refine ⟨.str "order", rfl, rfl, _, rfl, iteT ?_⟩
      obtain ⟨fn, fm, b3⟩ := bok
      have lt : bs.length = ts.length := by rw [← h4, List.length_map]
      have l6 : ts.length ≤ 6 := by
        have : (ts.map tyT).length ≤ 6 := few
        rw [List.length_map] at this
        exact this
      refine ⟨.ref u, rfl, u, _, rfl, .inr (.of h2), _, rfl, by rw [List.length_map]; omega, by rw [List.length_map]; omega, fun D nD => ?_⟩
      have en : (((bs.map fun b => V.ref b.1).length : Nat) : Int).toNat = ts.length := by rw [List.length_map, lt]; rfl
      rw [en]
      refine lc_range (lo := 0) (n := ts.length) (fun i H' => Same H H' ∧ H' D = some (.lst (if place ts z < i then [V.int ((ts.length : Int) - (place ts z : Nat))] else []))) ⟨same_upd nD, by rw [upd_same, if_neg (Nat.not_lt_zero _)]⟩ ?_ ?_
      · rintro i H1 hi ⟨s1, e1⟩
        have hb := List.getElem?_eq_getElem (l := bs) (i := i) (by omega)
        generalize bs[i] = bb at hb
        have hbt := h3 bb (List.mem_of_getElem? hb)
        have tsi : ts[i]? = some bb.2 := by rw [← h4, List.getElem?_map, hb]; rfl
        have hat : atI (bs.map fun b => V.ref b.1) (0 + (i : Int)) = some (.ref bb.1) := by rw [Int.zero_add]; exact atI_nat (by rw [List.getElem?_map, hb]; rfl)
        have nin : inV (.str z) (bb.2.map V.str) = decide (z ∈ bb.2) := inV_str z bb.2
        refine ⟨rfl, .str z, rfl, .ref u, rfl, .int (0 + (i : Int)), rfl, u, _, 0 + (i : Int), .ref bb.1, rfl, rfl, .of (s1 _ _ h2), hat, bb.1, _, rfl, .inr (.of (s1 _ _ hbt.1)), rfl, flat_strs _, _, rfl, ?_⟩
        rw [nin]
        by_cases m : z ∈ bb.2
        · have e := place_at fn tsi m
          rw [e, if_neg (Nat.lt_irrefl _)] at e1
          rw [decide_eq_true m]
          refine iteT ⟨.ref u, rfl, u, _, rfl, .inr (.of (s1 _ _ h2)), .int (0 + (i : Int)), rfl, _, _, rfl, rfl, [], e1, Nat.zero_lt_succ _, same_mut s1 nD, ?_⟩
          rw [upd_same, e, if_pos (Nat.lt_succ_self i), List.length_map, lt, Int.zero_add]
          rfl
        · rw [decide_eq_false m]
          refine iteF ⟨s1, ?_⟩
          rw [e1]
          have : place ts z ≠ i := fun e => m (place_mem tsi e)
          by_cases c : place ts z < i
          · rw [if_pos c, if_pos (by omega)]
          · rw [if_neg c, if_neg (by omega)]
      · rintro H1 ⟨s1, e1⟩
        refine ⟨.ref D, rfl, line_of (show 1 ≤ 1000 by decide), fun L nL => ?_⟩
        have s2 := same_upd (o := HO.lst [V.int 0]) nL
        refine ⟨D, L, _, [.int 0], rfl, rfl, s2 _ _ e1, upd_same, ?_, fun r nr => ?_⟩
        · refine Nat.le_of_lt (small1000 ?_)
          by_cases c : place ts z < ts.length
          · rw [if_pos c]
            exact (show 1 + 1 ≤ 1000 by decide)
          · rw [if_neg c]
            exact (show 0 + 1 ≤ 1000 by decide)
        · refine ⟨r, _, 0, .int ((Bal.order ts).hj z), rfl, rfl, .of upd_same, ?_, q _ ((s1.trans s2).trans (same_upd nr))⟩
          by_cases c : place ts z < ts.length
          · rw [if_pos c]
            exact atI_nat (j := 0) rfl
          · rw [if_neg c]
            refine atI_nat (j := 0) (congrArg (fun k => some (V.int k)) ?_)
            show (0 : Int) = (ts.length : Int) - (place ts z : Nat)
            have := place_le z ts
            omega
    | lets ns =>
      obtain ⟨u, h1, h2⟩ := hb
      refine ⟨.ref t, rfl, t, _, rfl, .of h1, rfl, _, _, rfl, _, _, rfl, rfl, ?_⟩
      refine ⟨.str "lets", rfl, rfl, _, rfl, iteF ?_⟩
      refine ⟨.str "lets", rfl, rfl, _, rfl, iteT ?_⟩
      refine ⟨.str z, rfl, .ref u, rfl, u, _, rfl, .inr (.of h2), rfl, flat_strs ns, .inr ⟨_, rfl, ?_⟩⟩
      have q := q H (Same.refl H)
      have e : (Bal.lets ns).hj z = if inV (.str z) (ns.map V.str) = true then (1 : Int) else 0 := by
        show (if z ∈ ns then (1 : Int) else 0) = _
        rw [inV_str]
        by_cases m : z ∈ ns
        · rw [if_pos m, if_pos (decide_eq_true m)]
        · rw [if_neg m, if_neg (fun h => m (of_decide_eq_true h))]
      rw [e] at q
      exact q
    | marks ms =>
      obtain ⟨u, oo, bs, h1, ⟨od, h2⟩, h3, h4⟩ := hb
      refine ⟨.ref t, rfl, t, _, rfl, .of h1, rfl, _, _, rfl, _, _, rfl, rfl, ?_⟩
      refine ⟨.str "marks", rfl, rfl, _, rfl, iteF ?_⟩
      refine ⟨.str "marks", rfl, rfl, _, rfl, iteF ?_⟩
      obtain ⟨b1, b2, b3⟩ := bok
      have pz := paired_marks (K := K) h3
      rw [h4] at pz
      refine ⟨.ref u, rfl, u, oo, bs.map Prod.fst, mT ms, rfl, by rw [h2, List.map_map]; rfl, od, pz, fun M nM => ?_⟩
      have em : mergeK [] (mT ms) = mT ms := mT_merge (a := []) b1
      rw [em]
      have eM : (upd H M (.dK (mT ms))) M = some (.dK (mT ms)) := upd_same
      refine ⟨M, rfl, .inl ⟨_, .inl eM⟩, .str z, rfl, _, DGet.k (k := .inr z) eM, ?_⟩
      have e : ((mkAt ms z).map V.int).getD (.int 0) = .int ((Bal.marks ms).hj z) := by
        show _ = V.int ((mkAt ms z).getD 0)
        cases mkAt ms z <;> rfl
      rw [mT_val, e]
      exact q _ (same_upd nM)
end
/-! ### the law's own counts -/
theorem Bal.hj_rk : ∀ b : Bal, ∃ c : Int, ∀ z, b.hj z = c - b.rk z
  | .order ts => ⟨ts.length, fun _ => rfl⟩
  | .lets ns => ⟨1, fun z => by
    show (if z ∈ ns then (1 : Int) else 0) = 1 - (if z ∈ ns then (0 : Int) else 1)
    by_cases m : z ∈ ns
    · rw [if_pos m, if_pos m] <;> rfl
    · rw [if_neg m, if_neg m] <;> rfl⟩
  | .marks ms => ⟨0, fun z => by
    show (mkAt ms z).getD 0 = 0 - -((mkAt ms z).getD 0)
    omega⟩
theorem counts_step {ls : List Str} {b : Bal} {k : Int} (nd : ls.Nodup) (hk : k ∈ ls.map b.hj) (hle : ∀ y ∈ ls.map b.hj, y ≤ k) :
    ((ls.map b.hj).count k = 1 → ∀ (j : Nat) (h : j < ls.length), aloneB ls b.rk ls[j] = decide (j = (ls.map b.hj).idxOf k)) ∧ ((ls.map b.hj).count k ≠ 1 → ∀ y ∈ ls, aloneB ls b.rk y = false) := by
  obtain ⟨c, hc⟩ := b.hj_rk
  have cnt : (ls.map b.hj).count k = (ls.filter fun y => decide (b.rk y = c - k)).length := by
    rw [List.count, List.countP_map, List.countP_eq_length_filter]
    refine congrArg List.length (List.filter_congr fun y _ => ?_)
    show (b.hj y == k) = decide _
    rw [hc, Bool.eq_iff_iff, beq_iff_eq, decide_eq_true_iff]
    omega
  have least : ∀ y ∈ ls, c - k ≤ b.rk y := fun y hy => by
    have := hle _ (List.mem_map.mpr ⟨y, hy, rfl⟩)
    rw [hc] at this
    omega
  refine ⟨fun one j hj => ?_, fun no y hy => ?_⟩
  · rw [cnt] at one
    obtain ⟨z, hz⟩ := List.length_eq_one_iff.mp one
    rw [alone_one least hz (List.getElem_mem hj)]
    have il := List.idxOf_lt_length_iff.mpr hk
    have at1 : (ls.map b.hj)[(ls.map b.hj).idxOf k] = k := List.getElem_idxOf il
    generalize (ls.map b.hj).idxOf k = i at il at1
    rw [List.length_map] at il
    rw [List.getElem_map, hc] at at1
    have mi : ls[i] ∈ ls.filter fun y => decide (b.rk y = c - k) := List.mem_filter.mpr ⟨List.getElem_mem il, decide_eq_true (by omega)⟩
    rw [hz] at mi
    have ei := List.mem_singleton.mp mi
    refine decide_eq_decide.mpr ?_
    rw [← ei]
    constructor
    · intro e
      rcases Nat.lt_trichotomy j i with l | l | l
      · exact absurd e ((List.pairwise_iff_getElem.mp nd) j i hj il l)
      · exact l
      · exact absurd e.symm ((List.pairwise_iff_getElem.mp nd) i j il hj l)
    · intro e
      subst e
      rfl
  · obtain ⟨y0, m0, e0⟩ := List.mem_map.mp hk
    refine alone_none nd least ⟨y0, m0, by rw [hc] at e0; omega⟩ (fun h => no (by rw [cnt]; exact h)) hy
theorem ixN_at {n j : Nat} (h : j < n) : ixN n (j : Int) = some j := by
  unfold ixN
  rw [if_pos (Int.natCast_nonneg j), if_pos (by omega)]
  rfl
theorem counts_put {ls : List Str} {f f2 : Str → Int} {i : Nat} {m : Int} (hi : i < ls.length) (h : ∀ (j : Nat) (hj : j < ls.length), f2 ls[j] = f ls[j] + if j = i then m else 0) :
    ((ls.map f).map V.int).set i (.int (f ls[i] + m)) = (ls.map f2).map V.int := by
  refine List.ext_getElem (by simp) fun j h1 h2 => ?_
  have hj : j < ls.length := by simpa using h2
  rw [List.getElem_set, List.getElem_map, List.getElem_map, List.getElem_map, List.getElem_map, h j hj]
  by_cases e : i = j
  · subst e
    rw [if_pos rfl, if_pos rfl]
  · rw [if_neg e, if_neg (fun q => e q.symm), Int.add_zero]
/-- texts in a list or in a tuple -/
def LT (H : Hp) (t : Addr) (ls : List Str) : Prop := H t = some (.lst (ls.map V.str)) ∨ Rd H t (.tup (ls.map V.str))
theorem LT.same {H H' : Hp} {t : Addr} {ls : List Str} (s : Same H H') (h : LT H t ls) : LT H' t ls := by
  rcases h with h | h | ⟨o, h⟩
  · exact .inl (s _ _ h)
  · exact .inr (.inl (s _ _ h))
  · exact .inr (.inr ⟨o, s _ _ h⟩)
theorem LT.sq {K : PySem.W.Frag} {H : Hp} {t : Addr} {ls : List Str} (h : LT H t ls) : SqL K H t (ls.map V.str) ∨ SqT K H t (ls.map V.str) := h.elim (fun h => .inl (.of h)) fun h => .inr (.inl h)
section
variable {P : Program} {w : World} {K : PySem.W.Frag} {mg : Str → Option Value} {base : Heap}
def sp_law_counts : Sp := fun vs H Q _ => ∃ (g t : Addr) (zs ls : List Str) (as : List (Addr × Addr × (Bal × Int))), vs = [.ref g, .ref t] ∧ RowsL H g as ∧ (∀ a ∈ as, RowOk zs a) ∧ as.length ≤ 30 ∧ zs.length ≤ 6 ∧ LT H t ls ∧ ls.Nodup ∧ 0 < ls.length ∧ ls.length ≤ 6 ∧
  ∀ (D : Addr) (H' : Hp), Same H H' → H D = none → H' D = some (.lst ((ls.map (tallySum ls (as.map (·.2.2)))).map V.int)) → Q (.ref D) H'
theorem ok_law_counts (T : Txt K mg) : FnOk P w K mg base CX0 2 T.f_law_counts T.fd_law_counts ["_law_rows_here", "_law_left"] sp_law_counts := by
  refine T.F_law_counts.ok sc_law_counts (fun vs H Q E h => ?_) (fun cdv A outer s H vs Q E hr h => ?_)
  · obtain ⟨g, t, zs, ls, as, rfl, _⟩ := h
    rfl
  · obtain ⟨g, t, zs, ls, as, rfl, hg, rok, l30, z6, ht, nd, l0, l6, q⟩ := h
    refine ⟨_, (pss_cons
 (ps_set (i := 2) sc_law_counts.nd rfl (Or.inl rfl) (pe_op op_rep (pe_lst (pa_cons pe_int pa_nil)) (pe_callB call_len_seq (by rfl) T.z_len (by decide +kernel) (pa_cons (pv 1) pa_nil))))
 (pss_cons
 (ps_for PassesOwn.never rfl (pi_list (pv 0)) (pg_tup rfl (pgs_cons (pg_name (i := 3) sc_law_counts.nd rfl (Or.inr rfl)) (pgs_cons (pg_name (i := 4) sc_law_counts.nd rfl (Or.inl rfl)) pgs_nil)))
 (pss_cons
 (ps_setLc (i := 5) (own := [("_law_name", 6)]) (g := gName 6) (tt := tYes) rfl sc_law_counts.nd rfl rfl (sw_true rfl rfl rfl (by decide +kernel)) (pi_or (pi_list (pv 1)) (pi_tup (pv 1))) (blkOk_by (own := [("_law_name", 6)]) (N := ["_law_rows_here", "_law_left", "_law_found", "_law_ballot_here", "_law_much", "_law_highs", "_law_name"]) (sc := (defScope s_law_counts)) (by decide +kernel)) (fun _ _ _ _ _ => pg_name (i := 6) sc_law_counts.nd rfl (Or.inl rfl)) (fun _ _ _ _ _ => pts_nil) (fun _ _ _ _ _ => (pe_call (ok_law_high T) (hr.mono (by decide)) (by rfl) T.g_law_high T.F_law_high.kp T.b_law_high .nil pass0 (pa_cons (pv 3) (pa_cons (pv 6) pa_nil)))))
 (pss_one
 (ps_if (pt_cmpR op_eq (pe_bm PySem.F.plainAttrs_list PySem.F.slot_list_count PySem.F.type_list_count mt_count (pv 5) (pa_cons (pe_callB (cr_max rfl) (by rfl) T.z_max (by decide +kernel) (pa_cons (pv 5) pa_nil)) pa_nil)) pe_int (nomark _))
 (pss_one
 (ps_augS (pv 2) (pe_bm PySem.F.plainAttrs_list PySem.F.slot_list_index PySem.F.type_list_index mt_index (pv 5) (pa_cons (pe_callB (cr_max rfl) (by rfl) T.z_max (by decide +kernel) (pa_cons (pv 5) pa_nil)) pa_nil)) get_list (pv 4) ip_add set_list (fun _ _ _ => rfl)))
 pss_nil))))
 (pss_one
 (ps_ret (pv 2))))), ?_⟩
    refine ⟨line_of (show 1 ≤ 1000 by decide), fun L0 nL0 => ?_⟩
    have s0 := same_upd (o := HO.lst [V.int 0]) nL0
    have e0 : (upd H L0 (.lst [V.int 0])) L0 = some (.lst [V.int 0]) := upd_same
    generalize upd H L0 (.lst [V.int 0]) = H0 at s0 e0
    refine ⟨.ref t, rfl, t, _, rfl, (ht.same s0).sq, L0, _, _, rfl, rfl, e0, by rw [List.length_map]; omega, by rw [List.length_map]; omega, ?_, fun L nL => ?_⟩
    · rw [List.length_map]
      exact Nat.le_of_lt (small1000 (by show 1 * _ ≤ 1000; omega))
    have nLH := s0.free nL
    have s1 := s0.trans (same_upd (o := HO.lst (List.replicate (((ls.map V.str).length : Nat) : Int).toNat [V.int 0]).flatten) nL)
    have e1 : (upd H0 L (.lst (List.replicate (((ls.map V.str).length : Nat) : Int).toNat [V.int 0]).flatten)) L = some (.lst ((ls.map (tallySum ls ([] : List (Bal × Int)))).map V.int)) := by
      rw [upd_same, List.length_map]
      have : ∀ l : List Str, (List.replicate l.length [V.int 0]).flatten = (l.map (tallySum ls ([] : List (Bal × Int)))).map V.int := fun l => by
        induction l with
        | nil => rfl
        | cons a l ih => rw [List.length_cons, List.replicate_succ, List.flatten_cons, ih] <;> rfl
      exact congrArg (fun l => some (HO.lst l)) (this ls)
    generalize upd H0 L (.lst (List.replicate (((ls.map V.str).length : Nat) : Int).toNat [V.int 0]).flatten) = H1 at s1 e1
    refine ⟨.ref g, rfl, g, rfl, ⟨_, .of (s1 _ _ hg.1)⟩, for_list (K := K) (a := g) (xs := as.map fun a => V.ref a.1) (fun i σ H' => ∃ x3 x4 x5 x6 : Option V, σ = [some (.ref g), some (.ref t), some (.ref L), x3, x4, x5, x6] ∧ Same H H' ∧ H' L = some (.lst ((ls.map (tallySum ls ((as.take i).map (·.2.2)))).map V.int)))
      ⟨none, none, none, none, rfl, s1, e1⟩ (fun _ _ _ _ ⟨_, _, _, _, _, h, _⟩ => .of (h _ _ hg.1)) ?_ ?_⟩
    · rintro i x σ H2 hi ⟨x3, x4, x5, x6, rfl, s2, e2⟩
      obtain ⟨a, hai, rfl⟩ := item_map hi
      obtain ⟨h1, h2⟩ := hg.2 a (List.mem_of_getElem? hai)
      obtain ⟨bok, m1, m2⟩ := rok a (List.mem_of_getElem? hai)
      have ht2 := ht.same s2
      have next : ∀ z, tallySum ls ((as.take (i + 1)).map (·.2.2)) z = tallySum ls ((as.take i).map (·.2.2)) z + if aloneB ls a.2.2.1.rk z = true then a.2.2.2 else 0 := fun z => by
        rw [List.map_take, List.map_take]
        exact tally_more (by rw [List.getElem?_map, hai]; rfl) z
      refine ⟨a.1, _, rfl, .of (s2 _ _ h1), rfl, _, _, rfl, _, _, rfl, rfl, ?_⟩
      rcases ht2 with hl | htu
      case' inl =>
        refine .inl ⟨.ref t, rfl, t, rfl, ⟨_, .of hl⟩, fun D1 nD1 => ?_⟩
        refine lc_list (K := K) (a := t) (xs := ls.map V.str) (fun j H' => Same H2 H' ∧ H' D1 = some (.lst (((ls.take j).map a.2.2.1.hj).map V.int))) ⟨same_upd nD1, upd_same⟩ (fun _ _ _ h => .of (h.1 _ _ hl)) ?step1 ?fin1
      case' inr =>
        refine .inr ⟨.ref t, rfl, t, rfl, ⟨_, .inl htu⟩, fun D1 nD1 => ?_⟩
        refine lc_tup (K := K) (a := t) (xs := ls.map V.str) (fun j H' => Same H2 H' ∧ H' D1 = some (.lst (((ls.take j).map a.2.2.1.hj).map V.int))) ⟨same_upd nD1, upd_same⟩ (fun _ _ _ h => .inl (rd_same h.1 htu)) ?step2 ?fin2
      case step1 | step2 =>
        rintro j x H3 hj ⟨s3, e3⟩
        obtain ⟨z, hz, rfl⟩ := item_map hj
        refine ⟨rfl, .ref a.2.1, rfl, .str z, rfl, a.2.1, z, zs, a.2.2.1, rfl, h2.same (s2.trans s3), bok, z6, fun H4 s4 => ⟨_, s4 _ _ e3, small1000 (by rw [List.length_map, List.length_map, List.length_take]; omega), same_mut (s3.trans s4) nD1, ?_⟩⟩
        rw [upd_same, take_more hz, List.map_append, List.map_append]
        rfl
      case fin1 | fin2 =>
        rintro H3 ⟨s3, e3⟩
        rw [List.length_map, List.take_length] at e3
        have e23 := s3 _ _ e2
        have s13 := s2.trans s3
        refine ⟨.ref D1, rfl, .inl ⟨rfl, _, .of e3⟩, .ref D1, rfl, D1, _, rfl, .of e3, by rw [List.length_map]; exact l0, fun k hk hle => ⟨D1, ls.map a.2.2.1.hj, k, rfl, rfl, e3, ?_⟩⟩
        obtain ⟨one, no⟩ := counts_step nd hk hle
        refine ⟨rfl, _, rfl, ?_⟩
        by_cases c : (ls.map a.2.2.1.hj).count k = 1
        · have one := one c
          rw [decide_eq_true (show V.int (((ls.map a.2.2.1.hj).count k : Nat) : Int) = V.int 1 by rw [c] <;> rfl)]
          refine iteT ⟨.ref L, rfl, .ref D1, rfl, .inl ⟨rfl, _, .of e3⟩, .ref D1, rfl, D1, _, rfl, .of e3, by rw [List.length_map]; exact l0, fun k2 hk2 hle2 => ?_⟩
          obtain rfl : k2 = k := Int.le_antisymm (hle _ hk2) (hle2 _ hk)
          have il := List.idxOf_lt_length_iff.mpr hk
          rw [List.length_map] at il
          have at1 : ((ls.map (tallySum ls ((as.take i).map (·.2.2)))).map V.int)[(ls.map a.2.2.1.hj).idxOf k2]? = some (.int (tallySum ls ((as.take i).map (·.2.2)) ls[(ls.map a.2.2.1.hj).idxOf k2])) := by
            rw [List.getElem?_map, List.getElem?_map, List.getElem?_eq_getElem il]
            rfl
          refine ⟨D1, _, k2, rfl, rfl, e3, hk2, ?_⟩
          generalize hq : (ls.map a.2.2.1.hj).idxOf k2 = i2 at one il at1
          refine ⟨L, _, (i2 : Int), _, rfl, rfl, .of e23, atI_nat at1, .int a.2.2.2, rfl, _, _, rfl, rfl, L, _, (i2 : Int), i2, rfl, rfl, e23, ixN_at (by rw [List.length_map, List.length_map]; exact il), _, _, _, _, rfl, same_mut s13 nLH, ?_⟩
          rw [upd_same, counts_put (f2 := tallySum ls ((as.take (i + 1)).map (·.2.2))) il fun j hj => ?_]
          rw [next, one j hj]
          by_cases e : j = i2
          · rw [decide_eq_true e, if_pos e, if_pos rfl]
          · rw [decide_eq_false e, if_neg e, if_neg Bool.false_ne_true]
        · rw [decide_eq_false (fun h => c (by have := V.int.inj h; omega))]
          refine iteF ⟨_, _, _, _, rfl, s13, ?_⟩
          rw [e23]
          refine congrArg (fun l => some (HO.lst l)) (congrArg (List.map V.int) (List.map_congr_left fun y hy => ?_))
          rw [next, no c y hy, if_neg Bool.false_ne_true, Int.add_zero]
    · rintro σ H2 ⟨x3, x4, x5, x6, rfl, s2, e2⟩
      rw [List.length_map, List.take_length] at e2
      exact ⟨.ref L, rfl, q L H2 s2 nLH e2⟩
end
/-! ### rows of a list, a poll of them, apart from the well -/
theorem RowsL.same {H H' : Hp} {g : Addr} {as : List (Addr × Addr × (Bal × Int))} (s : Same H H') (h : RowsL H g as) : RowsL H' g as := ⟨s _ _ h.1, fun a ha => ⟨s _ _ (h.2 a ha).1, (h.2 a ha).2.same s⟩⟩
theorem made_same {H H' : Hp} {a dx : Addr} {o u : HO} (n1 : H a = none) (n2 : H dx = none) (b : But a (upd (upd H dx u) a o) H') : Same H H' := fun y x h => by
  have y1 : y ≠ a := ne_of_none h n1
  exact b y x y1 (by rw [upd_ne y1, upd_ne (ne_of_none h n2)]; exact h)
theorem rows_tup {H H' : Hp} {g v : Addr} {as : List (Addr × Addr × (Bal × Int))} (h : RowsL H g as) (s : Same H H') (e : H' v = some (.tup (as.map fun a => V.ref a.1))) : RowsAt H' v (as.map (·.2.2)) :=
  ⟨as, e, fun a ha => ⟨s _ _ (h.2 a ha).1, (h.2 a ha).2.same s⟩, rfl⟩
theorem PollOk.hid {C p pp o u : Addr} {H : Hp} {x : List V} {zs : List Str} {rows : List (Bal × Int)} (hp : H p = some (.lst x)) (h : PollOk C H pp o u zs rows) : PollOk C (hide p H) pp o u zs rows := by
  refine ⟨?_, hid_tup hp h.opts, h.votes.keep ⟨fun _ _ e => hid_tup hp e, fun a b c e => ?_⟩, h.ok, h.rok⟩
  · obtain ⟨dx, e⟩ := h.poll
    exact ⟨dx, by rw [hide_ne (fun z => by rw [z, hp] at e; cases e)]; exact e⟩
  · rw [hide_ne (fun z => by rw [z, hp] at e; cases e)]
    exact e
theorem RowsL.hid {p g : Addr} {H : Hp} {x : List V} {as : List (Addr × Addr × (Bal × Int))} (hp : H p = some (.lst x)) (gp : g ≠ p) (h : RowsL H g as) : RowsL (hide p H) g as :=
  ⟨by rw [hide_ne gp]; exact h.1, fun a ha => ⟨hid_tup hp (h.2 a ha).1, (h.2 a ha).2.keep ⟨fun _ _ e => hid_tup hp e, fun a b c e => by rw [hide_ne (fun z => by rw [z, hp] at e; cases e)]; exact e⟩⟩⟩
/-! ### the law's own lead -/
theorem pairs_at {α β : Type} {F : α → β → Prop} : ∀ {l : List α} {m : List β}, l.length = m.length → (∀ (j : Nat) (a : α) (b : β), l[j]? = some a → m[j]? = some b → F a b) → Paired F l m
  | [], [], _, _ => .nil
  | [], _ :: _, h, _ => by cases h
  | _ :: _, [], h, _ => by cases h
  | a :: l, b :: m, h, g => .cons (g 0 a b rfl rfl) (pairs_at (Nat.succ.inj h) fun j x y hx hy => g (j + 1) x y hx hy)
theorem hj_less (b : Bal) (x y : Str) : b.hj y < b.hj x ↔ b.rk x < b.rk y := by
  obtain ⟨c, hc⟩ := b.hj_rk
  rw [hc, hc]
  omega
theorem pairs_tab {K : PySem.W.Frag} {H : Hp} {ls : List Str} {f : Str → Int} {ts : List Addr} (lt : ts.length = ((ls.map f).map V.int).length) (pr : OwnM.Pairs H (ls.map V.str) ((ls.map f).map V.int) ts) : Paired (fun p (kv : Key × V) => SqT K H p [kV kv.1, kv.2]) ts (tab ls f) := by
  refine pairs_at (by rw [lt, tab_len, List.length_map, List.length_map]) fun j p kv hp hk => ?_
  have hk' : (ls.map fun z => ((.inr z : Key), V.int (f z)))[j]? = some kv := hk
  rw [List.getElem?_map] at hk'
  cases hz : ls[j]? with
  | none => rw [hz] at hk'; cases hk'
  | some z =>
    rw [hz] at hk'
    cases hk'
    exact .of (pr j p (.str z) (.int (f z)) hp (by rw [List.getElem?_map, hz]; rfl) (by rw [List.getElem?_map, List.getElem?_map, hz]; rfl))
theorem against_sum (a b : Str) : ∀ as : List (Addr × Addr × (Bal × Int)), ((as.filter fun q => decide (q.2.2.1.rk b < q.2.2.1.rk a)).map (·.2.2.2)).sum = against (as.map (·.2.2)) a b
  | [] => rfl
  | q0 :: qs => by
    have ih := against_sum a b qs
    unfold against at ih ⊢
    rw [List.map_cons, List.map_cons, List.sum_cons, List.filter_cons]
    by_cases c : q0.2.2.1.rk b < q0.2.2.1.rk a
    · rw [if_pos (decide_eq_true c), if_pos c, List.map_cons, List.sum_cons, ih]
    · rw [if_neg (by rw [decide_eq_false c]; exact Bool.false_ne_true), if_neg c, ih, Int.zero_add]
section
variable {P : Program} {w : World} {K : PySem.W.Frag} {mg : Str → Option Value} {base : Heap}
def sp_law_lead : Sp := fun vs H Q _ => ∃ (g t pc : Addr) (zs : List Str) (as : List (Addr × Addr × (Bal × Int))) (c : Clm), vs = [.ref g, .ref t, .ref pc] ∧ RowsL H g as ∧ (∀ a ∈ as, RowOk zs a) ∧ as.length ≤ 30 ∧ zs.length ≤ 6 ∧ H t = some (.lst (zs.map V.str)) ∧ zs.Nodup ∧ DAt H c.data (.ref pc) ∧ c.Ok zs ∧
  ∀ (H' : Hp), Same H H' → Q (.int (c.lead zs (as.map (·.2.2)))) H'
theorem ok_law_lead (T : Txt K mg) : FnOk P w K mg base CX0 3 T.f_law_lead T.fd_law_lead ["_law_rows_here", "_law_people", "_law_claim_here"] sp_law_lead := by
  refine T.F_law_lead.ok sc_law_lead (fun vs H Q E h => ?_) (fun cdv A outer s H vs Q E hr h => ?_)
  · obtain ⟨g, t, pc, zs, as, c, rfl, _⟩ := h
    rfl
  · obtain ⟨g, t, pc, zs, as, c, rfl, hg, rok, l30, z6, ht, nd, hd, cok, q⟩ := h
    refine ⟨_, (pss_cons
 (ps_asg (pe_slice sl_tupA (pv 2) (po_some pe_int) (po_some pe_int)) (pg_tup rfl (pgs_cons (pg_name (i := 3) sc_law_lead.nd rfl (Or.inr rfl)) (pgs_cons (pg_name (i := 4) sc_law_lead.nd rfl (Or.inr rfl)) pgs_nil))))
 (pss_cons
 (ps_if (pt_cmpR op_eq (pe_ix ix_tup (pv 2) pe_int (fun _ _ => rfl)) pe_str (nomark _))
 (pss_cons
 (ps_set (i := 5) sc_law_lead.nd rfl (Or.inl rfl) (pe_callTy (call_dictP rfl) (by rfl) T.z_dict (by decide +kernel) (pa_cons (OwnM.pe_listZip rfl (by rfl) T.z_list (by rfl) T.z_zip (pa_cons (pe_ix ix_tup (pv 2) pe_int (fun _ _ => rfl)) (pa_cons (pe_call (ok_law_counts T) (hr.mono (by decide)) (by rfl) T.g_law_counts T.F_law_counts.kp T.b_law_counts .nil pass0 (pa_cons (pv 0) (pa_cons (pe_ix ix_tup (pv 2) pe_int (fun _ _ => rfl)) pa_nil))) pa_nil))) pa_nil)))
 (pss_one
 (ps_ret (pe_op op_sub (pe_dget (hu_of hr) (pv 5) (pv 3) (fun _ _ => rfl)) (pe_dget (hu_of hr) (pv 5) (pv 4) (fun _ _ => rfl))))))
 pss_nil)
 (pss_cons
 (ps_setLc (i := 6) (own := [("_law_ballot_here", 7), ("_law_much", 8)]) rfl sc_law_lead.nd rfl rfl (sw_true rfl rfl rfl (by decide +kernel)) (pi_list (pv 0)) (blkOk_by (own := [("_law_ballot_here", 7), ("_law_much", 8)]) (N := ["_law_rows_here", "_law_people", "_law_claim_here", "_law_one_here", "_law_other", "_law_counts_here", "_law_against", "_law_ballot_here", "_law_much"]) (sc := (defScope s_law_lead)) (by decide +kernel)) (fun s0 H0 C0 cl0 fp0 => (by have h := (pg_tup (n := 2) rfl (pgs_cons (pg_name (i := 7) sc_law_lead.nd rfl (Or.inl rfl)) (pgs_cons (pg_name (i := 8) sc_law_lead.nd rfl (Or.inl rfl)) pgs_nil)) : PG ((cxOf CX0 P w K mg base ["_law_rows_here", "_law_people", "_law_claim_here", "_law_one_here", "_law_other", "_law_counts_here", "_law_against", "_law_ballot_here", "_law_much"] "_law_lead" (defScope s_law_lead) T.f_law_lead cdv A outer s H E).nox.blk s0 H0 (lcScope (rootE ((defBody s_law_lead).getD 2 (.Pass ⟨0, 0, 0, 0⟩)))) (compEnvC (lcScope (rootE ((defBody s_law_lead).getD 2 (.Pass ⟨0, 0, 0, 0⟩)))) cl0 C0 (cxOf CX0 P w K mg base ["_law_rows_here", "_law_people", "_law_claim_here", "_law_one_here", "_law_other", "_law_counts_here", "_law_against", "_law_ballot_here", "_law_much"] "_law_lead" (defScope s_law_lead) T.f_law_lead cdv A outer s H E).nox.env) fp0) (subE (rootE ((defBody s_law_lead).getD 2 (.Pass ⟨0, 0, 0, 0⟩))) 2) _); dsimp only [Cx.blk, Cx.tr, Cx.suite, Cx.nox, Cx.wish, cxOf] at h; exact h)) (fun _ _ _ _ _ => (pts_one (pt_cmpR op_gt (pe_call (ok_law_high T) (hr.mono (by decide)) (by rfl) T.g_law_high T.F_law_high.kp T.b_law_high .nil pass0 (pa_cons (pv 7) (pa_cons (pv 4) pa_nil))) (pe_call (ok_law_high T) (hr.mono (by decide)) (by rfl) T.g_law_high T.F_law_high.kp T.b_law_high .nil pass0 (pa_cons (pv 7) (pa_cons (pv 3) pa_nil))) (nomark _)))) (fun _ _ _ _ _ => (pv 8)))
 (pss_one
 (ps_ret (pe_op op_sub (pe_dget (hu_of hr) (pe_callTy (call_dictP rfl) (by rfl) T.z_dict (by decide +kernel) (pa_cons (OwnM.pe_listZip rfl (by rfl) T.z_list (by rfl) T.z_zip (pa_cons (pv 1) (pa_cons (pe_call (ok_law_counts T) (hr.mono (by decide)) (by rfl) T.g_law_counts T.F_law_counts.kp T.b_law_counts .nil pass0 (pa_cons (pv 0) (pa_cons (pv 1) pa_nil))) pa_nil))) pa_nil)) (pv 3) (fun _ _ => rfl)) (pe_callB (cr_sum rfl) (by rfl) T.z_sum (by decide +kernel) (pa_cons (pv 6) pa_nil)))))))), ?_⟩
    cases c with
    | before a b =>
      obtain ⟨pc', _, e, rd⟩ := Clm.words hd
      cases e
      have rd : Rd H pc (.tup [.str "before", .str a, .str b]) := rd
      obtain ⟨ha, hb, ne⟩ := cok
      refine ⟨.ref pc, rfl, 1, rfl, 3, rfl, ?_⟩
      refine slX_rd rd fun s2 H2 rd2 sm2 => ?_
      rw [cut_two] at rd2
      refine ⟨s2, _, rfl, .inl rd2, rfl, _, _, rfl, _, _, rfl, rfl, ?_⟩
      refine ⟨.ref pc, rfl, pc, _, 0, _, rfl, rfl, .inl (rd_same sm2 rd), atI_nat (j := 0) rfl, rfl, _, rfl, ?_⟩
      rw [decide_eq_false (show ¬ V.str "before" = V.str "within" from fun h => absurd (V.str.inj h) (by decide +kernel))]
      refine iteF ?_
      refine ⟨.ref g, rfl, g, rfl, ⟨_, .of (sm2 _ _ hg.1)⟩, fun F nF => ?_⟩
      refine lc_list (K := K) (a := g) (xs := as.map fun a => V.ref a.1) (fun j H' => Same H2 H' ∧ H' F = some (.lst ((((as.take j).filter fun q => decide (q.2.2.1.rk b < q.2.2.1.rk a)).map (·.2.2.2)).map V.int))) ⟨same_upd nF, upd_same⟩ (fun _ _ _ h => .of (h.1 _ _ (sm2 _ _ hg.1))) ?_ ?_
      · rintro j x H3 hj ⟨s3, e3⟩
        obtain ⟨r, hr', rfl⟩ := item_map hj
        have mr := List.mem_of_getElem? hr'
        obtain ⟨h1, h2⟩ := hg.2 r mr
        obtain ⟨bok, _, _⟩ := rok r mr
        have s23 := sm2.trans s3
        have ft := filter_takeG (f := fun q : Addr × Addr × (Bal × Int) => decide (q.2.2.1.rk b < q.2.2.1.rk a)) hr'
        refine ⟨r.1, _, rfl, .of (s23 _ _ h1), rfl, _, _, rfl, _, _, rfl, rfl, rfl, ?_⟩
        refine ⟨.ref r.2.1, rfl, .str b, rfl, r.2.1, b, zs, r.2.2.1, rfl, h2.same s23, bok, z6, fun H4 s4 => ?_⟩
        refine ⟨.ref r.2.1, rfl, .str a, rfl, r.2.1, a, zs, r.2.2.1, rfl, h2.same (s23.trans s4), bok, z6, fun H5 s5 => ?_⟩
        have s35 := s3.trans (s4.trans s5)
        have e5 := s5 _ _ (s4 _ _ e3)
        refine ⟨_, _, rfl, rfl, _, rfl, ?_⟩
        by_cases c : r.2.2.1.rk b < r.2.2.1.rk a
        · rw [decide_eq_true ((hj_less r.2.2.1 b a).mpr c)]
          rw [if_pos (decide_eq_true c)] at ft
          refine iteT ⟨.int r.2.2.2, rfl, _, e5, ?_, same_mut s35 nF, ?_⟩
          · rw [List.length_map, List.length_map]
            have := List.length_filter_le (fun q : Addr × Addr × (Bal × Int) => decide (q.2.2.1.rk b < q.2.2.1.rk a)) (as.take j)
            rw [List.length_take] at this
            exact small1000 (by omega)
          · rw [upd_same, ft, List.map_append, List.map_append]
            rfl
        · rw [decide_eq_false fun h => c ((hj_less r.2.2.1 b a).mp h)]
          rw [if_neg (by rw [decide_eq_false c]; exact Bool.false_ne_true), List.append_nil] at ft
          refine iteF ⟨s35, ?_⟩
          rw [ft]
          exact e5
      rintro H3 ⟨s3, e3⟩
      rw [List.length_map, List.take_length] at e3
      have s13 := sm2.trans s3
      have ht3 := s13 _ _ ht
      have pos : 0 < zs.length := List.length_pos_of_mem ha
      refine ⟨.ref t, rfl, .ref g, rfl, .ref t, rfl, g, t, zs, zs, as, rfl, hg.same s13, rok, l30, z6, .inl ht3, nd, pos, z6, fun D H4 s4 nD eD => ?_⟩
      refine ⟨false, false, t, D, zs.map V.str, _, rfl, .of (s4 _ _ ht3), .of eD, by rw [List.length_map]; omega, .inr (by rw [List.length_map, List.length_map, List.length_map]), fun S ts H5 s5 nS eS lts prs => ?_⟩
      refine ⟨S, ts, tab zs (tallySum zs (as.map (·.2.2))), rfl, .of eS, pairs_tab lts prs, fun F2 nF2 => ?_⟩
      dsimp only
      rw [show mergeK [] (tab zs (tallySum zs (as.map (·.2.2)))) = tab zs (tallySum zs (as.map (·.2.2))) from tab_merge _ zs [] nd]
      have s45 := s4.trans s5
      have s6 := same_upd (o := HO.dK (tab zs (tallySum zs (as.map (·.2.2))))) nF2
      have e6 := s6 _ _ (s45 _ _ e3)
      have gd : DGet (upd H5 F2 (.dK (tab zs (tallySum zs (as.map (·.2.2)))))) F2 (.str a) (some (.int (tallySum zs (as.map (·.2.2)) a))) := by
        have := DGet.k (k := .inr a) (show (upd H5 F2 (.dK (tab zs (tallySum zs (as.map (·.2.2)))))) F2 = some (.dK (tab zs (tallySum zs (as.map (·.2.2))))) from upd_same)
        rw [tab_val, if_pos ha] at this
        exact this
      generalize upd H5 F2 (.dK (tab zs (tallySum zs (as.map (·.2.2))))) = H6 at s6 e6 gd ⊢
      refine ⟨.str a, rfl, F2, _, rfl, gd, .ref F, rfl, F, _, rfl, .of e6, _, _, rfl, rfl, ?_⟩
      rw [against_sum]
      exact q _ (s13.trans (s45.trans s6))
    | within a b ls =>
      obtain ⟨pc', _, e, tl, rd, rt⟩ := Clm.words hd
      cases e
      obtain ⟨ha, hb, ne, ndl, el, ma, mb⟩ := cok
      have sub : ∀ z ∈ ls, z ∈ zs := fun z hz => by rw [el] at hz; exact (List.mem_filter.mp hz).1
      have l6 : ls.length ≤ 6 := Nat.le_trans (ndl.length_le_of_subset sub) z6
      refine ⟨.ref pc, rfl, 1, rfl, 3, rfl, ?_⟩
      refine slX_rd rd fun s2 H2 rd2 sm2 => ?_
      rw [cut_two] at rd2
      refine ⟨s2, _, rfl, .inl rd2, rfl, _, _, rfl, _, _, rfl, rfl, ?_⟩
      have rdc := rd_same sm2 rd
      refine ⟨.ref pc, rfl, pc, _, 0, _, rfl, rfl, .inl rdc, atI_nat (j := 0) rfl, rfl, _, rfl, ?_⟩
      rw [decide_eq_true rfl]
      refine iteT ⟨.ref pc, rfl, pc, _, 3, _, rfl, rfl, .inl rdc, atI_nat (j := 3) rfl, .ref g, rfl, .ref pc, rfl, pc, _, 3, _, rfl, rfl, .inl rdc, atI_nat (j := 3) rfl, ?_⟩
      refine ⟨g, tl, zs, ls, as, rfl, hg.same sm2, rok, l30, z6, .inr (rd_same sm2 rt), ndl, List.length_pos_of_mem ma, l6, fun D H4 s4 nD eD => ?_⟩
      refine ⟨true, false, tl, D, ls.map V.str, _, rfl, .inl (rd_same (sm2.trans s4) rt), .of eD, by rw [List.length_map]; omega, .inr (by rw [List.length_map, List.length_map, List.length_map]), fun S ts H5 s5 nS eS lts prs => ?_⟩
      refine ⟨S, ts, tab ls (tallySum ls (as.map (·.2.2))), rfl, .of eS, pairs_tab lts prs, fun F2 nF2 => ?_⟩
      dsimp only
      rw [show mergeK [] (tab ls (tallySum ls (as.map (·.2.2)))) = tab ls (tallySum ls (as.map (·.2.2))) from tab_merge _ ls [] ndl]
      have s6 := same_upd (o := HO.dK (tab ls (tallySum ls (as.map (·.2.2))))) nF2
      have eF : (upd H5 F2 (.dK (tab ls (tallySum ls (as.map (·.2.2)))))) F2 = some (.dK (tab ls (tallySum ls (as.map (·.2.2))))) := upd_same
      generalize upd H5 F2 (.dK (tab ls (tallySum ls (as.map (·.2.2))))) = H6 at s6 eF ⊢
      have get : ∀ {x : Str}, x ∈ ls → DGet H6 F2 (.str x) (some (.int (tallySum ls (as.map (·.2.2)) x))) := fun {x} hx => by
        have := DGet.k (k := .inr x) eF
        rw [tab_val, if_pos hx] at this
        exact this
      refine ⟨.ref F2, rfl, .str a, rfl, F2, _, rfl, get ma, .ref F2, rfl, .str b, rfl, F2, _, rfl, get mb, _, _, rfl, rfl, ?_⟩
      exact q _ (sm2.trans (s4.trans (s5.trans s6)))
end
/-! ### a claim, drawn -/
theorem sub_filt : ∀ {ks zs : List Str}, ks.Sublist zs → zs.Nodup → zs.filter (fun z => decide (z ∈ ks)) = ks := by
  intro ks zs h
  induction h with
  | slnil => intro _; rfl
  | @cons ks zs a h ih =>
    intro nd
    obtain ⟨n1, n2⟩ := List.nodup_cons.mp nd
    rw [List.filter_cons, if_neg (by rw [decide_eq_false fun m => n1 (h.subset m)]; exact Bool.false_ne_true)]
    exact ih n2
  | @cons_cons ks zs a h ih =>
    intro nd
    obtain ⟨n1, n2⟩ := List.nodup_cons.mp nd
    rw [List.filter_cons, if_pos (decide_eq_true List.mem_cons_self)]
    refine congrArg (a :: ·) ?_
    conv => rhs; rw [← ih n2]
    refine List.filter_congr fun z hz => ?_
    rw [Bool.eq_iff_iff, decide_eq_true_eq, decide_eq_true_eq, List.mem_cons]
    exact ⟨fun h => h.elim (fun e => absurd (e ▸ hz) n1) id, fun h => .inr h⟩
section
variable {P : Program} {w : World} {K : PySem.W.Frag} {mg : Str → Option Value} {base : Heap}
def sp_law_claim : Sp := fun vs H Q _ => ∃ (p t : Addr) (zs : List Str) (x : List V) (k : Nat), vs = [.ref p, .ref t] ∧ H p = some (.lst x) ∧ H t = some (.lst (zs.map V.str)) ∧ t ≠ p ∧ zs.Nodup ∧ 2 ≤ zs.length ∧ zs.length ≤ 6 ∧ (∀ z ∈ zs, NameOk z) ∧ WellL x k ∧ k ≤ 800000 ∧
  ∀ (c : Clm) (pc : Addr) (y : List V) (H' : Hp), c.Ok zs → But p H H' → DAt (hide p H') c.data (.ref pc) → H' p = some (.lst y) → WellL y (k + 20) → Q (.ref pc) H'
theorem ok_law_claim (T : Txt K mg) : FnOk P w K mg base CX0 4 T.f_law_claim T.fd_law_claim ["_law_source_here", "_law_people"] sp_law_claim := by
  refine T.F_law_claim.ok sc_law_claim (fun vs H Q E h => ?_) (fun cdv A outer s H vs Q E hr h => ?_)
  · obtain ⟨p, t, zs, x, k, rfl, _⟩ := h
    rfl
  · obtain ⟨p, t, zs, x, k, rfl, hp, ht, tp, nd, l2, z6, okz, hw, hk, q⟩ := h
    refine ⟨_, (pss_cons
 (ps_asg (pe_slice sl_list (pe_call (ok_law_shuffled T) (hr.mono (by decide)) (by rfl) T.g_law_shuffled T.F_law_shuffled.kp T.b_law_shuffled .nil pass0 (pa_cons (pv 0) (pa_cons (pv 1) pa_nil))) po_none (po_some pe_int)) (pg_lst rfl (pgs_cons (pg_name (i := 2) sc_law_claim.nd rfl (Or.inr rfl)) (pgs_cons (pg_name (i := 3) sc_law_claim.nd rfl (Or.inr rfl)) pgs_nil))))
 (pss_cons
 (ps_if (pt_cmpR op_eq (pe_call (ok_law_take T) (hr.mono (by decide)) (by rfl) T.g_law_take T.F_law_take.kp T.b_law_take .nil pass0 (pa_cons (pv 0) (pa_cons pe_int pa_nil))) pe_int (nomark _))
 (pss_one
 (ps_ret (pe_tup (pa_cons pe_str (pa_cons (pv 2) (pa_cons (pv 3) pa_nil))))))
 pss_nil)
 (pss_cons
 (ps_setLc (i := 4) (own := [("_law_name", 5)]) (g := gName 5) rfl sc_law_claim.nd rfl rfl (sw_true rfl rfl rfl (by decide +kernel)) (pi_list (pv 1)) (blkOk_by (own := [("_law_name", 5)]) (N := ["_law_source_here", "_law_people", "_law_one_here", "_law_other", "_law_kept", "_law_name"]) (sc := (defScope s_law_claim)) (by decide +kernel)) (fun _ _ _ _ _ => pg_name (i := 5) sc_law_claim.nd rfl (Or.inl rfl)) (fun s0 H0 C0 cl0 fp0 => (by have h := ((pts_one (PW.pt (pw_or (pt_cmpR op_in_seq (pv 5) (pe_tup (pa_cons (pv 2) (pa_cons (pv 3) pa_nil))) rfl) (pw_or1 (pt_cmpR op_eq (pe_call (ok_law_take T) (hr.mono (by decide)) (by rfl) T.g_law_take T.F_law_take.kp T.b_law_take .nil pass0 (pa_cons (pv 0) (pa_cons pe_int pa_nil))) pe_int (nomark _)))))) : PTs ((cxOf CX0 P w K mg base ["_law_source_here", "_law_people", "_law_one_here", "_law_other", "_law_kept", "_law_name"] "_law_claim" (defScope s_law_claim) T.f_law_claim cdv A outer s H E).nox.blk s0 H0 (lcScope (rootE ((defBody s_law_claim).getD 2 (.Pass ⟨0, 0, 0, 0⟩)))) (compEnvC (lcScope (rootE ((defBody s_law_claim).getD 2 (.Pass ⟨0, 0, 0, 0⟩)))) cl0 C0 (cxOf CX0 P w K mg base ["_law_source_here", "_law_people", "_law_one_here", "_law_other", "_law_kept", "_law_name"] "_law_claim" (defScope s_law_claim) T.f_law_claim cdv A outer s H E).nox.env) fp0) (lcIfs (rootE ((defBody s_law_claim).getD 2 (.Pass ⟨0, 0, 0, 0⟩)))) _); dsimp only [Cx.blk, Cx.tr, Cx.suite, Cx.nox, Cx.wish, cxOf] at h; exact h)) (fun _ _ _ _ _ => (pv 5)))
 (pss_one
 (ps_ret (pe_tup (pa_cons pe_str (pa_cons (pv 2) (pa_cons (pv 3) (pa_cons (pe_callTy call_tuple_of (by rfl) T.z_tuple (by decide +kernel) (pa_cons (pv 4) pa_nil)) pa_nil)))))))))), ?_⟩
    refine ⟨.ref p, rfl, .ref t, rfl, p, t, zs, x, k, rfl, hp, ht, tp, z6, okz, hw, by omega, fun u ws y1 H1 pm b1 nu up eu hp1 w1 => ?_⟩
    have lws := pm.length_eq
    obtain ⟨a, b, r, rfl⟩ : ∃ a b r, ws = a :: b :: r := by
      cases ws with
      | nil => rw [List.length_nil] at lws; omega
      | cons a r =>
        cases r with
        | nil => rw [List.length_cons, List.length_nil] at lws; omega
        | cons b r => exact ⟨a, b, r, rfl⟩
    have ndw := pm.nodup_iff.mpr nd
    have ne : a ≠ b := fun e => (List.nodup_cons.mp ndw).1 (by rw [e]; exact List.mem_cons_self)
    have ma : a ∈ zs := pm.mem_iff.mp List.mem_cons_self
    have mb : b ∈ zs := pm.mem_iff.mp (List.mem_cons_of_mem _ List.mem_cons_self)
    dsimp only [tNoPart]
    refine ⟨2, rfl, u, _, rfl, .of eu, fun s2 n2 => ?_⟩
    rw [show (some (2 : Int)) = some (((2 : Nat) : Int)) from rfl, cut_to (xs := (a :: b :: r).map V.str) (k := 2) (by rw [List.length_map]; exact Nat.le_add_left 2 _)]
    have sp := ne_of_none hp1 n2
    have b2 : But p H (upd H1 s2 (.lst (((a :: b :: r).map V.str).take 2))) := b1.new n2 _
    have hp2 : (upd H1 s2 (.lst (((a :: b :: r).map V.str).take 2))) p = some (.lst y1) := by rw [upd_ne sp]; exact hp1
    have e2 : (upd H1 s2 (.lst (((a :: b :: r).map V.str).take 2))) s2 = some (.lst [.str a, .str b]) := upd_same
    generalize upd H1 s2 (.lst (((a :: b :: r).map V.str).take 2)) = H2 at b2 hp2 e2 ⊢
    refine ⟨s2, _, rfl, .of e2, rfl, _, _, rfl, _, _, rfl, rfl, ?_⟩
    refine ⟨.ref p, rfl, p, 2, y1, k + 6, rfl, hp2, w1, by omega, by decide, by decide +kernel, fun d y2 d0 d1 w2 => ?_⟩
    have b3 := b2.upd (.lst y2)
    have hp3 : (upd H2 p (.lst y2)) p = some (.lst y2) := upd_same
    generalize upd H2 p (.lst y2) = H3 at b3 hp3 ⊢
    refine ⟨rfl, _, rfl, ?_⟩
    by_cases c : d = 0
    · rw [decide_eq_true (congrArg V.int c)]
      refine iteT ⟨.str a, rfl, .str b, rfl, line_of (show 3 ≤ 1000 by decide), fun pc npc => ?_⟩
      have pcp := (ne_of_none hp3 npc).symm
      refine q (.before a b) pc y2 _ ⟨ma, mb, ne⟩ (b3.new npc _) ⟨pc, [.str "before", .str a, .str b], rfl, .inl (by rw [hide_ne pcp]; exact upd_same), _, _, rfl, rfl, _, _, rfl, rfl, _, _, rfl, rfl, rfl⟩ (by rw [upd_ne pcp.symm]; exact hp3) (w2.mono (by omega))
    rw [decide_eq_false fun h => c (V.int.inj h)]
    refine iteF ?_
    have ht3 := b3 _ _ tp ht
    refine ⟨.ref t, rfl, t, rfl, ⟨_, .of ht3⟩, fun L nL => ?_⟩
    have Lp := (ne_of_none hp3 nL).symm
    have tL := ne_of_none ht3 nL
    refine lc_list (K := K) (a := t) (xs := zs.map V.str) (fun i H' => ∃ (y : List V) (ks : List Str), But p H3 H' ∧ H' t = some (.lst (zs.map V.str)) ∧ H' p = some (.lst y) ∧ WellL y (k + 7 + i) ∧ H' L = some (.lst (ks.map V.str)) ∧ ks.Sublist (zs.take i) ∧ ∀ z ∈ zs.take i, z = a ∨ z = b → z ∈ ks)
      ⟨y2, [], (But.refl p H3).new nL _, by rw [upd_ne tL]; exact ht3, by rw [upd_ne Lp.symm]; exact hp3, w2.mono (by omega), upd_same, List.Sublist.refl _, fun z hz => by cases hz⟩ (fun _ _ _ ⟨_, _, _, h, _⟩ => .of h) ?_ ?_
    · rintro i x' H4 hi ⟨y4, ks, b4, ht4, hp4, w4, e4, sub, all⟩
      obtain ⟨z, hz, rfl⟩ := item_map hi
      have il := (List.getElem?_eq_some_iff.mp hz).1
      have lks : ks.length ≤ 6 := by
        have := sub.length_le
        rw [List.length_take] at this
        omega
      have take : ∀ {ks' : List Str} {H' : Hp} {y' : List V}, But p H3 H' → H' t = some (.lst (zs.map V.str)) → H' p = some (.lst y') → WellL y' (k + 7 + (i + 1)) → H' L = some (.lst (ks.map V.str)) →
          (∃ acc, H' L = some (.lst acc) ∧ acc.length < sizeLine ∧ ∃ (y : List V) (ks : List Str), But p H3 (upd H' L (.lst (acc ++ [V.str z]))) ∧ (upd H' L (.lst (acc ++ [V.str z]))) t = some (.lst (zs.map V.str)) ∧ (upd H' L (.lst (acc ++ [V.str z]))) p = some (.lst y) ∧ WellL y (k + 7 + (i + 1)) ∧ (upd H' L (.lst (acc ++ [V.str z]))) L = some (.lst (ks.map V.str)) ∧ ks.Sublist (zs.take (i + 1)) ∧ ∀ z ∈ zs.take (i + 1), z = a ∨ z = b → z ∈ ks) := fun {ks' H' y'} bb h1 h2 h3 h4 => by
        refine ⟨_, h4, small1000 (by rw [List.length_map]; omega), y', ks ++ [z], bb.mut nL, by rw [upd_ne tL]; exact h1, by rw [upd_ne Lp.symm]; exact h2, h3, by rw [upd_same, List.map_append]; rfl, by rw [take_more hz]; exact sub.append (List.Sublist.refl _), fun v hv hab => ?_⟩
        rw [take_more hz] at hv
        rcases List.mem_append.mp hv with hv | hv
        · exact List.mem_append_left _ (all v hv hab)
        · exact List.mem_append_right _ hv
      refine ⟨rfl, .str z, rfl, .str a, rfl, .str b, rfl, line_of (show 2 ≤ 1000 by decide), fun u1 nu1 => ?_⟩
      have b5 := b4.new nu1 (.tup [V.str a, V.str b])
      have ht5 : (upd H4 u1 (.tup [V.str a, V.str b])) t = some (.lst (zs.map V.str)) := by rw [upd_ne (ne_of_none ht4 nu1)]; exact ht4
      have hp5 : (upd H4 u1 (.tup [V.str a, V.str b])) p = some (.lst y4) := by rw [upd_ne (ne_of_none hp4 nu1)]; exact hp4
      have e5 : (upd H4 u1 (.tup [V.str a, V.str b])) L = some (.lst (ks.map V.str)) := by rw [upd_ne (ne_of_none e4 nu1)]; exact e4
      have eu1 : (upd H4 u1 (.tup [V.str a, V.str b])) u1 = some (.tup ([a, b].map V.str)) := upd_same
      generalize upd H4 u1 (.tup [V.str a, V.str b]) = H5 at b5 ht5 hp5 e5 eu1 ⊢
      refine ⟨u1, _, rfl, .inr (.of eu1), rfl, flat_strs [a, b], _, rfl, ?_⟩
      rw [inV_str]
      by_cases c1 : z ∈ [a, b]
      · rw [decide_eq_true c1]
        exact iteT (iteT ⟨.str z, rfl, take (ks' := []) b5 ht5 hp5 (w4.mono (by omega)) e5⟩)
      · rw [decide_eq_false c1]
        refine iteF ⟨.ref p, rfl, p, 2, y4, k + 7 + i, rfl, hp5, w4, by omega, by decide, by decide +kernel, fun d2 y5 d20 d21 w5 => ?_⟩
        have b6 := b5.upd (.lst y5)
        have ht6 : (upd H5 p (.lst y5)) t = some (.lst (zs.map V.str)) := by rw [upd_ne tp]; exact ht5
        have e6 : (upd H5 p (.lst y5)) L = some (.lst (ks.map V.str)) := by rw [upd_ne Lp]; exact e5
        refine ⟨rfl, _, rfl, ?_⟩
        by_cases c2 : d2 = 0
        · rw [decide_eq_true (congrArg V.int c2)]
          exact iteT ⟨.str z, rfl, take (ks' := []) b6 ht6 upd_same w5 e6⟩
        · rw [decide_eq_false fun h => c2 (V.int.inj h)]
          refine iteF ⟨y5, ks, b6, ht6, upd_same, w5, e6, by rw [take_more hz]; exact sub.trans (List.sublist_append_left _ _), fun v hv hab => ?_⟩
          rw [take_more hz] at hv
          rcases List.mem_append.mp hv with hv | hv
          · exact all v hv hab
          · rw [List.mem_singleton.mp hv] at hab
            exact absurd (hab.elim (fun e => by rw [e]; exact List.mem_cons_self) fun e => by rw [e]; exact List.mem_cons_of_mem _ List.mem_cons_self) c1
    · rintro H4 ⟨y4, ks, b4, ht4, hp4, w4, e4, sub, all⟩
      rw [List.length_map, List.take_length] at sub all
      refine ⟨.str a, rfl, .str b, rfl, .ref L, rfl, L, _, rfl, .inl ⟨.of e4, fun tt ntt => ?_⟩⟩
      have b5 := b4.new ntt (.tup (ks.map V.str))
      have hp5 : (upd H4 tt (.tup (ks.map V.str))) p = some (.lst y4) := by rw [upd_ne (ne_of_none hp4 ntt)]; exact hp4
      have et : (upd H4 tt (.tup (ks.map V.str))) tt = some (.tup (ks.map V.str)) := upd_same
      generalize upd H4 tt (.tup (ks.map V.str)) = H5 at b5 hp5 et ⊢
      refine ⟨line_of (show 4 ≤ 1000 by decide), fun pc npc => ?_⟩
      have pcp := (ne_of_none hp5 npc).symm
      have ttp : tt ≠ p := fun e => by rw [e, hp5] at et; cases et
      have ttc := ne_of_none et npc
      refine q (.within a b ks) pc y4 _ ⟨ma, mb, ne, nd.sublist sub, (sub_filt sub nd).symm, all a ma (.inl rfl), all b mb (.inr rfl)⟩ (b3.trans (b5.new npc _)) ⟨pc, [.str "within", .str a, .str b, .ref tt], rfl, .inl (by rw [hide_ne pcp]; exact upd_same), _, _, rfl, rfl, _, _, rfl, rfl, _, _, rfl, rfl, _, _, rfl, ⟨tt, _, rfl, .inl (by rw [hide_ne ttp, upd_ne ttc]; exact et), DAll.strs _⟩, rfl⟩ (by rw [upd_ne pcp.symm]; exact hp5) (w4.mono (by rw [List.length_map]; omega))
end
section
variable {P : Program} {w : World} {K : PySem.W.Frag} {mg : Str → Option Value} {base : Heap}
/-! ### any order of a longer list -/
def sp_shuf_more : Sp := fun vs H Q _ => ∃ (p t : Addr) (zs : List Str) (x : List V) (k : Nat), vs = [.ref p, .ref t] ∧ H p = some (.lst x) ∧ H t = some (.lst (zs.map V.str)) ∧ t ≠ p ∧ zs.length ≤ 12 ∧ (∀ z ∈ zs, NameOk z) ∧ WellL x k ∧ k ≤ 900000 ∧
  ∀ (u : Addr) (ws : List Str) (y : List V) (H' : Hp), ws.Perm zs → But p H H' → H u = none → u ≠ p → H' u = some (.lst (ws.map V.str)) → H' p = some (.lst y) → WellL y (k + 12) → Q (.ref u) H'
theorem ok_shuf_more (T : Txt K mg) : FnOk P w K mg base CX0 3 T.f_law_shuffled T.fd_law_shuffled ["_law_source_here", "_law_some"] sp_shuf_more := by
  refine T.F_law_shuffled.ok sc_law_shuffled (fun vs H Q E h => ?_) (fun cdv A outer s H vs Q E hr h => ?_)
  · obtain ⟨p, t, zs, x, k, rfl, _⟩ := h
    rfl
  · obtain ⟨p, t, zs, x, k, rfl, hp, ht, htp, hn, ok, hx, hk, q⟩ := h
    refine ⟨_, (pss_cons
 (ps_set (i := 2) sc_law_shuffled.nd rfl (Or.inl rfl) (pe_callTy call_list_of (by rfl) T.z_list (by decide +kernel) (pa_cons (pv 1) pa_nil)))
 (pss_cons
 (ps_set (i := 3) sc_law_shuffled.nd rfl (Or.inl rfl) (pe_lst pa_nil))
 (pss_cons
 (ps_while PassesOwn.never (pt_cmpR (op_neD hr.units) (pv 2) (pe_lst pa_nil) (nomark _))
 (pss_one
 (ps_expr (pe_bm PySem.F.plainAttrs_list PySem.F.slot_list_append PySem.F.type_list_append mt_append (pv 3) (pa_cons (pe_bm PySem.F.plainAttrs_list PySem.F.slot_list_pop PySem.F.type_list_pop mt_popAt (pv 2) (pa_cons (pe_call (ok_law_take T) (hr.mono (by decide)) (by rfl) T.g_law_take T.F_law_take.kp T.b_law_take .nil pass0 (pa_cons (pv 0) (pa_cons (pe_callB call_len_seq (by rfl) T.z_len (by decide +kernel) (pa_cons (pv 2) pa_nil)) pa_nil))) pa_nil)) pa_nil)))))
 (pss_one
 (ps_ret (pv 3)))))), ?_⟩
    refine ⟨.ref t, rfl, t, _, rfl, .inl (.of ht), fun l nl => ?_⟩
    have hpl := ne_of_none hp nl
    refine ⟨line_of (show 0 ≤ 1000 by decide), fun g ng => ?_⟩
    have hlg : l ≠ g := fun e => by rw [← e, upd_same] at ng; cases ng
    have ngH : H g = none := by rw [upd_ne hlg.symm] at ng; exact ng
    have hpg := ne_of_none hp ngH
    refine while_by (fun σ H' => σ = [some (.ref p), some (.ref t), some (.ref l), some (.ref g)] ∧ ∃ (left done : List Str) (y : List V) (i : Nat), H' l = some (.lst (left.map V.str)) ∧ H' g = some (.lst (done.map V.str)) ∧ (done ++ left).Perm zs ∧ done.length = i ∧
        But p H H' ∧ H' p = some (.lst y) ∧ WellL y (k + i)) (leftOf l)
      ⟨rfl, zs, [], x, 0, by rw [upd_ne hlg, upd_same], upd_same, List.Perm.refl _, rfl, ((But.refl p H).mut nl).mut ngH, by rw [upd_ne hpg, upd_ne hpl]; exact hp, hx⟩ ?_
      (fun σ H Q Q' imp h => by
        obtain ⟨x, h1, h2, h3⟩ := h
        refine ⟨x, h1, h2, fun le nle => ?_⟩
        obtain ⟨d, e, a, b, c, f, kk, gg, hh⟩ := h3 le nle
        exact ⟨d, e, a, b, c, f, kk, gg, imp _ _ hh⟩)
    rintro σ H1 ⟨rfl, left, done, y, i, hl, hg, pm, ld, hb, hp1, hw⟩
    have len := pm.length_eq
    rw [List.length_append] at len
    have sok : ∀ z ∈ left, PyData.strOk z = true := fun z hz => small_ok (ok z (pm.mem_iff.mp (List.mem_append_right _ hz))).2.2
    refine ⟨.ref l, rfl, line_of (show 0 ≤ 1000 by decide), fun le nle => ?_⟩
    have lle := ne_of_none hl nle
    have gle := ne_of_none hg nle
    have ple := ne_of_none hp1 nle
    have hl' : (upd H1 le (.lst [])) l = some (.lst (left.map V.str)) := by rw [upd_ne lle]; exact hl
    have hg' : (upd H1 le (.lst [])) g = some (.lst (done.map V.str)) := by rw [upd_ne gle]; exact hg
    have hp' : (upd H1 le (.lst [])) p = some (.lst y) := by rw [upd_ne ple]; exact hp1
    have hb' := hb.mut (o := HO.lst []) (hb.free hp1 nle)
    refine ⟨.list (left.map PyData.str), .list [], .lst (.of hl') (dp_strs left), .lst (.of upd_same) .nil, shaped_strs sok, rfl, ?_⟩
    have eL : leftOf l [some (.ref p), some (.ref t), some (.ref l), some (.ref g)] H1 = left.length := by
      unfold leftOf
      rw [hl]
      exact List.length_map _
    generalize upd H1 le (.lst []) = H2 at hl' hg' hp' hb'
    by_cases h0 : left = []
    · subst h0
      refine ⟨_, rfl, iteF ?_⟩
      rw [List.append_nil] at pm
      exact ⟨.ref g, rfl, q g done y _ pm hb' ngH hpg.symm hg' hp' (hw.mono (by
        have : ([] : List Str).length = 0 := rfl
        omega))⟩
    · have hc : (!PyData.eqv (.list (left.map PyData.str)) (.list [])) = true := by
        cases left with
        | nil => exact absurd rfl h0
        | cons a r => rfl
      rw [hc]
      have hpos := List.length_pos_iff.mpr h0
      refine ⟨_, rfl, iteT ?_⟩
      refine ⟨.ref g, rfl, .inl ⟨rfl, _, .of hg'⟩, .ref l, rfl, .inl ⟨rfl, _, .of hl'⟩, .ref p, rfl, .ref l, rfl, l, _, rfl, .inl (.of hl'), p, _, y, _, rfl, hp', hw, by omega, by rw [List.length_map]; omega, size_ok (by rw [List.length_map]; omega) (by rw [List.length_map]; omega), fun d y2 d0 d1 hw2 => ?_⟩
      rw [List.length_map] at d1
      have hd : d.toNat < left.length := by omega
      refine ⟨l, _, d, d.toNat, .str left[d.toNat], rfl, rfl, by rw [upd_ne hpl.symm]; exact hl', by omega, by omega, by rw [List.length_map]; exact seqIndex_of d0 d1, by rw [List.getElem?_map, List.getElem?_eq_getElem hd]; rfl, ?_⟩
      have hg2 : (upd (upd H2 p (.lst y2)) l (.lst ((left.map V.str).eraseIdx d.toNat))) g = some (.lst (done.map V.str)) := by rw [upd_ne hlg.symm, upd_ne hpg.symm]; exact hg'
      refine ⟨g, _, _, rfl, rfl, hg2, small1000 (by rw [List.length_map]; omega), ⟨rfl, left.eraseIdx d.toNat, done ++ [left[d.toNat]], y2, i + 1, ?_, ?_, ?_, by rw [List.length_append, ld]; rfl, ((hb'.upd _).mut nl).mut ngH, by rw [upd_ne hpg, upd_ne hpl, upd_same], hw2⟩, ?_⟩
      · rw [upd_ne hlg, upd_same, erase_map]
      · rw [upd_same, List.map_append]
        rfl
      · rw [List.append_assoc]
        exact ((pick_perm left d.toNat hd).append_left done).trans pm
      · rw [eL]
        unfold leftOf
        rw [upd_ne hlg, upd_same]
        show ((left.map V.str).eraseIdx d.toNat).length < left.length
        rw [erase_map, List.length_map, List.length_eraseIdx]
        split <;> omega
end
/-! ### what is no claim -/
theorem claim_word {zs : List Str} {w a b : Str} (h1 : w ≠ "before") (h2 : w ≠ "within") (rest : List PyData) : claimD zs (.tuple (.str w :: .str a :: .str b :: rest)) = false := by
  show (unlikeD zs [.str a, .str b] && (if w = "before" then rest.isEmpty else withinD zs w a b rest)) = false
  rw [if_neg h1]
  have : withinD zs w a b rest = false := by
    unfold withinD
    split
    · rw [decide_eq_false h2, Bool.false_and]
    · rfl
  rw [this, Bool.and_false]
theorem claim_before_more {zs : List Str} {a b : Str} (d : PyData) (rest : List PyData) : claimD zs (.tuple (.str "before" :: .str a :: .str b :: d :: rest)) = false := by
  show (unlikeD zs [.str a, .str b] && (if ("before" : Str) = "before" then (d :: rest).isEmpty else withinD zs "before" a b (d :: rest))) = false
  rw [if_pos rfl]
  exact Bool.and_false _
theorem within_ne : ("within" : Str) ≠ "before" := by decide +kernel
theorem claim_within_none {zs : List Str} {a b : Str} : claimD zs (.tuple [.str "within", .str a, .str b]) = false := by
  show (unlikeD zs [.str a, .str b] && (if ("within" : Str) = "before" then true else withinD zs "within" a b [])) = false
  rw [if_neg within_ne]
  exact Bool.and_false _
theorem claim_within_two {zs : List Str} {a b : Str} (d e : PyData) (rest : List PyData) : claimD zs (.tuple (.str "within" :: .str a :: .str b :: d :: e :: rest)) = false := by
  show (unlikeD zs [.str a, .str b] && (if ("within" : Str) = "before" then false else withinD zs "within" a b (d :: e :: rest))) = false
  rw [if_neg within_ne]
  exact Bool.and_false _
theorem claim_within_lot {zs : List Str} {a b : Str} {d : PyData} (h : lotD zs a b d = false) : claimD zs (.tuple [.str "within", .str a, .str b, d]) = false := by
  show (unlikeD zs [.str a, .str b] && (if ("within" : Str) = "before" then false else withinD zs "within" a b [d])) = false
  rw [if_neg within_ne]
  show (unlikeD zs [.str a, .str b] && (decide (("within" : Str) = "within") && lotD zs a b d)) = false
  rw [h, Bool.and_false, Bool.and_false]
theorem lot_odd {zs : List Str} {a b : Str} {ds : List PyData} (h : unlikeD zs ds = false) : lotD zs a b (.tuple ds) = false := by
  unfold lotD
  dsimp only
  rw [h, Bool.false_and]
theorem lot_without {zs : List Str} {a b : Str} {ws : List Str} (h : a ∉ ws ∨ b ∉ ws) : lotD zs a b (.tuple (ws.map PyData.str)) = false := by
  unfold lotD
  dsimp only
  rw [unS_strs]
  rcases h with h | h
  · rw [decide_eq_false h]
    simp
  · rw [decide_eq_false h]
    simp
theorem lot_turned {zs : List Str} {a b : Str} {ws : List Str} (h : ws ≠ zs.filter fun z => decide (z ∈ ws)) : lotD zs a b (.tuple (ws.map PyData.str)) = false := by
  unfold lotD
  dsimp only
  rw [unS_strs, decide_eq_false h]
  simp
theorem reverse_ne {zs : List Str} (nd : zs.Nodup) (l : 2 ≤ zs.length) : zs.reverse ≠ zs := by
  cases zs with
  | nil => rw [List.length_nil] at l; omega
  | cons a r =>
    intro e
    rw [List.reverse_cons] at e
    have h := congrArg List.getLast? e
    rw [List.getLast?_concat] at h
    have ne : r ≠ [] := fun c => by rw [c] at l; simp at l
    obtain ⟨b, hb⟩ : ∃ b, r.getLast? = some b := ⟨_, List.getLast?_eq_some_getLast ne⟩
    have h2 : (a :: r).getLast? = some b := by
      cases r with
      | nil => exact absurd rfl ne
      | cons c r => rw [List.getLast?_cons_cons]; exact hb
    rw [h2] at h
    exact (List.nodup_cons.mp nd).1 (by rw [Option.some.inj h]; exact List.mem_of_getLast? hb)
theorem turned_ne {zs : List Str} (nd : zs.Nodup) (l : 2 ≤ zs.length) : zs.reverse ≠ zs.filter fun z => decide (z ∈ zs.reverse) := by
  have : (zs.filter fun z => decide (z ∈ zs.reverse)) = zs := List.filter_eq_self.mpr fun z hz => decide_eq_true (List.mem_reverse.mpr hz)
  rw [this]
  exact reverse_ne nd l
/-! ### letters that nobody bears -/
abbrev abcg : Str := "abcdefg"
def ltr (c : Nat) : Str := ⟨#[c]⟩
theorem abcg_list : abcg.cps.toList = [97, 98, 99, 100, 101, 102, 103] := by decide +kernel
def freshL (zs : List Str) (n : Nat) : List Str := ((abcg.cps.toList.take n).map ltr).filter fun z => decide (z ∉ zs)
theorem ltr_inj {a b : Nat} (h : ltr a = ltr b) : a = b := by
  have := congrArg (fun z : Str => z.cps.toList) h
  simpa [ltr] using this
theorem ltrs_nodup : ((abcg.cps.toList).map ltr).Nodup := by
  rw [abcg_list]
  refine List.pairwise_map.mpr (List.Pairwise.imp (fun {a b} h e => h (ltr_inj e)) (show [97, 98, 99, 100, 101, 102, 103].Nodup by decide))
theorem ltrs_ok : ∀ z ∈ (abcg.cps.toList).map ltr, NameOk z := by
  intro z hz
  obtain ⟨c, hc, rfl⟩ := List.mem_map.mp hz
  rw [abcg_list] at hc
  refine ⟨(show 1 ≤ 1 by decide), (show 1 ≤ 8 by decide), fun d hd => ?_⟩
  have : d = c := by simpa [ltr] using hd
  subst this
  simp only [List.mem_cons, List.not_mem_nil, or_false] at hc
  omega
theorem freshL_all (zs : List Str) : freshL zs 7 = ((abcg.cps.toList).map ltr).filter fun z => decide (z ∉ zs) := by
  unfold freshL
  rw [abcg_list]
  rfl
theorem freshL_out {zs : List Str} : ∀ z ∈ freshL zs 7, z ∉ zs := fun z hz => by
  rw [freshL_all] at hz
  exact of_decide_eq_true (List.mem_filter.mp hz).2
theorem freshL_ok {zs : List Str} : ∀ z ∈ freshL zs 7, NameOk z := fun z hz => by
  rw [freshL_all] at hz
  exact ltrs_ok z (List.mem_filter.mp hz).1
theorem freshL_nd {zs : List Str} : (freshL zs 7).Nodup := by
  rw [freshL_all]
  exact ltrs_nodup.sublist List.filter_sublist
theorem freshL_len {zs : List Str} : (freshL zs 7).length ≤ 7 := by
  rw [freshL_all]
  refine Nat.le_trans (List.length_filter_le _ _) ?_
  rw [List.length_map, abcg_list]
  decide
theorem freshL_some {zs : List Str} (h : zs.length ≤ 6) : freshL zs 7 ≠ [] := fun e => by
  rw [freshL_all, List.filter_eq_nil_iff] at e
  have sub : ∀ x ∈ (abcg.cps.toList).map ltr, x ∈ zs := fun x hx => Classical.byContradiction fun c => e x hx (decide_eq_true c)
  have := nodup_le ltrs_nodup sub
  rw [List.length_map, abcg_list] at this
  have h7 : [97, 98, 99, 100, 101, 102, 103].length = 7 := rfl
  omega
theorem freshL_more {zs : List Str} {i c : Nat} (h : abcg.cps.toList[i]? = some c) : freshL zs (i + 1) = freshL zs i ++ if ltr c ∈ zs then [] else [ltr c] := by
  unfold freshL
  rw [take_more h, List.map_append, List.filter_append]
  congr 1
  by_cases m : ltr c ∈ zs
  · rw [if_pos m, List.map_cons, List.map_nil, List.filter_cons, if_neg (by simpa using m)]
    rfl
  · rw [if_neg m, List.map_cons, List.map_nil, List.filter_cons, if_pos (by simpa using m)]
    rfl
/-! ### what is no claim, drawn -/
def BadC (zs : List Str) (H : Hp) (v : V) : Prop := ∃ d, DAt H d v ∧ fewC d ∧ claimD zs d = false
def BadCs (zs : List Str) (H : Hp) (vs : List V) : Prop := ∀ v ∈ vs, BadC zs H v
theorem BadCs.same {zs : List Str} {H H' : Hp} {vs : List V} (s : Same H H') (A : BadCs zs H vs) : BadCs zs H' vs := fun v hv => by
  obtain ⟨d, h1, h2, h3⟩ := A v hv
  exact ⟨d, h1.same s, h2, h3⟩
theorem BadCs.one {zs : List Str} {H : Hp} {v : V} {vs : List V} (A : BadCs zs H vs) (h : BadC zs H v) : BadCs zs H (vs ++ [v]) := fun x hx => (List.mem_append.mp hx).elim (A x) fun m => by rw [List.mem_singleton.mp m]; exact h
theorem pushC {zs : List Str} {p t : Addr} {Hc : Hp} {y xs vs : List V} {ds : List PyData} (P : Hc p = some (.lst y)) (A : BadCs zs (hide p Hc) vs) (n : Hc t = none) (hd : DAll (hide p Hc) ds xs) (f : ds.length ≤ 20 ∧ ∀ d ∈ ds, fewC.fewD d) (c : claimD zs (.tuple ds) = false) :
    BadCs zs (hide p (upd Hc t (.tup xs))) (vs ++ [.ref t]) ∧ Same Hc (upd Hc t (.tup xs)) := by
  have s := same_upd (o := HO.tup xs) n
  have tp : t ≠ p := (ne_of_none P n).symm
  exact ⟨(A.same (hid_same s)).one ⟨.tuple ds, ⟨t, xs, rfl, .inl (by rw [hide_ne tp]; exact upd_same), DAll.same (hid_same s) ds hd⟩, f, c⟩, s⟩
theorem few_of {ds : List PyData} (h : ds.length ≤ 20) (g : ∀ d ∈ ds, fewC.fewD d) : ds.length ≤ 20 ∧ ∀ d ∈ ds, fewC.fewD d := ⟨h, g⟩

section
variable {P : Program} {w : World} {K : PySem.W.Frag} {mg : Str → Option Value} {base : Heap}
def sp_law_no_claim : Sp := fun vs H Q _ => ∃ (p t : Addr) (zs : List Str) (x : List V) (k : Nat), vs = [.ref p, .ref t] ∧ H p = some (.lst x) ∧ H t = some (.lst (zs.map V.str)) ∧ t ≠ p ∧ zs.Nodup ∧ 0 < zs.length ∧ zs.length ≤ 6 ∧ (∀ z ∈ zs, NameOk z) ∧ WellL x k ∧ k ≤ 700000 ∧
  ∀ (v : V) (d : PyData) (y : List V) (H' : Hp), DAt (hide p H') d v → fewC d → claimD zs d = false → But p H H' → H' p = some (.lst y) → WellL y (k + 20) → Q v H'
set_option maxHeartbeats 0 in
theorem ok_law_no_claim (T : Txt K mg) : FnOk P w K mg base CX0 4 T.f_law_no_claim T.fd_law_no_claim ["_law_source_here", "_law_people"] sp_law_no_claim := by
  refine T.F_law_no_claim.ok sc_law_no_claim (fun vs H Q E h => ?_) (fun cdv A outer s H vs Q E hr h => ?_)
  · obtain ⟨p, t, zs, x, k, rfl, _⟩ := h
    rfl
  · obtain ⟨p, t, zs, x, k, rfl, hp, ht, tp, nd, pos, z6, okz, hw, hk, q⟩ := h
    refine ⟨_, (pss_cons
 (ps_asg (pe_slice sl_list (pe_call (ok_shuf_more T) (hr.mono (by decide)) (by rfl) T.g_law_shuffled T.F_law_shuffled.kp T.b_law_shuffled .nil pass0 (pa_cons (pv 0) (pa_cons (pe_op op_cat (pv 1) (pv 1)) pa_nil))) po_none (po_some pe_int)) (pg_lst rfl (pgs_cons (pg_name (i := 2) sc_law_no_claim.nd rfl (Or.inl rfl)) (pgs_cons (pg_name (i := 3) sc_law_no_claim.nd rfl (Or.inl rfl)) pgs_nil))))
 (pss_cons
 (ps_set (i := 4) sc_law_no_claim.nd rfl (Or.inl rfl) (pe_callTy call_tuple_of (by rfl) T.z_tuple (by decide +kernel) (pa_cons (pv 1) pa_nil)))
 (pss_cons
 (ps_set (i := 5) sc_law_no_claim.nd rfl (Or.inl rfl) (pe_ix ix_list (pe_lc (own := [("_law_letter", 7)]) (g := gName 7) rfl sc_law_no_claim.nd (pi_str pe_str) (blkOk_by (own := [("_law_letter", 7)]) (N := ["_law_source_here", "_law_people", "_law_one_here", "_law_other", "_law_row", "_law_fresh", "_law_odd", "_law_letter"]) (sc := (defScope s_law_no_claim)) (by decide +kernel)) (fun _ _ _ _ _ => pg_name (i := 7) sc_law_no_claim.nd rfl (Or.inl rfl)) (fun s0 H0 C0 cl0 fp0 => (by have h := ((pts_one (pt_cmpR op_notIn_seq (pv 7) (pv 1) rfl)) : PTs ((cxOf CX0 P w K mg base ["_law_source_here", "_law_people", "_law_one_here", "_law_other", "_law_row", "_law_fresh", "_law_odd", "_law_letter"] "_law_no_claim" (defScope s_law_no_claim) T.f_law_no_claim cdv A outer s H E).nox.blk s0 H0 (lcScope (subE (rootE ((defBody s_law_no_claim).getD 2 (.Pass ⟨0, 0, 0, 0⟩))) 0)) (compEnvC (lcScope (subE (rootE ((defBody s_law_no_claim).getD 2 (.Pass ⟨0, 0, 0, 0⟩))) 0)) cl0 C0 (cxOf CX0 P w K mg base ["_law_source_here", "_law_people", "_law_one_here", "_law_other", "_law_row", "_law_fresh", "_law_odd", "_law_letter"] "_law_no_claim" (defScope s_law_no_claim) T.f_law_no_claim cdv A outer s H E).nox.env) fp0) (lcIfs (subE (rootE ((defBody s_law_no_claim).getD 2 (.Pass ⟨0, 0, 0, 0⟩))) 0)) _); dsimp only [Cx.blk, Cx.tr, Cx.suite, Cx.nox, Cx.wish, cxOf] at h; exact h)) (fun _ _ _ _ _ => (pv 7))) pe_int (fun _ _ => rfl)))
 (pss_cons
 (ps_set (i := 6) sc_law_no_claim.nd rfl (Or.inl rfl) (pe_lst (pa_cons pe_non (pa_cons pe_str (pa_cons (pe_tup pa_nil) (pa_cons (pe_tup (pa_cons pe_str pa_nil)) (pa_cons (pe_tup (pa_cons pe_str (pa_cons (pv 2) pa_nil))) (pa_cons (pe_lst (pa_cons pe_str (pa_cons (pv 2) (pa_cons (pv 3) pa_nil)))) (pa_cons (pe_tup (pa_cons pe_str (pa_cons (pe_ix ix_list (pv 1) pe_int (fun _ _ => rfl)) (pa_cons (pe_ix ix_list (pv 1) (pe_un un_neg pe_int) (fun _ _ => rfl)) pa_nil)))) pa_nil)))))))))
 (pss_cons
 (ps_set (i := 6) sc_law_no_claim.nd rfl (Or.inl rfl) (pe_op op_cat (pv 6) (pe_lst (pa_cons (pe_tup (pa_cons pe_str (pa_cons (pv 2) (pa_cons (pv 2) pa_nil)))) (pa_cons (pe_tup (pa_cons pe_str (pa_cons (pv 2) (pa_cons (pv 2) (pa_cons (pv 4) pa_nil))))) (pa_cons (pe_tup (pa_cons pe_str (pa_cons (pv 2) (pa_cons (pv 5) pa_nil)))) (pa_cons (pe_tup (pa_cons pe_str (pa_cons (pv 5) (pa_cons (pv 3) pa_nil)))) pa_nil)))))))
 (pss_cons
 (ps_set (i := 6) sc_law_no_claim.nd rfl (Or.inl rfl) (pe_op op_cat (pv 6) (pe_lst (pa_cons (pe_tup (pa_cons pe_str (pa_cons (pv 2) (pa_cons (pv 3) (pa_cons (pv 4) pa_nil))))) (pa_cons (pe_tup (pa_cons pe_str (pa_cons (pv 2) (pa_cons (pv 3) pa_nil)))) (pa_cons (pe_tup (pa_cons pe_str (pa_cons (pe_ix ix_list (pv 1) pe_int (fun _ _ => rfl)) (pa_cons (pe_ix ix_list (pv 1) (pe_un un_neg pe_int) (fun _ _ => rfl)) (pa_cons (pe_callTy call_list_of (by rfl) T.z_list (by decide +kernel) (pa_cons (pv 4) pa_nil)) pa_nil))))) pa_nil))))))
 (pss_cons
 (ps_set (i := 6) sc_law_no_claim.nd rfl (Or.inl rfl) (pe_op op_cat (pv 6) (pe_lst (pa_cons (pe_tup (pa_cons pe_str (pa_cons (pv 2) (pa_cons (pv 5) (pa_cons (pv 4) pa_nil))))) (pa_cons (pe_tup (pa_cons pe_str (pa_cons (pv 2) (pa_cons (pv 3) (pa_cons (pe_op op_catA (pv 4) (pe_tup (pa_cons (pv 5) pa_nil))) pa_nil))))) (pa_cons (pe_tup (pa_cons pe_str (pa_cons pe_int (pa_cons (pv 3) pa_nil)))) (pa_cons pe_int pa_nil)))))))
 (pss_cons
 (ps_set (i := 6) sc_law_no_claim.nd rfl (Or.inl rfl) (pe_op op_cat (pv 6) (pe_lst (pa_cons (pe_tup (pa_cons pe_str (pa_cons (pe_tup (pa_cons (pv 2) pa_nil)) (pa_cons (pv 3) pa_nil)))) (pa_cons (pe_tup (pa_cons pe_str (pa_cons (pe_lst (pa_cons (pv 2) pa_nil)) (pa_cons (pv 3) pa_nil)))) (pa_cons (pe_tup (pa_cons pe_non (pa_cons (pv 2) (pa_cons (pv 3) pa_nil)))) (pa_cons (pe_tup (pa_cons pe_str (pa_cons (pv 2) (pa_cons (pv 3) (pa_cons pe_non pa_nil))))) pa_nil)))))))
 (pss_cons
 (ps_set (i := 6) sc_law_no_claim.nd rfl (Or.inl rfl) (pe_op op_cat (pv 6) (pe_lst (pa_cons (pe_tup (pa_cons pe_str (pa_cons (pv 2) (pa_cons (pv 3) (pa_cons (pe_tup pa_nil) pa_nil))))) (pa_cons (pe_tup (pa_cons pe_str (pa_cons (pv 2) (pa_cons (pv 3) (pa_cons (pe_tup (pa_cons (pv 2) pa_nil)) pa_nil))))) (pa_cons (pe_tup (pa_cons pe_str (pa_cons (pv 2) (pa_cons (pv 3) (pa_cons (pe_op op_catA (pv 4) (pe_slice sl_tupA (pv 4) po_none (po_some pe_int))) pa_nil))))) pa_nil))))))
 (pss_cons
 (ps_if (pt_cmpR op_gt (pe_callB call_len_seq (by rfl) T.z_len (by decide +kernel) (pa_cons (pv 1) pa_nil)) pe_int (nomark _))
 (pss_cons
 (ps_set (i := 6) sc_law_no_claim.nd rfl (Or.inl rfl) (pe_op op_cat (pv 6) (pe_lst (pa_cons (pe_tup (pa_cons pe_str (pa_cons (pe_ix ix_list (pv 1) pe_int (fun _ _ => rfl)) (pa_cons (pe_ix ix_list (pv 1) pe_int (fun _ _ => rfl)) (pa_cons (pe_revT (pv 4)) pa_nil))))) (pa_cons (pe_tup (pa_cons pe_str (pa_cons (pe_ix ix_list (pv 1) pe_int (fun _ _ => rfl)) (pa_cons (pe_ix ix_list (pv 1) (pe_un un_neg pe_int) (fun _ _ => rfl)) (pa_cons (pe_slice sl_tupA (pv 4) (po_some pe_int) po_none) pa_nil))))) pa_nil)))))
 (pss_one
 (ps_set (i := 6) sc_law_no_claim.nd rfl (Or.inl rfl) (pe_op op_cat (pv 6) (pe_lst (pa_cons (pe_tup (pa_cons pe_str (pa_cons (pe_ix ix_list (pv 1) pe_int (fun _ _ => rfl)) (pa_cons (pe_ix ix_list (pv 1) pe_int (fun _ _ => rfl)) (pa_cons (pv 4) (pa_cons (pv 4) pa_nil)))))) (pa_cons (pe_tup (pa_cons pe_str (pa_cons (pe_ix ix_list (pv 1) pe_int (fun _ _ => rfl)) (pa_cons (pe_ix ix_list (pv 1) pe_int (fun _ _ => rfl)) pa_nil)))) pa_nil)))))))
 pss_nil)
 (pss_one
 (ps_ret (pe_call (ok_law_one T) (hr.mono (by decide)) (by rfl) T.g_law_one T.F_law_one.kp T.b_law_one .nil pass0 (pa_cons (pv 0) (pa_cons (pv 6) pa_nil))))))))))))))), ?_⟩
    -- two of them
    refine ⟨.ref p, rfl, .ref t, rfl, .ref t, rfl, t, t, _, _, rfl, rfl, ht, ht, line_of (by rw [List.length_map]; omega), fun tt ntt => ?_⟩
    have s0 := same_upd (o := HO.lst (zs.map V.str ++ zs.map V.str)) ntt
    have e0 : (upd H tt (.lst (zs.map V.str ++ zs.map V.str))) tt = some (.lst ((zs ++ zs).map V.str)) := by rw [upd_same, List.map_append]
    have ttp : tt ≠ p := (ne_of_none hp ntt).symm
    have hp0 := s0 _ _ hp
    generalize upd H tt (.lst (zs.map V.str ++ zs.map V.str)) = H0 at s0 e0 hp0 ⊢
    refine ⟨p, tt, zs ++ zs, x, k, rfl, hp0, e0, ttp, by rw [List.length_append]; omega, fun z hz => (List.mem_append.mp hz).elim (okz z) (okz z), hw, by omega, fun u ws y1 H1 pm b1 nu up eu P w1 => ?_⟩
    have lws := pm.length_eq
    rw [List.length_append] at lws
    obtain ⟨a, b, r0, rfl⟩ : ∃ a b r, ws = a :: b :: r := by
      cases ws with
      | nil => rw [List.length_nil] at lws; omega
      | cons a r =>
        cases r with
        | nil => rw [List.length_cons, List.length_nil] at lws; omega
        | cons b r => exact ⟨a, b, r, rfl⟩
    have ma : a ∈ zs := (List.mem_append.mp (pm.mem_iff.mp List.mem_cons_self)).elim id id
    have mb : b ∈ zs := (List.mem_append.mp (pm.mem_iff.mp (List.mem_cons_of_mem _ List.mem_cons_self))).elim id id
    have bb1 : But p H H1 := fun c o n h => b1 c o n (s0 _ _ h)
    have Tt := bb1 _ _ tp ht
    dsimp only [tNoPart]
    refine ⟨2, rfl, u, _, rfl, .of eu, fun s2 n2 => ?_⟩
    rw [show (some (2 : Int)) = some (((2 : Nat) : Int)) from rfl, cut_to (xs := (a :: b :: r0).map V.str) (k := 2) (by rw [List.length_map]; exact Nat.le_add_left 2 _)]
    have s := same_upd (o := HO.lst (((a :: b :: r0).map V.str).take 2)) n2
    have e2 : (upd H1 s2 (.lst (((a :: b :: r0).map V.str).take 2))) s2 = some (.lst [.str a, .str b]) := upd_same
    have P := s _ _ P
    have Tt := s _ _ Tt
    have bb := bb1.same s
    generalize upd H1 s2 (.lst (((a :: b :: r0).map V.str).take 2)) = H2 at P Tt bb e2 ⊢
    refine ⟨s2, _, rfl, .of e2, rfl, _, _, rfl, _, _, rfl, rfl, ?_⟩
    -- the row
    refine ⟨.ref t, rfl, t, _, rfl, .inl ⟨.of Tt, fun r nr => ?_⟩⟩
    have s := same_upd (o := HO.tup (zs.map V.str)) nr
    have R : (upd H2 r (.tup (zs.map V.str))) r = some (.tup (zs.map V.str)) := upd_same
    have rp : r ≠ p := (ne_of_none P nr).symm
    have P := s _ _ P
    have Tt := s _ _ Tt
    have bb := bb.same s
    generalize upd H2 r (.tup (zs.map V.str)) = H3 at P Tt bb R ⊢
    -- a letter that is no option
    refine ⟨abcg, rfl, fun D nD => ?_⟩
    refine lc_it walk_str (fun i H' => Same H3 H' ∧ H' D = some (.lst ((freshL zs i).map V.str))) ⟨same_upd nD, upd_same⟩ (fun _ _ _ _ => trivial) ?_ ?_
    · rintro j x5 H5 H6 hj ⟨s5, e5⟩ ⟨rfl, c, hc, rfl⟩
      have hc2 : abcg.cps.toList[j]? = some c := by rw [Array.getElem?_toList]; exact hc
      have fm := freshL_more (zs := zs) hc2
      refine ⟨rfl, .str (ltr c), rfl, .ref t, rfl, t, _, rfl, .inl (.of (s5 _ _ Tt)), rfl, flat_strs zs, _, rfl, ?_⟩
      rw [inV_str]
      by_cases cc : ltr c ∈ zs
      · rw [decide_eq_true cc]
        rw [if_pos cc, List.append_nil] at fm
        exact iteF ⟨s5, by rw [fm]; exact e5⟩
      · rw [decide_eq_false cc]
        rw [if_neg cc] at fm
        refine iteT ⟨.str (ltr c), rfl, _, e5, ?_, same_mut s5 nD, ?_⟩
        · rw [List.length_map]
          have : (freshL zs j).length ≤ 7 := by
            unfold freshL
            refine Nat.le_trans (List.length_filter_le _ _) ?_
            rw [List.length_map, List.length_take, abcg_list]
            exact Nat.min_le_right _ _
          exact small1000 (by omega)
        · rw [upd_same, fm, List.map_append]
          rfl
    rintro H5 ⟨s5, e5⟩
    rw [show abcg.cps.size = 7 by decide +kernel] at e5
    have fo := freshL_out (zs := zs)
    have fs0 := freshL_some z6
    generalize freshL zs 7 = fs at e5 fo fs0
    obtain ⟨f, fr, rfl⟩ : ∃ a r, fs = a :: r := by
      cases fs with
      | nil => exact absurd rfl fs0
      | cons a r => exact ⟨a, r, rfl⟩
    have fz : f ∉ zs := fo f List.mem_cons_self
    refine ⟨D, _, 0, .str f, rfl, rfl, .of e5, atI_nat (j := 0) rfl, ?_⟩
    have P := s5 _ _ P
    have Tt := s5 _ _ Tt
    have R := s5 _ _ R
    have bb := bb.same s5
    clear e5 fo fs0 s5
    have Rr : ∀ {Hc : Hp}, Hc r = some (.tup (zs.map V.str)) → DAt (hide p Hc) (.tuple (zs.map PyData.str)) (.ref r) := fun h => ⟨r, _, rfl, .inl (by rw [hide_ne rp]; exact h), DAll.strs _⟩
    obtain ⟨z0, zr, ez⟩ : ∃ z0 zr, zs = z0 :: zr := by
      cases zs with
      | nil => exact absurd pos (by decide)
      | cons a r => exact ⟨a, r, rfl⟩
    have at0 : atI (zs.map V.str) 0 = some (.str z0) := by
      rw [ez]
      exact atI_nat (j := 0) rfl
    have mz0 : z0 ∈ zs := by rw [ez]; exact List.mem_cons_self
    obtain ⟨zl, mzl, atm⟩ : ∃ zl ∈ zs, atI (zs.map V.str) (-1) = some (.str zl) := by
      refine ⟨zs[zs.length - 1], List.getElem_mem _, ?_⟩
      unfold atI
      rw [List.length_map, show ixN zs.length (-1) = some (zs.length - 1) by
        unfold ixN
        rw [if_neg (by decide), if_pos (by omega)]
        exact congrArg some (by omega)]
      show (zs.map V.str)[zs.length - 1]? = _
      rw [List.getElem?_map, List.getElem?_eq_getElem (by omega)]
      rfl
    have dup : ∀ z : Str, unlikeD zs [.str z, .str z] = false := fun z => by
      unfold unlikeD
      rw [show [PyData.str z, .str z].filterMap unS = [z, z] from rfl, decide_eq_false (by simp), Bool.and_false]
    have of : optD zs (.str f) = false := decide_eq_false fz
    have odd1 : ∀ z : Str, unlikeD zs [.str z, .str f] = false := fun z => by
      unfold unlikeD
      rw [List.all_cons, List.all_cons, of]
      simp
    have odd2 : ∀ z : Str, unlikeD zs [.str f, .str z] = false := fun z => by
      unfold unlikeD
      rw [List.all_cons, List.all_cons, of]
      simp
    have lotf : unlikeD zs ((zs ++ [f]).map PyData.str) = false := by
      unfold unlikeD
      rw [List.map_append, List.all_append, List.map_cons, List.all_cons, of]
      simp
    have lot2 : unlikeD zs ((zs ++ [z0]).map PyData.str) = false := by
      unfold unlikeD
      rw [unS_strs, decide_eq_false fun h => (List.nodup_append.mp h).2.2 z0 mz0 z0 List.mem_cons_self rfl, Bool.and_false]
    have onlyone : claimD zs (.tuple [.str "within", .str a, .str b, .tuple [.str a]]) = false := by
      by_cases c : a = b
      · rw [c]
        exact claim_odd (dup b)
      · exact claim_within_lot (lot_without (ws := [a]) (.inr fun h => c (List.mem_singleton.mp h).symm))
    have A : BadCs zs (hide p H5) ([] ++ [V.non] ++ [V.str "before"]) := (BadCs.one (fun _ h => by cases h) ⟨.none, rfl, trivial, rfl⟩).one ⟨.str _, rfl, trivial, rfl⟩

    refine ⟨line_of (show 0 ≤ 1000 by decide), fun t5 n5 => ?_⟩
    obtain ⟨A, s⟩ := pushC (ds := []) (xs := []) P A n5 (rfl) ⟨by simp, fun d hd => by cases hd⟩ (rfl)
    have P := s _ _ P
    have R := s _ _ R
    have Tt := s _ _ Tt
    have bb := bb.same s
    generalize upd H5 t5 (.tup []) = H6 at A bb s P R Tt ⊢
    refine ⟨line_of (show 1 ≤ 1000 by decide), fun t6 n6 => ?_⟩
    obtain ⟨A, s⟩ := pushC (ds := [.str "before"]) (xs := [V.str "before"]) P A n6 (⟨_, _, rfl, rfl, rfl⟩) ⟨by simp, fun d hd => by simp only [List.mem_cons, List.not_mem_nil, or_false] at hd; rcases hd with rfl <;> first | trivial | (show (zs.map PyData.str).length ≤ 20; rw [List.length_map]; omega) | (show (1 : Nat) ≤ 20; decide) | (show (0 : Nat) ≤ 20; decide) | (show (List.map PyData.str _).length ≤ 20; simp only [List.length_map, List.length_append, List.length_drop, List.length_reverse, List.length_cons, List.length_nil]; omega)⟩ (rfl)
    have P := s _ _ P
    have R := s _ _ R
    have Tt := s _ _ Tt
    have bb := bb.same s
    generalize upd H6 t6 (.tup [V.str "before"]) = H7 at A bb s P R Tt ⊢
    refine ⟨.str a, rfl, line_of (show 2 ≤ 1000 by decide), fun t7 n7 => ?_⟩
    obtain ⟨A, s⟩ := pushC (ds := [.str "before", .str a]) (xs := [V.str "before", V.str a]) P A n7 (⟨_, _, rfl, rfl, _, _, rfl, rfl, rfl⟩) ⟨by simp, fun d hd => by simp only [List.mem_cons, List.not_mem_nil, or_false] at hd; rcases hd with rfl | rfl <;> first | trivial | (show (zs.map PyData.str).length ≤ 20; rw [List.length_map]; omega) | (show (1 : Nat) ≤ 20; decide) | (show (0 : Nat) ≤ 20; decide) | (show (List.map PyData.str _).length ≤ 20; simp only [List.length_map, List.length_append, List.length_drop, List.length_reverse, List.length_cons, List.length_nil]; omega)⟩ (rfl)
    have P := s _ _ P
    have R := s _ _ R
    have Tt := s _ _ Tt
    have bb := bb.same s
    generalize upd H7 t7 (.tup [V.str "before", V.str a]) = H8 at A bb s P R Tt ⊢
    refine ⟨.str a, rfl, .str b, rfl, line_of (show 3 ≤ 1000 by decide), fun t8 n8 => ?_⟩
    have s := same_upd (o := HO.lst [V.str "before", V.str a, V.str b]) n8
    have tp8 : t8 ≠ p := (ne_of_none P n8).symm
    have A := (A.same (hid_same (p := p) s)).one (v := .ref t8) ⟨.list [.str "before", .str a, .str b], ⟨t8, [V.str "before", V.str a, V.str b], rfl, by rw [hide_ne tp8]; exact upd_same, _, _, rfl, rfl, _, _, rfl, rfl, _, _, rfl, rfl, rfl⟩, trivial, rfl⟩
    have P := s _ _ P
    have R := s _ _ R
    have Tt := s _ _ Tt
    have bb := bb.same s
    generalize upd H8 t8 (.lst [V.str "before", V.str a, V.str b]) = H9 at A bb s P R Tt ⊢
    refine ⟨.ref t, rfl, t, _, 0, .str z0, rfl, rfl, .of Tt, at0, .ref t, rfl, 1, rfl, t, _, -1, .str zl, rfl, rfl, .of Tt, atm, line_of (show 3 ≤ 1000 by decide), fun t9 n9 => ?_⟩
    obtain ⟨A, s⟩ := pushC (ds := [.str "Before", .str z0, .str zl]) (xs := [V.str "Before", V.str z0, V.str zl]) P A n9 (⟨_, _, rfl, rfl, _, _, rfl, rfl, _, _, rfl, rfl, rfl⟩) ⟨by simp, fun d hd => by simp only [List.mem_cons, List.not_mem_nil, or_false] at hd; rcases hd with rfl | rfl | rfl <;> first | trivial | (show (zs.map PyData.str).length ≤ 20; rw [List.length_map]; omega) | (show (1 : Nat) ≤ 20; decide) | (show (0 : Nat) ≤ 20; decide) | (show (List.map PyData.str _).length ≤ 20; simp only [List.length_map, List.length_append, List.length_drop, List.length_reverse, List.length_cons, List.length_nil]; omega)⟩ (claim_word (by decide +kernel) (by decide +kernel) [])
    have P := s _ _ P
    have R := s _ _ R
    have Tt := s _ _ Tt
    have bb := bb.same s
    generalize upd H9 t9 (.tup [V.str "Before", V.str z0, V.str zl]) = H10 at A bb s P R Tt ⊢
    simp only [List.nil_append, List.cons_append] at A
    refine ⟨line_of (show 7 ≤ 1000 by decide), fun l10 n10 => ?_⟩
    have s := same_upd (o := HO.lst [V.non, V.str "before", V.ref t5, V.ref t6, V.ref t7, V.ref t8, V.ref t9]) n10
    have O10 : (upd H10 l10 (.lst [V.non, V.str "before", V.ref t5, V.ref t6, V.ref t7, V.ref t8, V.ref t9])) l10 = some (.lst [V.non, V.str "before", V.ref t5, V.ref t6, V.ref t7, V.ref t8, V.ref t9]) := upd_same
    have A := A.same (hid_same (p := p) s)
    have P := s _ _ P
    have R := s _ _ R
    have Tt := s _ _ Tt
    have bb := bb.same s
    generalize upd H10 l10 (.lst [V.non, V.str "before", V.ref t5, V.ref t6, V.ref t7, V.ref t8, V.ref t9]) = H11 at A bb s P R Tt O10 ⊢
    refine ⟨.ref l10, rfl, .str a, rfl, .str a, rfl, line_of (show 3 ≤ 1000 by decide), fun t11 n11 => ?_⟩
    obtain ⟨A, s⟩ := pushC (ds := [.str "before", .str a, .str a]) (xs := [V.str "before", V.str a, V.str a]) P A n11 (⟨_, _, rfl, rfl, _, _, rfl, rfl, _, _, rfl, rfl, rfl⟩) ⟨by simp, fun d hd => by simp only [List.mem_cons, List.not_mem_nil, or_false] at hd; rcases hd with rfl | rfl | rfl <;> first | trivial | (show (zs.map PyData.str).length ≤ 20; rw [List.length_map]; omega) | (show (1 : Nat) ≤ 20; decide) | (show (0 : Nat) ≤ 20; decide) | (show (List.map PyData.str _).length ≤ 20; simp only [List.length_map, List.length_append, List.length_drop, List.length_reverse, List.length_cons, List.length_nil]; omega)⟩ (claim_odd (dup a))
    have P := s _ _ P
    have R := s _ _ R
    have Tt := s _ _ Tt
    have O10 := s _ _ O10
    have bb := bb.same s
    generalize upd H11 t11 (.tup [V.str "before", V.str a, V.str a]) = H12 at A bb s P R Tt O10 ⊢
    refine ⟨.str a, rfl, .str a, rfl, .ref r, rfl, line_of (show 4 ≤ 1000 by decide), fun t12 n12 => ?_⟩
    obtain ⟨A, s⟩ := pushC (ds := [.str "within", .str a, .str a, .tuple (zs.map PyData.str)]) (xs := [V.str "within", V.str a, V.str a, V.ref r]) P A n12 (⟨_, _, rfl, rfl, _, _, rfl, rfl, _, _, rfl, rfl, _, _, rfl, Rr R, rfl⟩) ⟨by simp, fun d hd => by simp only [List.mem_cons, List.not_mem_nil, or_false] at hd; rcases hd with rfl | rfl | rfl | rfl <;> first | trivial | (show (zs.map PyData.str).length ≤ 20; rw [List.length_map]; omega) | (show (1 : Nat) ≤ 20; decide) | (show (0 : Nat) ≤ 20; decide) | (show (List.map PyData.str _).length ≤ 20; simp only [List.length_map, List.length_append, List.length_drop, List.length_reverse, List.length_cons, List.length_nil]; omega)⟩ (claim_odd (dup a))
    have P := s _ _ P
    have R := s _ _ R
    have Tt := s _ _ Tt
    have O10 := s _ _ O10
    have bb := bb.same s
    generalize upd H12 t12 (.tup [V.str "within", V.str a, V.str a, V.ref r]) = H13 at A bb s P R Tt O10 ⊢
    refine ⟨.str a, rfl, .str f, rfl, line_of (show 3 ≤ 1000 by decide), fun t13 n13 => ?_⟩
    obtain ⟨A, s⟩ := pushC (ds := [.str "before", .str a, .str f]) (xs := [V.str "before", V.str a, V.str f]) P A n13 (⟨_, _, rfl, rfl, _, _, rfl, rfl, _, _, rfl, rfl, rfl⟩) ⟨by simp, fun d hd => by simp only [List.mem_cons, List.not_mem_nil, or_false] at hd; rcases hd with rfl | rfl | rfl <;> first | trivial | (show (zs.map PyData.str).length ≤ 20; rw [List.length_map]; omega) | (show (1 : Nat) ≤ 20; decide) | (show (0 : Nat) ≤ 20; decide) | (show (List.map PyData.str _).length ≤ 20; simp only [List.length_map, List.length_append, List.length_drop, List.length_reverse, List.length_cons, List.length_nil]; omega)⟩ (claim_odd (odd1 a))
    have P := s _ _ P
    have R := s _ _ R
    have Tt := s _ _ Tt
    have O10 := s _ _ O10
    have bb := bb.same s
    generalize upd H13 t13 (.tup [V.str "before", V.str a, V.str f]) = H14 at A bb s P R Tt O10 ⊢
    refine ⟨.str f, rfl, .str b, rfl, line_of (show 3 ≤ 1000 by decide), fun t14 n14 => ?_⟩
    obtain ⟨A, s⟩ := pushC (ds := [.str "before", .str f, .str b]) (xs := [V.str "before", V.str f, V.str b]) P A n14 (⟨_, _, rfl, rfl, _, _, rfl, rfl, _, _, rfl, rfl, rfl⟩) ⟨by simp, fun d hd => by simp only [List.mem_cons, List.not_mem_nil, or_false] at hd; rcases hd with rfl | rfl | rfl <;> first | trivial | (show (zs.map PyData.str).length ≤ 20; rw [List.length_map]; omega) | (show (1 : Nat) ≤ 20; decide) | (show (0 : Nat) ≤ 20; decide) | (show (List.map PyData.str _).length ≤ 20; simp only [List.length_map, List.length_append, List.length_drop, List.length_reverse, List.length_cons, List.length_nil]; omega)⟩ (claim_odd (odd2 b))
    have P := s _ _ P
    have R := s _ _ R
    have Tt := s _ _ Tt
    have O10 := s _ _ O10
    have bb := bb.same s
    generalize upd H14 t14 (.tup [V.str "before", V.str f, V.str b]) = H15 at A bb s P R Tt O10 ⊢
    simp only [List.nil_append, List.cons_append] at A
    refine ⟨line_of (show 4 ≤ 1000 by decide), fun l15 n15 => ?_⟩
    have s := same_upd (o := HO.lst [V.ref t11, V.ref t12, V.ref t13, V.ref t14]) n15
    have O15 : (upd H15 l15 (.lst [V.ref t11, V.ref t12, V.ref t13, V.ref t14])) l15 = some (.lst [V.ref t11, V.ref t12, V.ref t13, V.ref t14]) := upd_same
    have A := A.same (hid_same (p := p) s)
    have P := s _ _ P
    have R := s _ _ R
    have Tt := s _ _ Tt
    have O10 := s _ _ O10
    have bb := bb.same s
    generalize upd H15 l15 (.lst [V.ref t11, V.ref t12, V.ref t13, V.ref t14]) = H16 at A bb s P R Tt O10 O15 ⊢
    refine ⟨l10, l15, _, _, rfl, rfl, O10, O15, line_of (show 11 ≤ 1000 by decide), fun l16 n16 => ?_⟩
    have lp16 : l16 ≠ p := (ne_of_none P n16).symm
    have s := same_upd (o := HO.lst ([V.non, V.str "before", V.ref t5, V.ref t6, V.ref t7, V.ref t8, V.ref t9] ++ [V.ref t11, V.ref t12, V.ref t13, V.ref t14])) n16
    have O16 : (upd H16 l16 (.lst ([V.non, V.str "before", V.ref t5, V.ref t6, V.ref t7, V.ref t8, V.ref t9] ++ [V.ref t11, V.ref t12, V.ref t13, V.ref t14]))) l16 = some (.lst [V.non, V.str "before", V.ref t5, V.ref t6, V.ref t7, V.ref t8, V.ref t9, V.ref t11, V.ref t12, V.ref t13, V.ref t14]) := upd_same
    have A := A.same (hid_same (p := p) s)
    have P := s _ _ P
    have R := s _ _ R
    have Tt := s _ _ Tt
    have O10 := s _ _ O10
    have O15 := s _ _ O15
    have bb := bb.same s
    generalize upd H16 l16 (.lst ([V.non, V.str "before", V.ref t5, V.ref t6, V.ref t7, V.ref t8, V.ref t9] ++ [V.ref t11, V.ref t12, V.ref t13, V.ref t14])) = H17 at A bb s P R Tt O16 ⊢
    refine ⟨.ref l16, rfl, .str a, rfl, .str b, rfl, .ref r, rfl, line_of (show 4 ≤ 1000 by decide), fun t17 n17 => ?_⟩
    obtain ⟨A, s⟩ := pushC (ds := [.str "before", .str a, .str b, .tuple (zs.map PyData.str)]) (xs := [V.str "before", V.str a, V.str b, V.ref r]) P A n17 (⟨_, _, rfl, rfl, _, _, rfl, rfl, _, _, rfl, rfl, _, _, rfl, Rr R, rfl⟩) ⟨by simp, fun d hd => by simp only [List.mem_cons, List.not_mem_nil, or_false] at hd; rcases hd with rfl | rfl | rfl | rfl <;> first | trivial | (show (zs.map PyData.str).length ≤ 20; rw [List.length_map]; omega) | (show (1 : Nat) ≤ 20; decide) | (show (0 : Nat) ≤ 20; decide) | (show (List.map PyData.str _).length ≤ 20; simp only [List.length_map, List.length_append, List.length_drop, List.length_reverse, List.length_cons, List.length_nil]; omega)⟩ (claim_before_more _ _)
    have P := s _ _ P
    have R := s _ _ R
    have Tt := s _ _ Tt
    have O16 := s _ _ O16
    have bb := bb.same s
    generalize upd H17 t17 (.tup [V.str "before", V.str a, V.str b, V.ref r]) = H18 at A bb s P R Tt O16 ⊢
    refine ⟨.str a, rfl, .str b, rfl, line_of (show 3 ≤ 1000 by decide), fun t18 n18 => ?_⟩
    obtain ⟨A, s⟩ := pushC (ds := [.str "within", .str a, .str b]) (xs := [V.str "within", V.str a, V.str b]) P A n18 (⟨_, _, rfl, rfl, _, _, rfl, rfl, _, _, rfl, rfl, rfl⟩) ⟨by simp, fun d hd => by simp only [List.mem_cons, List.not_mem_nil, or_false] at hd; rcases hd with rfl | rfl | rfl <;> first | trivial | (show (zs.map PyData.str).length ≤ 20; rw [List.length_map]; omega) | (show (1 : Nat) ≤ 20; decide) | (show (0 : Nat) ≤ 20; decide) | (show (List.map PyData.str _).length ≤ 20; simp only [List.length_map, List.length_append, List.length_drop, List.length_reverse, List.length_cons, List.length_nil]; omega)⟩ (claim_within_none)
    have P := s _ _ P
    have R := s _ _ R
    have Tt := s _ _ Tt
    have O16 := s _ _ O16
    have bb := bb.same s
    generalize upd H18 t18 (.tup [V.str "within", V.str a, V.str b]) = H19 at A bb s P R Tt O16 ⊢
    refine ⟨.ref t, rfl, t, _, 0, .str z0, rfl, rfl, .of Tt, at0, .ref t, rfl, 1, rfl, t, _, -1, .str zl, rfl, rfl, .of Tt, atm, .ref r, rfl, r, _, rfl, .inr (.of R), fun q19 nq => ?_⟩
    have qp : q19 ≠ p := (ne_of_none P nq).symm
    have s := same_upd (o := HO.lst (zs.map V.str)) nq
    have eq19 : (upd H19 q19 (.lst (zs.map V.str))) q19 = some (.lst (zs.map V.str)) := upd_same
    have A := A.same (hid_same (p := p) s)
    have P := s _ _ P
    have R := s _ _ R
    have Tt := s _ _ Tt
    have O16 := s _ _ O16
    have bb := bb.same s
    generalize upd H19 q19 (.lst (zs.map V.str)) = H20 at A bb s P R Tt O16 eq19 ⊢
    refine ⟨line_of (show 4 ≤ 1000 by decide), fun t20 n20 => ?_⟩
    obtain ⟨A, s⟩ := pushC (ds := [.str "within", .str z0, .str zl, .list (zs.map PyData.str)]) (xs := [V.str "within", V.str z0, V.str zl, V.ref q19]) P A n20 (⟨_, _, rfl, rfl, _, _, rfl, rfl, _, _, rfl, rfl, _, _, rfl, ⟨q19, _, rfl, by rw [hide_ne qp]; exact eq19, DAll.strs _⟩, rfl⟩) ⟨by simp, fun d hd => by simp only [List.mem_cons, List.not_mem_nil, or_false] at hd; rcases hd with rfl | rfl | rfl | rfl <;> first | trivial | (show (zs.map PyData.str).length ≤ 20; rw [List.length_map]; omega) | (show (1 : Nat) ≤ 20; decide) | (show (0 : Nat) ≤ 20; decide) | (show (List.map PyData.str _).length ≤ 20; simp only [List.length_map, List.length_append, List.length_drop, List.length_reverse, List.length_cons, List.length_nil]; omega)⟩ (claim_within_lot rfl)
    have P := s _ _ P
    have R := s _ _ R
    have Tt := s _ _ Tt
    have O16 := s _ _ O16
    have eq19 := s _ _ eq19
    have bb := bb.same s
    generalize upd H20 t20 (.tup [V.str "within", V.str z0, V.str zl, V.ref q19]) = H21 at A bb s P R Tt O16 eq19 ⊢
    simp only [List.nil_append, List.cons_append] at A
    refine ⟨line_of (show 3 ≤ 1000 by decide), fun l21 n21 => ?_⟩
    have s := same_upd (o := HO.lst [V.ref t17, V.ref t18, V.ref t20]) n21
    have O21 : (upd H21 l21 (.lst [V.ref t17, V.ref t18, V.ref t20])) l21 = some (.lst [V.ref t17, V.ref t18, V.ref t20]) := upd_same
    have A := A.same (hid_same (p := p) s)
    have P := s _ _ P
    have R := s _ _ R
    have Tt := s _ _ Tt
    have O16 := s _ _ O16
    have eq19 := s _ _ eq19
    have bb := bb.same s
    generalize upd H21 l21 (.lst [V.ref t17, V.ref t18, V.ref t20]) = H22 at A bb s P R Tt O16 eq19 O21 ⊢
    refine ⟨l16, l21, _, _, rfl, rfl, O16, O21, line_of (show 14 ≤ 1000 by decide), fun l22 n22 => ?_⟩
    have lp22 : l22 ≠ p := (ne_of_none P n22).symm
    have s := same_upd (o := HO.lst ([V.non, V.str "before", V.ref t5, V.ref t6, V.ref t7, V.ref t8, V.ref t9, V.ref t11, V.ref t12, V.ref t13, V.ref t14] ++ [V.ref t17, V.ref t18, V.ref t20])) n22
    have O22 : (upd H22 l22 (.lst ([V.non, V.str "before", V.ref t5, V.ref t6, V.ref t7, V.ref t8, V.ref t9, V.ref t11, V.ref t12, V.ref t13, V.ref t14] ++ [V.ref t17, V.ref t18, V.ref t20]))) l22 = some (.lst [V.non, V.str "before", V.ref t5, V.ref t6, V.ref t7, V.ref t8, V.ref t9, V.ref t11, V.ref t12, V.ref t13, V.ref t14, V.ref t17, V.ref t18, V.ref t20]) := upd_same
    have A := A.same (hid_same (p := p) s)
    have P := s _ _ P
    have R := s _ _ R
    have Tt := s _ _ Tt
    have O16 := s _ _ O16
    have eq19 := s _ _ eq19
    have O21 := s _ _ O21
    have bb := bb.same s
    generalize upd H22 l22 (.lst ([V.non, V.str "before", V.ref t5, V.ref t6, V.ref t7, V.ref t8, V.ref t9, V.ref t11, V.ref t12, V.ref t13, V.ref t14] ++ [V.ref t17, V.ref t18, V.ref t20])) = H23 at A bb s P R Tt eq19 O22 ⊢
    refine ⟨.ref l22, rfl, .str a, rfl, .str f, rfl, .ref r, rfl, line_of (show 4 ≤ 1000 by decide), fun t23 n23 => ?_⟩
    obtain ⟨A, s⟩ := pushC (ds := [.str "within", .str a, .str f, .tuple (zs.map PyData.str)]) (xs := [V.str "within", V.str a, V.str f, V.ref r]) P A n23 (⟨_, _, rfl, rfl, _, _, rfl, rfl, _, _, rfl, rfl, _, _, rfl, Rr R, rfl⟩) ⟨by simp, fun d hd => by simp only [List.mem_cons, List.not_mem_nil, or_false] at hd; rcases hd with rfl | rfl | rfl | rfl <;> first | trivial | (show (zs.map PyData.str).length ≤ 20; rw [List.length_map]; omega) | (show (1 : Nat) ≤ 20; decide) | (show (0 : Nat) ≤ 20; decide) | (show (List.map PyData.str _).length ≤ 20; simp only [List.length_map, List.length_append, List.length_drop, List.length_reverse, List.length_cons, List.length_nil]; omega)⟩ (claim_odd (odd1 a))
    have P := s _ _ P
    have R := s _ _ R
    have Tt := s _ _ Tt
    have eq19 := s _ _ eq19
    have O22 := s _ _ O22
    have bb := bb.same s
    generalize upd H23 t23 (.tup [V.str "within", V.str a, V.str f, V.ref r]) = H24 at A bb s P R Tt eq19 O22 ⊢
    refine ⟨.str a, rfl, .str b, rfl, .ref r, rfl, .str f, rfl, line_of (show 1 ≤ 1000 by decide), fun w24 nw => ?_⟩
    have s := same_upd (o := HO.tup [V.str f]) nw
    have ew : (upd H24 w24 (.tup [V.str f])) w24 = some (.tup [V.str f]) := upd_same
    have A := A.same (hid_same (p := p) s)
    have P := s _ _ P
    have R := s _ _ R
    have Tt := s _ _ Tt
    have eq19 := s _ _ eq19
    have O22 := s _ _ O22
    have bb := bb.same s
    generalize upd H24 w24 (.tup [V.str f]) = G24 at A bb s ew P R Tt eq19 O22 ⊢
    refine catA_of R ew (line_of (by rw [List.length_map]; show zs.length + 1 ≤ 1000; omega)) fun q24 H25 eq s => ?_
    have eq24 : H25 q24 = some (.tup ((zs ++ [f]).map V.str)) := by rw [eq, List.map_append]; rfl
    have A := A.same (hid_same (p := p) s)
    have P := s _ _ P
    have R := s _ _ R
    have Tt := s _ _ Tt
    have eq19 := s _ _ eq19
    have O22 := s _ _ O22
    have bb := bb.same s
    have qp : q24 ≠ p := fun e => by rw [e, P] at eq24; cases eq24
    refine ⟨line_of (show 4 ≤ 1000 by decide), fun t25 n25 => ?_⟩
    obtain ⟨A, s⟩ := pushC (ds := [.str "within", .str a, .str b, .tuple ((zs ++ [f]).map PyData.str)]) (xs := [V.str "within", V.str a, V.str b, V.ref q24]) P A n25 (⟨_, _, rfl, rfl, _, _, rfl, rfl, _, _, rfl, rfl, _, _, rfl, ⟨q24, _, rfl, .inl (by rw [hide_ne qp]; exact eq24), DAll.strs _⟩, rfl⟩) ⟨by simp, fun d hd => by simp only [List.mem_cons, List.not_mem_nil, or_false] at hd; rcases hd with rfl | rfl | rfl | rfl <;> first | trivial | (show (zs.map PyData.str).length ≤ 20; rw [List.length_map]; omega) | (show (1 : Nat) ≤ 20; decide) | (show (0 : Nat) ≤ 20; decide) | (show (List.map PyData.str _).length ≤ 20; simp only [List.length_map, List.length_append, List.length_drop, List.length_reverse, List.length_cons, List.length_nil]; omega)⟩ (claim_within_lot (lot_odd lotf))
    have P := s _ _ P
    have R := s _ _ R
    have Tt := s _ _ Tt
    have eq19 := s _ _ eq19
    have O22 := s _ _ O22
    have eq24 := s _ _ eq24
    have bb := bb.same s
    generalize upd H25 t25 (.tup [V.str "within", V.str a, V.str b, V.ref q24]) = H26 at A bb s P R Tt eq19 O22 eq24 ⊢
    refine ⟨.str b, rfl, line_of (show 3 ≤ 1000 by decide), fun t26 n26 => ?_⟩
    obtain ⟨A, s⟩ := pushC (ds := [.str "before", .int 5, .str b]) (xs := [V.str "before", V.int 5, V.str b]) P A n26 (⟨_, _, rfl, rfl, _, _, rfl, rfl, _, _, rfl, rfl, rfl⟩) ⟨by simp, fun d hd => by simp only [List.mem_cons, List.not_mem_nil, or_false] at hd; rcases hd with rfl | rfl | rfl <;> first | trivial | (show (zs.map PyData.str).length ≤ 20; rw [List.length_map]; omega) | (show (1 : Nat) ≤ 20; decide) | (show (0 : Nat) ≤ 20; decide) | (show (List.map PyData.str _).length ≤ 20; simp only [List.length_map, List.length_append, List.length_drop, List.length_reverse, List.length_cons, List.length_nil]; omega)⟩ (rfl)
    have P := s _ _ P
    have R := s _ _ R
    have Tt := s _ _ Tt
    have eq19 := s _ _ eq19
    have O22 := s _ _ O22
    have eq24 := s _ _ eq24
    have bb := bb.same s
    generalize upd H26 t26 (.tup [V.str "before", V.int 5, V.str b]) = H27 at A bb s P R Tt eq19 O22 eq24 ⊢
    have A := A.one (v := V.int 7) ⟨.int 7, rfl, trivial, rfl⟩
    simp only [List.nil_append, List.cons_append] at A
    refine ⟨line_of (show 4 ≤ 1000 by decide), fun l27 n27 => ?_⟩
    have s := same_upd (o := HO.lst [V.ref t23, V.ref t25, V.ref t26, V.int 7]) n27
    have O27 : (upd H27 l27 (.lst [V.ref t23, V.ref t25, V.ref t26, V.int 7])) l27 = some (.lst [V.ref t23, V.ref t25, V.ref t26, V.int 7]) := upd_same
    have A := A.same (hid_same (p := p) s)
    have P := s _ _ P
    have R := s _ _ R
    have Tt := s _ _ Tt
    have eq19 := s _ _ eq19
    have O22 := s _ _ O22
    have eq24 := s _ _ eq24
    have bb := bb.same s
    generalize upd H27 l27 (.lst [V.ref t23, V.ref t25, V.ref t26, V.int 7]) = H28 at A bb s P R Tt eq19 O22 eq24 O27 ⊢
    refine ⟨l22, l27, _, _, rfl, rfl, O22, O27, line_of (show 18 ≤ 1000 by decide), fun l28 n28 => ?_⟩
    have lp28 : l28 ≠ p := (ne_of_none P n28).symm
    have s := same_upd (o := HO.lst ([V.non, V.str "before", V.ref t5, V.ref t6, V.ref t7, V.ref t8, V.ref t9, V.ref t11, V.ref t12, V.ref t13, V.ref t14, V.ref t17, V.ref t18, V.ref t20] ++ [V.ref t23, V.ref t25, V.ref t26, V.int 7])) n28
    have O28 : (upd H28 l28 (.lst ([V.non, V.str "before", V.ref t5, V.ref t6, V.ref t7, V.ref t8, V.ref t9, V.ref t11, V.ref t12, V.ref t13, V.ref t14, V.ref t17, V.ref t18, V.ref t20] ++ [V.ref t23, V.ref t25, V.ref t26, V.int 7]))) l28 = some (.lst [V.non, V.str "before", V.ref t5, V.ref t6, V.ref t7, V.ref t8, V.ref t9, V.ref t11, V.ref t12, V.ref t13, V.ref t14, V.ref t17, V.ref t18, V.ref t20, V.ref t23, V.ref t25, V.ref t26, V.int 7]) := upd_same
    have A := A.same (hid_same (p := p) s)
    have P := s _ _ P
    have R := s _ _ R
    have Tt := s _ _ Tt
    have eq19 := s _ _ eq19
    have O22 := s _ _ O22
    have eq24 := s _ _ eq24
    have O27 := s _ _ O27
    have bb := bb.same s
    generalize upd H28 l28 (.lst ([V.non, V.str "before", V.ref t5, V.ref t6, V.ref t7, V.ref t8, V.ref t9, V.ref t11, V.ref t12, V.ref t13, V.ref t14, V.ref t17, V.ref t18, V.ref t20] ++ [V.ref t23, V.ref t25, V.ref t26, V.int 7])) = H29 at A bb s P R Tt eq19 eq24 O28 ⊢
    refine ⟨.ref l28, rfl, .str a, rfl, line_of (show 1 ≤ 1000 by decide), fun q29 nq => ?_⟩
    have qp : q29 ≠ p := (ne_of_none P nq).symm
    have s := same_upd (o := HO.tup [V.str a]) nq
    have eq29 : (upd H29 q29 (.tup [V.str a])) q29 = some (.tup [V.str a]) := upd_same
    have A := A.same (hid_same (p := p) s)
    have P := s _ _ P
    have R := s _ _ R
    have Tt := s _ _ Tt
    have eq19 := s _ _ eq19
    have eq24 := s _ _ eq24
    have O28 := s _ _ O28
    have bb := bb.same s
    generalize upd H29 q29 (.tup [V.str a]) = H30 at A bb s P R Tt eq19 eq24 O28 eq29 ⊢
    refine ⟨.str b, rfl, line_of (show 3 ≤ 1000 by decide), fun t30 n30 => ?_⟩
    obtain ⟨A, s⟩ := pushC (ds := [.str "before", .tuple [.str a], .str b]) (xs := [V.str "before", V.ref q29, V.str b]) P A n30 (⟨_, _, rfl, rfl, _, _, rfl, ⟨q29, _, rfl, .inl (by rw [hide_ne qp]; exact eq29), _, _, rfl, rfl, rfl⟩, _, _, rfl, rfl, rfl⟩) ⟨by simp, fun d hd => by simp only [List.mem_cons, List.not_mem_nil, or_false] at hd; rcases hd with rfl | rfl | rfl <;> first | trivial | (show (zs.map PyData.str).length ≤ 20; rw [List.length_map]; omega) | (show (1 : Nat) ≤ 20; decide) | (show (0 : Nat) ≤ 20; decide) | (show (List.map PyData.str _).length ≤ 20; simp only [List.length_map, List.length_append, List.length_drop, List.length_reverse, List.length_cons, List.length_nil]; omega)⟩ (rfl)
    have P := s _ _ P
    have R := s _ _ R
    have Tt := s _ _ Tt
    have eq19 := s _ _ eq19
    have eq24 := s _ _ eq24
    have O28 := s _ _ O28
    have eq29 := s _ _ eq29
    have bb := bb.same s
    generalize upd H30 t30 (.tup [V.str "before", V.ref q29, V.str b]) = H31 at A bb s P R Tt eq19 eq24 O28 eq29 ⊢
    refine ⟨.str a, rfl, line_of (show 1 ≤ 1000 by decide), fun q31 nq => ?_⟩
    have qp : q31 ≠ p := (ne_of_none P nq).symm
    have s := same_upd (o := HO.lst [V.str a]) nq
    have eq31 : (upd H31 q31 (.lst [V.str a])) q31 = some (.lst [V.str a]) := upd_same
    have A := A.same (hid_same (p := p) s)
    have P := s _ _ P
    have R := s _ _ R
    have Tt := s _ _ Tt
    have eq19 := s _ _ eq19
    have eq24 := s _ _ eq24
    have O28 := s _ _ O28
    have eq29 := s _ _ eq29
    have bb := bb.same s
    generalize upd H31 q31 (.lst [V.str a]) = H32 at A bb s P R Tt eq19 eq24 O28 eq29 eq31 ⊢
    refine ⟨.str b, rfl, line_of (show 3 ≤ 1000 by decide), fun t32 n32 => ?_⟩
    obtain ⟨A, s⟩ := pushC (ds := [.str "before", .list [.str a], .str b]) (xs := [V.str "before", V.ref q31, V.str b]) P A n32 (⟨_, _, rfl, rfl, _, _, rfl, ⟨q31, _, rfl, by rw [hide_ne qp]; exact eq31, _, _, rfl, rfl, rfl⟩, _, _, rfl, rfl, rfl⟩) ⟨by simp, fun d hd => by simp only [List.mem_cons, List.not_mem_nil, or_false] at hd; rcases hd with rfl | rfl | rfl <;> first | trivial | (show (zs.map PyData.str).length ≤ 20; rw [List.length_map]; omega) | (show (1 : Nat) ≤ 20; decide) | (show (0 : Nat) ≤ 20; decide) | (show (List.map PyData.str _).length ≤ 20; simp only [List.length_map, List.length_append, List.length_drop, List.length_reverse, List.length_cons, List.length_nil]; omega)⟩ (rfl)
    have P := s _ _ P
    have R := s _ _ R
    have Tt := s _ _ Tt
    have eq19 := s _ _ eq19
    have eq24 := s _ _ eq24
    have O28 := s _ _ O28
    have eq29 := s _ _ eq29
    have eq31 := s _ _ eq31
    have bb := bb.same s
    generalize upd H32 t32 (.tup [V.str "before", V.ref q31, V.str b]) = H33 at A bb s P R Tt eq19 eq24 O28 eq29 eq31 ⊢
    refine ⟨.str a, rfl, .str b, rfl, line_of (show 3 ≤ 1000 by decide), fun t33 n33 => ?_⟩
    obtain ⟨A, s⟩ := pushC (ds := [.none, .str a, .str b]) (xs := [V.non, V.str a, V.str b]) P A n33 (⟨_, _, rfl, rfl, _, _, rfl, rfl, _, _, rfl, rfl, rfl⟩) ⟨by simp, fun d hd => by simp only [List.mem_cons, List.not_mem_nil, or_false] at hd; rcases hd with rfl | rfl | rfl <;> first | trivial | (show (zs.map PyData.str).length ≤ 20; rw [List.length_map]; omega) | (show (1 : Nat) ≤ 20; decide) | (show (0 : Nat) ≤ 20; decide) | (show (List.map PyData.str _).length ≤ 20; simp only [List.length_map, List.length_append, List.length_drop, List.length_reverse, List.length_cons, List.length_nil]; omega)⟩ (rfl)
    have P := s _ _ P
    have R := s _ _ R
    have Tt := s _ _ Tt
    have eq19 := s _ _ eq19
    have eq24 := s _ _ eq24
    have O28 := s _ _ O28
    have eq29 := s _ _ eq29
    have eq31 := s _ _ eq31
    have bb := bb.same s
    generalize upd H33 t33 (.tup [V.non, V.str a, V.str b]) = H34 at A bb s P R Tt eq19 eq24 O28 eq29 eq31 ⊢
    refine ⟨.str a, rfl, .str b, rfl, line_of (show 4 ≤ 1000 by decide), fun t34 n34 => ?_⟩
    obtain ⟨A, s⟩ := pushC (ds := [.str "within", .str a, .str b, .none]) (xs := [V.str "within", V.str a, V.str b, V.non]) P A n34 (⟨_, _, rfl, rfl, _, _, rfl, rfl, _, _, rfl, rfl, _, _, rfl, rfl, rfl⟩) ⟨by simp, fun d hd => by simp only [List.mem_cons, List.not_mem_nil, or_false] at hd; rcases hd with rfl | rfl | rfl | rfl <;> first | trivial | (show (zs.map PyData.str).length ≤ 20; rw [List.length_map]; omega) | (show (1 : Nat) ≤ 20; decide) | (show (0 : Nat) ≤ 20; decide) | (show (List.map PyData.str _).length ≤ 20; simp only [List.length_map, List.length_append, List.length_drop, List.length_reverse, List.length_cons, List.length_nil]; omega)⟩ (claim_within_lot rfl)
    have P := s _ _ P
    have R := s _ _ R
    have Tt := s _ _ Tt
    have eq19 := s _ _ eq19
    have eq24 := s _ _ eq24
    have O28 := s _ _ O28
    have eq29 := s _ _ eq29
    have eq31 := s _ _ eq31
    have bb := bb.same s
    generalize upd H34 t34 (.tup [V.str "within", V.str a, V.str b, V.non]) = H35 at A bb s P R Tt eq19 eq24 O28 eq29 eq31 ⊢
    simp only [List.nil_append, List.cons_append] at A
    refine ⟨line_of (show 4 ≤ 1000 by decide), fun l35 n35 => ?_⟩
    have s := same_upd (o := HO.lst [V.ref t30, V.ref t32, V.ref t33, V.ref t34]) n35
    have O35 : (upd H35 l35 (.lst [V.ref t30, V.ref t32, V.ref t33, V.ref t34])) l35 = some (.lst [V.ref t30, V.ref t32, V.ref t33, V.ref t34]) := upd_same
    have A := A.same (hid_same (p := p) s)
    have P := s _ _ P
    have R := s _ _ R
    have Tt := s _ _ Tt
    have eq19 := s _ _ eq19
    have eq24 := s _ _ eq24
    have O28 := s _ _ O28
    have eq29 := s _ _ eq29
    have eq31 := s _ _ eq31
    have bb := bb.same s
    generalize upd H35 l35 (.lst [V.ref t30, V.ref t32, V.ref t33, V.ref t34]) = H36 at A bb s P R Tt eq19 eq24 O28 eq29 eq31 O35 ⊢
    refine ⟨l28, l35, _, _, rfl, rfl, O28, O35, line_of (show 22 ≤ 1000 by decide), fun l36 n36 => ?_⟩
    have lp36 : l36 ≠ p := (ne_of_none P n36).symm
    have s := same_upd (o := HO.lst ([V.non, V.str "before", V.ref t5, V.ref t6, V.ref t7, V.ref t8, V.ref t9, V.ref t11, V.ref t12, V.ref t13, V.ref t14, V.ref t17, V.ref t18, V.ref t20, V.ref t23, V.ref t25, V.ref t26, V.int 7] ++ [V.ref t30, V.ref t32, V.ref t33, V.ref t34])) n36
    have O36 : (upd H36 l36 (.lst ([V.non, V.str "before", V.ref t5, V.ref t6, V.ref t7, V.ref t8, V.ref t9, V.ref t11, V.ref t12, V.ref t13, V.ref t14, V.ref t17, V.ref t18, V.ref t20, V.ref t23, V.ref t25, V.ref t26, V.int 7] ++ [V.ref t30, V.ref t32, V.ref t33, V.ref t34]))) l36 = some (.lst [V.non, V.str "before", V.ref t5, V.ref t6, V.ref t7, V.ref t8, V.ref t9, V.ref t11, V.ref t12, V.ref t13, V.ref t14, V.ref t17, V.ref t18, V.ref t20, V.ref t23, V.ref t25, V.ref t26, V.int 7, V.ref t30, V.ref t32, V.ref t33, V.ref t34]) := upd_same
    have A := A.same (hid_same (p := p) s)
    have P := s _ _ P
    have R := s _ _ R
    have Tt := s _ _ Tt
    have eq19 := s _ _ eq19
    have eq24 := s _ _ eq24
    have O28 := s _ _ O28
    have eq29 := s _ _ eq29
    have eq31 := s _ _ eq31
    have O35 := s _ _ O35
    have bb := bb.same s
    generalize upd H36 l36 (.lst ([V.non, V.str "before", V.ref t5, V.ref t6, V.ref t7, V.ref t8, V.ref t9, V.ref t11, V.ref t12, V.ref t13, V.ref t14, V.ref t17, V.ref t18, V.ref t20, V.ref t23, V.ref t25, V.ref t26, V.int 7] ++ [V.ref t30, V.ref t32, V.ref t33, V.ref t34])) = H37 at A bb s P R Tt eq19 eq24 eq29 eq31 O36 ⊢
    refine ⟨.ref l36, rfl, .str a, rfl, .str b, rfl, line_of (show 0 ≤ 1000 by decide), fun q37 nq => ?_⟩
    have qp : q37 ≠ p := (ne_of_none P nq).symm
    have s := same_upd (o := HO.tup []) nq
    have eq37 : (upd H37 q37 (.tup [])) q37 = some (.tup []) := upd_same
    have A := A.same (hid_same (p := p) s)
    have P := s _ _ P
    have R := s _ _ R
    have Tt := s _ _ Tt
    have eq19 := s _ _ eq19
    have eq24 := s _ _ eq24
    have eq29 := s _ _ eq29
    have eq31 := s _ _ eq31
    have O36 := s _ _ O36
    have bb := bb.same s
    generalize upd H37 q37 (.tup []) = H38 at A bb s P R Tt eq19 eq24 eq29 eq31 O36 eq37 ⊢
    refine ⟨line_of (show 4 ≤ 1000 by decide), fun t38 n38 => ?_⟩
    obtain ⟨A, s⟩ := pushC (ds := [.str "within", .str a, .str b, .tuple []]) (xs := [V.str "within", V.str a, V.str b, V.ref q37]) P A n38 (⟨_, _, rfl, rfl, _, _, rfl, rfl, _, _, rfl, rfl, _, _, rfl, ⟨q37, _, rfl, .inl (by rw [hide_ne qp]; exact eq37), rfl⟩, rfl⟩) ⟨by simp, fun d hd => by simp only [List.mem_cons, List.not_mem_nil, or_false] at hd; rcases hd with rfl | rfl | rfl | rfl <;> first | trivial | (show (zs.map PyData.str).length ≤ 20; rw [List.length_map]; omega) | (show (1 : Nat) ≤ 20; decide) | (show (0 : Nat) ≤ 20; decide) | (show (List.map PyData.str _).length ≤ 20; simp only [List.length_map, List.length_append, List.length_drop, List.length_reverse, List.length_cons, List.length_nil]; omega)⟩ (claim_within_lot (lot_without (ws := []) (.inl (by simp))))
    have P := s _ _ P
    have R := s _ _ R
    have Tt := s _ _ Tt
    have eq19 := s _ _ eq19
    have eq24 := s _ _ eq24
    have eq29 := s _ _ eq29
    have eq31 := s _ _ eq31
    have O36 := s _ _ O36
    have eq37 := s _ _ eq37
    have bb := bb.same s
    generalize upd H38 t38 (.tup [V.str "within", V.str a, V.str b, V.ref q37]) = H39 at A bb s P R Tt eq19 eq24 eq29 eq31 O36 eq37 ⊢
    refine ⟨.str a, rfl, .str b, rfl, .str a, rfl, line_of (show 1 ≤ 1000 by decide), fun q39 nq => ?_⟩
    have qp : q39 ≠ p := (ne_of_none P nq).symm
    have s := same_upd (o := HO.tup [V.str a]) nq
    have eq39 : (upd H39 q39 (.tup [V.str a])) q39 = some (.tup [V.str a]) := upd_same
    have A := A.same (hid_same (p := p) s)
    have P := s _ _ P
    have R := s _ _ R
    have Tt := s _ _ Tt
    have eq19 := s _ _ eq19
    have eq24 := s _ _ eq24
    have eq29 := s _ _ eq29
    have eq31 := s _ _ eq31
    have O36 := s _ _ O36
    have eq37 := s _ _ eq37
    have bb := bb.same s
    generalize upd H39 q39 (.tup [V.str a]) = H40 at A bb s P R Tt eq19 eq24 eq29 eq31 O36 eq37 eq39 ⊢
    refine ⟨line_of (show 4 ≤ 1000 by decide), fun t40 n40 => ?_⟩
    obtain ⟨A, s⟩ := pushC (ds := [.str "within", .str a, .str b, .tuple [.str a]]) (xs := [V.str "within", V.str a, V.str b, V.ref q39]) P A n40 (⟨_, _, rfl, rfl, _, _, rfl, rfl, _, _, rfl, rfl, _, _, rfl, ⟨q39, _, rfl, .inl (by rw [hide_ne qp]; exact eq39), _, _, rfl, rfl, rfl⟩, rfl⟩) ⟨by simp, fun d hd => by simp only [List.mem_cons, List.not_mem_nil, or_false] at hd; rcases hd with rfl | rfl | rfl | rfl <;> first | trivial | (show (zs.map PyData.str).length ≤ 20; rw [List.length_map]; omega) | (show (1 : Nat) ≤ 20; decide) | (show (0 : Nat) ≤ 20; decide) | (show (List.map PyData.str _).length ≤ 20; simp only [List.length_map, List.length_append, List.length_drop, List.length_reverse, List.length_cons, List.length_nil]; omega)⟩ (onlyone)
    have P := s _ _ P
    have R := s _ _ R
    have Tt := s _ _ Tt
    have eq19 := s _ _ eq19
    have eq24 := s _ _ eq24
    have eq29 := s _ _ eq29
    have eq31 := s _ _ eq31
    have O36 := s _ _ O36
    have eq37 := s _ _ eq37
    have eq39 := s _ _ eq39
    have bb := bb.same s
    generalize upd H40 t40 (.tup [V.str "within", V.str a, V.str b, V.ref q39]) = H41 at A bb s P R Tt eq19 eq24 eq29 eq31 O36 eq37 eq39 ⊢
    refine ⟨.str a, rfl, .str b, rfl, .ref r, rfl, .ref r, rfl, ?_⟩
    dsimp only [tNoPart]
    refine ⟨1, rfl, ?_⟩
    refine slX_of R fun w41 G41 ew s => ?_
    rw [show (some (1 : Int)) = some (((1 : Nat) : Int)) from rfl, cut_to (xs := zs.map V.str) (k := 1) (by rw [List.length_map]; exact pos), show (zs.map V.str).take 1 = [V.str z0] by rw [ez]; rfl] at ew
    have A := A.same (hid_same (p := p) s)
    have P := s _ _ P
    have R := s _ _ R
    have Tt := s _ _ Tt
    have eq19 := s _ _ eq19
    have eq24 := s _ _ eq24
    have eq29 := s _ _ eq29
    have eq31 := s _ _ eq31
    have O36 := s _ _ O36
    have eq37 := s _ _ eq37
    have eq39 := s _ _ eq39
    have bb := bb.same s
    refine catA_of R ew (line_of (by rw [List.length_map]; show zs.length + 1 ≤ 1000; omega)) fun q41 H42 eq s => ?_
    have eq41 : H42 q41 = some (.tup ((zs ++ [z0]).map V.str)) := by rw [eq, List.map_append]; rfl
    have A := A.same (hid_same (p := p) s)
    have P := s _ _ P
    have R := s _ _ R
    have Tt := s _ _ Tt
    have eq19 := s _ _ eq19
    have eq24 := s _ _ eq24
    have eq29 := s _ _ eq29
    have eq31 := s _ _ eq31
    have O36 := s _ _ O36
    have eq37 := s _ _ eq37
    have eq39 := s _ _ eq39
    have bb := bb.same s
    have qp : q41 ≠ p := fun e => by rw [e, P] at eq41; cases eq41
    refine ⟨line_of (show 4 ≤ 1000 by decide), fun t42 n42 => ?_⟩
    obtain ⟨A, s⟩ := pushC (ds := [.str "within", .str a, .str b, .tuple ((zs ++ [z0]).map PyData.str)]) (xs := [V.str "within", V.str a, V.str b, V.ref q41]) P A n42 (⟨_, _, rfl, rfl, _, _, rfl, rfl, _, _, rfl, rfl, _, _, rfl, ⟨q41, _, rfl, .inl (by rw [hide_ne qp]; exact eq41), DAll.strs _⟩, rfl⟩) ⟨by simp, fun d hd => by simp only [List.mem_cons, List.not_mem_nil, or_false] at hd; rcases hd with rfl | rfl | rfl | rfl <;> first | trivial | (show (zs.map PyData.str).length ≤ 20; rw [List.length_map]; omega) | (show (1 : Nat) ≤ 20; decide) | (show (0 : Nat) ≤ 20; decide) | (show (List.map PyData.str _).length ≤ 20; simp only [List.length_map, List.length_append, List.length_drop, List.length_reverse, List.length_cons, List.length_nil]; omega)⟩ (claim_within_lot (lot_odd lot2))
    have P := s _ _ P
    have R := s _ _ R
    have Tt := s _ _ Tt
    have eq19 := s _ _ eq19
    have eq24 := s _ _ eq24
    have eq29 := s _ _ eq29
    have eq31 := s _ _ eq31
    have O36 := s _ _ O36
    have eq37 := s _ _ eq37
    have eq39 := s _ _ eq39
    have eq41 := s _ _ eq41
    have bb := bb.same s
    generalize upd H42 t42 (.tup [V.str "within", V.str a, V.str b, V.ref q41]) = H43 at A bb s P R Tt eq19 eq24 eq29 eq31 O36 eq37 eq39 eq41 ⊢
    simp only [List.nil_append, List.cons_append] at A
    refine ⟨line_of (show 3 ≤ 1000 by decide), fun l43 n43 => ?_⟩
    have s := same_upd (o := HO.lst [V.ref t38, V.ref t40, V.ref t42]) n43
    have O43 : (upd H43 l43 (.lst [V.ref t38, V.ref t40, V.ref t42])) l43 = some (.lst [V.ref t38, V.ref t40, V.ref t42]) := upd_same
    have A := A.same (hid_same (p := p) s)
    have P := s _ _ P
    have R := s _ _ R
    have Tt := s _ _ Tt
    have eq19 := s _ _ eq19
    have eq24 := s _ _ eq24
    have eq29 := s _ _ eq29
    have eq31 := s _ _ eq31
    have O36 := s _ _ O36
    have eq37 := s _ _ eq37
    have eq39 := s _ _ eq39
    have eq41 := s _ _ eq41
    have bb := bb.same s
    generalize upd H43 l43 (.lst [V.ref t38, V.ref t40, V.ref t42]) = H44 at A bb s P R Tt eq19 eq24 eq29 eq31 O36 eq37 eq39 eq41 O43 ⊢
    refine ⟨l36, l43, _, _, rfl, rfl, O36, O43, line_of (show 25 ≤ 1000 by decide), fun l44 n44 => ?_⟩
    have lp44 : l44 ≠ p := (ne_of_none P n44).symm
    have s := same_upd (o := HO.lst ([V.non, V.str "before", V.ref t5, V.ref t6, V.ref t7, V.ref t8, V.ref t9, V.ref t11, V.ref t12, V.ref t13, V.ref t14, V.ref t17, V.ref t18, V.ref t20, V.ref t23, V.ref t25, V.ref t26, V.int 7, V.ref t30, V.ref t32, V.ref t33, V.ref t34] ++ [V.ref t38, V.ref t40, V.ref t42])) n44
    have O44 : (upd H44 l44 (.lst ([V.non, V.str "before", V.ref t5, V.ref t6, V.ref t7, V.ref t8, V.ref t9, V.ref t11, V.ref t12, V.ref t13, V.ref t14, V.ref t17, V.ref t18, V.ref t20, V.ref t23, V.ref t25, V.ref t26, V.int 7, V.ref t30, V.ref t32, V.ref t33, V.ref t34] ++ [V.ref t38, V.ref t40, V.ref t42]))) l44 = some (.lst [V.non, V.str "before", V.ref t5, V.ref t6, V.ref t7, V.ref t8, V.ref t9, V.ref t11, V.ref t12, V.ref t13, V.ref t14, V.ref t17, V.ref t18, V.ref t20, V.ref t23, V.ref t25, V.ref t26, V.int 7, V.ref t30, V.ref t32, V.ref t33, V.ref t34, V.ref t38, V.ref t40, V.ref t42]) := upd_same
    have A := A.same (hid_same (p := p) s)
    have P := s _ _ P
    have R := s _ _ R
    have Tt := s _ _ Tt
    have eq19 := s _ _ eq19
    have eq24 := s _ _ eq24
    have eq29 := s _ _ eq29
    have eq31 := s _ _ eq31
    have O36 := s _ _ O36
    have eq37 := s _ _ eq37
    have eq39 := s _ _ eq39
    have eq41 := s _ _ eq41
    have O43 := s _ _ O43
    have bb := bb.same s
    generalize upd H44 l44 (.lst ([V.non, V.str "before", V.ref t5, V.ref t6, V.ref t7, V.ref t8, V.ref t9, V.ref t11, V.ref t12, V.ref t13, V.ref t14, V.ref t17, V.ref t18, V.ref t20, V.ref t23, V.ref t25, V.ref t26, V.int 7, V.ref t30, V.ref t32, V.ref t33, V.ref t34] ++ [V.ref t38, V.ref t40, V.ref t42])) = H45 at A bb s P R Tt eq19 eq24 eq29 eq31 eq37 eq39 eq41 O44 ⊢
    refine ⟨.ref t, rfl, t, _, rfl, .inl (.of Tt), _, _, rfl, rfl, _, rfl, ?_⟩
    by_cases c : 1 < zs.length
    case neg =>
      rw [decide_eq_false (show ¬ ((((zs.map V.str).length : Nat) : Int) > 1) by rw [List.length_map]; omega)]
      refine iteF ?_
      refine ⟨.ref p, rfl, .ref l44, rfl, p, l44, [V.non, V.str "before", V.ref t5, V.ref t6, V.ref t7, V.ref t8, V.ref t9, V.ref t11, V.ref t12, V.ref t13, V.ref t14, V.ref t17, V.ref t18, V.ref t20, V.ref t23, V.ref t25, V.ref t26, V.int 7, V.ref t30, V.ref t32, V.ref t33, V.ref t34, V.ref t38, V.ref t40, V.ref t42], y1, _, rfl, P, w1, by omega, O44, lp44, by simp, by simp, fun v y5 hv w5 => ?_⟩
      obtain ⟨d, hd, hf, hc⟩ := A v hv
      exact q v d y5 _ (by rw [hide_upd]; exact hd) hf hc (bb.upd _) upd_same (w5.mono (by omega))
    rw [decide_eq_true (show (((zs.map V.str).length : Nat) : Int) > 1 by rw [List.length_map]; omega)]
    refine iteT ?_
    obtain ⟨z1, zr2, ez2⟩ : ∃ z1 zr2, zr = z1 :: zr2 := by
      cases zr with
      | nil => rw [ez] at c; exact absurd c (by simp)
      | cons a r => exact ⟨a, r, rfl⟩
    have at1 : atI (zs.map V.str) 1 = some (.str z1) := by
      rw [ez, ez2]
      exact atI_nat (j := 1) rfl
    have z0t : z0 ∉ zs.drop 1 := by
      rw [ez]
      rw [ez] at nd
      exact (List.nodup_cons.mp nd).1
    refine ⟨.ref l44, rfl, .ref t, rfl, t, _, 0, .str z0, rfl, rfl, .of Tt, at0, .ref t, rfl, t, _, 1, .str z1, rfl, rfl, .of Tt, at1, .ref r, rfl, r, _, rfl, .of R, fun q45 nq => ?_⟩
    have s := same_upd (o := HO.tup (zs.map V.str).reverse) nq
    have eq45 : (upd H45 q45 (.tup (zs.map V.str).reverse)) q45 = some (.tup (zs.reverse.map V.str)) := by rw [upd_same, List.map_reverse]
    have A := A.same (hid_same (p := p) s)
    have P := s _ _ P
    have R := s _ _ R
    have Tt := s _ _ Tt
    have eq19 := s _ _ eq19
    have eq24 := s _ _ eq24
    have eq29 := s _ _ eq29
    have eq31 := s _ _ eq31
    have eq37 := s _ _ eq37
    have eq39 := s _ _ eq39
    have eq41 := s _ _ eq41
    have O44 := s _ _ O44
    have bb := bb.same s
    generalize upd H45 q45 (.tup (zs.map V.str).reverse) = H46 at A bb s P R Tt eq19 eq24 eq29 eq31 eq37 eq39 eq41 O44 eq45 ⊢
    have qp : q45 ≠ p := fun e => by rw [e, P] at eq45; cases eq45
    refine ⟨line_of (show 4 ≤ 1000 by decide), fun t46 n46 => ?_⟩
    obtain ⟨A, s⟩ := pushC (ds := [.str "within", .str z0, .str z1, .tuple (zs.reverse.map PyData.str)]) (xs := [V.str "within", V.str z0, V.str z1, V.ref q45]) P A n46 (⟨_, _, rfl, rfl, _, _, rfl, rfl, _, _, rfl, rfl, _, _, rfl, ⟨q45, _, rfl, .inl (by rw [hide_ne qp]; exact eq45), DAll.strs _⟩, rfl⟩) ⟨by simp, fun d hd => by simp only [List.mem_cons, List.not_mem_nil, or_false] at hd; rcases hd with rfl | rfl | rfl | rfl <;> first | trivial | (show (zs.map PyData.str).length ≤ 20; rw [List.length_map]; omega) | (show (1 : Nat) ≤ 20; decide) | (show (0 : Nat) ≤ 20; decide) | (show (List.map PyData.str _).length ≤ 20; simp only [List.length_map, List.length_append, List.length_drop, List.length_reverse, List.length_cons, List.length_nil]; omega)⟩ (claim_within_lot (lot_turned (turned_ne nd (by omega))))
    have P := s _ _ P
    have R := s _ _ R
    have Tt := s _ _ Tt
    have eq19 := s _ _ eq19
    have eq24 := s _ _ eq24
    have eq29 := s _ _ eq29
    have eq31 := s _ _ eq31
    have eq37 := s _ _ eq37
    have eq39 := s _ _ eq39
    have eq41 := s _ _ eq41
    have O44 := s _ _ O44
    have eq45 := s _ _ eq45
    have bb := bb.same s
    generalize upd H46 t46 (.tup [V.str "within", V.str z0, V.str z1, V.ref q45]) = H47 at A bb s P R Tt eq19 eq24 eq29 eq31 eq37 eq39 eq41 O44 eq45 ⊢
    refine ⟨.ref t, rfl, t, _, 0, .str z0, rfl, rfl, .of Tt, at0, .ref t, rfl, 1, rfl, t, _, -1, .str zl, rfl, rfl, .of Tt, atm, .ref r, rfl, 1, rfl, ?_⟩
    dsimp only [tNoPart]
    refine slX_of R fun q47 H48 eq47 s => ?_
    rw [show (some (1 : Int)) = some (((1 : Nat) : Int)) from rfl, cut_from (xs := zs.map V.str) (k := 1) (by rw [List.length_map]; exact pos), ← List.map_drop] at eq47
    have A := A.same (hid_same (p := p) s)
    have P := s _ _ P
    have R := s _ _ R
    have Tt := s _ _ Tt
    have eq19 := s _ _ eq19
    have eq24 := s _ _ eq24
    have eq29 := s _ _ eq29
    have eq31 := s _ _ eq31
    have eq37 := s _ _ eq37
    have eq39 := s _ _ eq39
    have eq41 := s _ _ eq41
    have O44 := s _ _ O44
    have eq45 := s _ _ eq45
    have bb := bb.same s
    have qp : q47 ≠ p := fun e => by rw [e, P] at eq47; cases eq47
    refine ⟨line_of (show 4 ≤ 1000 by decide), fun t48 n48 => ?_⟩
    obtain ⟨A, s⟩ := pushC (ds := [.str "within", .str z0, .str zl, .tuple ((zs.drop 1).map PyData.str)]) (xs := [V.str "within", V.str z0, V.str zl, V.ref q47]) P A n48 (⟨_, _, rfl, rfl, _, _, rfl, rfl, _, _, rfl, rfl, _, _, rfl, ⟨q47, _, rfl, .inl (by rw [hide_ne qp]; exact eq47), DAll.strs _⟩, rfl⟩) ⟨by simp, fun d hd => by simp only [List.mem_cons, List.not_mem_nil, or_false] at hd; rcases hd with rfl | rfl | rfl | rfl <;> first | trivial | (show (zs.map PyData.str).length ≤ 20; rw [List.length_map]; omega) | (show (1 : Nat) ≤ 20; decide) | (show (0 : Nat) ≤ 20; decide) | (show (List.map PyData.str _).length ≤ 20; simp only [List.length_map, List.length_append, List.length_drop, List.length_reverse, List.length_cons, List.length_nil]; omega)⟩ (claim_within_lot (lot_without (.inl z0t)))
    have P := s _ _ P
    have R := s _ _ R
    have Tt := s _ _ Tt
    have eq19 := s _ _ eq19
    have eq24 := s _ _ eq24
    have eq29 := s _ _ eq29
    have eq31 := s _ _ eq31
    have eq37 := s _ _ eq37
    have eq39 := s _ _ eq39
    have eq41 := s _ _ eq41
    have O44 := s _ _ O44
    have eq45 := s _ _ eq45
    have eq47 := s _ _ eq47
    have bb := bb.same s
    generalize upd H48 t48 (.tup [V.str "within", V.str z0, V.str zl, V.ref q47]) = H49 at A bb s P R Tt eq19 eq24 eq29 eq31 eq37 eq39 eq41 O44 eq45 eq47 ⊢
    simp only [List.nil_append, List.cons_append] at A
    refine ⟨line_of (show 2 ≤ 1000 by decide), fun l49 n49 => ?_⟩
    have s := same_upd (o := HO.lst [V.ref t46, V.ref t48]) n49
    have O49 : (upd H49 l49 (.lst [V.ref t46, V.ref t48])) l49 = some (.lst [V.ref t46, V.ref t48]) := upd_same
    have A := A.same (hid_same (p := p) s)
    have P := s _ _ P
    have R := s _ _ R
    have Tt := s _ _ Tt
    have eq19 := s _ _ eq19
    have eq24 := s _ _ eq24
    have eq29 := s _ _ eq29
    have eq31 := s _ _ eq31
    have eq37 := s _ _ eq37
    have eq39 := s _ _ eq39
    have eq41 := s _ _ eq41
    have O44 := s _ _ O44
    have eq45 := s _ _ eq45
    have eq47 := s _ _ eq47
    have bb := bb.same s
    generalize upd H49 l49 (.lst [V.ref t46, V.ref t48]) = H50 at A bb s P R Tt eq19 eq24 eq29 eq31 eq37 eq39 eq41 O44 eq45 eq47 O49 ⊢
    refine ⟨l44, l49, _, _, rfl, rfl, O44, O49, line_of (show 27 ≤ 1000 by decide), fun l50 n50 => ?_⟩
    have lp50 : l50 ≠ p := (ne_of_none P n50).symm
    have s := same_upd (o := HO.lst ([V.non, V.str "before", V.ref t5, V.ref t6, V.ref t7, V.ref t8, V.ref t9, V.ref t11, V.ref t12, V.ref t13, V.ref t14, V.ref t17, V.ref t18, V.ref t20, V.ref t23, V.ref t25, V.ref t26, V.int 7, V.ref t30, V.ref t32, V.ref t33, V.ref t34, V.ref t38, V.ref t40, V.ref t42] ++ [V.ref t46, V.ref t48])) n50
    have O50 : (upd H50 l50 (.lst ([V.non, V.str "before", V.ref t5, V.ref t6, V.ref t7, V.ref t8, V.ref t9, V.ref t11, V.ref t12, V.ref t13, V.ref t14, V.ref t17, V.ref t18, V.ref t20, V.ref t23, V.ref t25, V.ref t26, V.int 7, V.ref t30, V.ref t32, V.ref t33, V.ref t34, V.ref t38, V.ref t40, V.ref t42] ++ [V.ref t46, V.ref t48]))) l50 = some (.lst [V.non, V.str "before", V.ref t5, V.ref t6, V.ref t7, V.ref t8, V.ref t9, V.ref t11, V.ref t12, V.ref t13, V.ref t14, V.ref t17, V.ref t18, V.ref t20, V.ref t23, V.ref t25, V.ref t26, V.int 7, V.ref t30, V.ref t32, V.ref t33, V.ref t34, V.ref t38, V.ref t40, V.ref t42, V.ref t46, V.ref t48]) := upd_same
    have A := A.same (hid_same (p := p) s)
    have P := s _ _ P
    have R := s _ _ R
    have Tt := s _ _ Tt
    have eq19 := s _ _ eq19
    have eq24 := s _ _ eq24
    have eq29 := s _ _ eq29
    have eq31 := s _ _ eq31
    have eq37 := s _ _ eq37
    have eq39 := s _ _ eq39
    have eq41 := s _ _ eq41
    have O44 := s _ _ O44
    have eq45 := s _ _ eq45
    have eq47 := s _ _ eq47
    have O49 := s _ _ O49
    have bb := bb.same s
    generalize upd H50 l50 (.lst ([V.non, V.str "before", V.ref t5, V.ref t6, V.ref t7, V.ref t8, V.ref t9, V.ref t11, V.ref t12, V.ref t13, V.ref t14, V.ref t17, V.ref t18, V.ref t20, V.ref t23, V.ref t25, V.ref t26, V.int 7, V.ref t30, V.ref t32, V.ref t33, V.ref t34, V.ref t38, V.ref t40, V.ref t42] ++ [V.ref t46, V.ref t48])) = H51 at A bb s P R Tt eq19 eq24 eq29 eq31 eq37 eq39 eq41 eq45 eq47 O50 ⊢
    refine ⟨.ref l50, rfl, .ref t, rfl, t, _, 0, .str z0, rfl, rfl, .of Tt, at0, .ref t, rfl, t, _, 1, .str z1, rfl, rfl, .of Tt, at1, .ref r, rfl, .ref r, rfl, line_of (show 5 ≤ 1000 by decide), fun t51 n51 => ?_⟩
    obtain ⟨A, s⟩ := pushC (ds := [.str "within", .str z0, .str z1, .tuple (zs.map PyData.str), .tuple (zs.map PyData.str)]) (xs := [V.str "within", V.str z0, V.str z1, V.ref r, V.ref r]) P A n51 (⟨_, _, rfl, rfl, _, _, rfl, rfl, _, _, rfl, rfl, _, _, rfl, Rr R, _, _, rfl, Rr R, rfl⟩) ⟨by simp, fun d hd => by simp only [List.mem_cons, List.not_mem_nil, or_false] at hd; rcases hd with rfl | rfl | rfl | rfl | rfl <;> first | trivial | (show (zs.map PyData.str).length ≤ 20; rw [List.length_map]; omega) | (show (1 : Nat) ≤ 20; decide) | (show (0 : Nat) ≤ 20; decide) | (show (List.map PyData.str _).length ≤ 20; simp only [List.length_map, List.length_append, List.length_drop, List.length_reverse, List.length_cons, List.length_nil]; omega)⟩ (claim_within_two _ _ _)
    have P := s _ _ P
    have R := s _ _ R
    have Tt := s _ _ Tt
    have eq19 := s _ _ eq19
    have eq24 := s _ _ eq24
    have eq29 := s _ _ eq29
    have eq31 := s _ _ eq31
    have eq37 := s _ _ eq37
    have eq39 := s _ _ eq39
    have eq41 := s _ _ eq41
    have eq45 := s _ _ eq45
    have eq47 := s _ _ eq47
    have O50 := s _ _ O50
    have bb := bb.same s
    generalize upd H51 t51 (.tup [V.str "within", V.str z0, V.str z1, V.ref r, V.ref r]) = H52 at A bb s P R Tt eq19 eq24 eq29 eq31 eq37 eq39 eq41 eq45 eq47 O50 ⊢
    refine ⟨.ref t, rfl, t, _, 0, .str z0, rfl, rfl, .of Tt, at0, .ref t, rfl, t, _, 1, .str z1, rfl, rfl, .of Tt, at1, line_of (show 3 ≤ 1000 by decide), fun t52 n52 => ?_⟩
    obtain ⟨A, s⟩ := pushC (ds := [.str "lead", .str z0, .str z1]) (xs := [V.str "lead", V.str z0, V.str z1]) P A n52 (⟨_, _, rfl, rfl, _, _, rfl, rfl, _, _, rfl, rfl, rfl⟩) ⟨by simp, fun d hd => by simp only [List.mem_cons, List.not_mem_nil, or_false] at hd; rcases hd with rfl | rfl | rfl <;> first | trivial | (show (zs.map PyData.str).length ≤ 20; rw [List.length_map]; omega) | (show (1 : Nat) ≤ 20; decide) | (show (0 : Nat) ≤ 20; decide) | (show (List.map PyData.str _).length ≤ 20; simp only [List.length_map, List.length_append, List.length_drop, List.length_reverse, List.length_cons, List.length_nil]; omega)⟩ (claim_word (by decide +kernel) (by decide +kernel) [])
    have P := s _ _ P
    have R := s _ _ R
    have Tt := s _ _ Tt
    have eq19 := s _ _ eq19
    have eq24 := s _ _ eq24
    have eq29 := s _ _ eq29
    have eq31 := s _ _ eq31
    have eq37 := s _ _ eq37
    have eq39 := s _ _ eq39
    have eq41 := s _ _ eq41
    have eq45 := s _ _ eq45
    have eq47 := s _ _ eq47
    have O50 := s _ _ O50
    have bb := bb.same s
    generalize upd H52 t52 (.tup [V.str "lead", V.str z0, V.str z1]) = H53 at A bb s P R Tt eq19 eq24 eq29 eq31 eq37 eq39 eq41 eq45 eq47 O50 ⊢
    simp only [List.nil_append, List.cons_append] at A
    refine ⟨line_of (show 2 ≤ 1000 by decide), fun l53 n53 => ?_⟩
    have s := same_upd (o := HO.lst [V.ref t51, V.ref t52]) n53
    have O53 : (upd H53 l53 (.lst [V.ref t51, V.ref t52])) l53 = some (.lst [V.ref t51, V.ref t52]) := upd_same
    have A := A.same (hid_same (p := p) s)
    have P := s _ _ P
    have R := s _ _ R
    have Tt := s _ _ Tt
    have eq19 := s _ _ eq19
    have eq24 := s _ _ eq24
    have eq29 := s _ _ eq29
    have eq31 := s _ _ eq31
    have eq37 := s _ _ eq37
    have eq39 := s _ _ eq39
    have eq41 := s _ _ eq41
    have eq45 := s _ _ eq45
    have eq47 := s _ _ eq47
    have O50 := s _ _ O50
    have bb := bb.same s
    generalize upd H53 l53 (.lst [V.ref t51, V.ref t52]) = H54 at A bb s P R Tt eq19 eq24 eq29 eq31 eq37 eq39 eq41 eq45 eq47 O50 O53 ⊢
    refine ⟨l50, l53, _, _, rfl, rfl, O50, O53, line_of (show 29 ≤ 1000 by decide), fun l54 n54 => ?_⟩
    have lp54 : l54 ≠ p := (ne_of_none P n54).symm
    have s := same_upd (o := HO.lst ([V.non, V.str "before", V.ref t5, V.ref t6, V.ref t7, V.ref t8, V.ref t9, V.ref t11, V.ref t12, V.ref t13, V.ref t14, V.ref t17, V.ref t18, V.ref t20, V.ref t23, V.ref t25, V.ref t26, V.int 7, V.ref t30, V.ref t32, V.ref t33, V.ref t34, V.ref t38, V.ref t40, V.ref t42, V.ref t46, V.ref t48] ++ [V.ref t51, V.ref t52])) n54
    have O54 : (upd H54 l54 (.lst ([V.non, V.str "before", V.ref t5, V.ref t6, V.ref t7, V.ref t8, V.ref t9, V.ref t11, V.ref t12, V.ref t13, V.ref t14, V.ref t17, V.ref t18, V.ref t20, V.ref t23, V.ref t25, V.ref t26, V.int 7, V.ref t30, V.ref t32, V.ref t33, V.ref t34, V.ref t38, V.ref t40, V.ref t42, V.ref t46, V.ref t48] ++ [V.ref t51, V.ref t52]))) l54 = some (.lst [V.non, V.str "before", V.ref t5, V.ref t6, V.ref t7, V.ref t8, V.ref t9, V.ref t11, V.ref t12, V.ref t13, V.ref t14, V.ref t17, V.ref t18, V.ref t20, V.ref t23, V.ref t25, V.ref t26, V.int 7, V.ref t30, V.ref t32, V.ref t33, V.ref t34, V.ref t38, V.ref t40, V.ref t42, V.ref t46, V.ref t48, V.ref t51, V.ref t52]) := upd_same
    have A := A.same (hid_same (p := p) s)
    have P := s _ _ P
    have R := s _ _ R
    have Tt := s _ _ Tt
    have eq19 := s _ _ eq19
    have eq24 := s _ _ eq24
    have eq29 := s _ _ eq29
    have eq31 := s _ _ eq31
    have eq37 := s _ _ eq37
    have eq39 := s _ _ eq39
    have eq41 := s _ _ eq41
    have eq45 := s _ _ eq45
    have eq47 := s _ _ eq47
    have O50 := s _ _ O50
    have O53 := s _ _ O53
    have bb := bb.same s
    generalize upd H54 l54 (.lst ([V.non, V.str "before", V.ref t5, V.ref t6, V.ref t7, V.ref t8, V.ref t9, V.ref t11, V.ref t12, V.ref t13, V.ref t14, V.ref t17, V.ref t18, V.ref t20, V.ref t23, V.ref t25, V.ref t26, V.int 7, V.ref t30, V.ref t32, V.ref t33, V.ref t34, V.ref t38, V.ref t40, V.ref t42, V.ref t46, V.ref t48] ++ [V.ref t51, V.ref t52])) = H55 at A bb s P R Tt eq19 eq24 eq29 eq31 eq37 eq39 eq41 eq45 eq47 O54 ⊢
    refine ⟨.ref p, rfl, .ref l54, rfl, p, l54, [V.non, V.str "before", V.ref t5, V.ref t6, V.ref t7, V.ref t8, V.ref t9, V.ref t11, V.ref t12, V.ref t13, V.ref t14, V.ref t17, V.ref t18, V.ref t20, V.ref t23, V.ref t25, V.ref t26, V.int 7, V.ref t30, V.ref t32, V.ref t33, V.ref t34, V.ref t38, V.ref t40, V.ref t42, V.ref t46, V.ref t48, V.ref t51, V.ref t52], y1, _, rfl, P, w1, by omega, O54, lp54, by simp, by simp, fun v y5 hv w5 => ?_⟩
    obtain ⟨d, hd, hf, hc⟩ := A v hv
    exact q v d y5 _ (by rw [hide_upd]; exact hd) hf hc (bb.upd _) upd_same (w5.mono (by omega))
end
/-! ### how large a lead may be -/
theorem tally_bd {ls : List Str} {z : Str} : ∀ rows : List (Bal × Int), (∀ r ∈ rows, 1 ≤ r.2 ∧ r.2 ≤ 1000000) → 0 ≤ tallySum ls rows z ∧ tallySum ls rows z ≤ 1000000 * (rows.length : Int)
  | [], _ => ⟨Int.le_refl _, by show (0 : Int) ≤ _; omega⟩
  | r :: rows, h => by
    have ih := tally_bd (ls := ls) (z := z) rows fun q hq => h q (List.mem_cons_of_mem _ hq)
    have hr := h r List.mem_cons_self
    have e : tallySum ls (r :: rows) z = (if aloneB ls r.1.rk z = true then r.2 else 0) + tallySum ls rows z := rfl
    rw [e, List.length_cons]
    by_cases c : aloneB ls r.1.rk z = true
    · rw [if_pos c]
      omega
    · rw [if_neg c]
      omega
theorem against_bd {a b : Str} : ∀ rows : List (Bal × Int), (∀ r ∈ rows, 1 ≤ r.2 ∧ r.2 ≤ 1000000) → 0 ≤ against rows a b ∧ against rows a b ≤ 1000000 * (rows.length : Int)
  | [], _ => ⟨Int.le_refl _, by show (0 : Int) ≤ _; omega⟩
  | r :: rows, h => by
    have ih := against_bd (a := a) (b := b) rows fun q hq => h q (List.mem_cons_of_mem _ hq)
    have hr := h r List.mem_cons_self
    have e : against (r :: rows) a b = (if r.1.rk b < r.1.rk a then r.2 else 0) + against rows a b := rfl
    rw [e, List.length_cons]
    by_cases c : r.1.rk b < r.1.rk a
    · rw [if_pos c]
      omega
    · rw [if_neg c]
      omega
theorem lead_bd {zs : List Str} {rows : List (Bal × Int)} (c : Clm) (h : ∀ r ∈ rows, 1 ≤ r.2 ∧ r.2 ≤ 1000000) (l : rows.length ≤ 30) : -30000000 ≤ c.lead zs rows ∧ c.lead zs rows ≤ 30000000 := by
  cases c with
  | before a b =>
    have h1 := tally_bd (ls := zs) (z := a) rows h
    have h2 := against_bd (a := a) (b := b) rows h
    show _ ≤ tallySum zs rows a - against rows a b ∧ tallySum zs rows a - against rows a b ≤ _
    omega
  | within a b ls =>
    have h1 := tally_bd (ls := ls) (z := a) rows h
    have h2 := tally_bd (ls := ls) (z := b) rows h
    show _ ≤ tallySum ls rows a - tallySum ls rows b ∧ tallySum ls rows a - tallySum ls rows b ≤ _
    omega
theorem neg_len {i : Int} (h0 : i < 0) (h1 : -i < 10^10) : (Str.ofString (toString i)).length ≤ 11 := by
  cases i with
  | ofNat n => exact absurd h0 (by simp)
  | negSucc n =>
    have e : (toString (Int.negSucc n)) = "-" ++ toString ((n + 1 : Nat) : Int) := rfl
    rw [PyProof.Rows.ofString_len, e, String.length_append]
    have := PyProof.Rows.toString_length_le (v := ((n+1 : Nat) : Int)) (k := 10) (by omega) (by decide) (by omega)
    rw [PyProof.Rows.ofString_len] at this
    have : ("-" : String).length = 1 := by decide
    omega
theorem ok_numb {n m : Nat} {i : Int} (hm : 40 ≤ m) (h0 : -(10 ^ 10) < i) (h1 : i < 10 ^ 10) : Ok n m (.int i) := by
  have hl : i.natAbs.log2 < 34 := by
    by_cases e : i.natAbs = 0
    · rw [e]
      decide
    · rw [Nat.log2_lt e]
      have : i.natAbs < 10 ^ 10 := by omega
      have h2 : (10 : Nat) ^ 10 < 2 ^ 34 := by decide
      omega
  refine ok_int (decide_eq_true ?_) ?_ (decide_eq_true (by omega))
  · by_cases c : i < 0
    · exact Nat.le_trans (neg_len c (by omega)) (by decide)
    · exact Nat.le_trans (PyProof.Rows.toString_length_le (by omega) (show 0 < 10 by decide) h1) (by decide)
  · rw [PyData.weight]
    split <;> omega
theorem Clm.Ok.few {zs : List Str} : ∀ {c : Clm}, c.Ok zs → zs.length ≤ 6 → fewC c.data
  | .before a b, _, _ => ⟨by show 3 ≤ 20; decide, fun d hd => by
    simp only [List.mem_cons, List.not_mem_nil, or_false] at hd
    rcases hd with rfl | rfl | rfl <;> trivial⟩
  | .within a b ls, ⟨_, _, _, nd, el, _, _⟩, z6 => ⟨by show 4 ≤ 20; decide, fun d hd => by
    simp only [List.mem_cons, List.not_mem_nil, or_false] at hd
    rcases hd with rfl | rfl | rfl | rfl
    · trivial
    · trivial
    · trivial
    · have sub : ∀ z ∈ ls, z ∈ zs := fun z hz => by rw [el] at hz; exact (List.mem_filter.mp hz).1
      have l6 : ls.length ≤ 6 := Nat.le_trans (nd.length_le_of_subset sub) z6
      show (ls.map PyData.str).length ≤ 20
      rw [List.length_map]
      omega⟩
/-! ### claims, held as a list -/
theorem BadE.same {C : Addr} {H H1 : Hp} {E : XK} (s : Same H H1) (h : BadE C H E) : BadE C H1 E := fun dx fs H' s' n e => h dx fs H' (s.trans s') (s.free n) e
/-- good claims, each with where it stands -/
def Cms (zs : List Str) (H : Hp) (cv : List (Clm × V)) : Prop := ∀ q ∈ cv, q.1.Ok zs ∧ DAt H q.1.data q.2
theorem Cms.same {zs : List Str} {H H' : Hp} {cv : List (Clm × V)} (s : Same H H') (h : Cms zs H cv) : Cms zs H' cv := fun q hq => ⟨(h q hq).1, DAt.same s _ (h q hq).2⟩
def CsAt (H : Hp) (zs : List Str) (L : Addr) (cv : List (Clm × V)) : Prop := H L = some (.lst (cv.map (·.2))) ∧ Cms zs H cv
theorem CsAt.same {zs : List Str} {H H' : Hp} {L : Addr} {cv : List (Clm × V)} (s : Same H H') (h : CsAt H zs L cv) : CsAt H' zs L cv := ⟨s _ _ h.1, h.2.same s⟩
/-- what is no list of claims: another kind of thing, or a list in which one is none -/
def NoCs (zs : List Str) (H : Hp) (v : V) : Prop := (∃ d, DAt H d v ∧ dLs d = false) ∨ (∃ a, v = .ref a ∧ H a = some (.dK [])) ∨
  (∃ (L : Addr) (cv : List (Clm × V)) (w : V) (d : PyData) (rest : List V), v = .ref L ∧ H L = some (.lst (cv.map (·.2) ++ w :: rest)) ∧ Cms zs H cv ∧ DAt H d w ∧ fewC d ∧ claimD zs d = false)
theorem NoCs.same {zs : List Str} {H H' : Hp} {v : V} (s : Same H H') : NoCs zs H v → NoCs zs H' v
  | .inl ⟨d, h, a⟩ => .inl ⟨d, DAt.same s d h, a⟩
  | .inr (.inl ⟨a, e, h⟩) => .inr (.inl ⟨a, e, s _ _ h⟩)
  | .inr (.inr ⟨L, cv, w, d, rest, e, h, g, hd, f, c⟩) => .inr (.inr ⟨L, cv, w, d, rest, e, s _ _ h, g.same s, DAt.same s _ hd, f, c⟩)
/-- the slack that some leads leave -/
def SlackIs (ls : List Int) (total r : Int) : Prop := (ls = [] ∧ r = total) ∨ ∃ m ∈ ls, (∀ y ∈ ls, m ≤ y) ∧ r = if m < 1 then -1 else (m - 1) / 2
theorem SlackIs.one {ls : List Int} {t r r' : Int} (h : SlackIs ls t r) (h' : SlackIs ls t r') : r = r' := by
  rcases h with ⟨e, h⟩ | ⟨m, hm, h1, h2⟩ <;> rcases h' with ⟨e', h'⟩ | ⟨m', hm', h1', h2'⟩
  · rw [h, h']
  · rw [e] at hm'; cases hm'
  · rw [e'] at hm; cases hm
  · have : m = m' := Int.le_antisymm (h1 m' hm') (h1' m hm)
    rw [h2, h2', this]
section
variable {P : Program} {w : World} {K : PySem.W.Frag} {mg : Str → Option Value} {base : Heap}
def sp_Poll_many (C : Addr) : Sp := fun vs H Q _ => ∃ (p o u : Addr) (zs : List Str) (rows : List (Bal × Int)), vs = [.ref p] ∧ PollOk C H p o u zs rows ∧ ∀ H', Same H H' → Q (.int (rows.map (·.2)).sum) H'
theorem ok_Poll_many (T : Txt K mg) : FnOk P w K mg base CX0 1 T.f_Poll_many T.fd_Poll_many ["self"] (sp_Poll_many T.C_Poll) := by
  refine T.F_Poll_many.ok sc_Poll_many (fun vs H Q E h => ?_) (fun cdv A outer s H vs Q E hr h => ?_)
  · obtain ⟨p, o, u, zs, rows, rfl, _⟩ := h
    rfl
  · obtain ⟨p, o, u, zs, rows, rfl, pk, q⟩ := h
    refine ⟨_, (pss_one
 (ps_ret (pe_callB (cr_sum rfl) (by rfl) T.z_sum (by decide +kernel) (pa_cons (pe_lc (own := [("_", 1), ("many", 2)]) (tt := tYes) rfl sc_Poll_many.nd (pi_tup (pe_fld (pv 0) rfl)) (blkOk_by (own := [("_", 1), ("many", 2)]) (N := ["self", "_", "many"]) (sc := (defScope s_Poll_many)) (by decide +kernel)) (fun s0 H0 C0 cl0 fp0 => (by have h := (pg_tup (n := 2) rfl (pgs_cons (pg_name (i := 1) sc_Poll_many.nd rfl (Or.inl rfl)) (pgs_cons (pg_name (i := 2) sc_Poll_many.nd rfl (Or.inl rfl)) pgs_nil)) : PG ((cxOf CX0 P w K mg base ["self", "_", "many"] "Poll.many" (defScope s_Poll_many) T.f_Poll_many cdv A outer s H E).nox.blk s0 H0 (lcScope (subE (rootE ((defBody s_Poll_many).getD 0 (.Pass ⟨0, 0, 0, 0⟩))) 1)) (compEnvC (lcScope (subE (rootE ((defBody s_Poll_many).getD 0 (.Pass ⟨0, 0, 0, 0⟩))) 1)) cl0 C0 (cxOf CX0 P w K mg base ["self", "_", "many"] "Poll.many" (defScope s_Poll_many) T.f_Poll_many cdv A outer s H E).nox.env) fp0) (subE (subE (rootE ((defBody s_Poll_many).getD 0 (.Pass ⟨0, 0, 0, 0⟩))) 1) 2) _); dsimp only [Cx.blk, Cx.tr, Cx.suite, Cx.nox, Cx.wish, cxOf] at h; exact h)) (fun _ _ _ _ _ => pts_nil) (fun _ _ _ _ _ => (pv 2))) pa_nil)))), ?_⟩
    obtain ⟨⟨dx, hp⟩, ho, ⟨as, hu, ha, hm⟩, ok, rok⟩ := pk
    have la : as.length = rows.length := by rw [← hm, List.length_map]
    have l30 := rok.1
    refine ⟨.ref p, rfl, p, T.C_Poll, dx, _, .ref u, rfl, hp, T.cl_Poll, T.n_Poll_voices, pollF_voices o u, u, rfl, ⟨_, .of hu⟩, fun D nD => ?_⟩
    refine lc_tup (K := K) (a := u) (xs := as.map fun a => V.ref a.1) (fun i H' => Same H H' ∧ H' D = some (.lst (((rows.take i).map (·.2)).map V.int))) ⟨same_upd nD, upd_same⟩ (fun _ _ _ h => .of (h.1 _ _ hu)) ?_ ?_
    · rintro i x H1 hi ⟨s1, e1⟩
      obtain ⟨a, hai, rfl⟩ := item_map hi
      have il := (List.getElem?_eq_some_iff.mp hai).1
      obtain ⟨h1, h2⟩ := ha a (List.mem_of_getElem? hai)
      have ri : rows[i]? = some a.2.2 := by rw [← hm, List.getElem?_map, hai]; rfl
      refine ⟨a.1, _, rfl, .of (s1 _ _ h1), rfl, _, _, rfl, _, _, rfl, rfl, rfl, ?_⟩
      refine ⟨.int a.2.2.2, rfl, _, e1, small1000 (by rw [List.length_map, List.length_map, List.length_take]; omega), same_mut s1 nD, ?_⟩
      rw [upd_same, take_more ri, List.map_append, List.map_append]
      rfl
    · rintro H1 ⟨s1, e1⟩
      rw [List.length_map, la, List.take_length] at e1
      exact ⟨D, _, rfl, .of e1, q H1 s1⟩
def sp_check_claims (CB : Addr) : Sp := fun vs H Q E => ∃ (o : Addr) (zs : List Str) (v : V), vs = [.ref o, v] ∧ H o = some (.tup (zs.map V.str)) ∧ zs.length ≤ 6 ∧ (∀ z ∈ zs, NameOk z) ∧
  ((∃ L cv, v = .ref L ∧ CsAt H zs L cv ∧ ∀ H', Same H H' → Q .non H') ∨ (NoCs zs H v ∧ BadE CB H E))
theorem ok_check_claims (T : Txt K mg) : FnOk P w K mg base (L2.CX P w) 6 T.f_check_claims T.fd_check_claims ["options", "claims"] (sp_check_claims T.C_BadClaim) := by
  refine T.F_check_claims.okX sc_check_claims (fun vs H Q E h => ?_) (fun cdv A outer s H vs Q E hr h => ?_)
  · obtain ⟨o, zs, v, rfl, _⟩ := h
    rfl
  · obtain ⟨o, zs, v, rfl, ho, z6, okz, h⟩ := h
    refine ⟨_, (pss_cons
 (ps_if (pt_not (pt_val (pe_callB call_isi (by rfl) T.z_isinstance (by decide +kernel) (pa_cons (pv 1) (pa_cons (pe_bltn (v := .ty "list") (u := .type "list") rfl T.z_list (by decide +kernel) rfl) pa_nil)))))
 (pss_one
 (ps_raise rfl (takes_of rfl rfl rfl rfl) (px_pos T.ex_BadClaim (ok_PollError_init T) (hr.mono (by decide)) (by rfl) T.k_BadClaim T.kb_PollError_init_2 (fun σ => at0 σ) (pa_cons pe_str pa_nil))))
 pss_nil)
 (pss_one
 (ps_for (passes_of rfl) rfl (pi_list (pv 1)) (pg_name (i := 2) sc_check_claims.nd rfl (Or.inl rfl))
 (pss_one
 (ps_expr (pf_pos (ok_check_claim T) (hr.mono (by decide)) (by rfl) T.g_check_claim T.F_check_claim.kp T.kb_check_claim_2 (fun σ => atE (takes_of rfl rfl rfl rfl) σ) (pa_cons (pv 0) (pa_cons (pv 2) pa_nil)))))))), ?_⟩
    rcases h with ⟨L, cv, rfl, hL, q⟩ | ⟨⟨d, hd, nl⟩ | ⟨a, rfl, ha⟩ | ⟨L, cv, w, d, rest, rfl, hL, hc, hd, few, c0⟩, bad⟩
    · refine ⟨.ref L, rfl, .ref L, _, _, _, true, rfl, .ty _, .base (.lst hL.1), kit_ty (show kitB "list" "list" = some true by decide +kernel), true, rfl, iteF ?_⟩
      refine ⟨.ref L, rfl, L, rfl, ⟨_, .of hL.1⟩, ?_⟩
      refine for_list (K := K) (a := L) (xs := cv.map (·.2)) (fun i σ H' => (∃ x2 : Option V, σ = [some (.ref o), some (.ref L), x2]) ∧ Same H H') ⟨⟨_, rfl⟩, Same.refl _⟩ (fun _ _ _ _ h => .of (h.2 _ _ hL.1)) ?_ ?_
      · rintro i x σ H1 hi ⟨⟨x2, rfl⟩, s1⟩
        obtain ⟨c, hci, rfl⟩ := item_map hi
        obtain ⟨cok, hcd⟩ := hL.2 c (List.mem_of_getElem? hci)
        refine ⟨.ref o, rfl, c.2, rfl, rfl, rfl, o, zs, c.2, c.1.data, rfl, s1 _ _ ho, z6, okz, DAt.same s1 _ hcd, cok.few z6, fun _ H2 s2 => ⟨⟨_, rfl⟩, s1.trans s2⟩, fun e => ?_⟩
        rw [cok.claim] at e
        cases e
      · rintro σ H1 ⟨⟨x2, rfl⟩, s1⟩
        exact q H1 s1
    · obtain ⟨t, ht, k1⟩ := hd.tyL (K := K)
      rw [nl] at k1
      refine ⟨v, rfl, v, _, t, _, false, rfl, .ty _, ht, k1, false, rfl, iteT ⟨rfl, rfl, by decide, fun x nx => ⟨x, T.C_BadClaim, _, rfl, upd_same, T.ox_BadClaim, T.nf_BadClaim_why, fun dx n1 n2 => ⟨rfl, dx, _, upd_same, by rw [upd_ne n2, upd_same], ?_, ?_⟩⟩⟩⟩
      · rw [upd_ne n2] at n1
        exact n1
      · rw [upd_ne n2] at n1
        refine bad dx _ _ (fun y o ho => ?_) n1 upd_same
        have y1 : y ≠ dx := ne_of_none ho n1
        have y2 : y ≠ x := ne_of_none ho nx
        rw [upd_ne y1, del_ne y2, upd_ne y2, upd_ne y1, upd_ne y2]
        exact ho
    · refine ⟨.ref a, rfl, .ref a, _, .type "dict", _, false, rfl, .ty _, .base (.dK ha), kit_ty (show kitB "dict" "list" = some false by decide +kernel), false, rfl, iteT ⟨rfl, rfl, by decide, fun x nx => ⟨x, T.C_BadClaim, _, rfl, upd_same, T.ox_BadClaim, T.nf_BadClaim_why, fun dx n1 n2 => ⟨rfl, dx, _, upd_same, by rw [upd_ne n2, upd_same], ?_, ?_⟩⟩⟩⟩
      · rw [upd_ne n2] at n1
        exact n1
      · rw [upd_ne n2] at n1
        refine bad dx _ _ (fun y o ho => ?_) n1 upd_same
        have y1 : y ≠ dx := ne_of_none ho n1
        have y2 : y ≠ x := ne_of_none ho nx
        rw [upd_ne y1, del_ne y2, upd_ne y2, upd_ne y1, upd_ne y2]
        exact ho
    · refine ⟨.ref L, rfl, .ref L, _, _, _, true, rfl, .ty _, .base (.lst hL), kit_ty (show kitB "list" "list" = some true by decide +kernel), true, rfl, iteF ?_⟩
      have xi : (cv.map (·.2) ++ w :: rest)[cv.length]? = some w := by
        rw [List.getElem?_append_right (by rw [List.length_map]; omega), List.length_map, Nat.sub_self]
        rfl
      refine ⟨.ref L, rfl, L, rfl, ⟨_, .of hL⟩, ?_⟩
      refine for_list (K := K) (a := L) (xs := cv.map (·.2) ++ w :: rest) (fun i σ H' => (∃ x2 : Option V, σ = [some (.ref o), some (.ref L), x2]) ∧ Same H H' ∧ i ≤ cv.length) ⟨⟨_, rfl⟩, Same.refl _, Nat.zero_le _⟩ (fun _ _ _ _ h => .of (h.2.1 _ _ hL)) ?_ ?_
      · rintro i x σ H1 hi ⟨⟨x2, rfl⟩, s1, il⟩
        by_cases e : i = cv.length
        · rw [e, xi] at hi
          obtain rfl := Option.some.inj hi
          refine ⟨.ref o, rfl, w, rfl, rfl, rfl, o, zs, w, d, rfl, s1 _ _ ho, z6, okz, DAt.same s1 _ hd, few, fun e => ?_, fun _ => BadE.same s1 bad⟩
          rw [c0] at e
          cases e
        · rw [List.getElem?_append_left (by rw [List.length_map]; omega)] at hi
          obtain ⟨c, hci, rfl⟩ := item_map hi
          obtain ⟨cok, hcd⟩ := hc c (List.mem_of_getElem? hci)
          refine ⟨.ref o, rfl, c.2, rfl, rfl, rfl, o, zs, c.2, c.1.data, rfl, s1 _ _ ho, z6, okz, DAt.same s1 _ hcd, cok.few z6, fun _ H2 s2 => ⟨⟨_, rfl⟩, s1.trans s2, by omega⟩, fun e => ?_⟩
          rw [cok.claim] at e
          cases e
      · rintro σ H1 ⟨⟨x2, rfl⟩, s1, il⟩
        rw [List.length_append, List.length_map, List.length_cons] at il
        omega
def sp_slack (C CB : Addr) : Sp := fun vs H Q E => ∃ (p o u : Addr) (zs : List Str) (rows : List (Bal × Int)) (v : V), vs = [.ref p, v] ∧ PollOk C H p o u zs rows ∧
  ((∃ L cv, v = .ref L ∧ CsAt H zs L cv ∧ cv.length ≤ 30 ∧ ∀ (r : Int) H', Same H H' → SlackIs (cv.map fun q => q.1.lead zs rows) (rows.map (·.2)).sum r → Q (.int r) H') ∨ (NoCs zs H v ∧ BadE CB H E))
theorem ok_slack (T : Txt K mg) : FnOk P w K mg base (L2.CX P w) 7 T.f_slack T.fd_slack ["poll", "claims"] (sp_slack T.C_Poll T.C_BadClaim) := by
  refine T.F_slack.okX sc_slack (fun vs H Q E h => ?_) (fun cdv A outer s H vs Q E hr h => ?_)
  · obtain ⟨p, o, u, zs, rows, v, rfl, _⟩ := h
    rfl
  · obtain ⟨p, o, u, zs, rows, v, rfl, pk, h⟩ := h
    refine ⟨_, (pss_cons
 (ps_expr (pf_pos (ok_check_claims T) (hr.mono (by decide)) (by rfl) T.g_check_claims T.F_check_claims.kp T.kb_check_claims_2 (fun σ => atE (takes_of rfl rfl rfl rfl) σ) (pa_cons (pe_fld (pv 0) rfl) (pa_cons (pv 1) pa_nil))))
 (pss_cons
 (ps_if (pt_cmpR op_eq (pe_callB call_len_seq (by rfl) T.z_len (by decide +kernel) (pa_cons (pv 1) pa_nil)) pe_int (nomark _))
 (pss_one
 (ps_ret (pm_kw (pv 0) T.cl_Poll T.me_Poll_many (ok_Poll_many T) (hr.mono (by decide)) T.kb_Poll_many_1 (fun σ => at0 σ) pk_nil)))
 pss_nil)
 (pss_cons
 (ps_set (i := 2) sc_slack.nd rfl (Or.inl rfl) (pe_callB (cr_min rfl) (by rfl) T.z_min (by decide +kernel) (pa_cons (pe_lc (own := [("claim", 3)]) (g := gName 3) (tt := tYes) rfl sc_slack.nd (pi_list (pv 1)) (blkOk_by (own := [("claim", 3)]) (N := ["poll", "claims", "least", "claim"]) (sc := (defScope s_slack)) (by decide +kernel)) (fun _ _ _ _ _ => pg_name (i := 3) sc_slack.nd rfl (Or.inl rfl)) (fun _ _ _ _ _ => pts_nil) (fun _ _ _ _ _ => (pf_pos (ok_lead T) (hr.mono (by decide)) (by rfl) T.g_lead T.F_lead.kp T.kb_lead_2 (fun σ => atN σ) (pa_cons (pv 0) (pa_cons (pv 3) pa_nil))))) pa_nil)))
 (pss_cons
 (ps_if (pt_cmpR op_le (pv 2) pe_int (nomark _))
 (pss_one
 (ps_ret (pe_un un_neg pe_int)))
 pss_nil)
 (pss_one
 (ps_ret (pe_op op_fdiv (pe_op op_sub (pv 2) pe_int) pe_int))))))), ?_⟩
    obtain ⟨⟨dx, hp⟩, ho, hrow, ok, rok⟩ := id pk
    refine ⟨.ref p, rfl, p, T.C_Poll, dx, _, .ref o, rfl, hp, T.cl_Poll, T.n_Poll_options, pollF_options o u, v, rfl, rfl, rfl, o, zs, v, rfl, ho, ok.few, ok.names, ?_⟩
    rcases h with ⟨L, cv, rfl, hL, l30, q⟩ | bad
    case inr => exact .inr bad
    refine .inl ⟨L, cv, rfl, hL, fun H1 s1 => ?_⟩
    have hL1 := hL.same s1
    refine ⟨.ref L, rfl, L, _, rfl, .inl (.of hL1.1), rfl, _, rfl, ?_⟩
    cases cv with
    | nil =>
      refine iteT ⟨.ref p, rfl, p, dx, _, rfl, s1 _ _ hp, rfl, rfl, rfl, p, o, u, zs, rows, rfl, pk.same s1, fun H2 s2 => q _ _ (s1.trans s2) (.inl ⟨rfl, rfl⟩)⟩
    | cons c0 cr =>
      refine ite2 (fun e => absurd e (by simp <;> omega)) (fun _ => ?_)
      refine ⟨.ref L, rfl, L, rfl, ⟨_, .of hL1.1⟩, fun D nD => ?_⟩
      refine lc_list (K := K) (a := L) (xs := (c0 :: cr).map (·.2)) (fun i H' => Same H1 H' ∧ H' D = some (.lst ((((c0 :: cr).take i).map fun q => q.1.lead zs rows).map V.int))) ⟨same_upd nD, upd_same⟩ (fun _ _ _ h => .of (h.1 _ _ hL1.1)) ?_ ?_
      · rintro i x H2 hi ⟨s2, e2⟩
        obtain ⟨c, hci, rfl⟩ := item_map hi
        obtain ⟨cok, hcd⟩ := hL1.2 c (List.mem_of_getElem? hci)
        refine ⟨rfl, .ref p, rfl, c.2, rfl, rfl, rfl, p, o, u, zs, rows, c.2, c.1.data, rfl, pk.same (s1.trans s2), DAt.same s2 _ hcd, cok.few ok.few, .inl ⟨c.1, rfl, cok, fun H3 s3 => ?_⟩⟩
        refine ⟨_, s3 _ _ e2, small1000 (by rw [List.length_map, List.length_map, List.length_take]; omega), same_mut (s2.trans s3) nD, ?_⟩
        rw [upd_same, take_more hci, List.map_append, List.map_append]
        rfl
      · rintro H2 ⟨s2, e2⟩
        rw [List.length_map, List.take_length] at e2
        refine ⟨D, _, rfl, .of e2, by rw [List.length_map, List.length_cons]; omega, fun m hm hle => ?_⟩
        refine ⟨.int m, rfl, _, _, rfl, rfl, _, rfl, ?_⟩
        have fin : SlackIs ((c0 :: cr).map fun q => q.1.lead zs rows) (rows.map (·.2)).sum (if m < 1 then -1 else (m - 1) / 2) := .inr ⟨m, hm, hle, rfl⟩
        by_cases c : m ≤ 0
        · rw [decide_eq_true c]
          rw [if_pos (by omega)] at fin
          exact iteT ⟨_, rfl, q _ _ (s1.trans s2) fin⟩
        · rw [decide_eq_false c]
          rw [if_neg (by omega)] at fin
          refine iteF ⟨.int m, rfl, _, _, rfl, rfl, _, _, rfl, rfl, ⟨by decide, by decide⟩, q _ _ (s1.trans s2) fin⟩
def sp_law_is_refused (C : Addr) : Sp := fun vs H Q _ => ∃ (p o u : Addr) (zs : List Str) (rows : List (Bal × Int)) (v : V), vs = [.ref p, v] ∧ PollOk C H p o u zs rows ∧ NoCs zs H v ∧ ∀ H', Same H H' → Q (.bl true) H'
theorem ok_law_is_refused (T : Txt K mg) : FnOk P w K mg base CX0 8 T.f_law_is_refused T.fd_law_is_refused ["_law_poll", "_law_claims"] (sp_law_is_refused T.C_Poll) := by
  refine T.F_law_is_refused.ok sc_law_is_refused (fun vs H Q E h => ?_) (fun cdv A outer s H vs Q E hr h => ?_)
  · obtain ⟨p, o, u, zs, rows, v, rfl, _⟩ := h
    rfl
  · obtain ⟨p, o, u, zs, rows, v, rfl, pk, hn, q⟩ := h
    refine ⟨_, (pss_cons
 (ps_try_all rfl rfl takes0
 (fun W pn xe tk _ => (by have h := ((pss_one
 (ps_expr (pf_pos (ok_slack T) (hr.mono (by decide)) (by rfl) T.g_slack T.F_slack.kp T.kb_slack_2 (fun σ => atE tk σ) (pa_cons (pv 0) (pa_cons (pv 1) pa_nil))))) : PSs ((cxOf CX0 P w K mg base ["_law_poll", "_law_claims", "e"] "_law_is_refused" (defScope s_law_is_refused) T.f_law_is_refused cdv A outer s H E).nox.tr pn xe) (blkOf ((defBody s_law_is_refused).getD 0 (.Pass ⟨0, 0, 0, 0⟩)) 0) _); dsimp only [Cx.tr, Cx.suite, Cx.nox, Cx.wish, cxOf] at h; exact h))
 (.named (i := 2) sc_law_is_refused.nd rfl rfl ⟨rfl, by decide, Or.inl T.k_BadClaim⟩
 (fun a oe cls d pn hz hf => (by have h := ((pss_one
 (ps_ret (pe_and (pe_callB (call_isX T.ic_BadClaim hz hf) (by rfl) T.z_isinstance (by decide +kernel) (pa_cons (pv 2) (pa_cons (pe_bltn (v := .ty "ValueError") (u := .type "ValueError") rfl T.z_ValueError (by decide +kernel) rfl) pa_nil))) (pe_one (pe_not (pe_callB (call_isX T.ic_BadClaim hz hf) (by rfl) T.z_isinstance (by decide +kernel) (pa_cons (pv 2) (pa_cons (pe_glob (v := .ref T.C_BadOrder) rfl T.k_BadOrder rfl) pa_nil)))))))) : PSs ((cxOf CX0 P w K mg base ["_law_poll", "_law_claims", "e"] "_law_is_refused" (defScope s_law_is_refused) T.f_law_is_refused cdv A outer s H E).nox.suite a ((a, oe) :: pn)) (blkOf ((defBody s_law_is_refused).getD 0 (.Pass ⟨0, 0, 0, 0⟩)) 1) _); dsimp only [Cx.tr, Cx.suite, Cx.nox, Cx.wish, cxOf] at h; exact h)) (.dead (l := []))))
 (pss_one
 (ps_ret pe_bl))), ?_⟩
    refine ⟨.ref p, rfl, v, rfl, rfl, rfl, p, o, u, zs, rows, v, rfl, pk, .inr ⟨hn, fun dx fs H' s n e => ?_⟩⟩
    refine ⟨true, T.te_BadClaim_BadClaim, fun _ a na => ?_, fun h => (by cases h)⟩
    refine ⟨.ref a, rfl, .ty "ValueError", .type "ValueError", true, dx, fs, rfl, fun u hu => hu, rfl, rfl, e, T.kt_BadClaim_ValueError, true, rfl, iteT ⟨.ref a, rfl, .ref T.C_BadOrder, .ref T.C_BadOrder, false, dx, fs, rfl, fun u hu => hu, rfl, rfl, e, T.kt_BadClaim_BadOrder, false, rfl, ?_⟩⟩
    exact q _ s
def sp_law_due : Sp := fun vs H Q _ => ∃ (g t L : Addr) (zs : List Str) (as : List (Addr × Addr × (Bal × Int))) (cv : List (Clm × V)), vs = [.ref g, .ref t, .ref L] ∧ RowsL H g as ∧ (∀ a ∈ as, RowOk zs a) ∧ as.length ≤ 30 ∧ zs.length ≤ 6 ∧ H t = some (.lst (zs.map V.str)) ∧ zs.Nodup ∧ CsAt H zs L cv ∧ cv.length ≤ 30 ∧
  ∀ (r : Int) (H' : Hp), Same H H' → SlackIs (cv.map fun q => q.1.lead zs (as.map (·.2.2))) ((as.map (·.2.2)).map (·.2)).sum r → Q (.int r) H'
theorem ok_law_due (T : Txt K mg) : FnOk P w K mg base CX0 4 T.f_law_due T.fd_law_due ["_law_rows_here", "_law_people", "_law_claims"] sp_law_due := by
  refine T.F_law_due.ok sc_law_due (fun vs H Q E h => ?_) (fun cdv A outer s H vs Q E hr h => ?_)
  · obtain ⟨g, t, L, zs, as, cv, rfl, _⟩ := h
    rfl
  · obtain ⟨g, t, L, zs, as, cv, rfl, hg, rok, l30, z6, ht, nd, hL, c30, q⟩ := h
    refine ⟨_, (pss_cons
 (ps_setLc (i := 3) (own := [("_law_claim_here", 4)]) (g := gName 4) (tt := tYes) rfl sc_law_due.nd rfl rfl (sw_true rfl rfl rfl (by decide +kernel)) (pi_list (pv 2)) (blkOk_by (own := [("_law_claim_here", 4)]) (N := ["_law_rows_here", "_law_people", "_law_claims", "_law_leads", "_law_claim_here", "_law_ballot_here", "_law_much"]) (sc := (defScope s_law_due)) (by decide +kernel)) (fun _ _ _ _ _ => pg_name (i := 4) sc_law_due.nd rfl (Or.inl rfl)) (fun _ _ _ _ _ => pts_nil) (fun _ _ _ _ _ => (pe_call (ok_law_lead T) (hr.mono (by decide)) (by rfl) T.g_law_lead T.F_law_lead.kp T.b_law_lead .nil pass0 (pa_cons (pv 0) (pa_cons (pv 1) (pa_cons (pv 4) pa_nil))))))
 (pss_cons
 (ps_if (pt_cmpR (op_eqD hr.units) (pv 3) (pe_lst pa_nil) (nomark _))
 (pss_one
 (ps_ret (pe_callB (cr_sum rfl) (by rfl) T.z_sum (by decide +kernel) (pa_cons (pe_lc (own := [("_law_ballot_here", 5), ("_law_much", 6)]) (tt := tYes) rfl sc_law_due.nd (pi_list (pv 0)) (blkOk_by (own := [("_law_ballot_here", 5), ("_law_much", 6)]) (N := ["_law_rows_here", "_law_people", "_law_claims", "_law_leads", "_law_claim_here", "_law_ballot_here", "_law_much"]) (sc := (defScope s_law_due)) (by decide +kernel)) (fun s0 H0 C0 cl0 fp0 => (by have h := (pg_tup (n := 2) rfl (pgs_cons (pg_name (i := 5) sc_law_due.nd rfl (Or.inl rfl)) (pgs_cons (pg_name (i := 6) sc_law_due.nd rfl (Or.inl rfl)) pgs_nil)) : PG ((cxOf CX0 P w K mg base ["_law_rows_here", "_law_people", "_law_claims", "_law_leads", "_law_claim_here", "_law_ballot_here", "_law_much"] "_law_due" (defScope s_law_due) T.f_law_due cdv A outer s H E).nox.blk s0 H0 (lcScope (subE (rootE ((blkOf ((defBody s_law_due).getD 1 (.Pass ⟨0, 0, 0, 0⟩)) 0).getD 0 (.Pass ⟨0, 0, 0, 0⟩))) 1)) (compEnvC (lcScope (subE (rootE ((blkOf ((defBody s_law_due).getD 1 (.Pass ⟨0, 0, 0, 0⟩)) 0).getD 0 (.Pass ⟨0, 0, 0, 0⟩))) 1)) cl0 C0 (cxOf CX0 P w K mg base ["_law_rows_here", "_law_people", "_law_claims", "_law_leads", "_law_claim_here", "_law_ballot_here", "_law_much"] "_law_due" (defScope s_law_due) T.f_law_due cdv A outer s H E).nox.env) fp0) (subE (subE (rootE ((blkOf ((defBody s_law_due).getD 1 (.Pass ⟨0, 0, 0, 0⟩)) 0).getD 0 (.Pass ⟨0, 0, 0, 0⟩))) 1) 2) _); dsimp only [Cx.blk, Cx.tr, Cx.suite, Cx.nox, Cx.wish, cxOf] at h; exact h)) (fun _ _ _ _ _ => pts_nil) (fun _ _ _ _ _ => (pv 6))) pa_nil))))
 pss_nil)
 (pss_cons
 (ps_if (pt_cmpR op_lt (pe_callB (cr_min rfl) (by rfl) T.z_min (by decide +kernel) (pa_cons (pv 3) pa_nil)) pe_int (nomark _))
 (pss_one
 (ps_ret (pe_un un_neg pe_int)))
 pss_nil)
 (pss_one
 (ps_ret (pe_op op_fdiv (pe_op op_sub (pe_callB (cr_min rfl) (by rfl) T.z_min (by decide +kernel) (pa_cons (pv 3) pa_nil)) pe_int) pe_int)))))), ?_⟩
    refine ⟨.ref L, rfl, L, rfl, ⟨_, .of hL.1⟩, fun D nD => ?_⟩
    refine lc_list (K := K) (a := L) (xs := cv.map (·.2)) (fun i H' => Same H H' ∧ H' D = some (.lst (((cv.take i).map fun q => q.1.lead zs (as.map (·.2.2))).map V.int))) ⟨same_upd nD, upd_same⟩ (fun _ _ _ h => .of (h.1 _ _ hL.1)) ?_ ?_
    · rintro i x H2 hi ⟨s2, e2⟩
      obtain ⟨c, hci, rfl⟩ := item_map hi
      obtain ⟨cok, hcd⟩ := hL.2 c (List.mem_of_getElem? hci)
      obtain ⟨pc, _, epc, _⟩ := Clm.words hcd
      have hcd2 := DAt.same s2 _ hcd
      rw [epc] at hcd2
      refine ⟨rfl, .ref g, rfl, .ref t, rfl, c.2, rfl, g, t, pc, zs, as, c.1, (by rw [epc] <;> rfl), hg.same s2, rok, l30, z6, s2 _ _ ht, nd, hcd2, cok, fun H3 s3 => ?_⟩
      refine ⟨_, s3 _ _ e2, small1000 (by rw [List.length_map, List.length_map, List.length_take]; omega), same_mut (s2.trans s3) nD, ?_⟩
      rw [upd_same, take_more hci, List.map_append, List.map_append]
      rfl
    · rintro H2 ⟨s2, e2⟩
      rw [List.length_map, List.take_length] at e2
      generalize els : (cv.map fun q => q.1.lead zs (as.map (·.2.2))) = ls at e2 q
      have ll : ls.length = cv.length := by rw [← els, List.length_map]
      have rok1 : ∀ r ∈ as.map (·.2.2), 1 ≤ r.2 ∧ r.2 ≤ 1000000 := fun r hr => by
        obtain ⟨a, ha, rfl⟩ := List.mem_map.mp hr
        exact (rok a ha).2
      have bd : ∀ y ∈ ls, -30000000 ≤ y ∧ y ≤ 30000000 := fun y hy => by
        rw [← els] at hy
        obtain ⟨c, _, rfl⟩ := List.mem_map.mp hy
        exact lead_bd c.1 rok1 (by rw [List.length_map]; exact l30)
      have eld : DAll H2 (ls.map PyData.int) (ls.map V.int) := DAll.of_map fun y _ => rfl
      have okl : Ok 1 2000 (.list (ls.map PyData.int)) := (OkA.list (OkA.of (n := 0) (m := 40) fun d hd => by
        obtain ⟨y, hy, rfl⟩ := List.mem_map.mp hd
        have := bd y hy
        exact ok_numb (m := 40) (by decide) (by omega) (by omega))).mono (by decide) (by rw [List.length_map]; omega)
      refine ⟨.ref D, rfl, line_of (show 0 ≤ 1000 by decide), fun l0 nl0 => ?_⟩
      have s3 := same_upd (o := HO.lst []) nl0
      have e0 : (upd H2 l0 (.lst [])) l0 = some (.lst []) := upd_same
      generalize upd H2 l0 (.lst []) = H3 at s3 e0 ⊢
      have s13 := s2.trans s3
      refine ⟨_, _, DAt.dp (.list (ls.map PyData.int)) ⟨D, _, rfl, s3 _ _ e2, DAll.same s3 _ eld⟩, DAt.dp (.list []) ⟨l0, [], rfl, e0, rfl⟩, okl.shaped (by decide), rfl, _, rfl, ?_⟩
      cases ls with
      | nil =>
        refine iteT ⟨.ref g, rfl, g, rfl, ⟨_, .of (s13 _ _ hg.1)⟩, fun F nF => ?_⟩
        refine lc_list (K := K) (a := g) (xs := as.map fun a => V.ref a.1) (fun j H' => Same H3 H' ∧ H' F = some (.lst (((as.take j).map (·.2.2.2)).map V.int))) ⟨same_upd nF, upd_same⟩ (fun _ _ _ h => .of (h.1 _ _ (s13 _ _ hg.1))) ?_ ?_
        · rintro j x H4 hj ⟨s4, e4⟩
          obtain ⟨r, hr', rfl⟩ := item_map hj
          obtain ⟨h1, h2⟩ := hg.2 r (List.mem_of_getElem? hr')
          refine ⟨r.1, _, rfl, .of (s4 _ _ (s13 _ _ h1)), rfl, _, _, rfl, _, _, rfl, rfl, rfl, ?_⟩
          refine ⟨.int r.2.2.2, rfl, _, e4, small1000 (by rw [List.length_map, List.length_map, List.length_take]; omega), same_mut s4 nF, ?_⟩
          rw [upd_same, take_more hr', List.map_append, List.map_append]
          rfl
        · rintro H4 ⟨s4, e4⟩
          rw [List.length_map, List.take_length] at e4
          exact ⟨F, _, rfl, .of e4, q _ _ (s13.trans s4) (.inl ⟨rfl, by rw [List.map_map] <;> rfl⟩)⟩
      | cons y0 yr =>
        refine iteF ?_
        have e2 := s3 _ _ e2
        refine ⟨.ref D, rfl, D, _, rfl, .of e2, by rw [List.length_cons]; omega, fun m hm hle => ?_⟩
        refine ⟨_, _, rfl, rfl, _, rfl, ?_⟩
        have fin : SlackIs (y0 :: yr) ((as.map (·.2.2)).map (·.2)).sum (if m < 1 then -1 else (m - 1) / 2) := .inr ⟨m, hm, hle, rfl⟩
        by_cases c : m < 1
        · rw [decide_eq_true c]
          rw [if_pos c] at fin
          exact iteT ⟨_, rfl, q _ _ s13 fin⟩
        · rw [decide_eq_false c]
          rw [if_neg c] at fin
          refine iteF ⟨.ref D, rfl, D, _, rfl, .of e2, by rw [List.length_cons]; omega, fun m' hm' hle' => ?_⟩
          have em : m' = m := Int.le_antisymm (hle' m hm) (hle m' hm')
          rw [em]
          exact ⟨_, _, rfl, rfl, _, _, rfl, rfl, ⟨by decide, by decide⟩, q _ _ s13 fin⟩
end
/-! ### the law -/
theorem rd_mut {H : Hp} {D a : Addr} {xs ys : List V} {o : HO} (hD : H D = some (.lst xs)) (h : Rd H a (.tup ys)) : Rd (upd H D o) a (.tup ys) := by
  rcases h with h | ⟨q, h⟩
  · exact .inl (by rw [upd_ne (fun e => by rw [e, hD] at h; cases h)]; exact h)
  · exact .inr ⟨q, by rw [upd_ne (fun e => by rw [e, hD] at h; cases h)]; exact h⟩
theorem Clm.mut {H : Hp} {D : Addr} {xs : List V} {o : HO} (hD : H D = some (.lst xs)) {c : Clm} {v : V} (h : DAt H c.data v) : DAt (upd H D o) c.data v := by
  cases c with
  | before a b =>
    obtain ⟨pc, _, rfl, rd⟩ := Clm.words h
    exact ⟨pc, _, rfl, rd_mut hD rd, DAll.strs ["before", a, b]⟩
  | within a b ls =>
    obtain ⟨pc, _, rfl, tl, rd, rt⟩ := Clm.words h
    exact ⟨pc, _, rfl, rd_mut hD rd, da1 rfl (da1 rfl (da1 rfl (da1 ⟨tl, _, rfl, rd_mut hD rt, DAll.strs ls⟩ da0)))⟩
theorem Cms.mut {zs : List Str} {H : Hp} {D : Addr} {xs : List V} {o : HO} {cv : List (Clm × V)} (hD : H D = some (.lst xs)) (h : Cms zs H cv) : Cms zs (upd H D o) cv := fun q hq => ⟨(h q hq).1, Clm.mut hD (h q hq).2⟩
theorem cut_cv (cv : List (Clm × V)) (lo hi : Option Int) : ∃ cw : List (Clm × V), cutV (cv.map (·.2)) lo hi = cw.map (·.2) ∧ cw.length ≤ cv.length ∧ ∀ q ∈ cw, q ∈ cv := by
  refine ⟨(cv.drop (HT.sIx (cv.map (·.2)).length 0 lo)).take (HT.sIx (cv.map (·.2)).length (cv.map (·.2)).length hi - HT.sIx (cv.map (·.2)).length 0 lo), ?_, ?_, fun q hq => List.mem_of_mem_drop (List.mem_of_mem_take hq)⟩
  · unfold cutV
    rw [List.map_take, List.map_drop]
  · rw [List.length_take, List.length_drop]
    omega
theorem sum_bd : ∀ rows : List (Bal × Int), (∀ r ∈ rows, 1 ≤ r.2 ∧ r.2 ≤ 1000000) → rows.length ≤ 30 → -30000000 ≤ (rows.map (·.2)).sum ∧ (rows.map (·.2)).sum ≤ 30000000 := fun rows h l => by
  have aux : ∀ rows : List (Bal × Int), (∀ r ∈ rows, 1 ≤ r.2 ∧ r.2 ≤ 1000000) → 0 ≤ (rows.map (·.2)).sum ∧ (rows.map (·.2)).sum ≤ 1000000 * (rows.length : Int) := by
    intro rows
    induction rows with
    | nil => exact fun _ => ⟨Int.le_refl _, by show (0 : Int) ≤ _; omega⟩
    | cons r rs ih =>
      intro h
      have := ih fun q hq => h q (List.mem_cons_of_mem _ hq)
      have hr := h r List.mem_cons_self
      rw [List.map_cons, List.sum_cons, List.length_cons]
      omega
  have := aux rows h
  omega
theorem SlackIs.bd {ls : List Int} {t r : Int} (h : SlackIs ls t r) (hl : ∀ y ∈ ls, -30000000 ≤ y ∧ y ≤ 30000000) (ht : -30000000 ≤ t ∧ t ≤ 30000000) : -30000000 ≤ r ∧ r ≤ 30000000 := by
  rcases h with ⟨_, rfl⟩ | ⟨m, hm, _, h⟩
  · exact ht
  · have := hl m hm
    rw [h]
    by_cases c : m < 1
    · rw [if_pos c]
      omega
    · rw [if_neg c]
      omega
theorem clm_okd {zs : List Str} (z6 : zs.length ≤ 6) (okz : ∀ z ∈ zs, NameOk z) : ∀ {c : Clm}, c.Ok zs → Ok 2 200 c.data
  | .before a b, ⟨ha, hb, _⟩ => (OkA.tuple (OkA.cons (m := 8) (ok_str (by decide +kernel) (by decide +kernel)) (OkA.cons (m := 8) ((ok_small (okz a ha)).mono (by decide) (by decide)) (OkA.cons (m := 8) ((ok_small (okz b hb)).mono (by decide) (by decide)) (OkA.nil (m := 0)))))).mono (n := 1) (by decide) (by decide)
  | .within a b ls, ⟨ha, hb, _, nd, el, _, _⟩ => by
    have sub : ∀ z ∈ ls, z ∈ zs := fun z hz => by rw [el] at hz; exact (List.mem_filter.mp hz).1
    have l6 : ls.length ≤ 6 := Nat.le_trans (nd.length_le_of_subset sub) z6
    exact (OkA.tuple (OkA.cons (m := 8) (ok_str (by decide +kernel) (by decide +kernel)) (OkA.cons (m := 8) ((ok_small (okz a ha)).mono (by decide) (by decide)) (OkA.cons (m := 8) ((ok_small (okz b hb)).mono (by decide) (by decide)) (OkA.cons (ok_names (t := ls) (fun z hz => okz z (sub z hz)) l6) (OkA.nil (m := 0))))))).mono (n := 2) (by decide) (by decide)
section
variable {P : Program} {w : World} {K : PySem.W.Frag} {mg : Str → Option Value} {base : Heap}
def FrC (a : Addr) (σ : L2.St) : Prop := ∃ y1 y2 y3 y4 y5 y6 y7 y8 y9 y10 y11 y12 y13 : Option V, σ = [some (.ref a), y1, y2, y3, y4, y5, y6, y7, y8, y9, y10, y11, y12, y13]
def sp_law (K : PySem.W.Frag) : Sp := fun vs H Q _ => ∃ (a : Addr) (ns : List Int), vs = [.ref a] ∧ SqL K H a (ns.map V.int) ∧ ns.length ≤ 63 ∧ ∀ H', Q (.bl true) H'
theorem ok_law (T : Txt K mg) : TopOk P w K mg base T.f_law T.fd_law "_law_script" (sp_law K) := by
  refine top_of (k := 9) T.F_law sc_law ⟨by decide, by decide, by decide⟩ (fun cdv s H v Q hr hg h => ?_)
  obtain ⟨a, ns, e, hS, hlen, q⟩ := h
  cases e
  refine ⟨_, (pss_cons
 (ps_for PassesOwn.never rfl (pi_list (pe_op op_cat (pe_slice sl_list (pv 0) po_none (po_some pe_int)) (pe_lst (pa_cons pe_int pa_nil)))) (pg_name (i := 1) sc_law.nd rfl (Or.inl rfl))
 (pss_cons
 (ps_set (i := 2) sc_law.nd rfl (Or.inr rfl) (pe_call (ok_law_source T) (hr.mono (by decide)) (by rfl) T.g_law_source T.F_law_source.kp T.b_law_source .nil pass0 (pa_cons (pv 1) pa_nil)))
 (pss_cons
 (ps_set (i := 3) sc_law.nd rfl (Or.inr rfl) (pe_call (ok_law_names T) (hr.mono (by decide)) (by rfl) T.g_law_names T.F_law_names.kp T.b_law_names .nil pass0 (pa_cons (pv 2) (pa_cons (pe_op op_add pe_int (pe_call (ok_law_take T) (hr.mono (by decide)) (by rfl) T.g_law_take T.F_law_take.kp T.b_law_take .nil pass0 (pa_cons (pv 2) (pa_cons pe_int pa_nil)))) pa_nil))))
 (pss_cons
 (ps_set (i := 4) sc_law.nd rfl (Or.inr rfl) (pe_call (ok_law_rows T) (hr.mono (by decide)) (by rfl) T.g_law_rows T.F_law_rows.kp T.b_law_rows .nil pass0 (pa_cons (pv 2) (pa_cons (pv 3) (pa_cons (pe_call (ok_law_take T) (hr.mono (by decide)) (by rfl) T.g_law_take T.F_law_take.kp T.b_law_take .nil pass0 (pa_cons (pv 2) (pa_cons pe_int pa_nil))) pa_nil)))))
 (pss_cons
 (ps_set (i := 5) sc_law.nd rfl (Or.inl rfl) (pc_pos T.mk_Poll (ok_Poll_init T) (hr.mono (by decide)) (by rfl) T.k_Poll T.kb_Poll_init_3 (fun σ => atN σ) (pa_cons (pe_callTy call_tuple_of (by rfl) T.z_tuple (by decide +kernel) (pa_cons (pv 3) pa_nil)) (pa_cons (pe_callTy call_tuple_of (by rfl) T.z_tuple (by decide +kernel) (pa_cons (pv 4) pa_nil)) pa_nil))))
 (pss_cons
 (ps_setLc (i := 6) (own := [("_law_k", 12)]) (g := gName 12) (tt := tYes) rfl sc_law.nd rfl rfl (sw_true rfl rfl rfl (by decide +kernel)) (pi_range1 rfl T.z_range (pa_cons (pe_op op_mulW (pe_call (ok_law_take T) (hr.mono (by decide)) (by rfl) T.g_law_take T.F_law_take.kp T.b_law_take .nil pass0 (pa_cons (pv 2) (pa_cons pe_int pa_nil))) (pe_callTy call_int1 (by rfl) T.z_int (by decide +kernel) (pa_cons (pe_cmpR op_gt (pe_callB call_len_seq (by rfl) T.z_len (by decide +kernel) (pa_cons (pv 3) pa_nil)) pe_int (nomark _)) pa_nil))) pa_nil)) (blkOk_by (own := [("_law_k", 12)]) (N := ["_law_script", "_law_cell", "_law_source_here", "_law_people", "_law_rows_here", "_law_poll", "_law_some", "_law_good", "_law_claims", "_law_handed", "_law_spot", "_law_bad", "_law_k", "_law_claim_here"]) (sc := (defScope s_law)) (by decide +kernel)) (fun _ _ _ _ _ => pg_name (i := 12) sc_law.nd rfl (Or.inl rfl)) (fun _ _ _ _ _ => pts_nil) (fun _ _ _ _ _ => (pe_call (ok_law_claim T) (hr.mono (by decide)) (by rfl) T.g_law_claim T.F_law_claim.kp T.b_law_claim .nil pass0 (pa_cons (pv 2) (pa_cons (pv 3) pa_nil)))))
 (pss_cons
 (ps_setLc (i := 7) (own := [("_law_claim_here", 13)]) (g := gName 13) rfl sc_law.nd rfl rfl (sw_true rfl rfl rfl (by decide +kernel)) (pi_list (pv 6)) (blkOk_by (own := [("_law_claim_here", 13)]) (N := ["_law_script", "_law_cell", "_law_source_here", "_law_people", "_law_rows_here", "_law_poll", "_law_some", "_law_good", "_law_claims", "_law_handed", "_law_spot", "_law_bad", "_law_k", "_law_claim_here"]) (sc := (defScope s_law)) (by decide +kernel)) (fun _ _ _ _ _ => pg_name (i := 13) sc_law.nd rfl (Or.inl rfl)) (fun _ _ _ _ _ => (pts_one (pt_cmpR op_gt (pe_call (ok_law_lead T) (hr.mono (by decide)) (by rfl) T.g_law_lead T.F_law_lead.kp T.b_law_lead .nil pass0 (pa_cons (pv 4) (pa_cons (pv 3) (pa_cons (pv 13) pa_nil)))) pe_int (nomark _)))) (fun _ _ _ _ _ => (pv 13)))
 (pss_cons
 (ps_for PassesOwn.never rfl (pi_list (pe_lst (pa_cons (pv 6) (pa_cons (pe_slice sl_list (pv 6) po_none (po_some pe_int)) (pa_cons (pv 7) (pa_cons (pe_revL (pv 7)) (pa_cons (pe_op op_cat (pv 7) (pe_slice sl_list (pv 7) po_none (po_some pe_int))) (pa_cons (pe_slice sl_list (pv 7) po_none (po_some pe_int)) (pa_cons (pe_lst pa_nil) pa_nil))))))))) (pg_name (i := 8) sc_law.nd rfl (Or.inl rfl))
 (pss_cons
 (ps_set (i := 9) sc_law.nd rfl (Or.inl rfl) (pe_callTy call_list_of (by rfl) T.z_list (by decide +kernel) (pa_cons (pv 8) pa_nil)))
 (pss_one
 (ps_if (PW.pt (pw_or (pt_cmpR op_ne (pe_callB (call_reprA hg (hu66 hr)) (by rfl) T.z_repr (by decide +kernel) (pa_cons (pf_pos (ok_slack T) (hr.mono (by decide)) (by rfl) T.g_slack T.F_slack.kp T.kb_slack_2 (fun σ => atN σ) (pa_cons (pv 5) (pa_cons (pv 9) pa_nil))) pa_nil)) (pe_callB (call_reprA hg (hu66 hr)) (by rfl) T.z_repr (by decide +kernel) (pa_cons (pe_call (ok_law_due T) (hr.mono (by decide)) (by rfl) T.g_law_due T.F_law_due.kp T.b_law_due .nil pass0 (pa_cons (pv 4) (pa_cons (pv 3) (pa_cons (pv 8) pa_nil)))) pa_nil)) (nomark _)) (pw_or1 (pt_cmpR (op_neD hr.units) (pv 9) (pv 8) (nomark _)))))
 (pss_one
 (ps_ret pe_bl))
 pss_nil))))
 (pss_cons
 (ps_set (i := 10) sc_law.nd rfl (Or.inl rfl) (pe_call (ok_law_take T) (hr.mono (by decide)) (by rfl) T.g_law_take T.F_law_take.kp T.b_law_take .nil pass0 (pa_cons (pv 2) (pa_cons (pe_op op_add (pe_callB call_len_seq (by rfl) T.z_len (by decide +kernel) (pa_cons (pv 6) pa_nil)) pe_int) pa_nil))))
 (pss_cons
 (ps_set (i := 11) sc_law.nd rfl (Or.inl rfl) (pe_op op_cat (pe_op op_cat (pe_slice sl_list (pv 6) po_none (po_some (pv 10))) (pe_lst (pa_cons (pe_call (ok_law_no_claim T) (hr.mono (by decide)) (by rfl) T.g_law_no_claim T.F_law_no_claim.kp T.b_law_no_claim .nil pass0 (pa_cons (pv 2) (pa_cons (pv 3) pa_nil))) pa_nil))) (pe_slice sl_list (pv 6) (po_some (pv 10)) po_none)))
 (pss_one
 (ps_if (pt_not (pt_val (pe_call (ok_law_is_refused T) (hr.mono (by decide)) (by rfl) T.g_law_is_refused T.F_law_is_refused.kp T.b_law_is_refused .nil pass0 (pa_cons (pv 5) (pa_cons (pe_call (ok_law_one T) (hr.mono (by decide)) (by rfl) T.g_law_one T.F_law_one.kp T.b_law_one .nil pass0 (pa_cons (pv 2) (pa_cons (pe_lst (pa_cons (pv 11) (pa_cons (pv 11) (pa_cons (pv 11) (pa_cons (pe_callTy call_tuple_of (by rfl) T.z_tuple (by decide +kernel) (pa_cons (pv 6) pa_nil)) (pa_cons pe_non (pa_cons pe_dnewK (pa_cons pe_str (pa_cons pe_int pa_nil))))))))) pa_nil))) pa_nil)))))
 (pss_one
 (ps_ret pe_bl))
 pss_nil))))))))))))
 (pss_one
 (ps_ret pe_bl))), ?_⟩
  refine ⟨.ref a, rfl, 6, rfl, ?_⟩
  dsimp only [tNoPart]
  refine ⟨a, _, rfl, hS, fun l1 n1 => ?_⟩
  obtain ⟨ms, em, lm⟩ := cut_ints ns none (some 6)
  rw [em]
  have s1 := same_upd (o := HO.lst (ms.map V.int)) n1
  have e1 : (upd H l1 (.lst (ms.map V.int))) l1 = some (.lst (ms.map V.int)) := upd_same
  generalize upd H l1 (.lst (ms.map V.int)) = H1 at s1 e1 ⊢
  refine ⟨line_of (show 1 ≤ 1000 by decide), fun l2 n2 => ?_⟩
  have s2 := same_upd (o := HO.lst [V.int 0]) n2
  have e2 : (upd H1 l2 (.lst [V.int 0])) l2 = some (.lst [V.int 0]) := upd_same
  generalize upd H1 l2 (.lst [V.int 0]) = H2 at s2 e2 ⊢
  refine ⟨l1, l2, _, _, rfl, rfl, s2 _ _ e1, e2, line_of (by rw [List.length_map]; show ms.length + 1 ≤ 1000; omega), fun l3 n3 => ?_⟩
  rw [show ms.map V.int ++ [V.int 0] = (ms ++ [0]).map V.int by rw [List.map_append] <;> rfl]
  have e3 : (upd H2 l3 (.lst ((ms ++ [0]).map V.int))) l3 = some (.lst ((ms ++ [0]).map V.int)) := upd_same
  generalize upd H2 l3 (.lst ((ms ++ [0]).map V.int)) = H3 at e3 ⊢
  refine ⟨_, rfl, ⟨_, .of e3⟩, ?_⟩
  refine for_list (K := K) (a := l3) (xs := (ms ++ [0]).map V.int) (D := ⟨_, _, fun _ _ => False, fun _ _ => False⟩) (fun i σ H' => FrC a σ ∧ Same H3 H') ⟨⟨none, none, none, none, none, none, none, none, none, none, none, none, none, rfl⟩, Same.refl _⟩ (fun _ _ _ _ h => .of (h.2 _ _ e3)) ?_ ?_
  · rintro i xv σ H4 hi ⟨⟨z1, z2, z3, z4, z5, z6', z7, z8, z9, z10, z11, z12, z13, rfl⟩, s4⟩
    obtain ⟨z, hz, rfl⟩ := item_map hi
    refine ⟨.int z, rfl, z, rfl, fun p x np wx => ?_⟩
    have np3 : H3 p = none := s4.free np
    have b5 : But p H3 (upd H4 p (.lst x)) := fun c o hne h => by rw [upd_ne hne]; exact s4 _ _ h
    have hp5 : (upd H4 p (.lst x)) p = some (.lst x) := upd_same
    generalize upd H4 p (.lst x) = H5 at b5 hp5 ⊢
    -- names
    refine ⟨.ref p, rfl, .ref p, rfl, p, 5, x, 0, rfl, hp5, wx, by omega, by decide, size_ok (by decide) (by decide), fun d y d0 d1 w1 => ⟨_, _, rfl, rfl, ?_⟩⟩
    have b6 := b5.upd (.lst y)
    have hp6 : (upd H5 p (.lst y)) p = some (.lst y) := upd_same
    generalize upd H5 p (.lst y) = H6 at b6 hp6 ⊢
    refine ⟨p, 1 + d, y, _, rfl, hp6, w1, by omega, by omega, by omega, fun t zs y7 H7 lz nd okz b7 nt tp ht hp7 w7 => ?_⟩
    have b37 := b6.trans b7
    have ok : OptsOk zs := ⟨fun e => by rw [e] at lz; have : ([] : List Str).length = 0 := rfl; omega, by omega, nd, okz⟩
    -- rows
    refine ⟨.ref p, rfl, .ref t, rfl, .ref p, rfl, p, 10, y7, _, rfl, hp7, w7, by omega, by decide, size_ok (by decide) (by decide), fun d2 y8 d20 d21 w8 => ?_⟩
    have b8 := b37.upd (.lst y8)
    have hp8 : (upd H7 p (.lst y8)) p = some (.lst y8) := upd_same
    have ht8 : (upd H7 p (.lst y8)) t = some (.lst (zs.map V.str)) := by rw [upd_ne tp]; exact ht
    generalize upd H7 p (.lst y8) = H8 at b8 hp8 ht8 ⊢
    refine ⟨p, t, d2, zs, y8, _, rfl, hp8, ht8, tp, d20, by omega, by omega, nd, okz, w8, by omega, fun g as y9 H9 hrl rok las b9 ng gp hp9 w9 => ?_⟩
    have b39 := b8.trans b9
    have ht9 := b9 t _ tp ht8
    -- the poll
    refine ⟨.ref t, rfl, t, _, rfl, .inl ⟨.of ht9, fun o no => ?_⟩⟩
    have s10 := same_upd (o := HO.tup (zs.map V.str)) no
    have e10 : (upd H9 o (.tup (zs.map V.str))) o = some (.tup (zs.map V.str)) := upd_same
    generalize upd H9 o (.tup (zs.map V.str)) = H10 at s10 e10 ⊢
    refine ⟨.ref g, rfl, g, _, rfl, .inl ⟨.of (s10 _ _ hrl.1), fun u nu => ?_⟩⟩
    have s11 := same_upd (o := HO.tup (as.map fun a => V.ref a.1)) nu
    have e11 : (upd H10 u (.tup (as.map fun a => V.ref a.1))) u = some (.tup (as.map fun a => V.ref a.1)) := upd_same
    generalize upd H10 u (.tup (as.map fun a => V.ref a.1)) = H11 at s11 e11 ⊢
    have s911 := s10.trans s11
    have hrow := rows_tup hrl s911 e11
    have rok30 : RowsOk zs 30 (as.map (·.2.2)) := ⟨by rw [List.length_map]; omega, fun r hr => by
      obtain ⟨a, ha, rfl⟩ := List.mem_map.mp hr
      exact rok a ha⟩
    refine ⟨rfl, rfl, fun pp dx m1 m2 m3 => ?_⟩
    have sm : Same H11 (upd (upd H11 dx (.own pp)) pp (.ins T.C_Poll dx [])) := made_same m1 m2 (But.refl _ _)
    refine ⟨pp, dx, o, u, zs, _, rfl, upd_same, sm _ _ (s11 _ _ e10), hrow.same sm, ok, rok30, fun H12 b12 e12 => ?_⟩
    have s12 : Same H11 H12 := made_same m1 m2 b12
    have s912 := s911.trans s12
    have pk : PollOk T.C_Poll H12 pp o u zs (as.map (·.2.2)) := ⟨⟨dx, e12⟩, s12 _ _ (s11 _ _ e10), hrow.same s12, ok, rok30⟩
    have hp12 := s912 _ _ hp9
    have ht12 := s912 _ _ ht9
    have b312 := b39.same s912
    have pkh := pk.hid hp12
    have hrh := (hrl.same s912).hid hp12 gp
    have hth : hide p H12 t = some (.lst (zs.map V.str)) := by rw [hide_ne tp]; exact ht12
    have rok1 : ∀ r ∈ as.map (·.2.2), 1 ≤ r.2 ∧ r.2 ≤ 1000000 := fun r hr => (rok30.2 r hr).2
    have l30 : (as.map (·.2.2)).length ≤ 30 := rok30.1
    have las30 : as.length ≤ 30 := by omega
    have z6 : zs.length ≤ 6 := by omega
    -- up to eight claims, where there are two options
    obtain ⟨n, en, n0, n5, nl⟩ : ∃ n : Int, (if decide (1 < (((zs.map V.str).length : Nat) : Int)) = true then (1 : Int) else 0) = n ∧ 0 ≤ n ∧ n ≤ 1 ∧ (0 < n → 1 < zs.length) := by
      refine ⟨_, rfl, ?_⟩
      rw [List.length_map]
      by_cases c : 1 < zs.length
      · rw [if_pos (decide_eq_true (by omega))]
        exact ⟨by decide, by decide, fun _ => c⟩
      · rw [if_neg (by rw [decide_eq_false (by omega)]; exact Bool.false_ne_true)]
        exact ⟨by decide, by decide, fun h => absurd h (by decide)⟩
    refine ⟨rfl, .ref p, rfl, p, 9, y9, _, rfl, hp12, w9, by omega, by decide, size_ok (by decide) (by decide), fun d3 y13 d30 d31 w13 => ?_⟩
    have b13 : But p H12 (upd H12 p (.lst y13)) := (But.refl _ _).upd _
    have hp13 : (upd H12 p (.lst y13)) p = some (.lst y13) := upd_same
    have ht13 : (upd H12 p (.lst y13)) t = some (.lst (zs.map V.str)) := by rw [upd_ne tp]; exact ht12
    generalize upd H12 p (.lst y13) = H13 at b13 hp13 ht13 ⊢
    have cm : CMulW d3 n := by
      rcases (show d3 = 0 ∨ d3 = 1 ∨ d3 = 2 ∨ d3 = 3 ∨ d3 = 4 ∨ d3 = 5 ∨ d3 = 6 ∨ d3 = 7 ∨ d3 = 8 by omega) with e | e | e | e | e | e | e | e | e <;> rcases (show n = 0 ∨ n = 1 by omega) with e' | e' <;> rw [e, e'] <;> (show _ < 1000000; decide +kernel)
    obtain ⟨m, em, m0, m8, ml⟩ : ∃ m : Int, d3 * n = m ∧ 0 ≤ m ∧ m ≤ 8 ∧ (0 < m → 1 < zs.length) := by
      rcases (show n = 0 ∨ n = 1 by omega) with e | e
      · exact ⟨0, by rw [e, Int.mul_zero], by decide, by decide, fun h => absurd h (by decide)⟩
      · exact ⟨d3, by rw [e, Int.mul_one], d30, by omega, fun _ => nl (by omega)⟩
    refine ⟨.ref t, rfl, t, _, rfl, .inl (.of ht13), _, _, rfl, rfl, .inr ⟨_, rfl, d3, n, rfl, (by rw [← en]), cm, m, (by rw [← em]), by omega, by omega, fun D nD => ?_⟩⟩
    have Dp : D ≠ p := (ne_of_none hp13 nD).symm
    have nD12 : H12 D = none := b13.free hp13 nD
    refine lc_range (lo := 0) (n := m.toNat) (fun i H' => ∃ (cv : List (Clm × V)) (y : List V), But p H12 H' ∧ H' D = some (.lst (cv.map (·.2))) ∧ cv.length = i ∧ Cms zs (hide p H') cv ∧ H' p = some (.lst y) ∧ WellL y (3000 + 20 * i)) ⟨[], y13, b13.new nD _, upd_same, rfl, fun _ h => (by cases h), by rw [upd_ne Dp.symm]; exact hp13, w13.mono (by omega)⟩ ?_ ?_
    · rintro i H14 hi ⟨cv, y, b14, e14, lcv, cms, hp14, w14⟩
      have l2 : 1 < zs.length := ml (by omega)
      refine ⟨rfl, .ref p, rfl, .ref t, rfl, p, t, zs, y, _, rfl, hp14, b14 t _ tp ht12, tp, nd, l2, z6, okz, w14, by omega, fun c pc y2 H15 cok b15 hd15 hp15 w15 => ?_⟩
      have e15 : H15 D = some (.lst (cv.map (·.2))) := b15 D _ Dp e14
      have eh : hide p H15 D = some (.lst (cv.map (·.2))) := by rw [hide_ne Dp]; exact e15
      have cms15 : Cms zs (hide p H15) (cv ++ [(c, .ref pc)]) := fun q hq => by
        rcases List.mem_append.mp hq with hq | hq
        · exact (cms.same b15.hid) q hq
        · rw [List.mem_singleton.mp hq]
          exact ⟨cok, hd15⟩
      refine ⟨_, e15, small1000 (by rw [List.length_map]; omega), cv ++ [(c, .ref pc)], y2, (b14.trans b15).mut nD12, by rw [upd_same, List.map_append]; rfl, by rw [List.length_append, lcv]; rfl, by rw [hide_put Dp]; exact cms15.mut eh, by rw [upd_ne Dp.symm]; exact hp15, w15.mono (by omega)⟩
    rintro H20 ⟨cv, y20, b20, e20, lcv, cms20, hp20, w20⟩
    have lcv8 : cv.length ≤ 8 := by omega
    have pk20 := (pkh.same b20.hid).same (hide_sub p H20)
    have hr20 := (hrh.same b20.hid).same (hide_sub p H20)
    have ht20 := hide_sub p H20 _ _ (b20.hid _ _ hth)
    have cs20 : CsAt H20 zs D cv := ⟨e20, cms20.same (hide_sub p H20)⟩
    -- the good ones
    refine ⟨.ref D, rfl, D, rfl, ⟨_, .of e20⟩, fun G nG => ?_⟩
    refine lc_list (K := K) (a := D) (xs := cv.map (·.2)) (fun i H' => Same H20 H' ∧ H' G = some (.lst (((cv.take i).filter fun q => decide (0 < q.1.lead zs (as.map (·.2.2)))).map (·.2)))) ⟨same_upd nG, upd_same⟩ (fun _ _ _ h => .of (h.1 _ _ e20)) ?_ ?_
    · rintro i x H21 hi ⟨s21, e21⟩
      obtain ⟨c, hci, rfl⟩ := item_map hi
      obtain ⟨cok, hcd⟩ := cs20.2 c (List.mem_of_getElem? hci)
      obtain ⟨pc, _, epc, _⟩ := Clm.words hcd
      have hcd2 := DAt.same s21 _ hcd
      rw [epc] at hcd2
      have ft := filter_takeG (f := fun q : Clm × V => decide (0 < q.1.lead zs (as.map (·.2.2)))) hci
      refine ⟨rfl, .ref g, rfl, .ref t, rfl, c.2, rfl, g, t, pc, zs, as, c.1, (by rw [epc] <;> rfl), hr20.same s21, rok, las30, z6, s21 _ _ ht20, nd, hcd2, cok, fun H22 s22 => ⟨_, _, rfl, rfl, _, rfl, ?_⟩⟩
      by_cases cc : 0 < c.1.lead zs (as.map (·.2.2))
      · rw [decide_eq_true cc]
        rw [if_pos (decide_eq_true cc)] at ft
        refine iteT ⟨c.2, rfl, _, s22 _ _ e21, ?_, same_mut (s21.trans s22) nG, ?_⟩
        · rw [List.length_map]
          have := List.length_filter_le (fun q : Clm × V => decide (0 < q.1.lead zs (as.map (·.2.2)))) (cv.take i)
          rw [List.length_take] at this
          exact small1000 (by omega)
        · rw [upd_same, ft, List.map_append]
          rfl
      · rw [decide_eq_false cc]
        rw [if_neg (by rw [decide_eq_false cc]; exact Bool.false_ne_true), List.append_nil] at ft
        refine iteF ⟨s21.trans s22, ?_⟩
        rw [ft]
        exact s22 _ _ e21
    rintro H30 ⟨s30, e30⟩
    rw [List.length_map, List.take_length] at e30
    have gsub : ∀ q ∈ cv.filter (fun q => decide (0 < q.1.lead zs (as.map (·.2.2)))), q ∈ cv := fun q hq => (List.mem_filter.mp hq).1
    have glen := List.length_filter_le (fun q : Clm × V => decide (0 < q.1.lead zs (as.map (·.2.2)))) cv
    generalize (cv.filter fun q => decide (0 < q.1.lead zs (as.map (·.2.2)))) = gv at e30 gsub glen ⊢
    have cms30 : Cms zs H30 cv := cs20.2.same s30
    have cs30 := cs20.same s30
    have csG : CsAt H30 zs G gv := ⟨e30, fun q hq => cms30 q (gsub q hq)⟩
    refine ⟨.ref D, rfl, .ref D, rfl, 4, rfl, ?_⟩
    dsimp only [tNoPart]
    obtain ⟨c2, ec2, lc2, sub2⟩ := cut_cv cv none (some 4)
    refine ⟨D, _, rfl, .of cs30.1, fun l31 n31 => ?_⟩
    rw [ec2]
    have s31 := same_upd (o := HO.lst (c2.map (·.2))) n31
    have e31 : (upd H30 l31 (.lst (c2.map (·.2)))) l31 = some (.lst (c2.map (·.2))) := upd_same
    generalize upd H30 l31 (.lst (c2.map (·.2))) = H31 at s31 e31 ⊢
    have t31 := s31
    refine ⟨.ref G, rfl, .ref G, rfl, G, _, rfl, .of (t31 _ _ csG.1), fun l32 n32 => ?_⟩
    rw [← List.map_reverse]
    have s32 := same_upd (o := HO.lst (gv.reverse.map (·.2))) n32
    have e32 : (upd H31 l32 (.lst (gv.reverse.map (·.2)))) l32 = some (.lst (gv.reverse.map (·.2))) := upd_same
    generalize upd H31 l32 (.lst (gv.reverse.map (·.2))) = H32 at s32 e32 ⊢
    have t32 := t31.trans s32
    refine ⟨.ref G, rfl, .ref G, rfl, 1, rfl, ?_⟩
    dsimp only [tNoPart]
    obtain ⟨c5, ec5, lc5, sub5⟩ := cut_cv gv none (some 1)
    refine ⟨G, _, rfl, .of (t32 _ _ csG.1), fun l33 n33 => ?_⟩
    rw [ec5]
    have s33 := same_upd (o := HO.lst (c5.map (·.2))) n33
    have e33 : (upd H32 l33 (.lst (c5.map (·.2)))) l33 = some (.lst (c5.map (·.2))) := upd_same
    generalize upd H32 l33 (.lst (c5.map (·.2))) = H33 at s33 e33 ⊢
    have t33 := t32.trans s33
    refine ⟨G, l33, _, _, rfl, rfl, t33 _ _ csG.1, e33, line_of (by rw [List.length_map, List.length_map]; omega), fun l34 n34 => ?_⟩
    rw [← List.map_append]
    have s34 := same_upd (o := HO.lst ((gv ++ c5).map (·.2))) n34
    have e34 : (upd H33 l34 (.lst ((gv ++ c5).map (·.2)))) l34 = some (.lst ((gv ++ c5).map (·.2))) := upd_same
    generalize upd H33 l34 (.lst ((gv ++ c5).map (·.2))) = H34 at s34 e34 ⊢
    have t34 := t33.trans s34
    refine ⟨.ref G, rfl, 1, rfl, ?_⟩
    dsimp only [tNoPart]
    refine ⟨G, _, rfl, .of (t34 _ _ csG.1), fun l35 n35 => ?_⟩
    rw [ec5]
    have s35 := same_upd (o := HO.lst (c5.map (·.2))) n35
    have e35 : (upd H34 l35 (.lst (c5.map (·.2)))) l35 = some (.lst (c5.map (·.2))) := upd_same
    generalize upd H34 l35 (.lst (c5.map (·.2))) = H35 at s35 e35 ⊢
    have t35 := t34.trans s35
    refine ⟨line_of (show 0 ≤ 1000 by decide), fun l36 n36 => ?_⟩
    have s36 := same_upd (o := HO.lst ([])) n36
    have e36 : (upd H35 l36 (.lst ([]))) l36 = some (.lst ([])) := upd_same
    generalize upd H35 l36 (.lst ([])) = H36 at s36 e36 ⊢
    have t36 := t35.trans s36
    refine ⟨line_of (show 7 ≤ 1000 by decide), fun LL nLL => ?_⟩
    have s37 := same_upd (o := HO.lst ([V.ref D, .ref l31, .ref G, .ref l32, .ref l34, .ref l35, .ref l36])) nLL
    have e37 : (upd H36 LL (.lst ([V.ref D, .ref l31, .ref G, .ref l32, .ref l34, .ref l35, .ref l36]))) LL = some (.lst ([V.ref D, .ref l31, .ref G, .ref l32, .ref l34, .ref l35, .ref l36])) := upd_same
    generalize upd H36 LL (.lst ([V.ref D, .ref l31, .ref G, .ref l32, .ref l34, .ref l35, .ref l36])) = H37 at s37 e37 ⊢
    have t37 := t36.trans s37
    have cms37 : Cms zs H37 cv := cms30.same t37
    have csx : ∀ {l : Addr} {cw : List (Clm × V)}, H37 l = some (.lst (cw.map (·.2))) → (∀ q ∈ cw, q ∈ cv) → CsAt H37 zs l cw := fun h s => ⟨h, fun q hq => cms37 q (s q hq)⟩
    have all7 : ∀ v ∈ [V.ref D, .ref l31, .ref G, .ref l32, .ref l34, .ref l35, .ref l36], ∃ (l : Addr) (cw : List (Clm × V)), v = .ref l ∧ CsAt H37 zs l cw ∧ cw.length ≤ 16 := fun v hv => by
      simp only [List.mem_cons, List.not_mem_nil, or_false] at hv
      rcases hv with rfl | rfl | rfl | rfl | rfl | rfl | rfl
      · exact ⟨D, cv, rfl, csx (t37 _ _ cs30.1) (fun _ h => h), by omega⟩
      · exact ⟨l31, c2, rfl, csx (s37 _ _ (s36 _ _ (s35 _ _ (s34 _ _ (s33 _ _ (s32 _ _ e31)))))) sub2, by omega⟩
      · exact ⟨G, gv, rfl, csx (t37 _ _ e30) gsub, by omega⟩
      · exact ⟨l32, gv.reverse, rfl, csx (s37 _ _ (s36 _ _ (s35 _ _ (s34 _ _ (s33 _ _ e32))))) (fun q h => gsub q (List.mem_reverse.mp h)), by rw [List.length_reverse]; omega⟩
      · exact ⟨l34, gv ++ c5, rfl, csx (s37 _ _ (s36 _ _ (s35 _ _ e34))) (fun q h => (List.mem_append.mp h).elim (gsub q) fun h => gsub q (sub5 q h)), by rw [List.length_append]; omega⟩
      · exact ⟨l35, c5, rfl, csx (s37 _ _ (s36 _ _ e35)) (fun q h => gsub q (sub5 q h)), by omega⟩
      · exact ⟨l36, [], rfl, csx (s37 _ _ e36) (fun _ h => (by cases h)), by decide⟩
    generalize hv7 : [V.ref D, .ref l31, .ref G, .ref l32, .ref l34, .ref l35, .ref l36] = vs7 at all7 e37 ⊢
    have pk37 := pk20.same (s30.trans t37)
    have hr37 := hr20.same (s30.trans t37)
    have ht37 := (s30.trans t37) _ _ ht20
    refine ⟨LL, rfl, ⟨_, .of e37⟩, ?_⟩
    refine for_list (K := K) (a := LL) (xs := vs7) (D := ⟨_, _, fun _ _ => False, fun _ _ => False⟩) (fun i σ H' => (∃ x8 x9 x10 x11 x12 x13 : Option V, σ = [some (.ref a), some (.int z), some (.ref p), some (.ref t), some (.ref g), some (.ref pp), some (.ref D), some (.ref G), x8, x9, x10, x11, x12, x13]) ∧ Same H37 H') ⟨⟨_, _, _, _, _, _, rfl⟩, Same.refl _⟩ (fun _ _ _ _ h => .of (h.2 _ _ e37)) ?_ ?_
    · rintro i xv σ H38 hxi ⟨⟨x8, x9, x10, x11, x12, x13, rfl⟩, s38⟩
      obtain ⟨l, cw, rfl, csl, lcw⟩ := all7 xv (List.mem_of_getElem? hxi)
      have csl := csl.same s38
      refine ⟨.ref l, rfl, l, _, rfl, .inl (.of csl.1), fun lh nlh => ?_⟩
      have s39 := same_upd (o := HO.lst (cw.map (·.2))) nlh
      have e39 : (upd H38 lh (.lst (cw.map (·.2)))) lh = some (.lst (cw.map (·.2))) := upd_same
      generalize upd H38 lh (.lst (cw.map (·.2))) = H39 at s39 e39 ⊢
      have t39 := s38.trans s39
      have cs39 := csl.same s39
      have csh : CsAt H39 zs lh cw := ⟨e39, cs39.2⟩
      refine ⟨.ref pp, rfl, .ref lh, rfl, rfl, rfl, pp, o, u, zs, _, .ref lh, rfl, pk37.same t39, .inl ⟨lh, cw, rfl, csh, by omega, fun r H40 s40 is1 => ?_⟩⟩
      have bd := is1.bd (fun y hy => by
        obtain ⟨c, _, rfl⟩ := List.mem_map.mp hy
        exact lead_bd c.1 rok1 l30) (sum_bd _ rok1 l30)
      have okr : Ok 4 6000 (.int r) := ok_numb (by decide) (by omega) (by omega)
      have shr := okr.shaped (by decide)
      have fitr := okr.fits (by decide)
      have shor := okr.sho
      refine ⟨.int r, .int r, rfl, DAt.dp _ (show DAt H40 (.int r) (.int r) from rfl), shor, shr, fitr, ?_⟩
      have t40 := t39.trans s40
      refine ⟨.ref g, rfl, .ref t, rfl, .ref l, rfl, g, t, l, zs, as, cw, rfl, hr37.same t40, rok, las30, z6, t40 _ _ ht37, nd, cs39.same s40, by omega, fun r2 H41 s41 is2 => ?_⟩
      rw [is2.one is1]
      refine ⟨.int r, .int r, rfl, DAt.dp _ (show DAt H41 (.int r) (.int r) from rfl), shor, shr, fitr, ?_⟩
      have s3941 := s40.trans s41
      have okd : Ok 3 6000 (.list (cw.map fun q => q.1.data)) := (OkA.list (OkA.of (n := 2) (m := 200) fun d hd => by
        obtain ⟨q, hq, rfl⟩ := List.mem_map.mp hd
        exact clm_okd z6 okz (csh.2 q hq).1)).mono (by decide) (by rw [List.length_map]; omega)
      have shd := okd.shaped (by decide)
      have dat : ∀ {x : Addr}, CsAt H39 zs x cw → DAt H41 (.list (cw.map fun q => q.1.data)) (.ref x) := fun {x} h => DAt.same s3941 (.list (cw.map fun q => q.1.data)) ⟨x, _, rfl, h.1, DAll.of_map fun q hq => (h.2 q hq).2⟩
      refine ⟨rfl, _, rfl, ite2 (fun e => absurd e (by simp)) (fun _ => ?_)⟩
      refine ⟨.ref lh, rfl, .ref l, rfl, _, _, DAt.dp _ (dat csh), DAt.dp _ (dat cs39), shd, shd, _, rfl, ?_⟩
      rw [SeqAt.eqv_refl _ (SeqAt.canLay_of_shaped shd)]
      exact iteF ⟨⟨_, _, _, _, _, _, rfl⟩, t39.trans s3941⟩
    · rintro σ H40 ⟨⟨x8, x9, x10, x11, x12, x13, rfl⟩, s40⟩
      have sA := (s30.trans t37).trans s40
      have b40 := b20.same sA
      have hp40 := sA _ _ hp20
      have e40 := sA _ _ e20
      refine ⟨.ref p, rfl, .ref D, rfl, D, _, rfl, .inl (.of e40), _, _, rfl, rfl, p, _, y20, _, rfl, hp40, w20, by omega, by rw [List.length_map]; omega, size_ok (by rw [List.length_map]; omega) (by rw [List.length_map]; omega), fun i y41 i0 i1 w41 => ?_⟩
      rw [List.length_map] at i1
      obtain ⟨i, rfl⟩ := Int.eq_ofNat_of_zero_le i0
      have ile : i ≤ cv.length := by omega
      have b41 := b40.upd (.lst y41)
      have hp41 : (upd H40 p (.lst y41)) p = some (.lst y41) := upd_same
      have e41 : (upd H40 p (.lst y41)) D = some (.lst (cv.map (·.2))) := by rw [upd_ne Dp]; exact e40
      have cms41 : Cms zs (hide p (upd H40 p (.lst y41))) cv := by rw [hide_upd]; exact cms20.same (hid_same sA)
      generalize upd H40 p (.lst y41) = H41 at b41 hp41 e41 cms41 ⊢
      have ct : cutV (cv.map (·.2)) none (some (i : Int)) = (cv.take i).map (·.2) := by
        rw [cut_to (by rw [List.length_map]; exact ile), List.map_take]
      have cf : cutV (cv.map (·.2)) (some (i : Int)) none = (cv.drop i).map (·.2) := by
        rw [cut_from (by rw [List.length_map]; exact ile), List.map_drop]
      have lt : (cv.take i).length ≤ 8 := by rw [List.length_take]; omega
      have ld : (cv.drop i).length ≤ 8 := by rw [List.length_drop]; omega
      refine ⟨.ref D, rfl, .int i, rfl, i, rfl, D, _, rfl, .of e41, fun q6 nq6 => ?_⟩
      rw [ct]
      have s42 := same_upd (o := HO.lst ((cv.take i).map (·.2))) nq6
      have e42 : (upd H41 q6 (.lst ((cv.take i).map (·.2)))) q6 = some (.lst ((cv.take i).map (·.2))) := upd_same
      have q6p : q6 ≠ p := (ne_of_none hp41 nq6).symm
      generalize upd H41 q6 (.lst ((cv.take i).map (·.2))) = H42 at s42 e42 ⊢
      have b42 := b41.same s42
      have pos : 0 < zs.length := List.length_pos_iff.mpr ok.some
      refine ⟨.ref p, rfl, .ref t, rfl, p, t, zs, y41, _, rfl, s42 _ _ hp41, b42 t _ tp ht12, tp, nd, pos, z6, okz, w41, by omega, fun v d y43 H43 hd few c0 b43 hp43 w43 => ?_⟩
      have b4243 := b42.trans b43
      have cms43 := (cms41.same (hid_same s42)).same b43.hid
      have e43 := b43 D _ Dp (s42 _ _ e41)
      have e43' := b43 q6 _ q6p e42
      refine ⟨line_of (show 1 ≤ 1000 by decide), fun q7 nq7 => ?_⟩
      have s44 := same_upd (o := HO.lst [v]) nq7
      have e44 : (upd H43 q7 (.lst [v])) q7 = some (.lst [v]) := upd_same
      generalize upd H43 q7 (.lst [v]) = H44 at s44 e44 ⊢
      refine ⟨q6, q7, _, _, rfl, rfl, s44 _ _ e43', e44, line_of (by rw [List.length_map]; show (cv.take i).length + 1 ≤ 1000; omega), fun q8 nq8 => ?_⟩
      have s45 := same_upd (o := HO.lst ((cv.take i).map (·.2) ++ [v])) nq8
      have e45 : (upd H44 q8 (.lst ((cv.take i).map (·.2) ++ [v]))) q8 = some (.lst ((cv.take i).map (·.2) ++ [v])) := upd_same
      generalize upd H44 q8 (.lst ((cv.take i).map (·.2) ++ [v])) = H45 at s45 e45 ⊢
      have s4345 := s44.trans s45
      refine ⟨.ref D, rfl, .int i, rfl, i, rfl, ?_⟩
      dsimp only [tNoPart]
      refine ⟨D, _, rfl, .of (s4345 _ _ e43), fun q9 nq9 => ?_⟩
      rw [cf]
      have s46 := same_upd (o := HO.lst ((cv.drop i).map (·.2))) nq9
      have e46 : (upd H45 q9 (.lst ((cv.drop i).map (·.2)))) q9 = some (.lst ((cv.drop i).map (·.2))) := upd_same
      generalize upd H45 q9 (.lst ((cv.drop i).map (·.2))) = H46 at s46 e46 ⊢
      refine ⟨q8, q9, _, _, rfl, rfl, s46 _ _ e45, e46, line_of (by rw [List.length_append, List.length_map, List.length_map]; show (cv.take i).length + 1 + _ ≤ 1000; omega), fun B nB => ?_⟩
      have s4346 := s4345.trans s46
      have Bp : B ≠ p := (ne_of_none (s4346 _ _ hp43) nB).symm
      have s47 := same_upd (o := HO.lst ((cv.take i).map (·.2) ++ [v] ++ (cv.drop i).map (·.2))) nB
      have e47 : (upd H46 B (.lst ((cv.take i).map (·.2) ++ [v] ++ (cv.drop i).map (·.2)))) B = some (.lst ((cv.take i).map (·.2) ++ [v] ++ (cv.drop i).map (·.2))) := upd_same
      generalize upd H46 B (.lst ((cv.take i).map (·.2) ++ [v] ++ (cv.drop i).map (·.2))) = H47 at s47 e47 ⊢
      have s4347 := s4346.trans s47
      -- what is handed
      refine ⟨.ref pp, rfl, .ref p, rfl, .ref B, rfl, .ref B, rfl, .ref B, rfl, .ref D, rfl, D, _, rfl, .inl ⟨.of (s4347 _ _ e43), fun q2 nq2 => ?_⟩⟩
      have q2p : q2 ≠ p := (ne_of_none (s4347 _ _ hp43) nq2).symm
      have s48 := same_upd (o := HO.tup (cv.map (·.2))) nq2
      have e48 : (upd H47 q2 (.tup (cv.map (·.2)))) q2 = some (.tup (cv.map (·.2))) := upd_same
      generalize upd H47 q2 (.tup (cv.map (·.2))) = H48 at s48 e48 ⊢
      have s4348 := s4347.trans s48
      refine fun q3 nq3 => ?_
      have q3p : q3 ≠ p := (ne_of_none (s4348 _ _ hp43) nq3).symm
      have s49 := same_upd (o := HO.dK []) nq3
      have e49 : (upd H48 q3 (.dK [])) q3 = some (.dK []) := upd_same
      generalize upd H48 q3 (.dK []) = H49 at s49 e49 ⊢
      have s4349 := s4348.trans s49
      refine ⟨line_of (show 8 ≤ 1000 by decide), fun BL nBL => ?_⟩
      have BLp : BL ≠ p := (ne_of_none (s4349 _ _ hp43) nBL).symm
      have s50 := same_upd (o := HO.lst [V.ref B, .ref B, .ref B, .ref q2, .non, .ref q3, .str "claims", .int 5]) nBL
      have e50 : (upd H49 BL (.lst [V.ref B, .ref B, .ref B, .ref q2, .non, .ref q3, .str "claims", .int 5])) BL = some (.lst [V.ref B, .ref B, .ref B, .ref q2, .non, .ref q3, .str "claims", .int 5]) := upd_same
      generalize upd H49 BL (.lst [V.ref B, .ref B, .ref B, .ref q2, .non, .ref q3, .str "claims", .int 5]) = H50 at s50 e50 ⊢
      have s4350 := s4349.trans s50
      have hp50 := s4350 _ _ hp43
      have h50 := hid_same (p := p) s4350
      have cms50 := cms43.same h50
      have s4750 := s48.trans (s49.trans s50)
      have all8 : ∀ v' ∈ [V.ref B, .ref B, .ref B, .ref q2, .non, .ref q3, .str "claims", .int 5], NoCs zs (hide p H50) v' := fun v' hv => by
        have nb : NoCs zs (hide p H50) (.ref B) := .inr (.inr ⟨B, cv.take i, v, d, (cv.drop i).map (·.2), rfl, by rw [hide_ne Bp, s4750 _ _ e47, List.append_assoc] <;> rfl, fun q hq => cms50 q (List.mem_of_mem_take hq), DAt.same h50 _ hd, few, c0⟩)
        simp only [List.mem_cons, List.not_mem_nil, or_false] at hv
        rcases hv with rfl | rfl | rfl | rfl | rfl | rfl | rfl | rfl
        · exact nb
        · exact nb
        · exact nb
        · exact .inl ⟨.tuple (cv.map fun q => q.1.data), ⟨q2, _, rfl, .of (by rw [hide_ne q2p]; exact (s49.trans s50) _ _ e48), DAll.of_map fun q hq => (cms50 q hq).2⟩, rfl⟩
        · exact .inl ⟨.none, rfl, rfl⟩
        · exact .inr (.inl ⟨q3, rfl, by rw [hide_ne q3p]; exact s50 _ _ e49⟩)
        · exact .inl ⟨.str "claims", rfl, rfl⟩
        · exact .inl ⟨.int 5, rfl, rfl⟩
      refine ⟨p, BL, _, y43, _, rfl, hp50, w43, by omega, e50, BLp, by simp, by simp, fun v' y51 hv' w51 => ?_⟩
      have nc51 : NoCs zs (upd H50 p (.lst y51)) v' := (all8 v' hv').same (by have := hide_sub p (upd H50 p (.lst y51)); rw [hide_upd] at this; exact this)
      have b51 := (b4243.same s4350).upd (.lst y51)
      generalize upd H50 p (.lst y51) = H51 at nc51 b51 ⊢
      have pk51 := (pkh.same b51.hid).same (hide_sub p H51)
      refine ⟨pp, o, u, zs, _, v', rfl, pk51, nc51, fun H52 s52 => ⟨_, rfl, iteF ?_⟩⟩
      exact ⟨⟨_, _, _, _, _, _, _, _, _, _, _, _, _, rfl⟩, But.ext (Same.refl _) np3 (b312.trans (b51.same s52))⟩
  · rintro σ H4 _
    exact q _
end
theorem all_mk {l : PySem.W.OpenLaw} {w : World} {K : PySem.W.Frag} {h : Heap} {mg : Str → Option Value} {fa : Addr} (X : K.In h) (G : h.Ns mainGlobals mg) (hfa : mg "law" = some (.ref fa))
    {f_PollError_init : Addr} {od_PollError_init an_PollError_init : Option Addr} {sl_PollError_init : Array (Option Value)} {oc_PollError_init kV_PollError_init dc_PollError_init pm_PollError_init cd_PollError_init ct_PollError_init : Value}
    {T_PollError_init : Addr} {to_PollError_init : Value} {td_PollError_init : Option Addr} {tn_PollError_init : Nat} {tsl_PollError_init : Array (Option Value)} {tk0_PollError_init : Tok}
    (lt_PollError_init : K.lookup T_PollError_init = some ⟨to_PollError_init, td_PollError_init, .seq #[.str "" tk0_PollError_init] tn_PollError_init, tsl_PollError_init⟩)
    (l_PollError_init : K.lookup f_PollError_init = some ⟨oc_PollError_init, od_PollError_init, .func (PySem.W.fnOf "__init__" "PollError.__init__" (defArgs s_PollError_init) (defBody s_PollError_init) (defScope s_PollError_init) (.ref T_PollError_init) kV_PollError_init dc_PollError_init pm_PollError_init an_PollError_init cd_PollError_init ct_PollError_init), sl_PollError_init⟩)
    (c_PollError_init : PySem.W.codeIn K cd_PollError_init "PollError.__init__" = true) (k_PollError_init : PySem.W.keepIn K (.ref f_PollError_init) = true)
    {f_is_whole : Addr} {od_is_whole an_is_whole : Option Addr} {sl_is_whole : Array (Option Value)} {oc_is_whole kV_is_whole dc_is_whole pm_is_whole cd_is_whole ct_is_whole : Value}
    (a_is_whole : PySem.W.nsIn K mainGlobals "is_whole" = some (some (.ref f_is_whole)))
    (l_is_whole : K.lookup f_is_whole = some ⟨oc_is_whole, od_is_whole, .func (PySem.W.fnOf "is_whole" "is_whole" (defArgs s_is_whole) (defBody s_is_whole) (defScope s_is_whole) .none kV_is_whole dc_is_whole pm_is_whole an_is_whole cd_is_whole ct_is_whole), sl_is_whole⟩)
    (c_is_whole : PySem.W.codeIn K cd_is_whole "is_whole" = true) (k_is_whole : PySem.W.keepIn K (.ref f_is_whole) = true)
    {f_is_name : Addr} {od_is_name an_is_name : Option Addr} {sl_is_name : Array (Option Value)} {oc_is_name kV_is_name dc_is_name pm_is_name cd_is_name ct_is_name : Value}
    (a_is_name : PySem.W.nsIn K mainGlobals "is_name" = some (some (.ref f_is_name)))
    (l_is_name : K.lookup f_is_name = some ⟨oc_is_name, od_is_name, .func (PySem.W.fnOf "is_name" "is_name" (defArgs s_is_name) (defBody s_is_name) (defScope s_is_name) .none kV_is_name dc_is_name pm_is_name an_is_name cd_is_name ct_is_name), sl_is_name⟩)
    (c_is_name : PySem.W.codeIn K cd_is_name "is_name" = true) (k_is_name : PySem.W.keepIn K (.ref f_is_name) = true)
    {f_is_tuple_of : Addr} {od_is_tuple_of an_is_tuple_of : Option Addr} {sl_is_tuple_of : Array (Option Value)} {oc_is_tuple_of kV_is_tuple_of dc_is_tuple_of pm_is_tuple_of cd_is_tuple_of ct_is_tuple_of : Value}
    (a_is_tuple_of : PySem.W.nsIn K mainGlobals "is_tuple_of" = some (some (.ref f_is_tuple_of)))
    (l_is_tuple_of : K.lookup f_is_tuple_of = some ⟨oc_is_tuple_of, od_is_tuple_of, .func (PySem.W.fnOf "is_tuple_of" "is_tuple_of" (defArgs s_is_tuple_of) (defBody s_is_tuple_of) (defScope s_is_tuple_of) .none kV_is_tuple_of dc_is_tuple_of pm_is_tuple_of an_is_tuple_of cd_is_tuple_of ct_is_tuple_of), sl_is_tuple_of⟩)
    (c_is_tuple_of : PySem.W.codeIn K cd_is_tuple_of "is_tuple_of" = true) (k_is_tuple_of : PySem.W.keepIn K (.ref f_is_tuple_of) = true)
    {f_are_names : Addr} {od_are_names an_are_names : Option Addr} {sl_are_names : Array (Option Value)} {oc_are_names kV_are_names dc_are_names pm_are_names cd_are_names ct_are_names : Value}
    (a_are_names : PySem.W.nsIn K mainGlobals "are_names" = some (some (.ref f_are_names)))
    (l_are_names : K.lookup f_are_names = some ⟨oc_are_names, od_are_names, .func (PySem.W.fnOf "are_names" "are_names" (defArgs s_are_names) (defBody s_are_names) (defScope s_are_names) .none kV_are_names dc_are_names pm_are_names an_are_names cd_are_names ct_are_names), sl_are_names⟩)
    (c_are_names : PySem.W.codeIn K cd_are_names "are_names" = true) (k_are_names : PySem.W.keepIn K (.ref f_are_names) = true)
    {f_are_options : Addr} {od_are_options an_are_options : Option Addr} {sl_are_options : Array (Option Value)} {oc_are_options kV_are_options dc_are_options pm_are_options cd_are_options ct_are_options : Value}
    (a_are_options : PySem.W.nsIn K mainGlobals "are_options" = some (some (.ref f_are_options)))
    (l_are_options : K.lookup f_are_options = some ⟨oc_are_options, od_are_options, .func (PySem.W.fnOf "are_options" "are_options" (defArgs s_are_options) (defBody s_are_options) (defScope s_are_options) .none kV_are_options dc_are_options pm_are_options an_are_options cd_are_options ct_are_options), sl_are_options⟩)
    (c_are_options : PySem.W.codeIn K cd_are_options "are_options" = true) (k_are_options : PySem.W.keepIn K (.ref f_are_options) = true)
    {f_is_option : Addr} {od_is_option an_is_option : Option Addr} {sl_is_option : Array (Option Value)} {oc_is_option kV_is_option dc_is_option pm_is_option cd_is_option ct_is_option : Value}
    (a_is_option : PySem.W.nsIn K mainGlobals "is_option" = some (some (.ref f_is_option)))
    (l_is_option : K.lookup f_is_option = some ⟨oc_is_option, od_is_option, .func (PySem.W.fnOf "is_option" "is_option" (defArgs s_is_option) (defBody s_is_option) (defScope s_is_option) .none kV_is_option dc_is_option pm_is_option an_is_option cd_is_option ct_is_option), sl_is_option⟩)
    (c_is_option : PySem.W.codeIn K cd_is_option "is_option" = true) (k_is_option : PySem.W.keepIn K (.ref f_is_option) = true)
    {f_are_unlike_options : Addr} {od_are_unlike_options an_are_unlike_options : Option Addr} {sl_are_unlike_options : Array (Option Value)} {oc_are_unlike_options kV_are_unlike_options dc_are_unlike_options pm_are_unlike_options cd_are_unlike_options ct_are_unlike_options : Value}
    (a_are_unlike_options : PySem.W.nsIn K mainGlobals "are_unlike_options" = some (some (.ref f_are_unlike_options)))
    (l_are_unlike_options : K.lookup f_are_unlike_options = some ⟨oc_are_unlike_options, od_are_unlike_options, .func (PySem.W.fnOf "are_unlike_options" "are_unlike_options" (defArgs s_are_unlike_options) (defBody s_are_unlike_options) (defScope s_are_unlike_options) .none kV_are_unlike_options dc_are_unlike_options pm_are_unlike_options an_are_unlike_options cd_are_unlike_options ct_are_unlike_options), sl_are_unlike_options⟩)
    (c_are_unlike_options : PySem.W.codeIn K cd_are_unlike_options "are_unlike_options" = true) (k_are_unlike_options : PySem.W.keepIn K (.ref f_are_unlike_options) = true)
    {f_is_mark : Addr} {od_is_mark an_is_mark : Option Addr} {sl_is_mark : Array (Option Value)} {oc_is_mark kV_is_mark dc_is_mark pm_is_mark cd_is_mark ct_is_mark : Value}
    (a_is_mark : PySem.W.nsIn K mainGlobals "is_mark" = some (some (.ref f_is_mark)))
    (l_is_mark : K.lookup f_is_mark = some ⟨oc_is_mark, od_is_mark, .func (PySem.W.fnOf "is_mark" "is_mark" (defArgs s_is_mark) (defBody s_is_mark) (defScope s_is_mark) .none kV_is_mark dc_is_mark pm_is_mark an_is_mark cd_is_mark ct_is_mark), sl_is_mark⟩)
    (c_is_mark : PySem.W.codeIn K cd_is_mark "is_mark" = true) (k_is_mark : PySem.W.keepIn K (.ref f_is_mark) = true)
    {f_are_tiers : Addr} {od_are_tiers an_are_tiers : Option Addr} {sl_are_tiers : Array (Option Value)} {oc_are_tiers kV_are_tiers dc_are_tiers pm_are_tiers cd_are_tiers ct_are_tiers : Value}
    (a_are_tiers : PySem.W.nsIn K mainGlobals "are_tiers" = some (some (.ref f_are_tiers)))
    (l_are_tiers : K.lookup f_are_tiers = some ⟨oc_are_tiers, od_are_tiers, .func (PySem.W.fnOf "are_tiers" "are_tiers" (defArgs s_are_tiers) (defBody s_are_tiers) (defScope s_are_tiers) .none kV_are_tiers dc_are_tiers pm_are_tiers an_are_tiers cd_are_tiers ct_are_tiers), sl_are_tiers⟩)
    (c_are_tiers : PySem.W.codeIn K cd_are_tiers "are_tiers" = true) (k_are_tiers : PySem.W.keepIn K (.ref f_are_tiers) = true)
    {f_are_marks : Addr} {od_are_marks an_are_marks : Option Addr} {sl_are_marks : Array (Option Value)} {oc_are_marks kV_are_marks dc_are_marks pm_are_marks cd_are_marks ct_are_marks : Value}
    (a_are_marks : PySem.W.nsIn K mainGlobals "are_marks" = some (some (.ref f_are_marks)))
    (l_are_marks : K.lookup f_are_marks = some ⟨oc_are_marks, od_are_marks, .func (PySem.W.fnOf "are_marks" "are_marks" (defArgs s_are_marks) (defBody s_are_marks) (defScope s_are_marks) .none kV_are_marks dc_are_marks pm_are_marks an_are_marks cd_are_marks ct_are_marks), sl_are_marks⟩)
    (c_are_marks : PySem.W.codeIn K cd_are_marks "are_marks" = true) (k_are_marks : PySem.W.keepIn K (.ref f_are_marks) = true)
    {f_is_ballot : Addr} {od_is_ballot an_is_ballot : Option Addr} {sl_is_ballot : Array (Option Value)} {oc_is_ballot kV_is_ballot dc_is_ballot pm_is_ballot cd_is_ballot ct_is_ballot : Value}
    (a_is_ballot : PySem.W.nsIn K mainGlobals "is_ballot" = some (some (.ref f_is_ballot)))
    (l_is_ballot : K.lookup f_is_ballot = some ⟨oc_is_ballot, od_is_ballot, .func (PySem.W.fnOf "is_ballot" "is_ballot" (defArgs s_is_ballot) (defBody s_is_ballot) (defScope s_is_ballot) .none kV_is_ballot dc_is_ballot pm_is_ballot an_is_ballot cd_is_ballot ct_is_ballot), sl_is_ballot⟩)
    (c_is_ballot : PySem.W.codeIn K cd_is_ballot "is_ballot" = true) (k_is_ballot : PySem.W.keepIn K (.ref f_is_ballot) = true)
    {f_is_row : Addr} {od_is_row an_is_row : Option Addr} {sl_is_row : Array (Option Value)} {oc_is_row kV_is_row dc_is_row pm_is_row cd_is_row ct_is_row : Value}
    (a_is_row : PySem.W.nsIn K mainGlobals "is_row" = some (some (.ref f_is_row)))
    (l_is_row : K.lookup f_is_row = some ⟨oc_is_row, od_is_row, .func (PySem.W.fnOf "is_row" "is_row" (defArgs s_is_row) (defBody s_is_row) (defScope s_is_row) .none kV_is_row dc_is_row pm_is_row an_is_row cd_is_row ct_is_row), sl_is_row⟩)
    (c_is_row : PySem.W.codeIn K cd_is_row "is_row" = true) (k_is_row : PySem.W.keepIn K (.ref f_is_row) = true)
    {f_check_poll : Addr} {od_check_poll an_check_poll : Option Addr} {sl_check_poll : Array (Option Value)} {oc_check_poll kV_check_poll dc_check_poll pm_check_poll cd_check_poll ct_check_poll : Value}
    (a_check_poll : PySem.W.nsIn K mainGlobals "check_poll" = some (some (.ref f_check_poll)))
    (l_check_poll : K.lookup f_check_poll = some ⟨oc_check_poll, od_check_poll, .func (PySem.W.fnOf "check_poll" "check_poll" (defArgs s_check_poll) (defBody s_check_poll) (defScope s_check_poll) .none kV_check_poll dc_check_poll pm_check_poll an_check_poll cd_check_poll ct_check_poll), sl_check_poll⟩)
    (c_check_poll : PySem.W.codeIn K cd_check_poll "check_poll" = true) (k_check_poll : PySem.W.keepIn K (.ref f_check_poll) = true)
    {f_Poll_init : Addr} {od_Poll_init an_Poll_init : Option Addr} {sl_Poll_init : Array (Option Value)} {oc_Poll_init kV_Poll_init dc_Poll_init pm_Poll_init cd_Poll_init ct_Poll_init : Value}
    {e_Poll_init : Addr}
    {T_Poll_init : Addr} {to_Poll_init : Value} {td_Poll_init : Option Addr} {tn_Poll_init : Nat} {tsl_Poll_init : Array (Option Value)} 
    (lt_Poll_init : K.lookup T_Poll_init = some ⟨to_Poll_init, td_Poll_init, .seq #[.ref e_Poll_init] tn_Poll_init, tsl_Poll_init⟩)
    (l_Poll_init : K.lookup f_Poll_init = some ⟨oc_Poll_init, od_Poll_init, .func (PySem.W.fnOf "__init__" "Poll.__init__" (defArgs s_Poll_init) (defBody s_Poll_init) (defScope s_Poll_init) (.ref T_Poll_init) kV_Poll_init dc_Poll_init pm_Poll_init an_Poll_init cd_Poll_init ct_Poll_init), sl_Poll_init⟩)
    (c_Poll_init : PySem.W.codeIn K cd_Poll_init "Poll.__init__" = true) (k_Poll_init : PySem.W.keepIn K (.ref f_Poll_init) = true)
    {f_is_lot_of : Addr} {od_is_lot_of an_is_lot_of : Option Addr} {sl_is_lot_of : Array (Option Value)} {oc_is_lot_of kV_is_lot_of dc_is_lot_of pm_is_lot_of cd_is_lot_of ct_is_lot_of : Value}
    (a_is_lot_of : PySem.W.nsIn K mainGlobals "is_lot_of" = some (some (.ref f_is_lot_of)))
    (l_is_lot_of : K.lookup f_is_lot_of = some ⟨oc_is_lot_of, od_is_lot_of, .func (PySem.W.fnOf "is_lot_of" "is_lot_of" (defArgs s_is_lot_of) (defBody s_is_lot_of) (defScope s_is_lot_of) .none kV_is_lot_of dc_is_lot_of pm_is_lot_of an_is_lot_of cd_is_lot_of ct_is_lot_of), sl_is_lot_of⟩)
    (c_is_lot_of : PySem.W.codeIn K cd_is_lot_of "is_lot_of" = true) (k_is_lot_of : PySem.W.keepIn K (.ref f_is_lot_of) = true)
    {f_is_claim : Addr} {od_is_claim an_is_claim : Option Addr} {sl_is_claim : Array (Option Value)} {oc_is_claim kV_is_claim dc_is_claim pm_is_claim cd_is_claim ct_is_claim : Value}
    (a_is_claim : PySem.W.nsIn K mainGlobals "is_claim" = some (some (.ref f_is_claim)))
    (l_is_claim : K.lookup f_is_claim = some ⟨oc_is_claim, od_is_claim, .func (PySem.W.fnOf "is_claim" "is_claim" (defArgs s_is_claim) (defBody s_is_claim) (defScope s_is_claim) .none kV_is_claim dc_is_claim pm_is_claim an_is_claim cd_is_claim ct_is_claim), sl_is_claim⟩)
    (c_is_claim : PySem.W.codeIn K cd_is_claim "is_claim" = true) (k_is_claim : PySem.W.keepIn K (.ref f_is_claim) = true)
    {f_check_claim : Addr} {od_check_claim an_check_claim : Option Addr} {sl_check_claim : Array (Option Value)} {oc_check_claim kV_check_claim dc_check_claim pm_check_claim cd_check_claim ct_check_claim : Value}
    (a_check_claim : PySem.W.nsIn K mainGlobals "check_claim" = some (some (.ref f_check_claim)))
    (l_check_claim : K.lookup f_check_claim = some ⟨oc_check_claim, od_check_claim, .func (PySem.W.fnOf "check_claim" "check_claim" (defArgs s_check_claim) (defBody s_check_claim) (defScope s_check_claim) .none kV_check_claim dc_check_claim pm_check_claim an_check_claim cd_check_claim ct_check_claim), sl_check_claim⟩)
    (c_check_claim : PySem.W.codeIn K cd_check_claim "check_claim" = true) (k_check_claim : PySem.W.keepIn K (.ref f_check_claim) = true)
    {f_order_ranks : Addr} {od_order_ranks an_order_ranks : Option Addr} {sl_order_ranks : Array (Option Value)} {oc_order_ranks kV_order_ranks dc_order_ranks pm_order_ranks cd_order_ranks ct_order_ranks : Value}
    (a_order_ranks : PySem.W.nsIn K mainGlobals "order_ranks" = some (some (.ref f_order_ranks)))
    (l_order_ranks : K.lookup f_order_ranks = some ⟨oc_order_ranks, od_order_ranks, .func (PySem.W.fnOf "order_ranks" "order_ranks" (defArgs s_order_ranks) (defBody s_order_ranks) (defScope s_order_ranks) .none kV_order_ranks dc_order_ranks pm_order_ranks an_order_ranks cd_order_ranks ct_order_ranks), sl_order_ranks⟩)
    (c_order_ranks : PySem.W.codeIn K cd_order_ranks "order_ranks" = true) (k_order_ranks : PySem.W.keepIn K (.ref f_order_ranks) = true)
    {f_ranks : Addr} {od_ranks an_ranks : Option Addr} {sl_ranks : Array (Option Value)} {oc_ranks kV_ranks dc_ranks pm_ranks cd_ranks ct_ranks : Value}
    (a_ranks : PySem.W.nsIn K mainGlobals "ranks" = some (some (.ref f_ranks)))
    (l_ranks : K.lookup f_ranks = some ⟨oc_ranks, od_ranks, .func (PySem.W.fnOf "ranks" "ranks" (defArgs s_ranks) (defBody s_ranks) (defScope s_ranks) .none kV_ranks dc_ranks pm_ranks an_ranks cd_ranks ct_ranks), sl_ranks⟩)
    (c_ranks : PySem.W.codeIn K cd_ranks "ranks" = true) (k_ranks : PySem.W.keepIn K (.ref f_ranks) = true)
    {f_tiers : Addr} {od_tiers an_tiers : Option Addr} {sl_tiers : Array (Option Value)} {oc_tiers kV_tiers dc_tiers pm_tiers cd_tiers ct_tiers : Value}
    (a_tiers : PySem.W.nsIn K mainGlobals "tiers" = some (some (.ref f_tiers)))
    (l_tiers : K.lookup f_tiers = some ⟨oc_tiers, od_tiers, .func (PySem.W.fnOf "tiers" "tiers" (defArgs s_tiers) (defBody s_tiers) (defScope s_tiers) .none kV_tiers dc_tiers pm_tiers an_tiers cd_tiers ct_tiers), sl_tiers⟩)
    (c_tiers : PySem.W.codeIn K cd_tiers "tiers" = true) (k_tiers : PySem.W.keepIn K (.ref f_tiers) = true)
    {f_alone_at : Addr} {od_alone_at an_alone_at : Option Addr} {sl_alone_at : Array (Option Value)} {oc_alone_at kV_alone_at dc_alone_at pm_alone_at cd_alone_at ct_alone_at : Value}
    (a_alone_at : PySem.W.nsIn K mainGlobals "alone_at" = some (some (.ref f_alone_at)))
    (l_alone_at : K.lookup f_alone_at = some ⟨oc_alone_at, od_alone_at, .func (PySem.W.fnOf "alone_at" "alone_at" (defArgs s_alone_at) (defBody s_alone_at) (defScope s_alone_at) .none kV_alone_at dc_alone_at pm_alone_at an_alone_at cd_alone_at ct_alone_at), sl_alone_at⟩)
    (c_alone_at : PySem.W.codeIn K cd_alone_at "alone_at" = true) (k_alone_at : PySem.W.keepIn K (.ref f_alone_at) = true)
    {f_firsts : Addr} {od_firsts an_firsts : Option Addr} {sl_firsts : Array (Option Value)} {oc_firsts kV_firsts dc_firsts pm_firsts cd_firsts ct_firsts : Value}
    (a_firsts : PySem.W.nsIn K mainGlobals "firsts" = some (some (.ref f_firsts)))
    (l_firsts : K.lookup f_firsts = some ⟨oc_firsts, od_firsts, .func (PySem.W.fnOf "firsts" "firsts" (defArgs s_firsts) (defBody s_firsts) (defScope s_firsts) .none kV_firsts dc_firsts pm_firsts an_firsts cd_firsts ct_firsts), sl_firsts⟩)
    (c_firsts : PySem.W.codeIn K cd_firsts "firsts" = true) (k_firsts : PySem.W.keepIn K (.ref f_firsts) = true)
    {f_ranked : Addr} {od_ranked an_ranked : Option Addr} {sl_ranked : Array (Option Value)} {oc_ranked kV_ranked dc_ranked pm_ranked cd_ranked ct_ranked : Value}
    (a_ranked : PySem.W.nsIn K mainGlobals "ranked" = some (some (.ref f_ranked)))
    (l_ranked : K.lookup f_ranked = some ⟨oc_ranked, od_ranked, .func (PySem.W.fnOf "ranked" "ranked" (defArgs s_ranked) (defBody s_ranked) (defScope s_ranked) .none kV_ranked dc_ranked pm_ranked an_ranked cd_ranked ct_ranked), sl_ranked⟩)
    (c_ranked : PySem.W.codeIn K cd_ranked "ranked" = true) (k_ranked : PySem.W.keepIn K (.ref f_ranked) = true)
    {f_tally_by : Addr} {od_tally_by an_tally_by : Option Addr} {sl_tally_by : Array (Option Value)} {oc_tally_by kV_tally_by dc_tally_by pm_tally_by cd_tally_by ct_tally_by : Value}
    (a_tally_by : PySem.W.nsIn K mainGlobals "tally_by" = some (some (.ref f_tally_by)))
    (l_tally_by : K.lookup f_tally_by = some ⟨oc_tally_by, od_tally_by, .func (PySem.W.fnOf "tally_by" "tally_by" (defArgs s_tally_by) (defBody s_tally_by) (defScope s_tally_by) .none kV_tally_by dc_tally_by pm_tally_by an_tally_by cd_tally_by ct_tally_by), sl_tally_by⟩)
    (c_tally_by : PySem.W.codeIn K cd_tally_by "tally_by" = true) (k_tally_by : PySem.W.keepIn K (.ref f_tally_by) = true)
    {f_lead : Addr} {od_lead an_lead : Option Addr} {sl_lead : Array (Option Value)} {oc_lead kV_lead dc_lead pm_lead cd_lead ct_lead : Value}
    (a_lead : PySem.W.nsIn K mainGlobals "lead" = some (some (.ref f_lead)))
    (l_lead : K.lookup f_lead = some ⟨oc_lead, od_lead, .func (PySem.W.fnOf "lead" "lead" (defArgs s_lead) (defBody s_lead) (defScope s_lead) .none kV_lead dc_lead pm_lead an_lead cd_lead ct_lead), sl_lead⟩)
    (c_lead : PySem.W.codeIn K cd_lead "lead" = true) (k_lead : PySem.W.keepIn K (.ref f_lead) = true)
    {f_Poll_many : Addr} {od_Poll_many an_Poll_many : Option Addr} {sl_Poll_many : Array (Option Value)} {oc_Poll_many kV_Poll_many dc_Poll_many pm_Poll_many cd_Poll_many ct_Poll_many : Value}
    (l_Poll_many : K.lookup f_Poll_many = some ⟨oc_Poll_many, od_Poll_many, .func (PySem.W.fnOf "many" "Poll.many" (defArgs s_Poll_many) (defBody s_Poll_many) (defScope s_Poll_many) .none kV_Poll_many dc_Poll_many pm_Poll_many an_Poll_many cd_Poll_many ct_Poll_many), sl_Poll_many⟩)
    (c_Poll_many : PySem.W.codeIn K cd_Poll_many "Poll.many" = true) (k_Poll_many : PySem.W.keepIn K (.ref f_Poll_many) = true)
    {f_check_claims : Addr} {od_check_claims an_check_claims : Option Addr} {sl_check_claims : Array (Option Value)} {oc_check_claims kV_check_claims dc_check_claims pm_check_claims cd_check_claims ct_check_claims : Value}
    (a_check_claims : PySem.W.nsIn K mainGlobals "check_claims" = some (some (.ref f_check_claims)))
    (l_check_claims : K.lookup f_check_claims = some ⟨oc_check_claims, od_check_claims, .func (PySem.W.fnOf "check_claims" "check_claims" (defArgs s_check_claims) (defBody s_check_claims) (defScope s_check_claims) .none kV_check_claims dc_check_claims pm_check_claims an_check_claims cd_check_claims ct_check_claims), sl_check_claims⟩)
    (c_check_claims : PySem.W.codeIn K cd_check_claims "check_claims" = true) (k_check_claims : PySem.W.keepIn K (.ref f_check_claims) = true)
    {f_slack : Addr} {od_slack an_slack : Option Addr} {sl_slack : Array (Option Value)} {oc_slack kV_slack dc_slack pm_slack cd_slack ct_slack : Value}
    (a_slack : PySem.W.nsIn K mainGlobals "slack" = some (some (.ref f_slack)))
    (l_slack : K.lookup f_slack = some ⟨oc_slack, od_slack, .func (PySem.W.fnOf "slack" "slack" (defArgs s_slack) (defBody s_slack) (defScope s_slack) .none kV_slack dc_slack pm_slack an_slack cd_slack ct_slack), sl_slack⟩)
    (c_slack : PySem.W.codeIn K cd_slack "slack" = true) (k_slack : PySem.W.keepIn K (.ref f_slack) = true)
    {f_law_mixed : Addr} {od_law_mixed an_law_mixed : Option Addr} {sl_law_mixed : Array (Option Value)} {oc_law_mixed kV_law_mixed dc_law_mixed pm_law_mixed cd_law_mixed ct_law_mixed : Value}
    (a_law_mixed : PySem.W.nsIn K mainGlobals "_law_mixed" = some (some (.ref f_law_mixed)))
    (l_law_mixed : K.lookup f_law_mixed = some ⟨oc_law_mixed, od_law_mixed, .func (PySem.W.fnOf "_law_mixed" "_law_mixed" (defArgs s_law_mixed) (defBody s_law_mixed) (defScope s_law_mixed) .none kV_law_mixed dc_law_mixed pm_law_mixed an_law_mixed cd_law_mixed ct_law_mixed), sl_law_mixed⟩)
    (c_law_mixed : PySem.W.codeIn K cd_law_mixed "_law_mixed" = true) (k_law_mixed : PySem.W.keepIn K (.ref f_law_mixed) = true)
    {f_law_source : Addr} {od_law_source an_law_source : Option Addr} {sl_law_source : Array (Option Value)} {oc_law_source kV_law_source dc_law_source pm_law_source cd_law_source ct_law_source : Value}
    (a_law_source : PySem.W.nsIn K mainGlobals "_law_source" = some (some (.ref f_law_source)))
    (l_law_source : K.lookup f_law_source = some ⟨oc_law_source, od_law_source, .func (PySem.W.fnOf "_law_source" "_law_source" (defArgs s_law_source) (defBody s_law_source) (defScope s_law_source) .none kV_law_source dc_law_source pm_law_source an_law_source cd_law_source ct_law_source), sl_law_source⟩)
    (c_law_source : PySem.W.codeIn K cd_law_source "_law_source" = true) (k_law_source : PySem.W.keepIn K (.ref f_law_source) = true)
    {f_law_take : Addr} {od_law_take an_law_take : Option Addr} {sl_law_take : Array (Option Value)} {oc_law_take kV_law_take dc_law_take pm_law_take cd_law_take ct_law_take : Value}
    (a_law_take : PySem.W.nsIn K mainGlobals "_law_take" = some (some (.ref f_law_take)))
    (l_law_take : K.lookup f_law_take = some ⟨oc_law_take, od_law_take, .func (PySem.W.fnOf "_law_take" "_law_take" (defArgs s_law_take) (defBody s_law_take) (defScope s_law_take) .none kV_law_take dc_law_take pm_law_take an_law_take cd_law_take ct_law_take), sl_law_take⟩)
    (c_law_take : PySem.W.codeIn K cd_law_take "_law_take" = true) (k_law_take : PySem.W.keepIn K (.ref f_law_take) = true)
    {f_law_one : Addr} {od_law_one an_law_one : Option Addr} {sl_law_one : Array (Option Value)} {oc_law_one kV_law_one dc_law_one pm_law_one cd_law_one ct_law_one : Value}
    (a_law_one : PySem.W.nsIn K mainGlobals "_law_one" = some (some (.ref f_law_one)))
    (l_law_one : K.lookup f_law_one = some ⟨oc_law_one, od_law_one, .func (PySem.W.fnOf "_law_one" "_law_one" (defArgs s_law_one) (defBody s_law_one) (defScope s_law_one) .none kV_law_one dc_law_one pm_law_one an_law_one cd_law_one ct_law_one), sl_law_one⟩)
    (c_law_one : PySem.W.codeIn K cd_law_one "_law_one" = true) (k_law_one : PySem.W.keepIn K (.ref f_law_one) = true)
    {f_law_shuffled : Addr} {od_law_shuffled an_law_shuffled : Option Addr} {sl_law_shuffled : Array (Option Value)} {oc_law_shuffled kV_law_shuffled dc_law_shuffled pm_law_shuffled cd_law_shuffled ct_law_shuffled : Value}
    (a_law_shuffled : PySem.W.nsIn K mainGlobals "_law_shuffled" = some (some (.ref f_law_shuffled)))
    (l_law_shuffled : K.lookup f_law_shuffled = some ⟨oc_law_shuffled, od_law_shuffled, .func (PySem.W.fnOf "_law_shuffled" "_law_shuffled" (defArgs s_law_shuffled) (defBody s_law_shuffled) (defScope s_law_shuffled) .none kV_law_shuffled dc_law_shuffled pm_law_shuffled an_law_shuffled cd_law_shuffled ct_law_shuffled), sl_law_shuffled⟩)
    (c_law_shuffled : PySem.W.codeIn K cd_law_shuffled "_law_shuffled" = true) (k_law_shuffled : PySem.W.keepIn K (.ref f_law_shuffled) = true)
    {f_law_names : Addr} {od_law_names an_law_names : Option Addr} {sl_law_names : Array (Option Value)} {oc_law_names kV_law_names dc_law_names pm_law_names cd_law_names ct_law_names : Value}
    (a_law_names : PySem.W.nsIn K mainGlobals "_law_names" = some (some (.ref f_law_names)))
    (l_law_names : K.lookup f_law_names = some ⟨oc_law_names, od_law_names, .func (PySem.W.fnOf "_law_names" "_law_names" (defArgs s_law_names) (defBody s_law_names) (defScope s_law_names) .none kV_law_names dc_law_names pm_law_names an_law_names cd_law_names ct_law_names), sl_law_names⟩)
    (c_law_names : PySem.W.codeIn K cd_law_names "_law_names" = true) (k_law_names : PySem.W.keepIn K (.ref f_law_names) = true)
    {f_law_ballot : Addr} {od_law_ballot an_law_ballot : Option Addr} {sl_law_ballot : Array (Option Value)} {oc_law_ballot kV_law_ballot dc_law_ballot pm_law_ballot cd_law_ballot ct_law_ballot : Value}
    (a_law_ballot : PySem.W.nsIn K mainGlobals "_law_ballot" = some (some (.ref f_law_ballot)))
    (l_law_ballot : K.lookup f_law_ballot = some ⟨oc_law_ballot, od_law_ballot, .func (PySem.W.fnOf "_law_ballot" "_law_ballot" (defArgs s_law_ballot) (defBody s_law_ballot) (defScope s_law_ballot) .none kV_law_ballot dc_law_ballot pm_law_ballot an_law_ballot cd_law_ballot ct_law_ballot), sl_law_ballot⟩)
    (c_law_ballot : PySem.W.codeIn K cd_law_ballot "_law_ballot" = true) (k_law_ballot : PySem.W.keepIn K (.ref f_law_ballot) = true)
    {f_law_rows : Addr} {od_law_rows an_law_rows : Option Addr} {sl_law_rows : Array (Option Value)} {oc_law_rows kV_law_rows dc_law_rows pm_law_rows cd_law_rows ct_law_rows : Value}
    (a_law_rows : PySem.W.nsIn K mainGlobals "_law_rows" = some (some (.ref f_law_rows)))
    (l_law_rows : K.lookup f_law_rows = some ⟨oc_law_rows, od_law_rows, .func (PySem.W.fnOf "_law_rows" "_law_rows" (defArgs s_law_rows) (defBody s_law_rows) (defScope s_law_rows) .none kV_law_rows dc_law_rows pm_law_rows an_law_rows cd_law_rows ct_law_rows), sl_law_rows⟩)
    (c_law_rows : PySem.W.codeIn K cd_law_rows "_law_rows" = true) (k_law_rows : PySem.W.keepIn K (.ref f_law_rows) = true)
    {f_law_high : Addr} {od_law_high an_law_high : Option Addr} {sl_law_high : Array (Option Value)} {oc_law_high kV_law_high dc_law_high pm_law_high cd_law_high ct_law_high : Value}
    (a_law_high : PySem.W.nsIn K mainGlobals "_law_high" = some (some (.ref f_law_high)))
    (l_law_high : K.lookup f_law_high = some ⟨oc_law_high, od_law_high, .func (PySem.W.fnOf "_law_high" "_law_high" (defArgs s_law_high) (defBody s_law_high) (defScope s_law_high) .none kV_law_high dc_law_high pm_law_high an_law_high cd_law_high ct_law_high), sl_law_high⟩)
    (c_law_high : PySem.W.codeIn K cd_law_high "_law_high" = true) (k_law_high : PySem.W.keepIn K (.ref f_law_high) = true)
    {f_law_counts : Addr} {od_law_counts an_law_counts : Option Addr} {sl_law_counts : Array (Option Value)} {oc_law_counts kV_law_counts dc_law_counts pm_law_counts cd_law_counts ct_law_counts : Value}
    (a_law_counts : PySem.W.nsIn K mainGlobals "_law_counts" = some (some (.ref f_law_counts)))
    (l_law_counts : K.lookup f_law_counts = some ⟨oc_law_counts, od_law_counts, .func (PySem.W.fnOf "_law_counts" "_law_counts" (defArgs s_law_counts) (defBody s_law_counts) (defScope s_law_counts) .none kV_law_counts dc_law_counts pm_law_counts an_law_counts cd_law_counts ct_law_counts), sl_law_counts⟩)
    (c_law_counts : PySem.W.codeIn K cd_law_counts "_law_counts" = true) (k_law_counts : PySem.W.keepIn K (.ref f_law_counts) = true)
    {f_law_lead : Addr} {od_law_lead an_law_lead : Option Addr} {sl_law_lead : Array (Option Value)} {oc_law_lead kV_law_lead dc_law_lead pm_law_lead cd_law_lead ct_law_lead : Value}
    (a_law_lead : PySem.W.nsIn K mainGlobals "_law_lead" = some (some (.ref f_law_lead)))
    (l_law_lead : K.lookup f_law_lead = some ⟨oc_law_lead, od_law_lead, .func (PySem.W.fnOf "_law_lead" "_law_lead" (defArgs s_law_lead) (defBody s_law_lead) (defScope s_law_lead) .none kV_law_lead dc_law_lead pm_law_lead an_law_lead cd_law_lead ct_law_lead), sl_law_lead⟩)
    (c_law_lead : PySem.W.codeIn K cd_law_lead "_law_lead" = true) (k_law_lead : PySem.W.keepIn K (.ref f_law_lead) = true)
    {f_law_claim : Addr} {od_law_claim an_law_claim : Option Addr} {sl_law_claim : Array (Option Value)} {oc_law_claim kV_law_claim dc_law_claim pm_law_claim cd_law_claim ct_law_claim : Value}
    (a_law_claim : PySem.W.nsIn K mainGlobals "_law_claim" = some (some (.ref f_law_claim)))
    (l_law_claim : K.lookup f_law_claim = some ⟨oc_law_claim, od_law_claim, .func (PySem.W.fnOf "_law_claim" "_law_claim" (defArgs s_law_claim) (defBody s_law_claim) (defScope s_law_claim) .none kV_law_claim dc_law_claim pm_law_claim an_law_claim cd_law_claim ct_law_claim), sl_law_claim⟩)
    (c_law_claim : PySem.W.codeIn K cd_law_claim "_law_claim" = true) (k_law_claim : PySem.W.keepIn K (.ref f_law_claim) = true)
    {f_law_no_claim : Addr} {od_law_no_claim an_law_no_claim : Option Addr} {sl_law_no_claim : Array (Option Value)} {oc_law_no_claim kV_law_no_claim dc_law_no_claim pm_law_no_claim cd_law_no_claim ct_law_no_claim : Value}
    (a_law_no_claim : PySem.W.nsIn K mainGlobals "_law_no_claim" = some (some (.ref f_law_no_claim)))
    (l_law_no_claim : K.lookup f_law_no_claim = some ⟨oc_law_no_claim, od_law_no_claim, .func (PySem.W.fnOf "_law_no_claim" "_law_no_claim" (defArgs s_law_no_claim) (defBody s_law_no_claim) (defScope s_law_no_claim) .none kV_law_no_claim dc_law_no_claim pm_law_no_claim an_law_no_claim cd_law_no_claim ct_law_no_claim), sl_law_no_claim⟩)
    (c_law_no_claim : PySem.W.codeIn K cd_law_no_claim "_law_no_claim" = true) (k_law_no_claim : PySem.W.keepIn K (.ref f_law_no_claim) = true)
    {f_law_due : Addr} {od_law_due an_law_due : Option Addr} {sl_law_due : Array (Option Value)} {oc_law_due kV_law_due dc_law_due pm_law_due cd_law_due ct_law_due : Value}
    (a_law_due : PySem.W.nsIn K mainGlobals "_law_due" = some (some (.ref f_law_due)))
    (l_law_due : K.lookup f_law_due = some ⟨oc_law_due, od_law_due, .func (PySem.W.fnOf "_law_due" "_law_due" (defArgs s_law_due) (defBody s_law_due) (defScope s_law_due) .none kV_law_due dc_law_due pm_law_due an_law_due cd_law_due ct_law_due), sl_law_due⟩)
    (c_law_due : PySem.W.codeIn K cd_law_due "_law_due" = true) (k_law_due : PySem.W.keepIn K (.ref f_law_due) = true)
    {f_law_is_refused : Addr} {od_law_is_refused an_law_is_refused : Option Addr} {sl_law_is_refused : Array (Option Value)} {oc_law_is_refused kV_law_is_refused dc_law_is_refused pm_law_is_refused cd_law_is_refused ct_law_is_refused : Value}
    (a_law_is_refused : PySem.W.nsIn K mainGlobals "_law_is_refused" = some (some (.ref f_law_is_refused)))
    (l_law_is_refused : K.lookup f_law_is_refused = some ⟨oc_law_is_refused, od_law_is_refused, .func (PySem.W.fnOf "_law_is_refused" "_law_is_refused" (defArgs s_law_is_refused) (defBody s_law_is_refused) (defScope s_law_is_refused) .none kV_law_is_refused dc_law_is_refused pm_law_is_refused an_law_is_refused cd_law_is_refused ct_law_is_refused), sl_law_is_refused⟩)
    (c_law_is_refused : PySem.W.codeIn K cd_law_is_refused "_law_is_refused" = true) (k_law_is_refused : PySem.W.keepIn K (.ref f_law_is_refused) = true)
    {f_law : Addr} {od_law an_law : Option Addr} {sl_law : Array (Option Value)} {oc_law kV_law dc_law pm_law cd_law ct_law : Value}
    (a_law : PySem.W.nsIn K mainGlobals "law" = some (some (.ref f_law)))
    (l_law : K.lookup f_law = some ⟨oc_law, od_law, .func (PySem.W.fnOf "law" "law" (defArgs s_law) (defBody s_law) (defScope s_law) .none kV_law dc_law pm_law an_law cd_law ct_law), sl_law⟩)
    (c_law : PySem.W.codeIn K cd_law "law" = true) (k_law : PySem.W.keepIn K (.ref f_law) = true)
    {C_PollError : Addr}
    (aC_PollError : PySem.W.nsIn K mainGlobals "PollError" = some (some (.ref C_PollError)))
    {nm_PollError q_PollError : Str} {N_PollError : Addr} {bs_PollError : List Value} {sn_PollError : List Str} {sub_PollError : List Value} {ab_PollError : Bool} {col_PollError : Option Bool} {dd_PollError : Option Addr} {m0_PollError m1_PollError m2_PollError m3_PollError m5_PollError : Option Value}
    (xL_PollError : K.lookup C_PollError = some (excClassObj nm_PollError q_PollError C_PollError N_PollError bs_PollError [.type "ValueError", .type "Exception", .type "BaseException", .type "object"] true sn_PollError sub_PollError ab_PollError col_PollError dd_PollError m0_PollError m1_PollError m2_PollError m3_PollError m5_PollError "ValueError.__new__"))
    (sa_PollError : PySem.W.findIn K (.ref C_PollError) "__setattr__" = some (some (.builtin "object.__setattr__")))
    (gt_PollError : PySem.W.findIn K (.ref C_PollError) "__getattribute__" = some (some (.builtin "BaseException.__getattribute__")))
    (gg_PollError : PySem.W.findIn K (.ref C_PollError) "__getattr__" = some none)
    (ai_PollError : PySem.W.findIn K (.ref C_PollError) "__init__" = some (some (.ref f_PollError_init)))
    (ti_PollError : PySem.W.typeIn K (.ref f_PollError_init) = some (.type "function"))
    (kC_PollError : PySem.W.keepIn K (.ref C_PollError) = true)
    (eC_PollError : PySem.W.subIn K (.ref C_PollError) (.type "BaseException") = some true)
    (tC_PollError : PySem.W.typeIn K (.ref C_PollError) = some (.type "type"))
    (hC_PollError : PySem.W.hasDictIn K C_PollError = true)
    (nf_PollError_why : PySem.W.findIn K (.ref C_PollError) "why" = some none)
    (rd_PollError : PySem.W.readsIn K C_PollError (.type "type") = true)
    (ga_PollError : PySem.W.specialIn K (.ref C_PollError) "__getattribute__" = some (some (.builtin "type.__getattribute__")))
    (fc_PollError_init : PySem.W.findCls K (.ref C_PollError) (.type "type") "__init__" = some (.val (.ref f_PollError_init)))
    {C_BadClaim : Addr}
    (aC_BadClaim : PySem.W.nsIn K mainGlobals "BadClaim" = some (some (.ref C_BadClaim)))
    {nm_BadClaim q_BadClaim : Str} {N_BadClaim : Addr} {bs_BadClaim : List Value} {sn_BadClaim : List Str} {sub_BadClaim : List Value} {ab_BadClaim : Bool} {col_BadClaim : Option Bool} {dd_BadClaim : Option Addr} {m0_BadClaim m1_BadClaim m2_BadClaim m3_BadClaim m5_BadClaim : Option Value}
    (xL_BadClaim : K.lookup C_BadClaim = some (excClassObj nm_BadClaim q_BadClaim C_BadClaim N_BadClaim bs_BadClaim [.ref C_PollError, .type "ValueError", .type "Exception", .type "BaseException", .type "object"] true sn_BadClaim sub_BadClaim ab_BadClaim col_BadClaim dd_BadClaim m0_BadClaim m1_BadClaim m2_BadClaim m3_BadClaim m5_BadClaim "ValueError.__new__"))
    (sa_BadClaim : PySem.W.findIn K (.ref C_BadClaim) "__setattr__" = some (some (.builtin "object.__setattr__")))
    (gt_BadClaim : PySem.W.findIn K (.ref C_BadClaim) "__getattribute__" = some (some (.builtin "BaseException.__getattribute__")))
    (gg_BadClaim : PySem.W.findIn K (.ref C_BadClaim) "__getattr__" = some none)
    (ai_BadClaim : PySem.W.findIn K (.ref C_BadClaim) "__init__" = some (some (.ref f_PollError_init)))
    (ti_BadClaim : PySem.W.typeIn K (.ref f_PollError_init) = some (.type "function"))
    (kC_BadClaim : PySem.W.keepIn K (.ref C_BadClaim) = true)
    (eC_BadClaim : PySem.W.subIn K (.ref C_BadClaim) (.type "BaseException") = some true)
    (tC_BadClaim : PySem.W.typeIn K (.ref C_BadClaim) = some (.type "type"))
    (hC_BadClaim : PySem.W.hasDictIn K C_BadClaim = true)
    (nf_BadClaim_why : PySem.W.findIn K (.ref C_BadClaim) "why" = some none)
    (ha_BadClaim : PySem.W.findIn K (.ref C_BadClaim) "__class__" = some (some (.builtin "object.__class__")))
    (hn_BadClaim : PySem.W.specialIn K (.builtin "object.__class__") "__get__" = some (some (.builtin "getset_descriptor.__get__")))
    (ht_BadClaim : PySem.W.takesIn K (.builtin "object.__class__") = some true)
    (ob_BadClaim : PySem.W.mroIn K C_BadClaim (.type "object") = some true)
    {C_BadOrder : Addr}
    (aC_BadOrder : PySem.W.nsIn K mainGlobals "BadOrder" = some (some (.ref C_BadOrder)))
    {nm_BadOrder q_BadOrder : Str} {N_BadOrder : Addr} {bs_BadOrder : List Value} {sn_BadOrder : List Str} {sub_BadOrder : List Value} {ab_BadOrder : Bool} {col_BadOrder : Option Bool} {dd_BadOrder : Option Addr} {m0_BadOrder m1_BadOrder m2_BadOrder m3_BadOrder m5_BadOrder : Option Value}
    (xL_BadOrder : K.lookup C_BadOrder = some (excClassObj nm_BadOrder q_BadOrder C_BadOrder N_BadOrder bs_BadOrder [.ref C_PollError, .type "ValueError", .type "Exception", .type "BaseException", .type "object"] true sn_BadOrder sub_BadOrder ab_BadOrder col_BadOrder dd_BadOrder m0_BadOrder m1_BadOrder m2_BadOrder m3_BadOrder m5_BadOrder "ValueError.__new__"))
    (sa_BadOrder : PySem.W.findIn K (.ref C_BadOrder) "__setattr__" = some (some (.builtin "object.__setattr__")))
    (gt_BadOrder : PySem.W.findIn K (.ref C_BadOrder) "__getattribute__" = some (some (.builtin "BaseException.__getattribute__")))
    (gg_BadOrder : PySem.W.findIn K (.ref C_BadOrder) "__getattr__" = some none)
    (ai_BadOrder : PySem.W.findIn K (.ref C_BadOrder) "__init__" = some (some (.ref f_PollError_init)))
    (ti_BadOrder : PySem.W.typeIn K (.ref f_PollError_init) = some (.type "function"))
    (kC_BadOrder : PySem.W.keepIn K (.ref C_BadOrder) = true)
    (eC_BadOrder : PySem.W.subIn K (.ref C_BadOrder) (.type "BaseException") = some true)
    (tC_BadOrder : PySem.W.typeIn K (.ref C_BadOrder) = some (.type "type"))
    (hC_BadOrder : PySem.W.hasDictIn K C_BadOrder = true)
    (nf_BadOrder_why : PySem.W.findIn K (.ref C_BadOrder) "why" = some none)
    {C_BadPoll : Addr}
    (aC_BadPoll : PySem.W.nsIn K mainGlobals "BadPoll" = some (some (.ref C_BadPoll)))
    {nm_BadPoll q_BadPoll : Str} {N_BadPoll : Addr} {bs_BadPoll : List Value} {sn_BadPoll : List Str} {sub_BadPoll : List Value} {ab_BadPoll : Bool} {col_BadPoll : Option Bool} {dd_BadPoll : Option Addr} {m0_BadPoll m1_BadPoll m2_BadPoll m3_BadPoll m5_BadPoll : Option Value}
    (xL_BadPoll : K.lookup C_BadPoll = some (excClassObj nm_BadPoll q_BadPoll C_BadPoll N_BadPoll bs_BadPoll [.ref C_PollError, .type "ValueError", .type "Exception", .type "BaseException", .type "object"] true sn_BadPoll sub_BadPoll ab_BadPoll col_BadPoll dd_BadPoll m0_BadPoll m1_BadPoll m2_BadPoll m3_BadPoll m5_BadPoll "ValueError.__new__"))
    (sa_BadPoll : PySem.W.findIn K (.ref C_BadPoll) "__setattr__" = some (some (.builtin "object.__setattr__")))
    (gt_BadPoll : PySem.W.findIn K (.ref C_BadPoll) "__getattribute__" = some (some (.builtin "BaseException.__getattribute__")))
    (gg_BadPoll : PySem.W.findIn K (.ref C_BadPoll) "__getattr__" = some none)
    (ai_BadPoll : PySem.W.findIn K (.ref C_BadPoll) "__init__" = some (some (.ref f_PollError_init)))
    (ti_BadPoll : PySem.W.typeIn K (.ref f_PollError_init) = some (.type "function"))
    (kC_BadPoll : PySem.W.keepIn K (.ref C_BadPoll) = true)
    (eC_BadPoll : PySem.W.subIn K (.ref C_BadPoll) (.type "BaseException") = some true)
    (tC_BadPoll : PySem.W.typeIn K (.ref C_BadPoll) = some (.type "type"))
    (hC_BadPoll : PySem.W.hasDictIn K C_BadPoll = true)
    (nf_BadPoll_why : PySem.W.findIn K (.ref C_BadPoll) "why" = some none)
    {C_Poll : Addr}
    (aC_Poll : PySem.W.nsIn K mainGlobals "Poll" = some (some (.ref C_Poll)))
    (pg_Poll : PySem.W.plainGet K C_Poll Str.empty = true)
    (hd_Poll : PySem.W.hasDictIn K C_Poll = true)
    (po_Poll : PySem.W.plainOver K C_Poll = true)
    (sa_Poll : PySem.W.findIn K (.ref C_Poll) "__setattr__" = some (some (.builtin "object.__setattr__")))
    (mk_Poll : PySem.W.makesIn K C_Poll = true)
    (kc_Poll : PySem.W.keepIn K (.ref C_Poll) = true)
    (ai_Poll : PySem.W.findIn K (.ref C_Poll) "__init__" = some (some (.ref f_Poll_init)))
    (ii_Poll : PySem.W.isFn K (.ref f_Poll_init) = true)
    (n_Poll_options : PySem.W.findIn K (.ref C_Poll) "options" = some none)
    (n_Poll_voices : PySem.W.findIn K (.ref C_Poll) "voices" = some none)
    (am_Poll_many : PySem.W.findIn K (.ref C_Poll) "many" = some (some (.ref f_Poll_many)))
    (im_Poll_many : PySem.W.isFn K (.ref f_Poll_many) = true)
    (sb_BadClaim_BadClaim : PySem.W.subIn K (.ref C_BadClaim) (.ref C_BadClaim) = some true)
    (kt_BadClaim_BadOrder : PySem.W.kitOne K (.ref C_BadClaim) (.ref C_BadOrder) = some false)
    (kt_BadClaim_ValueError : PySem.W.kitOne K (.ref C_BadClaim) (.type "ValueError") = some true)
    (vV : PySem.W.findCls K (.type "ValueError") (.type "type") "__init__" = some (.val (.builtin "ValueError.__init__")))
    (z_ValueError : PySem.W.nsIn K mainGlobals "ValueError" = some none)
    (z_isinstance : PySem.W.nsIn K mainGlobals "isinstance" = some none)
    (z_bool : PySem.W.nsIn K mainGlobals "bool" = some none)
    (z_int : PySem.W.nsIn K mainGlobals "int" = some none)
    (z_str : PySem.W.nsIn K mainGlobals "str" = some none)
    (z_len : PySem.W.nsIn K mainGlobals "len" = some none)
    (z_all : PySem.W.nsIn K mainGlobals "all" = some none)
    (z_tuple : PySem.W.nsIn K mainGlobals "tuple" = some none)
    (z_enumerate : PySem.W.nsIn K mainGlobals "enumerate" = some none)
    (z_sorted : PySem.W.nsIn K mainGlobals "sorted" = some none)
    (z_set : PySem.W.nsIn K mainGlobals "set" = some none)
    (z_list : PySem.W.nsIn K mainGlobals "list" = some none)
    (z_min : PySem.W.nsIn K mainGlobals "min" = some none)
    (z_sum : PySem.W.nsIn K mainGlobals "sum" = some none)
    (z_range : PySem.W.nsIn K mainGlobals "range" = some none)
    (z_max : PySem.W.nsIn K mainGlobals "max" = some none)
    (z_dict : PySem.W.nsIn K mainGlobals "dict" = some none)
    (z_zip : PySem.W.nsIn K mainGlobals "zip" = some none)
    (z_repr : PySem.W.nsIn K mainGlobals "repr" = some none)
    {t_LONGEST_NAME : Tok} (cc_LONGEST_NAME : PySem.W.nsIn K mainGlobals "LONGEST_NAME" = some (some (.int 8 t_LONGEST_NAME)))
    {t_MOST_OPTIONS : Tok} (cc_MOST_OPTIONS : PySem.W.nsIn K mainGlobals "MOST_OPTIONS" = some (some (.int 6 t_MOST_OPTIONS)))
    {t_GREATEST_MARK : Tok} (cc_GREATEST_MARK : PySem.W.nsIn K mainGlobals "GREATEST_MARK" = some (some (.int 9 t_GREATEST_MARK)))
    {t_MOST_VOICES : Tok} (cc_MOST_VOICES : PySem.W.nsIn K mainGlobals "MOST_VOICES" = some (some (.int 1000000 t_MOST_VOICES)))
    {t_MOST_ROWS : Tok} (cc_MOST_ROWS : PySem.W.nsIn K mainGlobals "MOST_ROWS" = some (some (.int 30 t_MOST_ROWS)))
    : ∃ fd : FuncData, (∀ (s : Shared) (v : Value), BindsTo s fd ⟨[v], []⟩ [("_law_script", v)]) ∧ ∀ base : Heap, K.In base → base.Ns mainGlobals mg → TopOk l.prog w K mg base fa fd "_law_script" (sp_law K) := by
  have e := hfa.symm.trans (PySem.W.mg_of X G a_law)
  cases e
  have F_PollError_init : FunD K "__init__" "PollError.__init__" (defArgs s_PollError_init) (defBody s_PollError_init) (defScope s_PollError_init) [V.str ""] [] f_PollError_init _ := ⟨⟨_, _, _, _, _, _, _, _, _, _, rfl, l_PollError_init, c_PollError_init, .inr ⟨by simp, _, _, [.str "" tk0_PollError_init], _, rfl, lt_PollError_init, rfl, (.cons ⟨_, rfl⟩ Paired.nil)⟩, .inl rfl⟩, k_PollError_init⟩
  obtain ⟨ikb_PollError_init_2, kb_PollError_init_2⟩ := F_PollError_init.kbindsD (ps := ["self", "why"]) 2 [] (fun us its ws => us) (by simp) (fun r1 r2 r3 => r1) (fun _ _ _ _ _ _ _ us its ws l1 l2 l3 => match us, its, ws, l1, l2, l3 with | [_, _], [_], [], _, _, _ => ⟨_, rfl, rfl⟩)
  have F_is_whole := fun_mk (st := s_is_whole) l_is_whole c_is_whole k_is_whole
  have b_is_whole := F_is_whole.binds (ps := ["thing"]) fun _ _ _ _ _ _ us hl => match us, hl with | [_], _ => rfl
  have F_is_name := fun_mk (st := s_is_name) l_is_name c_is_name k_is_name
  have b_is_name := F_is_name.binds (ps := ["thing"]) fun _ _ _ _ _ _ us hl => match us, hl with | [_], _ => rfl
  have F_is_tuple_of := fun_mk (st := s_is_tuple_of) l_is_tuple_of c_is_tuple_of k_is_tuple_of
  have b_is_tuple_of := F_is_tuple_of.binds (ps := ["thing", "many"]) fun _ _ _ _ _ _ us hl => match us, hl with | [_, _], _ => rfl
  have F_are_names := fun_mk (st := s_are_names) l_are_names c_are_names k_are_names
  have b_are_names := F_are_names.binds (ps := ["thing"]) fun _ _ _ _ _ _ us hl => match us, hl with | [_], _ => rfl
  have F_are_options := fun_mk (st := s_are_options) l_are_options c_are_options k_are_options
  have b_are_options := F_are_options.binds (ps := ["thing"]) fun _ _ _ _ _ _ us hl => match us, hl with | [_], _ => rfl
  have F_is_option := fun_mk (st := s_is_option) l_is_option c_is_option k_is_option
  have b_is_option := F_is_option.binds (ps := ["options", "thing"]) fun _ _ _ _ _ _ us hl => match us, hl with | [_, _], _ => rfl
  have F_are_unlike_options := fun_mk (st := s_are_unlike_options) l_are_unlike_options c_are_unlike_options k_are_unlike_options
  have b_are_unlike_options := F_are_unlike_options.binds (ps := ["options", "names"]) fun _ _ _ _ _ _ us hl => match us, hl with | [_, _], _ => rfl
  have F_is_mark := fun_mk (st := s_is_mark) l_is_mark c_is_mark k_is_mark
  have b_is_mark := F_is_mark.binds (ps := ["thing"]) fun _ _ _ _ _ _ us hl => match us, hl with | [_], _ => rfl
  have F_are_tiers := fun_mk (st := s_are_tiers) l_are_tiers c_are_tiers k_are_tiers
  have b_are_tiers := F_are_tiers.binds (ps := ["options", "told"]) fun _ _ _ _ _ _ us hl => match us, hl with | [_, _], _ => rfl
  have F_are_marks := fun_mk (st := s_are_marks) l_are_marks c_are_marks k_are_marks
  have b_are_marks := F_are_marks.binds (ps := ["options", "told"]) fun _ _ _ _ _ _ us hl => match us, hl with | [_, _], _ => rfl
  have F_is_ballot := fun_mk (st := s_is_ballot) l_is_ballot c_is_ballot k_is_ballot
  have b_is_ballot := F_is_ballot.binds (ps := ["options", "thing"]) fun _ _ _ _ _ _ us hl => match us, hl with | [_, _], _ => rfl
  have F_is_row := fun_mk (st := s_is_row) l_is_row c_is_row k_is_row
  have b_is_row := F_is_row.binds (ps := ["options", "thing"]) fun _ _ _ _ _ _ us hl => match us, hl with | [_, _], _ => rfl
  have F_check_poll := fun_mk (st := s_check_poll) l_check_poll c_check_poll k_check_poll
  have b_check_poll := F_check_poll.binds (ps := ["options", "voices"]) fun _ _ _ _ _ _ us hl => match us, hl with | [_, _], _ => rfl
  have kb_check_poll_2 : KBn K (PySem.W.fnOf "check_poll" "check_poll" (defArgs s_check_poll) (defBody s_check_poll) (defScope s_check_poll) .none kV_check_poll dc_check_poll pm_check_poll an_check_poll cd_check_poll ct_check_poll) ["options", "voices"] 2 [] (fun us ws => us) (fun vs zs => vs) := ⟨fun s us ws _ l1 l2 => .of_eq (match us, ws, l1, l2 with | [_, _], [], _, _ => rfl), fun r1 r3 => r1⟩
  have F_Poll_init : FunD K "__init__" "Poll.__init__" (defArgs s_Poll_init) (defBody s_Poll_init) (defScope s_Poll_init) [V.ref e_Poll_init] [] f_Poll_init _ := ⟨⟨_, _, _, _, _, _, _, _, _, _, rfl, l_Poll_init, c_Poll_init, .inr ⟨by simp, _, _, [.ref e_Poll_init], _, rfl, lt_Poll_init, rfl, (.cons rfl Paired.nil)⟩, .inl rfl⟩, k_Poll_init⟩
  obtain ⟨ikb_Poll_init_3, kb_Poll_init_3⟩ := F_Poll_init.kbindsD (ps := ["self", "options", "voices"]) 3 [] (fun us its ws => us) (by simp) (fun r1 r2 r3 => r1) (fun _ _ _ _ _ _ _ us its ws l1 l2 l3 => match us, its, ws, l1, l2, l3 with | [_, _, _], [_], [], _, _, _ => ⟨_, rfl, rfl⟩)
  have F_is_lot_of := fun_mk (st := s_is_lot_of) l_is_lot_of c_is_lot_of k_is_lot_of
  have b_is_lot_of := F_is_lot_of.binds (ps := ["options", "thing", "both"]) fun _ _ _ _ _ _ us hl => match us, hl with | [_, _, _], _ => rfl
  have F_is_claim := fun_mk (st := s_is_claim) l_is_claim c_is_claim k_is_claim
  have b_is_claim := F_is_claim.binds (ps := ["options", "thing"]) fun _ _ _ _ _ _ us hl => match us, hl with | [_, _], _ => rfl
  have F_check_claim := fun_mk (st := s_check_claim) l_check_claim c_check_claim k_check_claim
  have b_check_claim := F_check_claim.binds (ps := ["options", "claim"]) fun _ _ _ _ _ _ us hl => match us, hl with | [_, _], _ => rfl
  have kb_check_claim_2 : KBn K (PySem.W.fnOf "check_claim" "check_claim" (defArgs s_check_claim) (defBody s_check_claim) (defScope s_check_claim) .none kV_check_claim dc_check_claim pm_check_claim an_check_claim cd_check_claim ct_check_claim) ["options", "claim"] 2 [] (fun us ws => us) (fun vs zs => vs) := ⟨fun s us ws _ l1 l2 => .of_eq (match us, ws, l1, l2 with | [_, _], [], _, _ => rfl), fun r1 r3 => r1⟩
  have F_order_ranks := fun_mk (st := s_order_ranks) l_order_ranks c_order_ranks k_order_ranks
  have b_order_ranks := F_order_ranks.binds (ps := ["options", "told"]) fun _ _ _ _ _ _ us hl => match us, hl with | [_, _], _ => rfl
  have F_ranks := fun_mk (st := s_ranks) l_ranks c_ranks k_ranks
  have b_ranks := F_ranks.binds (ps := ["options", "ballot"]) fun _ _ _ _ _ _ us hl => match us, hl with | [_, _], _ => rfl
  have F_tiers := fun_mk (st := s_tiers) l_tiers c_tiers k_tiers
  have b_tiers := F_tiers.binds (ps := ["options", "ballot"]) fun _ _ _ _ _ _ us hl => match us, hl with | [_, _], _ => rfl
  have F_alone_at := fun_mk (st := s_alone_at) l_alone_at c_alone_at k_alone_at
  have b_alone_at := F_alone_at.binds (ps := ["poll", "at"]) fun _ _ _ _ _ _ us hl => match us, hl with | [_, _], _ => rfl
  have F_firsts := fun_mk (st := s_firsts) l_firsts c_firsts k_firsts
  have b_firsts := F_firsts.binds (ps := ["poll"]) fun _ _ _ _ _ _ us hl => match us, hl with | [_], _ => rfl
  have F_ranked := fun_mk (st := s_ranked) l_ranked c_ranked k_ranked
  have b_ranked := F_ranked.binds (ps := ["poll"]) fun _ _ _ _ _ _ us hl => match us, hl with | [_], _ => rfl
  have F_tally_by := fun_mk (st := s_tally_by) l_tally_by c_tally_by k_tally_by
  have b_tally_by := F_tally_by.binds (ps := ["rows", "left"]) fun _ _ _ _ _ _ us hl => match us, hl with | [_, _], _ => rfl
  have F_lead := fun_mk (st := s_lead) l_lead c_lead k_lead
  have b_lead := F_lead.binds (ps := ["poll", "claim"]) fun _ _ _ _ _ _ us hl => match us, hl with | [_, _], _ => rfl
  have kb_lead_2 : KBn K (PySem.W.fnOf "lead" "lead" (defArgs s_lead) (defBody s_lead) (defScope s_lead) .none kV_lead dc_lead pm_lead an_lead cd_lead ct_lead) ["poll", "claim"] 2 [] (fun us ws => us) (fun vs zs => vs) := ⟨fun s us ws _ l1 l2 => .of_eq (match us, ws, l1, l2 with | [_, _], [], _, _ => rfl), fun r1 r3 => r1⟩
  have F_Poll_many := fun_mk (st := s_Poll_many) l_Poll_many c_Poll_many k_Poll_many
  have b_Poll_many := F_Poll_many.binds (ps := ["self"]) fun _ _ _ _ _ _ us hl => match us, hl with | [_], _ => rfl
  have kb_Poll_many_1 : KBn K (PySem.W.fnOf "many" "Poll.many" (defArgs s_Poll_many) (defBody s_Poll_many) (defScope s_Poll_many) .none kV_Poll_many dc_Poll_many pm_Poll_many an_Poll_many cd_Poll_many ct_Poll_many) ["self"] 1 [] (fun us ws => us) (fun vs zs => vs) := ⟨fun s us ws _ l1 l2 => .of_eq (match us, ws, l1, l2 with | [_], [], _, _ => rfl), fun r1 r3 => r1⟩
  have F_check_claims := fun_mk (st := s_check_claims) l_check_claims c_check_claims k_check_claims
  have b_check_claims := F_check_claims.binds (ps := ["options", "claims"]) fun _ _ _ _ _ _ us hl => match us, hl with | [_, _], _ => rfl
  have kb_check_claims_2 : KBn K (PySem.W.fnOf "check_claims" "check_claims" (defArgs s_check_claims) (defBody s_check_claims) (defScope s_check_claims) .none kV_check_claims dc_check_claims pm_check_claims an_check_claims cd_check_claims ct_check_claims) ["options", "claims"] 2 [] (fun us ws => us) (fun vs zs => vs) := ⟨fun s us ws _ l1 l2 => .of_eq (match us, ws, l1, l2 with | [_, _], [], _, _ => rfl), fun r1 r3 => r1⟩
  have F_slack := fun_mk (st := s_slack) l_slack c_slack k_slack
  have b_slack := F_slack.binds (ps := ["poll", "claims"]) fun _ _ _ _ _ _ us hl => match us, hl with | [_, _], _ => rfl
  have kb_slack_2 : KBn K (PySem.W.fnOf "slack" "slack" (defArgs s_slack) (defBody s_slack) (defScope s_slack) .none kV_slack dc_slack pm_slack an_slack cd_slack ct_slack) ["poll", "claims"] 2 [] (fun us ws => us) (fun vs zs => vs) := ⟨fun s us ws _ l1 l2 => .of_eq (match us, ws, l1, l2 with | [_, _], [], _, _ => rfl), fun r1 r3 => r1⟩
  have F_law_mixed := fun_mk (st := s_law_mixed) l_law_mixed c_law_mixed k_law_mixed
  have b_law_mixed := F_law_mixed.binds (ps := ["_law_cell", "_law_k"]) fun _ _ _ _ _ _ us hl => match us, hl with | [_, _], _ => rfl
  have F_law_source := fun_mk (st := s_law_source) l_law_source c_law_source k_law_source
  have b_law_source := F_law_source.binds (ps := ["_law_cell"]) fun _ _ _ _ _ _ us hl => match us, hl with | [_], _ => rfl
  have F_law_take := fun_mk (st := s_law_take) l_law_take c_law_take k_law_take
  have b_law_take := F_law_take.binds (ps := ["_law_source_here", "_law_size"]) fun _ _ _ _ _ _ us hl => match us, hl with | [_, _], _ => rfl
  have F_law_one := fun_mk (st := s_law_one) l_law_one c_law_one k_law_one
  have b_law_one := F_law_one.binds (ps := ["_law_source_here", "_law_some"]) fun _ _ _ _ _ _ us hl => match us, hl with | [_, _], _ => rfl
  have F_law_shuffled := fun_mk (st := s_law_shuffled) l_law_shuffled c_law_shuffled k_law_shuffled
  have b_law_shuffled := F_law_shuffled.binds (ps := ["_law_source_here", "_law_some"]) fun _ _ _ _ _ _ us hl => match us, hl with | [_, _], _ => rfl
  have F_law_names := fun_mk (st := s_law_names) l_law_names c_law_names k_law_names
  have b_law_names := F_law_names.binds (ps := ["_law_source_here", "_law_size"]) fun _ _ _ _ _ _ us hl => match us, hl with | [_, _], _ => rfl
  have F_law_ballot := fun_mk (st := s_law_ballot) l_law_ballot c_law_ballot k_law_ballot
  have b_law_ballot := F_law_ballot.binds (ps := ["_law_source_here", "_law_people"]) fun _ _ _ _ _ _ us hl => match us, hl with | [_, _], _ => rfl
  have F_law_rows := fun_mk (st := s_law_rows) l_law_rows c_law_rows k_law_rows
  have b_law_rows := F_law_rows.binds (ps := ["_law_source_here", "_law_people", "_law_size"]) fun _ _ _ _ _ _ us hl => match us, hl with | [_, _, _], _ => rfl
  have F_law_high := fun_mk (st := s_law_high) l_law_high c_law_high k_law_high
  have b_law_high := F_law_high.binds (ps := ["_law_ballot_here", "_law_name"]) fun _ _ _ _ _ _ us hl => match us, hl with | [_, _], _ => rfl
  have F_law_counts := fun_mk (st := s_law_counts) l_law_counts c_law_counts k_law_counts
  have b_law_counts := F_law_counts.binds (ps := ["_law_rows_here", "_law_left"]) fun _ _ _ _ _ _ us hl => match us, hl with | [_, _], _ => rfl
  have F_law_lead := fun_mk (st := s_law_lead) l_law_lead c_law_lead k_law_lead
  have b_law_lead := F_law_lead.binds (ps := ["_law_rows_here", "_law_people", "_law_claim_here"]) fun _ _ _ _ _ _ us hl => match us, hl with | [_, _, _], _ => rfl
  have F_law_claim := fun_mk (st := s_law_claim) l_law_claim c_law_claim k_law_claim
  have b_law_claim := F_law_claim.binds (ps := ["_law_source_here", "_law_people"]) fun _ _ _ _ _ _ us hl => match us, hl with | [_, _], _ => rfl
  have F_law_no_claim := fun_mk (st := s_law_no_claim) l_law_no_claim c_law_no_claim k_law_no_claim
  have b_law_no_claim := F_law_no_claim.binds (ps := ["_law_source_here", "_law_people"]) fun _ _ _ _ _ _ us hl => match us, hl with | [_, _], _ => rfl
  have F_law_due := fun_mk (st := s_law_due) l_law_due c_law_due k_law_due
  have b_law_due := F_law_due.binds (ps := ["_law_rows_here", "_law_people", "_law_claims"]) fun _ _ _ _ _ _ us hl => match us, hl with | [_, _, _], _ => rfl
  have F_law_is_refused := fun_mk (st := s_law_is_refused) l_law_is_refused c_law_is_refused k_law_is_refused
  have b_law_is_refused := F_law_is_refused.binds (ps := ["_law_poll", "_law_claims"]) fun _ _ _ _ _ _ us hl => match us, hl with | [_, _], _ => rfl
  have F_law := fun_mk (st := s_law) l_law c_law k_law
  have b_law := F_law.binds (ps := ["_law_script"]) fun _ _ _ _ _ _ us hl => match us, hl with | [_], _ => rfl
  have ox_PollError : OexC K C_PollError := ⟨⟨_, _, _, _, _, _, _, _, _, _, _, _, _, _, _, xL_PollError, rfl⟩, sa_PollError, eC_PollError, tC_PollError, kC_PollError⟩
  have ox_BadClaim : OexC K C_BadClaim := ⟨⟨_, _, _, _, _, _, _, _, _, _, _, _, _, _, _, xL_BadClaim, rfl⟩, sa_BadClaim, eC_BadClaim, tC_BadClaim, kC_BadClaim⟩
  have ox_BadOrder : OexC K C_BadOrder := ⟨⟨_, _, _, _, _, _, _, _, _, _, _, _, _, _, _, xL_BadOrder, rfl⟩, sa_BadOrder, eC_BadOrder, tC_BadOrder, kC_BadOrder⟩
  have ox_BadPoll : OexC K C_BadPoll := ⟨⟨_, _, _, _, _, _, _, _, _, _, _, _, _, _, _, xL_BadPoll, rfl⟩, sa_BadPoll, eC_BadPoll, tC_BadPoll, kC_BadPoll⟩
  let T : Txt K mg := {
    f_PollError_init := _, fd_PollError_init := _, F_PollError_init := F_PollError_init, gkb_PollError_init_2 := _, kb_PollError_init_2 := kb_PollError_init_2,
    f_is_whole := _, fd_is_whole := _, F_is_whole := F_is_whole, b_is_whole := b_is_whole, g_is_whole := PySem.W.mg_of X G a_is_whole,
    f_is_name := _, fd_is_name := _, F_is_name := F_is_name, b_is_name := b_is_name, g_is_name := PySem.W.mg_of X G a_is_name,
    f_is_tuple_of := _, fd_is_tuple_of := _, F_is_tuple_of := F_is_tuple_of, b_is_tuple_of := b_is_tuple_of, g_is_tuple_of := PySem.W.mg_of X G a_is_tuple_of,
    f_are_names := _, fd_are_names := _, F_are_names := F_are_names, b_are_names := b_are_names, g_are_names := PySem.W.mg_of X G a_are_names,
    f_are_options := _, fd_are_options := _, F_are_options := F_are_options, b_are_options := b_are_options, g_are_options := PySem.W.mg_of X G a_are_options,
    f_is_option := _, fd_is_option := _, F_is_option := F_is_option, b_is_option := b_is_option, g_is_option := PySem.W.mg_of X G a_is_option,
    f_are_unlike_options := _, fd_are_unlike_options := _, F_are_unlike_options := F_are_unlike_options, b_are_unlike_options := b_are_unlike_options, g_are_unlike_options := PySem.W.mg_of X G a_are_unlike_options,
    f_is_mark := _, fd_is_mark := _, F_is_mark := F_is_mark, b_is_mark := b_is_mark, g_is_mark := PySem.W.mg_of X G a_is_mark,
    f_are_tiers := _, fd_are_tiers := _, F_are_tiers := F_are_tiers, b_are_tiers := b_are_tiers, g_are_tiers := PySem.W.mg_of X G a_are_tiers,
    f_are_marks := _, fd_are_marks := _, F_are_marks := F_are_marks, b_are_marks := b_are_marks, g_are_marks := PySem.W.mg_of X G a_are_marks,
    f_is_ballot := _, fd_is_ballot := _, F_is_ballot := F_is_ballot, b_is_ballot := b_is_ballot, g_is_ballot := PySem.W.mg_of X G a_is_ballot,
    f_is_row := _, fd_is_row := _, F_is_row := F_is_row, b_is_row := b_is_row, g_is_row := PySem.W.mg_of X G a_is_row,
    f_check_poll := _, fd_check_poll := _, F_check_poll := F_check_poll, b_check_poll := b_check_poll, gkb_check_poll_2 := _, kb_check_poll_2 := kb_check_poll_2, g_check_poll := PySem.W.mg_of X G a_check_poll,
    f_Poll_init := _, fd_Poll_init := _, e_Poll_init := _, F_Poll_init := F_Poll_init, gkb_Poll_init_3 := _, kb_Poll_init_3 := kb_Poll_init_3,
    f_is_lot_of := _, fd_is_lot_of := _, F_is_lot_of := F_is_lot_of, b_is_lot_of := b_is_lot_of, g_is_lot_of := PySem.W.mg_of X G a_is_lot_of,
    f_is_claim := _, fd_is_claim := _, F_is_claim := F_is_claim, b_is_claim := b_is_claim, g_is_claim := PySem.W.mg_of X G a_is_claim,
    f_check_claim := _, fd_check_claim := _, F_check_claim := F_check_claim, b_check_claim := b_check_claim, gkb_check_claim_2 := _, kb_check_claim_2 := kb_check_claim_2, g_check_claim := PySem.W.mg_of X G a_check_claim,
    f_order_ranks := _, fd_order_ranks := _, F_order_ranks := F_order_ranks, b_order_ranks := b_order_ranks, g_order_ranks := PySem.W.mg_of X G a_order_ranks,
    f_ranks := _, fd_ranks := _, F_ranks := F_ranks, b_ranks := b_ranks, g_ranks := PySem.W.mg_of X G a_ranks,
    f_tiers := _, fd_tiers := _, F_tiers := F_tiers, b_tiers := b_tiers, g_tiers := PySem.W.mg_of X G a_tiers,
    f_alone_at := _, fd_alone_at := _, F_alone_at := F_alone_at, b_alone_at := b_alone_at, g_alone_at := PySem.W.mg_of X G a_alone_at,
    f_firsts := _, fd_firsts := _, F_firsts := F_firsts, b_firsts := b_firsts, g_firsts := PySem.W.mg_of X G a_firsts,
    f_ranked := _, fd_ranked := _, F_ranked := F_ranked, b_ranked := b_ranked, g_ranked := PySem.W.mg_of X G a_ranked,
    f_tally_by := _, fd_tally_by := _, F_tally_by := F_tally_by, b_tally_by := b_tally_by, g_tally_by := PySem.W.mg_of X G a_tally_by,
    f_lead := _, fd_lead := _, F_lead := F_lead, b_lead := b_lead, gkb_lead_2 := _, kb_lead_2 := kb_lead_2, g_lead := PySem.W.mg_of X G a_lead,
    f_Poll_many := _, fd_Poll_many := _, F_Poll_many := F_Poll_many, b_Poll_many := b_Poll_many, gkb_Poll_many_1 := _, kb_Poll_many_1 := kb_Poll_many_1,
    f_check_claims := _, fd_check_claims := _, F_check_claims := F_check_claims, b_check_claims := b_check_claims, gkb_check_claims_2 := _, kb_check_claims_2 := kb_check_claims_2, g_check_claims := PySem.W.mg_of X G a_check_claims,
    f_slack := _, fd_slack := _, F_slack := F_slack, b_slack := b_slack, gkb_slack_2 := _, kb_slack_2 := kb_slack_2, g_slack := PySem.W.mg_of X G a_slack,
    f_law_mixed := _, fd_law_mixed := _, F_law_mixed := F_law_mixed, b_law_mixed := b_law_mixed, g_law_mixed := PySem.W.mg_of X G a_law_mixed,
    f_law_source := _, fd_law_source := _, F_law_source := F_law_source, b_law_source := b_law_source, g_law_source := PySem.W.mg_of X G a_law_source,
    f_law_take := _, fd_law_take := _, F_law_take := F_law_take, b_law_take := b_law_take, g_law_take := PySem.W.mg_of X G a_law_take,
    f_law_one := _, fd_law_one := _, F_law_one := F_law_one, b_law_one := b_law_one, g_law_one := PySem.W.mg_of X G a_law_one,
    f_law_shuffled := _, fd_law_shuffled := _, F_law_shuffled := F_law_shuffled, b_law_shuffled := b_law_shuffled, g_law_shuffled := PySem.W.mg_of X G a_law_shuffled,
    f_law_names := _, fd_law_names := _, F_law_names := F_law_names, b_law_names := b_law_names, g_law_names := PySem.W.mg_of X G a_law_names,
    f_law_ballot := _, fd_law_ballot := _, F_law_ballot := F_law_ballot, b_law_ballot := b_law_ballot, g_law_ballot := PySem.W.mg_of X G a_law_ballot,
    f_law_rows := _, fd_law_rows := _, F_law_rows := F_law_rows, b_law_rows := b_law_rows, g_law_rows := PySem.W.mg_of X G a_law_rows,
    f_law_high := _, fd_law_high := _, F_law_high := F_law_high, b_law_high := b_law_high, g_law_high := PySem.W.mg_of X G a_law_high,
    f_law_counts := _, fd_law_counts := _, F_law_counts := F_law_counts, b_law_counts := b_law_counts, g_law_counts := PySem.W.mg_of X G a_law_counts,
    f_law_lead := _, fd_law_lead := _, F_law_lead := F_law_lead, b_law_lead := b_law_lead, g_law_lead := PySem.W.mg_of X G a_law_lead,
    f_law_claim := _, fd_law_claim := _, F_law_claim := F_law_claim, b_law_claim := b_law_claim, g_law_claim := PySem.W.mg_of X G a_law_claim,
    f_law_no_claim := _, fd_law_no_claim := _, F_law_no_claim := F_law_no_claim, b_law_no_claim := b_law_no_claim, g_law_no_claim := PySem.W.mg_of X G a_law_no_claim,
    f_law_due := _, fd_law_due := _, F_law_due := F_law_due, b_law_due := b_law_due, g_law_due := PySem.W.mg_of X G a_law_due,
    f_law_is_refused := _, fd_law_is_refused := _, F_law_is_refused := F_law_is_refused, b_law_is_refused := b_law_is_refused, g_law_is_refused := PySem.W.mg_of X G a_law_is_refused,
    f_law := _, fd_law := _, F_law := F_law, b_law := b_law, g_law := PySem.W.mg_of X G a_law,
    C_PollError := _, k_PollError := PySem.W.mg_of X G aC_PollError,
    ox_PollError := ox_PollError, ex_PollError := exK_ve ox_PollError ai_PollError ti_PollError,
    xf_PollError := ⟨gt_PollError, gg_PollError, eC_PollError, hC_PollError⟩,
    nf_PollError_why := nf_PollError_why,
    rd_PollError := rd_PollError, ga_PollError := ga_PollError, fc_PollError_init := fc_PollError_init,
    C_BadClaim := _, k_BadClaim := PySem.W.mg_of X G aC_BadClaim,
    ox_BadClaim := ox_BadClaim, ex_BadClaim := exK_ve ox_BadClaim ai_BadClaim ti_BadClaim,
    xf_BadClaim := ⟨gt_BadClaim, gg_BadClaim, eC_BadClaim, hC_BadClaim⟩,
    nf_BadClaim_why := nf_BadClaim_why,
    ic_BadClaim := ⟨gt_BadClaim, gg_BadClaim, eC_BadClaim, hC_BadClaim, ha_BadClaim, hn_BadClaim, ht_BadClaim, ob_BadClaim⟩,
    C_BadOrder := _, k_BadOrder := PySem.W.mg_of X G aC_BadOrder,
    ox_BadOrder := ox_BadOrder, ex_BadOrder := exK_ve ox_BadOrder ai_BadOrder ti_BadOrder,
    xf_BadOrder := ⟨gt_BadOrder, gg_BadOrder, eC_BadOrder, hC_BadOrder⟩,
    nf_BadOrder_why := nf_BadOrder_why,
    C_BadPoll := _, k_BadPoll := PySem.W.mg_of X G aC_BadPoll,
    ox_BadPoll := ox_BadPoll, ex_BadPoll := exK_ve ox_BadPoll ai_BadPoll ti_BadPoll,
    xf_BadPoll := ⟨gt_BadPoll, gg_BadPoll, eC_BadPoll, hC_BadPoll⟩,
    nf_BadPoll_why := nf_BadPoll_why,
    C_Poll := _, k_Poll := PySem.W.mg_of X G aC_Poll,
    cl_Poll := ⟨pg_Poll, hd_Poll, po_Poll, sa_Poll⟩, mk_Poll := ⟨mk_Poll, ai_Poll, ii_Poll, kc_Poll⟩,
    n_Poll_options := n_Poll_options,
    n_Poll_voices := n_Poll_voices,
    me_Poll_many := ⟨am_Poll_many, im_Poll_many, k_Poll_many⟩,
    te_BadClaim_BadClaim := PySem.W.exm_ref eC_BadClaim hC_BadClaim tC_BadClaim sb_BadClaim_BadClaim,
    kt_BadClaim_ValueError := kt_BadClaim_ValueError,
    kt_BadClaim_BadOrder := kt_BadClaim_BadOrder,
    vV := vV,
    z_ValueError := PySem.W.mg_none_of X G z_ValueError,
    z_isinstance := PySem.W.mg_none_of X G z_isinstance,
    z_bool := PySem.W.mg_none_of X G z_bool,
    z_int := PySem.W.mg_none_of X G z_int,
    z_str := PySem.W.mg_none_of X G z_str,
    z_len := PySem.W.mg_none_of X G z_len,
    z_all := PySem.W.mg_none_of X G z_all,
    z_tuple := PySem.W.mg_none_of X G z_tuple,
    z_enumerate := PySem.W.mg_none_of X G z_enumerate,
    z_sorted := PySem.W.mg_none_of X G z_sorted,
    z_set := PySem.W.mg_none_of X G z_set,
    z_list := PySem.W.mg_none_of X G z_list,
    z_min := PySem.W.mg_none_of X G z_min,
    z_sum := PySem.W.mg_none_of X G z_sum,
    z_range := PySem.W.mg_none_of X G z_range,
    z_max := PySem.W.mg_none_of X G z_max,
    z_dict := PySem.W.mg_none_of X G z_dict,
    z_zip := PySem.W.mg_none_of X G z_zip,
    z_repr := PySem.W.mg_none_of X G z_repr,
    t_LONGEST_NAME := t_LONGEST_NAME, c_LONGEST_NAME := PySem.W.mg_of X G cc_LONGEST_NAME,
    t_MOST_OPTIONS := t_MOST_OPTIONS, c_MOST_OPTIONS := PySem.W.mg_of X G cc_MOST_OPTIONS,
    t_GREATEST_MARK := t_GREATEST_MARK, c_GREATEST_MARK := PySem.W.mg_of X G cc_GREATEST_MARK,
    t_MOST_VOICES := t_MOST_VOICES, c_MOST_VOICES := PySem.W.mg_of X G cc_MOST_VOICES,
    t_MOST_ROWS := t_MOST_ROWS, c_MOST_ROWS := PySem.W.mg_of X G cc_MOST_ROWS }
  exact ⟨PySem.W.fnOf "law" "law" (defArgs s_law) (defBody s_law) (defScope s_law) .none kV_law dc_law pm_law an_law cd_law ct_law, fun s v => .of_eq rfl, fun base _ _ => ok_law T⟩
end Own
open PySem PySem.W PyProof.Rows
set_option maxHeartbeats 0 in
theorem PySem.Challenge.cw_voicefold_k57_slack_counted_holds : PySem.Challenge.rw_voicefold_k57_slack_counted.Holds := by
  w_on; o_law; k_head; (case hw => w_witness2)
  k_fill
  refine Own.top_walk (l := PySem.Challenge.rw_voicefold_k57_slack_counted) (n := 63) (x := "_law_script") (sp := Own.sp_law) rfl (by decide) rfl (fun w h Y => PySem.W.kIn_of Y) ?F (fun _ _ a ns hl hS => ⟨a, ns, rfl, hS, hl, fun _ => rfl⟩)
  case F =>
    intro w mg fa h KX G hmg
    refine' Own.all_mk KX G hmg ?lt_PollError_init ?l_PollError_init ?c_PollError_init ?k_PollError_init ?a_is_whole ?l_is_whole ?c_is_whole ?k_is_whole ?a_is_name ?l_is_name ?c_is_name ?k_is_name ?a_is_tuple_of ?l_is_tuple_of ?c_is_tuple_of ?k_is_tuple_of ?a_are_names ?l_are_names ?c_are_names ?k_are_names ?a_are_options ?l_are_options ?c_are_options ?k_are_options ?a_is_option ?l_is_option ?c_is_option ?k_is_option ?a_are_unlike_options ?l_are_unlike_options ?c_are_unlike_options ?k_are_unlike_options ?a_is_mark ?l_is_mark ?c_is_mark ?k_is_mark ?a_are_tiers ?l_are_tiers ?c_are_tiers ?k_are_tiers ?a_are_marks ?l_are_marks ?c_are_marks ?k_are_marks ?a_is_ballot ?l_is_ballot ?c_is_ballot ?k_is_ballot ?a_is_row ?l_is_row ?c_is_row ?k_is_row ?a_check_poll ?l_check_poll ?c_check_poll ?k_check_poll ?lt_Poll_init ?l_Poll_init ?c_Poll_init ?k_Poll_init ?a_is_lot_of ?l_is_lot_of ?c_is_lot_of ?k_is_lot_of ?a_is_claim ?l_is_claim ?c_is_claim ?k_is_claim ?a_check_claim ?l_check_claim ?c_check_claim ?k_check_claim ?a_order_ranks ?l_order_ranks ?c_order_ranks ?k_order_ranks ?a_ranks ?l_ranks ?c_ranks ?k_ranks ?a_tiers ?l_tiers ?c_tiers ?k_tiers ?a_alone_at ?l_alone_at ?c_alone_at ?k_alone_at ?a_firsts ?l_firsts ?c_firsts ?k_firsts ?a_ranked ?l_ranked ?c_ranked ?k_ranked ?a_tally_by ?l_tally_by ?c_tally_by ?k_tally_by ?a_lead ?l_lead ?c_lead ?k_lead ?l_Poll_many ?c_Poll_many ?k_Poll_many ?a_check_claims ?l_check_claims ?c_check_claims ?k_check_claims ?a_slack ?l_slack ?c_slack ?k_slack ?a_law_mixed ?l_law_mixed ?c_law_mixed ?k_law_mixed ?a_law_source ?l_law_source ?c_law_source ?k_law_source ?a_law_take ?l_law_take ?c_law_take ?k_law_take ?a_law_one ?l_law_one ?c_law_one ?k_law_one ?a_law_shuffled ?l_law_shuffled ?c_law_shuffled ?k_law_shuffled ?a_law_names ?l_law_names ?c_law_names ?k_law_names ?a_law_ballot ?l_law_ballot ?c_law_ballot ?k_law_ballot ?a_law_rows ?l_law_rows ?c_law_rows ?k_law_rows ?a_law_high ?l_law_high ?c_law_high ?k_law_high ?a_law_counts ?l_law_counts ?c_law_counts ?k_law_counts ?a_law_lead ?l_law_lead ?c_law_lead ?k_law_lead ?a_law_claim ?l_law_claim ?c_law_claim ?k_law_claim ?a_law_no_claim ?l_law_no_claim ?c_law_no_claim ?k_law_no_claim ?a_law_due ?l_law_due ?c_law_due ?k_law_due ?a_law_is_refused ?l_law_is_refused ?c_law_is_refused ?k_law_is_refused ?a_law ?l_law ?c_law ?k_law ?aC_PollError ?xL_PollError ?sa_PollError ?gt_PollError ?gg_PollError ?ai_PollError ?ti_PollError ?kC_PollError ?eC_PollError ?tC_PollError ?hC_PollError ?nf_PollError_why ?rd_PollError ?ga_PollError ?fc_PollError_init ?aC_BadClaim ?xL_BadClaim ?sa_BadClaim ?gt_BadClaim ?gg_BadClaim ?ai_BadClaim ?ti_BadClaim ?kC_BadClaim ?eC_BadClaim ?tC_BadClaim ?hC_BadClaim ?nf_BadClaim_why ?ha_BadClaim ?hn_BadClaim ?ht_BadClaim ?ob_BadClaim ?aC_BadOrder ?xL_BadOrder ?sa_BadOrder ?gt_BadOrder ?gg_BadOrder ?ai_BadOrder ?ti_BadOrder ?kC_BadOrder ?eC_BadOrder ?tC_BadOrder ?hC_BadOrder ?nf_BadOrder_why ?aC_BadPoll ?xL_BadPoll ?sa_BadPoll ?gt_BadPoll ?gg_BadPoll ?ai_BadPoll ?ti_BadPoll ?kC_BadPoll ?eC_BadPoll ?tC_BadPoll ?hC_BadPoll ?nf_BadPoll_why ?aC_Poll ?pg_Poll ?hd_Poll ?po_Poll ?sa_Poll ?mk_Poll ?kc_Poll ?ai_Poll ?ii_Poll ?n_Poll_options ?n_Poll_voices ?am_Poll_many ?im_Poll_many ?sb_BadClaim_BadClaim ?kt_BadClaim_BadOrder ?kt_BadClaim_ValueError ?vV ?z_ValueError ?z_isinstance ?z_bool ?z_int ?z_str ?z_len ?z_all ?z_tuple ?z_enumerate ?z_sorted ?z_set ?z_list ?z_min ?z_sum ?z_range ?z_max ?z_dict ?z_zip ?z_repr ?cc_LONGEST_NAME ?cc_MOST_OPTIONS ?cc_GREATEST_MARK ?cc_MOST_VOICES ?cc_MOST_ROWS
    (case a_is_whole => k_is); (case a_is_name => k_is); (case a_is_tuple_of => k_is); (case a_are_names => k_is); (case a_are_options => k_is); (case a_is_option => k_is); (case a_are_unlike_options => k_is); (case a_is_mark => k_is); (case a_are_tiers => k_is); (case a_are_marks => k_is); (case a_is_ballot => k_is); (case a_is_row => k_is); (case a_check_poll => k_is); (case a_is_lot_of => k_is); (case a_is_claim => k_is); (case a_check_claim => k_is); (case a_order_ranks => k_is); (case a_ranks => k_is); (case a_tiers => k_is); (case a_alone_at => k_is); (case a_firsts => k_is); (case a_ranked => k_is); (case a_tally_by => k_is); (case a_lead => k_is); (case a_check_claims => k_is); (case a_slack => k_is); (case a_law_mixed => k_is); (case a_law_source => k_is); (case a_law_take => k_is); (case a_law_one => k_is); (case a_law_shuffled => k_is); (case a_law_names => k_is); (case a_law_ballot => k_is); (case a_law_rows => k_is); (case a_law_high => k_is); (case a_law_counts => k_is); (case a_law_lead => k_is); (case a_law_claim => k_is); (case a_law_no_claim => k_is); (case a_law_due => k_is); (case a_law_is_refused => k_is); (case a_law => k_is); (case aC_PollError => k_is); (case aC_BadClaim => k_is); (case aC_BadOrder => k_is); (case aC_BadPoll => k_is); (case aC_Poll => k_is); (case cc_LONGEST_NAME => k_is); (case cc_MOST_OPTIONS => k_is); (case cc_GREATEST_MARK => k_is); (case cc_MOST_VOICES => k_is); (case cc_MOST_ROWS => k_is); (case ai_PollError => k_is); (case ai_BadClaim => k_is); (case ai_BadOrder => k_is); (case ai_BadPoll => k_is); (case ai_Poll => k_is); (case am_Poll_many => k_is); (case l_PollError_init => k_is); (case l_is_whole => k_is); (case l_is_name => k_is); (case l_is_tuple_of => k_is); (case l_are_names => k_is); (case l_are_options => k_is); (case l_is_option => k_is); (case l_are_unlike_options => k_is); (case l_is_mark => k_is); (case l_are_tiers => k_is); (case l_are_marks => k_is); (case l_is_ballot => k_is); (case l_is_row => k_is); (case l_check_poll => k_is); (case l_Poll_init => k_is); (case l_is_lot_of => k_is); (case l_is_claim => k_is); (case l_check_claim => k_is); (case l_order_ranks => k_is); (case l_ranks => k_is); (case l_tiers => k_is); (case l_alone_at => k_is); (case l_firsts => k_is); (case l_ranked => k_is); (case l_tally_by => k_is); (case l_lead => k_is); (case l_Poll_many => k_is); (case l_check_claims => k_is); (case l_slack => k_is); (case l_law_mixed => k_is); (case l_law_source => k_is); (case l_law_take => k_is); (case l_law_one => k_is); (case l_law_shuffled => k_is); (case l_law_names => k_is); (case l_law_ballot => k_is); (case l_law_rows => k_is); (case l_law_high => k_is); (case l_law_counts => k_is); (case l_law_lead => k_is); (case l_law_claim => k_is); (case l_law_no_claim => k_is); (case l_law_due => k_is); (case l_law_is_refused => k_is); (case l_law => k_is); (case xL_PollError => k_is); (case xL_BadClaim => k_is); (case xL_BadOrder => k_is); (case xL_BadPoll => k_is); (case lt_PollError_init => k_is); (case lt_Poll_init => k_is); (case c_PollError_init => k_is); (case k_PollError_init => k_is); (case c_is_whole => k_is); (case k_is_whole => k_is); (case c_is_name => k_is); (case k_is_name => k_is); (case c_is_tuple_of => k_is); (case k_is_tuple_of => k_is); (case c_are_names => k_is); (case k_are_names => k_is); (case c_are_options => k_is); (case k_are_options => k_is); (case c_is_option => k_is); (case k_is_option => k_is); (case c_are_unlike_options => k_is); (case k_are_unlike_options => k_is); (case c_is_mark => k_is); (case k_is_mark => k_is); (case c_are_tiers => k_is); (case k_are_tiers => k_is); (case c_are_marks => k_is); (case k_are_marks => k_is); (case c_is_ballot => k_is); (case k_is_ballot => k_is); (case c_is_row => k_is); (case k_is_row => k_is); (case c_check_poll => k_is); (case k_check_poll => k_is); (case c_Poll_init => k_is); (case k_Poll_init => k_is); (case c_is_lot_of => k_is); (case k_is_lot_of => k_is); (case c_is_claim => k_is); (case k_is_claim => k_is); (case c_check_claim => k_is); (case k_check_claim => k_is); (case c_order_ranks => k_is); (case k_order_ranks => k_is); (case c_ranks => k_is); (case k_ranks => k_is); (case c_tiers => k_is); (case k_tiers => k_is); (case c_alone_at => k_is); (case k_alone_at => k_is); (case c_firsts => k_is); (case k_firsts => k_is); (case c_ranked => k_is); (case k_ranked => k_is); (case c_tally_by => k_is); (case k_tally_by => k_is); (case c_lead => k_is); (case k_lead => k_is); (case c_Poll_many => k_is); (case k_Poll_many => k_is); (case c_check_claims => k_is); (case k_check_claims => k_is); (case c_slack => k_is); (case k_slack => k_is); (case c_law_mixed => k_is); (case k_law_mixed => k_is); (case c_law_source => k_is); (case k_law_source => k_is); (case c_law_take => k_is); (case k_law_take => k_is); (case c_law_one => k_is); (case k_law_one => k_is); (case c_law_shuffled => k_is); (case k_law_shuffled => k_is); (case c_law_names => k_is); (case k_law_names => k_is); (case c_law_ballot => k_is); (case k_law_ballot => k_is); (case c_law_rows => k_is); (case k_law_rows => k_is); (case c_law_high => k_is); (case k_law_high => k_is); (case c_law_counts => k_is); (case k_law_counts => k_is); (case c_law_lead => k_is); (case k_law_lead => k_is); (case c_law_claim => k_is); (case k_law_claim => k_is); (case c_law_no_claim => k_is); (case k_law_no_claim => k_is); (case c_law_due => k_is); (case k_law_due => k_is); (case c_law_is_refused => k_is); (case k_law_is_refused => k_is); (case c_law => k_is); (case k_law => k_is); (case sa_PollError => k_is); (case gt_PollError => k_is); (case gg_PollError => k_is); (case ti_PollError => k_is); (case kC_PollError => k_is); (case eC_PollError => k_is); (case tC_PollError => k_is); (case hC_PollError => k_is); (case nf_PollError_why => first | k_is | rfl | decide +kernel); (case rd_PollError => k_is); (case ga_PollError => k_is); (case fc_PollError_init => first | k_is | rfl | decide +kernel); (case sa_BadClaim => k_is); (case gt_BadClaim => k_is); (case gg_BadClaim => k_is); (case ti_BadClaim => k_is); (case kC_BadClaim => k_is); (case eC_BadClaim => k_is); (case tC_BadClaim => k_is); (case hC_BadClaim => k_is); (case nf_BadClaim_why => first | k_is | rfl | decide +kernel); (case ha_BadClaim => k_is); (case hn_BadClaim => k_is); (case ht_BadClaim => first | k_is | rfl | decide +kernel); (case ob_BadClaim => k_is); (case sa_BadOrder => k_is); (case gt_BadOrder => k_is); (case gg_BadOrder => k_is); (case ti_BadOrder => k_is); (case kC_BadOrder => k_is); (case eC_BadOrder => k_is); (case tC_BadOrder => k_is); (case hC_BadOrder => k_is); (case nf_BadOrder_why => first | k_is | rfl | decide +kernel); (case sa_BadPoll => k_is); (case gt_BadPoll => k_is); (case gg_BadPoll => k_is); (case ti_BadPoll => k_is); (case kC_BadPoll => k_is); (case eC_BadPoll => k_is); (case tC_BadPoll => k_is); (case hC_BadPoll => k_is); (case nf_BadPoll_why => first | k_is | rfl | decide +kernel); (case pg_Poll => k_is); (case hd_Poll => k_is); (case po_Poll => k_is); (case sa_Poll => k_is); (case mk_Poll => k_is); (case kc_Poll => k_is); (case ii_Poll => k_is); (case n_Poll_options => k_is); (case n_Poll_voices => k_is); (case im_Poll_many => k_is); (case sb_BadClaim_BadClaim => first | k_is | rfl | decide +kernel); (case kt_BadClaim_BadOrder => first | k_is | rfl | decide +kernel); (case kt_BadClaim_ValueError => first | k_is | rfl | decide +kernel); (case vV => first | k_is | rfl | decide +kernel); (case z_ValueError => k_is); (case z_isinstance => k_is); (case z_bool => k_is); (case z_int => k_is); (case z_str => k_is); (case z_len => k_is); (case z_all => k_is); (case z_tuple => k_is); (case z_enumerate => k_is); (case z_sorted => k_is); (case z_set => k_is); (case z_list => k_is); (case z_min => k_is); (case z_sum => k_is); (case z_range => k_is); (case z_max => k_is); (case z_dict => k_is); (case z_zip => k_is); (case z_repr => k_is)
