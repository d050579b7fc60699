import PyProof.Rows.All
import Wide.All
import OpenK.AllK
import Wide.FinOn
import HandS.ForMost
import HandS.Wide
import HandS.IsInst
import HandS.Style
import HandS.Walk
import HandS.LawCells
import HandS.ForExc
import HandS.Defaults
import HandS.ExcInit
import HandS.CallSlots
import HandS.ExcIs
import HandS.ExcField
import HandS.MakeKw
import HandS.Gcd
import PyProof.InstNe
import PySem.Challenge.RW_voicefold_k04_whole_shares_reckoned
set_option Elab.async false
set_option linter.all false
set_option maxRecDepth 100000
set_option maxHeartbeats 4000000
/-! Own rules: exceptions of own classes made with keywords, in any place; calls with keywords that may raise. -/
namespace PySem
namespace OwnK
open PySem.W PySem.Calls PyProof.Rows PySem.HandSPX
section
variable {M : Model} {A : Around} {E : Value → Shared → Prop} {h : Heap} {g : Array GenState} {d : Drawn} {t : Nat} {os : OsState}
variable {nm q : Str} {C N : Addr} {bs bm bmB : List Value} {hd : Bool} {sn : List Str} {sub : List Value} {ab : Bool} {col : Option Bool} {dd : Option Addr} {k0 k1 k2 k3 k5 : Option Value} {B newId initId : String}
/-- the look ahead of the base's __new__, keywords or none -/
theorem newLook (F : ExcBaseFacts B newId initId bmB) (hT : ∀ T : String, bm.contains (.type T) = bmB.contains (.type T)) {rest : List Value} {kw : List (Str × Value)} {Q : Unit → Shared → Prop}
    (hC : h.get? C = some (excClassObj nm q C N bs bm hd sn sub ab col dd k0 k1 k2 k3 k5 newId)) (z : Q () ⟨h, g, d, t, os⟩) : wpAny M A (checkBuiltinCall newId ⟨.ref C :: rest, kw⟩) Q E ⟨h, g, d, t, os⟩ := by
  have hB : (Value.ref C :: bm).contains (.type B) = true := by
    rw [List.contains_cons, hT, F.hasB]
    exact Bool.or_true _
  have st := F.noStar
  simp only [checkBuiltinCall, F.newKind, F.newSplit, F.newRow]
  repeat (first
    | refine wpAny_loadPart_at hC ?_
    | (refine wpAny_isSubtype_exc hC ?_; rw [hB])
    | refine wpAny_staticBase_exc hC ?_
    | refine wpAny_madeBy_exc hC ?_
    | simp only [bne_self_eq_false, Bool.false_eq_true, if_false]
    | wp_step)
  exact z
end
section
variable {prog : Program} {w : World} {A : Around} {E : Value → Shared → Prop} {R : Result → Shared → Prop} {h : Heap} {g : Array GenState} {d : Drawn} {t : Nat} {os : OsState}
variable {nm q : Str} {C N : Addr} {bs bm bmB : List Value} {hd : Bool} {sn : List Str} {sub : List Value} {ab : Bool} {col : Option Bool} {dd : Option Addr} {k0 k1 k2 k3 k5 : Option Value} {B newId initId : String}
theorem newRun (F : ExcBaseFacts B newId initId bmB) (hT : ∀ T : String, bm.contains (.type T) = bmB.contains (.type T)) {rest : List Value} {kw : List (Str × Value)}
    (hC : h.get? C = some (excClassObj nm q C N bs bm hd sn sub ab col dd k0 k1 k2 k3 k5 newId))
    (z : R (.ok (.ret (.ref (h.objs.size + 1)))) ⟨(h.push (kdv_tup rest)).push (excO C h.objs.size), g, d, t, os⟩) (hr : rest.length ≤ sizeLine) :
    codeAny (model prog w) A (.builtin newId ⟨.ref C :: rest, kw⟩) R ⟨h, g, d, t, os⟩ := by
  have en := F.ends
  have hB : (Value.ref C :: bm).contains (.type B) = true := by
    rw [List.contains_cons, hT, F.hasB]
    exact Bool.or_true _
  have hA : (Value.ref C :: bm).contains (.type "AttributeError") = false := by
    rw [List.contains_cons, hT, F.noAttr] <;> rfl
  have hN : (Value.ref C :: bm).contains (.type "NameError") = false := by
    rw [List.contains_cons, hT, F.noName] <;> rfl
  refine codeAny_builtinAt F.entry ?_
  unfold Builtin.«BaseException.__new__»
  refine wpAt_bind ?_
  show wpAt _ _ _ (stack >>= _) _ _ _
  refine wpAt_bind (wpAt_stack fun p below => wpAt_of_wpAny ?_)
  wp_walk
  refine wpAt_of_wpAny ?_
  rw [F.owner]
  repeat (first
    | with_reducible refine wpAny_madeHere_exc F.canon hC ?_
    | with_reducible refine wpAny_loadPart_at hC ?_
    | (with_reducible refine wpAny_isSubtype_exc hC ?_; first | rw [hB] | rw [hA] | rw [hN])
    | wp_step)
  show R _ _
  rw [Heap.size_push]
  exact z
/-- the base's type.__call__, then the own __init__ -/
theorem typeCallRun (F : ExcBaseFacts B newId initId bmB) (hT : ∀ T : String, bm.contains (.type T) = bmB.contains (.type T)) {rest : List Value} {kw : List (Str × Value)} {fI : Addr} {Q : Fin → Shared → Prop}
    (hC : h.get? C = some (excClassObj nm q C N bs bm hd sn sub ab col dd k0 k1 k2 k3 k5 newId))
    (hi : Looks (model prog w) h (typeLookup (.ref C) "__init__") (some (.ref fI))) (hb : ∀ self, Looks (model prog w) h (bindSpecial (.ref fI) self) (.ref fI, [self])) (hr : rest.length ≤ sizeLine)
    (z : codeAny (model prog w) A (.call (.ref fI) ⟨.ref (h.objs.size + 1) :: rest, kw⟩)
      (fun r s' => match r with | .ok (.ret v) => v = .none ∧ Q (.done (.ret (.ref (h.objs.size + 1)))) s' | .ok _ => False | .error e => E e s')
      ⟨(h.push (kdv_tup rest)).push (excO C h.objs.size), g, d, t, os⟩) :
    wpAny (model prog w) A (Builtin.«type.__call__» ⟨.ref C :: rest, kw⟩) Q E ⟨h, g, d, t, os⟩ := by
  repeat (first
    | with_reducible refine wpAny_loadPart_at hC ?_
    | with_reducible refine wpAny_madeBy_exc hC ?_
    | wp_step)
  refine codeAny_call_builtin_code (Code.quiet_builtin _ F.quiet) (newLook F hT hC ?_)
  refine newRun F hT hC ?_ hr
  show wpAny _ _ _ _ _ _
  have kk : ∀ b o, h.get? b = some o → ((h.push (kdv_tup rest)).push (excO C h.objs.size)).get? b = some o := fun b o e => Heap.get?_push_of_some _ (Heap.get?_push_of_some _ e)
  have hC1 := kk _ _ hC
  have hx : ((h.push (kdv_tup rest)).push (excO C h.objs.size)).get? (h.objs.size + 1) = some (excO C h.objs.size) := by heap_get
  have hs : (Value.ref C :: bm).contains (.ref C) = true := by simp
  have i1 := hi.keeps kk
  have b1 := (hb (.ref (h.objs.size + 1))).keeps kk
  unfold isInstance
  repeat (first
    | with_reducible refine wpAny_loadPart_at hx ?_
    | (with_reducible refine wpAny_isSubtype_exc hC1 ?_; rw [hs])
    | wp_step)
  show wpAny _ _ (typeLookup (.ref C) _) _ _ _
  refine i1.at (wpAny_holding (wpAny_bind (b1.at ?_)))
  refine wpAny_bind (wpAny_call (codeAny_mono z fun r s' y => ?_))
  rcases r with e | fl
  · exact y
  cases fl with
  | ret v =>
    obtain ⟨rfl, y⟩ := y
    first
    | exact wpAny_pure (wpAny_pure y)
    | (wp_walk; exact y)
  | next => exact y.elim
  | brk => exact y.elim
  | cont => exact y.elim
theorem excCall (F : ExcBaseFacts B newId initId bmB) (hT : ∀ T : String, bm.contains (.type T) = bmB.contains (.type T)) {rest : List Value} {kw : List (Str × Value)} {fI : Addr}
    (hC : h.get? C = some (excClassObj nm q C N bs bm hd sn sub ab col dd k0 k1 k2 k3 k5 newId))
    (hi : Looks (model prog w) h (typeLookup (.ref C) "__init__") (some (.ref fI))) (hb : ∀ self, Looks (model prog w) h (bindSpecial (.ref fI) self) (.ref fI, [self])) (hr : rest.length ≤ sizeLine)
    (z : codeAny (model prog w) (A.under (.builtin "type.__call__" ⟨.ref C :: rest, kw⟩)) (.call (.ref fI) ⟨.ref (h.objs.size + 1) :: rest, kw⟩) (InitBack (h.objs.size + 1) R)
      ⟨(h.push (kdv_tup rest)).push (excO C h.objs.size), g, d, t, os⟩) :
    codeAny (model prog w) A (.call (.ref C) ⟨rest, kw⟩) R ⟨h, g, d, t, os⟩ := by
  have f1 := tc_lookup
  have f2 := tc_bind (.ref C)
  have ty : (⟨h, g, d, t, os⟩ : Shared).TypeIs (.ref C) "type" := ⟨_, hC, rfl⟩
  refine codeAny_of_tree ?_
  show wpAny _ _ (callAny (.ref C) _) _ _ _
  repeat (any_goals (first
    | assumption
    | with_reducible refine wpAny_loadPart_at hC ?_
    | wp_step))
  refine ⟨rfl, ?_⟩
  have look : ∀ {Q : Unit → Shared → Prop} {E : Value → Shared → Prop} {A : Around}, Q () ⟨h, g, d, t, os⟩ → wpAny (model prog w) A (checkBuiltinCall "type.__call__" ⟨.ref C :: rest, kw⟩) Q E ⟨h, g, d, t, os⟩ := by
    intro Q E A hq
    have f3 := tc_sub
    simp only [checkBuiltinCall, tc_kind, tc_split]
    repeat (any_goals (first
      | assumption
      | with_reducible refine wpAny_loadPart_at hC ?_
      | with_reducible refine wpAny_onRaise ?_
      | with_reducible refine wpAny_map ?_
      | wp_step))
  refine codeAny_call_builtin_at (Code.quiet_builtin _ (by decide +kernel)) entry_typeCall (look (typeCallRun F hT hC hi hb hr ?_))
  refine codeAny_mono z fun r s' y => ?_
  rcases r with e | (v | _ | _ | _) <;> exact y
end
end OwnK
end PySem

namespace Own
open PySem PySem.Spec PyProof.Rows L2
/-! ### calls of any form: positional values and keywords bound by KBn; what is raised is wished for at the caller's slots -/
theorem at0 {X : Cx} (σ : L2.St) : PassesAt CX0 X σ E0 := fun _ _ _ _ _ _ z => z.elim
theorem atE {X : Cx} {W : WX} (tk : Takes X W) (σ : L2.St) : PassesAt (L2.CX X.prog X.w) X σ (WE W σ) := passAt tk σ
theorem atN {X : Cx} (σ : L2.St) : PassesAt (L2.CX X.prog X.w) X σ E0 := fun _ _ _ _ _ _ z => by
  obtain ⟨_, _, _, _, _, _, _, _, _, _, _, _, y⟩ := z
  exact y.elim
section
variable {X : Cx} {CX : CXT} {k n : Nat} {f C : Addr} {fd : FuncData} {ps ks : List Str} {sp : Sp} {E : L2.St → XK} {E1 : XK} {x m : Str} {p pos apos : Pos} {e o : Expr} {es : List Expr} {kws : List Keyword} {t tk : TA} {to : TE}
variable {g : List Value → List Value → List Value} {gV : List V → List V → List V} {pins : List (Addr × Obj)} {σ : L2.St} {H : Hp} {s : Shared} {Q : VK} {us ws : List Value} {vs zs : List V}
theorem runF (F : FnOk X.prog X.w X.K X.mg X.base CX k f fd ps sp) (hr : Room k X.A) (hb : KBn X.K fd ps n ks g gV) (hx : PassesAt CX X σ E1) (I : Inv X pins σ H s) (r : Vals vs us) (rz : Vals zs ws) (l1 : vs.length = n) (l2 : zs.length = ks.length)
    (h : sp (gV vs zs) H Q E1) : wpAny (model X.prog X.w) X.A (call (.ref f) us (ks.zip ws)) (EP X pins σ Q) X.xe s := by
  have b := hb.to s us ws I.kIn (r.length.symm.trans l1) (rz.length.symm.trans l2)
  refine wpAny_call (codeAny_mono (F.run X.A X.stack s H _ (g us ws) (gV vs zs) Q E1 hr I.env0 b (hb.rel r rz) h) fun r s' y => ?_)
  cases r with
  | error e => exact hx pins H s e s' I y
  | ok fl =>
    cases fl with
    | ret u => exact I.after y
    | next => exact y.elim
    | brk => exact y.elim
    | cont => exact y.elim
theorem runM (M : Mk X.K C f) (F : FnOk X.prog X.w X.K X.mg X.base CX k f fd ps sp) (hr : Room (k + 1) X.A) (hb : KBn X.K fd ps (n + 1) ks g gV) (hx : PassesAt CX X σ E1) (I : Inv X pins σ H s) (r : Vals vs us) (rz : Vals zs ws) (l1 : vs.length = n) (l2 : zs.length = ks.length)
    (h : ∀ a dx, H a = none → H dx = none → dx ≠ a → sp (gV (.ref a :: vs) zs) (upd (upd H dx (.own a)) a (.ins C dx [])) (fun v H2 => v = .non ∧ Q (.ref a) H2) E1) :
    wpAny (model X.prog X.w) X.A (call (.ref C) us (ks.zip ws)) (EP X pins σ Q) X.xe s := by
  have hq := h (s.heap.objs.size + 1) s.heap.objs.size (I.hok.fresh (Nat.le_succ _)) (I.hok.fresh (Nat.le_refl _)) (Nat.ne_of_lt (Nat.lt_succ_self _))
  have J := Inv.made (C := C) I
  have r1 : Vals (V.ref (s.heap.objs.size + 1) :: vs) (Value.ref (s.heap.objs.size + 1) :: us) := .cons rfl r
  have n1 : (Value.ref (s.heap.objs.size + 1) :: us).length = n + 1 := r1.length.symm.trans (congrArg Nat.succ l1)
  have b := hb.to _ (Value.ref (s.heap.objs.size + 1) :: us) ws J.kIn n1 (rz.length.symm.trans l2)
  refine wpAny_call (make_map (f := f) I.kIn M.makes M.init (beq_iff_eq.mp M.fn) (codeAny_mono (F.run _ X.stack _ _ _ _ _ _ E1 (hr.make C us (ks.zip ws)) (J.env0.make C us (ks.zip ws)) b (hb.rel r1 rz) hq) fun r s' y => ?_))
  cases r with
  | error e => exact hx pins _ _ e s' J y
  | ok fl =>
    cases fl with
    | ret u =>
      obtain ⟨v, H', I3, rv, ev, q3⟩ := J.after y
      subst ev
      exact ⟨rv, ⟨V.ref (s.heap.objs.size + 1), H', I3, rfl, q3⟩⟩
    | next => exact y.elim
    | brk => exact y.elim
    | cont => exact y.elim
/-- f(e, .., k = v, ..) -/
def tFn (n m : Nat) (sp : Sp) (gV : List V → List V → List V) (E : L2.St → XK) (t tk : TA) : TE := fun σ H Q => t σ H fun vs H1 => tk σ H1 fun zs H2 => vs.length = n ∧ zs.length = m ∧ sp (gV vs zs) H2 Q (E σ)
theorem pf_pos (F : FnOk X.prog X.w X.K X.mg X.base CX k f fd ps sp) (hr : Room k X.A) (hg : Gl X x) (hm : X.mg x = some (.ref f)) (hk : PySem.W.keepIn X.K (.ref f) = true) (hb : KBn X.K fd ps n [] g gV) (hx : ∀ σ, PassesAt CX X σ (E σ)) (ha : PA X (e :: es) t)
    (hdb : (x == ("__debug__" : Str)) = false := by decide) (he : starEach (e :: es) X.env = (false, eval e X.env) :: starEach es X.env := by rfl) (hpl : (backTo pos (starEach es X.env)).any (·.1) = false := by rfl) :
    PE X (.Call (.Name x p) (e :: es) [] pos) (tFn n 0 sp gV E t tNil) := by
  refine ⟨fun pins s σ H Q I h => wpAny_Call_Name_kw (ld_glob I hg hm ?_ hdb)⟩
  exact PySem.W.callWith_K (h₀ := X.base) I.ok.mod.kin hk (thn (ha.run pos pins s σ H _ I h) fun us s1 ⟨vs, H1, I1, r, l1, l2, q⟩ => ⟨I1.kIn, runF (ks := []) F hr hb (hx σ) I1 r (.nil : Vals [] []) l1 rfl q⟩) he hpl
theorem pf_both (F : FnOk X.prog X.w X.K X.mg X.base CX k f fd ps sp) (hr : Room k X.A) (hg : Gl X x) (hm : X.mg x = some (.ref f)) (hk : PySem.W.keepIn X.K (.ref f) = true) (hb : KBn X.K fd ps n ks g gV) (hx : ∀ σ, PassesAt CX X σ (E σ)) (ha : PA X (e :: es) t) (hkw : PK X kws tk)
    (hall : (backToKw pos (keywordEach kws X.env)).all (·.1.isSome) = true := by rfl) (hks : (backToKw pos (keywordEach kws X.env)).filterMap (·.1) = ks := by rfl) (hdb : (x == ("__debug__" : Str)) = false := by decide)
    (he : starEach (e :: es) X.env = (false, eval e X.env) :: starEach es X.env := by rfl) (hpl : ((backTo pos (starEach (e :: es) X.env)).any (·.1) || (backToKw pos (keywordEach kws X.env)).any (·.1.isNone)) = false := by rfl) :
    PE X (.Call (.Name x p) (e :: es) kws pos) (tFn n ks.length sp gV E t tk) := by
  refine ⟨fun pins s σ H Q I h => wpAny_Call_Name_kw (ld_glob I hg hm ?_ hdb)⟩
  refine PySem.W.callWith_KW (h₀ := X.base) I.ok.mod.kin hk hall (thn (ha.run pos pins s σ H _ I h) fun us s1 ⟨vs, H1, I1, r, q⟩ => ?_) hpl he
  refine thn (hkw.run pos pins s1 σ H1 _ I1 q) fun ws s2 ⟨zs, H2, I2, rz, l1, l2, q2⟩ => ⟨I2.kIn, ?_⟩
  rw [hks]
  exact runF F hr hb (hx σ) I2 r rz l1 l2 q2
theorem pf_kw (F : FnOk X.prog X.w X.K X.mg X.base CX k f fd ps sp) (hr : Room k X.A) (hg : Gl X x) (hm : X.mg x = some (.ref f)) (hk : PySem.W.keepIn X.K (.ref f) = true) (hb : KBn X.K fd ps 0 ks g gV) (hx : ∀ σ, PassesAt CX X σ (E σ)) (hkw : PK X kws tk)
    (hall : (backToKw pos (keywordEach kws X.env)).all (·.1.isSome) = true := by rfl) (hks : (backToKw pos (keywordEach kws X.env)).filterMap (·.1) = ks := by rfl) (hdb : (x == ("__debug__" : Str)) = false := by decide)
    (hpl : ((backTo pos (starEach [] X.env)).any (·.1) || (backToKw pos (keywordEach kws X.env)).any (·.1.isNone)) = false := by rfl) :
    PE X (.Call (.Name x p) [] kws pos) (tFn 0 ks.length sp gV E tNil tk) := by
  refine ⟨fun pins s σ H Q I h => wpAny_Call_Name_kw (ld_glob I hg hm ?_ hdb)⟩
  refine PySem.W.callWith_KW0 (h₀ := X.base) I.ok.mod.kin hk hall ?_ hpl
  refine thn (hkw.run pos pins s σ H _ I h) fun ws s2 ⟨zs, H2, I2, rz, l1, l2, q2⟩ => ⟨I2.kIn, ?_⟩
  rw [hks]
  exact runF (us := []) (vs := []) F hr hb (hx σ) I2 .nil rz rfl l2 q2
/-- o.m(e, .., k = v, ..) -/
def tMt (C : Addr) (m : Str) (n j : Nat) (sp : Sp) (gV : List V → List V → List V) (E : L2.St → XK) (to : TE) (t tk : TA) : TE := fun σ H Q => to σ H fun x H0 => ∃ a dx fs, x = .ref a ∧ H0 a = some (.ins C dx fs) ∧ fs.lookup m = none ∧
  t σ H0 fun vs H1 => tk σ H1 fun zs H2 => vs.length = n ∧ zs.length = j ∧ sp (gV (.ref a :: vs) zs) H2 Q (E σ)
theorem pm_pos {pl : Sem Bool} (ho : PE X o to) (c : Cls X.K C) (hm : Meth X.K C m f) (F : FnOk X.prog X.w X.K X.mg X.base CX k f fd ps sp) (hr : Room k X.A) (hb : KBn X.K fd ps (n + 1) [] g gV) (hx : ∀ σ, PassesAt CX X σ (E σ)) (ha : PA X (e :: es) t)
    (hst : starEach (e :: es) X.env = (false, eval e X.env) :: starEach es X.env := by rfl) (hpl : (backTo pos (starEach es X.env)).any (·.1) = false := by rfl)
    (ht : eval (.Call (.Attribute o m apos) (e :: es) [] pos) X.env = (do
      let ov ← eval o X.env
      standAt apos.atName
      let (f, first) ← holding [ov] (getMethod ov m pl)
      callWith pos f first (backTo pos (starEach (e :: es) X.env)) (backToKw pos (keywordEach [] X.env))) := by rfl) :
    PE X (.Call (.Attribute o m apos) (e :: es) [] pos) (tMt C m n 0 sp gV E to t tNil) := by
  refine ⟨fun pins s σ H Q I h => ?_⟩
  refine PySem.W.methodCall_KW (pl := pl) (thn (ho.run pins s σ H _ I h) fun u s1 ⟨x, H1, I1, rx, a, dx, fs, ex, ea, l, q⟩ => ?_) ht
  subst ex
  obtain rfl : u = Value.ref a := rx
  refine getmeth_ok I1 ea c hm l ?_
  exact PySem.W.callWith_K (first := [.ref a]) (h₀ := X.base) I.ok.mod.kin hm.kp (thn (ha.run pos pins s1 σ H1 _ I1 q) fun us s2 ⟨vs, H2, I2, r, l1, l2, q2⟩ =>
    ⟨I2.kIn, runF (ks := []) (us := .ref a :: us) (vs := .ref a :: vs) F hr hb (hx σ) I2 (.cons rfl r) (.nil : Vals [] []) (congrArg Nat.succ l1) rfl q2⟩) hst hpl
theorem pm_kw {pl : Sem Bool} (ho : PE X o to) (c : Cls X.K C) (hm : Meth X.K C m f) (F : FnOk X.prog X.w X.K X.mg X.base CX k f fd ps sp) (hr : Room k X.A) (hb : KBn X.K fd ps 1 ks g gV) (hx : ∀ σ, PassesAt CX X σ (E σ)) (hkw : PK X kws tk)
    (hall : (backToKw pos (keywordEach kws X.env)).all (·.1.isSome) = true := by rfl) (hks : (backToKw pos (keywordEach kws X.env)).filterMap (·.1) = ks := by rfl)
    (hpl : ((backTo pos (starEach [] X.env)).any (·.1) || (backToKw pos (keywordEach kws X.env)).any (·.1.isNone)) = false := by rfl)
    (ht : eval (.Call (.Attribute o m apos) [] kws pos) X.env = (do
      let ov ← eval o X.env
      standAt apos.atName
      let (f, first) ← holding [ov] (getMethod ov m pl)
      callWith pos f first (backTo pos (starEach [] X.env)) (backToKw pos (keywordEach kws X.env))) := by rfl) :
    PE X (.Call (.Attribute o m apos) [] kws pos) (tMt C m 0 ks.length sp gV E to tNil tk) := by
  refine ⟨fun pins s σ H Q I h => ?_⟩
  refine PySem.W.methodCall_KW (pl := pl) (thn (ho.run pins s σ H _ I h) fun u s1 ⟨x, H1, I1, rx, a, dx, fs, ex, ea, l, q⟩ => ?_) ht
  subst ex
  obtain rfl : u = Value.ref a := rx
  refine getmeth_ok I1 ea c hm l ?_
  refine PySem.W.callWith_KW0 (first := [.ref a]) (h₀ := X.base) I.ok.mod.kin hm.kp hall ?_ hpl
  refine thn (hkw.run pos pins s1 σ H1 _ I1 q) fun ws s2 ⟨zs, H2, I2, rz, l1, l2, q2⟩ => ⟨I2.kIn, ?_⟩
  rw [hks]
  exact runF (us := [.ref a]) (vs := [.ref a]) F hr hb (hx σ) I2 (.cons rfl .nil) rz rfl l2 q2
/-- C(e, .., k = v, ..) -/
def tMk (C : Addr) (n m : Nat) (sp : Sp) (gV : List V → List V → List V) (E : L2.St → XK) (t tk : TA) : TE := fun σ H Q => t σ H fun vs H1 => tk σ H1 fun zs H2 => vs.length = n ∧ zs.length = m ∧ ∀ a dx, H2 a = none → H2 dx = none → dx ≠ a →
  sp (gV (.ref a :: vs) zs) (upd (upd H2 dx (.own a)) a (.ins C dx [])) (fun v H3 => v = .non ∧ Q (.ref a) H3) (E σ)
theorem pc_pos (M : Mk X.K C f) (F : FnOk X.prog X.w X.K X.mg X.base CX k f fd ps sp) (hr : Room (k + 1) X.A) (hg : Gl X x) (hm : X.mg x = some (.ref C)) (hb : KBn X.K fd ps (n + 1) [] g gV) (hx : ∀ σ, PassesAt CX X σ (E σ)) (ha : PA X (e :: es) t)
    (hdb : (x == ("__debug__" : Str)) = false := by decide) (he : starEach (e :: es) X.env = (false, eval e X.env) :: starEach es X.env := by rfl) (hpl : (backTo pos (starEach es X.env)).any (·.1) = false := by rfl) :
    PE X (.Call (.Name x p) (e :: es) [] pos) (tMk C n 0 sp gV E t tNil) := by
  refine ⟨fun pins s σ H Q I h => wpAny_Call_Name_kw (ld_glob I hg hm ?_ hdb)⟩
  exact PySem.W.callWith_K (h₀ := X.base) I.ok.mod.kin M.kp (thn (ha.run pos pins s σ H _ I h) fun us s1 ⟨vs, H1, I1, r, l1, l2, q⟩ =>
    ⟨I1.kIn, runM (ks := []) M F hr hb (hx σ) I1 r (.nil : Vals [] []) l1 rfl q⟩) he hpl
theorem pc_both (M : Mk X.K C f) (F : FnOk X.prog X.w X.K X.mg X.base CX k f fd ps sp) (hr : Room (k + 1) X.A) (hg : Gl X x) (hm : X.mg x = some (.ref C)) (hb : KBn X.K fd ps (n + 1) ks g gV) (hx : ∀ σ, PassesAt CX X σ (E σ)) (ha : PA X (e :: es) t) (hkw : PK X kws tk)
    (hall : (backToKw pos (keywordEach kws X.env)).all (·.1.isSome) = true := by rfl) (hks : (backToKw pos (keywordEach kws X.env)).filterMap (·.1) = ks := by rfl) (hdb : (x == ("__debug__" : Str)) = false := by decide)
    (he : starEach (e :: es) X.env = (false, eval e X.env) :: starEach es X.env := by rfl) (hpl : ((backTo pos (starEach (e :: es) X.env)).any (·.1) || (backToKw pos (keywordEach kws X.env)).any (·.1.isNone)) = false := by rfl) :
    PE X (.Call (.Name x p) (e :: es) kws pos) (tMk C n ks.length sp gV E t tk) := by
  refine ⟨fun pins s σ H Q I h => wpAny_Call_Name_kw (ld_glob I hg hm ?_ hdb)⟩
  refine PySem.W.callWith_KW (h₀ := X.base) I.ok.mod.kin M.kp hall (thn (ha.run pos pins s σ H _ I h) fun us s1 ⟨vs, H1, I1, r, q⟩ => ?_) hpl he
  refine thn (hkw.run pos pins s1 σ H1 _ I1 q) fun ws s2 ⟨zs, H2, I2, rz, l1, l2, q2⟩ => ⟨I2.kIn, ?_⟩
  rw [hks]
  exact runM M F hr hb (hx σ) I2 r rz l1 l2 q2
theorem pc_kw (M : Mk X.K C f) (F : FnOk X.prog X.w X.K X.mg X.base CX k f fd ps sp) (hr : Room (k + 1) X.A) (hg : Gl X x) (hm : X.mg x = some (.ref C)) (hb : KBn X.K fd ps 1 ks g gV) (hx : ∀ σ, PassesAt CX X σ (E σ)) (hkw : PK X kws tk)
    (hall : (backToKw pos (keywordEach kws X.env)).all (·.1.isSome) = true := by rfl) (hks : (backToKw pos (keywordEach kws X.env)).filterMap (·.1) = ks := by rfl) (hdb : (x == ("__debug__" : Str)) = false := by decide)
    (hpl : ((backTo pos (starEach [] X.env)).any (·.1) || (backToKw pos (keywordEach kws X.env)).any (·.1.isNone)) = false := by rfl) :
    PE X (.Call (.Name x p) [] kws pos) (tMk C 0 ks.length sp gV E tNil tk) := by
  refine ⟨fun pins s σ H Q I h => wpAny_Call_Name_kw (ld_glob I hg hm ?_ hdb)⟩
  refine PySem.W.callWith_KW0 (h₀ := X.base) I.ok.mod.kin M.kp hall ?_ hpl
  refine thn (hkw.run pos pins s σ H _ I h) fun ws s2 ⟨zs, H2, I2, rz, l1, l2, q2⟩ => ⟨I2.kIn, ?_⟩
  rw [hks]
  exact runM (n := 0) (us := []) (vs := []) M F hr hb (hx σ) I2 .nil rz rfl l2 q2
/-- C0.m(e, ..), the def read off an own class -/
theorem pcl_pos {C0 : Addr} {mc : Value} {pl : Sem Bool} (hg : Gl X x) (hm : X.mg x = some (.ref C0)) (rd : PySem.W.readsIn X.K C0 mc = true) (ga : PySem.W.specialIn X.K (.ref C0) "__getattribute__" = some (some (.builtin "type.__getattribute__")))
    (fc : PySem.W.findCls X.K (.ref C0) mc m = some (.val (.ref f))) (hk : PySem.W.keepIn X.K (.ref f) = true) (F : FnOk X.prog X.w X.K X.mg X.base CX k f fd ps sp) (hr : Room k X.A) (hb : KBn X.K fd ps n [] g gV) (hx : ∀ σ, PassesAt CX X σ (E σ)) (ha : PA X (e :: es) t)
    (hdb : (x == ("__debug__" : Str)) = false := by decide) (hst : starEach (e :: es) X.env = (false, eval e X.env) :: starEach es X.env := by rfl) (hpl : (backTo pos (starEach es X.env)).any (·.1) = false := by rfl)
    (ht : eval (.Call (.Attribute (.Name x p) m apos) (e :: es) [] pos) X.env = (do
      let ov ← eval (.Name x p) X.env
      standAt apos.atName
      let (f, first) ← holding [ov] (getMethod ov m pl)
      callWith pos f first (backTo pos (starEach (e :: es) X.env)) (backToKw pos (keywordEach [] X.env))) := by rfl) :
    PE X (.Call (.Attribute (.Name x p) m apos) (e :: es) [] pos) (tFn n 0 sp gV E t tNil) := by
  refine ⟨fun pins s σ H Q I h => ?_⟩
  refine PySem.W.methodCall_KW (pl := pl) (ld_glob I hg hm ?_ hdb) ht
  refine PySem.W.method_cls I.kIn ga (PySem.W.cls_value I.kIn rd fc rfl ?_)
  exact PySem.W.callWith_K (first := []) (h₀ := X.base) I.ok.mod.kin hk (thn (ha.run pos pins _ σ H _ (I.tok _) h) fun us s2 ⟨vs, H2, I2, r, l1, l2, q2⟩ => ⟨I2.kIn, runF (ks := []) F hr hb (hx σ) I2 r (.nil : Vals [] []) l1 rfl q2⟩) hst hpl
end

/-! ### raise C(..) of an own class over ValueError: positional values, keywords, none -/
section
variable {X : Cx} {CX : CXT} {k n : Nat} {fI C : Addr} {fd : FuncData} {ps ks : List Str} {sp : Sp} {x : Str} {p pos : Pos} {e : Expr} {es : List Expr} {kws : List Keyword} {t tk : TA}
variable {g : List Value → List Value → List Value} {gV : List V → List V → List V} {pins : List (Addr × Obj)} {σ : L2.St} {H : Hp} {s : Shared} {Q : XK} {us ws : List Value} {vs zs : List V}
abbrev NoE : XK := fun _ _ _ => False
/-- what the written part says of C and its __init__ -/
structure ExK (K : PySem.W.Frag) (C fI : Addr) : Prop where
  oex : OexC K C
  init : PySem.W.findIn K (.ref C) "__init__" = some (some (.ref fI))
  fn : PySem.W.typeIn K (.ref fI) = some (.type "function")
def BackX (a C : Addr) (H2 : Hp) (Q : XK) : VK := fun v H3 => v = .non ∧ ∃ (d : Addr) (fs : List (Str × V)), H3 a = some (exo a C (some d)) ∧ H3 d = some (exd d fs) ∧ H2 d = none ∧ Q (.ref C) (some d) (upd (del H3 a) d (.xd fs))
theorem runX (T : ExK X.K C fI) (F : FnOk X.prog X.w X.K X.mg X.base CX k fI fd ps sp) (hr : Room (k + 1) X.A) (hb : KBn X.K fd ps (n + 1) ks g gV) (hx : PassesAt CX X σ NoE) (I : Inv X pins σ H s) (r : Vals vs us) (rz : Vals zs ws) (l1 : vs.length = n) (l2 : zs.length = ks.length) (hn : n ≤ 1000)
    (h : ∀ a, H a = none → sp (gV (.ref a :: vs) zs) (upd H a (exo a C none)) (BackX a C H Q) NoE) : wpAny (model X.prog X.w) X.A (call (.ref C) us (ks.zip ws)) (MkP X pins σ Q) X.xe s := by
  obtain ⟨nm, q, N, bs, bm, sn, sub, ab, col, dd, k0, k1, k2, k3, k5, hC, hbm⟩ := T.oex.cls
  obtain ⟨hp, gs, dr, tk, os⟩ := s
  have sz : hp.objs.size ≤ hp.objs.size + 1 := Nat.le_succ _
  have hq := h (hp.objs.size + 1) (I.hok.fresh sz)
  have kk : ∀ b o, hp.get? b = some o → ((hp.push (PySem.W.kdv_tup us)).push (PySem.HandSPX.excO C hp.objs.size)).get? b = some o := fun b o e => Heap.get?_push_of_some _ (Heap.get?_push_of_some _ e)
  have hat : ((hp.push (PySem.W.kdv_tup us)).push (PySem.HandSPX.excO C hp.objs.size)).get? (hp.objs.size + 1) = some (PySem.HandSPX.excO C hp.objs.size) := by heap_get
  have J : Inv X pins σ (upd H (hp.objs.size + 1) (exo (hp.objs.size + 1) C none)) ⟨(hp.push (PySem.W.kdv_tup us)).push (PySem.HandSPX.excO C hp.objs.size), gs, dr, tk, os⟩ :=
    I.laid (t' := tk) (a := hp.objs.size + 1) (o := exo (hp.objs.size + 1) C none) kk sz (exo_ok hat)
  have r1 : Vals (V.ref (hp.objs.size + 1) :: vs) (Value.ref (hp.objs.size + 1) :: us) := .cons rfl r
  have b := hb.to _ (Value.ref (hp.objs.size + 1) :: us) ws J.kIn (r1.length.symm.trans (congrArg Nat.succ l1)) (rz.length.symm.trans l2)
  have hus : us.length ≤ sizeLine := by
    rw [← r.length, l1, sizeLine_eq]
    omega
  refine wpAny_call (PySem.OwnK.excCall PySem.F.excBase_ValueError (fun Y => PySem.HandSPX.refsVE_contains Y bm hbm) (I.kIn _ _ hC) (PySem.W.looks_findIn I.kIn T.init) (fun self => PySem.W.bind_fn I.kIn self T.fn) hus
    (codeAny_mono (F.run _ X.stack _ _ _ _ _ _ NoE (hr.make C us (ks.zip ws)) (J.env0.make C us (ks.zip ws)) b (hb.rel r1 rz) hq) fun r s' y => ?_))
  cases r with
  | error er => exact hx pins _ _ er s' J y
  | ok fl =>
    cases fl with
    | ret u =>
      obtain ⟨v, H2, os2, bare2, un2, hok2, rv, ev, d, fs, ea, ed, hd1, q2⟩ := y
      subst ev
      obtain ⟨h2, g2, d2, t2, os'⟩ := s'
      exact ⟨rv, mk_end (raises_own T.oex.exC T.oex.tyC) I sz kk un2 hok2 os2 bare2 ea ed hd1 q2⟩
    | next => exact y.elim
    | brk => exact y.elim
    | cont => exact y.elim
def tRz (C : Addr) (n m : Nat) (sp : Sp) (gV : List V → List V → List V) (t tk : TA) : L2.St → Hp → XK → Prop := fun σ H Q => t σ H fun vs H1 => tk σ H1 fun zs H2 => vs.length = n ∧ zs.length = m ∧ n ≤ 1000 ∧
  ∀ a, H2 a = none → sp (gV (.ref a :: vs) zs) (upd H2 a (exo a C none)) (BackX a C H2 Q) NoE
theorem px_pos (T : ExK X.K C fI) (F : FnOk X.prog X.w X.K X.mg X.base CX k fI fd ps sp) (hr : Room (k + 1) X.A) (hg : Gl X x) (hm : X.mg x = some (.ref C)) (hb : KBn X.K fd ps (n + 1) [] g gV) (hx : ∀ σ, PassesAt CX X σ NoE) (ha : PA X (e :: es) t)
    (hdb : (x == ("__debug__" : Str)) = false := by decide) (he : starEach (e :: es) X.env = (false, eval e X.env) :: starEach es X.env := by rfl) (hpl : (backTo pos (starEach es X.env)).any (·.1) = false := by rfl) :
    PMk X (.Call (.Name x p) (e :: es) [] pos) (tRz C n 0 sp gV t tNil) := by
  intro pins s σ H Q I h
  refine wpAny_Call_Name_kw (ld_glob I hg hm ?_ hdb)
  exact PySem.W.callWith_K (h₀ := X.base) I.ok.mod.kin T.oex.kC (thn (ha.run pos pins s σ H _ I h) fun us s1 ⟨vs, H1, I1, r, l1, l2, l3, q⟩ => ⟨I1.kIn, runX (ks := []) T F hr hb (hx σ) I1 r (.nil : Vals [] []) l1 rfl l3 q⟩) he hpl
theorem px_both (T : ExK X.K C fI) (F : FnOk X.prog X.w X.K X.mg X.base CX k fI fd ps sp) (hr : Room (k + 1) X.A) (hg : Gl X x) (hm : X.mg x = some (.ref C)) (hb : KBn X.K fd ps (n + 1) ks g gV) (hx : ∀ σ, PassesAt CX X σ NoE) (ha : PA X (e :: es) t) (hkw : PK X kws tk)
    (hall : (backToKw pos (keywordEach kws X.env)).all (·.1.isSome) = true := by rfl) (hks : (backToKw pos (keywordEach kws X.env)).filterMap (·.1) = ks := by rfl) (hdb : (x == ("__debug__" : Str)) = false := by decide)
    (he : starEach (e :: es) X.env = (false, eval e X.env) :: starEach es X.env := by rfl) (hpl : ((backTo pos (starEach (e :: es) X.env)).any (·.1) || (backToKw pos (keywordEach kws X.env)).any (·.1.isNone)) = false := by rfl) :
    PMk X (.Call (.Name x p) (e :: es) kws pos) (tRz C n ks.length sp gV t tk) := by
  intro pins s σ H Q I h
  refine wpAny_Call_Name_kw (ld_glob I hg hm ?_ hdb)
  refine PySem.W.callWith_KW (h₀ := X.base) I.ok.mod.kin T.oex.kC hall (thn (ha.run pos pins s σ H _ I h) fun us s1 ⟨vs, H1, I1, r, q⟩ => ?_) hpl he
  refine thn (hkw.run pos pins s1 σ H1 _ I1 q) fun ws s2 ⟨zs, H2, I2, rz, l1, l2, l3, q2⟩ => ⟨I2.kIn, ?_⟩
  rw [hks]
  exact runX T F hr hb (hx σ) I2 r rz l1 l2 l3 q2
theorem px_kw (T : ExK X.K C fI) (F : FnOk X.prog X.w X.K X.mg X.base CX k fI fd ps sp) (hr : Room (k + 1) X.A) (hg : Gl X x) (hm : X.mg x = some (.ref C)) (hb : KBn X.K fd ps 1 ks g gV) (hx : ∀ σ, PassesAt CX X σ NoE) (hkw : PK X kws tk)
    (hall : (backToKw pos (keywordEach kws X.env)).all (·.1.isSome) = true := by rfl) (hks : (backToKw pos (keywordEach kws X.env)).filterMap (·.1) = ks := by rfl) (hdb : (x == ("__debug__" : Str)) = false := by decide)
    (hpl : ((backTo pos (starEach [] X.env)).any (·.1) || (backToKw pos (keywordEach kws X.env)).any (·.1.isNone)) = false := by rfl) :
    PMk X (.Call (.Name x p) [] kws pos) (tRz C 0 ks.length sp gV tNil tk) := by
  intro pins s σ H Q I h
  refine wpAny_Call_Name_kw (ld_glob I hg hm ?_ hdb)
  refine PySem.W.callWith_KW0 (h₀ := X.base) I.ok.mod.kin T.oex.kC hall ?_ hpl
  refine thn (hkw.run pos pins s σ H _ I h) fun ws s2 ⟨zs, H2, I2, rz, l1, l2, l3, q2⟩ => ⟨I2.kIn, ?_⟩
  rw [hks]
  exact runX (n := 0) (us := []) (vs := []) T F hr hb (hx σ) I2 .nil rz rfl l2 l3 q2
theorem px_none (T : ExK X.K C fI) (F : FnOk X.prog X.w X.K X.mg X.base CX k fI fd ps sp) (hr : Room (k + 1) X.A) (hg : Gl X x) (hm : X.mg x = some (.ref C)) (hb : KBn X.K fd ps 1 [] g gV) (hx : ∀ σ, PassesAt CX X σ NoE)
    (hdb : (x == ("__debug__" : Str)) = false := by decide) : PMk X (.Call (.Name x p) [] [] pos) (tRz C 0 0 sp gV tNil tNil) := by
  intro pins s σ H Q I h
  refine wpAny_Call_Name_kw (ld_glob I hg hm ?_ hdb)
  obtain ⟨l1, l2, l3, q⟩ := h
  exact PySem.W.callWith_K0 I.kIn T.oex.kC (runX (n := 0) (ks := []) (us := []) (vs := []) T F hr hb (hx σ) I .nil (.nil : Vals [] []) rfl rfl l3 q)
end
end Own

/-! Own rules: == and != where the left one is an instance of a class with an own __eq__ (and object's __ne__), whatever the right one is. -/
namespace PySem
namespace OwnQ
open PySem.W PyProof.Rows Builtin
section
variable {prog : Program} {w : World} {A : Around} {E : Value → Shared → Prop} {s : Shared} {K : Frag} {x C L f : Addr} {h₀ : Heap} {m : Str → Option Value} {ox : Obj} {od : Option Obj} {b tb : Value}
/-- a def's word back, then turned round -/
def NotBack (Q : Value → Shared → Prop) (v : Value) (s' : Shared) : Prop := ∃ r : Bool, v = .bool r ∧ Q (.bool (!r)) s'
theorem neTry {Q : Option Value → Shared → Prop} (hu : A.units + 1 < cLine) (X : K.In s.heap) (I : InstAt s.heap x ox C od) (hn : findIn K (.ref C) "__ne__" = some (some (.builtin "object.__ne__"))) (ho : mroIn K C (.type "object") = some true)
    (hs : findIn K (.ref C) "__eq__" = some (some (.ref f))) (hf : isFn K (.ref f) = true) (h : wpAny (model prog w) A.in1 (call (.ref f) [.ref x, b]) (NotBack fun v s' => Q (some v) s') E s) :
    wpAny (model prog w) A (tryCompare (.ref x) "__ne__" b) Q E s := by
  obtain ⟨hp, gs, dr, tk, os⟩ := s
  have sub : Looks (model prog w) hp (isInstance (.ref x) (.type "object")) true := I.type.andThen (looks_mroIn X ho)
  have entry : ∀ {P : Fin → Shared → Prop}, wpAny (model prog w) A.in1 (call (.ref f) [.ref x, b]) (NotBack fun v s' => P (.done (.ret v)) s') E ⟨hp, gs, dr, tk, os⟩ →
      wpAny (model prog w) A.in1 (Builtin.«object.__ne__» ⟨[.ref x, b], []⟩) P E ⟨hp, gs, dr, tk, os⟩ := by
    intro P hc
    unfold Builtin.«object.__ne__»
    refine wpAny_bind (wpAny_of_eq (a := ((Value.ref x : Value), [b])) (by first | rfl | (simp only [slotArgs]; rfl)) ?_)
    refine wpAny_bind (wpAny_cRoomFor hu ?_)
    refine wpAny_bind (ifBound_K (args := [b]) X I hs hf (wpAny_mono hc (fun v s' y => ?_) fun _ _ e => e))
    obtain ⟨r, rfl, q⟩ := y
    exact wpAny_bind (wpAny_truthy_bool (wpAny_pure q))
  have go : ∀ {P : Option Value → Shared → Prop}, wpAny (model prog w) A.in1 (call (.ref f) [.ref x, b]) (NotBack fun v s' => P (some v) s') E ⟨hp, gs, dr, tk, os⟩ →
      wpAny (model prog w) A (call (.builtin "object.__ne__") ([.ref x] ++ [b]) >>= fun v => pure (some v)) P E ⟨hp, gs, dr, tk, os⟩ := by
    intro P hc
    refine wpAny_bind (wpAny_call (codeAny_call_builtin F.cmp_object.ne.plain F.cmpEntry_ne ?_))
    refine @check_slot (model prog w) _ _ ⟨hp, gs, dr, tk, os⟩ "object.__ne__" "object" "__ne__" (.ref x) [b] [] _ F.cmpKind_ne F.cmpSplit_ne sub (F.cmpArgs_ne _ _) ?_
    refine entry (wpAny_mono hc (fun v s' y => ?_) fun _ _ e => e)
    obtain ⟨r, rfl, q⟩ := y
    exact ⟨r, rfl, wpAny_pure q⟩
  have full : ∀ {P : Option Value → Shared → Prop}, wpAny (model prog w) A.in1 (call (.ref f) [.ref x, b]) (NotBack fun v s' => P (some v) s') E ⟨hp, gs, dr, tk, os⟩ →
      wpAny (model prog w) A (callSpecialIfBound? (.ref x) "__ne__" [b]) P E ⟨hp, gs, dr, tk, os⟩ := by
    intro P hc
    simp only [callSpecialIfBound?, bindSpecialIfBound?]
    refine wpAny_holding (wpAny_bind (wpAny_bind (wpAny_bind (I.type.here ((looks_findIn X hn).here ?_)))))
    refine wpAny_bind (wpAny_askSetting (wpAny_ite ?_))
    split
    · refine wpAny_bind ?_
      rw [F.cmp_object.ne.bind (.ref x)]
      exact wpAny_pure (wpAny_pure (go hc))
    · refine wpAny_tryCatch (wpAny_bind ?_)
      rw [F.cmp_object.ne.bind (.ref x)]
      exact wpAny_pure (wpAny_pure (go hc))
  unfold tryCompare
  refine wpAny_bind (full (wpAny_mono h (fun v s' y => ?_) fun _ _ e => e))
  obtain ⟨r, rfl, q⟩ := y
  exact ⟨r, rfl, wpAny_pure q⟩
theorem neK {Q : Value → Shared → Prop} (hu : A.units + 1 < cLine) (X : K.In s.heap) (I : InstAt s.heap x ox C od) (hb : Looks (model prog w) s.heap (typeOf b) tb) (hnf : notFirst K C tb = true) (hn : findIn K (.ref C) "__ne__" = some (some (.builtin "object.__ne__")))
    (ho : mroIn K C (.type "object") = some true) (hs : findIn K (.ref C) "__eq__" = some (some (.ref f))) (hf : isFn K (.ref f) = true) (h : wpAny (model prog w) A.in1 (call (.ref f) [.ref x, b]) (NotBack Q) E s) :
    wpAny (model prog w) A (richCompare .NotEq (.ref x) b) Q E s := by
  have one : wpAny (model prog w) A (tryCompare (.ref x) "__ne__" b) (fun r s' => ∃ v, r = some v ∧ Q v s') E s := by
    refine neTry hu X I hn ho hs hf (wpAny_mono h (fun v s' y => ?_) fun _ _ e => e)
    obtain ⟨r, rfl, q⟩ := y
    exact ⟨r, rfl, _, rfl, q⟩
  unfold richCompare
  simp only [oneThing_ref]
  refine wpAny_holding (wpAny_bind (wpAny_cRoomFor (Nat.lt_of_succ_lt hu) ?_))
  rw [cmpInfo_NotEq]
  dsimp only
  refine wpAny_bind (I.type.here (wpAny_bind (hb.here ?_)))
  split
  · rename_i z
    have e : subIn K tb (.ref C) = some false := by
      rcases Bool.or_eq_true_iff.mp hnf with e | e
      · rw [beq_iff_eq.mp e] at z; simp at z
      · exact beq_iff_eq.mp e
    refine wpAny_bind ((looks_subIn X e).here ?_)
    simp only [Bool.false_eq_true, if_false]
    refine wpAny_bind (wpAny_mono one (fun r s' y => ?_) fun _ _ e => e)
    obtain ⟨v, rfl, q⟩ := y
    exact wpAny_pure q
  · refine wpAny_bind (wpAny_pure ?_)
    simp only [Bool.false_eq_true, if_false]
    refine wpAny_bind (wpAny_mono one (fun r s' y => ?_) fun _ _ e => e)
    obtain ⟨v, rfl, q⟩ := y
    exact wpAny_pure q
end
end OwnQ
end PySem
namespace Own
open PySem PySem.Spec PyProof.Rows L2
section
variable {X : Cx} {CX : CXT} {k : Nat} {C f : Addr} {fd : FuncData} {ps : List Str} {sp : Sp} {E : XK}
/-- what == and != by an own __eq__ ask of the written part -/
structure EqOwn (K : PySem.W.Frag) (C f : Addr) : Prop where
  eq : PySem.W.findIn K (.ref C) "__eq__" = some (some (.ref f))
  fn : PySem.W.isFn K (.ref f) = true
  ne : PySem.W.findIn K (.ref C) "__ne__" = some (some (.builtin "object.__ne__"))
  ob : PySem.W.mroIn K C (.type "object") = some true
def rEqO (K : PySem.W.Frag) (C : Addr) (sp : Sp) (E : XK) (flip : Bool) : R2 := fun x y H Q => ∃ (a dx : Addr) (fs : List (Str × V)) (t : Value), x = .ref a ∧ H a = some (.ins C dx fs) ∧ TyX K H y t ∧ PySem.W.notFirst K C t = true ∧
  sp [x, y] H (fun v H' => ∃ b : Bool, v = .bl b ∧ Q (.bl (xor flip b)) H') E
theorem looks_ty {pins : List (Addr × Obj)} {σ : L2.St} {H : Hp} {s : Shared} {y : V} {u t : Value} {M : Model} (I : Inv X pins σ H s) (r : RelV y u) (h : TyX X.K H y t) : PySem.W.Looks M s.heap (typeOf u) t := by
  obtain ⟨P, Z, p, _⟩ := kit_of I r h
  exact Z.ty M s.heap I.kIn p
theorem op_eqO (T : EqOwn X.K C f) (F : FnOk X.prog X.w X.K X.mg X.base CX k f fd ps sp) (hr : Room k X.A) (hb : Binds X.K fd ps []) (hx : Passes CX X E) : OpR X (compareOp .Eq) (rEqO X.K C sp E false) := by
  intro pins s σ H x y v u Q I rx ry h
  obtain ⟨a, dx, fs, t, rfl, ha, ht, hn, q⟩ := h
  cases rx
  obtain ⟨mA, J, _⟩ := ins_get I.hok ha
  obtain ⟨od, J, _⟩ := J.look
  obtain ⟨m, hF⟩ := I.fr
  show wpAny _ _ (richCompare .Eq (.ref a) u) _ _ _
  refine PySem.W.cmp_K (op := .Eq) hr.units0 hF I.ok.mod.kin J (looks_ty I ry ht) hn T.eq T.fn ?_
  have r2 : Vals [V.ref a, y] [Value.ref a, u] := .cons rfl (.cons ry .nil)
  refine wpAny_mono (run_fn (us := [.ref a, u]) F hr hb (dvs := []) .nil hx I r2 q) (fun w s' z => ?_) fun _ _ z => z
  obtain ⟨v', H', I', rv, b, ev, q'⟩ := z
  subst ev
  obtain rfl : w = Value.bool b := rv
  have e : xor false b = b := by cases b <;> rfl
  rw [e] at q'
  exact ⟨.bl b, H', I', rfl, q'⟩
theorem op_neO (T : EqOwn X.K C f) (F : FnOk X.prog X.w X.K X.mg X.base CX k f fd ps sp) (hr : Room (k + 1) X.A) (hb : Binds X.K fd ps []) (hx : Passes CX X E) : OpR X (compareOp .NotEq) (rEqO X.K C sp E true) := by
  intro pins s σ H x y v u Q I rx ry h
  obtain ⟨a, dx, fs, t, rfl, ha, ht, hn, q⟩ := h
  cases rx
  obtain ⟨mA, J, _⟩ := ins_get I.hok ha
  obtain ⟨od, J, _⟩ := J.look
  show wpAny _ _ (richCompare .NotEq (.ref a) u) _ _ _
  refine PySem.OwnQ.neK (hu_of hr) I.kIn J (looks_ty I ry ht) hn T.ne T.ob T.eq T.fn ?_
  have r2 : Vals [V.ref a, y] [Value.ref a, u] := .cons rfl (.cons ry .nil)
  have hl : ([Value.ref a, u] : List Value).length = ps.length := (Paired.length r2).symm.trans (F.len _ _ _ _ q)
  have b0 := hb s [.ref a, u] I.kIn (by simpa using hl)
  rw [List.append_nil] at b0
  refine wpAny_call (codeAny_mono (F.run X.A.in1 X.stack s H ⟨[.ref a, u], []⟩ [.ref a, u] [.ref a, y] _ E hr.in1 I.env0.in1 b0 r2 q) fun r s' z => ?_)
  cases r with
  | error e => exact hx pins σ H s e s' I z
  | ok fl =>
    cases fl with
    | ret w =>
      obtain ⟨v', H', I', rv, b, ev, q'⟩ := I.after z
      subst ev
      obtain rfl : w = Value.bool b := rv
      have e : xor true b = !b := by cases b <;> rfl
      rw [e] at q'
      exact ⟨b, rfl, .bl (!b), H', I', rfl, q'⟩
    | next => exact z.elim
    | brk => exact z.elim
    | cont => exact z.elim
end
end Own
namespace Own
open PySem PySem.Spec PyProof.Rows L2
/-- what isinstance asks of an own class -/
structure InsK (K : PySem.W.Frag) (C : Addr) : Prop where
  ha : PySem.W.findIn K (.ref C) "__class__" = some (some (.builtin "object.__class__"))
  hn : PySem.W.specialIn K (.builtin "object.__class__") "__get__" = some (some (.builtin "getset_descriptor.__get__"))
  ht : PySem.W.takesIn K (.builtin "object.__class__") = some true
  hm : PySem.W.mroIn K C (.type "object") = some true
theorem tyx_ins {K : PySem.W.Frag} {H : Hp} {a C dx : Addr} {fs : List (Str × V)} (e : H a = some (.ins C dx fs)) (cl : Cls K C) (i : InsK K C) : TyX K H (.ref a) (.ref C) := .base (.ins e cl i.ha i.hn i.ht i.hm)
end Own

/-! Own rules and mathematics: floor division by any divisor but nought; fractions in lowest terms. -/
namespace Own
open PySem PySem.Spec PyProof.Rows L2
/-- // by a divisor that isn't nought, below 2 ^ 9000 in size -/
def DivOk (_ j : Int) : Prop := j ≠ 0 ∧ j.natAbs.log2 < 9000
section
variable {X : Cx}
theorem op_fdivX : OpR X (binaryOp .FloorDiv) (rI DivOk fun i j => .int (i.fdiv j)) := opI fun i j _ _ _ _ _ hc q => floordiv_int hc.1 q (.inl (PyProof.noPylong_of_log2 hc.2))
end
theorem div_ok {i j : Int} {b : Nat} (h : j ≠ 0) (hb : j.natAbs < 2 ^ b) (h0 : 0 < b) (h9 : b ≤ 9000) : DivOk i j := ⟨h, Nat.lt_of_lt_of_le (PySem.Flt.log2_lt_of h0 hb) h9⟩
/-! ### lowest terms -/
/-- what both are divided by -/
def cg (a b : Int) : Int := if b < 0 then -((Nat.gcd a.natAbs b.natAbs : Nat) : Int) else ((Nat.gcd a.natAbs b.natAbs : Nat) : Int)
def low (a b : Int) : Int × Int := (a.fdiv (cg a b), b.fdiv (cg a b))
/-- in lowest terms, the lower one above 0 -/
def Red (p : Int × Int) : Prop := 0 < p.2 ∧ Nat.gcd p.1.natAbs p.2.natAbs = 1
theorem gcd_pos {a b : Int} (h : b ≠ 0) : 0 < Nat.gcd a.natAbs b.natAbs := Nat.gcd_pos_of_pos_right _ (by omega)
theorem cg_ne {a b : Int} (h : b ≠ 0) : cg a b ≠ 0 := by
  have := gcd_pos (a := a) h
  unfold cg
  split <;> omega
theorem cg_abs (a b : Int) : (cg a b).natAbs = Nat.gcd a.natAbs b.natAbs := by
  unfold cg
  split <;> omega
theorem cg_le {a b : Int} (h : b ≠ 0) : (cg a b).natAbs ≤ b.natAbs := by
  rw [cg_abs]
  exact Nat.le_of_dvd (by omega) (Nat.gcd_dvd_right _ _)
theorem cg_dvd (a b : Int) : cg a b ∣ a ∧ cg a b ∣ b := by
  constructor
  · rw [← Int.natAbs_dvd_natAbs, cg_abs]
    exact Nat.gcd_dvd_left _ _
  · rw [← Int.natAbs_dvd_natAbs, cg_abs]
    exact Nat.gcd_dvd_right _ _
theorem low_eqs (a b : Int) : (low a b).1 * cg a b = a ∧ (low a b).2 * cg a b = b := ⟨Int.fdiv_mul_cancel (cg_dvd a b).1, Int.fdiv_mul_cancel (cg_dvd a b).2⟩
theorem low_red {a b : Int} (h : b ≠ 0) : Red (low a b) := by
  obtain ⟨e1, e2⟩ := low_eqs a b
  have hc := cg_ne (a := a) h
  have n1 : (low a b).1.natAbs * Nat.gcd a.natAbs b.natAbs = a.natAbs := by
    rw [← cg_abs, ← Int.natAbs_mul, e1]
  have n2 : (low a b).2.natAbs * Nat.gcd a.natAbs b.natAbs = b.natAbs := by
    rw [← cg_abs, ← Int.natAbs_mul, e2]
  have g0 := gcd_pos (a := a) h
  refine ⟨?_, ?_⟩
  · generalize hx : (low a b).2 = x at e2
    unfold cg at e2
    generalize hg : ((Nat.gcd a.natAbs b.natAbs : Nat) : Int) = g at e2
    have gp : 0 < g := by omega
    split at e2
    · rename_i hb
      rcases Int.lt_trichotomy 0 x with z | z | z
      · exact z
      · rw [← z, Int.zero_mul] at e2
        omega
      · have : 0 < x * -g := Int.mul_pos_of_neg_of_neg z (by omega)
        omega
    · rename_i hb
      rcases Int.lt_trichotomy 0 x with z | z | z
      · exact z
      · rw [← z, Int.zero_mul] at e2
        omega
      · have : x * g < 0 := Int.mul_neg_of_neg_of_pos z gp
        omega
  · have d1 : (low a b).1.natAbs = a.natAbs / Nat.gcd a.natAbs b.natAbs := (Nat.div_eq_of_eq_mul_left g0 n1.symm).symm
    have d2 : (low a b).2.natAbs = b.natAbs / Nat.gcd a.natAbs b.natAbs := (Nat.div_eq_of_eq_mul_left g0 n2.symm).symm
    rw [d1, d2]
    exact Nat.coprime_div_gcd_div_gcd g0
theorem abs_le_mul {x c a : Int} (hc : c ≠ 0) (e : x * c = a) : x.natAbs ≤ a.natAbs := by
  rw [← e, Int.natAbs_mul]
  exact Nat.le_mul_of_pos_right _ (by omega)
theorem low_le {a b : Int} (h : b ≠ 0) : (low a b).1.natAbs ≤ a.natAbs ∧ (low a b).2.natAbs ≤ b.natAbs :=
  ⟨abs_le_mul (cg_ne h) (low_eqs a b).1, abs_le_mul (cg_ne h) (low_eqs a b).2⟩
/-- lowest terms are one -/
theorem red_one {p q : Int × Int} (hp : Red p) (hq : Red q) (e : p.1 * q.2 = q.1 * p.2) : p = q := by
  obtain ⟨p1, p2⟩ := p
  obtain ⟨q1, q2⟩ := q
  obtain ⟨hp0, hpg⟩ := hp
  obtain ⟨hq0, hqg⟩ := hq
  dsimp only at hp0 hpg hq0 hqg e
  have en : p1.natAbs * q2.natAbs = q1.natAbs * p2.natAbs := by rw [← Int.natAbs_mul, ← Int.natAbs_mul, e]
  have c1 : Nat.Coprime p2.natAbs p1.natAbs := by
    unfold Nat.Coprime
    rw [Nat.gcd_comm]
    exact hpg
  have c2 : Nat.Coprime q2.natAbs q1.natAbs := by
    unfold Nat.Coprime
    rw [Nat.gcd_comm]
    exact hqg
  have d1 : p2.natAbs ∣ q2.natAbs := c1.dvd_of_dvd_mul_left (by rw [en]; exact Nat.dvd_mul_left _ _)
  have d2 : q2.natAbs ∣ p2.natAbs := c2.dvd_of_dvd_mul_left (by rw [← en]; exact Nat.dvd_mul_left _ _)
  have ed := Nat.dvd_antisymm d1 d2
  have e2 : p2 = q2 := by omega
  subst e2
  have e1 : p1 = q1 := Int.eq_of_mul_eq_mul_right (by omega) e
  rw [e1]
theorem low_cross {a b c d : Int} (hb : b ≠ 0) (hd : d ≠ 0) (e : a * d = c * b) : low a b = low c d := by
  refine red_one (low_red hb) (low_red hd) ?_
  obtain ⟨a1, b1⟩ := low_eqs a b
  obtain ⟨c1, d1⟩ := low_eqs c d
  have k1 := cg_ne (a := a) hb
  have k2 := cg_ne (a := c) hd
  generalize cg a b = k at a1 b1 k1
  generalize cg c d = m at c1 d1 k2
  generalize (low a b).1 = x at a1 ⊢
  generalize (low a b).2 = y at b1 ⊢
  generalize (low c d).1 = u at c1 ⊢
  generalize (low c d).2 = v at d1 ⊢
  subst a1 b1 c1 d1
  have e' : (x * v) * (k * m) = (u * y) * (k * m) := by
    have l : x * k * (v * m) = (x * v) * (k * m) := by ac_rfl
    have r : u * m * (y * k) = (u * y) * (k * m) := by ac_rfl
    rw [← l, ← r, e]
  exact Int.eq_of_mul_eq_mul_right (Int.mul_ne_zero k1 k2) e'
theorem low_of_red {p : Int × Int} (h : Red p) : low p.1 p.2 = p := by
  refine red_one (low_red (by have := h.1; omega)) h ?_
  obtain ⟨e1, e2⟩ := low_eqs p.1 p.2
  have k := cg_ne (a := p.1) (b := p.2) (by have := h.1; omega)
  generalize hx : low p.1 p.2 = q at e1 e2
  generalize cg p.1 p.2 = c at e1 e2 k
  refine Int.eq_of_mul_eq_mul_right k ?_
  have l : q.1 * p.2 * c = (q.1 * c) * p.2 := by ac_rfl
  have r : p.1 * q.2 * c = (q.2 * c) * p.1 := by ac_rfl
  rw [l, r, e1, e2, Int.mul_comm]
theorem low_scale {a b k : Int} (hb : b ≠ 0) (hk : k ≠ 0) : low (a * k) (b * k) = low a b :=
  low_cross (Int.mul_ne_zero hb hk) hb (by ac_rfl)
/-! ### sums -/
def addL (p q : Int × Int) : Int × Int := low (p.1 * q.2 + q.1 * p.2) (p.2 * q.2)
theorem addL_red {p q : Int × Int} (hp : 0 < p.2) (hq : 0 < q.2) : Red (addL p q) := low_red (by have := Int.mul_pos hp hq; omega)
theorem addL_swap {p q r : Int × Int} (hp : 0 < p.2) (hq : 0 < q.2) (hr : 0 < r.2) : addL (addL p q) r = addL (addL p r) q := by
  have key : ∀ {x y : Int × Int}, 0 < x.2 → 0 < y.2 → addL (addL p x) y = low (p.1 * x.2 * y.2 + x.1 * p.2 * y.2 + y.1 * (p.2 * x.2)) (p.2 * x.2 * y.2) := by
    intro x y hx hy
    have hpx : p.2 * x.2 ≠ 0 := by have := Int.mul_pos hp hx; omega
    have hb : (addL p x).2 * y.2 ≠ 0 := by have := Int.mul_pos (addL_red hp hx).1 hy; omega
    obtain ⟨e1, e2⟩ := low_eqs (p.1 * x.2 + x.1 * p.2) (p.2 * x.2)
    have k := cg_ne (a := p.1 * x.2 + x.1 * p.2) hpx
    show low ((addL p x).1 * y.2 + y.1 * (addL p x).2) ((addL p x).2 * y.2) = _
    unfold addL at hb ⊢
    generalize hl : low (p.1 * x.2 + x.1 * p.2) (p.2 * x.2) = t at e1 e2 hb
    generalize cg (p.1 * x.2 + x.1 * p.2) (p.2 * x.2) = c at e1 e2 k
    rw [← low_scale hb k]
    have f1 : (t.1 * y.2 + y.1 * t.2) * c = p.1 * x.2 * y.2 + x.1 * p.2 * y.2 + y.1 * (p.2 * x.2) := by
      rw [Int.add_mul]
      have g1 : t.1 * y.2 * c = (t.1 * c) * y.2 := by ac_rfl
      have g2 : y.1 * t.2 * c = y.1 * (t.2 * c) := by ac_rfl
      rw [g1, g2, e1, e2, Int.add_mul]
    have f2 : t.2 * y.2 * c = p.2 * x.2 * y.2 := by
      have g1 : t.2 * y.2 * c = (t.2 * c) * y.2 := by ac_rfl
      rw [g1, e2]
    rw [f1, f2]
  rw [key hq hr, key hr hq]
  have f1 : p.1 * q.2 * r.2 + q.1 * p.2 * r.2 + r.1 * (p.2 * q.2) = p.1 * r.2 * q.2 + r.1 * p.2 * q.2 + q.1 * (p.2 * r.2) := by
    have a1 : p.1 * q.2 * r.2 = p.1 * r.2 * q.2 := by ac_rfl
    have a2 : q.1 * p.2 * r.2 = q.1 * (p.2 * r.2) := by ac_rfl
    have a3 : r.1 * (p.2 * q.2) = r.1 * p.2 * q.2 := by ac_rfl
    rw [a1, a2, a3]
    ac_rfl
  have f2 : p.2 * q.2 * r.2 = p.2 * r.2 * q.2 := by ac_rfl
  rw [f1, f2]
def sumL (l : List (Int × Int)) (e : Int × Int) : Int × Int := l.foldl addL e
theorem sumL_pos : ∀ (l : List (Int × Int)) (e : Int × Int), 0 < e.2 → (∀ p ∈ l, 0 < p.2) → 0 < (sumL l e).2
  | [], _, h, _ => h
  | p :: l, e, h, hl => sumL_pos l (addL e p) (addL_red h (hl p List.mem_cons_self)).1 fun q hq => hl q (List.mem_cons_of_mem _ hq)
theorem sumL_front : ∀ (l : List (Int × Int)) (e p : Int × Int), 0 < e.2 → 0 < p.2 → (∀ q ∈ l, 0 < q.2) → sumL l (addL e p) = addL (sumL l e) p
  | [], _, _, _, _, _ => rfl
  | q :: l, e, p, he, hp, hl => by
    have hq := hl q List.mem_cons_self
    show sumL l (addL (addL e p) q) = addL (sumL l (addL e q)) p
    rw [addL_swap he hp hq, sumL_front l (addL e q) p (addL_red he hq).1 hp fun x hx => hl x (List.mem_cons_of_mem _ hx)]
theorem sumL_rev : ∀ (l : List (Int × Int)) (e : Int × Int), 0 < e.2 → (∀ q ∈ l, 0 < q.2) → sumL l.reverse e = sumL l e
  | [], _, _, _ => rfl
  | p :: l, e, he, hl => by
    have hp := hl p List.mem_cons_self
    have hl' : ∀ q ∈ l, 0 < q.2 := fun q hq => hl q (List.mem_cons_of_mem _ hq)
    rw [List.reverse_cons]
    show List.foldl addL e (l.reverse ++ [p]) = sumL l (addL e p)
    rw [List.foldl_append]
    show addL (sumL l.reverse e) p = _
    rw [sumL_rev l e he hl', sumL_front l e p he hp hl']
/-! ### sizes -/
def Bd (n : Nat) (p : Int × Int) : Prop := p.1.natAbs < 2 ^ n ∧ p.2.natAbs < 2 ^ n
theorem Bd.mono {n m : Nat} {p : Int × Int} (h : Bd n p) (k : n ≤ m) : Bd m p := ⟨Nat.lt_of_lt_of_le h.1 (Nat.pow_le_pow_right (by decide) k), Nat.lt_of_lt_of_le h.2 (Nat.pow_le_pow_right (by decide) k)⟩
theorem bd_low {n : Nat} {a b : Int} (h : b ≠ 0) (ha : a.natAbs < 2 ^ n) (hb : b.natAbs < 2 ^ n) : Bd n (low a b) := ⟨Nat.lt_of_le_of_lt (low_le h).1 ha, Nat.lt_of_le_of_lt (low_le h).2 hb⟩
theorem mul_lt {i j : Int} {a b : Nat} (ha : i.natAbs < 2 ^ a) (hb : j.natAbs < 2 ^ b) : (i * j).natAbs < 2 ^ (a + b) := wide_lt ha hb
theorem add_lt {i j : Int} {a : Nat} (ha : i.natAbs < 2 ^ a) (hb : j.natAbs < 2 ^ a) : (i + j).natAbs < 2 ^ (a + 1) ∧ (i - j).natAbs < 2 ^ (a + 1) := by
  rw [Nat.pow_succ]
  omega
theorem bd_add {n m : Nat} {p q : Int × Int} (hp : Bd n p) (hq : Bd m q) (h1 : 0 < p.2) (h2 : 0 < q.2) : Bd (n + m + 1) (addL p q) := by
  refine bd_low (by have := Int.mul_pos h1 h2; omega) ?_ ?_
  · exact (add_lt (mul_lt hp.1 hq.2) (by rw [Nat.add_comm]; exact mul_lt hq.1 hp.2)).1
  · exact Nat.lt_of_lt_of_le (mul_lt hp.2 hq.2) (Nat.pow_le_pow_right (by decide) (by omega))
/-- Euclid's rest -/
theorem gcd_step {a b : Nat} : Nat.gcd b (a % b) = Nat.gcd a b := by
  rw [Nat.gcd_comm b (a % b), ← Nat.gcd_rec, Nat.gcd_comm]
end Own

/-! Law k04 over the landed shares: by hand, over the layer. -/
namespace Own
open PySem PySem.Spec PyProof.Rows L2
/-! ### the text -/
/-- the k-th block of a statement -/
def blkOf (s : Stmt) (k : Nat) : List Stmt := match s with
  | .If _ a b _ => if k = 0 then a else b
  | .For _ _ a _ _ => a
  | .While _ a _ _ => a
  | .Try a hs _ _ _ => match k, hs with
    | 0, _ => a
    | j + 1, hs => match hs[j]? with
      | some (.ExceptHandler _ _ b _) => b
      | none => []
  | _ => []
abbrev noE : Expr := .Constant .none 0 ⟨0, 0, 0, 0⟩
/-- a statement's own expression; the k-th part of an expression -/
def rootE (s : Stmt) : Expr := match s with
  | .Assign _ v _ => v
  | .Return (some v) _ => v
  | .Expr v _ => v
  | .AugAssign _ _ v _ => v
  | .If t _ _ _ => t
  | .While t _ _ _ => t
  | .For _ i _ _ _ => i
  | _ => noE
def subE (e : Expr) (k : Nat) : Expr := match e with
  | .BinOp a _ b _ => if k = 0 then a else b
  | .BoolOp _ vs _ => vs.getD k noE
  | .UnaryOp _ a _ => a
  | .Compare a _ cs _ => (a :: cs).getD k noE
  | .Call f as kws _ => (f :: (as ++ kws.map (·.value))).getD k noE
  | .Attribute a _ _ => a
  | .Subscript a b _ => if k = 0 then a else b
  | .Tuple es _ _ => es.getD k noE
  | .List es _ => es.getD k noE
  | .IfExp c a b _ => [c, a, b].getD k noE
  | .Slice a b c _ => ([a, b, c].getD k none).getD noE
  | .ListComp a gs _ _ => match gs with
    | g :: _ => ([a, g.iter, g.target] ++ g.ifs).getD k noE
    | [] => noE
  | _ => noE
def lcScope (e : Expr) : Scope := match e with
  | .ListComp _ _ sc _ => sc
  | _ => { kind := .function, names := [], isGenerator := false, isCoroutine := false }
def lcIfs (e : Expr) : List Expr := match e with
  | .ListComp _ (g :: _) _ _ => g.ifs
  | _ => []
def topS (i : Nat) : Stmt := PySem.Challenge.pw_voicefold_k04_whole_shares_reckoned.main.body.getD i (.Pass ⟨0, 0, 0, 0⟩)
abbrev s_PollError_init : Stmt := inClass (topS 2) 0
theorem sc_PollError_init : FnScope ["self", "why"] ["self", "why"] (defScope s_PollError_init) := ⟨rfl, rfl, rfl, by decide +kernel, rfl, by decide +kernel, by decide +kernel⟩
abbrev s_NoShare_init : Stmt := inClass (topS 3) 0
theorem sc_NoShare_init : FnScope ["self", "num", "over"] ["self", "num", "over"] (defScope s_NoShare_init) := ⟨rfl, rfl, rfl, by decide +kernel, rfl, by decide +kernel, by decide +kernel⟩
abbrev s_Share_init : Stmt := inClass (topS 5) 0
theorem sc_Share_init : FnScope ["self", "num", "over", "common"] ["self", "num", "over"] (defScope s_Share_init) := ⟨rfl, rfl, rfl, by decide +kernel, rfl, by decide +kernel, by decide +kernel⟩
abbrev s_Share_eq : Stmt := inClass (topS 5) 1
theorem sc_Share_eq : FnScope ["self", "other"] ["self", "other"] (defScope s_Share_eq) := ⟨rfl, rfl, rfl, by decide +kernel, rfl, by decide +kernel, by decide +kernel⟩
abbrev s_Share_plus : Stmt := inClass (topS 5) 4
theorem sc_Share_plus : FnScope ["self", "other"] ["self", "other"] (defScope s_Share_plus) := ⟨rfl, rfl, rfl, by decide +kernel, rfl, by decide +kernel, by decide +kernel⟩
abbrev s_Share_less : Stmt := inClass (topS 5) 5
theorem sc_Share_less : FnScope ["self", "other"] ["self", "other"] (defScope s_Share_less) := ⟨rfl, rfl, rfl, by decide +kernel, rfl, by decide +kernel, by decide +kernel⟩
abbrev s_Share_times : Stmt := inClass (topS 5) 6
theorem sc_Share_times : FnScope ["self", "other"] ["self", "other"] (defScope s_Share_times) := ⟨rfl, rfl, rfl, by decide +kernel, rfl, by decide +kernel, by decide +kernel⟩
abbrev s_Share_by : Stmt := inClass (topS 5) 7
theorem sc_Share_by : FnScope ["self", "other"] ["self", "other"] (defScope s_Share_by) := ⟨rfl, rfl, rfl, by decide +kernel, rfl, by decide +kernel, by decide +kernel⟩
abbrev s_Share_below : Stmt := inClass (topS 5) 8
theorem sc_Share_below : FnScope ["self", "other"] ["self", "other"] (defScope s_Share_below) := ⟨rfl, rfl, rfl, by decide +kernel, rfl, by decide +kernel, by decide +kernel⟩
abbrev s_shares_sum : Stmt := topS 6
theorem sc_shares_sum : FnScope ["shares", "total", "share"] ["shares"] (defScope s_shares_sum) := ⟨rfl, rfl, rfl, by decide +kernel, rfl, by decide +kernel, by decide +kernel⟩
abbrev s_law_cell_at : Stmt := topS 8
theorem sc_law_cell_at : FnScope ["_law_script", "_law_k"] ["_law_script", "_law_k"] (defScope s_law_cell_at) := ⟨rfl, rfl, rfl, by decide +kernel, rfl, by decide +kernel, by decide +kernel⟩
abbrev s_law_well : Stmt := topS 9
theorem sc_law_well : FnScope ["_law_cell"] ["_law_cell"] (defScope s_law_well) := ⟨rfl, rfl, rfl, by decide +kernel, rfl, by decide +kernel, by decide +kernel⟩
abbrev s_law_draw : Stmt := topS 10
theorem sc_law_draw : FnScope ["_law_well_here", "_law_size", "_law_digit", "_law_mix"] ["_law_well_here", "_law_size"] (defScope s_law_draw) := ⟨rfl, rfl, rfl, by decide +kernel, rfl, by decide +kernel, by decide +kernel⟩
abbrev s_law_lowest : Stmt := topS 12
theorem sc_law_lowest : FnScope ["_law_top", "_law_ground", "_law_one_here", "_law_rest"] ["_law_top", "_law_ground"] (defScope s_law_lowest) := ⟨rfl, rfl, rfl, by decide +kernel, rfl, by decide +kernel, by decide +kernel⟩
abbrev s_law_pair : Stmt := topS 13
theorem sc_law_pair : FnScope ["_law_well_here", "_law_top", "_law_ground"] ["_law_well_here"] (defScope s_law_pair) := ⟨rfl, rfl, rfl, by decide +kernel, rfl, by decide +kernel, by decide +kernel⟩
abbrev s_law_by : Stmt := topS 14
theorem sc_law_by : FnScope ["_law_one_here", "_law_second", "_law_found", "_law_share", "e"] ["_law_one_here", "_law_second"] (defScope s_law_by) := ⟨rfl, rfl, rfl, by decide +kernel, rfl, by decide +kernel, by decide +kernel⟩
abbrev s_law_two_right : Stmt := topS 15
theorem sc_law_two_right : FnScope ["_law_pairs", "_law_shares", "_law_k", "_law_j", "_law_a", "_law_b", "_law_one_here", "_law_second", "_law_found", "_law_told", "_law_plus", "_law_less", "_law_times", "_law_share"] ["_law_pairs", "_law_shares", "_law_k", "_law_j"] (defScope s_law_two_right) := ⟨rfl, rfl, rfl, by decide +kernel, rfl, by decide +kernel, by decide +kernel⟩
abbrev s_law : Stmt := topS 16
theorem sc_law : FnScope ["_law_script", "_law_cell", "_law_well_here", "_law_pairs", "_law_shares", "_law_total", "_law_a", "_law_b", "_law_some", "_law_found", "_law_k", "_law_j", "_law_share"] ["_law_script"] (defScope s_law) := ⟨rfl, rfl, rfl, by decide +kernel, rfl, by decide +kernel, by decide +kernel⟩
structure Txt (K : PySem.W.Frag) (mg : Str → Option Value) where
  f_PollError_init : Addr
  fd_PollError_init : FuncData
  F_PollError_init : FunD K "__init__" "PollError.__init__" (defArgs s_PollError_init) (defBody s_PollError_init) (defScope s_PollError_init) [.str ""] [] f_PollError_init fd_PollError_init
  gkb_PollError_init_2 : List Value → List Value → List Value
  kb_PollError_init_2 : KBn K fd_PollError_init ["self", "why"] 2 [] gkb_PollError_init_2 (fun vs zs => vs)
  f_NoShare_init : Addr
  fd_NoShare_init : FuncData
  F_NoShare_init : Fun K "__init__" "NoShare.__init__" s_NoShare_init f_NoShare_init fd_NoShare_init
  gkb_NoShare_init_2_over : List Value → List Value → List Value
  kb_NoShare_init_2_over : KBn K fd_NoShare_init ["self", "num", "over"] 2 ["over"] gkb_NoShare_init_2_over (fun vs zs => vs ++ ((zs.drop 0).take 1))
  f_Share_init : Addr
  fd_Share_init : FuncData
  F_Share_init : FunD K "__init__" "Share.__init__" (defArgs s_Share_init) (defBody s_Share_init) (defScope s_Share_init) [.int 1] [] f_Share_init fd_Share_init
  gkb_Share_init_3 : List Value → List Value → List Value
  kb_Share_init_3 : KBn K fd_Share_init ["self", "num", "over"] 3 [] gkb_Share_init_3 (fun vs zs => vs)
  gkb_Share_init_2 : List Value → List Value → List Value
  kb_Share_init_2 : KBn K fd_Share_init ["self", "num", "over"] 2 [] gkb_Share_init_2 (fun vs zs => vs ++ ([V.int 1]))
  f_Share_eq : Addr
  fd_Share_eq : FuncData
  F_Share_eq : Fun K "__eq__" "Share.__eq__" s_Share_eq f_Share_eq fd_Share_eq
  b_Share_eq : Binds K fd_Share_eq ["self", "other"] []
  f_Share_plus : Addr
  fd_Share_plus : FuncData
  F_Share_plus : Fun K "plus" "Share.plus" s_Share_plus f_Share_plus fd_Share_plus
  b_Share_plus : Binds K fd_Share_plus ["self", "other"] []
  gkb_Share_plus_2 : List Value → List Value → List Value
  kb_Share_plus_2 : KBn K fd_Share_plus ["self", "other"] 2 [] gkb_Share_plus_2 (fun vs zs => vs)
  gkb_Share_plus_1_other : List Value → List Value → List Value
  kb_Share_plus_1_other : KBn K fd_Share_plus ["self", "other"] 1 ["other"] gkb_Share_plus_1_other (fun vs zs => vs ++ ((zs.drop 0).take 1))
  f_Share_less : Addr
  fd_Share_less : FuncData
  F_Share_less : Fun K "less" "Share.less" s_Share_less f_Share_less fd_Share_less
  b_Share_less : Binds K fd_Share_less ["self", "other"] []
  gkb_Share_less_1_other : List Value → List Value → List Value
  kb_Share_less_1_other : KBn K fd_Share_less ["self", "other"] 1 ["other"] gkb_Share_less_1_other (fun vs zs => vs ++ ((zs.drop 0).take 1))
  gkb_Share_less_2 : List Value → List Value → List Value
  kb_Share_less_2 : KBn K fd_Share_less ["self", "other"] 2 [] gkb_Share_less_2 (fun vs zs => vs)
  f_Share_times : Addr
  fd_Share_times : FuncData
  F_Share_times : Fun K "times" "Share.times" s_Share_times f_Share_times fd_Share_times
  b_Share_times : Binds K fd_Share_times ["self", "other"] []
  gkb_Share_times_2 : List Value → List Value → List Value
  kb_Share_times_2 : KBn K fd_Share_times ["self", "other"] 2 [] gkb_Share_times_2 (fun vs zs => vs)
  gkb_Share_times_1_other : List Value → List Value → List Value
  kb_Share_times_1_other : KBn K fd_Share_times ["self", "other"] 1 ["other"] gkb_Share_times_1_other (fun vs zs => vs ++ ((zs.drop 0).take 1))
  f_Share_by : Addr
  fd_Share_by : FuncData
  F_Share_by : Fun K "by" "Share.by" s_Share_by f_Share_by fd_Share_by
  b_Share_by : Binds K fd_Share_by ["self", "other"] []
  gkb_Share_by_2 : List Value → List Value → List Value
  kb_Share_by_2 : KBn K fd_Share_by ["self", "other"] 2 [] gkb_Share_by_2 (fun vs zs => vs)
  gkb_Share_by_1_other : List Value → List Value → List Value
  kb_Share_by_1_other : KBn K fd_Share_by ["self", "other"] 1 ["other"] gkb_Share_by_1_other (fun vs zs => vs ++ ((zs.drop 0).take 1))
  f_Share_below : Addr
  fd_Share_below : FuncData
  F_Share_below : Fun K "below" "Share.below" s_Share_below f_Share_below fd_Share_below
  b_Share_below : Binds K fd_Share_below ["self", "other"] []
  gkb_Share_below_2 : List Value → List Value → List Value
  kb_Share_below_2 : KBn K fd_Share_below ["self", "other"] 2 [] gkb_Share_below_2 (fun vs zs => vs)
  gkb_Share_below_1_other : List Value → List Value → List Value
  kb_Share_below_1_other : KBn K fd_Share_below ["self", "other"] 1 ["other"] gkb_Share_below_1_other (fun vs zs => vs ++ ((zs.drop 0).take 1))
  f_shares_sum : Addr
  fd_shares_sum : FuncData
  F_shares_sum : Fun K "shares_sum" "shares_sum" s_shares_sum f_shares_sum fd_shares_sum
  b_shares_sum : Binds K fd_shares_sum ["shares"] []
  g_shares_sum : mg "shares_sum" = some (.ref f_shares_sum)
  f_law_cell_at : Addr
  fd_law_cell_at : FuncData
  F_law_cell_at : Fun K "_law_cell_at" "_law_cell_at" s_law_cell_at f_law_cell_at fd_law_cell_at
  b_law_cell_at : Binds K fd_law_cell_at ["_law_script", "_law_k"] []
  g_law_cell_at : mg "_law_cell_at" = some (.ref f_law_cell_at)
  f_law_well : Addr
  fd_law_well : FuncData
  F_law_well : Fun K "_law_well" "_law_well" s_law_well f_law_well fd_law_well
  b_law_well : Binds K fd_law_well ["_law_cell"] []
  g_law_well : mg "_law_well" = some (.ref f_law_well)
  f_law_draw : Addr
  fd_law_draw : FuncData
  F_law_draw : Fun K "_law_draw" "_law_draw" s_law_draw f_law_draw fd_law_draw
  b_law_draw : Binds K fd_law_draw ["_law_well_here", "_law_size"] []
  g_law_draw : mg "_law_draw" = some (.ref f_law_draw)
  f_law_lowest : Addr
  fd_law_lowest : FuncData
  F_law_lowest : Fun K "_law_lowest" "_law_lowest" s_law_lowest f_law_lowest fd_law_lowest
  b_law_lowest : Binds K fd_law_lowest ["_law_top", "_law_ground"] []
  g_law_lowest : mg "_law_lowest" = some (.ref f_law_lowest)
  f_law_pair : Addr
  fd_law_pair : FuncData
  F_law_pair : Fun K "_law_pair" "_law_pair" s_law_pair f_law_pair fd_law_pair
  b_law_pair : Binds K fd_law_pair ["_law_well_here"] []
  g_law_pair : mg "_law_pair" = some (.ref f_law_pair)
  f_law_by : Addr
  fd_law_by : FuncData
  F_law_by : Fun K "_law_by" "_law_by" s_law_by f_law_by fd_law_by
  b_law_by : Binds K fd_law_by ["_law_one_here", "_law_second"] []
  g_law_by : mg "_law_by" = some (.ref f_law_by)
  f_law_two_right : Addr
  fd_law_two_right : FuncData
  F_law_two_right : Fun K "_law_two_right" "_law_two_right" s_law_two_right f_law_two_right fd_law_two_right
  b_law_two_right : Binds K fd_law_two_right ["_law_pairs", "_law_shares", "_law_k", "_law_j"] []
  g_law_two_right : mg "_law_two_right" = some (.ref f_law_two_right)
  f_law : Addr
  fd_law : FuncData
  F_law : Fun K "law" "law" s_law f_law fd_law
  b_law : Binds K fd_law ["_law_script"] []
  g_law : mg "law" = some (.ref f_law)
  C_PollError : Addr
  k_PollError : mg "PollError" = some (.ref C_PollError)
  ex_PollError : ExK K C_PollError f_PollError_init
  xf_PollError : XfC K C_PollError
  nf_PollError_why : PySem.W.findIn K (.ref C_PollError) "why" = some none
  rd_PollError : PySem.W.readsIn K C_PollError (.type "type") = true
  ga_PollError : PySem.W.specialIn K (.ref C_PollError) "__getattribute__" = some (some (.builtin "type.__getattribute__"))
  fc_PollError_init : PySem.W.findCls K (.ref C_PollError) (.type "type") "__init__" = some (.val (.ref f_PollError_init))
  C_NoShare : Addr
  k_NoShare : mg "NoShare" = some (.ref C_NoShare)
  ex_NoShare : ExK K C_NoShare f_NoShare_init
  xf_NoShare : XfC K C_NoShare
  nf_NoShare_why : PySem.W.findIn K (.ref C_NoShare) "why" = some none
  nf_NoShare_num : PySem.W.findIn K (.ref C_NoShare) "num" = some none
  nf_NoShare_over : PySem.W.findIn K (.ref C_NoShare) "over" = some none
  C_Share : Addr
  k_Share : mg "Share" = some (.ref C_Share)
  cl_Share : Cls K C_Share
  n_Share_num : NoAttr K C_Share "num"
  n_Share_over : NoAttr K C_Share "over"
  mk_Share : Mk K C_Share f_Share_init
  me_Share_plus : Meth K C_Share "plus" f_Share_plus
  me_Share_by : Meth K C_Share "by" f_Share_by
  me_Share_less : Meth K C_Share "less" f_Share_less
  me_Share_times : Meth K C_Share "times" f_Share_times
  me_Share_below : Meth K C_Share "below" f_Share_below
  eo_Share : EqOwn K C_Share f_Share_eq
  is_Share : InsK K C_Share
  ki_Share : PySem.W.kitOne K (.ref C_Share) (.ref C_Share) = some true
  te_NoShare_NoShare : PySem.W.exmOne K (.ref C_NoShare) (.ref C_NoShare) = some true
  vV : PySem.W.findCls K (.type "ValueError") (.type "type") "__init__" = some (.val (.builtin "ValueError.__init__"))
  gcd : mg "gcd" = some (.builtin "math.gcd")
  z_ValueError : mg "ValueError" = none
  z_isinstance : mg "isinstance" = none
  z_len : mg "len" = none
  z_int : mg "int" = none
  z_abs : mg "abs" = none
  z_range : mg "range" = none
/-! ### wells -/
/-- a well's three numbers, k a bound of how often it was drawn from -/
def WellL (w : List V) (k : Nat) : Prop := ∃ a b c : Int, w = [.int a, .int b, .int c] ∧ 0 ≤ a ∧ 0 ≤ b ∧ b < 2147483629 ∧ 0 ≤ c ∧ c ≤ k
theorem WellL.mono {w : List V} {j k : Nat} (h : WellL w j) (hk : j ≤ k) : WellL w k := by
  obtain ⟨a, b, c, e, h1, h2, h3, h4, h5⟩ := h
  exact ⟨a, b, c, e, h1, h2, h3, h4, by omega⟩
theorem mix_mod (x m : Int) (h : 0 < m) : 0 ≤ x % m ∧ x % m < m := ⟨Int.emod_nonneg x (by omega), Int.emod_lt_of_pos x h⟩
theorem div_nn {a n : Int} (h : 0 ≤ a) (hn : 0 < n) : 0 ≤ a / n := Int.ediv_nonneg h (by omega)
theorem same_upd {H : Hp} {p : Addr} {o : HO} (h : H p = none) : Same H (upd H p o) := fun b x e => by
  rw [upd_ne (ne_of_none e h)]
  exact e
theorem same_mut {H H' : Hp} {p : Addr} {o : HO} (e : Same H H') (h : H p = none) : Same H (upd H' p o) := fun b x q => by
  rw [upd_ne (ne_of_none q h)]
  exact e b x q
theorem line_of {n : Nat} (h : n ≤ 1000) : n ≤ sizeLine := Nat.le_of_lt (small1000 h)
/-- what was tracked besides p stays -/
def But (p : Addr) (H H' : Hp) : Prop := ∀ b o, b ≠ p → H b = some o → H' b = some o
theorem But.refl (p : Addr) (H : Hp) : But p H H := fun _ _ _ h => h
theorem But.upd {p : Addr} {H H' : Hp} (e : But p H H') (o : HO) : But p H (upd H' p o) := fun b u hb q => by
  rw [upd_ne hb]
  exact e b u hb q
theorem But.new {p q : Addr} {H H' : Hp} (e : But p H H') (n : H' q = none) (o : HO) : But p H (L2.upd H' q o) := fun b u hb h => by
  have h2 := e b u hb h
  rw [upd_ne (ne_of_none h2 n)]
  exact h2
theorem But.same {p : Addr} {H H1 H2 : Hp} (e : But p H H1) (s : Same H1 H2) : But p H H2 := fun b u hb h => s b u (e b u hb h)
theorem But.trans {p : Addr} {H H1 H2 : Hp} (e : But p H H1) (f : But p H1 H2) : But p H H2 := fun b u hb h => f b u hb (e b u hb h)
/-- p new to H0 -/
theorem But.ext {p : Addr} {H0 H H' : Hp} (s : Same H0 H) (n : H0 p = none) (e : But p H H') : Same H0 H' := fun b u h => e b u (ne_of_none h n) (s b u h)
theorem size_ok {n : Int} (h0 : 0 ≤ n) (h : n ≤ 1000) : n.natAbs < 2 ^ 8000 := Nat.lt_of_le_of_lt (show n.natAbs ≤ 1000 by omega) (by decide +kernel)
theorem cut_ints (ns : List Int) (lo hi : Option Int) : ∃ ms : List Int, cutV (ns.map V.int) lo hi = ms.map V.int ∧ ms.length ≤ ns.length := by
  refine ⟨(ns.drop (HT.sIx (ns.map V.int).length 0 lo)).take (HT.sIx (ns.map V.int).length (ns.map V.int).length hi - HT.sIx (ns.map V.int).length 0 lo), ?_, ?_⟩
  · unfold cutV
    rw [← List.map_drop, ← List.map_take]
  · rw [List.length_take, List.length_drop]
    omega
theorem take_more {α : Type} : ∀ {l : List α} {i : Nat} {x : α}, l[i]? = some x → l.take (i + 1) = l.take i ++ [x]
  | [], i, x, h => by simp at h
  | a :: l, 0, x, h => by
    have e : a = x := Option.some.inj h
    subst e
    rfl
  | a :: l, i + 1, x, h => by
    have ih := take_more (l := l) (i := i) (x := x) h
    show a :: l.take (i + 1) = a :: l.take i ++ [x]
    rw [ih]
    rfl
section
variable {P : Program} {w : World} {K : PySem.W.Frag} {mg : Str → Option Value} {base : Heap}
/-! ### the law's own small defs -/
def sp_law_cell_at (K : PySem.W.Frag) : Sp := fun vs H Q _ => ∃ (a : Addr) (ns : List Int), vs = [.ref a, .int 0] ∧ SqL K H a (ns.map V.int) ∧ ns.length ≤ 63 ∧ ∀ z : Int, Q (.int z) H
theorem ok_law_cell_at (T : Txt K mg) : FnOk P w K mg base CX0 1 T.f_law_cell_at T.fd_law_cell_at ["_law_script", "_law_k"] (sp_law_cell_at K) := by
  refine T.F_law_cell_at.ok sc_law_cell_at (fun vs H Q E h => ?_) (fun cdv A outer s H vs Q E hr h => ?_)
  · obtain ⟨a, ns, rfl, _⟩ := h
    rfl
  · obtain ⟨a, ns, rfl, hS, hlen, q⟩ := h
    refine ⟨_, (pss_cons
 (ps_if (pt_cmpR op_lt (pv 1) (pe_callB call_len_seq (by rfl) T.z_len (by decide +kernel) (pa_cons (pv 0) pa_nil)) (nomark _))
 (pss_one
 (ps_ret (pe_ix ix_list (pv 0) (pv 1) (fun _ _ => rfl))))
 pss_nil)
 (pss_one
 (ps_ret pe_int))), ?_⟩
    refine ⟨.int 0, rfl, .ref a, rfl, a, ns.map V.int, rfl, .inl hS, 0, _, rfl, rfl, _, rfl, ite2 (fun e => ?_) (fun e => ?_)⟩
    · have e0 := of_decide_eq_true e
      cases ns with
      | nil => simp at e0
      | cons z r => exact ⟨.ref a, rfl, .int 0, rfl, a, _, 0, .int z, rfl, rfl, hS, atI_nat (j := 0) rfl, q z⟩
    · exact q 0
def sp_law_well : Sp := fun vs H Q _ => ∃ z : Int, vs = [.int z] ∧ ∀ (p : Addr) (x : List V) (H' : Hp), H p = none → Same H H' → H' p = some (.lst x) → WellL x 0 → Q (.ref p) H'
theorem ok_law_well (T : Txt K mg) : FnOk P w K mg base CX0 1 T.f_law_well T.fd_law_well ["_law_cell"] sp_law_well := by
  refine T.F_law_well.ok sc_law_well (fun vs H Q E h => ?_) (fun cdv A outer s H vs Q E hr h => ?_)
  · obtain ⟨z, rfl, _⟩ := h
    rfl
  · obtain ⟨z, rfl, q⟩ := h
    refine ⟨_, (pss_one
 (ps_ret (pe_lst (pa_cons (pe_ix ix_list (pe_lst (pa_cons pe_int (pa_cons (pv 0) pa_nil))) (pe_callTy call_int1 (by rfl) T.z_int (by decide +kernel) (pa_cons (pe_cmpR op_ge (pv 0) (pe_op op_pow pe_int pe_int) (nomark _)) pa_nil)) (fun _ _ => rfl)) (pa_cons (pe_op op_mod (pv 0) pe_int) (pa_cons pe_int pa_nil)))))), ?_⟩
    refine ⟨.int z, rfl, Nat.le_trans (by decide : 2 ≤ 1000) (Nat.le_of_lt (small1000 (by decide))), fun t nt => ?_⟩
    have ht : (upd H t (.lst [V.int 0, V.int z])) t = some (.lst [V.int 0, V.int z]) := upd_same
    refine ⟨.int z, rfl, 10, 18, rfl, rfl, ⟨by decide, by decide, by decide⟩, z, _, rfl, rfl, .inr ⟨_, rfl, ?_⟩⟩
    have fin : ∀ a : Int, 0 ≤ a → ∀ (p : Addr), (upd H t (.lst [V.int 0, V.int z])) p = none → Q (.ref p) (upd (upd H t (.lst [V.int 0, V.int z])) p (.lst [.int a, .int (z % 2147483629), .int 0])) := fun a ha p np => by
      have hb := mix_mod z 2147483629 (by decide)
      exact q p _ _ ((same_upd nt).free np) ((same_upd nt).trans (same_upd np)) upd_same ⟨a, _, 0, rfl, ha, hb.1, hb.2, by decide, by decide⟩
    by_cases hz : (10 : Int) ^ 18 ≤ z
    · refine ⟨t, _, 1, .int z, rfl, ?_, .of ht, rfl, .int z, rfl, z, _, rfl, rfl, (by show (0 : Int) < 2147483629; decide), Nat.le_trans (by decide : 3 ≤ 1000) (Nat.le_of_lt (small1000 (by decide))), fun p np => fin z (by omega) p np⟩
      rw [show decide ((10 : Int) ^ (18 : Int).toNat ≤ z) = true from decide_eq_true hz] <;> rfl
    · refine ⟨t, _, 0, .int 0, rfl, ?_, .of ht, rfl, .int z, rfl, z, _, rfl, rfl, (by show (0 : Int) < 2147483629; decide), Nat.le_trans (by decide : 3 ≤ 1000) (Nat.le_of_lt (small1000 (by decide))), fun p np => fin 0 (by omega) p np⟩
      rw [show decide ((10 : Int) ^ (18 : Int).toNat ≤ z) = false from decide_eq_false hz] <;> rfl
/-- drawing: a number below the size; the well holds three numbers again -/
def sp_law_draw : Sp := fun vs H Q _ => ∃ (p : Addr) (n : Int) (x : List V) (k : Nat), vs = [.ref p, .int n] ∧ H p = some (.lst x) ∧ WellL x k ∧ k ≤ 1000000 ∧ 0 < n ∧ n.natAbs < 2 ^ 8000 ∧
  ∀ (d : Int) (y : List V), 0 ≤ d → d < n → WellL y (k + 1) → Q (.int d) (upd H p (.lst y))
theorem ok_law_draw (T : Txt K mg) : FnOk P w K mg base CX0 1 T.f_law_draw T.fd_law_draw ["_law_well_here", "_law_size"] sp_law_draw := by
  refine T.F_law_draw.ok sc_law_draw (fun vs H Q E h => ?_) (fun cdv A outer s H vs Q E hr h => ?_)
  · obtain ⟨p, n, x, k, rfl, _⟩ := h
    rfl
  · obtain ⟨p, n, x, k, rfl, hp, ⟨a, b, c, rfl, ha, hb, hb2, hc, hck⟩, hk, hn, hn2, q⟩ := h
    refine ⟨_, (pss_cons
 (ps_if (pt_cmpR op_gt (pe_ix ix_list (pv 0) pe_int (fun _ _ => rfl)) pe_int (nomark _))
 (pss_cons
 (ps_set (i := 2) sc_law_draw.nd rfl (Or.inl rfl) (pe_op op_mod (pe_ix ix_list (pv 0) pe_int (fun _ _ => rfl)) (pv 1)))
 (pss_cons
 (ps_asg (pe_op op_fdivW (pe_ix ix_list (pv 0) pe_int (fun _ _ => rfl)) (pv 1)) (pg_sub (pv 0) pe_int set_list))
 (pss_one
 (ps_ret (pv 2)))))
 pss_nil)
 (pss_cons
 (ps_asg (pe_op op_add (pe_ix ix_list (pv 0) pe_int (fun _ _ => rfl)) pe_int) (pg_sub (pv 0) pe_int set_list))
 (pss_cons
 (ps_set (i := 3) sc_law_draw.nd rfl (Or.inl rfl) (pe_op op_mod (pe_op op_pow (pe_op op_add (pe_op op_add (pe_ix ix_list (pv 0) pe_int (fun _ _ => rfl)) (pe_op op_mul pe_int (pe_ix ix_list (pv 0) pe_int (fun _ _ => rfl)))) pe_int) pe_int) pe_int))
 (pss_cons
 (ps_set (i := 3) sc_law_draw.nd rfl (Or.inl rfl) (pe_op op_mod (pe_op op_mul (pv 3) (pe_op op_add (pe_op op_add (pe_op op_fdiv (pv 3) pe_int) pe_int) (pe_ix ix_list (pv 0) pe_int (fun _ _ => rfl)))) pe_int))
 (pss_one
 (ps_ret (pe_op op_mod (pe_op op_mod (pe_op op_mul (pv 3) (pe_op op_add (pe_op op_fdiv (pv 3) pe_int) pe_int)) pe_int) (pv 1)))))))), ?_⟩
    refine ⟨.ref p, rfl, p, _, 0, .int a, rfl, rfl, .of hp, rfl, a, 0, rfl, rfl, _, rfl, ite2 (fun e => ?_) (fun e => ?_)⟩
    · have hd := mix_mod a n hn
      have ha2 := div_nn ha hn
      refine ⟨.ref p, rfl, p, _, 0, .int a, rfl, rfl, .of hp, rfl, .int n, rfl, a, n, rfl, rfl, hn, ?_⟩
      refine ⟨.ref p, rfl, p, _, 0, .int a, rfl, rfl, .of hp, rfl, .int n, rfl, a, n, rfl, rfl, wide_div hn hn2 (by decide) (by decide), .ref p, rfl, p, _, 0, 0, rfl, rfl, hp, rfl, ?_⟩
      exact ⟨_, rfl, q (a % n) _ hd.1 hd.2 ⟨a / n, b, c, rfl, ha2, hb, hb2, hc, by omega⟩⟩
    · refine ⟨.ref p, rfl, p, _, 2, .int c, rfl, rfl, .of hp, rfl, c, 1, rfl, rfl, .ref p, rfl, p, _, 2, 2, rfl, rfl, hp, rfl, ?_⟩
      have h1 : (upd H p (.lst [V.int a, V.int b, V.int (c + 1)])) p = some (.lst [V.int a, V.int b, V.int (c + 1)]) := upd_same
      refine ⟨.ref p, rfl, p, _, 1, .int b, rfl, rfl, .of h1, rfl, .ref p, rfl, p, _, 2, .int (c + 1), rfl, rfl, .of h1, rfl, 7919, c + 1, rfl, rfl, .inl ⟨by decide, by decide⟩, b, _, rfl, rfl, _, 1, rfl, rfl, _, 5, rfl, rfl, ⟨by decide, by decide, by omega⟩, _, 2147483647, rfl, rfl, (by show (0 : Int) < 2147483647; decide), ?_⟩
      dsimp only
      generalize hg : (_ : Int) % 2147483647 = m
      have hm : 0 ≤ m ∧ m < 2147483647 := hg ▸ mix_mod _ _ (by decide)
      refine ⟨.int m, rfl, .int m, rfl, m, 1009, rfl, rfl, ⟨by decide, by decide⟩, _, 69621, rfl, rfl, .ref p, rfl, p, _, 2, .int (c + 1), rfl, rfl, .of h1, rfl, _, c + 1, rfl, rfl, m, _, rfl, rfl, .inl ⟨by omega, by omega⟩, _, 2147483629, rfl, rfl, (by show (0 : Int) < 2147483629; decide), ?_⟩
      dsimp only
      generalize hg2 : (_ : Int) % 2147483629 = m2
      have hm2 : 0 ≤ m2 ∧ m2 < 2147483629 := hg2 ▸ mix_mod _ _ (by decide)
      refine ⟨.int m2, rfl, .int m2, rfl, m2, 2003, rfl, rfl, ⟨by decide, by decide⟩, _, 40692, rfl, rfl, m2, _, rfl, rfl, .inl ⟨by omega, by omega⟩, _, 2147483399, rfl, rfl, (by show (0 : Int) < 2147483399; decide), .int n, rfl, _, n, rfl, rfl, hn, ?_⟩
      have hd := mix_mod (m2 * (m2 / 2003 + 40692) % 2147483399) n hn
      exact q _ _ hd.1 hd.2 ⟨a, b, c + 1, rfl, ha, hb, hb2, by omega, by omega⟩
end
/-! ### refusals: PollError's and NoShare's __init__ -/
theorem fld_putF2 (n o : V) : putF "over" o (putF "num" n []) = ([("num", n), ("over", o)] : List (Str × V)) := by
  have h : ¬ (("num" : Str) = "over") := by decide +kernel
  show (if ("num" : Str) = "over" then [(("num" : Str), o)] else (("num" : Str), n) :: putF "over" o []) = ([("num", n), ("over", o)] : List (Str × V))
  rw [if_neg h] <;> rfl
/-- a share's fields -/
def shF (r : Int × Int) : List (Str × V) := putF "over" (.int r.2) (putF "num" (.int r.1) [])
theorem shF_num (r : Int × Int) : (shF r).lookup ("num" : Str) = some (.int r.1) := by
  unfold shF
  rw [lookup_putF, if_neg (by decide +kernel), lookup_putF, if_pos rfl]
theorem shF_over (r : Int × Int) : (shF r).lookup ("over" : Str) = some (.int r.2) := by
  unfold shF
  rw [lookup_putF, if_pos rfl]
theorem shF_no (r : Int × Int) {m : Str} (h1 : ¬ m = "over") (h2 : ¬ m = "num") : (shF r).lookup m = none := by
  unfold shF
  rw [lookup_putF, if_neg h1, lookup_putF, if_neg h2] <;> rfl
/-- the share r stands at p -/
def ShAt (C : Addr) (H : Hp) (p : Addr) (r : Int × Int) : Prop := ∃ dx, H p = some (.ins C dx (shF r))
theorem ShAt.same {C : Addr} {H H' : Hp} {p : Addr} {r : Int × Int} (s : Same H H') (h : ShAt C H p r) : ShAt C H' p r := by
  obtain ⟨dx, h⟩ := h
  exact ⟨dx, s _ _ h⟩
/-- the dict of a NoShare -/
def NoF (n : Int) (fs : List (Str × V)) : Prop := fs.lookup ("num" : Str) = some (.int n) ∧ fs.lookup ("over" : Str) = some (.int 0)
section
variable {P : Program} {w : World} {K : PySem.W.Frag} {mg : Str → Option Value} {base : Heap}
def sp_PollError_init (K : PySem.W.Frag) : Sp := fun vs H Q _ => ∃ (a C : Addr) (z : Str), vs = [.ref a, .str z] ∧ H a = some (exo a C none) ∧ OexC K C ∧ PySem.W.findIn K (.ref C) "why" = some none ∧
  ∀ dx, H dx = none → dx ≠ a → Q .non (upd (upd H dx (exd dx [("why", .str z)])) a (exo a C (some dx)))
theorem ok_PollError_init (T : Txt K mg) : FnOk P w K mg base CX0 1 T.f_PollError_init T.fd_PollError_init ["self", "why"] (sp_PollError_init K) := by
  refine T.F_PollError_init.ok (CX := CX0) sc_PollError_init (fun vs H Q E h => ?_) (fun cdv A outer s H vs Q E hr h => ?_)
  · obtain ⟨a, C, z, rfl, _⟩ := h
    rfl
  · obtain ⟨a, C, z, rfl, ha, hT, hno, q⟩ := h
    refine ⟨_, (pss_cons
 (ps_expr (pe_veinit (by rfl) T.z_ValueError T.vV (pa_cons (pv 0) (pa_cons (pv 1) pa_nil))))
 (pss_one
 (ps_ost (pv 0) (pv 1)))), ?_⟩
    refine ⟨.ref a, rfl, .str z, rfl, a, C, [.str z], rfl, (by show 1 ≤ 1000; decide), hT, ha, ?_⟩
    exact ⟨.str z, rfl, .ref a, rfl, a, C, rfl, hT, hno, .inl ⟨ha, fun dx n1 n2 => q dx n1 n2⟩⟩
def sp_NoShare_init (K : PySem.W.Frag) (C : Addr) : Sp := fun vs H Q _ => ∃ (a : Addr) (n o : Int), vs = [.ref a, .int n, .int o] ∧ H a = some (exo a C none) ∧
  ∀ (dx : Addr) (z : Str) (H' : Hp), H dx = none → dx ≠ a → But a H H' → H' a = some (exo a C (some dx)) → H' dx = some (exd dx [("over", .int o), ("num", .int n), ("why", .str z)]) → Q .non H'
theorem ok_NoShare_init (T : Txt K mg) : FnOk P w K mg base CX0 2 T.f_NoShare_init T.fd_NoShare_init ["self", "num", "over"] (sp_NoShare_init K T.C_NoShare) := by
  refine T.F_NoShare_init.ok sc_NoShare_init (fun vs H Q E h => ?_) (fun cdv A outer s H vs Q E hr h => ?_)
  · obtain ⟨a, n, o, rfl, _⟩ := h
    rfl
  · obtain ⟨a, n, o, rfl, ha, q⟩ := h
    refine ⟨_, (pss_cons
 (ps_expr (pcl_pos (by rfl) T.k_PollError T.rd_PollError T.ga_PollError T.fc_PollError_init T.F_PollError_init.kp (ok_PollError_init T) (hr.mono (by decide)) T.kb_PollError_init_2 (fun σ => at0 σ) (pa_cons (pv 0) (pa_cons pe_str pa_nil))))
 (pss_cons
 (ps_ost (pv 0) (pv 1))
 (pss_one
 (ps_ost (pv 0) (pv 2))))), ?_⟩
    refine ⟨.ref a, rfl, rfl, rfl, a, T.C_NoShare, _, rfl, ha, T.ex_NoShare.oex, T.nf_NoShare_why, fun dx n1 n2 => ?_⟩
    have h1 : (upd (upd H dx (exd dx [("why", V.str "no share over nought")])) a (exo a T.C_NoShare (some dx))) a = some (exo a T.C_NoShare (some dx)) := upd_same
    have h2 : (upd (upd H dx (exd dx [("why", V.str "no share over nought")])) a (exo a T.C_NoShare (some dx))) dx = some (exd dx [("why", V.str "no share over nought")]) := by rw [upd_ne n2, upd_same]
    refine ⟨.int n, rfl, .ref a, rfl, a, T.C_NoShare, rfl, T.ex_NoShare.oex, T.nf_NoShare_num, .inr ⟨dx, _, h1, h2, (by show 1 ≤ 900; decide), ?_⟩⟩
    refine ⟨.int o, rfl, .ref a, rfl, a, T.C_NoShare, rfl, T.ex_NoShare.oex, T.nf_NoShare_over, .inr ⟨dx, _, by rw [upd_ne n2.symm]; exact h1, upd_same, (by show 2 ≤ 900; decide), ?_⟩⟩
    refine q dx _ _ n1 n2 (fun b x hb hx => ?_) (by rw [upd_ne n2.symm, upd_ne n2.symm]; exact h1) upd_same
    have hbd : b ≠ dx := ne_of_none hx n1
    rw [upd_ne hbd, upd_ne hbd, upd_ne hb, upd_ne hbd]
    exact hx
/-! ### a share is made -/
def sp_Share_init (C CN : Addr) : Sp := fun vs H Q E => ∃ (p dx : Addr) (a b : Int) (m : Nat), vs = [.ref p, .int a, .int b] ∧ H p = some (.ins C dx []) ∧ b.natAbs < 2 ^ m ∧ 0 < m ∧ m ≤ 9000 ∧
  (b = 0 → ∀ (d : Addr) (fs : List (Str × V)) (H' : Hp), Same H H' → H d = none → H' d = some (.xd fs) → NoF a fs → E (.ref CN) (some d) H') ∧
  (b ≠ 0 → ∀ H', But p H H' → H' p = some (.ins C dx (shF (low a b))) → Q .non H')
theorem ok_Share_init (T : Txt K mg) : FnOk P w K mg base (L2.CX P w) 4 T.f_Share_init T.fd_Share_init ["self", "num", "over"] (sp_Share_init T.C_Share T.C_NoShare) := by
  refine T.F_Share_init.ok (CX := L2.CX P w) sc_Share_init (fun vs H Q E h => ?_) (fun cdv A outer s H vs Q E hr h => ?_)
  · obtain ⟨p, dx, a, b, m, rfl, _⟩ := h
    rfl
  · obtain ⟨p, dx, a, b, m, rfl, hp, hm, hm0, hm9, q0, q1⟩ := h
    refine ⟨_, (pss_cons
 (ps_if (pt_cmpR op_eq (pv 2) pe_int (nomark _))
 (pss_one
 (ps_raise rfl (takes_of rfl rfl rfl rfl) (px_both T.ex_NoShare (ok_NoShare_init T) (hr.mono (by decide)) (by rfl) T.k_NoShare T.kb_NoShare_init_2_over (fun σ => at0 σ) (pa_cons (pv 1) pa_nil) (pk_cons pe_int pk_nil))))
 pss_nil)
 (pss_cons
 (ps_set (i := 3) sc_Share_init.nd rfl (Or.inl rfl) (pe_callBfun cr_gcd (by rfl) T.gcd (pa_cons (pv 1) (pa_cons (pv 2) pa_nil))))
 (pss_cons
 (ps_if (pt_cmpR op_lt (pv 2) pe_int (nomark _))
 (pss_one
 (ps_set (i := 3) sc_Share_init.nd rfl (Or.inl rfl) (pe_un un_neg (pv 3))))
 pss_nil)
 (pss_cons
 (ps_fld (pv 0) (pe_op op_fdivX (pv 1) (pv 3)) rfl)
 (pss_one
 (ps_fld (pv 0) (pe_op op_fdivX (pv 2) (pv 3)) rfl)))))), ?_⟩
    refine ⟨.int b, rfl, rfl, _, rfl, ite2 (fun e => ?_) (fun e => ?_)⟩
    · have hb : b = 0 := V.int.inj (of_decide_eq_true e)
      refine ⟨.int a, rfl, rfl, rfl, by decide, fun x nx => ?_⟩
      refine ⟨x, a, 0, rfl, upd_same, fun dy z H' n1 n2 bt e1 e2 => ⟨rfl, dy, _, e1, e2, ?_, ?_⟩⟩
      · rw [upd_ne n2] at n1
        exact n1
      · rw [upd_ne n2] at n1
        refine q0 hb dy _ _ (fun y o ho => ?_) n1 upd_same ⟨rfl, rfl⟩
        have y1 : y ≠ dy := ne_of_none ho n1
        have y2 : y ≠ x := ne_of_none ho nx
        rw [upd_ne y1, del_ne y2]
        exact bt y o y2 (by rw [upd_ne y2]; exact ho)
    · have hb : b ≠ 0 := fun z => e (by rw [z]; exact decide_eq_true rfl)
      have hc0 := cg_ne (a := a) hb
      have hcl : (cg a b).natAbs < 2 ^ m := Nat.lt_of_le_of_lt (cg_le hb) hm
      refine ⟨.int a, rfl, .int b, rfl, a, b, rfl, .int b, rfl, b, 0, rfl, rfl, _, rfl, ite2 (fun e2 => ?_) (fun e2 => ?_)⟩
      · have ec : cg a b = -((Nat.gcd a.natAbs b.natAbs : Nat) : Int) := if_pos (of_decide_eq_true e2)
        refine ⟨_, rfl, _, rfl, ?_⟩
        refine ⟨.int a, rfl,   .int (cg a b), (by rw [ec]; rfl), a, _, rfl, rfl, div_ok hc0 hcl hm0 hm9, .ref p, rfl, p, T.C_Share, dx, [], rfl, hp, T.cl_Share, T.n_Share_num, by decide, ?_⟩
        refine ⟨.int b, rfl, .int (cg a b), (by rw [ec]; rfl), b, _, rfl, rfl, div_ok hc0 hcl hm0 hm9, .ref p, rfl, p, T.C_Share, dx, _, rfl, upd_same, T.cl_Share, T.n_Share_over, (by show 1 < 1000; decide), ?_⟩
        refine q1 hb _ (fun y o hy ho => ?_) upd_same
        rw [upd_ne hy, upd_ne hy]
        exact ho
      · have ec : cg a b = ((Nat.gcd a.natAbs b.natAbs : Nat) : Int) := if_neg (fun z => e2 (decide_eq_true z))
        refine ⟨.int a, rfl,   .int (cg a b), (by rw [ec]; rfl), a, _, rfl, rfl, div_ok hc0 hcl hm0 hm9, .ref p, rfl, p, T.C_Share, dx, [], rfl, hp, T.cl_Share, T.n_Share_num, by decide, ?_⟩
        refine ⟨.int b, rfl, .int (cg a b), (by rw [ec]; rfl), b, _, rfl, rfl, div_ok hc0 hcl hm0 hm9, .ref p, rfl, p, T.C_Share, dx, _, rfl, upd_same, T.cl_Share, T.n_Share_over, (by show 1 < 1000; decide), ?_⟩
        refine q1 hb _ (fun y o hy ho => ?_) upd_same
        rw [upd_ne hy, upd_ne hy]
        exact ho
end
/-! ### what a share does -/
theorem made_same {H H' : Hp} {a dx : Addr} {o u : HO} (n1 : H a = none) (n2 : H dx = none) (b : But a (upd (upd H dx u) a o) H') : Same H H' := fun y x h => by
  have y1 : y ≠ a := ne_of_none h n1
  exact b y x y1 (by rw [upd_ne y1, upd_ne (ne_of_none h n2)]; exact h)
section
variable {P : Program} {w : World} {K : PySem.W.Frag} {mg : Str → Option Value} {base : Heap}
def sp_Share_eq (K : PySem.W.Frag) (C : Addr) : Sp := fun vs H Q _ => ∃ (p : Addr) (y : V) (r : Int × Int), vs = [.ref p, y] ∧ ShAt C H p r ∧
  ((∃ (q : Addr) (s : Int × Int), y = .ref q ∧ ShAt C H q s ∧ Q (.bl (decide (r = s))) H) ∨ ∃ t : Value, TyX K H y t ∧ PySem.W.kitOne K t (.ref C) = some false ∧ Q (.bl false) H)
theorem dec_pair (r s : Int × Int) : decide (r = s) = (if decide (V.int r.1 = V.int s.1) = true then decide (V.int r.2 = V.int s.2) else false) := by
  obtain ⟨a, b⟩ := r
  obtain ⟨c, d⟩ := s
  by_cases h1 : a = c
  · by_cases h2 : b = d
    · simp [h1, h2]
    · simp [h1, h2]
  · simp [h1]
theorem ok_Share_eq (T : Txt K mg) : FnOk P w K mg base CX0 1 T.f_Share_eq T.fd_Share_eq ["self", "other"] (sp_Share_eq K T.C_Share) := by
  refine T.F_Share_eq.ok sc_Share_eq (fun vs H Q E h => ?_) (fun cdv A outer s H vs Q E hr h => ?_)
  · obtain ⟨p, y, r, rfl, _⟩ := h
    rfl
  · obtain ⟨p, y, r, rfl, ⟨dp, hp⟩, h⟩ := h
    refine ⟨_, (pss_one
 (ps_ret (pe_and (pe_callB call_isi (by rfl) T.z_isinstance (by decide +kernel) (pa_cons (pv 1) (pa_cons (pe_glob (v := .ref T.C_Share) rfl T.k_Share rfl) pa_nil))) (pe_and (pe_cmpR op_eq (pe_fld (pv 0) rfl) (pe_fld (pv 1) rfl) (nomark _)) (pe_one (pe_cmpR op_eq (pe_fld (pv 0) rfl) (pe_fld (pv 1) rfl) (nomark _))))))), ?_⟩
    rcases h with ⟨q, s, rfl, ⟨dq, hq⟩, h⟩ | ⟨t, ht, hk, h⟩
    · refine ⟨.ref q, rfl, .ref q, _, _, _, true, rfl, .own _, tyx_ins hq T.cl_Share T.is_Share, T.ki_Share, true, rfl, iteT ?_⟩
      refine ⟨.ref p, rfl, p, T.C_Share, dp, _, .int r.1, rfl, hp, T.cl_Share, T.n_Share_num, shF_num r, .ref q, rfl, q, T.C_Share, dq, _, .int s.1, rfl, hq, T.cl_Share, T.n_Share_num, shF_num s, rfl, _, rfl, ?_⟩
      rw [dec_pair] at h
      cases e : decide (V.int r.1 = V.int s.1) with
      | false =>
        rw [e] at h
        exact iteF h
      | true =>
        rw [e] at h
        exact iteT ⟨.ref p, rfl, p, T.C_Share, dp, _, .int r.2, rfl, hp, T.cl_Share, T.n_Share_over, shF_over r, .ref q, rfl, q, T.C_Share, dq, _, .int s.2, rfl, hq, T.cl_Share, T.n_Share_over, shF_over s, rfl, h⟩
    · exact ⟨y, rfl, y, _, t, _, false, rfl, .own _, ht, hk, false, rfl, iteF h⟩
/-- an operation of two shares -/
def sp_bin (C : Addr) (f : Int × Int → Int × Int → Int × Int) : Sp := fun vs H Q _ => ∃ (p q : Addr) (r s : Int × Int) (n m : Nat), vs = [.ref p, .ref q] ∧ ShAt C H p r ∧ ShAt C H q s ∧ Bd n r ∧ Bd m s ∧ 0 < r.2 ∧ 0 < s.2 ∧ n + m + 1 ≤ 8000 ∧
  ∀ (x : Addr) (H' : Hp), Same H H' → H x = none → ShAt C H' x (low (f r s).1 (f r s).2) → Q (.ref x) H'
theorem mulOk {a b : Int} {n m : Nat} (ha : a.natAbs < 2 ^ n) (hb : b.natAbs < 2 ^ m) (h : n + m + 1 ≤ 8000) : CMulW a b :=
  wide_mul (a := n + 1) (b := m + 1) (Nat.lt_of_lt_of_le ha (Nat.pow_le_pow_right (by decide) (by omega))) (Nat.lt_of_lt_of_le hb (Nat.pow_le_pow_right (by decide) (by omega))) (by omega) (by omega) (by omega)
theorem prod_bd {a b : Int} {n m : Nat} (ha : a.natAbs < 2 ^ n) (hb : b.natAbs < 2 ^ m) (h : n + m + 1 ≤ 8000) : (a * b).natAbs < 2 ^ 8001 :=
  Nat.lt_of_lt_of_le (mul_lt ha hb) (Nat.pow_le_pow_right (by decide) (by omega))
theorem ok_Share_plus (T : Txt K mg) : FnOk P w K mg base CX0 6 T.f_Share_plus T.fd_Share_plus ["self", "other"] (sp_bin T.C_Share fun r s => (r.1 * s.2 + s.1 * r.2, r.2 * s.2)) := by
  refine T.F_Share_plus.ok sc_Share_plus (fun vs H Q E h => ?_) (fun cdv A outer s H vs Q E hr h => ?_)
  · obtain ⟨p, q, r, s, n, m, rfl, _⟩ := h
    rfl
  · obtain ⟨p, q, r, s, n, m, rfl, ⟨dp, hp⟩, ⟨dq, hq⟩, br, bs, r0, s0, hnm, h⟩ := h
    refine ⟨_, (pss_one
 (ps_ret (pc_pos T.mk_Share (ok_Share_init T) (hr.mono (by decide)) (by rfl) T.k_Share T.kb_Share_init_3 (fun σ => atN σ) (pa_cons (pe_op op_add (pe_op op_mulW (pe_fld (pv 0) rfl) (pe_fld (pv 1) rfl)) (pe_op op_mulW (pe_fld (pv 1) rfl) (pe_fld (pv 0) rfl))) (pa_cons (pe_op op_mulW (pe_fld (pv 0) rfl) (pe_fld (pv 1) rfl)) pa_nil))))), ?_⟩
    refine ⟨.ref p, rfl, p, T.C_Share, dp, _, .int r.1, rfl, hp, T.cl_Share, T.n_Share_num, shF_num r, .ref q, rfl, q, T.C_Share, dq, _, .int s.2, rfl, hq, T.cl_Share, T.n_Share_over, shF_over s, _, _, rfl, rfl, mulOk br.1 bs.2 hnm, ?_⟩
    refine ⟨.ref q, rfl, q, T.C_Share, dq, _, .int s.1, rfl, hq, T.cl_Share, T.n_Share_num, shF_num s, .ref p, rfl, p, T.C_Share, dp, _, .int r.2, rfl, hp, T.cl_Share, T.n_Share_over, shF_over r, _, _, rfl, rfl, mulOk bs.1 br.2 (by omega), _, _, rfl, rfl, ?_⟩
    refine ⟨.ref p, rfl, p, T.C_Share, dp, _, .int r.2, rfl, hp, T.cl_Share, T.n_Share_over, shF_over r, .ref q, rfl, q, T.C_Share, dq, _, .int s.2, rfl, hq, T.cl_Share, T.n_Share_over, shF_over s, _, _, rfl, rfl, mulOk br.2 bs.2 hnm, ?_⟩
    have hne : r.2 * s.2 ≠ 0 := by have := Int.mul_pos r0 s0; omega
    refine ⟨rfl, rfl, fun a dx n1 n2 n3 => ⟨a, dx, _, _, 8001, rfl, upd_same, prod_bd br.2 bs.2 hnm, by decide, by decide, fun z => absurd z hne, fun _ H' bt e => ⟨rfl, ?_⟩⟩⟩
    exact h a H' (made_same n1 n2 bt) n1 ⟨dx, e⟩
theorem ok_Share_less (T : Txt K mg) : FnOk P w K mg base CX0 6 T.f_Share_less T.fd_Share_less ["self", "other"] (sp_bin T.C_Share fun r s => (r.1 * s.2 - s.1 * r.2, r.2 * s.2)) := by
  refine T.F_Share_less.ok sc_Share_less (fun vs H Q E h => ?_) (fun cdv A outer s H vs Q E hr h => ?_)
  · obtain ⟨p, q, r, s, n, m, rfl, _⟩ := h
    rfl
  · obtain ⟨p, q, r, s, n, m, rfl, ⟨dp, hp⟩, ⟨dq, hq⟩, br, bs, r0, s0, hnm, h⟩ := h
    refine ⟨_, (pss_one
 (ps_ret (pc_pos T.mk_Share (ok_Share_init T) (hr.mono (by decide)) (by rfl) T.k_Share T.kb_Share_init_3 (fun σ => atN σ) (pa_cons (pe_op op_sub (pe_op op_mulW (pe_fld (pv 0) rfl) (pe_fld (pv 1) rfl)) (pe_op op_mulW (pe_fld (pv 1) rfl) (pe_fld (pv 0) rfl))) (pa_cons (pe_op op_mulW (pe_fld (pv 0) rfl) (pe_fld (pv 1) rfl)) pa_nil))))), ?_⟩
    refine ⟨.ref p, rfl, p, T.C_Share, dp, _, .int r.1, rfl, hp, T.cl_Share, T.n_Share_num, shF_num r, .ref q, rfl, q, T.C_Share, dq, _, .int s.2, rfl, hq, T.cl_Share, T.n_Share_over, shF_over s, _, _, rfl, rfl, mulOk br.1 bs.2 hnm, ?_⟩
    refine ⟨.ref q, rfl, q, T.C_Share, dq, _, .int s.1, rfl, hq, T.cl_Share, T.n_Share_num, shF_num s, .ref p, rfl, p, T.C_Share, dp, _, .int r.2, rfl, hp, T.cl_Share, T.n_Share_over, shF_over r, _, _, rfl, rfl, mulOk bs.1 br.2 (by omega), _, _, rfl, rfl, ?_⟩
    refine ⟨.ref p, rfl, p, T.C_Share, dp, _, .int r.2, rfl, hp, T.cl_Share, T.n_Share_over, shF_over r, .ref q, rfl, q, T.C_Share, dq, _, .int s.2, rfl, hq, T.cl_Share, T.n_Share_over, shF_over s, _, _, rfl, rfl, mulOk br.2 bs.2 hnm, ?_⟩
    have hne : r.2 * s.2 ≠ 0 := by have := Int.mul_pos r0 s0; omega
    refine ⟨rfl, rfl, fun a dx n1 n2 n3 => ⟨a, dx, _, _, 8001, rfl, upd_same, prod_bd br.2 bs.2 hnm, by decide, by decide, fun z => absurd z hne, fun _ H' bt e => ⟨rfl, ?_⟩⟩⟩
    exact h a H' (made_same n1 n2 bt) n1 ⟨dx, e⟩
theorem ok_Share_times (T : Txt K mg) : FnOk P w K mg base CX0 6 T.f_Share_times T.fd_Share_times ["self", "other"] (sp_bin T.C_Share fun r s => (r.1 * s.1, r.2 * s.2)) := by
  refine T.F_Share_times.ok sc_Share_times (fun vs H Q E h => ?_) (fun cdv A outer s H vs Q E hr h => ?_)
  · obtain ⟨p, q, r, s, n, m, rfl, _⟩ := h
    rfl
  · obtain ⟨p, q, r, s, n, m, rfl, ⟨dp, hp⟩, ⟨dq, hq⟩, br, bs, r0, s0, hnm, h⟩ := h
    refine ⟨_, (pss_one
 (ps_ret (pc_pos T.mk_Share (ok_Share_init T) (hr.mono (by decide)) (by rfl) T.k_Share T.kb_Share_init_3 (fun σ => atN σ) (pa_cons (pe_op op_mulW (pe_fld (pv 0) rfl) (pe_fld (pv 1) rfl)) (pa_cons (pe_op op_mulW (pe_fld (pv 0) rfl) (pe_fld (pv 1) rfl)) pa_nil))))), ?_⟩
    refine ⟨.ref p, rfl, p, T.C_Share, dp, _, .int r.1, rfl, hp, T.cl_Share, T.n_Share_num, shF_num r, .ref q, rfl, q, T.C_Share, dq, _, .int s.1, rfl, hq, T.cl_Share, T.n_Share_num, shF_num s, _, _, rfl, rfl, mulOk br.1 bs.1 hnm, ?_⟩
    refine ⟨.ref p, rfl, p, T.C_Share, dp, _, .int r.2, rfl, hp, T.cl_Share, T.n_Share_over, shF_over r, .ref q, rfl, q, T.C_Share, dq, _, .int s.2, rfl, hq, T.cl_Share, T.n_Share_over, shF_over s, _, _, rfl, rfl, mulOk br.2 bs.2 hnm, ?_⟩
    have hne : r.2 * s.2 ≠ 0 := by have := Int.mul_pos r0 s0; omega
    refine ⟨rfl, rfl, fun a dx n1 n2 n3 => ⟨a, dx, _, _, 8001, rfl, upd_same, prod_bd br.2 bs.2 hnm, by decide, by decide, fun z => absurd z hne, fun _ H' bt e => ⟨rfl, ?_⟩⟩⟩
    exact h a H' (made_same n1 n2 bt) n1 ⟨dx, e⟩
/-- one over the other one, or the refusal -/
def sp_by (C CN : Addr) : Sp := fun vs H Q E => ∃ (p q : Addr) (r s : Int × Int) (n m : Nat), vs = [.ref p, .ref q] ∧ ShAt C H p r ∧ ShAt C H q s ∧ Bd n r ∧ Bd m s ∧ 0 < r.2 ∧ 0 < s.2 ∧ n + m + 1 ≤ 8000 ∧
  (s.1 = 0 → ∀ (d : Addr) (fs : List (Str × V)) (H' : Hp), Same H H' → H d = none → H' d = some (.xd fs) → NoF r.1 fs → E (.ref CN) (some d) H') ∧
  (s.1 ≠ 0 → ∀ (x : Addr) (H' : Hp), Same H H' → H x = none → ShAt C H' x (low (r.1 * s.2) (r.2 * s.1)) → Q (.ref x) H')
theorem ok_Share_by (T : Txt K mg) : FnOk P w K mg base (L2.CX P w) 6 T.f_Share_by T.fd_Share_by ["self", "other"] (sp_by T.C_Share T.C_NoShare) := by
  refine T.F_Share_by.okX sc_Share_by (fun vs H Q E h => ?_) (fun cdv A outer s H vs Q E hr h => ?_)
  · obtain ⟨p, q, r, s, n, m, rfl, _⟩ := h
    rfl
  · obtain ⟨p, q, r, s, n, m, rfl, ⟨dp, hp⟩, ⟨dq, hq⟩, br, bs, r0, s0, hnm, h0, h1⟩ := h
    refine ⟨_, (pss_cons
 (ps_if (pt_cmpR op_eq (pe_fld (pv 1) rfl) pe_int (nomark _))
 (pss_one
 (ps_raise rfl (takes_of rfl rfl rfl rfl) (px_both T.ex_NoShare (ok_NoShare_init T) (hr.mono (by decide)) (by rfl) T.k_NoShare T.kb_NoShare_init_2_over (fun σ => at0 σ) (pa_cons (pe_fld (pv 0) rfl) pa_nil) (pk_cons pe_int pk_nil))))
 pss_nil)
 (pss_one
 (ps_ret (pc_pos T.mk_Share (ok_Share_init T) (hr.mono (by decide)) (by rfl) T.k_Share T.kb_Share_init_3 (fun σ => atN σ) (pa_cons (pe_op op_mulW (pe_fld (pv 0) rfl) (pe_fld (pv 1) rfl)) (pa_cons (pe_op op_mulW (pe_fld (pv 0) rfl) (pe_fld (pv 1) rfl)) pa_nil)))))), ?_⟩
    refine ⟨.ref q, rfl, q, T.C_Share, dq, _, .int s.1, rfl, hq, T.cl_Share, T.n_Share_num, shF_num s, rfl, _, rfl, ite2 (fun e => ?_) (fun e => ?_)⟩
    · have hb : s.1 = 0 := V.int.inj (of_decide_eq_true e)
      refine ⟨.ref p, rfl, p, T.C_Share, dp, _, .int r.1, rfl, hp, T.cl_Share, T.n_Share_num, shF_num r, rfl, rfl, by decide, fun x nx => ?_⟩
      refine ⟨x, r.1, 0, rfl, upd_same, fun dy z H' n1 n2 bt e1 e2 => ⟨rfl, dy, _, e1, e2, ?_, ?_⟩⟩
      · rw [upd_ne n2] at n1
        exact n1
      · rw [upd_ne n2] at n1
        refine h0 hb dy _ _ (fun y o ho => ?_) n1 upd_same ⟨rfl, rfl⟩
        have y1 : y ≠ dy := ne_of_none ho n1
        have y2 : y ≠ x := ne_of_none ho nx
        rw [upd_ne y1, del_ne y2]
        exact bt y o y2 (by rw [upd_ne y2]; exact ho)
    · have hb : s.1 ≠ 0 := fun z => e (by rw [z]; exact decide_eq_true rfl)
      refine ⟨.ref p, rfl, p, T.C_Share, dp, _, .int r.1, rfl, hp, T.cl_Share, T.n_Share_num, shF_num r, .ref q, rfl, q, T.C_Share, dq, _, .int s.2, rfl, hq, T.cl_Share, T.n_Share_over, shF_over s, _, _, rfl, rfl, mulOk br.1 bs.2 hnm, ?_⟩
      refine ⟨.ref p, rfl, p, T.C_Share, dp, _, .int r.2, rfl, hp, T.cl_Share, T.n_Share_over, shF_over r, .ref q, rfl, q, T.C_Share, dq, _, .int s.1, rfl, hq, T.cl_Share, T.n_Share_num, shF_num s, _, _, rfl, rfl, mulOk br.2 bs.1 hnm, ?_⟩
      have hne : r.2 * s.1 ≠ 0 := Int.mul_ne_zero (by omega) hb
      refine ⟨rfl, rfl, fun a dx n1 n2 n3 => ⟨a, dx, _, _, 8001, rfl, upd_same, prod_bd br.2 bs.1 hnm, by decide, by decide, fun z => absurd z hne, fun _ H' bt e => ⟨rfl, ?_⟩⟩⟩
      exact h1 hb a H' (made_same n1 n2 bt) n1 ⟨dx, e⟩
def sp_below (C : Addr) : Sp := fun vs H Q _ => ∃ (p q : Addr) (r s : Int × Int) (n m : Nat), vs = [.ref p, .ref q] ∧ ShAt C H p r ∧ ShAt C H q s ∧ Bd n r ∧ Bd m s ∧ n + m + 1 ≤ 8000 ∧ Q (.bl (decide (r.1 * s.2 < s.1 * r.2))) H
theorem ok_Share_below (T : Txt K mg) : FnOk P w K mg base CX0 1 T.f_Share_below T.fd_Share_below ["self", "other"] (sp_below T.C_Share) := by
  refine T.F_Share_below.ok sc_Share_below (fun vs H Q E h => ?_) (fun cdv A outer s H vs Q E hr h => ?_)
  · obtain ⟨p, q, r, s, n, m, rfl, _⟩ := h
    rfl
  · obtain ⟨p, q, r, s, n, m, rfl, ⟨dp, hp⟩, ⟨dq, hq⟩, br, bs, hnm, h⟩ := h
    refine ⟨_, (pss_one
 (ps_ret (pe_cmpR op_lt (pe_op op_mulW (pe_fld (pv 0) rfl) (pe_fld (pv 1) rfl)) (pe_op op_mulW (pe_fld (pv 1) rfl) (pe_fld (pv 0) rfl)) (nomark _)))), ?_⟩
    refine ⟨.ref p, rfl, p, T.C_Share, dp, _, .int r.1, rfl, hp, T.cl_Share, T.n_Share_num, shF_num r, .ref q, rfl, q, T.C_Share, dq, _, .int s.2, rfl, hq, T.cl_Share, T.n_Share_over, shF_over s, _, _, rfl, rfl, mulOk br.1 bs.2 hnm, ?_⟩
    exact ⟨.ref q, rfl, q, T.C_Share, dq, _, .int s.1, rfl, hq, T.cl_Share, T.n_Share_num, shF_num s, .ref p, rfl, p, T.C_Share, dp, _, .int r.2, rfl, hp, T.cl_Share, T.n_Share_over, shF_over r, _, _, rfl, rfl, mulOk bs.1 br.2 (by omega), _, _, rfl, rfl, h⟩
/-- the sum of shares: as the addresses with the pairs -/
def sp_shares_sum (K : PySem.W.Frag) (C : Addr) : Sp := fun vs H Q _ => ∃ (l : Addr) (as : List (Addr × (Int × Int))), vs = [.ref l] ∧ SqL K H l (as.map fun a => V.ref a.1) ∧ (∀ a ∈ as, ShAt C H a.1 a.2 ∧ 0 < a.2.2 ∧ Bd 200 a.2) ∧ as.length ≤ 30 ∧
  ∀ (x : Addr) (H' : Hp), Same H H' → H x = none → ShAt C H' x (sumL (as.map (·.2)) (0, 1)) → Q (.ref x) H'
theorem low01 : low 0 1 = (0, 1) := by decide
theorem ok_shares_sum (T : Txt K mg) : FnOk P w K mg base CX0 7 T.f_shares_sum T.fd_shares_sum ["shares"] (sp_shares_sum K T.C_Share) := by
  refine T.F_shares_sum.ok sc_shares_sum (fun vs H Q E h => ?_) (fun cdv A outer s H vs Q E hr h => ?_)
  · obtain ⟨l, as, rfl, _⟩ := h
    rfl
  · obtain ⟨l, as, rfl, hS, ha, hl, h⟩ := h
    refine ⟨_, (pss_cons
 (ps_set (i := 1) sc_shares_sum.nd rfl (Or.inl rfl) (pc_pos T.mk_Share (ok_Share_init T) (hr.mono (by decide)) (by rfl) T.k_Share T.kb_Share_init_2 (fun σ => atN σ) (pa_cons pe_int pa_nil)))
 (pss_cons
 (ps_for PassesOwn.never rfl (pi_list (pv 0)) (pg_name (i := 2) sc_shares_sum.nd rfl (Or.inl rfl))
 (pss_one
 (ps_set (i := 1) sc_shares_sum.nd rfl (Or.inl rfl) (pm_pos (pv 1) T.cl_Share T.me_Share_plus (ok_Share_plus T) (hr.mono (by decide)) T.kb_Share_plus_2 (fun σ => at0 σ) (pa_cons (pv 2) pa_nil)))))
 (pss_one
 (ps_ret (pv 1))))), ?_⟩
    refine ⟨rfl, rfl, fun a dx n1 n2 n3 => ⟨a, dx, 0, 1, 1, rfl, upd_same, by decide, by decide, by decide, fun z => (by cases z), fun _ H1 bt e => ⟨rfl, ?_⟩⟩⟩
    have s1 := made_same n1 n2 bt
    rw [low01] at e
    refine ⟨.ref l, rfl, l, rfl, ⟨_, s1.seq hS⟩, for_list (K := K) (a := l) (xs := as.map fun a => V.ref a.1)
      (fun i σ H2 => ∃ (x : Addr) (y : Option V), σ = [some (.ref l), some (.ref x), y] ∧ Same H H2 ∧ H x = none ∧ ShAt T.C_Share H2 x (sumL ((as.take i).map (·.2)) (0, 1)) ∧ Bd (1 + 201 * i) (sumL ((as.take i).map (·.2)) (0, 1)))
      ⟨a, none, rfl, s1, n1, ⟨dx, e⟩, ⟨(by show (0 : Nat) < 2; decide), (by show (1 : Nat) < 2; decide)⟩⟩ (fun _ _ _ _ h => by obtain ⟨_, _, _, s2, _⟩ := h; exact s2.seq hS) ?_ ?_⟩
    · rintro i y σ H2 hi ⟨x, y2, rfl, s2, nx, hx, bx⟩
      obtain ⟨b, hb, rfl⟩ : ∃ b, as[i]? = some b ∧ y = V.ref b.1 := by
        rw [List.getElem?_map] at hi
        cases e : as[i]? with
        | none => rw [e] at hi; cases hi
        | some b => rw [e] at hi; exact ⟨b, rfl, (Option.some.inj hi).symm⟩
      obtain ⟨hb1, hb2, hb3⟩ := ha b (List.mem_of_getElem? hb)
      have et := take_more hb
      have il : i < as.length := (List.getElem?_eq_some_iff.mp hb).1
      have hpos : 0 < (sumL ((as.take i).map (·.2)) (0, 1)).2 := sumL_pos _ _ (by decide) fun p hp => by
        obtain ⟨c, hc, rfl⟩ := List.mem_map.mp hp
        exact (ha c (List.mem_of_mem_take hc)).2.1
      have es : sumL ((as.take (i + 1)).map (·.2)) (0, 1) = addL (sumL ((as.take i).map (·.2)) (0, 1)) b.2 := by
        rw [et, List.map_append]
        show List.foldl addL (0, 1) (_ ++ [b.2]) = _
        rw [List.foldl_append]
        rfl
      obtain ⟨dx2, hx2⟩ := id hx
      refine ⟨.ref x, rfl, x, dx2, _, rfl, hx2, shF_no _ (by decide +kernel) (by decide +kernel), .ref b.1, rfl, rfl, rfl, ?_⟩
      refine ⟨x, b.1, _, _, _, _, rfl, hx, hb1.same s2, bx, hb3, hpos, hb2, by omega, fun u H3 s3 nu hu => ?_⟩
      refine ⟨u, _, rfl, s2.trans s3, s2.free nu, ?_, ?_⟩
      · rw [es]
        exact hu
      · rw [es]
        exact (bd_add bx hb3 hpos hb2).mono (by omega)
    · rintro σ H2 ⟨x, y2, rfl, s2, nx, hx, bx⟩
      rw [List.length_map, List.take_length] at hx
      exact ⟨.ref x, rfl, h x H2 s2 nx hx⟩
end
/-! ### the law's own lowest terms -/
section
variable {P : Program} {w : World} {K : PySem.W.Frag} {mg : Str → Option Value} {base : Heap}
def sp_law_lowest : Sp := fun vs H Q _ => ∃ (a b : Int) (m : Nat), vs = [.int a, .int b] ∧ b ≠ 0 ∧ b.natAbs < 2 ^ m ∧ 0 < m ∧ m ≤ 9000 ∧
  ∀ t, H t = none → Q (.ref t) (upd H t (.tup [.int (low a b).1, .int (low a b).2]))
def restOf : L2.St → Nat
  | [_, _, _, some (.int y)] => y.toNat
  | _ => 0
theorem abs_nat (a : Int) : (if a < 0 then -a else a) = ((a.natAbs : Nat) : Int) := by split <;> omega
theorem ok_law_lowest (T : Txt K mg) : FnOk P w K mg base CX0 1 T.f_law_lowest T.fd_law_lowest ["_law_top", "_law_ground"] sp_law_lowest := by
  refine T.F_law_lowest.ok sc_law_lowest (fun vs H Q E h => ?_) (fun cdv A outer s H vs Q E hr h => ?_)
  · obtain ⟨a, b, m, rfl, _⟩ := h
    rfl
  · obtain ⟨a, b, m, rfl, hb, hm, hm0, hm9, q⟩ := h
    refine ⟨_, (pss_cons
 (ps_par (i := 2) (j := 3) (by rfl) sc_law_lowest.nd rfl rfl (by decide) rfl rfl (pa_cons (pe_callB call_abs (by rfl) T.z_abs (by decide +kernel) (pa_cons (pv 0) pa_nil)) (pa_cons (pe_callB call_abs (by rfl) T.z_abs (by decide +kernel) (pa_cons (pv 1) pa_nil)) pa_nil)) (by rfl))
 (pss_cons
 (ps_while PassesOwn.never (pt_cmpR op_gt (pv 3) pe_int (nomark _))
 (pss_one
 (ps_par (i := 2) (j := 3) (by rfl) sc_law_lowest.nd rfl rfl (by decide) rfl rfl (pa_cons (pv 3) (pa_cons (pe_op op_mod (pv 2) (pv 3)) pa_nil)) (by rfl))))
 (pss_cons
 (ps_if (pt_cmpR op_lt (pv 1) pe_int (nomark _))
 (pss_one
 (ps_set (i := 2) sc_law_lowest.nd rfl (Or.inl rfl) (pe_op op_sub pe_int (pv 2))))
 pss_nil)
 (pss_one
 (ps_ret (pe_tup (pa_cons (pe_op op_fdivX (pv 0) (pv 2)) (pa_cons (pe_op op_fdivX (pv 1) (pv 2)) pa_nil)))))))), ?_⟩
    refine ⟨.int a, rfl, a, rfl, .int b, rfl, b, rfl, _, _, rfl, ?_⟩
    rw [abs_nat, abs_nat]
    refine while_by (fun σ H' => H' = H ∧ ∃ x y : Nat, σ = [some (.int a), some (.int b), some (.int (x : Int)), some (.int (y : Int))] ∧ Nat.gcd x y = Nat.gcd a.natAbs b.natAbs) (fun σ _ => restOf σ) ⟨rfl, _, _, rfl, rfl⟩ ?_
      (fun σ H Q Q' imp ⟨v, h1, i, j, h2, h3, k, h4, h5⟩ => ⟨v, h1, i, j, h2, h3, k, h4, imp _ _ h5⟩)
    rintro σ H1 ⟨rfl, x, y, rfl, hg⟩
    refine ⟨_, rfl, (y : Int), 0, rfl, rfl, _, rfl, ite2 (fun e => ?_) (fun e => ?_)⟩
    · have hy : (0 : Int) < y := of_decide_eq_true e
      refine ⟨_, rfl, _, rfl, _, rfl, (x : Int), (y : Int), rfl, rfl, hy, _, _, rfl, ⟨rfl, y, x % y, ?_, ?_⟩, ?_⟩
      · show [some (V.int a), some (V.int b), some (V.int (y : Int)), some (V.int ((x : Int) % (y : Int)))] = _
        rw [← Int.natCast_emod]
      · rw [gcd_step, hg]
      · show ((x : Int) % (y : Int)).toNat < (y : Int).toNat
        have := Int.emod_lt_of_pos (x : Int) hy
        have := Int.emod_nonneg (x : Int) (show (y : Int) ≠ 0 by omega)
        omega
    · have hy : y = 0 := by
        have : ¬ (0 : Int) < y := fun z => e (decide_eq_true z)
        omega
      subst hy
      rw [Nat.gcd_zero_right] at hg
      have hc0 := cg_ne (a := a) hb
      have hcl : (cg a b).natAbs < 2 ^ m := Nat.lt_of_le_of_lt (cg_le hb) hm
      refine ⟨.int b, rfl, b, 0, rfl, rfl, _, rfl, ite2 (fun e2 => ?_) (fun e2 => ?_)⟩
      · have ec : cg a b = 0 - (x : Int) := by
          unfold cg
          rw [if_pos (of_decide_eq_true e2), ← hg]
          omega
        refine ⟨_, rfl, 0, (x : Int), rfl, rfl, ?_⟩
        refine ⟨.int a, rfl, .int (cg a b), (by rw [ec]; rfl), a, _, rfl, rfl, div_ok hc0 hcl hm0 hm9, .int b, rfl, .int (cg a b), (by rw [ec]; rfl), b, _, rfl, rfl, div_ok hc0 hcl hm0 hm9, line_of (show 2 ≤ 1000 by decide), fun t nt => q t nt⟩
      · have ec : cg a b = (x : Int) := by
          unfold cg
          rw [if_neg (fun z => e2 (decide_eq_true z)), ← hg]
        refine ⟨.int a, rfl, .int (cg a b), (by rw [ec]; rfl), a, _, rfl, rfl, div_ok hc0 hcl hm0 hm9, .int b, rfl, .int (cg a b), (by rw [ec]; rfl), b, _, rfl, rfl, div_ok hc0 hcl hm0 hm9, line_of (show 2 ≤ 1000 by decide), fun t nt => q t nt⟩
end
section
variable {P : Program} {w : World} {K : PySem.W.Frag} {mg : Str → Option Value} {base : Heap}
theorem two (a b : V) (c : Bool) : atI [a, b] (if c = true then 1 else 0) = some (if c = true then b else a) := by
  cases c with
  | true => exact atI_nat (j := 1) rfl
  | false => exact atI_nat (j := 0) rfl
def PairAt (H : Hp) (t : Addr) (r : Int × Int) : Prop := H t = some (.tup [.int r.1, .int r.2])
theorem PairAt.same {H H' : Hp} {t : Addr} {r : Int × Int} (s : Same H H') (h : PairAt H t r) : PairAt H' t r := s _ _ h
/-- a drawn pair, in lowest terms -/
def sp_law_pair : Sp := fun vs H Q _ => ∃ (p : Addr) (x : List V) (k : Nat), vs = [.ref p] ∧ H p = some (.lst x) ∧ WellL x k ∧ k ≤ 900000 ∧
  ∀ (t : Addr) (r : Int × Int) (y : List V) (H' : Hp), Red r → Bd 140 r → But p H H' → H t = none → PairAt H' t r → H' p = some (.lst y) → WellL y (k + 6) → Q (.ref t) H'
theorem big40 : (10 : Int) ^ (40 : Int).toNat = 10000000000000000000000000000000000000000 := by decide +kernel
theorem big39 : (10 : Int) ^ (39 : Int).toNat = 1000000000000000000000000000000000000000 := by decide +kernel
theorem small_bd {x : Int} (h : x.natAbs ≤ 10000000000000000000000000000000000000000) : x.natAbs < 2 ^ 140 := Nat.lt_of_le_of_lt h (by decide +kernel)
theorem ok_law_pair (T : Txt K mg) : FnOk P w K mg base CX0 2 T.f_law_pair T.fd_law_pair ["_law_well_here"] sp_law_pair := by
  refine T.F_law_pair.ok sc_law_pair (fun vs H Q E h => ?_) (fun cdv A outer s H vs Q E hr h => ?_)
  · obtain ⟨p, x, k, rfl, _⟩ := h
    rfl
  · obtain ⟨p, x, k, rfl, hp, hx, hk, q⟩ := h
    refine ⟨_, (pss_cons
 (ps_set (i := 1) sc_law_pair.nd rfl (Or.inl rfl) (pe_ix ix_list (pe_lst (pa_cons (pe_op op_sub (pe_call (ok_law_draw T) (hr.mono (by decide)) (by rfl) T.g_law_draw T.F_law_draw.kp T.b_law_draw .nil pass0 (pa_cons (pv 0) (pa_cons pe_int pa_nil))) pe_int) (pa_cons (pe_op op_sub (pe_call (ok_law_draw T) (hr.mono (by decide)) (by rfl) T.g_law_draw T.F_law_draw.kp T.b_law_draw .nil pass0 (pa_cons (pv 0) (pa_cons (pe_op op_pow pe_int pe_int) pa_nil))) (pe_op op_pow pe_int pe_int)) pa_nil))) (pe_callTy call_int1 (by rfl) T.z_int (by decide +kernel) (pa_cons (pe_cmpR op_eq (pe_call (ok_law_draw T) (hr.mono (by decide)) (by rfl) T.g_law_draw T.F_law_draw.kp T.b_law_draw .nil pass0 (pa_cons (pv 0) (pa_cons pe_int pa_nil))) pe_int (nomark _)) pa_nil)) (fun _ _ => rfl)))
 (pss_cons
 (ps_set (i := 2) sc_law_pair.nd rfl (Or.inl rfl) (pe_op op_add pe_int (pe_ix ix_list (pe_lst (pa_cons (pe_call (ok_law_draw T) (hr.mono (by decide)) (by rfl) T.g_law_draw T.F_law_draw.kp T.b_law_draw .nil pass0 (pa_cons (pv 0) (pa_cons pe_int pa_nil))) (pa_cons (pe_call (ok_law_draw T) (hr.mono (by decide)) (by rfl) T.g_law_draw T.F_law_draw.kp T.b_law_draw .nil pass0 (pa_cons (pv 0) (pa_cons (pe_op op_pow pe_int pe_int) pa_nil))) pa_nil))) (pe_callTy call_int1 (by rfl) T.z_int (by decide +kernel) (pa_cons (pe_cmpR op_eq (pe_call (ok_law_draw T) (hr.mono (by decide)) (by rfl) T.g_law_draw T.F_law_draw.kp T.b_law_draw .nil pass0 (pa_cons (pv 0) (pa_cons pe_int pa_nil))) pe_int (nomark _)) pa_nil)) (fun _ _ => rfl))))
 (pss_one
 (ps_ret (pe_call (ok_law_lowest T) (hr.mono (by decide)) (by rfl) T.g_law_lowest T.F_law_lowest.kp T.b_law_lowest .nil pass0 (pa_cons (pv 1) (pa_cons (pv 2) pa_nil))))))), ?_⟩
    refine ⟨.ref p, rfl, p, 9, x, k, rfl, hp, hx, by omega, by decide, size_ok (by decide) (by decide), fun d1 y1 a1 a2 w1 => ?_⟩
    refine ⟨d1, 4, rfl, rfl, .ref p, rfl, 10, 40, rfl, rfl, ⟨by decide, by decide, by decide⟩, p, _, y1, _, rfl, upd_same, w1, by omega, (by rw [big40]; decide), (by rw [big40]; decide +kernel), fun d2 y2 a3 a4 w2 => ?_⟩
    rw [big40] at a4
    refine ⟨10, 39, rfl, rfl, ⟨by decide, by decide, by decide⟩, d2, _, rfl, rfl, line_of (show 2 ≤ 1000 by decide), fun l1 n1 => ?_⟩
    rw [upd_upd] at n1 ⊢
    have hp1 : p ≠ l1 := fun e => by rw [← e, upd_same] at n1; cases n1
    refine ⟨.ref p, rfl, p, 4, y2, _, rfl, by rw [upd_ne hp1, upd_same], w2, by omega, by decide, size_ok (by decide) (by decide), fun d3 y3 a5 a6 w3 => ?_⟩
    obtain ⟨u, hu, hub⟩ : ∃ u : Int, (if decide (V.int d3 = V.int 3) = true then V.int (d2 - (10 : Int) ^ (39 : Int).toNat) else V.int (d1 - 4)) = V.int u ∧ u.natAbs ≤ 10000000000000000000000000000000000000000 := by
      cases decide (V.int d3 = V.int 3) with
      | true => exact ⟨_, rfl, by rw [big39]; omega⟩
      | false => exact ⟨_, rfl, by omega⟩
    refine ⟨rfl, .inr ⟨_, rfl, l1, _, _, _, rfl, rfl, .of (by rw [upd_ne hp1.symm, upd_same]), (two _ _ _).trans (congrArg some hu), ?_⟩⟩
    have s1 : But p H (upd (upd (upd H p (.lst y2)) l1 (.lst [V.int (d1 - 4), V.int (d2 - (10 : Int) ^ (39 : Int).toNat)])) p (.lst y3)) := (((But.refl p H).upd _).new n1 _).upd _
    -- the ground
    refine ⟨.ref p, rfl, p, 6, y3, _, rfl, upd_same, w3, by omega, by decide, size_ok (by decide) (by decide), fun d4 y4 b1 b2 w4 => ?_⟩
    refine ⟨.ref p, rfl, 10, 40, rfl, rfl, ⟨by decide, by decide, by decide⟩, p, _, y4, _, rfl, upd_same, w4, by omega, (by rw [big40]; decide), (by rw [big40]; decide +kernel), fun d5 y5 b3 b4 w5 => ?_⟩
    rw [big40] at b4
    refine ⟨line_of (show 2 ≤ 1000 by decide), fun l2 n2 => ?_⟩
    rw [upd_upd, upd_upd] at n2 ⊢
    have hp2 : p ≠ l2 := fun e => by rw [← e, upd_same] at n2; cases n2
    refine ⟨.ref p, rfl, p, 4, y5, _, rfl, by rw [upd_ne hp2, upd_same], w5, by omega, by decide, size_ok (by decide) (by decide), fun d6 y6 b5 b6 w6 => ?_⟩
    obtain ⟨v, hv, hv1, hv2⟩ : ∃ v : Int, (if decide (V.int d6 = V.int 3) = true then V.int d5 else V.int d4) = V.int v ∧ 0 ≤ v ∧ v < 10000000000000000000000000000000000000000 := by
      cases decide (V.int d6 = V.int 3) with
      | true => exact ⟨_, rfl, b3, b4⟩
      | false => exact ⟨_, rfl, by omega, by omega⟩
    refine ⟨rfl, .inr ⟨_, rfl, l2, _, _, _, rfl, rfl, .of (by rw [upd_ne hp2.symm, upd_same]), (two _ _ _).trans (congrArg some hv), ?_⟩⟩
    have hg : (1 + v) ≠ 0 := by omega
    refine ⟨1, v, rfl, rfl, .int u, rfl, .int (1 + v), rfl, u, 1 + v, 140, rfl, hg, small_bd (by omega), by decide, by decide, fun t nt => ?_⟩
    have s2 : But p H (upd (upd (upd (upd (upd (upd H p (.lst y2)) l1 (.lst [V.int (d1 - 4), V.int (d2 - (10 : Int) ^ (39 : Int).toNat)])) p (.lst y5)) l2 (.lst [V.int d4, V.int d5])) p (.lst y6)) t (.tup [V.int (low u (1 + v)).1, V.int (low u (1 + v)).2])) := by
      have s3 := (((s1.upd (.lst y5)).new (q := l2) (by rw [upd_upd]; exact n2) (.lst [V.int d4, V.int d5])).upd (.lst y6))
      rw [upd_upd] at s3
      exact s3.new nt _
    have hpt : p ≠ t := fun e => by rw [← e, upd_same] at nt; cases nt
    have ht : H t = none := by
      cases eh : H t with
      | none => rfl
      | some o =>
        have := s2 t o hpt.symm eh
        have s4 : But p H (upd (upd (upd (upd (upd H p (.lst y2)) l1 (.lst [V.int (d1 - 4), V.int (d2 - (10 : Int) ^ (39 : Int).toNat)])) p (.lst y5)) l2 (.lst [V.int d4, V.int d5])) p (.lst y6)) := by
          have s3 := (((s1.upd (.lst y5)).new (q := l2) (by rw [upd_upd]; exact n2) (.lst [V.int d4, V.int d5])).upd (.lst y6))
          rw [upd_upd] at s3
          exact s3
        rw [s4 t o hpt.symm eh] at nt
        cases nt
    exact q t (low u (1 + v)) y6 _ (low_red hg) (bd_low hg (small_bd hub) (small_bd (by omega))) s2 ht upd_same (by rw [upd_ne hpt, upd_same]) (w6.mono (by omega))
/-- one over the other, as a tuple -/
def sp_law_by (C : Addr) : Sp := fun vs H Q _ => ∃ (p q : Addr) (r s : Int × Int) (n m : Nat), vs = [.ref p, .ref q] ∧ ShAt C H p r ∧ ShAt C H q s ∧ Bd n r ∧ Bd m s ∧ 0 < r.2 ∧ 0 < s.2 ∧ n + m + 1 ≤ 8000 ∧
  ∀ (t : Addr) (H' : Hp), Same H H' → (s.1 = 0 → H' t = some (.tup [.str "none", .int r.1, .int 0])) → (s.1 ≠ 0 → H' t = some (.tup [.int (low (r.1 * s.2) (r.2 * s.1)).1, .int (low (r.1 * s.2) (r.2 * s.1)).2])) → Q (.ref t) H'
theorem ok_law_by (T : Txt K mg) : FnOk P w K mg base CX0 7 T.f_law_by T.fd_law_by ["_law_one_here", "_law_second"] (sp_law_by T.C_Share) := by
  refine T.F_law_by.ok sc_law_by (fun vs H Q E h => ?_) (fun cdv A outer s H vs Q E hr h => ?_)
  · obtain ⟨p, q, r, u, n, m, rfl, _⟩ := h
    rfl
  · obtain ⟨p, q, r, u, n, m, rfl, hp, hq, br, bs, r0, s0, hnm, h⟩ := h
    refine ⟨_, (pss_cons
 (ps_set (i := 2) sc_law_by.nd rfl (Or.inl rfl) pe_non)
 (pss_cons
 (ps_try_as (i := 4) rfl rfl sc_law_by.nd rfl rfl ⟨rfl, by decide, Or.inl T.k_NoShare⟩ takes0
 (fun W pn xe tk _ => (by have h := ((pss_cons
 (ps_set (i := 3) sc_law_by.nd rfl (Or.inl rfl) (pm_pos (pv 0) T.cl_Share T.me_Share_by (ok_Share_by T) (hr.mono (by decide)) T.kb_Share_by_2 (fun σ => atE tk σ) (pa_cons (pv 1) pa_nil)))
 (pss_one
 (ps_set (i := 2) sc_law_by.nd rfl (Or.inl rfl) (pe_tup (pa_cons (pe_fld (pv 3) rfl) (pa_cons (pe_fld (pv 3) rfl) pa_nil)))))) : PSs ((cxOf CX0 P w K mg base ["_law_one_here", "_law_second", "_law_found", "_law_share", "e"] "_law_by" (defScope s_law_by) T.f_law_by cdv A outer s H E).nox.tr pn xe) (blkOf ((defBody s_law_by).getD 1 (.Pass ⟨0, 0, 0, 0⟩)) 0) _); dsimp only [Cx.tr, Cx.suite, Cx.nox, Cx.wish, cxOf] at h; exact h))
 (fun a oe cls d pn hz hf => (by have h := ((pss_one
 (ps_set (i := 2) sc_law_by.nd rfl (Or.inl rfl) (pe_tup (pa_cons pe_str (pa_cons (pe_xf T.xf_NoShare T.nf_NoShare_num hz hf (pv 4)) (pa_cons (pe_xf T.xf_NoShare T.nf_NoShare_over hz hf (pv 4)) pa_nil)))))) : PSs ((cxOf CX0 P w K mg base ["_law_one_here", "_law_second", "_law_found", "_law_share", "e"] "_law_by" (defScope s_law_by) T.f_law_by cdv A outer s H E).nox.suite a ((a, oe) :: pn)) (blkOf ((defBody s_law_by).getD 1 (.Pass ⟨0, 0, 0, 0⟩)) 1) _); dsimp only [Cx.tr, Cx.suite, Cx.nox, Cx.wish, cxOf] at h; exact h)))
 (pss_one
 (ps_ret (pv 2))))), ?_⟩
    obtain ⟨dp, hp'⟩ := id hp
    refine ⟨.ref p, rfl, p, dp, _, rfl, hp', shF_no _ (by decide +kernel) (by decide +kernel), .ref q, rfl, rfl, rfl, p, q, r, u, n, m, rfl, hp, hq, br, bs, r0, s0, hnm, fun z d fs H' s1 nd hd hf => ?_, fun z x H' s1 nx hx => ?_⟩
    · refine ⟨true, T.te_NoShare_NoShare, fun _ a _ => ?_, fun q => Bool.noConfusion q⟩
      refine ⟨.ref a, rfl, rfl, rfl, d, fs, _, rfl, hd, hf.1, .ref a, rfl, rfl, rfl, d, fs, _, rfl, hd, hf.2, line_of (show 3 ≤ 1000 by decide), fun t nt => ?_⟩
      exact ⟨.ref t, rfl, h t _ (s1.trans (same_upd nt)) (fun _ => upd_same) (fun y => absurd z y)⟩
    · obtain ⟨dx, hx⟩ := hx
      refine ⟨.ref x, rfl, x, T.C_Share, dx, _, .int (low (r.1 * u.2) (r.2 * u.1)).1, rfl, hx, T.cl_Share, T.n_Share_num, shF_num _, .ref x, rfl, x, T.C_Share, dx, _, .int (low (r.1 * u.2) (r.2 * u.1)).2, rfl, hx, T.cl_Share, T.n_Share_over, shF_over _, line_of (show 2 ≤ 1000 by decide), fun t nt => ?_⟩
      exact ⟨.ref t, rfl, h t _ (s1.trans (same_upd nt)) (fun y => absurd y z) (fun _ => upd_same)⟩
/-! ### two shares held against their pairs -/
def pd (r : Int × Int) : PyData := .tuple [.int r.1, .int r.2]
theorem dp_pair {H : Hp} {t : Addr} {r : Int × Int} (h : PairAt H t r) : Dp K H (.ref t) (pd r) := .tup (.of h) (.cons (.int _) (.cons (.int _) .nil))
theorem dp_pairs {H : Hp} : ∀ ts : List (Addr × (Int × Int)), (∀ t ∈ ts, PairAt H t.1 t.2) → DpAll K H (ts.map fun t => V.ref t.1) (ts.map fun t => pd t.2)
  | [], _ => .nil
  | t :: r, h => .cons (dp_pair (h t List.mem_cons_self)) (dp_pairs r fun u hu => h u (List.mem_cons_of_mem _ hu))
theorem lay_pairs : ∀ vs : List (Int × Int), PyData.canLayAll0 (vs.map pd) = true ∧ PyData.depthAll (vs.map pd) ≤ 1
  | [] => ⟨rfl, by decide⟩
  | v :: r => by
    obtain ⟨h1, h2⟩ := lay_pairs r
    constructor
    · rw [List.map_cons, PyData.canLayAll0, h1]
      rfl
    · rw [List.map_cons, PyData.depthAll]
      have : PyData.depth (pd v) = 1 := rfl
      omega
theorem shaped_pairs (vs : List (Int × Int)) : SeqAt.shaped (.list (vs.map pd)) = true := by
  obtain ⟨h1, h2⟩ := lay_pairs vs
  unfold SeqAt.shaped
  rw [PyData.canLay0, h1, PyData.depth]
  simp only [Bool.true_and, decide_eq_true_eq]
  omega
theorem eqv_same (d : PyData) (h : SeqAt.shaped d = true) : PyData.eqv d d = true := SeqAt.eqv_refl d (SeqAt.canLay_of_shaped h)
/-- a pair's tuple, its share, its value -/
abbrev Trio := Addr × Addr × (Int × Int)
def TrioOk (C : Addr) (H : Hp) (x : Trio) : Prop := PairAt H x.1 x.2.2 ∧ ShAt C H x.2.1 x.2.2 ∧ Red x.2.2 ∧ Bd 140 x.2.2
theorem TrioOk.same {C : Addr} {H H' : Hp} {x : Trio} (s : Same H H') (h : TrioOk C H x) : TrioOk C H' x := ⟨h.1.same s, h.2.1.same s, h.2.2⟩
theorem shaped_none (n : Int) : SeqAt.shaped (.tuple [.str "none", .int n, .int 0]) = true := by
  unfold SeqAt.shaped
  have h : PyData.strOk ("none" : Str) = true := by decide +kernel
  simp only [PyData.canLay0, PyData.canLayAll0, h, PyData.depth, PyData.depthAll]
  rfl
def sp_law_two_right (K : PySem.W.Frag) (C : Addr) : Sp := fun vs H Q _ => ∃ (lp ls : Addr) (as : List Trio) (i j : Nat) (x y : Trio), vs = [.ref lp, .ref ls, .int i, .int j] ∧ SqL K H lp (as.map fun a => V.ref a.1) ∧ SqL K H ls (as.map fun a => V.ref a.2.1) ∧
  as[i]? = some x ∧ as[j]? = some y ∧ TrioOk C H x ∧ TrioOk C H y ∧ ∀ H', Same H H' → Q (.bl true) H'
theorem get_map {α β : Type} {l : List α} {i : Nat} {x : α} (f : α → β) (h : l[i]? = some x) : (l.map f)[i]? = some (f x) := by
  rw [List.getElem?_map, h]
  rfl
theorem nf_own (C : Addr) : PySem.W.notFirst K C (.ref C) = true := by simp [PySem.W.notFirst]
theorem ok_law_two_right (T : Txt K mg) : FnOk P w K mg base CX0 8 T.f_law_two_right T.fd_law_two_right ["_law_pairs", "_law_shares", "_law_k", "_law_j"] (sp_law_two_right K T.C_Share) := by
  refine T.F_law_two_right.ok sc_law_two_right (fun vs H Q E h => ?_) (fun cdv A outer s H vs Q E hr h => ?_)
  · obtain ⟨lp, ls, as, i, j, x, y, rfl, _⟩ := h
    rfl
  · obtain ⟨lp, ls, as, i, j, ⟨ta, sa, r⟩, ⟨tb, sb, u⟩, rfl, hlp, hls, hi, hj, ⟨ha, hsa, ra, ba⟩, ⟨hb, hsb, rb, bb⟩, q⟩ := h
    dsimp only at ha hsa ra ba hb hsb rb bb
    refine ⟨_, (pss_cons
 (ps_par (i := 4) (j := 5) (by rfl) sc_law_two_right.nd rfl rfl (by decide) rfl rfl (pa_cons (pe_ix ix_list (pv 0) (pv 2) (fun _ _ => rfl)) (pa_cons (pe_ix ix_list (pv 0) (pv 3) (fun _ _ => rfl)) pa_nil)) (by rfl))
 (pss_cons
 (ps_par (i := 6) (j := 7) (by rfl) sc_law_two_right.nd rfl rfl (by decide) rfl rfl (pa_cons (pe_ix ix_list (pv 1) (pv 2) (fun _ _ => rfl)) (pa_cons (pe_ix ix_list (pv 1) (pv 3) (fun _ _ => rfl)) pa_nil)) (by rfl))
 (pss_cons
 (ps_set (i := 8) sc_law_two_right.nd rfl (Or.inl rfl) (pe_lst (pa_cons (pm_pos (pv 6) T.cl_Share T.me_Share_plus (ok_Share_plus T) (hr.mono (by decide)) T.kb_Share_plus_2 (fun σ => at0 σ) (pa_cons (pv 7) pa_nil)) (pa_cons (pm_pos (pv 6) T.cl_Share T.me_Share_less (ok_Share_less T) (hr.mono (by decide)) T.kb_Share_less_2 (fun σ => at0 σ) (pa_cons (pv 7) pa_nil)) (pa_cons (pm_pos (pv 6) T.cl_Share T.me_Share_times (ok_Share_times T) (hr.mono (by decide)) T.kb_Share_times_2 (fun σ => at0 σ) (pa_cons (pv 7) pa_nil)) (pa_cons (pm_kw (pv 6) T.cl_Share T.me_Share_plus (ok_Share_plus T) (hr.mono (by decide)) T.kb_Share_plus_1_other (fun σ => at0 σ) (pk_cons (pv 7) pk_nil)) (pa_cons (pm_kw (pv 6) T.cl_Share T.me_Share_less (ok_Share_less T) (hr.mono (by decide)) T.kb_Share_less_1_other (fun σ => at0 σ) (pk_cons (pv 7) pk_nil)) pa_nil)))))))
 (pss_cons
 (ps_setLc (i := 9) (own := [("_law_share", 13)]) (g := gName 13) (tt := tYes) rfl sc_law_two_right.nd rfl rfl (sw_true rfl rfl rfl (by decide +kernel)) (pi_list (pv 8)) (blkOk_by (own := [("_law_share", 13)]) (N := ["_law_pairs", "_law_shares", "_law_k", "_law_j", "_law_a", "_law_b", "_law_one_here", "_law_second", "_law_found", "_law_told", "_law_plus", "_law_less", "_law_times", "_law_share"]) (sc := defScope s_law_two_right) (by decide +kernel)) (fun _ _ _ _ _ => pg_name (i := 13) sc_law_two_right.nd rfl (Or.inl rfl)) (fun _ _ _ _ _ => pts_nil) (fun s0 H0 C0 cl0 fp0 => (by have h := ((pe_tup (pa_cons (pe_fld (pv 13) rfl) (pa_cons (pe_fld (pv 13) rfl) pa_nil))) : PE ((cxOf CX0 P w K mg base ["_law_pairs", "_law_shares", "_law_k", "_law_j", "_law_a", "_law_b", "_law_one_here", "_law_second", "_law_found", "_law_told", "_law_plus", "_law_less", "_law_times", "_law_share"] "_law_two_right" (defScope s_law_two_right) T.f_law_two_right cdv A outer s H E).nox.blk s0 H0 (lcScope (rootE ((defBody s_law_two_right).getD 3 (.Pass ⟨0, 0, 0, 0⟩)))) (compEnvC (lcScope (rootE ((defBody s_law_two_right).getD 3 (.Pass ⟨0, 0, 0, 0⟩)))) cl0 C0 (cxOf CX0 P w K mg base ["_law_pairs", "_law_shares", "_law_k", "_law_j", "_law_a", "_law_b", "_law_one_here", "_law_second", "_law_found", "_law_told", "_law_plus", "_law_less", "_law_times", "_law_share"] "_law_two_right" (defScope s_law_two_right) T.f_law_two_right cdv A outer s H E).nox.env) fp0) (subE (rootE ((defBody s_law_two_right).getD 3 (.Pass ⟨0, 0, 0, 0⟩))) 0) _); dsimp only [Cx.blk, Cx.tr, Cx.suite, Cx.nox, Cx.wish, cxOf] at h; exact h)))
 (pss_cons
 (ps_set (i := 10) sc_law_two_right.nd rfl (Or.inl rfl) (pe_call (ok_law_lowest T) (hr.mono (by decide)) (by rfl) T.g_law_lowest T.F_law_lowest.kp T.b_law_lowest .nil pass0 (pa_cons (pe_op op_add (pe_op op_mulW (pe_ix ix_tup (pv 4) pe_int (fun _ _ => rfl)) (pe_ix ix_tup (pv 5) pe_int (fun _ _ => rfl))) (pe_op op_mulW (pe_ix ix_tup (pv 5) pe_int (fun _ _ => rfl)) (pe_ix ix_tup (pv 4) pe_int (fun _ _ => rfl)))) (pa_cons (pe_op op_mulW (pe_ix ix_tup (pv 4) pe_int (fun _ _ => rfl)) (pe_ix ix_tup (pv 5) pe_int (fun _ _ => rfl))) pa_nil))))
 (pss_cons
 (ps_set (i := 11) sc_law_two_right.nd rfl (Or.inl rfl) (pe_call (ok_law_lowest T) (hr.mono (by decide)) (by rfl) T.g_law_lowest T.F_law_lowest.kp T.b_law_lowest .nil pass0 (pa_cons (pe_op op_sub (pe_op op_mulW (pe_ix ix_tup (pv 4) pe_int (fun _ _ => rfl)) (pe_ix ix_tup (pv 5) pe_int (fun _ _ => rfl))) (pe_op op_mulW (pe_ix ix_tup (pv 5) pe_int (fun _ _ => rfl)) (pe_ix ix_tup (pv 4) pe_int (fun _ _ => rfl)))) (pa_cons (pe_op op_mulW (pe_ix ix_tup (pv 4) pe_int (fun _ _ => rfl)) (pe_ix ix_tup (pv 5) pe_int (fun _ _ => rfl))) pa_nil))))
 (pss_cons
 (ps_set (i := 12) sc_law_two_right.nd rfl (Or.inl rfl) (pe_call (ok_law_lowest T) (hr.mono (by decide)) (by rfl) T.g_law_lowest T.F_law_lowest.kp T.b_law_lowest .nil pass0 (pa_cons (pe_op op_mulW (pe_ix ix_tup (pv 4) pe_int (fun _ _ => rfl)) (pe_ix ix_tup (pv 5) pe_int (fun _ _ => rfl))) (pa_cons (pe_op op_mulW (pe_ix ix_tup (pv 4) pe_int (fun _ _ => rfl)) (pe_ix ix_tup (pv 5) pe_int (fun _ _ => rfl))) pa_nil))))
 (pss_cons
 (ps_if (PW.pt (pw_or (pt_cmpR (op_neD hr.units) (pv 9) (pe_lst (pa_cons (pv 10) (pa_cons (pv 11) (pa_cons (pv 12) (pa_cons (pv 10) (pa_cons (pv 11) pa_nil)))))) (nomark _)) (pw_or1 (pt_cmpR op_ne (pm_pos (pv 6) T.cl_Share T.me_Share_below (ok_Share_below T) (hr.mono (by decide)) T.kb_Share_below_2 (fun σ => at0 σ) (pa_cons (pv 7) pa_nil)) (pe_cmpR op_lt (pe_op op_mulW (pe_ix ix_tup (pv 4) pe_int (fun _ _ => rfl)) (pe_ix ix_tup (pv 5) pe_int (fun _ _ => rfl))) (pe_op op_mulW (pe_ix ix_tup (pv 5) pe_int (fun _ _ => rfl)) (pe_ix ix_tup (pv 4) pe_int (fun _ _ => rfl))) (nomark _)) (nomark _)))))
 (pss_one
 (ps_ret pe_bl))
 pss_nil)
 (pss_cons
 (ps_if (PW.pt (pw_or (pt_cmpR (op_neO T.eo_Share (ok_Share_eq T) (hr.mono (by decide)) T.b_Share_eq pass0) (pm_kw (pv 6) T.cl_Share T.me_Share_times (ok_Share_times T) (hr.mono (by decide)) T.kb_Share_times_1_other (fun σ => at0 σ) (pk_cons (pv 7) pk_nil)) (pm_pos (pv 6) T.cl_Share T.me_Share_times (ok_Share_times T) (hr.mono (by decide)) T.kb_Share_times_2 (fun σ => at0 σ) (pa_cons (pv 7) pa_nil)) (nomark _)) (pw_or1 (pt_cmpR op_ne (pm_kw (pv 6) T.cl_Share T.me_Share_below (ok_Share_below T) (hr.mono (by decide)) T.kb_Share_below_1_other (fun σ => at0 σ) (pk_cons (pv 7) pk_nil)) (pm_pos (pv 6) T.cl_Share T.me_Share_below (ok_Share_below T) (hr.mono (by decide)) T.kb_Share_below_2 (fun σ => at0 σ) (pa_cons (pv 7) pa_nil)) (nomark _)))))
 (pss_one
 (ps_ret pe_bl))
 pss_nil)
 (pss_cons
 (ps_if (PW.pt (pw_and (pt_cmpR op_ne (pe_ix ix_tup (pv 5) pe_int (fun _ _ => rfl)) pe_int (nomark _)) (pw_and1 (pt_cmpR (op_neO T.eo_Share (ok_Share_eq T) (hr.mono (by decide)) T.b_Share_eq pass0) (pm_kw (pv 6) T.cl_Share T.me_Share_by (ok_Share_by T) (hr.mono (by decide)) T.kb_Share_by_1_other (fun σ => atN σ) (pk_cons (pv 7) pk_nil)) (pm_pos (pv 6) T.cl_Share T.me_Share_by (ok_Share_by T) (hr.mono (by decide)) T.kb_Share_by_2 (fun σ => atN σ) (pa_cons (pv 7) pa_nil)) (nomark _)))))
 (pss_one
 (ps_ret pe_bl))
 pss_nil)
 (pss_cons
 (ps_if (pt_cmpR op_eq (pe_ix ix_tup (pv 5) pe_int (fun _ _ => rfl)) pe_int (nomark _))
 (pss_one
 (ps_ret (pe_cmpR (op_eqD hr.units) (pe_call (ok_law_by T) (hr.mono (by decide)) (by rfl) T.g_law_by T.F_law_by.kp T.b_law_by .nil pass0 (pa_cons (pv 6) (pa_cons (pv 7) pa_nil))) (pe_tup (pa_cons pe_str (pa_cons (pe_ix ix_tup (pv 4) pe_int (fun _ _ => rfl)) (pa_cons pe_int pa_nil)))) (nomark _))))
 pss_nil)
 (pss_one
 (ps_ret (pe_cmpR (op_eqD hr.units) (pe_call (ok_law_by T) (hr.mono (by decide)) (by rfl) T.g_law_by T.F_law_by.kp T.b_law_by .nil pass0 (pa_cons (pv 6) (pa_cons (pv 7) pa_nil))) (pe_call (ok_law_lowest T) (hr.mono (by decide)) (by rfl) T.g_law_lowest T.F_law_lowest.kp T.b_law_lowest .nil pass0 (pa_cons (pe_op op_mulW (pe_ix ix_tup (pv 4) pe_int (fun _ _ => rfl)) (pe_ix ix_tup (pv 5) pe_int (fun _ _ => rfl))) (pa_cons (pe_op op_mulW (pe_ix ix_tup (pv 4) pe_int (fun _ _ => rfl)) (pe_ix ix_tup (pv 5) pe_int (fun _ _ => rfl))) pa_nil))) (nomark _))))))))))))))), ?_⟩
    have li := atI_nat (get_map (fun a : Trio => V.ref a.1) hi)
    have lj := atI_nat (get_map (fun a : Trio => V.ref a.1) hj)
    have ki := atI_nat (get_map (fun a : Trio => V.ref a.2.1) hi)
    have kj := atI_nat (get_map (fun a : Trio => V.ref a.2.1) hj)
    refine ⟨.ref lp, rfl, .int i, rfl, lp, _, i, _, rfl, rfl, hlp, li, .ref lp, rfl, .int j, rfl, lp, _, j, _, rfl, rfl, hlp, lj, _, _, rfl, ?_⟩
    refine ⟨.ref ls, rfl, .int i, rfl, ls, _, i, _, rfl, rfl, hls, ki, .ref ls, rfl, .int j, rfl, ls, _, j, _, rfl, rfl, hls, kj, _, _, rfl, ?_⟩
    -- the five shares
    obtain ⟨da, hsa'⟩ := id hsa
    refine ⟨.ref sa, rfl, sa, da, _, rfl, hsa', shF_no _ (by decide +kernel) (by decide +kernel), .ref sb, rfl, rfl, rfl, sa, sb, r, u, 140, 140, rfl, hsa, hsb, ba, bb, ra.1, rb.1, by decide, fun x1 H1 s1 n1 h1 => ?_⟩
    refine ⟨.ref sa, rfl, sa, da, _, rfl, s1 _ _ hsa', shF_no _ (by decide +kernel) (by decide +kernel), .ref sb, rfl, rfl, rfl, sa, sb, r, u, 140, 140, rfl, hsa.same s1, hsb.same s1, ba, bb, ra.1, rb.1, by decide, fun x2 H2 s2' n2 h2 => ?_⟩
    have s2 := s1.trans s2'
    refine ⟨.ref sa, rfl, sa, da, _, rfl, s2 _ _ hsa', shF_no _ (by decide +kernel) (by decide +kernel), .ref sb, rfl, rfl, rfl, sa, sb, r, u, 140, 140, rfl, hsa.same s2, hsb.same s2, ba, bb, ra.1, rb.1, by decide, fun x3 H3 s3' n3 h3 => ?_⟩
    have s3 := s2.trans s3'
    refine ⟨.ref sa, rfl, sa, da, _, rfl, s3 _ _ hsa', shF_no _ (by decide +kernel) (by decide +kernel), .ref sb, rfl, rfl, rfl, sa, sb, r, u, 140, 140, rfl, hsa.same s3, hsb.same s3, ba, bb, ra.1, rb.1, by decide, fun x4 H4 s4' n4 h4 => ?_⟩
    have s4 := s3.trans s4'
    refine ⟨.ref sa, rfl, sa, da, _, rfl, s4 _ _ hsa', shF_no _ (by decide +kernel) (by decide +kernel), .ref sb, rfl, rfl, rfl, sa, sb, r, u, 140, 140, rfl, hsa.same s4, hsb.same s4, ba, bb, ra.1, rb.1, by decide, fun x5 H5 s5' n5 h5 => ?_⟩
    have s5 := s4.trans s5'
    refine ⟨line_of (show 5 ≤ 1000 by decide), fun lf nf => ?_⟩
    generalize hPl : low (r.1 * u.2 + u.1 * r.2) (r.2 * u.2) = pl at h1 h4
    generalize hLe : low (r.1 * u.2 - u.1 * r.2) (r.2 * u.2) = le at h2 h5
    generalize hTi : low (r.1 * u.1) (r.2 * u.2) = ti at h3
    have s6 := s5.trans (same_upd (o := HO.lst [V.ref x1, V.ref x2, V.ref x3, V.ref x4, V.ref x5]) nf)
    have hfd : ∀ f ∈ [(x1, pl), (x2, le), (x3, ti), (x4, pl), (x5, le)], ShAt T.C_Share (upd H5 lf (.lst [V.ref x1, V.ref x2, V.ref x3, V.ref x4, V.ref x5])) f.1 f.2 := by
      have z := same_upd (o := HO.lst [V.ref x1, V.ref x2, V.ref x3, V.ref x4, V.ref x5]) nf
      exact List.forall_mem_cons.mpr ⟨h1.same (((s2'.trans s3').trans (s4'.trans s5')).trans z), List.forall_mem_cons.mpr ⟨h2.same ((s3'.trans (s4'.trans s5')).trans z), List.forall_mem_cons.mpr ⟨h3.same ((s4'.trans s5').trans z),
        List.forall_mem_cons.mpr ⟨h4.same (s5'.trans z), List.forall_mem_cons.mpr ⟨h5.same z, fun _ h => (by cases h)⟩⟩⟩⟩⟩
    have hlf : (upd H5 lf (.lst [V.ref x1, V.ref x2, V.ref x3, V.ref x4, V.ref x5])) lf = some (.lst ([(x1, pl), (x2, le), (x3, ti), (x4, pl), (x5, le)].map fun f => V.ref f.1)) := upd_same
    generalize hfs : [(x1, pl), (x2, le), (x3, ti), (x4, pl), (x5, le)] = fs at hfd hlf
    generalize hH6 : upd H5 lf (.lst [V.ref x1, V.ref x2, V.ref x3, V.ref x4, V.ref x5]) = H6 at hfd hlf s6
    refine ⟨.ref lf, rfl, lf, rfl, ⟨_, .of hlf⟩, fun D nD => ?_⟩
    refine lc_list (K := K) (a := lf) (xs := fs.map fun f => V.ref f.1) (fun k H' => Same H6 H' ∧ ∃ ts : List (Addr × (Int × Int)), ts.map (·.2) = (fs.take k).map (·.2) ∧ H' D = some (.lst (ts.map fun t => V.ref t.1)) ∧ ∀ t ∈ ts, PairAt H' t.1 t.2)
      ⟨same_upd nD, [], rfl, upd_same, fun _ h => (by cases h)⟩ (fun _ _ _ h => .of (h.1 _ _ hlf)) ?_ ?_
    · rintro k v H7 hk ⟨z7, ts, et, hD, hts⟩
      obtain ⟨f, hf, rfl⟩ : ∃ f, fs[k]? = some f ∧ v = V.ref f.1 := by
        rw [List.getElem?_map] at hk
        cases e : fs[k]? with
        | none => rw [e] at hk; cases hk
        | some b => rw [e] at hk; exact ⟨b, rfl, (Option.some.inj hk).symm⟩
      obtain ⟨df, hfs'⟩ := (hfd f (List.mem_of_getElem? hf)).same z7
      have hk5 : k < 5 := by
        have := (List.getElem?_eq_some_iff.mp hf).1
        rw [← hfs] at this
        exact this
      have hDf : ∀ o, (upd H7 D o) D = some o := fun o => upd_same
      refine ⟨rfl, .ref f.1, rfl, f.1, T.C_Share, df, _, .int f.2.1, rfl, hfs', T.cl_Share, T.n_Share_num, shF_num _, .ref f.1, rfl, f.1, T.C_Share, df, _, .int f.2.2, rfl, hfs', T.cl_Share, T.n_Share_over, shF_over _, line_of (show 2 ≤ 1000 by decide), fun t nt => ?_⟩
      have htD : D ≠ t := ne_of_none hD nt
      refine ⟨ts.map fun t => V.ref t.1, by rw [upd_ne htD]; exact hD, ?_, same_mut (z7.trans (same_upd nt)) nD, ts ++ [(t, f.2)], ?_, ?_, ?_⟩
      · have e := congrArg List.length et
        rw [List.length_map, List.length_map, List.length_take] at e
        rw [List.length_map]
        exact small1000 (by omega)
      · rw [take_more hf, List.map_append, List.map_append, et]
        rfl
      · rw [upd_same, List.map_append]
        rfl
      · intro x hx
        rcases List.mem_append.mp hx with h | h
        · have h8 := hts x h
          have n1 : x.1 ≠ D := fun e => by
            unfold PairAt at h8
            rw [e, hD] at h8
            cases h8
          unfold PairAt at h8 ⊢
          rw [upd_ne n1, upd_ne (ne_of_none h8 nt)]
          exact h8
        · have e : x = (t, f.2) := by simpa using h
          rw [e]
          unfold PairAt
          rw [upd_ne htD.symm, upd_same]
    · rintro H7 ⟨z7, ts, et, hD, hts⟩
      rw [List.length_map, List.take_length] at et
      have s7 := s6.trans z7
      have ha7 := s7 _ _ ha
      have hb7 := s7 _ _ hb
      -- plus
      have m1 : CMulW r.1 u.2 := mulOk ba.1 bb.2 (by decide)
      have m2 : CMulW u.1 r.2 := mulOk bb.1 ba.2 (by decide)
      have m3 : CMulW r.2 u.2 := mulOk ba.2 bb.2 (by decide)
      have m4 : CMulW r.1 u.1 := mulOk ba.1 bb.1 (by decide)
      have m5 : CMulW r.2 u.1 := mulOk ba.2 bb.1 (by decide)
      have hne : r.2 * u.2 ≠ 0 := by have := Int.mul_pos ra.1 rb.1; omega
      have hbd : (r.2 * u.2).natAbs < 2 ^ 280 := mul_lt ba.2 bb.2
      -- the law's own three
      refine ⟨.ref ta, rfl, ta, _, 0, .int r.1, rfl, rfl, .of ha7, atI_nat (j := 0) rfl, .ref tb, rfl, tb, _, 1, .int u.2, rfl, rfl, .of hb7, atI_nat (j := 1) rfl, _, _, rfl, rfl, m1, .ref tb, rfl, tb, _, 0, .int u.1, rfl, rfl, .of hb7, atI_nat (j := 0) rfl, .ref ta, rfl, ta, _, 1, .int r.2, rfl, rfl, .of ha7, atI_nat (j := 1) rfl, _, _, rfl, rfl, m2, _, _, rfl, rfl, ?_⟩
      refine ⟨.ref ta, rfl, ta, _, 1, .int r.2, rfl, rfl, .of ha7, atI_nat (j := 1) rfl, .ref tb, rfl, tb, _, 1, .int u.2, rfl, rfl, .of hb7, atI_nat (j := 1) rfl, _, _, rfl, rfl, m3, _, _, 280, rfl, hne, hbd, by decide, by decide, fun t1 k1 => ?_⟩
      rw [hPl]
      have z1 := same_upd (o := HO.tup [V.int pl.1, V.int pl.2]) k1
      have ha8 := z1 _ _ ha7
      have hb8 := z1 _ _ hb7
      refine ⟨.ref ta, rfl, ta, _, 0, .int r.1, rfl, rfl, .of ha8, atI_nat (j := 0) rfl, .ref tb, rfl, tb, _, 1, .int u.2, rfl, rfl, .of hb8, atI_nat (j := 1) rfl, _, _, rfl, rfl, m1, .ref tb, rfl, tb, _, 0, .int u.1, rfl, rfl, .of hb8, atI_nat (j := 0) rfl, .ref ta, rfl, ta, _, 1, .int r.2, rfl, rfl, .of ha8, atI_nat (j := 1) rfl, _, _, rfl, rfl, m2, _, _, rfl, rfl, ?_⟩
      refine ⟨.ref ta, rfl, ta, _, 1, .int r.2, rfl, rfl, .of ha8, atI_nat (j := 1) rfl, .ref tb, rfl, tb, _, 1, .int u.2, rfl, rfl, .of hb8, atI_nat (j := 1) rfl, _, _, rfl, rfl, m3, _, _, 280, rfl, hne, hbd, by decide, by decide, fun t2 k2 => ?_⟩
      rw [hLe]
      have z2 := same_upd (o := HO.tup [V.int le.1, V.int le.2]) k2
      have ha9 := z2 _ _ ha8
      have hb9 := z2 _ _ hb8
      refine ⟨.ref ta, rfl, ta, _, 0, .int r.1, rfl, rfl, .of ha9, atI_nat (j := 0) rfl, .ref tb, rfl, tb, _, 0, .int u.1, rfl, rfl, .of hb9, atI_nat (j := 0) rfl, _, _, rfl, rfl, m4, ?_⟩
      refine ⟨.ref ta, rfl, ta, _, 1, .int r.2, rfl, rfl, .of ha9, atI_nat (j := 1) rfl, .ref tb, rfl, tb, _, 1, .int u.2, rfl, rfl, .of hb9, atI_nat (j := 1) rfl, _, _, rfl, rfl, m3, _, _, 280, rfl, hne, hbd, by decide, by decide, fun t3 k3 => ?_⟩
      rw [hTi]
      have z3 := same_upd (o := HO.tup [V.int ti.1, V.int ti.2]) k3
      -- told != [..]
      refine ⟨.ref D, rfl, .ref t1, rfl, .ref t2, rfl, .ref t3, rfl, .ref t1, rfl, .ref t2, rfl, line_of (show 5 ≤ 1000 by decide), fun l nl => ?_⟩
      have z4 := same_upd (o := HO.lst [V.ref t1, V.ref t2, V.ref t3, V.ref t1, V.ref t2]) nl
      have z14 := ((z1.trans z2).trans z3).trans z4
      have p1 : PairAt (upd (upd (upd (upd H7 t1 (.tup [V.int pl.1, V.int pl.2])) t2 (.tup [V.int le.1, V.int le.2])) t3 (.tup [V.int ti.1, V.int ti.2])) l (.lst [V.ref t1, V.ref t2, V.ref t3, V.ref t1, V.ref t2])) t1 pl := ((z2.trans z3).trans z4) _ _ upd_same
      have p2 : PairAt (upd (upd (upd (upd H7 t1 (.tup [V.int pl.1, V.int pl.2])) t2 (.tup [V.int le.1, V.int le.2])) t3 (.tup [V.int ti.1, V.int ti.2])) l (.lst [V.ref t1, V.ref t2, V.ref t3, V.ref t1, V.ref t2])) t2 le := (z3.trans z4) _ _ upd_same
      have p3 : PairAt (upd (upd (upd (upd H7 t1 (.tup [V.int pl.1, V.int pl.2])) t2 (.tup [V.int le.1, V.int le.2])) t3 (.tup [V.int ti.1, V.int ti.2])) l (.lst [V.ref t1, V.ref t2, V.ref t3, V.ref t1, V.ref t2])) t3 ti := z4 _ _ upd_same
      have hl9 : (upd (upd (upd (upd H7 t1 (.tup [V.int pl.1, V.int pl.2])) t2 (.tup [V.int le.1, V.int le.2])) t3 (.tup [V.int ti.1, V.int ti.2])) l (.lst [V.ref t1, V.ref t2, V.ref t3, V.ref t1, V.ref t2])) l = some (.lst [V.ref t1, V.ref t2, V.ref t3, V.ref t1, V.ref t2]) := upd_same
      have s8 := s7.trans z14
      generalize upd (upd (upd (upd H7 t1 (.tup [V.int pl.1, V.int pl.2])) t2 (.tup [V.int le.1, V.int le.2])) t3 (.tup [V.int ti.1, V.int ti.2])) l (.lst [V.ref t1, V.ref t2, V.ref t3, V.ref t1, V.ref t2]) = H8 at z14 p1 p2 p3 hl9 s8 ⊢
      have ev : [pl, le, ti, pl, le] = ts.map (·.2) := by
        rw [et, ← hfs]
        rfl
      have dts : DpAll K H8 (ts.map fun t => V.ref t.1) ((ts.map (·.2)).map pd) := by
        have h := dp_pairs (K := K) (H := H8) ts fun t ht => (hts t ht).same z14
        rw [List.map_map]
        exact h
      refine ⟨.list ([pl, le, ti, pl, le].map pd), .list ([pl, le, ti, pl, le].map pd), .lst (.of (z14 _ _ hD)) (by rw [ev]; exact dts), .lst (.of hl9) (.cons (dp_pair p1) (.cons (dp_pair p2) (.cons (dp_pair p3) (.cons (dp_pair p1) (.cons (dp_pair p2) .nil))))), shaped_pairs _, shaped_pairs _, _, rfl, ?_⟩
      rw [eqv_same _ (shaped_pairs _)]
      refine iteF ?_
      -- below
      have a8 := s8 _ _ hsa'
      obtain ⟨db, hsb'⟩ := id hsb
      have b8 := s8 _ _ hsb'
      refine ⟨.ref sa, rfl, sa, da, _, rfl, a8, shF_no _ (by decide +kernel) (by decide +kernel), .ref sb, rfl, rfl, rfl, sa, sb, r, u, 140, 140, rfl, hsa.same s8, hsb.same s8, ba, bb, by decide, ?_⟩
      have ha8 := s8 _ _ ha
      have hb8 := s8 _ _ hb
      refine ⟨.ref ta, rfl, ta, _, 0, .int r.1, rfl, rfl, .of ha8, atI_nat (j := 0) rfl, .ref tb, rfl, tb, _, 1, .int u.2, rfl, rfl, .of hb8, atI_nat (j := 1) rfl, _, _, rfl, rfl, m1, .ref tb, rfl, tb, _, 0, .int u.1, rfl, rfl, .of hb8, atI_nat (j := 0) rfl, .ref ta, rfl, ta, _, 1, .int r.2, rfl, rfl, .of ha8, atI_nat (j := 1) rfl, _, _, rfl, rfl, m2, _, _, rfl, rfl, rfl, _, rfl, iteNS rfl ?_⟩
      -- times and below, by names too
      refine ⟨.ref sa, rfl, sa, da, _, rfl, a8, shF_no _ (by decide +kernel) (by decide +kernel), .ref sb, rfl, rfl, rfl, sa, sb, r, u, 140, 140, rfl, hsa.same s8, hsb.same s8, ba, bb, ra.1, rb.1, by decide, fun w1 G1 g1 o1 e1 => ?_⟩
      refine ⟨.ref sa, rfl, sa, da, _, rfl, g1 _ _ a8, shF_no _ (by decide +kernel) (by decide +kernel), .ref sb, rfl, rfl, rfl, sa, sb, r, u, 140, 140, rfl, (hsa.same s8).same g1, (hsb.same s8).same g1, ba, bb, ra.1, rb.1, by decide, fun w2 G2 g2 o2 e2 => ?_⟩
      obtain ⟨d1, e1'⟩ := e1.same g2
      obtain ⟨d2, e2'⟩ := id e2
      refine ⟨w1, d1, _, _, rfl, e1', tyx_ins e2' T.cl_Share T.is_Share, nf_own _, w1, .ref w2, _, rfl, e1.same g2, .inl ⟨w2, _, rfl, e2, _, rfl, _, rfl, ?_⟩⟩
      rw [decide_eq_true rfl]
      refine iteF ?_
      have sG := s8.trans (g1.trans g2)
      have aG := sG _ _ hsa'
      refine ⟨.ref sa, rfl, sa, da, _, rfl, aG, shF_no _ (by decide +kernel) (by decide +kernel), .ref sb, rfl, rfl, rfl, sa, sb, r, u, 140, 140, rfl, hsa.same sG, hsb.same sG, ba, bb, by decide, ?_⟩
      refine ⟨.ref sa, rfl, sa, da, _, rfl, aG, shF_no _ (by decide +kernel) (by decide +kernel), .ref sb, rfl, rfl, rfl, sa, sb, r, u, 140, 140, rfl, hsa.same sG, hsb.same sG, ba, bb, by decide, rfl, _, rfl, iteNS rfl ?_⟩
      have haG := sG _ _ ha
      have hbG := sG _ _ hb
      by_cases hz : u.1 = 0
      · have c0 : (!decide (V.int u.1 = V.int 0)) = false := by rw [hz]; rfl
        have c1 : decide (V.int u.1 = V.int 0) = true := by rw [hz]; rfl
        refine ⟨.ref tb, rfl, tb, _, 0, .int u.1, rfl, rfl, .of hbG, atI_nat (j := 0) rfl, rfl, _, rfl, ?_⟩
        rw [c0]
        refine iteF (iteF ?_)
        refine ⟨.ref tb, rfl, tb, _, 0, .int u.1, rfl, rfl, .of hbG, atI_nat (j := 0) rfl, rfl, _, rfl, ?_⟩
        rw [c1]
        refine iteT ?_
        refine ⟨.ref sa, rfl, .ref sb, rfl, sa, sb, r, u, 140, 140, rfl, hsa.same sG, hsb.same sG, ba, bb, ra.1, rb.1, by decide, fun t5 G5 g5 f0 f1 => ?_⟩
        have ht5 := f0 hz
        refine ⟨.ref ta, rfl, ta, _, 0, .int r.1, rfl, rfl, .of (g5 _ _ haG), atI_nat (j := 0) rfl, line_of (show 3 ≤ 1000 by decide), fun t6 n6 => ?_⟩
        have z6 := same_upd (o := HO.tup [V.str "none", V.int r.1, V.int 0]) n6
        refine ⟨.tuple [.str "none", .int r.1, .int 0], .tuple [.str "none", .int r.1, .int 0], .tup (.of (z6 _ _ ht5)) (.cons (.str _) (.cons (.int _) (.cons (.int _) .nil))), .tup (.of upd_same) (.cons (.str _) (.cons (.int _) (.cons (.int _) .nil))), shaped_none _, shaped_none _, ?_⟩
        rw [eqv_same _ (shaped_none _)]
        exact q _ ((sG.trans g5).trans z6)
      · have c0 : (!decide (V.int u.1 = V.int 0)) = true := by simp [hz]
        have c1 : decide (V.int u.1 = V.int 0) = false := by simp [hz]
        refine ⟨.ref tb, rfl, tb, _, 0, .int u.1, rfl, rfl, .of hbG, atI_nat (j := 0) rfl, rfl, _, rfl, ?_⟩
        rw [c0]
        refine iteT ?_
        refine ⟨.ref sa, rfl, sa, da, _, rfl, aG, shF_no _ (by decide +kernel) (by decide +kernel), .ref sb, rfl, rfl, rfl, sa, sb, r, u, 140, 140, rfl, hsa.same sG, hsb.same sG, ba, bb, ra.1, rb.1, by decide, fun z => absurd z hz, fun _ w3 G3 g3 o3 e3 => ?_⟩
        refine ⟨.ref sa, rfl, sa, da, _, rfl, g3 _ _ aG, shF_no _ (by decide +kernel) (by decide +kernel), .ref sb, rfl, rfl, rfl, sa, sb, r, u, 140, 140, rfl, (hsa.same sG).same g3, (hsb.same sG).same g3, ba, bb, ra.1, rb.1, by decide, fun z => absurd z hz, fun _ w4 G4 g4 o4 e4 => ?_⟩
        obtain ⟨d3, e3'⟩ := e3.same g4
        obtain ⟨d4, e4'⟩ := id e4
        refine ⟨w3, d3, _, _, rfl, e3', tyx_ins e4' T.cl_Share T.is_Share, nf_own _, w3, .ref w4, _, rfl, e3.same g4, .inl ⟨w4, _, rfl, e4, _, rfl, _, rfl, ?_⟩⟩
        rw [decide_eq_true rfl]
        refine iteF ?_
        have sK := sG.trans (g3.trans g4)
        have haK := sK _ _ ha
        have hbK := sK _ _ hb
        refine ⟨.ref tb, rfl, tb, _, 0, .int u.1, rfl, rfl, .of hbK, atI_nat (j := 0) rfl, rfl, _, rfl, ?_⟩
        rw [c1]
        refine iteF ?_
        refine ⟨.ref sa, rfl, .ref sb, rfl, sa, sb, r, u, 140, 140, rfl, hsa.same sK, hsb.same sK, ba, bb, ra.1, rb.1, by decide, fun t5 G5 g5 f0 f1 => ?_⟩
        have ht5 := f1 hz
        have hne5 : r.2 * u.1 ≠ 0 := Int.mul_ne_zero (by have := ra.1; omega) hz
        have hbd5 : (r.2 * u.1).natAbs < 2 ^ 280 := mul_lt ba.2 bb.1
        refine ⟨.ref ta, rfl, ta, _, 0, .int r.1, rfl, rfl, .of (g5 _ _ haK), atI_nat (j := 0) rfl, .ref tb, rfl, tb, _, 1, .int u.2, rfl, rfl, .of (g5 _ _ hbK), atI_nat (j := 1) rfl, _, _, rfl, rfl, m1, ?_⟩
        refine ⟨.ref ta, rfl, ta, _, 1, .int r.2, rfl, rfl, .of (g5 _ _ haK), atI_nat (j := 1) rfl, .ref tb, rfl, tb, _, 0, .int u.1, rfl, rfl, .of (g5 _ _ hbK), atI_nat (j := 0) rfl, _, _, rfl, rfl, m5, _, _, 280, rfl, hne5, hbd5, by decide, by decide, fun t6 n6 => ?_⟩
        have z6 := same_upd (o := HO.tup [V.int (low (r.1 * u.2) (r.2 * u.1)).1, V.int (low (r.1 * u.2) (r.2 * u.1)).2]) n6
        refine ⟨pd (low (r.1 * u.2) (r.2 * u.1)), pd (low (r.1 * u.2) (r.2 * u.1)), dp_pair (z6 _ _ ht5), dp_pair upd_same, rfl, rfl, ?_⟩
        rw [eqv_same _ rfl]
        exact q _ ((sK.trans g5).trans z6)
end
section
variable {P : Program} {w : World} {K : PySem.W.Frag} {mg : Str → Option Value} {base : Heap}
/-- law's frame: the script at a -/
def FrL (a : Addr) (σ : L2.St) : Prop := ∃ y1 y2 y3 y4 y5 y6 y7 y8 y9 y10 y11 y12 : Option V, σ = [some (.ref a), y1, y2, y3, y4, y5, y6, y7, y8, y9, y10, y11, y12]
def sp_law (K : PySem.W.Frag) : Sp := fun vs H Q _ => ∃ (a : Addr) (ns : List Int), vs = [.ref a] ∧ SqL K H a (ns.map V.int) ∧ ns.length ≤ 63 ∧ ∀ H', Q (.bl true) H'
theorem item_map {α : Type} {l : List α} {f : α → V} {i : Nat} {v : V} (h : (l.map f)[i]? = some v) : ∃ x, l[i]? = some x ∧ v = f x := by
  rw [List.getElem?_map] at h
  cases e : l[i]? with
  | none => rw [e] at h; cases h
  | some b => rw [e] at h; exact ⟨b, rfl, (Option.some.inj h).symm⟩
theorem ok_law (T : Txt K mg) : FnOk P w K mg base CX0 9 T.f_law T.fd_law ["_law_script"] (sp_law K) := by
  refine T.F_law.ok sc_law (fun vs H Q E h => ?_) (fun cdv A outer s H vs Q E hr h => ?_)
  · obtain ⟨a, ns, rfl, _⟩ := h
    rfl
  · obtain ⟨a, ns, rfl, hS, hlen, q⟩ := h
    refine ⟨_, (pss_cons
 (ps_for PassesOwn.never rfl (pi_list (pe_op op_cat (pe_lst (pa_cons (pe_call (ok_law_cell_at T) (hr.mono (by decide)) (by rfl) T.g_law_cell_at T.F_law_cell_at.kp T.b_law_cell_at .nil pass0 (pa_cons (pv 0) (pa_cons pe_int pa_nil))) pa_nil)) (pe_slice sl_list (pv 0) (po_some pe_int) (po_some pe_int)))) (pg_name (i := 1) sc_law.nd rfl (Or.inl rfl))
 (pss_cons
 (ps_set (i := 2) sc_law.nd rfl (Or.inr rfl) (pe_call (ok_law_well T) (hr.mono (by decide)) (by rfl) T.g_law_well T.F_law_well.kp T.b_law_well .nil pass0 (pa_cons (pv 1) pa_nil)))
 (pss_cons
 (ps_setLc (i := 3) (own := [("_law_k", 10)]) (g := gName 10) (tt := tYes) rfl sc_law.nd rfl rfl (sw_true rfl rfl rfl (by decide +kernel)) (pi_range1 rfl T.z_range (pa_cons (pe_op op_add pe_int (pe_call (ok_law_draw T) (hr.mono (by decide)) (by rfl) T.g_law_draw T.F_law_draw.kp T.b_law_draw .nil pass0 (pa_cons (pv 2) (pa_cons pe_int pa_nil)))) pa_nil)) (blkOk_by (own := [("_law_k", 10)]) (N := ["_law_script", "_law_cell", "_law_well_here", "_law_pairs", "_law_shares", "_law_total", "_law_a", "_law_b", "_law_some", "_law_found", "_law_k", "_law_j", "_law_share"]) (sc := defScope s_law) (by decide +kernel)) (fun _ _ _ _ _ => pg_name (i := 10) sc_law.nd rfl (Or.inl rfl)) (fun _ _ _ _ _ => pts_nil) (fun _ _ _ _ _ => (pe_call (ok_law_pair T) (hr.mono (by decide)) (by rfl) T.g_law_pair T.F_law_pair.kp T.b_law_pair .nil pass0 (pa_cons (pv 2) pa_nil))))
 (pss_cons
 (ps_setLc (i := 4) (own := [("_law_a", 6), ("_law_b", 7)]) (tt := tYes) rfl sc_law.nd rfl rfl (sw_true rfl rfl rfl (by decide +kernel)) (pi_list (pv 3)) (blkOk_by (own := [("_law_a", 6), ("_law_b", 7)]) (N := ["_law_script", "_law_cell", "_law_well_here", "_law_pairs", "_law_shares", "_law_total", "_law_a", "_law_b", "_law_some", "_law_found", "_law_k", "_law_j", "_law_share"]) (sc := defScope s_law) (by decide +kernel)) (fun s0 H0 C0 cl0 fp0 => (by have h := (pg_tup (n := 2) rfl (pgs_cons (pg_name (i := 6) sc_law.nd rfl (Or.inl rfl)) (pgs_cons (pg_name (i := 7) sc_law.nd rfl (Or.inl rfl)) pgs_nil)) : PG ((cxOf CX0 P w K mg base ["_law_script", "_law_cell", "_law_well_here", "_law_pairs", "_law_shares", "_law_total", "_law_a", "_law_b", "_law_some", "_law_found", "_law_k", "_law_j", "_law_share"] "law" (defScope s_law) T.f_law cdv A outer s H E).nox.blk s0 H0 (lcScope (rootE ((blkOf ((defBody s_law).getD 0 (.Pass ⟨0, 0, 0, 0⟩)) 0).getD 2 (.Pass ⟨0, 0, 0, 0⟩)))) (compEnvC (lcScope (rootE ((blkOf ((defBody s_law).getD 0 (.Pass ⟨0, 0, 0, 0⟩)) 0).getD 2 (.Pass ⟨0, 0, 0, 0⟩)))) cl0 C0 (cxOf CX0 P w K mg base ["_law_script", "_law_cell", "_law_well_here", "_law_pairs", "_law_shares", "_law_total", "_law_a", "_law_b", "_law_some", "_law_found", "_law_k", "_law_j", "_law_share"] "law" (defScope s_law) T.f_law cdv A outer s H E).nox.env) fp0) (subE (rootE ((blkOf ((defBody s_law).getD 0 (.Pass ⟨0, 0, 0, 0⟩)) 0).getD 2 (.Pass ⟨0, 0, 0, 0⟩))) 2) _); dsimp only [Cx.blk, Cx.tr, Cx.suite, Cx.nox, Cx.wish, cxOf] at h; exact h)) (fun _ _ _ _ _ => pts_nil) (fun _ _ _ _ _ => (pc_pos T.mk_Share (ok_Share_init T) (hr.mono (by decide)) (by rfl) T.k_Share T.kb_Share_init_3 (fun σ => atN σ) (pa_cons (pv 6) (pa_cons (pv 7) pa_nil)))))
 (pss_cons
 (ps_set (i := 5) sc_law.nd rfl (Or.inl rfl) (pe_tup (pa_cons pe_int (pa_cons pe_int pa_nil))))
 (pss_cons
 (ps_for PassesOwn.never rfl (pi_list (pv 3)) (pg_tup rfl (pgs_cons (pg_name (i := 6) sc_law.nd rfl (Or.inl rfl)) (pgs_cons (pg_name (i := 7) sc_law.nd rfl (Or.inl rfl)) pgs_nil)))
 (pss_one
 (ps_set (i := 5) sc_law.nd rfl (Or.inl rfl) (pe_call (ok_law_lowest T) (hr.mono (by decide)) (by rfl) T.g_law_lowest T.F_law_lowest.kp T.b_law_lowest .nil pass0 (pa_cons (pe_op op_add (pe_op op_mulW (pe_ix ix_tup (pv 5) pe_int (fun _ _ => rfl)) (pv 7)) (pe_op op_mulW (pv 6) (pe_ix ix_tup (pv 5) pe_int (fun _ _ => rfl)))) (pa_cons (pe_op op_mulW (pe_ix ix_tup (pv 5) pe_int (fun _ _ => rfl)) (pv 7)) pa_nil))))))
 (pss_cons
 (ps_for PassesOwn.never rfl (pi_list (pe_lst (pa_cons (pv 4) (pa_cons (pe_revL (pv 4)) pa_nil)))) (pg_name (i := 8) sc_law.nd rfl (Or.inl rfl))
 (pss_cons
 (ps_set (i := 9) sc_law.nd rfl (Or.inl rfl) (pe_call (ok_shares_sum T) (hr.mono (by decide)) (by rfl) T.g_shares_sum T.F_shares_sum.kp T.b_shares_sum .nil pass0 (pa_cons (pv 8) pa_nil)))
 (pss_one
 (ps_if (pt_cmpR (op_neD hr.units) (pe_tup (pa_cons (pe_fld (pv 9) rfl) (pa_cons (pe_fld (pv 9) rfl) pa_nil))) (pv 5) (nomark _))
 (pss_one
 (ps_ret pe_bl))
 pss_nil))))
 (pss_cons
 (ps_for PassesOwn.never rfl (pi_range1 rfl T.z_range (pa_cons (pe_callB call_len_seq (by rfl) T.z_len (by decide +kernel) (pa_cons (pv 3) pa_nil)) pa_nil)) (pg_name (i := 10) sc_law.nd rfl (Or.inl rfl))
 (pss_one
 (ps_for PassesOwn.never rfl (pi_range1 rfl T.z_range (pa_cons (pe_callB call_len_seq (by rfl) T.z_len (by decide +kernel) (pa_cons (pv 3) pa_nil)) pa_nil)) (pg_name (i := 11) sc_law.nd rfl (Or.inl rfl))
 (pss_one
 (ps_if (pt_not (pt_val (pe_call (ok_law_two_right T) (hr.mono (by decide)) (by rfl) T.g_law_two_right T.F_law_two_right.kp T.b_law_two_right .nil pass0 (pa_cons (pv 3) (pa_cons (pv 4) (pa_cons (pv 10) (pa_cons (pv 11) pa_nil)))))))
 (pss_one
 (ps_ret pe_bl))
 pss_nil)))))
 (pss_one
 (ps_if (PW.pt (pw_or (pt_cmpR (op_neD hr.units) (pe_lc (own := [("_law_share", 12)]) (g := gName 12) (tt := tYes) rfl sc_law.nd (pi_list (pv 4)) (blkOk_by (own := [("_law_share", 12)]) (N := ["_law_script", "_law_cell", "_law_well_here", "_law_pairs", "_law_shares", "_law_total", "_law_a", "_law_b", "_law_some", "_law_found", "_law_k", "_law_j", "_law_share"]) (sc := defScope s_law) (by decide +kernel)) (fun _ _ _ _ _ => pg_name (i := 12) sc_law.nd rfl (Or.inl rfl)) (fun _ _ _ _ _ => pts_nil) (fun s0 H0 C0 cl0 fp0 => (by have h := ((pe_tup (pa_cons (pe_fld (pv 12) rfl) (pa_cons (pe_fld (pv 12) rfl) pa_nil))) : PE ((cxOf CX0 P w K mg base ["_law_script", "_law_cell", "_law_well_here", "_law_pairs", "_law_shares", "_law_total", "_law_a", "_law_b", "_law_some", "_law_found", "_law_k", "_law_j", "_law_share"] "law" (defScope s_law) T.f_law cdv A outer s H E).nox.blk s0 H0 (lcScope (subE (subE (rootE ((blkOf ((defBody s_law).getD 0 (.Pass ⟨0, 0, 0, 0⟩)) 0).getD 7 (.Pass ⟨0, 0, 0, 0⟩))) 0) 0)) (compEnvC (lcScope (subE (subE (rootE ((blkOf ((defBody s_law).getD 0 (.Pass ⟨0, 0, 0, 0⟩)) 0).getD 7 (.Pass ⟨0, 0, 0, 0⟩))) 0) 0)) cl0 C0 (cxOf CX0 P w K mg base ["_law_script", "_law_cell", "_law_well_here", "_law_pairs", "_law_shares", "_law_total", "_law_a", "_law_b", "_law_some", "_law_found", "_law_k", "_law_j", "_law_share"] "law" (defScope s_law) T.f_law cdv A outer s H E).nox.env) fp0) (subE (subE (subE (rootE ((blkOf ((defBody s_law).getD 0 (.Pass ⟨0, 0, 0, 0⟩)) 0).getD 7 (.Pass ⟨0, 0, 0, 0⟩))) 0) 0) 0) _); dsimp only [Cx.blk, Cx.tr, Cx.suite, Cx.nox, Cx.wish, cxOf] at h; exact h))) (pv 3) (nomark _)) (pw_or1 (pt_cmpR (op_neO T.eo_Share (ok_Share_eq T) (hr.mono (by decide)) T.b_Share_eq pass0) (pe_call (ok_shares_sum T) (hr.mono (by decide)) (by rfl) T.g_shares_sum T.F_shares_sum.kp T.b_shares_sum .nil pass0 (pa_cons (pe_lst pa_nil) pa_nil)) (pc_pos T.mk_Share (ok_Share_init T) (hr.mono (by decide)) (by rfl) T.k_Share T.kb_Share_init_2 (fun σ => atN σ) (pa_cons pe_int pa_nil)) (nomark _)))))
 (pss_one
 (ps_ret pe_bl))
 pss_nil))))))))))
 (pss_one
 (ps_ret pe_bl))), ?_⟩
    refine ⟨.ref a, rfl, a, ns, rfl, hS, hlen, fun z => ?_⟩
    refine ⟨line_of (show 1 ≤ 1000 by decide), fun l1 n1 => ?_⟩
    have s1 : Same H (upd H l1 (.lst [V.int z])) := same_upd n1
    obtain ⟨ms, em, lm⟩ := cut_ints ns (some 1) (some 20)
    refine ⟨.ref a, rfl, 1, rfl, 20, rfl, a, _, rfl, s1.seq hS, fun l2 n2 => ?_⟩
    rw [em]
    have hl12 : l1 ≠ l2 := fun e => by rw [← e, upd_same] at n2; cases n2
    refine ⟨l1, l2, _, _, rfl, rfl, (by rw [upd_ne hl12, upd_same]), upd_same, ?_, fun l3 n3 => ?_⟩
    · rw [List.length_map]
      exact line_of (show 1 + ms.length ≤ 1000 by omega)
    have e3 : ([V.int z] ++ ms.map V.int) = (z :: ms).map V.int := rfl
    rw [e3]
    generalize hH0 : upd (upd (upd H l1 (.lst [V.int z])) l2 (.lst (ms.map V.int))) l3 (.lst ((z :: ms).map V.int)) = H0
    have h3 : H0 l3 = some (.lst ((z :: ms).map V.int)) := by rw [← hH0, upd_same]
    refine ⟨l3, rfl, ⟨_, .of h3⟩, for_list (K := K) (a := l3) (xs := (z :: ms).map V.int) (fun _ σ H' => FrL a σ ∧ Same H0 H') ⟨⟨none, none, none, none, none, none, none, none, none, none, none, none, rfl⟩, Same.refl _⟩ (fun _ _ _ _ h => .of (h.2 _ _ h3)) ?_ ?_⟩
    · rintro i x σ H1 hi ⟨⟨y1, y2, y3, y4, y5, y6, y7, y8, y9, y10, y11, y12, rfl⟩, s2⟩
      obtain ⟨n, _, rfl⟩ := item_map hi
      refine ⟨.int n, rfl, n, rfl, fun p x H2 np s3 hp hx => ?_⟩
      have np0 : H0 p = none := s2.free np
      have s4 : Same H0 H2 := s2.trans s3
      -- the pairs
      refine ⟨.ref p, rfl, p, 6, x, 0, rfl, hp, hx, by decide, by decide, size_ok (by decide) (by decide), fun d y h0 h1 hy => ?_⟩
      refine ⟨2, d, rfl, rfl, 2 + d, rfl, by omega, by omega, fun D nD => ?_⟩
      have hpD : p ≠ D := fun e => by rw [← e, upd_same] at nD; cases nD
      have nD2 : H2 D = none := by rw [upd_ne hpD.symm] at nD; exact nD
      refine lc_range (fun i H' => ∃ (ts : List (Addr × (Int × Int))) (v : List V), H' D = some (.lst (ts.map fun t => V.ref t.1)) ∧ ts.length = i ∧ (∀ t ∈ ts, PairAt H' t.1 t.2 ∧ Red t.2 ∧ Bd 140 t.2) ∧ But p H2 H' ∧ H' p = some (.lst v) ∧ WellL v (1 + 6 * i))
        ⟨[], y, upd_same, rfl, fun _ h => (by cases h), ((But.refl p H2).upd _).new nD _, by rw [upd_ne hpD, upd_same], hy⟩ ?_ ?_
      · rintro k H3 hk ⟨ts, v, hD, hl, hts, hb, hv, hw⟩
        refine ⟨rfl, .ref p, rfl, p, v, _, rfl, hv, hw, by omega, fun t r u H4 red bd bt nt pt hp4 hw4 => ?_⟩
        have hD4 := bt D _ hpD.symm hD
        have htD : t ≠ D := fun e => by rw [e, hD] at nt; cases nt
        refine ⟨ts.map fun t => V.ref t.1, hD4, small1000 (by rw [List.length_map]; omega), ts ++ [(t, r)], u, ?_, ?_, ?_, ?_, ?_, hw4.mono (by omega)⟩
        · rw [upd_same, List.map_append]
          rfl
        · rw [List.length_append, hl]
          rfl
        · intro t' ht'
          rcases List.mem_append.mp ht' with h | h
          · obtain ⟨g1, g2, g3⟩ := hts t' h
            refine ⟨?_, g2, g3⟩
            have e1 : t'.1 ≠ p := fun e => by
              unfold PairAt at g1
              rw [e, hv] at g1
              cases g1
            have e2 : t'.1 ≠ D := fun e => by
              unfold PairAt at g1
              rw [e, hD] at g1
              cases g1
            unfold PairAt
            rw [upd_ne e2]
            exact bt _ _ e1 g1
          · have e : t' = (t, r) := by simpa using h
            rw [e]
            refine ⟨?_, red, bd⟩
            unfold PairAt
            rw [upd_ne htD]
            exact pt
        · intro b o hb2 ho
          have hbD : b ≠ D := ne_of_none ho nD2
          rw [upd_ne hbD]
          exact bt b o hb2 (hb b o hb2 ho)
        · rw [upd_ne hpD]
          exact hp4
      · rintro H3 ⟨ts, v, hD, hl, hts, hb, hv, hw⟩
        have hl7 : ts.length ≤ 7 := by omega
        have s5 : Same H0 H3 := But.ext s4 np0 hb
        -- the shares
        refine ⟨.ref D, rfl, D, rfl, ⟨_, .of hD⟩, fun D2 nD2' => ?_⟩
        refine lc_list (K := K) (a := D) (xs := ts.map fun t => V.ref t.1) (fun k H' => Same H3 H' ∧ ∃ as : List Trio, (as.map fun a => (a.1, a.2.2)) = ts.take k ∧ H' D2 = some (.lst (as.map fun a => V.ref a.2.1)) ∧ ∀ a ∈ as, ShAt T.C_Share H' a.2.1 a.2.2)
          ⟨same_upd nD2', [], rfl, upd_same, fun _ h => (by cases h)⟩ (fun _ _ _ h => .of (h.1 _ _ hD)) ?_ ?_
        · rintro k u H4 hk ⟨z4, as, eas, hD2, has⟩
          obtain ⟨t, ht, rfl⟩ := item_map hk
          obtain ⟨g1, g2, g3⟩ := hts t (List.mem_of_getElem? ht)
          have hk7 : k < 7 := by
            have := (List.getElem?_eq_some_iff.mp ht).1
            omega
          refine ⟨t.1, [.int t.2.1, .int t.2.2], rfl, .of (z4 _ _ g1), rfl, _, _, rfl, _, _, rfl, rfl, rfl, .int t.2.1, rfl, .int t.2.2, rfl, rfl, rfl, fun sa dx m1 m2 m3 => ?_⟩
          refine ⟨sa, dx, t.2.1, t.2.2, 140, rfl, upd_same, g3.2, by decide, by decide, fun z => absurd z (by have := g2.1; omega), fun _ H5 bt e => ⟨rfl, ?_⟩⟩
          have z5 := made_same m1 m2 bt
          rw [low_of_red g2] at e
          refine ⟨as.map fun a => V.ref a.2.1, z5 _ _ hD2, ?_, same_mut (z4.trans z5) nD2', as ++ [(t.1, sa, t.2)], ?_, ?_, ?_⟩
          · have e := congrArg List.length eas
            rw [List.length_map, List.length_take] at e
            rw [List.length_map]
            exact small1000 (by omega)
          · rw [take_more ht, List.map_append, eas]
            rfl
          · rw [upd_same, List.map_append]
            rfl
          · intro b hb'
            rcases List.mem_append.mp hb' with h | h
            · obtain ⟨db, e'⟩ := has b h
              refine ⟨db, ?_⟩
              have : b.2.1 ≠ D2 := fun e => by rw [e, hD2] at e'; cases e'
              rw [upd_ne this]
              exact z5 _ _ e'
            · have e' : b = (t.1, sa, t.2) := by simpa using h
              rw [e']
              refine ⟨dx, ?_⟩
              have : sa ≠ D2 := fun e => by rw [e, hD2] at m1; cases m1
              show upd H5 D2 _ sa = _
              rw [upd_ne this]
              exact e
        · rintro H4 ⟨z4, as, eas, hD2, has⟩
          rw [List.length_map, List.take_length] at eas
          have hD4 := z4 _ _ hD
          have las : as.length ≤ 7 := by
            have := congrArg List.length eas
            rw [List.length_map] at this
            omega
          have hal : ∀ b ∈ as, TrioOk T.C_Share H4 b := fun b hb' => by
            have hm : (b.1, b.2.2) ∈ ts := by
              rw [← eas]
              exact List.mem_map.mpr ⟨b, hb', rfl⟩
            obtain ⟨g1, g2, g3⟩ := hts _ hm
            exact ⟨g1.same z4, has b hb', g2, g3⟩
          have edl : (ts.map fun t => V.ref t.1) = as.map fun b => V.ref b.1 := by
            rw [← eas, List.map_map]
            rfl
          rw [edl] at hD4
          have s6 : Same H0 H4 := s5.trans z4
          have hpos : ∀ v ∈ as.map (fun b => b.2.2), 0 < v.2 := fun v hv' => by
            obtain ⟨b, hb', rfl⟩ := List.mem_map.mp hv'
            exact (hal b hb').2.2.1.1
          have hTr : ∀ (k : Nat) (b : Trio), as[k]? = some b → (sumL ((as.take (k + 1)).map (·.2.2)) (0, 1)) = addL (sumL ((as.take k).map (·.2.2)) (0, 1)) b.2.2 := fun k b hb' => by
            rw [take_more hb', List.map_append]
            show List.foldl addL (0, 1) (_ ++ [b.2.2]) = _
            rw [List.foldl_append]
            rfl
          have hposT : ∀ k : Nat, 0 < (sumL ((as.take k).map (·.2.2)) (0, 1)).2 := fun k => sumL_pos _ _ (by decide) fun v hv' => by
            obtain ⟨c, hc, rfl⟩ := List.mem_map.mp hv'
            exact (hal c (List.mem_of_mem_take hc)).2.2.1.1
          -- their sum by whole numbers
          refine ⟨line_of (show 2 ≤ 1000 by decide), fun t0 nt0 => ?_⟩
          refine ⟨.ref D, rfl, D, rfl, ⟨_, .of (same_upd nt0 _ _ hD4)⟩, for_list (K := K) (a := D) (xs := as.map fun b => V.ref b.1)
            (fun k σ H' => ∃ (tt : Addr) (x6 x7 : Option V), σ = [some (.ref a), some (.int n), some (.ref p), some (.ref D), some (.ref D2), some (.ref tt), x6, x7, y8, y9, y10, y11, y12] ∧ Same H4 H' ∧
              PairAt H' tt (sumL ((as.take k).map (·.2.2)) (0, 1)) ∧ Bd (1 + 141 * k) (sumL ((as.take k).map (·.2.2)) (0, 1)))
            ⟨t0, y6, y7, rfl, same_upd nt0, upd_same, ⟨(by show (0 : Nat) < 2; decide), (by show (1 : Nat) < 2; decide)⟩⟩ (fun _ _ _ _ h => by obtain ⟨_, _, _, _, z, _⟩ := h; exact .of (z _ _ hD4)) ?_ ?_⟩
          · rintro k x σ H5 hk ⟨tt, x6, x7, rfl, z5, htt, btt⟩
            obtain ⟨b, hb', rfl⟩ := item_map hk
            obtain ⟨pb, sb, rb, bb⟩ := hal b (List.mem_of_getElem? hb')
            have ik : k < as.length := (List.getElem?_eq_some_iff.mp hb').1
            have hp0 := hposT k
            have es := hTr k b hb'
            generalize hS : sumL ((as.take k).map (·.2.2)) (0, 1) = S at htt btt hp0 es
            refine ⟨b.1, [.int b.2.2.1, .int b.2.2.2], rfl, .of (z5 _ _ pb), rfl, _, _, rfl, _, _, rfl, rfl, ?_⟩
            refine ⟨.ref tt, rfl, tt, _, 0, .int S.1, rfl, rfl, .of htt, atI_nat (j := 0) rfl, .int b.2.2.2, rfl, _, _, rfl, rfl, mulOk btt.1 bb.2 (by omega), .int b.2.2.1, rfl, .ref tt, rfl, tt, _, 1, .int S.2, rfl, rfl, .of htt, atI_nat (j := 1) rfl, _, _, rfl, rfl, mulOk bb.1 btt.2 (by omega), _, _, rfl, rfl, ?_⟩
            refine ⟨.ref tt, rfl, tt, _, 1, .int S.2, rfl, rfl, .of htt, atI_nat (j := 1) rfl, .int b.2.2.2, rfl, _, _, rfl, rfl, mulOk btt.2 bb.2 (by omega), _, _, 1 + 141 * k + 140, rfl, ?_, mul_lt btt.2 bb.2, by omega, by omega, fun t nt => ?_⟩
            · have := Int.mul_pos hp0 rb.1
              omega
            · refine ⟨t, _, _, rfl, z5.trans (same_upd nt), ?_, ?_⟩
              · rw [es]
                exact upd_same
              · rw [es]
                exact (bd_add btt bb hp0 rb.1).mono (by omega)
          · rintro σ H5 ⟨tt, x6, x7, rfl, z5, htt, -⟩
            rw [List.length_map, List.take_length] at htt
            have hD5 := z5 _ _ hD4
            have hD25 := z5 _ _ hD2
            have hal5 : ∀ b ∈ as, TrioOk T.C_Share H5 b := fun b hb' => (hal b hb').same z5
            -- both ways
            refine ⟨.ref D2, rfl, .ref D2, rfl, D2, _, rfl, .of hD25, fun rv nrv => ?_⟩
            refine ⟨line_of (show 2 ≤ 1000 by decide), fun l nl => ?_⟩
            have z6 := (same_upd (o := HO.lst (as.map fun b => V.ref b.2.1).reverse) nrv).trans (same_upd (o := HO.lst [V.ref D2, V.ref rv]) nl)
            have hrv := same_upd (o := HO.lst [V.ref D2, V.ref rv]) nl rv _ upd_same
            have hl6 : (upd (upd H5 rv (.lst (as.map fun b => V.ref b.2.1).reverse)) l (.lst [V.ref D2, V.ref rv])) l = some (.lst [V.ref D2, V.ref rv]) := upd_same
            generalize hH6 : upd (upd H5 rv (.lst (as.map fun b => V.ref b.2.1).reverse)) l (.lst [V.ref D2, V.ref rv]) = H6 at z6 hrv hl6
            refine ⟨l, rfl, ⟨_, .of hl6⟩, for_list (K := K) (a := l) (xs := [V.ref D2, V.ref rv])
              (fun k σ H' => ∃ (x8 x9 : Option V), σ = [some (.ref a), some (.int n), some (.ref p), some (.ref D), some (.ref D2), some (.ref tt), x6, x7, x8, x9, y10, y11, y12] ∧ Same H6 H')
              ⟨y8, y9, rfl, Same.refl _⟩ (fun _ _ _ _ h => by obtain ⟨_, _, _, z⟩ := h; exact .of (z _ _ hl6)) ?_ ?_⟩
            · rintro k x σ H7 hk ⟨x8, x9, rfl, z7⟩
              have key : ∃ (q : Addr) (bs : List Trio), x = .ref q ∧ SqL K H7 q (bs.map fun b => V.ref b.2.1) ∧ (∀ b ∈ bs, TrioOk T.C_Share H7 b) ∧ bs.length ≤ 7 ∧ sumL (bs.map (·.2.2)) (0, 1) = sumL (as.map (·.2.2)) (0, 1) := by
                have hx : x = V.ref D2 ∨ x = V.ref rv := by
                  have := List.mem_of_getElem? hk
                  simpa using this
                rcases hx with rfl | rfl
                · exact ⟨D2, as, rfl, .of (z7 _ _ (z6 _ _ hD25)), fun b hb' => (hal5 b hb').same (z6.trans z7), las, rfl⟩
                · refine ⟨rv, as.reverse, rfl, .of ?_, fun b hb' => (hal5 b (List.mem_reverse.mp hb')).same (z6.trans z7), by rw [List.length_reverse]; exact las, ?_⟩
                  · rw [List.map_reverse]
                    exact z7 _ _ hrv
                  · rw [List.map_reverse]
                    exact sumL_rev _ _ (by decide) hpos
              obtain ⟨q7, bs, rfl, hq, hbs, lbs, esum⟩ := key
              refine ⟨.ref q7, rfl, q7, bs.map (·.2), rfl, ?_, ?_, by rw [List.length_map]; omega, fun x0 H8 z8 nx hx => ?_⟩
              · rw [List.map_map]
                exact hq
              · intro c hc
                obtain ⟨b, hb', rfl⟩ := List.mem_map.mp hc
                obtain ⟨_, g2, g3, g4⟩ := hbs b hb'
                exact ⟨g2, g3.1, g4.mono (by decide)⟩
              · rw [List.map_map] at hx
                have esum' : sumL (bs.map ((fun c : Addr × (Int × Int) => c.2) ∘ fun b : Trio => b.2)) (0, 1) = sumL (as.map (·.2.2)) (0, 1) := esum
                rw [esum'] at hx
                obtain ⟨dx, hx'⟩ := id hx
                have htt8 := (((z6.trans z7).trans z8) _ _ htt)
                generalize hS : sumL (as.map (·.2.2)) (0, 1) = S at hx hx' htt8
                refine ⟨.ref x0, rfl, x0, T.C_Share, dx, _, .int S.1, rfl, hx', T.cl_Share, T.n_Share_num, shF_num _, .ref x0, rfl, x0, T.C_Share, dx, _, .int S.2, rfl, hx', T.cl_Share, T.n_Share_over, shF_over _, line_of (show 2 ≤ 1000 by decide), fun t nt => ?_⟩
                have z9 := same_upd (o := HO.tup [V.int S.1, V.int S.2]) nt
                refine ⟨.ref tt, rfl, pd S, pd S, dp_pair upd_same, dp_pair (PairAt.same z9 htt8), rfl, rfl, ?_⟩
                rw [eqv_same _ rfl]
                exact ⟨_, rfl, iteF ⟨_, _, rfl, (z7.trans z8).trans z9⟩⟩
            · rintro σ H7 ⟨x8, x9, rfl, z7⟩
              have z57 := z6.trans z7
              have hD7 := z57 _ _ hD5
              have hD27 := z57 _ _ hD25
              have hal7 : ∀ b ∈ as, TrioOk T.C_Share H7 b := fun b hb' => (hal5 b hb').same z57
              -- each two
              refine ⟨.ref D, rfl, D, _, rfl, .inl (.of hD7), _, rfl, ?_, ?_, for_range (fun _ σ H' => ∃ (x10 x11 : Option V), σ = [some (.ref a), some (.int n), some (.ref p), some (.ref D), some (.ref D2), some (.ref tt), x6, x7, x8, x9, x10, x11, y12] ∧ Same H7 H')
                ⟨y10, y11, rfl, Same.refl _⟩ ?_ ?_⟩
              · rw [List.length_map]
                omega
              · rw [List.length_map]
                omega
              · rintro k σ H8 hk ⟨x10, x11, rfl, z8⟩
                rw [List.length_map] at hk
                rw [Int.zero_add]
                have hD8 := z8 _ _ hD7
                refine ⟨.ref D, rfl, D, _, rfl, .inl (.of hD8), _, rfl, ?_, ?_, for_range (fun _ σ H' => ∃ (x11 : Option V), σ = [some (.ref a), some (.int n), some (.ref p), some (.ref D), some (.ref D2), some (.ref tt), x6, x7, x8, x9, some (.int k), x11, y12] ∧ Same H7 H')
                  ⟨x11, rfl, z8⟩ ?_ ?_⟩
                · rw [List.length_map]
                  omega
                · rw [List.length_map]
                  omega
                · rintro j σ H9 hj ⟨x11, rfl, z9⟩
                  rw [List.length_map] at hj
                  rw [Int.zero_add]
                  have gk := List.getElem?_eq_getElem hk
                  have gj := List.getElem?_eq_getElem hj
                  refine ⟨.ref D, rfl, .ref D2, rfl, .int k, rfl, .int j, rfl, D, D2, as, k, j, as[k], as[j], rfl, .of (z9 _ _ hD7), .of (z9 _ _ hD27), gk, gj, (hal7 _ (List.getElem_mem hk)).same z9, (hal7 _ (List.getElem_mem hj)).same z9, fun H10 z10 => ?_⟩
                  exact ⟨true, rfl, iteF ⟨_, rfl, z9.trans z10⟩⟩
                · rintro σ H9 ⟨x11, rfl, z9⟩
                  exact ⟨_, _, rfl, z9⟩
              · rintro σ H8 ⟨x10, x11, rfl, z8⟩
                have hD8 := z8 _ _ hD7
                have hD28 := z8 _ _ hD27
                have hal8 : ∀ b ∈ as, TrioOk T.C_Share H8 b := fun b hb' => (hal7 b hb').same z8
                -- what was reckoned with stays
                refine ⟨.ref D2, rfl, D2, rfl, ⟨_, .of hD28⟩, fun D3 nD3 => ?_⟩
                refine lc_list (K := K) (a := D2) (xs := as.map fun b => V.ref b.2.1) (fun k H' => Same H8 H' ∧ ∃ us : List (Addr × (Int × Int)), us.map (·.2) = (as.take k).map (·.2.2) ∧ H' D3 = some (.lst (us.map fun t => V.ref t.1)) ∧ ∀ t ∈ us, PairAt H' t.1 t.2)
                  ⟨same_upd nD3, [], rfl, upd_same, fun _ h => (by cases h)⟩ (fun _ _ _ h => .of (h.1 _ _ hD28)) ?_ ?_
                · rintro k v9 H9 hk ⟨z9, us, eu, hD3, hus⟩
                  obtain ⟨b, hb', rfl⟩ := item_map hk
                  have ik : k < as.length := (List.getElem?_eq_some_iff.mp hb').1
                  obtain ⟨db, hsb⟩ := (hal8 b (List.mem_of_getElem? hb')).2.1.same z9
                  refine ⟨rfl, .ref b.2.1, rfl, b.2.1, T.C_Share, db, _, .int b.2.2.1, rfl, hsb, T.cl_Share, T.n_Share_num, shF_num _, .ref b.2.1, rfl, b.2.1, T.C_Share, db, _, .int b.2.2.2, rfl, hsb, T.cl_Share, T.n_Share_over, shF_over _, line_of (show 2 ≤ 1000 by decide), fun t nt => ?_⟩
                  have htD : D3 ≠ t := ne_of_none hD3 nt
                  refine ⟨us.map fun t => V.ref t.1, by rw [upd_ne htD]; exact hD3, ?_, same_mut (z9.trans (same_upd nt)) nD3, us ++ [(t, b.2.2)], ?_, ?_, ?_⟩
                  · have e := congrArg List.length eu
                    rw [List.length_map, List.length_map, List.length_take] at e
                    rw [List.length_map]
                    exact small1000 (by omega)
                  · rw [take_more hb', List.map_append, List.map_append, eu]
                    rfl
                  · rw [upd_same, List.map_append]
                    rfl
                  · intro x hx
                    rcases List.mem_append.mp hx with h | h
                    · have h8 := hus x h
                      have n1 : x.1 ≠ D3 := fun e => by
                        unfold PairAt at h8
                        rw [e, hD3] at h8
                        cases h8
                      unfold PairAt at h8 ⊢
                      rw [upd_ne n1, upd_ne (ne_of_none h8 nt)]
                      exact h8
                    · have e : x = (t, b.2.2) := by simpa using h
                      rw [e]
                      unfold PairAt
                      rw [upd_ne htD.symm, upd_same]
                · rintro H9 ⟨z9, us, eu, hD3, hus⟩
                  rw [List.length_map, List.take_length] at eu
                  have hD9 := z9 _ _ hD8
                  have d1 : Dp K H9 (.ref D3) (.list ((as.map (·.2.2)).map pd)) := by
                    rw [← eu, List.map_map]
                    exact .lst (.of hD3) (dp_pairs us hus)
                  have d2 : Dp K H9 (.ref D) (.list ((as.map (·.2.2)).map pd)) := by
                    have g := dp_pairs (K := K) (H := H9) (as.map fun b => (b.1, b.2.2)) fun t ht => by
                      obtain ⟨b, hb', rfl⟩ := List.mem_map.mp ht
                      exact (hal8 b hb').1.same z9
                    rw [List.map_map, List.map_map] at g
                    rw [List.map_map]
                    exact .lst (.of hD9) g
                  refine ⟨.ref D, rfl, _, _, d1, d2, shaped_pairs _, shaped_pairs _, ?_⟩
                  rw [eqv_same _ (shaped_pairs _)]
                  refine ⟨_, rfl, iteF ?_⟩
                  refine ⟨line_of (show 0 ≤ 1000 by decide), fun le nle => ?_⟩
                  refine ⟨le, [], rfl, .of upd_same, fun _ h => (by cases h), by decide, fun x0 H10 z10 nx hx => ?_⟩
                  refine ⟨rfl, rfl, fun a1 dx n1 n2 n3 => ⟨a1, dx, 0, 1, 1, rfl, upd_same, by decide, by decide, by decide, fun z => (by cases z), fun _ H11 bt e => ⟨rfl, ?_⟩⟩⟩
                  have z11 := made_same n1 n2 bt
                  rw [low01] at e
                  obtain ⟨d3, e3⟩ := hx.same z11
                  refine ⟨x0, d3, _, _, rfl, e3, tyx_ins e T.cl_Share T.is_Share, nf_own _, x0, .ref a1, _, rfl, ⟨d3, e3⟩, .inl ⟨a1, _, rfl, ⟨dx, e⟩, _, rfl, _, rfl, ?_⟩⟩
                  have hb : (true ^^ decide (sumL (List.map (fun x : Addr × (Int × Int) => x.2) []) (0, 1) = (0, 1))) = false := rfl
                  rw [hb]
                  refine iteF ?_
                  refine ⟨⟨_, _, _, _, _, _, _, _, _, _, _, _, rfl⟩, ?_⟩
                  exact s6.trans ((z5.trans z57).trans ((z8.trans z9).trans (((same_upd nle).trans z10).trans z11)))
    · rintro σ H1 ⟨⟨y1, y2, y3, y4, y5, y6, y7, y8, y9, y10, y11, y12, rfl⟩, s2⟩
      exact q H1
end
theorem all_mk {l : PySem.W.OpenLaw} {w : World} {K : PySem.W.Frag} {h : Heap} {mg : Str → Option Value} {fa : Addr} (X : K.In h) (G : h.Ns mainGlobals mg) (hfa : mg "law" = some (.ref fa))
    {f_PollError_init : Addr} {od_PollError_init an_PollError_init : Option Addr} {sl_PollError_init : Array (Option Value)} {oc_PollError_init kV_PollError_init dc_PollError_init pm_PollError_init cd_PollError_init ct_PollError_init : Value}
    {T_PollError_init : Addr} {to_PollError_init : Value} {td_PollError_init : Option Addr} {tn_PollError_init : Nat} {tsl_PollError_init : Array (Option Value)} {tk0_PollError_init : Tok}
    (lt_PollError_init : K.lookup T_PollError_init = some ⟨to_PollError_init, td_PollError_init, .seq #[.str "" tk0_PollError_init] tn_PollError_init, tsl_PollError_init⟩)
    (l_PollError_init : K.lookup f_PollError_init = some ⟨oc_PollError_init, od_PollError_init, .func (PySem.W.fnOf "__init__" "PollError.__init__" (defArgs s_PollError_init) (defBody s_PollError_init) (defScope s_PollError_init) (.ref T_PollError_init) kV_PollError_init dc_PollError_init pm_PollError_init an_PollError_init cd_PollError_init ct_PollError_init), sl_PollError_init⟩)
    (c_PollError_init : PySem.W.codeIn K cd_PollError_init "PollError.__init__" = true) (k_PollError_init : PySem.W.keepIn K (.ref f_PollError_init) = true)
    {f_NoShare_init : Addr} {od_NoShare_init an_NoShare_init : Option Addr} {sl_NoShare_init : Array (Option Value)} {oc_NoShare_init kV_NoShare_init dc_NoShare_init pm_NoShare_init cd_NoShare_init ct_NoShare_init : Value}
    (l_NoShare_init : K.lookup f_NoShare_init = some ⟨oc_NoShare_init, od_NoShare_init, .func (PySem.W.fnOf "__init__" "NoShare.__init__" (defArgs s_NoShare_init) (defBody s_NoShare_init) (defScope s_NoShare_init) .none kV_NoShare_init dc_NoShare_init pm_NoShare_init an_NoShare_init cd_NoShare_init ct_NoShare_init), sl_NoShare_init⟩)
    (c_NoShare_init : PySem.W.codeIn K cd_NoShare_init "NoShare.__init__" = true) (k_NoShare_init : PySem.W.keepIn K (.ref f_NoShare_init) = true)
    {f_Share_init : Addr} {od_Share_init an_Share_init : Option Addr} {sl_Share_init : Array (Option Value)} {oc_Share_init kV_Share_init dc_Share_init pm_Share_init cd_Share_init ct_Share_init : Value}
    {T_Share_init : Addr} {to_Share_init : Value} {td_Share_init : Option Addr} {tn_Share_init : Nat} {tsl_Share_init : Array (Option Value)} {tk0_Share_init : Tok}
    (lt_Share_init : K.lookup T_Share_init = some ⟨to_Share_init, td_Share_init, .seq #[.int 1 tk0_Share_init] tn_Share_init, tsl_Share_init⟩)
    (l_Share_init : K.lookup f_Share_init = some ⟨oc_Share_init, od_Share_init, .func (PySem.W.fnOf "__init__" "Share.__init__" (defArgs s_Share_init) (defBody s_Share_init) (defScope s_Share_init) (.ref T_Share_init) kV_Share_init dc_Share_init pm_Share_init an_Share_init cd_Share_init ct_Share_init), sl_Share_init⟩)
    (c_Share_init : PySem.W.codeIn K cd_Share_init "Share.__init__" = true) (k_Share_init : PySem.W.keepIn K (.ref f_Share_init) = true)
    {f_Share_eq : Addr} {od_Share_eq an_Share_eq : Option Addr} {sl_Share_eq : Array (Option Value)} {oc_Share_eq kV_Share_eq dc_Share_eq pm_Share_eq cd_Share_eq ct_Share_eq : Value}
    (l_Share_eq : K.lookup f_Share_eq = some ⟨oc_Share_eq, od_Share_eq, .func (PySem.W.fnOf "__eq__" "Share.__eq__" (defArgs s_Share_eq) (defBody s_Share_eq) (defScope s_Share_eq) .none kV_Share_eq dc_Share_eq pm_Share_eq an_Share_eq cd_Share_eq ct_Share_eq), sl_Share_eq⟩)
    (c_Share_eq : PySem.W.codeIn K cd_Share_eq "Share.__eq__" = true) (k_Share_eq : PySem.W.keepIn K (.ref f_Share_eq) = true)
    {f_Share_plus : Addr} {od_Share_plus an_Share_plus : Option Addr} {sl_Share_plus : Array (Option Value)} {oc_Share_plus kV_Share_plus dc_Share_plus pm_Share_plus cd_Share_plus ct_Share_plus : Value}
    (l_Share_plus : K.lookup f_Share_plus = some ⟨oc_Share_plus, od_Share_plus, .func (PySem.W.fnOf "plus" "Share.plus" (defArgs s_Share_plus) (defBody s_Share_plus) (defScope s_Share_plus) .none kV_Share_plus dc_Share_plus pm_Share_plus an_Share_plus cd_Share_plus ct_Share_plus), sl_Share_plus⟩)
    (c_Share_plus : PySem.W.codeIn K cd_Share_plus "Share.plus" = true) (k_Share_plus : PySem.W.keepIn K (.ref f_Share_plus) = true)
    {f_Share_less : Addr} {od_Share_less an_Share_less : Option Addr} {sl_Share_less : Array (Option Value)} {oc_Share_less kV_Share_less dc_Share_less pm_Share_less cd_Share_less ct_Share_less : Value}
    (l_Share_less : K.lookup f_Share_less = some ⟨oc_Share_less, od_Share_less, .func (PySem.W.fnOf "less" "Share.less" (defArgs s_Share_less) (defBody s_Share_less) (defScope s_Share_less) .none kV_Share_less dc_Share_less pm_Share_less an_Share_less cd_Share_less ct_Share_less), sl_Share_less⟩)
    (c_Share_less : PySem.W.codeIn K cd_Share_less "Share.less" = true) (k_Share_less : PySem.W.keepIn K (.ref f_Share_less) = true)
    {f_Share_times : Addr} {od_Share_times an_Share_times : Option Addr} {sl_Share_times : Array (Option Value)} {oc_Share_times kV_Share_times dc_Share_times pm_Share_times cd_Share_times ct_Share_times : Value}
    (l_Share_times : K.lookup f_Share_times = some ⟨oc_Share_times, od_Share_times, .func (PySem.W.fnOf "times" "Share.times" (defArgs s_Share_times) (defBody s_Share_times) (defScope s_Share_times) .none kV_Share_times dc_Share_times pm_Share_times an_Share_times cd_Share_times ct_Share_times), sl_Share_times⟩)
    (c_Share_times : PySem.W.codeIn K cd_Share_times "Share.times" = true) (k_Share_times : PySem.W.keepIn K (.ref f_Share_times) = true)
    {f_Share_by : Addr} {od_Share_by an_Share_by : Option Addr} {sl_Share_by : Array (Option Value)} {oc_Share_by kV_Share_by dc_Share_by pm_Share_by cd_Share_by ct_Share_by : Value}
    (l_Share_by : K.lookup f_Share_by = some ⟨oc_Share_by, od_Share_by, .func (PySem.W.fnOf "by" "Share.by" (defArgs s_Share_by) (defBody s_Share_by) (defScope s_Share_by) .none kV_Share_by dc_Share_by pm_Share_by an_Share_by cd_Share_by ct_Share_by), sl_Share_by⟩)
    (c_Share_by : PySem.W.codeIn K cd_Share_by "Share.by" = true) (k_Share_by : PySem.W.keepIn K (.ref f_Share_by) = true)
    {f_Share_below : Addr} {od_Share_below an_Share_below : Option Addr} {sl_Share_below : Array (Option Value)} {oc_Share_below kV_Share_below dc_Share_below pm_Share_below cd_Share_below ct_Share_below : Value}
    (l_Share_below : K.lookup f_Share_below = some ⟨oc_Share_below, od_Share_below, .func (PySem.W.fnOf "below" "Share.below" (defArgs s_Share_below) (defBody s_Share_below) (defScope s_Share_below) .none kV_Share_below dc_Share_below pm_Share_below an_Share_below cd_Share_below ct_Share_below), sl_Share_below⟩)
    (c_Share_below : PySem.W.codeIn K cd_Share_below "Share.below" = true) (k_Share_below : PySem.W.keepIn K (.ref f_Share_below) = true)
    {f_shares_sum : Addr} {od_shares_sum an_shares_sum : Option Addr} {sl_shares_sum : Array (Option Value)} {oc_shares_sum kV_shares_sum dc_shares_sum pm_shares_sum cd_shares_sum ct_shares_sum : Value}
    (a_shares_sum : PySem.W.nsIn K mainGlobals "shares_sum" = some (some (.ref f_shares_sum)))
    (l_shares_sum : K.lookup f_shares_sum = some ⟨oc_shares_sum, od_shares_sum, .func (PySem.W.fnOf "shares_sum" "shares_sum" (defArgs s_shares_sum) (defBody s_shares_sum) (defScope s_shares_sum) .none kV_shares_sum dc_shares_sum pm_shares_sum an_shares_sum cd_shares_sum ct_shares_sum), sl_shares_sum⟩)
    (c_shares_sum : PySem.W.codeIn K cd_shares_sum "shares_sum" = true) (k_shares_sum : PySem.W.keepIn K (.ref f_shares_sum) = true)
    {f_law_cell_at : Addr} {od_law_cell_at an_law_cell_at : Option Addr} {sl_law_cell_at : Array (Option Value)} {oc_law_cell_at kV_law_cell_at dc_law_cell_at pm_law_cell_at cd_law_cell_at ct_law_cell_at : Value}
    (a_law_cell_at : PySem.W.nsIn K mainGlobals "_law_cell_at" = some (some (.ref f_law_cell_at)))
    (l_law_cell_at : K.lookup f_law_cell_at = some ⟨oc_law_cell_at, od_law_cell_at, .func (PySem.W.fnOf "_law_cell_at" "_law_cell_at" (defArgs s_law_cell_at) (defBody s_law_cell_at) (defScope s_law_cell_at) .none kV_law_cell_at dc_law_cell_at pm_law_cell_at an_law_cell_at cd_law_cell_at ct_law_cell_at), sl_law_cell_at⟩)
    (c_law_cell_at : PySem.W.codeIn K cd_law_cell_at "_law_cell_at" = true) (k_law_cell_at : PySem.W.keepIn K (.ref f_law_cell_at) = true)
    {f_law_well : Addr} {od_law_well an_law_well : Option Addr} {sl_law_well : Array (Option Value)} {oc_law_well kV_law_well dc_law_well pm_law_well cd_law_well ct_law_well : Value}
    (a_law_well : PySem.W.nsIn K mainGlobals "_law_well" = some (some (.ref f_law_well)))
    (l_law_well : K.lookup f_law_well = some ⟨oc_law_well, od_law_well, .func (PySem.W.fnOf "_law_well" "_law_well" (defArgs s_law_well) (defBody s_law_well) (defScope s_law_well) .none kV_law_well dc_law_well pm_law_well an_law_well cd_law_well ct_law_well), sl_law_well⟩)
    (c_law_well : PySem.W.codeIn K cd_law_well "_law_well" = true) (k_law_well : PySem.W.keepIn K (.ref f_law_well) = true)
    {f_law_draw : Addr} {od_law_draw an_law_draw : Option Addr} {sl_law_draw : Array (Option Value)} {oc_law_draw kV_law_draw dc_law_draw pm_law_draw cd_law_draw ct_law_draw : Value}
    (a_law_draw : PySem.W.nsIn K mainGlobals "_law_draw" = some (some (.ref f_law_draw)))
    (l_law_draw : K.lookup f_law_draw = some ⟨oc_law_draw, od_law_draw, .func (PySem.W.fnOf "_law_draw" "_law_draw" (defArgs s_law_draw) (defBody s_law_draw) (defScope s_law_draw) .none kV_law_draw dc_law_draw pm_law_draw an_law_draw cd_law_draw ct_law_draw), sl_law_draw⟩)
    (c_law_draw : PySem.W.codeIn K cd_law_draw "_law_draw" = true) (k_law_draw : PySem.W.keepIn K (.ref f_law_draw) = true)
    {f_law_lowest : Addr} {od_law_lowest an_law_lowest : Option Addr} {sl_law_lowest : Array (Option Value)} {oc_law_lowest kV_law_lowest dc_law_lowest pm_law_lowest cd_law_lowest ct_law_lowest : Value}
    (a_law_lowest : PySem.W.nsIn K mainGlobals "_law_lowest" = some (some (.ref f_law_lowest)))
    (l_law_lowest : K.lookup f_law_lowest = some ⟨oc_law_lowest, od_law_lowest, .func (PySem.W.fnOf "_law_lowest" "_law_lowest" (defArgs s_law_lowest) (defBody s_law_lowest) (defScope s_law_lowest) .none kV_law_lowest dc_law_lowest pm_law_lowest an_law_lowest cd_law_lowest ct_law_lowest), sl_law_lowest⟩)
    (c_law_lowest : PySem.W.codeIn K cd_law_lowest "_law_lowest" = true) (k_law_lowest : PySem.W.keepIn K (.ref f_law_lowest) = true)
    {f_law_pair : Addr} {od_law_pair an_law_pair : Option Addr} {sl_law_pair : Array (Option Value)} {oc_law_pair kV_law_pair dc_law_pair pm_law_pair cd_law_pair ct_law_pair : Value}
    (a_law_pair : PySem.W.nsIn K mainGlobals "_law_pair" = some (some (.ref f_law_pair)))
    (l_law_pair : K.lookup f_law_pair = some ⟨oc_law_pair, od_law_pair, .func (PySem.W.fnOf "_law_pair" "_law_pair" (defArgs s_law_pair) (defBody s_law_pair) (defScope s_law_pair) .none kV_law_pair dc_law_pair pm_law_pair an_law_pair cd_law_pair ct_law_pair), sl_law_pair⟩)
    (c_law_pair : PySem.W.codeIn K cd_law_pair "_law_pair" = true) (k_law_pair : PySem.W.keepIn K (.ref f_law_pair) = true)
    {f_law_by : Addr} {od_law_by an_law_by : Option Addr} {sl_law_by : Array (Option Value)} {oc_law_by kV_law_by dc_law_by pm_law_by cd_law_by ct_law_by : Value}
    (a_law_by : PySem.W.nsIn K mainGlobals "_law_by" = some (some (.ref f_law_by)))
    (l_law_by : K.lookup f_law_by = some ⟨oc_law_by, od_law_by, .func (PySem.W.fnOf "_law_by" "_law_by" (defArgs s_law_by) (defBody s_law_by) (defScope s_law_by) .none kV_law_by dc_law_by pm_law_by an_law_by cd_law_by ct_law_by), sl_law_by⟩)
    (c_law_by : PySem.W.codeIn K cd_law_by "_law_by" = true) (k_law_by : PySem.W.keepIn K (.ref f_law_by) = true)
    {f_law_two_right : Addr} {od_law_two_right an_law_two_right : Option Addr} {sl_law_two_right : Array (Option Value)} {oc_law_two_right kV_law_two_right dc_law_two_right pm_law_two_right cd_law_two_right ct_law_two_right : Value}
    (a_law_two_right : PySem.W.nsIn K mainGlobals "_law_two_right" = some (some (.ref f_law_two_right)))
    (l_law_two_right : K.lookup f_law_two_right = some ⟨oc_law_two_right, od_law_two_right, .func (PySem.W.fnOf "_law_two_right" "_law_two_right" (defArgs s_law_two_right) (defBody s_law_two_right) (defScope s_law_two_right) .none kV_law_two_right dc_law_two_right pm_law_two_right an_law_two_right cd_law_two_right ct_law_two_right), sl_law_two_right⟩)
    (c_law_two_right : PySem.W.codeIn K cd_law_two_right "_law_two_right" = true) (k_law_two_right : PySem.W.keepIn K (.ref f_law_two_right) = true)
    {f_law : Addr} {od_law an_law : Option Addr} {sl_law : Array (Option Value)} {oc_law kV_law dc_law pm_law cd_law ct_law : Value}
    (a_law : PySem.W.nsIn K mainGlobals "law" = some (some (.ref f_law)))
    (l_law : K.lookup f_law = some ⟨oc_law, od_law, .func (PySem.W.fnOf "law" "law" (defArgs s_law) (defBody s_law) (defScope s_law) .none kV_law dc_law pm_law an_law cd_law ct_law), sl_law⟩)
    (c_law : PySem.W.codeIn K cd_law "law" = true) (k_law : PySem.W.keepIn K (.ref f_law) = true)
    {C_PollError : Addr}
    (aC_PollError : PySem.W.nsIn K mainGlobals "PollError" = some (some (.ref C_PollError)))
    {nm_PollError q_PollError : Str} {N_PollError : Addr} {bs_PollError : List Value} {sn_PollError : List Str} {sub_PollError : List Value} {ab_PollError : Bool} {col_PollError : Option Bool} {dd_PollError : Option Addr} {m0_PollError m1_PollError m2_PollError m3_PollError m5_PollError : Option Value}
    (xL_PollError : K.lookup C_PollError = some (excClassObj nm_PollError q_PollError C_PollError N_PollError bs_PollError [.type "ValueError", .type "Exception", .type "BaseException", .type "object"] true sn_PollError sub_PollError ab_PollError col_PollError dd_PollError m0_PollError m1_PollError m2_PollError m3_PollError m5_PollError "ValueError.__new__"))
    (sa_PollError : PySem.W.findIn K (.ref C_PollError) "__setattr__" = some (some (.builtin "object.__setattr__")))
    (gt_PollError : PySem.W.findIn K (.ref C_PollError) "__getattribute__" = some (some (.builtin "BaseException.__getattribute__")))
    (gg_PollError : PySem.W.findIn K (.ref C_PollError) "__getattr__" = some none)
    (ai_PollError : PySem.W.findIn K (.ref C_PollError) "__init__" = some (some (.ref f_PollError_init)))
    (ti_PollError : PySem.W.typeIn K (.ref f_PollError_init) = some (.type "function"))
    (kC_PollError : PySem.W.keepIn K (.ref C_PollError) = true)
    (eC_PollError : PySem.W.subIn K (.ref C_PollError) (.type "BaseException") = some true)
    (tC_PollError : PySem.W.typeIn K (.ref C_PollError) = some (.type "type"))
    (hC_PollError : PySem.W.hasDictIn K C_PollError = true)
    (nf_PollError_why : PySem.W.findIn K (.ref C_PollError) "why" = some none)
    (rd_PollError : PySem.W.readsIn K C_PollError (.type "type") = true)
    (ga_PollError : PySem.W.specialIn K (.ref C_PollError) "__getattribute__" = some (some (.builtin "type.__getattribute__")))
    (fc_PollError_init : PySem.W.findCls K (.ref C_PollError) (.type "type") "__init__" = some (.val (.ref f_PollError_init)))
    {C_NoShare : Addr}
    (aC_NoShare : PySem.W.nsIn K mainGlobals "NoShare" = some (some (.ref C_NoShare)))
    {nm_NoShare q_NoShare : Str} {N_NoShare : Addr} {bs_NoShare : List Value} {sn_NoShare : List Str} {sub_NoShare : List Value} {ab_NoShare : Bool} {col_NoShare : Option Bool} {dd_NoShare : Option Addr} {m0_NoShare m1_NoShare m2_NoShare m3_NoShare m5_NoShare : Option Value}
    (xL_NoShare : K.lookup C_NoShare = some (excClassObj nm_NoShare q_NoShare C_NoShare N_NoShare bs_NoShare [.ref C_PollError, .type "ValueError", .type "Exception", .type "BaseException", .type "object"] true sn_NoShare sub_NoShare ab_NoShare col_NoShare dd_NoShare m0_NoShare m1_NoShare m2_NoShare m3_NoShare m5_NoShare "ValueError.__new__"))
    (sa_NoShare : PySem.W.findIn K (.ref C_NoShare) "__setattr__" = some (some (.builtin "object.__setattr__")))
    (gt_NoShare : PySem.W.findIn K (.ref C_NoShare) "__getattribute__" = some (some (.builtin "BaseException.__getattribute__")))
    (gg_NoShare : PySem.W.findIn K (.ref C_NoShare) "__getattr__" = some none)
    (ai_NoShare : PySem.W.findIn K (.ref C_NoShare) "__init__" = some (some (.ref f_NoShare_init)))
    (ti_NoShare : PySem.W.typeIn K (.ref f_NoShare_init) = some (.type "function"))
    (kC_NoShare : PySem.W.keepIn K (.ref C_NoShare) = true)
    (eC_NoShare : PySem.W.subIn K (.ref C_NoShare) (.type "BaseException") = some true)
    (tC_NoShare : PySem.W.typeIn K (.ref C_NoShare) = some (.type "type"))
    (hC_NoShare : PySem.W.hasDictIn K C_NoShare = true)
    (nf_NoShare_why : PySem.W.findIn K (.ref C_NoShare) "why" = some none)
    (nf_NoShare_num : PySem.W.findIn K (.ref C_NoShare) "num" = some none)
    (nf_NoShare_over : PySem.W.findIn K (.ref C_NoShare) "over" = some none)
    {C_Share : Addr}
    (aC_Share : PySem.W.nsIn K mainGlobals "Share" = some (some (.ref C_Share)))
    (pg_Share : PySem.W.plainGet K C_Share Str.empty = true)
    (hd_Share : PySem.W.hasDictIn K C_Share = true)
    (po_Share : PySem.W.plainOver K C_Share = true)
    (sa_Share : PySem.W.findIn K (.ref C_Share) "__setattr__" = some (some (.builtin "object.__setattr__")))
    (mk_Share : PySem.W.makesIn K C_Share = true)
    (kc_Share : PySem.W.keepIn K (.ref C_Share) = true)
    (ai_Share : PySem.W.findIn K (.ref C_Share) "__init__" = some (some (.ref f_Share_init)))
    (ii_Share : PySem.W.isFn K (.ref f_Share_init) = true)
    (n_Share_num : PySem.W.findIn K (.ref C_Share) "num" = some none)
    (n_Share_over : PySem.W.findIn K (.ref C_Share) "over" = some none)
    (am_Share_plus : PySem.W.findIn K (.ref C_Share) "plus" = some (some (.ref f_Share_plus)))
    (im_Share_plus : PySem.W.isFn K (.ref f_Share_plus) = true)
    (am_Share_by : PySem.W.findIn K (.ref C_Share) "by" = some (some (.ref f_Share_by)))
    (im_Share_by : PySem.W.isFn K (.ref f_Share_by) = true)
    (am_Share_less : PySem.W.findIn K (.ref C_Share) "less" = some (some (.ref f_Share_less)))
    (im_Share_less : PySem.W.isFn K (.ref f_Share_less) = true)
    (am_Share_times : PySem.W.findIn K (.ref C_Share) "times" = some (some (.ref f_Share_times)))
    (im_Share_times : PySem.W.isFn K (.ref f_Share_times) = true)
    (am_Share_below : PySem.W.findIn K (.ref C_Share) "below" = some (some (.ref f_Share_below)))
    (im_Share_below : PySem.W.isFn K (.ref f_Share_below) = true)
    (ae_Share : PySem.W.findIn K (.ref C_Share) "__eq__" = some (some (.ref f_Share_eq)))
    (ie_Share : PySem.W.isFn K (.ref f_Share_eq) = true)
    (ne_Share : PySem.W.findIn K (.ref C_Share) "__ne__" = some (some (.builtin "object.__ne__")))
    (ob_Share : PySem.W.mroIn K C_Share (.type "object") = some true)
    (ha_Share : PySem.W.findIn K (.ref C_Share) "__class__" = some (some (.builtin "object.__class__")))
    (hn_Share : PySem.W.specialIn K (.builtin "object.__class__") "__get__" = some (some (.builtin "getset_descriptor.__get__")))
    (ht_Share : PySem.W.takesIn K (.builtin "object.__class__") = some true)
    (ki_Share : PySem.W.kitOne K (.ref C_Share) (.ref C_Share) = some true)
    (sb_NoShare_NoShare : PySem.W.subIn K (.ref C_NoShare) (.ref C_NoShare) = some true)
    (vV : PySem.W.findCls K (.type "ValueError") (.type "type") "__init__" = some (.val (.builtin "ValueError.__init__")))
    (gcd : PySem.W.nsIn K mainGlobals "gcd" = some (some (.builtin "math.gcd")))
    (z_ValueError : PySem.W.nsIn K mainGlobals "ValueError" = some none)
    (z_isinstance : PySem.W.nsIn K mainGlobals "isinstance" = some none)
    (z_len : PySem.W.nsIn K mainGlobals "len" = some none)
    (z_int : PySem.W.nsIn K mainGlobals "int" = some none)
    (z_abs : PySem.W.nsIn K mainGlobals "abs" = some none)
    (z_range : PySem.W.nsIn K mainGlobals "range" = some none)
    : ∃ fd : FuncData, (∀ (s : Shared) (v : Value), BindsTo s fd ⟨[v], []⟩ [("_law_script", v)]) ∧ ∀ base : Heap, K.In base → base.Ns mainGlobals mg → FnOk l.prog w K mg base CX0 9 fa fd ["_law_script"] (sp_law K) := by
  have e := hfa.symm.trans (PySem.W.mg_of X G a_law)
  cases e
  have F_PollError_init : FunD K "__init__" "PollError.__init__" (defArgs s_PollError_init) (defBody s_PollError_init) (defScope s_PollError_init) [V.str ""] [] f_PollError_init _ := ⟨⟨_, _, _, _, _, _, _, _, _, _, rfl, l_PollError_init, c_PollError_init, .inr ⟨by simp, _, _, [.str "" tk0_PollError_init], _, rfl, lt_PollError_init, rfl, (.cons ⟨_, rfl⟩ Paired.nil)⟩, .inl rfl⟩, k_PollError_init⟩
  obtain ⟨ikb_PollError_init_2, kb_PollError_init_2⟩ := F_PollError_init.kbindsD (ps := ["self", "why"]) 2 [] (fun us its ws => us) (by simp) (fun r1 r2 r3 => r1) (fun _ _ _ _ _ _ _ us its ws l1 l2 l3 => match us, its, ws, l1, l2, l3 with | [_, _], [_], [], _, _, _ => ⟨_, rfl, rfl⟩)
  have F_NoShare_init := fun_mk (st := s_NoShare_init) l_NoShare_init c_NoShare_init k_NoShare_init
  have kb_NoShare_init_2_over : KBn K (PySem.W.fnOf "__init__" "NoShare.__init__" (defArgs s_NoShare_init) (defBody s_NoShare_init) (defScope s_NoShare_init) .none kV_NoShare_init dc_NoShare_init pm_NoShare_init an_NoShare_init cd_NoShare_init ct_NoShare_init) ["self", "num", "over"] 2 ["over"] (fun us ws => us ++ ((ws.drop 0).take 1)) (fun vs zs => vs ++ ((zs.drop 0).take 1)) := ⟨fun s us ws _ l1 l2 => .of_eq (match us, ws, l1, l2 with | [_, _], [_], _, _ => rfl), fun r1 r3 => r1.append (((r3.drop 0).take 1))⟩
  have F_Share_init : FunD K "__init__" "Share.__init__" (defArgs s_Share_init) (defBody s_Share_init) (defScope s_Share_init) [V.int 1] [] f_Share_init _ := ⟨⟨_, _, _, _, _, _, _, _, _, _, rfl, l_Share_init, c_Share_init, .inr ⟨by simp, _, _, [.int 1 tk0_Share_init], _, rfl, lt_Share_init, rfl, (.cons ⟨_, rfl⟩ Paired.nil)⟩, .inl rfl⟩, k_Share_init⟩
  obtain ⟨ikb_Share_init_3, kb_Share_init_3⟩ := F_Share_init.kbindsD (ps := ["self", "num", "over"]) 3 [] (fun us its ws => us) (by simp) (fun r1 r2 r3 => r1) (fun _ _ _ _ _ _ _ us its ws l1 l2 l3 => match us, its, ws, l1, l2, l3 with | [_, _, _], [_], [], _, _, _ => ⟨_, rfl, rfl⟩)
  obtain ⟨ikb_Share_init_2, kb_Share_init_2⟩ := F_Share_init.kbindsD (ps := ["self", "num", "over"]) 2 [] (fun us its ws => us ++ ((its.drop 0).take 1)) (by simp) (fun r1 r2 r3 => r1.append (((r2.drop 0).take 1))) (fun _ _ _ _ _ _ _ us its ws l1 l2 l3 => match us, its, ws, l1, l2, l3 with | [_, _], [_], [], _, _, _ => ⟨_, rfl, rfl⟩)
  have F_Share_eq := fun_mk (st := s_Share_eq) l_Share_eq c_Share_eq k_Share_eq
  have b_Share_eq := F_Share_eq.binds (ps := ["self", "other"]) fun _ _ _ _ _ _ us hl => match us, hl with | [_, _], _ => rfl
  have F_Share_plus := fun_mk (st := s_Share_plus) l_Share_plus c_Share_plus k_Share_plus
  have b_Share_plus := F_Share_plus.binds (ps := ["self", "other"]) fun _ _ _ _ _ _ us hl => match us, hl with | [_, _], _ => rfl
  have kb_Share_plus_2 : KBn K (PySem.W.fnOf "plus" "Share.plus" (defArgs s_Share_plus) (defBody s_Share_plus) (defScope s_Share_plus) .none kV_Share_plus dc_Share_plus pm_Share_plus an_Share_plus cd_Share_plus ct_Share_plus) ["self", "other"] 2 [] (fun us ws => us) (fun vs zs => vs) := ⟨fun s us ws _ l1 l2 => .of_eq (match us, ws, l1, l2 with | [_, _], [], _, _ => rfl), fun r1 r3 => r1⟩
  have kb_Share_plus_1_other : KBn K (PySem.W.fnOf "plus" "Share.plus" (defArgs s_Share_plus) (defBody s_Share_plus) (defScope s_Share_plus) .none kV_Share_plus dc_Share_plus pm_Share_plus an_Share_plus cd_Share_plus ct_Share_plus) ["self", "other"] 1 ["other"] (fun us ws => us ++ ((ws.drop 0).take 1)) (fun vs zs => vs ++ ((zs.drop 0).take 1)) := ⟨fun s us ws _ l1 l2 => .of_eq (match us, ws, l1, l2 with | [_], [_], _, _ => rfl), fun r1 r3 => r1.append (((r3.drop 0).take 1))⟩
  have F_Share_less := fun_mk (st := s_Share_less) l_Share_less c_Share_less k_Share_less
  have b_Share_less := F_Share_less.binds (ps := ["self", "other"]) fun _ _ _ _ _ _ us hl => match us, hl with | [_, _], _ => rfl
  have kb_Share_less_1_other : KBn K (PySem.W.fnOf "less" "Share.less" (defArgs s_Share_less) (defBody s_Share_less) (defScope s_Share_less) .none kV_Share_less dc_Share_less pm_Share_less an_Share_less cd_Share_less ct_Share_less) ["self", "other"] 1 ["other"] (fun us ws => us ++ ((ws.drop 0).take 1)) (fun vs zs => vs ++ ((zs.drop 0).take 1)) := ⟨fun s us ws _ l1 l2 => .of_eq (match us, ws, l1, l2 with | [_], [_], _, _ => rfl), fun r1 r3 => r1.append (((r3.drop 0).take 1))⟩
  have kb_Share_less_2 : KBn K (PySem.W.fnOf "less" "Share.less" (defArgs s_Share_less) (defBody s_Share_less) (defScope s_Share_less) .none kV_Share_less dc_Share_less pm_Share_less an_Share_less cd_Share_less ct_Share_less) ["self", "other"] 2 [] (fun us ws => us) (fun vs zs => vs) := ⟨fun s us ws _ l1 l2 => .of_eq (match us, ws, l1, l2 with | [_, _], [], _, _ => rfl), fun r1 r3 => r1⟩
  have F_Share_times := fun_mk (st := s_Share_times) l_Share_times c_Share_times k_Share_times
  have b_Share_times := F_Share_times.binds (ps := ["self", "other"]) fun _ _ _ _ _ _ us hl => match us, hl with | [_, _], _ => rfl
  have kb_Share_times_2 : KBn K (PySem.W.fnOf "times" "Share.times" (defArgs s_Share_times) (defBody s_Share_times) (defScope s_Share_times) .none kV_Share_times dc_Share_times pm_Share_times an_Share_times cd_Share_times ct_Share_times) ["self", "other"] 2 [] (fun us ws => us) (fun vs zs => vs) := ⟨fun s us ws _ l1 l2 => .of_eq (match us, ws, l1, l2 with | [_, _], [], _, _ => rfl), fun r1 r3 => r1⟩
  have kb_Share_times_1_other : KBn K (PySem.W.fnOf "times" "Share.times" (defArgs s_Share_times) (defBody s_Share_times) (defScope s_Share_times) .none kV_Share_times dc_Share_times pm_Share_times an_Share_times cd_Share_times ct_Share_times) ["self", "other"] 1 ["other"] (fun us ws => us ++ ((ws.drop 0).take 1)) (fun vs zs => vs ++ ((zs.drop 0).take 1)) := ⟨fun s us ws _ l1 l2 => .of_eq (match us, ws, l1, l2 with | [_], [_], _, _ => rfl), fun r1 r3 => r1.append (((r3.drop 0).take 1))⟩
  have F_Share_by := fun_mk (st := s_Share_by) l_Share_by c_Share_by k_Share_by
  have b_Share_by := F_Share_by.binds (ps := ["self", "other"]) fun _ _ _ _ _ _ us hl => match us, hl with | [_, _], _ => rfl
  have kb_Share_by_2 : KBn K (PySem.W.fnOf "by" "Share.by" (defArgs s_Share_by) (defBody s_Share_by) (defScope s_Share_by) .none kV_Share_by dc_Share_by pm_Share_by an_Share_by cd_Share_by ct_Share_by) ["self", "other"] 2 [] (fun us ws => us) (fun vs zs => vs) := ⟨fun s us ws _ l1 l2 => .of_eq (match us, ws, l1, l2 with | [_, _], [], _, _ => rfl), fun r1 r3 => r1⟩
  have kb_Share_by_1_other : KBn K (PySem.W.fnOf "by" "Share.by" (defArgs s_Share_by) (defBody s_Share_by) (defScope s_Share_by) .none kV_Share_by dc_Share_by pm_Share_by an_Share_by cd_Share_by ct_Share_by) ["self", "other"] 1 ["other"] (fun us ws => us ++ ((ws.drop 0).take 1)) (fun vs zs => vs ++ ((zs.drop 0).take 1)) := ⟨fun s us ws _ l1 l2 => .of_eq (match us, ws, l1, l2 with | [_], [_], _, _ => rfl), fun r1 r3 => r1.append (((r3.drop 0).take 1))⟩
  have F_Share_below := fun_mk (st := s_Share_below) l_Share_below c_Share_below k_Share_below
  have b_Share_below := F_Share_below.binds (ps := ["self", "other"]) fun _ _ _ _ _ _ us hl => match us, hl with | [_, _], _ => rfl
  have kb_Share_below_2 : KBn K (PySem.W.fnOf "below" "Share.below" (defArgs s_Share_below) (defBody s_Share_below) (defScope s_Share_below) .none kV_Share_below dc_Share_below pm_Share_below an_Share_below cd_Share_below ct_Share_below) ["self", "other"] 2 [] (fun us ws => us) (fun vs zs => vs) := ⟨fun s us ws _ l1 l2 => .of_eq (match us, ws, l1, l2 with | [_, _], [], _, _ => rfl), fun r1 r3 => r1⟩
  have kb_Share_below_1_other : KBn K (PySem.W.fnOf "below" "Share.below" (defArgs s_Share_below) (defBody s_Share_below) (defScope s_Share_below) .none kV_Share_below dc_Share_below pm_Share_below an_Share_below cd_Share_below ct_Share_below) ["self", "other"] 1 ["other"] (fun us ws => us ++ ((ws.drop 0).take 1)) (fun vs zs => vs ++ ((zs.drop 0).take 1)) := ⟨fun s us ws _ l1 l2 => .of_eq (match us, ws, l1, l2 with | [_], [_], _, _ => rfl), fun r1 r3 => r1.append (((r3.drop 0).take 1))⟩
  have F_shares_sum := fun_mk (st := s_shares_sum) l_shares_sum c_shares_sum k_shares_sum
  have b_shares_sum := F_shares_sum.binds (ps := ["shares"]) fun _ _ _ _ _ _ us hl => match us, hl with | [_], _ => rfl
  have F_law_cell_at := fun_mk (st := s_law_cell_at) l_law_cell_at c_law_cell_at k_law_cell_at
  have b_law_cell_at := F_law_cell_at.binds (ps := ["_law_script", "_law_k"]) fun _ _ _ _ _ _ us hl => match us, hl with | [_, _], _ => rfl
  have F_law_well := fun_mk (st := s_law_well) l_law_well c_law_well k_law_well
  have b_law_well := F_law_well.binds (ps := ["_law_cell"]) fun _ _ _ _ _ _ us hl => match us, hl with | [_], _ => rfl
  have F_law_draw := fun_mk (st := s_law_draw) l_law_draw c_law_draw k_law_draw
  have b_law_draw := F_law_draw.binds (ps := ["_law_well_here", "_law_size"]) fun _ _ _ _ _ _ us hl => match us, hl with | [_, _], _ => rfl
  have F_law_lowest := fun_mk (st := s_law_lowest) l_law_lowest c_law_lowest k_law_lowest
  have b_law_lowest := F_law_lowest.binds (ps := ["_law_top", "_law_ground"]) fun _ _ _ _ _ _ us hl => match us, hl with | [_, _], _ => rfl
  have F_law_pair := fun_mk (st := s_law_pair) l_law_pair c_law_pair k_law_pair
  have b_law_pair := F_law_pair.binds (ps := ["_law_well_here"]) fun _ _ _ _ _ _ us hl => match us, hl with | [_], _ => rfl
  have F_law_by := fun_mk (st := s_law_by) l_law_by c_law_by k_law_by
  have b_law_by := F_law_by.binds (ps := ["_law_one_here", "_law_second"]) fun _ _ _ _ _ _ us hl => match us, hl with | [_, _], _ => rfl
  have F_law_two_right := fun_mk (st := s_law_two_right) l_law_two_right c_law_two_right k_law_two_right
  have b_law_two_right := F_law_two_right.binds (ps := ["_law_pairs", "_law_shares", "_law_k", "_law_j"]) fun _ _ _ _ _ _ us hl => match us, hl with | [_, _, _, _], _ => rfl
  have F_law := fun_mk (st := s_law) l_law c_law k_law
  have b_law := F_law.binds (ps := ["_law_script"]) fun _ _ _ _ _ _ us hl => match us, hl with | [_], _ => rfl
  let T : Txt K mg := {
    f_PollError_init := _, fd_PollError_init := _, F_PollError_init := F_PollError_init, gkb_PollError_init_2 := _, kb_PollError_init_2 := kb_PollError_init_2,
    f_NoShare_init := _, fd_NoShare_init := _, F_NoShare_init := F_NoShare_init, gkb_NoShare_init_2_over := _, kb_NoShare_init_2_over := kb_NoShare_init_2_over,
    f_Share_init := _, fd_Share_init := _, F_Share_init := F_Share_init, gkb_Share_init_3 := _, kb_Share_init_3 := kb_Share_init_3, gkb_Share_init_2 := _, kb_Share_init_2 := kb_Share_init_2,
    f_Share_eq := _, fd_Share_eq := _, F_Share_eq := F_Share_eq, b_Share_eq := b_Share_eq,
    f_Share_plus := _, fd_Share_plus := _, F_Share_plus := F_Share_plus, b_Share_plus := b_Share_plus, gkb_Share_plus_2 := _, kb_Share_plus_2 := kb_Share_plus_2, gkb_Share_plus_1_other := _, kb_Share_plus_1_other := kb_Share_plus_1_other,
    f_Share_less := _, fd_Share_less := _, F_Share_less := F_Share_less, b_Share_less := b_Share_less, gkb_Share_less_1_other := _, kb_Share_less_1_other := kb_Share_less_1_other, gkb_Share_less_2 := _, kb_Share_less_2 := kb_Share_less_2,
    f_Share_times := _, fd_Share_times := _, F_Share_times := F_Share_times, b_Share_times := b_Share_times, gkb_Share_times_2 := _, kb_Share_times_2 := kb_Share_times_2, gkb_Share_times_1_other := _, kb_Share_times_1_other := kb_Share_times_1_other,
    f_Share_by := _, fd_Share_by := _, F_Share_by := F_Share_by, b_Share_by := b_Share_by, gkb_Share_by_2 := _, kb_Share_by_2 := kb_Share_by_2, gkb_Share_by_1_other := _, kb_Share_by_1_other := kb_Share_by_1_other,
    f_Share_below := _, fd_Share_below := _, F_Share_below := F_Share_below, b_Share_below := b_Share_below, gkb_Share_below_2 := _, kb_Share_below_2 := kb_Share_below_2, gkb_Share_below_1_other := _, kb_Share_below_1_other := kb_Share_below_1_other,
    f_shares_sum := _, fd_shares_sum := _, F_shares_sum := F_shares_sum, b_shares_sum := b_shares_sum, g_shares_sum := PySem.W.mg_of X G a_shares_sum,
    f_law_cell_at := _, fd_law_cell_at := _, F_law_cell_at := F_law_cell_at, b_law_cell_at := b_law_cell_at, g_law_cell_at := PySem.W.mg_of X G a_law_cell_at,
    f_law_well := _, fd_law_well := _, F_law_well := F_law_well, b_law_well := b_law_well, g_law_well := PySem.W.mg_of X G a_law_well,
    f_law_draw := _, fd_law_draw := _, F_law_draw := F_law_draw, b_law_draw := b_law_draw, g_law_draw := PySem.W.mg_of X G a_law_draw,
    f_law_lowest := _, fd_law_lowest := _, F_law_lowest := F_law_lowest, b_law_lowest := b_law_lowest, g_law_lowest := PySem.W.mg_of X G a_law_lowest,
    f_law_pair := _, fd_law_pair := _, F_law_pair := F_law_pair, b_law_pair := b_law_pair, g_law_pair := PySem.W.mg_of X G a_law_pair,
    f_law_by := _, fd_law_by := _, F_law_by := F_law_by, b_law_by := b_law_by, g_law_by := PySem.W.mg_of X G a_law_by,
    f_law_two_right := _, fd_law_two_right := _, F_law_two_right := F_law_two_right, b_law_two_right := b_law_two_right, g_law_two_right := PySem.W.mg_of X G a_law_two_right,
    f_law := _, fd_law := _, F_law := F_law, b_law := b_law, g_law := PySem.W.mg_of X G a_law,
    C_PollError := _, k_PollError := PySem.W.mg_of X G aC_PollError,
    ex_PollError := ⟨⟨⟨_, _, _, _, _, _, _, _, _, _, _, _, _, _, _, xL_PollError, rfl⟩, sa_PollError, eC_PollError, tC_PollError, kC_PollError⟩, ai_PollError, ti_PollError⟩,
    xf_PollError := ⟨gt_PollError, gg_PollError, eC_PollError, hC_PollError⟩,
    nf_PollError_why := nf_PollError_why,
    rd_PollError := rd_PollError, ga_PollError := ga_PollError, fc_PollError_init := fc_PollError_init,
    C_NoShare := _, k_NoShare := PySem.W.mg_of X G aC_NoShare,
    ex_NoShare := ⟨⟨⟨_, _, _, _, _, _, _, _, _, _, _, _, _, _, _, xL_NoShare, rfl⟩, sa_NoShare, eC_NoShare, tC_NoShare, kC_NoShare⟩, ai_NoShare, ti_NoShare⟩,
    xf_NoShare := ⟨gt_NoShare, gg_NoShare, eC_NoShare, hC_NoShare⟩,
    nf_NoShare_why := nf_NoShare_why,
    nf_NoShare_num := nf_NoShare_num,
    nf_NoShare_over := nf_NoShare_over,
    C_Share := _, k_Share := PySem.W.mg_of X G aC_Share,
    cl_Share := ⟨pg_Share, hd_Share, po_Share, sa_Share⟩, mk_Share := ⟨mk_Share, ai_Share, ii_Share, kc_Share⟩,
    n_Share_num := n_Share_num,
    n_Share_over := n_Share_over,
    me_Share_plus := ⟨am_Share_plus, im_Share_plus, k_Share_plus⟩,
    me_Share_by := ⟨am_Share_by, im_Share_by, k_Share_by⟩,
    me_Share_less := ⟨am_Share_less, im_Share_less, k_Share_less⟩,
    me_Share_times := ⟨am_Share_times, im_Share_times, k_Share_times⟩,
    me_Share_below := ⟨am_Share_below, im_Share_below, k_Share_below⟩,
    eo_Share := ⟨ae_Share, ie_Share, ne_Share, ob_Share⟩,
    is_Share := ⟨ha_Share, hn_Share, ht_Share, ob_Share⟩, ki_Share := ki_Share,
    te_NoShare_NoShare := PySem.W.exm_ref eC_NoShare hC_NoShare tC_NoShare sb_NoShare_NoShare,
    vV := vV,
    gcd := PySem.W.mg_of X G gcd,
    z_ValueError := PySem.W.mg_none_of X G z_ValueError,
    z_isinstance := PySem.W.mg_none_of X G z_isinstance,
    z_len := PySem.W.mg_none_of X G z_len,
    z_int := PySem.W.mg_none_of X G z_int,
    z_abs := PySem.W.mg_none_of X G z_abs,
    z_range := PySem.W.mg_none_of X G z_range }
  exact ⟨PySem.W.fnOf "law" "law" (defArgs s_law) (defBody s_law) (defScope s_law) .none kV_law dc_law pm_law an_law cd_law ct_law, fun s v => .of_eq rfl, fun base _ _ => ok_law T⟩
end Own
open PySem PySem.W PyProof.Rows
set_option maxHeartbeats 0 in
theorem PySem.Challenge.cw_voicefold_k04_whole_shares_reckoned_holds : PySem.Challenge.rw_voicefold_k04_whole_shares_reckoned.Holds := by
  w_on; o_law; k_head; (case hw => w_witness2)
  k_fill
  refine L2.walk_of (l := PySem.Challenge.rw_voicefold_k04_whole_shares_reckoned) (n := 63) (k := 9) (x := "_law_script") (CX := fun _ => L2.CX0) (sp := fun w => Own.sp_law _) rfl (by decide) rfl ⟨rfl, by decide, by decide⟩ (fun w h Y => PySem.W.kIn_of Y) ?F (fun _ _ a ns hl _ hS => ⟨a, ns, rfl, hS, hl, fun _ => rfl⟩) (fun _ _ _ _ _ h => h)
  case F =>
    intro w mg fa h KX G hmg
    refine' Own.all_mk KX G hmg ?lt_PollError_init ?l_PollError_init ?c_PollError_init ?k_PollError_init ?l_NoShare_init ?c_NoShare_init ?k_NoShare_init ?lt_Share_init ?l_Share_init ?c_Share_init ?k_Share_init ?l_Share_eq ?c_Share_eq ?k_Share_eq ?l_Share_plus ?c_Share_plus ?k_Share_plus ?l_Share_less ?c_Share_less ?k_Share_less ?l_Share_times ?c_Share_times ?k_Share_times ?l_Share_by ?c_Share_by ?k_Share_by ?l_Share_below ?c_Share_below ?k_Share_below ?a_shares_sum ?l_shares_sum ?c_shares_sum ?k_shares_sum ?a_law_cell_at ?l_law_cell_at ?c_law_cell_at ?k_law_cell_at ?a_law_well ?l_law_well ?c_law_well ?k_law_well ?a_law_draw ?l_law_draw ?c_law_draw ?k_law_draw ?a_law_lowest ?l_law_lowest ?c_law_lowest ?k_law_lowest ?a_law_pair ?l_law_pair ?c_law_pair ?k_law_pair ?a_law_by ?l_law_by ?c_law_by ?k_law_by ?a_law_two_right ?l_law_two_right ?c_law_two_right ?k_law_two_right ?a_law ?l_law ?c_law ?k_law ?aC_PollError ?xL_PollError ?sa_PollError ?gt_PollError ?gg_PollError ?ai_PollError ?ti_PollError ?kC_PollError ?eC_PollError ?tC_PollError ?hC_PollError ?nf_PollError_why ?rd_PollError ?ga_PollError ?fc_PollError_init ?aC_NoShare ?xL_NoShare ?sa_NoShare ?gt_NoShare ?gg_NoShare ?ai_NoShare ?ti_NoShare ?kC_NoShare ?eC_NoShare ?tC_NoShare ?hC_NoShare ?nf_NoShare_why ?nf_NoShare_num ?nf_NoShare_over ?aC_Share ?pg_Share ?hd_Share ?po_Share ?sa_Share ?mk_Share ?kc_Share ?ai_Share ?ii_Share ?n_Share_num ?n_Share_over ?am_Share_plus ?im_Share_plus ?am_Share_by ?im_Share_by ?am_Share_less ?im_Share_less ?am_Share_times ?im_Share_times ?am_Share_below ?im_Share_below ?ae_Share ?ie_Share ?ne_Share ?ob_Share ?ha_Share ?hn_Share ?ht_Share ?ki_Share ?sb_NoShare_NoShare ?vV ?gcd ?z_ValueError ?z_isinstance ?z_len ?z_int ?z_abs ?z_range
    (case a_shares_sum => k_is); (case a_law_cell_at => k_is); (case a_law_well => k_is); (case a_law_draw => k_is); (case a_law_lowest => k_is); (case a_law_pair => k_is); (case a_law_by => k_is); (case a_law_two_right => k_is); (case a_law => k_is); (case aC_PollError => k_is); (case aC_NoShare => k_is); (case aC_Share => k_is); (case ai_PollError => k_is); (case ai_NoShare => k_is); (case ai_Share => k_is); (case am_Share_plus => k_is); (case am_Share_by => k_is); (case am_Share_less => k_is); (case am_Share_times => k_is); (case am_Share_below => k_is); (case ae_Share => k_is); (case l_PollError_init => k_is); (case l_NoShare_init => k_is); (case l_Share_init => k_is); (case l_Share_eq => k_is); (case l_Share_plus => k_is); (case l_Share_less => k_is); (case l_Share_times => k_is); (case l_Share_by => k_is); (case l_Share_below => k_is); (case l_shares_sum => k_is); (case l_law_cell_at => k_is); (case l_law_well => k_is); (case l_law_draw => k_is); (case l_law_lowest => k_is); (case l_law_pair => k_is); (case l_law_by => k_is); (case l_law_two_right => k_is); (case l_law => k_is); (case xL_PollError => k_is); (case xL_NoShare => k_is); (case lt_PollError_init => k_is); (case lt_Share_init => k_is); (case c_PollError_init => k_is); (case k_PollError_init => k_is); (case c_NoShare_init => k_is); (case k_NoShare_init => k_is); (case c_Share_init => k_is); (case k_Share_init => k_is); (case c_Share_eq => k_is); (case k_Share_eq => k_is); (case c_Share_plus => k_is); (case k_Share_plus => k_is); (case c_Share_less => k_is); (case k_Share_less => k_is); (case c_Share_times => k_is); (case k_Share_times => k_is); (case c_Share_by => k_is); (case k_Share_by => k_is); (case c_Share_below => k_is); (case k_Share_below => k_is); (case c_shares_sum => k_is); (case k_shares_sum => k_is); (case c_law_cell_at => k_is); (case k_law_cell_at => k_is); (case c_law_well => k_is); (case k_law_well => k_is); (case c_law_draw => k_is); (case k_law_draw => k_is); (case c_law_lowest => k_is); (case k_law_lowest => k_is); (case c_law_pair => k_is); (case k_law_pair => k_is); (case c_law_by => k_is); (case k_law_by => k_is); (case c_law_two_right => k_is); (case k_law_two_right => k_is); (case c_law => k_is); (case k_law => k_is); (case sa_PollError => k_is); (case gt_PollError => k_is); (case gg_PollError => k_is); (case ti_PollError => k_is); (case kC_PollError => k_is); (case eC_PollError => k_is); (case tC_PollError => k_is); (case hC_PollError => k_is); (case nf_PollError_why => first | k_is | rfl | decide +kernel); (case rd_PollError => k_is); (case ga_PollError => k_is); (case fc_PollError_init => first | k_is | rfl | decide +kernel); (case sa_NoShare => k_is); (case gt_NoShare => k_is); (case gg_NoShare => k_is); (case ti_NoShare => k_is); (case kC_NoShare => k_is); (case eC_NoShare => k_is); (case tC_NoShare => k_is); (case hC_NoShare => k_is); (case nf_NoShare_why => first | k_is | rfl | decide +kernel); (case nf_NoShare_num => first | k_is | rfl | decide +kernel); (case nf_NoShare_over => first | k_is | rfl | decide +kernel); (case pg_Share => k_is); (case hd_Share => k_is); (case po_Share => k_is); (case sa_Share => k_is); (case mk_Share => k_is); (case kc_Share => k_is); (case ii_Share => k_is); (case n_Share_num => k_is); (case n_Share_over => k_is); (case im_Share_plus => k_is); (case im_Share_by => k_is); (case im_Share_less => k_is); (case im_Share_times => k_is); (case im_Share_below => k_is); (case ie_Share => k_is); (case ne_Share => k_is); (case ob_Share => k_is); (case ha_Share => k_is); (case hn_Share => k_is); (case ht_Share => first | k_is | rfl | decide +kernel); (case ki_Share => first | k_is | rfl | decide +kernel); (case sb_NoShare_NoShare => first | k_is | rfl | decide +kernel); (case vV => first | k_is | rfl | decide +kernel); (case gcd => k_is); (case z_ValueError => k_is); (case z_isinstance => k_is); (case z_len => k_is); (case z_int => k_is); (case z_abs => k_is); (case z_range => k_is)
