import PyProof.Rows.All
import Wide.All
import OpenK.AllK
import Wide.FinOn
import HandS.ForMost
import HandS.Wide
import HandS.IsInst
import HandS.Style
import HandS.Walk
import HandS.LawCells
import HandS.TupAny
import HandS.Deep
import HandS.Strs
import HandS.DictComp
import HandS.More
import HandS.CallLocal
import HandS.TryOnly
import HandS.Lambda
import HandS.EndBits
import HandS.EndTab
import HandS.MakeKwOnly
import HandS.ForExc
import HandS.Defaults
import HandS.ExcInit
import HandS.CallSlots
import HandS.ExcIs
import HandS.ExcField
import HandS.MakeKw
import HandS.FStr
import HandS.RaiseMore
import HandS.Base
import HandS.Dict
import HandS.Zip
import HandS.ListItems
import HandS.OwnEq
import HandS.SetFor
import HandS.Conv
import HandS.Keys
import HandS.DictTup
import HandS.TupSets
import HandS.TupLen
import PyProof.ReprLen
import KE.KExcIs
import KE.KCallOwn
import KE.KDictPairs
import KE.KDictZip
import PyProof.TupleOfStr
import PyProof.WalksS
import KE.DataMinKey
import PyProof.SeqRoads2
import KE.KSortTupG
import KE.SortKeyHeap
import KE.KDictList
import PySem.Challenge.RW_voicefold_k46_whole_orders_that_stand_ha
set_option Elab.async false
set_option linter.all false
set_option maxRecDepth 100000
set_option maxHeartbeats 4000000
/-! Own rules: exceptions of own classes made with keywords, in any place; calls with keywords that may raise. -/
namespace PySem
namespace OwnK
open PySem.W PySem.Calls PyProof.Rows PySem.HandSPX
section
variable {M : Model} {A : Around} {E : Value → Shared → Prop} {h : Heap} {g : Array GenState} {d : Drawn} {t : Nat} {os : OsState}
variable {nm q : Str} {C N : Addr} {bs bm bmB : List Value} {hd : Bool} {sn : List Str} {sub : List Value} {ab : Bool} {col : Option Bool} {dd : Option Addr} {k0 k1 k2 k3 k5 : Option Value} {B newId initId : String}
/-- the look ahead of the base's __new__, keywords or none -/
theorem newLook (F : ExcBaseFacts B newId initId bmB) (hT : bm.contains (.type B) = true ∧ bm.contains (.type "AttributeError") = false ∧ bm.contains (.type "NameError") = false) {rest : List Value} {kw : List (Str × Value)} {Q : Unit → Shared → Prop}
    (hC : h.get? C = some (excClassObj nm q C N bs bm hd sn sub ab col dd k0 k1 k2 k3 k5 newId)) (z : Q () ⟨h, g, d, t, os⟩) : wpAny M A (checkBuiltinCall newId ⟨.ref C :: rest, kw⟩) Q E ⟨h, g, d, t, os⟩ := by
  have hB : (Value.ref C :: bm).contains (.type B) = true := by
    rw [List.contains_cons, hT.1]
    exact Bool.or_true _
  have st := F.noStar
  simp only [checkBuiltinCall, F.newKind, F.newSplit, F.newRow]
  repeat (first
    | refine wpAny_loadPart_at hC ?_
    | (refine wpAny_isSubtype_exc hC ?_; rw [hB])
    | refine wpAny_staticBase_exc hC ?_
    | refine wpAny_madeBy_exc hC ?_
    | simp only [bne_self_eq_false, Bool.false_eq_true, if_false]
    | wp_step)
  exact z
end
section
variable {prog : Program} {w : World} {A : Around} {E : Value → Shared → Prop} {R : Result → Shared → Prop} {h : Heap} {g : Array GenState} {d : Drawn} {t : Nat} {os : OsState}
variable {nm q : Str} {C N : Addr} {bs bm bmB : List Value} {hd : Bool} {sn : List Str} {sub : List Value} {ab : Bool} {col : Option Bool} {dd : Option Addr} {k0 k1 k2 k3 k5 : Option Value} {B newId initId : String}
theorem newRun (F : ExcBaseFacts B newId initId bmB) (hT : bm.contains (.type B) = true ∧ bm.contains (.type "AttributeError") = false ∧ bm.contains (.type "NameError") = false) {rest : List Value} {kw : List (Str × Value)}
    (hC : h.get? C = some (excClassObj nm q C N bs bm hd sn sub ab col dd k0 k1 k2 k3 k5 newId))
    (z : R (.ok (.ret (.ref (h.objs.size + 1)))) ⟨(h.push (kdv_tup rest)).push (excO C h.objs.size), g, d, t, os⟩) (hr : rest.length ≤ sizeLine) :
    codeAny (model prog w) A (.builtin newId ⟨.ref C :: rest, kw⟩) R ⟨h, g, d, t, os⟩ := by
  have en := F.ends
  have hB : (Value.ref C :: bm).contains (.type B) = true := by
    rw [List.contains_cons, hT.1]
    exact Bool.or_true _
  have hA : (Value.ref C :: bm).contains (.type "AttributeError") = false := by
    rw [List.contains_cons, hT.2.1] <;> rfl
  have hN : (Value.ref C :: bm).contains (.type "NameError") = false := by
    rw [List.contains_cons, hT.2.2] <;> rfl
  refine codeAny_builtinAt F.entry ?_
  unfold Builtin.«BaseException.__new__»
  refine wpAt_bind ?_
  show wpAt _ _ _ (stack >>= _) _ _ _
  refine wpAt_bind (wpAt_stack fun p below => wpAt_of_wpAny ?_)
  wp_walk
  refine wpAt_of_wpAny ?_
  rw [F.owner]
  repeat (first
    | with_reducible refine wpAny_madeHere_exc F.canon hC ?_
    | with_reducible refine wpAny_loadPart_at hC ?_
    | (with_reducible refine wpAny_isSubtype_exc hC ?_; first | rw [hB] | rw [hA] | rw [hN])
    | wp_step)
  show R _ _
  rw [Heap.size_push]
  exact z
/-- the base's type.__call__, then the own __init__ -/
theorem typeCallRun (F : ExcBaseFacts B newId initId bmB) (hT : bm.contains (.type B) = true ∧ bm.contains (.type "AttributeError") = false ∧ bm.contains (.type "NameError") = false) {rest : List Value} {kw : List (Str × Value)} {fI : Addr} {Q : Fin → Shared → Prop}
    (hC : h.get? C = some (excClassObj nm q C N bs bm hd sn sub ab col dd k0 k1 k2 k3 k5 newId))
    (hi : Looks (model prog w) h (typeLookup (.ref C) "__init__") (some (.ref fI))) (hb : ∀ self, Looks (model prog w) h (bindSpecial (.ref fI) self) (.ref fI, [self])) (hr : rest.length ≤ sizeLine)
    (z : codeAny (model prog w) A (.call (.ref fI) ⟨.ref (h.objs.size + 1) :: rest, kw⟩)
      (fun r s' => match r with | .ok (.ret v) => v = .none ∧ Q (.done (.ret (.ref (h.objs.size + 1)))) s' | .ok _ => False | .error e => E e s')
      ⟨(h.push (kdv_tup rest)).push (excO C h.objs.size), g, d, t, os⟩) :
    wpAny (model prog w) A (Builtin.«type.__call__» ⟨.ref C :: rest, kw⟩) Q E ⟨h, g, d, t, os⟩ := by
  repeat (first
    | with_reducible refine wpAny_loadPart_at hC ?_
    | with_reducible refine wpAny_madeBy_exc hC ?_
    | wp_step)
  refine codeAny_call_builtin_code (Code.quiet_builtin _ F.quiet) (newLook F hT hC ?_)
  refine newRun F hT hC ?_ hr
  show wpAny _ _ _ _ _ _
  have kk : ∀ b o, h.get? b = some o → ((h.push (kdv_tup rest)).push (excO C h.objs.size)).get? b = some o := fun b o e => Heap.get?_push_of_some _ (Heap.get?_push_of_some _ e)
  have hC1 := kk _ _ hC
  have hx : ((h.push (kdv_tup rest)).push (excO C h.objs.size)).get? (h.objs.size + 1) = some (excO C h.objs.size) := by heap_get
  have hs : (Value.ref C :: bm).contains (.ref C) = true := by simp
  have i1 := hi.keeps kk
  have b1 := (hb (.ref (h.objs.size + 1))).keeps kk
  unfold isInstance
  repeat (first
    | with_reducible refine wpAny_loadPart_at hx ?_
    | (with_reducible refine wpAny_isSubtype_exc hC1 ?_; rw [hs])
    | wp_step)
  show wpAny _ _ (typeLookup (.ref C) _) _ _ _
  refine i1.at (wpAny_holding (wpAny_bind (b1.at ?_)))
  refine wpAny_bind (wpAny_call (codeAny_mono z fun r s' y => ?_))
  rcases r with e | fl
  · exact y
  cases fl with
  | ret v =>
    obtain ⟨rfl, y⟩ := y
    first
    | exact wpAny_pure (wpAny_pure y)
    | (wp_walk; exact y)
  | next => exact y.elim
  | brk => exact y.elim
  | cont => exact y.elim
theorem excCall (F : ExcBaseFacts B newId initId bmB) (hT : bm.contains (.type B) = true ∧ bm.contains (.type "AttributeError") = false ∧ bm.contains (.type "NameError") = false) {rest : List Value} {kw : List (Str × Value)} {fI : Addr}
    (hC : h.get? C = some (excClassObj nm q C N bs bm hd sn sub ab col dd k0 k1 k2 k3 k5 newId))
    (hi : Looks (model prog w) h (typeLookup (.ref C) "__init__") (some (.ref fI))) (hb : ∀ self, Looks (model prog w) h (bindSpecial (.ref fI) self) (.ref fI, [self])) (hr : rest.length ≤ sizeLine)
    (z : codeAny (model prog w) (A.under (.builtin "type.__call__" ⟨.ref C :: rest, kw⟩)) (.call (.ref fI) ⟨.ref (h.objs.size + 1) :: rest, kw⟩) (InitBack (h.objs.size + 1) R)
      ⟨(h.push (kdv_tup rest)).push (excO C h.objs.size), g, d, t, os⟩) :
    codeAny (model prog w) A (.call (.ref C) ⟨rest, kw⟩) R ⟨h, g, d, t, os⟩ := by
  have f1 := tc_lookup
  have f2 := tc_bind (.ref C)
  have ty : (⟨h, g, d, t, os⟩ : Shared).TypeIs (.ref C) "type" := ⟨_, hC, rfl⟩
  refine codeAny_of_tree ?_
  show wpAny _ _ (callAny (.ref C) _) _ _ _
  repeat (any_goals (first
    | assumption
    | with_reducible refine wpAny_loadPart_at hC ?_
    | wp_step))
  refine ⟨rfl, ?_⟩
  have look : ∀ {Q : Unit → Shared → Prop} {E : Value → Shared → Prop} {A : Around}, Q () ⟨h, g, d, t, os⟩ → wpAny (model prog w) A (checkBuiltinCall "type.__call__" ⟨.ref C :: rest, kw⟩) Q E ⟨h, g, d, t, os⟩ := by
    intro Q E A hq
    have f3 := tc_sub
    simp only [checkBuiltinCall, tc_kind, tc_split]
    repeat (any_goals (first
      | assumption
      | with_reducible refine wpAny_loadPart_at hC ?_
      | with_reducible refine wpAny_onRaise ?_
      | with_reducible refine wpAny_map ?_
      | wp_step))
  refine codeAny_call_builtin_at (Code.quiet_builtin _ (by decide +kernel)) entry_typeCall (look (typeCallRun F hT hC hi hb hr ?_))
  refine codeAny_mono z fun r s' y => ?_
  rcases r with e | (v | _ | _ | _) <;> exact y
end
end OwnK
end PySem

namespace Own
open PySem PySem.Spec PyProof.Rows L2
/-! ### calls of any form: positional values and keywords bound by KBn; what is raised is wished for at the caller's slots -/
theorem at0 {X : Cx} (σ : L2.St) : PassesAt CX0 X σ E0 := fun _ _ _ _ _ _ z => z.elim
theorem atN {X : Cx} (σ : L2.St) : PassesAt (L2.CX X.prog X.w) X σ E0 := fun _ _ _ _ _ _ z => by
  obtain ⟨_, _, _, _, _, _, _, _, _, _, _, _, y⟩ := z
  exact y.elim
section
variable {X : Cx} {CX : CXT} {k n : Nat} {f C : Addr} {fd : FuncData} {ps ks : List Str} {sp : Sp} {E : L2.St → XK} {E1 : XK} {x m : Str} {p pos apos : Pos} {e o : Expr} {es : List Expr} {kws : List Keyword} {t tk : TA} {to : TE}
variable {g : List Value → List Value → List Value} {gV : List V → List V → List V} {pins : List (Addr × Obj)} {σ : L2.St} {H : Hp} {s : Shared} {Q : VK} {us ws : List Value} {vs zs : List V}
theorem runF (F : FnOk X.prog X.w X.K X.mg X.base CX k f fd ps sp) (hr : Room k X.A) (hb : KBn X.K fd ps n ks g gV) (hx : PassesAt CX X σ E1) (I : Inv X pins σ H s) (r : Vals vs us) (rz : Vals zs ws) (l1 : vs.length = n) (l2 : zs.length = ks.length)
    (h : sp (gV vs zs) H Q E1) : wpAny (model X.prog X.w) X.A (call (.ref f) us (ks.zip ws)) (EP X pins σ Q) X.xe s := by
  have b := hb.to s us ws I.kIn (r.length.symm.trans l1) (rz.length.symm.trans l2)
  refine wpAny_call (codeAny_mono (F.run X.A X.stack s H _ (g us ws) (gV vs zs) Q E1 hr I.env0 b (hb.rel r rz) h) fun r s' y => ?_)
  cases r with
  | error e => exact hx pins H s e s' I y
  | ok fl =>
    cases fl with
    | ret u => exact I.after y
    | next => exact y.elim
    | brk => exact y.elim
    | cont => exact y.elim
theorem runM (M : Mk X.K C f) (F : FnOk X.prog X.w X.K X.mg X.base CX k f fd ps sp) (hr : Room (k + 1) X.A) (hb : KBn X.K fd ps (n + 1) ks g gV) (hx : PassesAt CX X σ E1) (I : Inv X pins σ H s) (r : Vals vs us) (rz : Vals zs ws) (l1 : vs.length = n) (l2 : zs.length = ks.length)
    (h : ∀ a dx, H a = none → H dx = none → dx ≠ a → sp (gV (.ref a :: vs) zs) (upd (upd H dx (.own a)) a (.ins C dx [])) (fun v H2 => v = .non ∧ Q (.ref a) H2) E1) :
    wpAny (model X.prog X.w) X.A (call (.ref C) us (ks.zip ws)) (EP X pins σ Q) X.xe s := by
  have hq := h (s.heap.objs.size + 1) s.heap.objs.size (I.hok.fresh (Nat.le_succ _)) (I.hok.fresh (Nat.le_refl _)) (Nat.ne_of_lt (Nat.lt_succ_self _))
  have J := Inv.made (C := C) I
  have r1 : Vals (V.ref (s.heap.objs.size + 1) :: vs) (Value.ref (s.heap.objs.size + 1) :: us) := .cons rfl r
  have n1 : (Value.ref (s.heap.objs.size + 1) :: us).length = n + 1 := r1.length.symm.trans (congrArg Nat.succ l1)
  have b := hb.to _ (Value.ref (s.heap.objs.size + 1) :: us) ws J.kIn n1 (rz.length.symm.trans l2)
  refine wpAny_call (make_map (f := f) I.kIn M.makes M.init (beq_iff_eq.mp M.fn) (codeAny_mono (F.run _ X.stack _ _ _ _ _ _ E1 (hr.make C us (ks.zip ws)) (J.env0.make C us (ks.zip ws)) b (hb.rel r1 rz) hq) fun r s' y => ?_))
  cases r with
  | error e => exact hx pins _ _ e s' J y
  | ok fl =>
    cases fl with
    | ret u =>
      obtain ⟨v, H', I3, rv, ev, q3⟩ := J.after y
      subst ev
      exact ⟨rv, ⟨V.ref (s.heap.objs.size + 1), H', I3, rfl, q3⟩⟩
    | next => exact y.elim
    | brk => exact y.elim
    | cont => exact y.elim
/-- f(e, .., k = v, ..) -/
def tFn (n m : Nat) (sp : Sp) (gV : List V → List V → List V) (E : L2.St → XK) (t tk : TA) : TE := fun σ H Q => t σ H fun vs H1 => tk σ H1 fun zs H2 => vs.length = n ∧ zs.length = m ∧ sp (gV vs zs) H2 Q (E σ)
theorem pf_pos (F : FnOk X.prog X.w X.K X.mg X.base CX k f fd ps sp) (hr : Room k X.A) (hg : Gl X x) (hm : X.mg x = some (.ref f)) (hk : PySem.W.keepIn X.K (.ref f) = true) (hb : KBn X.K fd ps n [] g gV) (hx : ∀ σ, PassesAt CX X σ (E σ)) (ha : PA X (e :: es) t)
    (hdb : (x == ("__debug__" : Str)) = false := by decide) (he : starEach (e :: es) X.env = (false, eval e X.env) :: starEach es X.env := by rfl) (hpl : (backTo pos (starEach es X.env)).any (·.1) = false := by rfl) :
    PE X (.Call (.Name x p) (e :: es) [] pos) (tFn n 0 sp gV E t tNil) := by
  refine ⟨fun pins s σ H Q I h => wpAny_Call_Name_kw (ld_glob I hg hm ?_ hdb)⟩
  exact PySem.W.callWith_K (h₀ := X.base) I.ok.mod.kin hk (thn (ha.run pos pins s σ H _ I h) fun us s1 ⟨vs, H1, I1, r, l1, l2, q⟩ => ⟨I1.kIn, runF (ks := []) F hr hb (hx σ) I1 r (.nil : Vals [] []) l1 rfl q⟩) he hpl
theorem pf_both (F : FnOk X.prog X.w X.K X.mg X.base CX k f fd ps sp) (hr : Room k X.A) (hg : Gl X x) (hm : X.mg x = some (.ref f)) (hk : PySem.W.keepIn X.K (.ref f) = true) (hb : KBn X.K fd ps n ks g gV) (hx : ∀ σ, PassesAt CX X σ (E σ)) (ha : PA X (e :: es) t) (hkw : PK X kws tk)
    (hall : (backToKw pos (keywordEach kws X.env)).all (·.1.isSome) = true := by rfl) (hks : (backToKw pos (keywordEach kws X.env)).filterMap (·.1) = ks := by rfl) (hdb : (x == ("__debug__" : Str)) = false := by decide)
    (he : starEach (e :: es) X.env = (false, eval e X.env) :: starEach es X.env := by rfl) (hpl : ((backTo pos (starEach (e :: es) X.env)).any (·.1) || (backToKw pos (keywordEach kws X.env)).any (·.1.isNone)) = false := by rfl) :
    PE X (.Call (.Name x p) (e :: es) kws pos) (tFn n ks.length sp gV E t tk) := by
  refine ⟨fun pins s σ H Q I h => wpAny_Call_Name_kw (ld_glob I hg hm ?_ hdb)⟩
  refine PySem.W.callWith_KW (h₀ := X.base) I.ok.mod.kin hk hall (thn (ha.run pos pins s σ H _ I h) fun us s1 ⟨vs, H1, I1, r, q⟩ => ?_) hpl he
  refine thn (hkw.run pos pins s1 σ H1 _ I1 q) fun ws s2 ⟨zs, H2, I2, rz, l1, l2, q2⟩ => ⟨I2.kIn, ?_⟩
  rw [hks]
  exact runF F hr hb (hx σ) I2 r rz l1 l2 q2
/-- o.m(e, .., k = v, ..) -/
def tMt (C : Addr) (m : Str) (n j : Nat) (sp : Sp) (gV : List V → List V → List V) (E : L2.St → XK) (to : TE) (t tk : TA) : TE := fun σ H Q => to σ H fun x H0 => ∃ a dx fs, x = .ref a ∧ H0 a = some (.ins C dx fs) ∧ fs.lookup m = none ∧
  t σ H0 fun vs H1 => tk σ H1 fun zs H2 => vs.length = n ∧ zs.length = j ∧ sp (gV (.ref a :: vs) zs) H2 Q (E σ)
/-- C(e, .., k = v, ..) -/
def tMk (C : Addr) (n m : Nat) (sp : Sp) (gV : List V → List V → List V) (E : L2.St → XK) (t tk : TA) : TE := fun σ H Q => t σ H fun vs H1 => tk σ H1 fun zs H2 => vs.length = n ∧ zs.length = m ∧ ∀ a dx, H2 a = none → H2 dx = none → dx ≠ a →
  sp (gV (.ref a :: vs) zs) (upd (upd H2 dx (.own a)) a (.ins C dx [])) (fun v H3 => v = .non ∧ Q (.ref a) H3) (E σ)
theorem pc_pos (M : Mk X.K C f) (F : FnOk X.prog X.w X.K X.mg X.base CX k f fd ps sp) (hr : Room (k + 1) X.A) (hg : Gl X x) (hm : X.mg x = some (.ref C)) (hb : KBn X.K fd ps (n + 1) [] g gV) (hx : ∀ σ, PassesAt CX X σ (E σ)) (ha : PA X (e :: es) t)
    (hdb : (x == ("__debug__" : Str)) = false := by decide) (he : starEach (e :: es) X.env = (false, eval e X.env) :: starEach es X.env := by rfl) (hpl : (backTo pos (starEach es X.env)).any (·.1) = false := by rfl) :
    PE X (.Call (.Name x p) (e :: es) [] pos) (tMk C n 0 sp gV E t tNil) := by
  refine ⟨fun pins s σ H Q I h => wpAny_Call_Name_kw (ld_glob I hg hm ?_ hdb)⟩
  exact PySem.W.callWith_K (h₀ := X.base) I.ok.mod.kin M.kp (thn (ha.run pos pins s σ H _ I h) fun us s1 ⟨vs, H1, I1, r, l1, l2, q⟩ =>
    ⟨I1.kIn, runM (ks := []) M F hr hb (hx σ) I1 r (.nil : Vals [] []) l1 rfl q⟩) he hpl
end

/-! ### raise C(..) of an own class over ValueError: positional values, keywords, none -/
section
variable {X : Cx} {CX : CXT} {k n : Nat} {fI C : Addr} {fd : FuncData} {ps ks : List Str} {sp : Sp} {x : Str} {p pos : Pos} {e : Expr} {es : List Expr} {kws : List Keyword} {t tk : TA}
variable {g : List Value → List Value → List Value} {gV : List V → List V → List V} {pins : List (Addr × Obj)} {σ : L2.St} {H : Hp} {s : Shared} {Q : XK} {us ws : List Value} {vs zs : List V}
abbrev NoE : XK := fun _ _ _ => False
/-- what the written part says of C and its __init__ -/
structure ExK (K : PySem.W.Frag) (C fI : Addr) : Prop where
  made : ∃ (B newId initId : String) (bmB : List Value) (nm q : Str) (N : Addr) (bs bm : List Value) (sn : List Str) (sub : List Value) (ab : Bool) (col : Option Bool) (dd : Option Addr) (k0 k1 k2 k3 k5 : Option Value),
    ExcBaseFacts B newId initId bmB ∧ K.lookup C = some (excClassObj nm q C N bs bm true sn sub ab col dd k0 k1 k2 k3 k5 newId) ∧
    (bm.contains (.type B) = true ∧ bm.contains (.type "AttributeError") = false ∧ bm.contains (.type "NameError") = false)
  exC : PySem.W.subIn K (.ref C) (.type "BaseException") = some true
  tyC : PySem.W.typeIn K (.ref C) = some (.type "type")
  kC : PySem.W.keepIn K (.ref C) = true
  init : PySem.W.findIn K (.ref C) "__init__" = some (some (.ref fI))
  fn : PySem.W.typeIn K (.ref fI) = some (.type "function")
theorem exK_ve {K : PySem.W.Frag} {C fI : Addr} (T : OexC K C) (i : PySem.W.findIn K (.ref C) "__init__" = some (some (.ref fI))) (f : PySem.W.typeIn K (.ref fI) = some (.type "function")) : ExK K C fI := by
  obtain ⟨nm, q, N, bs, bm, sn, sub, ab, col, dd, k0, k1, k2, k3, k5, hC, hbm⟩ := T.cls
  have F := PySem.F.excBase_ValueError
  have c := fun Y => PySem.HandSPX.refsVE_contains Y bm hbm
  exact ⟨⟨_, _, _, _, _, _, _, _, _, _, _, _, _, _, _, _, _, _, _, F, hC, (c _).trans F.hasB, (c _).trans F.noAttr, (c _).trans F.noName⟩, T.exC, T.tyC, T.kC, i, f⟩
def BackX (a C : Addr) (H2 : Hp) (Q : XK) : VK := fun v H3 => v = .non ∧ ∃ (d : Addr) (fs : List (Str × V)), H3 a = some (exo a C (some d)) ∧ H3 d = some (exd d fs) ∧ H2 d = none ∧ Q (.ref C) (some d) (upd (del H3 a) d (.xd fs))
theorem runX (T : ExK X.K C fI) (F : FnOk X.prog X.w X.K X.mg X.base CX k fI fd ps sp) (hr : Room (k + 1) X.A) (hb : KBn X.K fd ps (n + 1) ks g gV) (hx : PassesAt CX X σ NoE) (I : Inv X pins σ H s) (r : Vals vs us) (rz : Vals zs ws) (l1 : vs.length = n) (l2 : zs.length = ks.length) (hn : n ≤ 1000)
    (h : ∀ a, H a = none → sp (gV (.ref a :: vs) zs) (upd H a (exo a C none)) (BackX a C H Q) NoE) : wpAny (model X.prog X.w) X.A (call (.ref C) us (ks.zip ws)) (MkP X pins σ Q) X.xe s := by
  obtain ⟨B, newId, initId, bmB, nm, q, N, bs, bm, sn, sub, ab, col, dd, k0, k1, k2, k3, k5, F0, hC, hbm⟩ := T.made
  obtain ⟨hp, gs, dr, tk, os⟩ := s
  have sz : hp.objs.size ≤ hp.objs.size + 1 := Nat.le_succ _
  have hq := h (hp.objs.size + 1) (I.hok.fresh sz)
  have kk : ∀ b o, hp.get? b = some o → ((hp.push (PySem.W.kdv_tup us)).push (PySem.HandSPX.excO C hp.objs.size)).get? b = some o := fun b o e => Heap.get?_push_of_some _ (Heap.get?_push_of_some _ e)
  have hat : ((hp.push (PySem.W.kdv_tup us)).push (PySem.HandSPX.excO C hp.objs.size)).get? (hp.objs.size + 1) = some (PySem.HandSPX.excO C hp.objs.size) := by heap_get
  have J : Inv X pins σ (upd H (hp.objs.size + 1) (exo (hp.objs.size + 1) C none)) ⟨(hp.push (PySem.W.kdv_tup us)).push (PySem.HandSPX.excO C hp.objs.size), gs, dr, tk, os⟩ :=
    I.laid (t' := tk) (a := hp.objs.size + 1) (o := exo (hp.objs.size + 1) C none) kk sz (exo_ok hat)
  have r1 : Vals (V.ref (hp.objs.size + 1) :: vs) (Value.ref (hp.objs.size + 1) :: us) := .cons rfl r
  have b := hb.to _ (Value.ref (hp.objs.size + 1) :: us) ws J.kIn (r1.length.symm.trans (congrArg Nat.succ l1)) (rz.length.symm.trans l2)
  have hus : us.length ≤ sizeLine := by
    rw [← r.length, l1, sizeLine_eq]
    omega
  refine wpAny_call (PySem.OwnK.excCall F0 hbm (I.kIn _ _ hC) (PySem.W.looks_findIn I.kIn T.init) (fun self => PySem.W.bind_fn I.kIn self T.fn) hus
    (codeAny_mono (F.run _ X.stack _ _ _ _ _ _ NoE (hr.make C us (ks.zip ws)) (J.env0.make C us (ks.zip ws)) b (hb.rel r1 rz) hq) fun r s' y => ?_))
  cases r with
  | error er => exact hx pins _ _ er s' J y
  | ok fl =>
    cases fl with
    | ret u =>
      obtain ⟨v, H2, os2, bare2, un2, hok2, rv, ev, d, fs, ea, ed, hd1, q2⟩ := y
      subst ev
      obtain ⟨h2, g2, d2, t2, os'⟩ := s'
      exact ⟨rv, mk_end (raises_own T.exC T.tyC) I sz kk un2 hok2 os2 bare2 ea ed hd1 q2⟩
    | next => exact y.elim
    | brk => exact y.elim
    | cont => exact y.elim
def tRz (C : Addr) (n m : Nat) (sp : Sp) (gV : List V → List V → List V) (t tk : TA) : L2.St → Hp → XK → Prop := fun σ H Q => t σ H fun vs H1 => tk σ H1 fun zs H2 => vs.length = n ∧ zs.length = m ∧ n ≤ 1000 ∧
  ∀ a, H2 a = none → sp (gV (.ref a :: vs) zs) (upd H2 a (exo a C none)) (BackX a C H2 Q) NoE
theorem px_pos (T : ExK X.K C fI) (F : FnOk X.prog X.w X.K X.mg X.base CX k fI fd ps sp) (hr : Room (k + 1) X.A) (hg : Gl X x) (hm : X.mg x = some (.ref C)) (hb : KBn X.K fd ps (n + 1) [] g gV) (hx : ∀ σ, PassesAt CX X σ NoE) (ha : PA X (e :: es) t)
    (hdb : (x == ("__debug__" : Str)) = false := by decide) (he : starEach (e :: es) X.env = (false, eval e X.env) :: starEach es X.env := by rfl) (hpl : (backTo pos (starEach es X.env)).any (·.1) = false := by rfl) :
    PMk X (.Call (.Name x p) (e :: es) [] pos) (tRz C n 0 sp gV t tNil) := by
  intro pins s σ H Q I h
  refine wpAny_Call_Name_kw (ld_glob I hg hm ?_ hdb)
  exact PySem.W.callWith_K (h₀ := X.base) I.ok.mod.kin T.kC (thn (ha.run pos pins s σ H _ I h) fun us s1 ⟨vs, H1, I1, r, l1, l2, l3, q⟩ => ⟨I1.kIn, runX (ks := []) T F hr hb (hx σ) I1 r (.nil : Vals [] []) l1 rfl l3 q⟩) he hpl
end
end Own

/-! Own rules: repr and str of an instance with own __repr__, __str__; a text times 0 or 1; isinstance of a caught own exception that has fields. -/
namespace Own
open PySem PySem.Spec PyProof.Rows L2
section
variable {X : Cx} {CX : CXT} {k : Nat} {C f : Addr} {fd : FuncData} {ps : List Str} {sp : Sp} {E : XK}
/-- what repr or str by an own def asks of the written part -/
structure TxtOwn (K : PySem.W.Frag) (C f : Addr) (nm : Str) : Prop where
  fd : PySem.W.findIn K (.ref C) nm = some (some (.ref f))
  fn : PySem.W.isFn K (.ref f) = true
def rTxO (C : Addr) (sp : Sp) (E : XK) : List V → Hp → VK → Prop := fun xs H Q => ∃ (a dx : Addr) (fs : List (Str × V)), xs = [.ref a] ∧ H a = some (.ins C dx fs) ∧
  sp [.ref a] H (fun v H' => ∃ y : Str, v = .str y ∧ Q (.str y) H') E
end
/-- isinstance(e, c), e the caught exception, of the class D, with the dict d -/
def rIsX (K : PySem.W.Frag) (D a : Addr) (cls : Value) (d : Option Addr) : List V → Hp → VK → Prop := fun xs H Q => ∃ (c : V) (cv : Value) (b : Bool) (dd : Addr) (fs : List (Str × V)), xs = [.ref a, c] ∧ (∀ u, RelV c u → u = cv) ∧ cls = .ref D ∧ d = some dd ∧ H dd = some (.xd fs) ∧
  PySem.W.kitOne K (.ref D) cv = some b ∧ Q (.bl b) H
/-- isinstance(e, (c1, c2, ..)), the tuple just laid -/
def rIsXT (K : PySem.W.Frag) (D a : Addr) (cls : Value) (d : Option Addr) : List V → Hp → VK → Prop := fun xs H Q => ∃ (tp : Addr) (cs : List V) (us : List Value) (b : Bool) (dd : Addr) (fs : List (Str × V)), xs = [.ref a, .ref tp] ∧ H tp = some (.tup cs) ∧ Paired ClsV cs us ∧ cls = .ref D ∧ d = some dd ∧ H dd = some (.xd fs) ∧
  PySem.W.kitAny K (.ref D) us = some b ∧ Q (.bl b) H
end Own

/-! Own rules: an own exception straight under KeyError, whose __init__ stores one field and calls no base. -/
namespace PySem
namespace OwnKy
open PySem.W PyProof.Rows Builtin Builtin.ObjectAttr HandSPX
abbrev kyTail : List Value := [.type "KeyError", .type "LookupError", .type "Exception", .type "BaseException", .type "object"]
section
variable {prog : Program} {w : World} {A : Around} {R : Result → Shared → Prop} {h0 : Heap} {g : Array GenState} {d : Drawn} {t : Nat} {os : OsState} {K : Frag} {f : Str} {tk : Tok} {y : Value} {a C : Addr} {fv : Array Value} {cd : ClassData}
end
end OwnKy
end PySem
namespace Own
open PySem PySem.Spec PyProof.Rows L2
/-- what the written part says of a class straight under KeyError -/
structure OkyC (K : PySem.W.Frag) (C : Addr) : Prop where
  cls : ∃ (nm q : Str) (N : Addr) (bs : List Value) (sn : List Str) (sub : List Value) (ab : Bool) (col : Option Bool) (dd : Option Addr) (k0 k1 k2 k3 k5 : Option Value),
    K.lookup C = some (excClassObj nm q C N bs PySem.OwnKy.kyTail true sn sub ab col dd k0 k1 k2 k3 k5 "LookupError.__new__")
  sa : PySem.W.findIn K (.ref C) "__setattr__" = some (some (.builtin "object.__setattr__"))
  exC : PySem.W.subIn K (.ref C) (.type "BaseException") = some true
  tyC : PySem.W.typeIn K (.ref C) = some (.type "type")
  kC : PySem.W.keepIn K (.ref C) = true
section
variable {X : Cx} {pins : List (Addr × Obj)} {σ : L2.St} {H : Hp} {s : Shared} {a C : Addr} {f : Str} {y : V} {u : Value} {Q : Unit → Shared → Prop} {E : Value → Shared → Prop} {A : Around}
end
/-- self.f = e, the first field of an exception straight under KeyError -/
def tKst (K : PySem.W.Frag) (f : Str) (to te : TE) : TS := fun D σ H => te σ H fun y H1 => to σ H1 fun x H2 => ∃ a C : Addr, x = .ref a ∧ OkyC K C ∧ PySem.W.findIn K (.ref C) f = some none ∧ H2 a = some (exo a C none) ∧
  ∀ dx, H2 dx = none → dx ≠ a → D.nx σ (upd (upd H2 dx (exd dx [(f, y)])) a (exo a C (some dx)))
end Own

/-! Own rules: one reading for things of several kinds. -/
namespace Own
open PySem PySem.Spec PyProof.Rows L2
section
variable {X : Cx}
def orR (r1 r2 : R2) : R2 := fun x y H Q => r1 x y H Q ∨ r2 x y H Q
theorem ix_or {r1 r2 : R2} (h1 : IxR X r1) (h2 : IxR X r2) : IxR X (orR r1 r2) := by
  intro value slice pins s σ H x y v u Q I rx ry h hs
  rcases h with h | h
  · exact h1 _ _ _ _ _ _ _ _ _ _ _ I rx ry h hs
  · exact h2 _ _ _ _ _ _ _ _ _ _ _ I rx ry h hs
theorem call_or {f : Value} {r1 r2 : List V → Hp → VK → Prop} (h1 : CallR X f r1) (h2 : CallR X f r2) : CallR X f (fun xs H Q => r1 xs H Q ∨ r2 xs H Q) := by
  intro pins s σ H xs us Q I r h
  rcases h with h | h
  · exact h1 _ _ _ _ _ _ _ I r h
  · exact h2 _ _ _ _ _ _ _ I r h
end
end Own

/-! set(names) and len(set(names)), names a list or a tuple of texts, however many. -/
namespace Own
open PySem PySem.Spec PyProof.Rows L2
/-- one more text is met -/
def meet (acc : List Str) (x : Str) : List Str := if acc.contains x then acc else acc ++ [x]
/-- the unlike ones, each where it is met first -/
def met (xs : List Str) : List Str := xs.foldl meet []
theorem met_more (xs : List Str) (x : Str) : met (xs ++ [x]) = meet (met xs) x := by
  unfold met
  rw [List.foldl_append]
  rfl
theorem meet_mem (acc : List Str) (x k : Str) : k ∈ meet acc x ↔ k ∈ acc ∨ k = x := by
  unfold meet
  by_cases h : acc.contains x = true
  · rw [if_pos h]
    exact ⟨.inl, fun q => q.elim id fun e => by rw [e]; exact List.contains_iff_mem.mp h⟩
  · rw [if_neg h, List.mem_append, List.mem_singleton]
theorem meet_len (acc : List Str) (x : Str) : (meet acc x).length = if acc.contains x = true then acc.length else acc.length + 1 := by
  unfold meet
  split
  · rfl
  · rw [List.length_append] <;> rfl
theorem foldl_meet_nodup : ∀ (xs acc : List Str), acc.Nodup → (xs.foldl meet acc).Nodup
  | [], _, h => h
  | x :: xs, acc, h => by
    refine foldl_meet_nodup xs _ ?_
    unfold meet
    by_cases c : acc.contains x = true
    · rw [if_pos c]
      exact h
    · rw [if_neg c]
      refine List.nodup_append.mpr ⟨h, by simp, fun a ha b hb e => ?_⟩
      rw [List.mem_singleton.mp hb] at e
      exact c (List.contains_iff_mem.mpr (e ▸ ha))
theorem foldl_meet_le : ∀ (xs acc : List Str), (xs.foldl meet acc).length ≤ acc.length + xs.length
  | [], _ => Nat.le_refl _
  | x :: xs, acc => by
    have h := foldl_meet_le xs (meet acc x)
    have g := meet_len acc x
    rw [List.foldl_cons, List.length_cons]
    split at g <;> omega
theorem met_le (xs : List Str) : (met xs).length ≤ xs.length := by
  have := foldl_meet_le xs []
  rw [List.length_nil, Nat.zero_add] at this
  exact this
theorem foldl_meet_all : ∀ (xs acc : List Str), (acc ++ xs).Nodup → xs.foldl meet acc = acc ++ xs
  | [], acc, _ => by simp
  | x :: xs, acc, h => by
    have hx : ¬ acc.contains x = true := fun c => by
      have := (List.nodup_append.mp h).2.2 x (List.contains_iff_mem.mp c) x List.mem_cons_self
      exact this rfl
    have e : meet acc x = acc ++ [x] := if_neg hx
    have e2 : acc ++ [x] ++ xs = acc ++ x :: xs := by rw [List.append_assoc] <;> rfl
    rw [List.foldl_cons, e, foldl_meet_all xs (acc ++ [x]) (by rw [e2]; exact h), e2]
theorem met_all {xs : List Str} (h : xs.Nodup) : met xs = xs := foldl_meet_all xs [] h
theorem foldl_meet_full : ∀ (xs acc : List Str), acc.Nodup → (xs.foldl meet acc).length = acc.length + xs.length → (acc ++ xs).Nodup
  | [], acc, h, _ => by rw [List.append_nil]; exact h
  | x :: xs, acc, h, e => by
    have g := foldl_meet_le xs (meet acc x)
    have l := meet_len acc x
    rw [List.foldl_cons, List.length_cons] at e
    by_cases c : acc.contains x = true
    · rw [if_pos c] at l
      omega
    · rw [if_neg c] at l
      have e1 : meet acc x = acc ++ [x] := if_neg c
      have n : (meet acc x).Nodup := foldl_meet_nodup [x] acc h
      have := foldl_meet_full xs (meet acc x) n (by omega)
      rw [e1, List.append_assoc] at this
      exact this
theorem met_full {xs : List Str} (h : (met xs).length = xs.length) : xs.Nodup := foldl_meet_full xs [] List.nodup_nil (by rw [List.length_nil, Nat.zero_add]; exact h)
theorem met_iff (xs : List Str) : decide ((met xs).length = xs.length) = decide xs.Nodup := decide_eq_decide.mpr ⟨met_full, fun h => by rw [met_all h]⟩
section
variable {prog : Program} {w : World} {A : Around} {R : Result → Shared → Prop} {it S : Addr} {fp wr : List Addr} {G : Array GenState → Array GenState → Prop} {n : Nat} {P : Nat → Value → Prop} {St : Nat → Shared → Prop} {xs : List Str}
/-- what the set holds behind i texts -/
abbrev Holds (prog : Program) (w : World) (S : Addr) (l : List Str) (h : Heap) : Prop := h.SetOf (PySem.strKind prog w) S (fun k => decide (k ∈ met l)) (met l).length
theorem Holds.moved {l : List Str} {s s' : Shared} (h : Holds prog w S l s.heap) (m : ∀ o, s.heap.get? S = some o → s'.heap.get? S = some o) : Holds prog w S l s'.heap := by
  obtain ⟨o, es, ep, t, ho, r⟩ := h
  exact ⟨o, es, ep, t, m _ ho, r⟩
theorem fill (W : WalksS prog w A.in1 it fp wr G n P St) (out : S ∉ fp) (hn : xs.length = n) (small : n < 1000) (val : ∀ i v, P i v → ∃ t, v = .str (xs.getD i Str.empty) t) :
    ∀ (k i : Nat) (s : Shared), n - i = k → i ≤ n → St i s → Holds prog w S (xs.take i) s.heap →
      (∀ s', Moved (S :: wr) G s s' → Holds prog w S xs s'.heap → R (.ok (.ret .none)) s') → codeAny (model prog w) A (.builtin "set.update.loop" ⟨[.ref S, .ref it], []⟩) R s := by
  have nw : S ∉ wr := fun h => out (W.sub _ h)
  have more : ∀ b ∈ wr, b ∈ S :: wr := fun b hb => List.mem_cons_of_mem _ hb
  intro k
  induction k with
  | zero =>
    intro i s hk hi st hS hR
    obtain rfl : i = n := by omega
    refine codeAny_builtin PyProof.Rows.F.entry_set_update_loop ?_
    rw [Around.under_plainId PyProof.Rows.F.plain_set_update_loop _]
    refine wpAny_bind (m := pyNext (.ref it)) (W.done s _ _ st fun s' m => ?_)
    have hS' := hS.moved (s' := s') fun o e => m.heap S o nw e
    rw [← hn, List.take_length] at hS'
    exact wpAny_pure (hR s' (m.mono more) hS')
  | succ k ih =>
    intro i s hk hi st hS hR
    have lt : i < n := by omega
    refine codeAny_builtin PyProof.Rows.F.entry_set_update_loop ?_
    rw [Around.under_plainId PyProof.Rows.F.plain_set_update_loop _]
    refine wpAny_bind (m := pyNext (.ref it)) (W.item i s _ _ lt st fun v s' pv st' m => ?_)
    obtain ⟨t, rfl⟩ := val i v pv
    have hS' := hS.moved (s' := s') fun o e => m.heap S o nw e
    generalize hx : xs.getD i Str.empty = x at *
    have gx : xs[i]? = some x := by
      have l : i < xs.length := by omega
      rw [← hx, List.getD_eq_getElem?_getD, List.getElem?_eq_getElem l] <;> rfl
    have tk : xs.take (i + 1) = xs.take i ++ [x] := by rw [List.take_add_one, gx] <;> rfl
    refine wpAny_bind (m := holding [Value.str x t] (setAdd S (.str x t))) (wpAny_holding ?_)
    unfold setAdd
    refine wpAny_holding (wpAny_bind ((PySem.strKind prog w).pyHash (k := x) (strKind_is _ _ _ _) ?_))
    have room : (met (xs.take i)).length + 1 < scanBound := by
      have := met_le (xs.take i)
      rw [List.length_take] at this
      show _ < 4096
      omega
    refine wpAny_setAddHashed_of (knd := PySem.strKind prog w) (s := { s' with toks := s'.toks + 1 }) (strKind_is _ _ _ _) rfl hS' room fun h' sb hS2 => ?_
    have next : Holds prog w S (xs.take (i + 1)) h' := by
      refine PyProof.Rows.SetOf_congr hS2 (fun j => ?_) ?_
      · rw [tk, met_more, ← Bool.decide_or]
        exact decide_eq_decide.mpr (meet_mem _ x j).symm
      · rw [tk, met_more, meet_len]
        by_cases a : x ∈ met (xs.take i)
        · rw [if_pos (decide_eq_true a), if_pos (List.contains_iff_mem.mpr a)]
        · rw [if_neg (fun z => a (of_decide_eq_true z)), if_neg (fun z => a (List.contains_iff_mem.mp z))]
    refine wpAny_pure ⟨plainId_quiet PyProof.Rows.F.plain_set_update_loop _, ih (i + 1) _ (by omega) lt (W.frame _ s' _ _ st' (Nat.le_succ _) fun b hb o e => ?_) next fun s2 m2 hS3 => ?_⟩
    · exact (sb.2 b (fun z => out (z ▸ hb))).trans e
    · exact hR s2 (Moved.trans W.gtrans ((m.mono more).then_heap (Nat.le_succ _) fun b o hb e => (sb.2 b fun z => hb (z ▸ List.mem_cons_self)).trans e) m2) hS3
end
section
variable {prog : Program} {w : World} {A : Around} {E : Value → Shared → Prop} {s : Shared}
set_option maxHeartbeats 3200000 in
theorem set_of_list {l : Addr} {its : Array Value} {xs : List Str} {Q : Value → Shared → Prop} (hh : A.handled = none) (hl : s.heap.IsList l its) (hi : PyProof.Rows.StrsAre its.toList xs) (small : xs.length < 1000)
    (h : ∀ (h' : Heap) (tk : Nat), Holds prog w s.heap.objs.size xs h' → (∀ b o, b < s.heap.objs.size → s.heap.get? b = some o → h'.get? b = some o) → Q (.ref s.heap.objs.size) { s with heap := h', toks := tk }) :
    wpAny (model prog w) A (call (.type "set") [.ref l]) Q E s := by
  obtain ⟨c, tl, hmro⟩ := PySem.F.called_set.mro
  have hmade := PySem.F.called_set.made
  have hsub := PySem.F.called_set.sub
  refine wpAny_call (codeAny_of_tree (wpAny_pure ⟨Code.quiet_builtin _ (by decide +kernel), codeAny_builtin PySem.F.entry_type_call ?_⟩))
  rw [Around.under_plain (weight_type_call_type "set" [.ref l] []) rfl]
  have g1 := PySem.F.called_set.notType
  have g2 := PySem.F.called_set.canCreate
  have g3 := PySem.F.typeCall_set_1 (.ref l)
  repeat (any_goals (first | assumption | wp_step))
  -- the empty set is made
  refine codeAny_mono (code_set_new_1 (.ref l) (E := E) (Q₁ := fun v s₁ => ∃ led : Bool, v = .ref s.heap.objs.size ∧ s₁ = { s with heap := s.heap.push { cls := .type "set", dict := none, data := .set #[] 0 (.fresh 0 0 led) } }) fun led => ⟨led, rfl, rfl⟩) ?_
  rintro (e | _ | _ | _ | v) s₁ z
  · exact z
  · exact z.elim
  · exact z.elim
  · exact z.elim
  · obtain ⟨led, rfl, rfl⟩ := z
    have at0 : (s.heap.push { cls := .type "set", dict := none, data := .set #[] 0 (.fresh 0 0 led) }).get? s.heap.objs.size = some { cls := .type "set", dict := none, data := .set #[] 0 (.fresh 0 0 led) } := Heap.get?_push_size _ rfl
    have ty : Shared.TypeIs { s with heap := s.heap.push { cls := .type "set", dict := none, data := .set #[] 0 (.fresh 0 0 led) } } (.ref s.heap.objs.size) "set" := ⟨_, at0, rfl⟩
    have g4 := PySem.F.called_set.init.lookup
    have g5 := PySem.F.called_set.init.bind (.ref s.heap.objs.size)
    repeat (any_goals (first | assumption | wp_step))
    -- and filled
    refine codeAny_mono (codeAny_call_builtin (R := wants (fun r s₂ => r = .none ∧ ∃ h' tk, s₂ = { s with heap := h', toks := tk } ∧ Holds prog w s.heap.objs.size xs h' ∧ (∀ b o, b < s.heap.objs.size → s.heap.get? b = some o → h'.get? b = some o)) E)
      PySem.F.called_set.init.plain PySem.F.entry_set_init (check_set_init_1 ty ?_)) ?_
    · obtain ⟨⟨cls, dd, dat, sl⟩, hol, hc, nl, hd⟩ := hl
      simp only at hc hd
      subst hc hd
      have old := Heap.lt_size hol
      have hol2 : (s.heap.push { cls := .type "set", dict := none, data := .set #[] 0 (.fresh 0 0 led) }).get? l = some { cls := .type "list", dict := dd, data := .seq its nl, slots := sl } := Heap.get?_push_of_some _ hol
      have hl2 : (s.heap.push { cls := .type "set", dict := none, data := .set #[] 0 (.fresh 0 0 led) }).IsList l its := ⟨_, hol2, rfl, nl, rfl⟩
      have f1 := PySem.F.sub_list_set
      have f2 := PySem.F.sub_list_frozenset
      have f3 : (Value.type "list" == Value.type "dict") = false := by decide
      unfold Builtin.«set.__init__» noKeywords Builtin.Frozenset.updateFrom
      generalize hit : pyIter = itf
      wp_walk
      subst hit
      refine wpAny_pyIter_list hl2 ?_
      refine wpAny_bind (wpAny_runValue ?_)
      have top : (s.heap.push { cls := .type "set", dict := none, data := .set #[] 0 (.fresh 0 0 led) }).objs.size = s.heap.objs.size + 1 := Heap.size_push ..
      have ne1 : l ≠ (s.heap.push { cls := .type "set", dict := none, data := .set #[] 0 (.fresh 0 0 led) }).objs.size := by rw [top]; exact Nat.ne_of_lt (Nat.lt_succ_of_lt old)
      have out : s.heap.objs.size ∉ [(s.heap.push { cls := .type "set", dict := none, data := .set #[] 0 (.fresh 0 0 led) }).objs.size, l] := by
        rw [top]
        intro m
        rcases List.mem_cons.mp m with e | m
        · exact absurd e (Nat.ne_of_lt (Nat.lt_succ_self _))
        · exact absurd (List.mem_singleton.mp m) (Nat.ne_of_gt old)
      have len : xs.length = its.size := by rw [← StrsAre.len_eq hi, Array.length_toList]
      have val : ∀ (i : Nat) (v : Value), its[i]? = some v → ∃ t, v = .str (xs.getD i Str.empty) t := fun i v hv => SS.strs_at hi i v (by rw [Array.getElem?_toList]; exact hv)
      refine fill ((Walks.list (show A.in1.in1.in1.handled = none by simp [hh]) _ l ne1 its).toS) out len (by rw [← len]; exact small) val (its.size - 0) 0 _ (by omega) (Nat.zero_le _) ⟨⟨_, Heap.get?_push_size _ rfl, rfl, rfl⟩, hl2.push _⟩ ?_ ?_
      · have z : ((s.heap.push { cls := .type "set", dict := none, data := .set #[] 0 (.fresh 0 0 led) }).push { cls := .type "list_iterator", data := .fields #[.ref l, .int 0 0] }).get? s.heap.objs.size = some { cls := .type "set", dict := none, data := .set #[] 0 (.fresh 0 0 led) } := Heap.get?_push_of_some _ at0
        exact PyProof.Rows.SetOf_congr ((PyProof.Rows.setObjOf_fresh (knd := PySem.strKind prog w) led).setOf z (by unfold scanBound; omega)) (fun k => rfl) rfl
      · rintro ⟨h', g', d', tk', os'⟩ m hS'
        obtain rfl : g' = s.gens := m.gens
        obtain rfl : d' = s.drawn := m.drawn
        obtain rfl : os' = s.os := m.os
        refine wpAny_pure (wpAny_pure ⟨rfl, h', tk', rfl, hS', fun b o hb e => ?_⟩)
        refine m.heap b o (fun mm => ?_) (Heap.get?_push_of_some _ (Heap.get?_push_of_some _ e))
        rcases List.mem_cons.mp mm with e1 | mm
        · exact absurd e1 (Nat.ne_of_lt hb)
        · have e2 : b = (s.heap.push { cls := .type "set", dict := none, data := .set #[] 0 (.fresh 0 0 led) }).objs.size := List.mem_singleton.mp mm
          rw [top] at e2
          omega
    · rintro (e | _ | _ | _ | v) s₂ z
      · exact z
      · exact z.elim
      · exact z.elim
      · exact z.elim
      · obtain ⟨rfl, h', tk, rfl, hS', kp⟩ := z
        repeat (any_goals (first | assumption | wp_step))
        exact h _ _ hS' kp
end
section
variable {prog : Program} {w : World} {A : Around} {E : Value → Shared → Prop} {s : Shared}
set_option maxHeartbeats 3200000 in
theorem set_of_tuple {l : Addr} {its : Array Value} {xs : List Str} {Q : Value → Shared → Prop} (hh : A.handled = none) (hl : s.heap.IsTuple l its) (hi : PyProof.Rows.StrsAre its.toList xs) (small : xs.length < 1000)
    (h : ∀ (h' : Heap) (tk : Nat), Holds prog w s.heap.objs.size xs h' → (∀ b o, b < s.heap.objs.size → s.heap.get? b = some o → h'.get? b = some o) → Q (.ref s.heap.objs.size) { s with heap := h', toks := tk }) :
    wpAny (model prog w) A (call (.type "set") [.ref l]) Q E s := by
  obtain ⟨c, tl, hmro⟩ := PySem.F.called_set.mro
  have hmade := PySem.F.called_set.made
  have hsub := PySem.F.called_set.sub
  refine wpAny_call (codeAny_of_tree (wpAny_pure ⟨Code.quiet_builtin _ (by decide +kernel), codeAny_builtin PySem.F.entry_type_call ?_⟩))
  rw [Around.under_plain (weight_type_call_type "set" [.ref l] []) rfl]
  have g1 := PySem.F.called_set.notType
  have g2 := PySem.F.called_set.canCreate
  have g3 := PySem.F.typeCall_set_1 (.ref l)
  repeat (any_goals (first | assumption | wp_step))
  -- the empty set is made
  refine codeAny_mono (code_set_new_1 (.ref l) (E := E) (Q₁ := fun v s₁ => ∃ led : Bool, v = .ref s.heap.objs.size ∧ s₁ = { s with heap := s.heap.push { cls := .type "set", dict := none, data := .set #[] 0 (.fresh 0 0 led) } }) fun led => ⟨led, rfl, rfl⟩) ?_
  rintro (e | _ | _ | _ | v) s₁ z
  · exact z
  · exact z.elim
  · exact z.elim
  · exact z.elim
  · obtain ⟨led, rfl, rfl⟩ := z
    have at0 : (s.heap.push { cls := .type "set", dict := none, data := .set #[] 0 (.fresh 0 0 led) }).get? s.heap.objs.size = some { cls := .type "set", dict := none, data := .set #[] 0 (.fresh 0 0 led) } := Heap.get?_push_size _ rfl
    have ty : Shared.TypeIs { s with heap := s.heap.push { cls := .type "set", dict := none, data := .set #[] 0 (.fresh 0 0 led) } } (.ref s.heap.objs.size) "set" := ⟨_, at0, rfl⟩
    have g4 := PySem.F.called_set.init.lookup
    have g5 := PySem.F.called_set.init.bind (.ref s.heap.objs.size)
    repeat (any_goals (first | assumption | wp_step))
    -- and filled
    refine codeAny_mono (codeAny_call_builtin (R := wants (fun r s₂ => r = .none ∧ ∃ h' tk, s₂ = { s with heap := h', toks := tk } ∧ Holds prog w s.heap.objs.size xs h' ∧ (∀ b o, b < s.heap.objs.size → s.heap.get? b = some o → h'.get? b = some o)) E)
      PySem.F.called_set.init.plain PySem.F.entry_set_init (check_set_init_1 ty ?_)) ?_
    · obtain ⟨⟨cls, dd, dat, sl⟩, hol, hc, nl, hd⟩ := hl
      simp only at hc hd
      subst hc hd
      have old := Heap.lt_size hol
      have hol2 : (s.heap.push { cls := .type "set", dict := none, data := .set #[] 0 (.fresh 0 0 led) }).get? l = some { cls := .type "tuple", dict := dd, data := .seq its nl, slots := sl } := Heap.get?_push_of_some _ hol
      have hl2 : (s.heap.push { cls := .type "set", dict := none, data := .set #[] 0 (.fresh 0 0 led) }).IsTuple l its := ⟨_, hol2, rfl, nl, rfl⟩
      have f1 := PySem.F.sub_tuple_set
      have f2 := PySem.F.sub_tuple_frozenset
      have f3 : (Value.type "tuple" == Value.type "dict") = false := by decide
      unfold Builtin.«set.__init__» noKeywords Builtin.Frozenset.updateFrom
      generalize hit : pyIter = itf
      wp_walk
      subst hit
      refine wpAny_pyIter_tuple hl2 ?_
      refine wpAny_bind (wpAny_runValue ?_)
      have top : (s.heap.push { cls := .type "set", dict := none, data := .set #[] 0 (.fresh 0 0 led) }).objs.size = s.heap.objs.size + 1 := Heap.size_push ..
      have ne1 : l ≠ (s.heap.push { cls := .type "set", dict := none, data := .set #[] 0 (.fresh 0 0 led) }).objs.size := by rw [top]; exact Nat.ne_of_lt (Nat.lt_succ_of_lt old)
      have out : s.heap.objs.size ∉ [(s.heap.push { cls := .type "set", dict := none, data := .set #[] 0 (.fresh 0 0 led) }).objs.size, l] := by
        rw [top]
        intro m
        rcases List.mem_cons.mp m with e | m
        · exact absurd e (Nat.ne_of_lt (Nat.lt_succ_self _))
        · exact absurd (List.mem_singleton.mp m) (Nat.ne_of_gt old)
      have len : xs.length = its.size := by rw [← StrsAre.len_eq hi, Array.length_toList]
      have val : ∀ (i : Nat) (v : Value), its[i]? = some v → ∃ t, v = .str (xs.getD i Str.empty) t := fun i v hv => SS.strs_at hi i v (by rw [Array.getElem?_toList]; exact hv)
      refine fill ((Walks.tuple (show A.in1.in1.in1.handled = none by simp [hh]) _ l ne1 its).toS) out len (by rw [← len]; exact small) val (its.size - 0) 0 _ (by omega) (Nat.zero_le _) ⟨⟨_, Heap.get?_push_size _ rfl, rfl, rfl⟩, hl2.push _⟩ ?_ ?_
      · have z : ((s.heap.push { cls := .type "set", dict := none, data := .set #[] 0 (.fresh 0 0 led) }).push { cls := .type "tuple_iterator", data := .fields #[.ref l, .int 0 0] }).get? s.heap.objs.size = some { cls := .type "set", dict := none, data := .set #[] 0 (.fresh 0 0 led) } := Heap.get?_push_of_some _ at0
        exact PyProof.Rows.SetOf_congr ((PyProof.Rows.setObjOf_fresh (knd := PySem.strKind prog w) led).setOf z (by unfold scanBound; omega)) (fun k => rfl) rfl
      · rintro ⟨h', g', d', tk', os'⟩ m hS'
        obtain rfl : g' = s.gens := m.gens
        obtain rfl : d' = s.drawn := m.drawn
        obtain rfl : os' = s.os := m.os
        refine wpAny_pure (wpAny_pure ⟨rfl, h', tk', rfl, hS', fun b o hb e => ?_⟩)
        refine m.heap b o (fun mm => ?_) (Heap.get?_push_of_some _ (Heap.get?_push_of_some _ e))
        rcases List.mem_cons.mp mm with e1 | mm
        · exact absurd e1 (Nat.ne_of_lt hb)
        · have e2 : b = (s.heap.push { cls := .type "set", dict := none, data := .set #[] 0 (.fresh 0 0 led) }).objs.size := List.mem_singleton.mp mm
          rw [top] at e2
          omega
    · rintro (e | _ | _ | _ | v) s₂ z
      · exact z
      · exact z.elim
      · exact z.elim
      · exact z.elim
      · obtain ⟨rfl, h', tk, rfl, hS', kp⟩ := z
        repeat (any_goals (first | assumption | wp_step))
        exact h _ _ hS' kp
end
end Own

/-! len(set(names)) as a rule; a loop over a list or a tuple. -/
namespace Own
open PySem PySem.Spec PyProof.Rows L2
section
variable {X : Cx}
def tUnlike (K : PySem.W.Frag) (ta : TE) : TE := fun σ H Q => ta σ H fun x H1 => ∃ (l : Addr) (xs : List Str), x = .ref l ∧ (SqL K H1 l (xs.map V.str) ∨ SqT K H1 l (xs.map V.str)) ∧ xs.length < 1000 ∧ Q (.int (met xs).length) H1
theorem pe_unlike {a : Expr} {ta : TE} {p p2 q pos : Pos} (hc : X.calm = true) (hg : Gl X "len") (hm : X.mg "len" = none) (hg2 : Gl X "set") (hm2 : X.mg "set" = none) (ha : PE X a ta)
    (na : starEach [a] X.env = (false, eval a X.env) :: starEach [] X.env := by rfl) : PE X (.Call (.Name "len" p) [.Call (.Name "set" p2) [a] [] q] [] pos) (tUnlike X.K ta) := by
  refine ⟨fun pins s σ H Q I h => ?_⟩
  refine Call_ (ld_blt I hg hm boot_len (PyProof.Rows.callWith_builtin1 (PyProof.Rows.args_cons ?_ rfl) rfl rfl))
  refine Call_ (ld_blt I hg2 hm2 boot_set (PyProof.Rows.callWith_type1 (PyProof.Rows.args_cons (thn (ha.run pins s σ H _ I h) fun v s1 ⟨x, H1, J, rx, z⟩ => PyProof.Rows.args_nil ?_) na) na rfl))
  obtain ⟨l, xs, rfl, seq, small, q⟩ := z
  cases rx
  have done : ∀ (h' : Heap) (tk : Nat), Holds X.prog X.w s1.heap.objs.size xs h' → (∀ b o, b < s1.heap.objs.size → s1.heap.get? b = some o → h'.get? b = some o) →
      wpAny (model X.prog X.w) X.A (spliced (backTo pos (starEach [] X.env))) (fun vs s₂ => wpAny (model X.prog X.w) X.A (call (.builtin "len") (Value.ref s1.heap.objs.size :: vs)) (EP X pins σ Q) X.xe s₂) X.xe { s1 with heap := h', toks := tk } := fun h' tk hS kp => by
    obtain ⟨o, es, ep, t, ho, ex, hd, _, _, _, fits, hn⟩ := hS
    have J2 : Inv X pins σ H1 { s1 with heap := h', toks := tk } := J.kept fun b o e => kp b o (Heap.lt_size e) e
    have le := met_le xs
    exact PyProof.Rows.args_nil (call_len_set ho ex hd fits (by rw [hn]; omega) ⟨.int (met xs).length, H1, J2.tok _, ⟨_, by rw [hn]⟩, q⟩)
  rcases seq with hq | hq
  · obtain ⟨its, r, pl, _⟩ := J.list hq
    exact set_of_list (J.ok.hd hc) pl.isList (by simpa using strsAre_of r) small done
  · obtain ⟨its, r, pl, _⟩ := J.tuple hq
    exact set_of_tuple (J.ok.hd hc) pl (by simpa using strsAre_of r) small done
/-- what is walked may be of two kinds -/
theorem pi_or {tg e : Expr} {w1 w2 : TI} (h1 : PI X tg e w1) (h2 : PI X tg e w2) : PI X tg e (fun σ H R => w1 σ H R ∨ w2 σ H R) := ⟨fun pins s σ H R I h => h.elim (h1.run pins s σ H R I) (h2.run pins s σ H R I)⟩
end
end Own

/-! enumerate over a tuple: its making, its turns, the rule for a loop or a comprehension (pi_enumT). -/
namespace L2
open PySem PySem.Spec PyProof.Rows
theorem enum_newT (l : Addr) (items : Array Value) :
    Meets (Builtin.«enumerate.__new__» ⟨[.type "enumerate", .ref l], []⟩) (fun _ R s => s.heap.IsTuple l items ∧ R (.ok (.ret (.ref (s.heap.push { cls := .type "tuple_iterator", data := .fields #[.ref l, .int 0 0] }).objs.size)))
      { s with heap := (s.heap.push { cls := .type "tuple_iterator", data := .fields #[.ref l, .int 0 0] }).push { cls := .type "enumerate", data := .fields #[.none, .bool false, .ref s.heap.objs.size, rawInt 0, .none, .none] } }) :=
  .of_wp fun prog w A R s h => by
    obtain ⟨hp, g, d, tk, os⟩ := s
    obtain ⟨ht, h⟩ := h
    have f1 := sub_enumerate
    wp_walk using wpAny_pyIter_tuple ht
    refine wpAny_stack_any fun st => ?_
    wp_walk
    split
    · wp_walk
      split
      · wp_walk using wpAny_pyIter_tuple ht
        exact ⟨_, rfl, h⟩
      · wp_walk using wpAny_pyIter_tuple ht
        exact ⟨_, rfl, h⟩
    · wp_walk using wpAny_pyIter_tuple ht
      exact ⟨_, rfl, h⟩
theorem call_enumT {prog : Program} {w : World} {A : Around} {E : Value → Shared → Prop} {s : Shared} {l : Addr} {items : Array Value} {Q : Value → Shared → Prop} (ht : s.heap.IsTuple l items)
    (k : ∀ h' : Heap, IsEnum h' (s.heap.objs.size + 1) s.heap.objs.size 0 .none → h'.IsTupleIter s.heap.objs.size l 0 → h'.objs.size = s.heap.objs.size + 2 → (∀ (b : Addr) (o : Obj), s.heap.get? b = some o → h'.get? b = some o) →
      Q (.ref (s.heap.objs.size + 1)) { s with heap := h' }) : wpAny (model prog w) A (call (.type "enumerate") [.ref l]) Q E s := by
  have sz : ∀ (h : Heap) (o : Obj), (h.push o).objs.size = h.objs.size + 1 := fun h o => by unfold Heap.push; exact Array.size_push _
  refine callType_new F.called_enumerate (by decide) (F.typeCall_enumerate_1 _) (F.newCall_enumerate_1 _) (fun obj => F.args_object_init_2 _ _) F.entry_enumerate_new (enum_newT l items) ⟨ht, ?_⟩
  generalize ho1 : ({ cls := .type "tuple_iterator", data := .fields #[.ref l, .int 0 0] } : Obj) = o1
  generalize ho2 : ({ cls := .type "enumerate", data := .fields #[.none, .bool false, .ref s.heap.objs.size, rawInt 0, .none, .none] } : Obj) = o2
  have f1 : o1.isFreed = false := by rw [← ho1]; rfl
  have f2 : o2.isFreed = false := by rw [← ho2]; rfl
  have g2 : ((s.heap.push o1).push o2).get? (s.heap.push o1).objs.size = some o2 := Heap.get?_push_size _ f2
  have g1 : ((s.heap.push o1).push o2).get? s.heap.objs.size = some o1 := Heap.get?_push_of_some _ (Heap.get?_push_size _ f1)
  refine ⟨⟨o2, g2, by rw [← ho2]⟩, ?_⟩
  rw [sz] at g2 ⊢
  exact k _ (g2.trans (by rw [← ho2])) ⟨o1, g1, by rw [← ho1], by rw [← ho1]; rfl⟩ (by rw [sz, sz]) (fun b o e => Heap.get?_push_of_some _ (Heap.get?_push_of_some _ e))
theorem tup_next_item (it t : Addr) (i : Nat) (items : Array Value) (x : Value) :
    Meets (Builtin.«tuple_iterator.__next__» ⟨[.ref it], []⟩) (fun _ R s => s.heap.IsTupleIter it t i ∧ s.heap.IsTuple t items ∧ items[i]? = some x ∧ ∀ h' : Heap, h'.IsTupleIter it t (i + 1) → Heap.SameBut it s.heap h' → R (.ok (.ret x)) { s with heap := h' }) :=
  .of_wp fun prog w A R s h => by
    obtain ⟨hp, g, d, tk, os⟩ := s
    obtain ⟨hi, ht, hx, h⟩ := h
    obtain ⟨⟨cls, dd, data, sl⟩, ho, hc, hd⟩ := hi
    obtain ⟨⟨cls2, dd2, data2, sl2⟩, ho2, hc2, n2, hd2⟩ := ht
    simp only at hc hd hc2 hd2
    subst hc hd hc2 hd2
    have q2 : (#[Value.ref t, Value.int (↑i) 0] : Array Value)[1]? = some (Value.int (↑i) 0) := rfl
    wp_walk using wpAny_load' ho
    rw [Int.toNat_natCast, hx]
    refine wpAny_bind (wpAny_setField ho rfl (by show 1 < 2; decide) ?_)
    wp_walk
    exact ⟨_, rfl, h _ ⟨_, Heap.get?_update_self _ ho rfl, rfl, rfl⟩ (Heap.SameBut.update _ _ _)⟩
theorem tup_next_end (it t : Addr) (i : Nat) (items : Array Value) :
    Meets (Builtin.«tuple_iterator.__next__» ⟨[.ref it], []⟩) (fun A R s => A.handled = none ∧ s.heap.IsTupleIter it t i ∧ s.heap.IsTuple t items ∧ items[i]? = none ∧ ∀ (h' : Heap) (e : Addr), Heap.ExtBut it s.heap h' → (∃ o, h'.get? e = some o ∧ o.cls = .type "StopIteration") → R (.error (.ref e)) { s with heap := h' }) :=
  .of_wp fun prog w A R s h => by
    obtain ⟨hp, g, d, tk, os⟩ := s
    obtain ⟨hh, hi, ht, hx, h⟩ := h
    obtain ⟨⟨cls, dd, data, sl⟩, ho, hc, hd⟩ := hi
    obtain ⟨⟨cls2, dd2, data2, sl2⟩, ho2, hc2, n2, hd2⟩ := ht
    simp only at hc hd hc2 hd2
    subst hc hd hc2 hd2
    have q2 : (#[Value.ref t, Value.int (↑i) 0] : Array Value)[1]? = some (Value.int (↑i) 0) := rfl
    wp_walk using wpAny_load' ho
    rw [Int.toNat_natCast, hx]
    have hh1 : A.in1.handled = none := hh
    wp_walk using wpAny_raiseNew_none hh1
    refine h _ _ ?_ ?_
    · exact fun b o nb e => Heap.get?_push_of_some _ (Heap.get?_push_of_some _ ((Heap.get?_update_other _ _ (Ne.symm nb)).trans e))
    · exact ⟨_, Heap.get?_push_size _ rfl, rfl⟩
theorem nextOf_tup_item {prog : Program} {w : World} {A : Around} {E : Value → Shared → Prop} {s : Shared} {it t : Addr} {i : Nat} {items : Array Value} {x : Value} {Q : Value → Shared → Prop} (hi : s.heap.IsTupleIter it t i) (ht : s.heap.IsTuple t items) (hx : items[i]? = some x)
    (k : ∀ h' : Heap, h'.IsTupleIter it t (i + 1) → Heap.SameBut it s.heap h' → Q x { s with heap := h' }) : wpAny (model prog w) A (Builtin.SmallTypes.nextOf (.ref it)) Q E s := by
  unfold Builtin.SmallTypes.nextOf
  refine wpAny_bind (wpAny_callSpecial?_slot hi.typeIs F.slot_tuple_iterator_next (call_meets F.slot_tuple_iterator_next hi.typeIs F.entry_tuple_iterator_next (F.args_tuple_iterator_next_1 _) (tup_next_item it t i items x) ⟨hi, ht, hx, fun h' a b => ?_⟩))
  exact wpAny_pure (k h' a b)
theorem nextOf_tup_end {prog : Program} {w : World} {A : Around} {E : Value → Shared → Prop} {s : Shared} {it t : Addr} {i : Nat} {items : Array Value} {Q : Value → Shared → Prop} (hh : A.handled = none) (hi : s.heap.IsTupleIter it t i) (ht : s.heap.IsTuple t items) (hx : items[i]? = none)
    (k : ∀ (h' : Heap) (e : Addr), Heap.ExtBut it s.heap h' → (∃ o, h'.get? e = some o ∧ o.cls = .type "StopIteration") → E (.ref e) { s with heap := h' }) : wpAny (model prog w) A (Builtin.SmallTypes.nextOf (.ref it)) Q E s := by
  unfold Builtin.SmallTypes.nextOf
  exact wpAny_bind (wpAny_callSpecial?_slot hi.typeIs F.slot_tuple_iterator_next (call_meets F.slot_tuple_iterator_next hi.typeIs F.entry_tuple_iterator_next (F.args_tuple_iterator_next_1 _) (tup_next_end it t i items) ⟨hh, hi, ht, hx, k⟩))
theorem drawsTup {prog : Program} {w : World} {A : Around} (hh : A.handled = none) (it t : Addr) (ne : t ≠ it) (items : Array Value) :
    Draws prog w A it [it, t] items.size (fun i v => items[i]? = some v) (fun i h => h.IsTupleIter it t i ∧ h.IsTuple t items) where
  live := fun i h z => z.1.imp fun o y => y.1
  frame := fun i h h' z k => ⟨z.1.at fun o e => k it List.mem_cons_self o e, z.2.imp fun o y => ⟨k t (List.mem_cons_of_mem _ List.mem_cons_self) o y.1, y.2⟩⟩
  item := fun i s Q E hi z k => nextOf_tup_item z.1 z.2 (Array.getElem?_eq_getElem hi) fun h' a b => k _ h' s.toks (Array.getElem?_eq_getElem hi) ⟨a, z.2.imp fun o y => ⟨(b.2 t ne).trans y.1, y.2⟩⟩ b
  done := fun s Q E z k => nextOf_tup_end hh z.1 z.2 (Array.getElem?_eq_none (Nat.le_refl _)) k
def IteT (K : PySem.W.Frag) (a : Addr) : It where
  go := fun i H => ∃ xs x, SqT K H a xs ∧ xs[i]? = some x
  yld := fun i H v H' => ∃ T x, v = .ref T ∧ H T = none ∧ H' = upd H T (.tup [.int i, x]) ∧ ∀ xs, SqT K H a xs → xs[i]? = some x
  stop := fun i H => ∃ xs, SqT K H a xs ∧ xs.length ≤ i
theorem turn_enumT {P : Program} {w : World} {K : PySem.W.Frag} {elts : List Expr} {kk : Nat} {tpos : Pos} (a e it : Addr) :
    Turn P w K (.Tuple elts kk tpos) (IteT K a) [e, it] e (fun i h => (∃ old, IsEnum h e it (i : Int) old) ∧ h.IsTupleIter it a i ∧ e ≠ it) where
  mem := List.mem_cons_self
  obj := fun i h ⟨⟨old, h1⟩, ⟨o, h2, _, h4⟩, _⟩ b hb => by
    rcases List.mem_cons.mp hb with rfl | hb
    · exact ⟨_, h1, fun v z => by cases z⟩
    · rw [List.mem_singleton.mp hb]
      exact ⟨o, h2, fun v z => by rw [h4] at z; cases z⟩
  keep := fun i h h' ⟨⟨old, h1⟩, h2, ne⟩ k => ⟨⟨old, k e List.mem_cons_self _ h1⟩, h2.at fun o z => k it (List.mem_cons_of_mem _ List.mem_cons_self) o z, ne⟩
  item := fun X hP hw hK hc i pins s σ H E I hf ⟨⟨old, h1⟩, h2, ne⟩ ⟨xs, x, hx, hi⟩ => by
    subst hP hw hK
    obtain ⟨its, rv, ht, hl⟩ := I.tuple hx
    obtain ⟨u, hu, ru⟩ := Vals.get rv hi
    have hu' : its.toArray[i]? = some u := by rw [List.getElem?_toArray]; exact hu
    have hlt : i < its.toArray.size := by
      rcases Nat.lt_or_ge i its.toArray.size with z | z
      · exact z
      · rw [Array.getElem?_eq_none z] at hu'; cases hu'
    obtain ⟨oi, gi, ci, di⟩ := h2
    obtain ⟨ot, gt, ct, nt, dt⟩ := ht
    have ae : a ≠ e := fun z => by rw [z, h1] at gt; cases gt; exact absurd (Value.type.inj ct) (by decide)
    have ai : a ≠ it := fun z => by rw [z, gi] at gt; cases gt; rw [ci] at ct; exact absurd (Value.type.inj ct) (by decide)
    refine wpAny_pyNext_enum_itemD (drawsTup (A := X.A.in1) (I.ok.hd hc) it a ai its.toArray) h1 ⟨⟨oi, gi, ci, di⟩, ⟨ot, gt, ct, nt, dt⟩⟩ hlt ne (by simp [ne, ae.symm]) fun y h' tk hy out st gT sz keep => ?_
    rw [hu'] at hy
    cases hy
    have eT : e ≠ s.heap.objs.size := fun z => by rw [← z, out] at gT; exact absurd (Value.type.inj (congrArg Obj.cls (Option.some.inj gT))) (by decide)
    have iT : it ≠ s.heap.objs.size := fun z => by obtain ⟨o, g, c, _⟩ := st.1; rw [z, gT] at g; cases g; exact absurd (Value.type.inj c) (by decide)
    refine ⟨_, rfl, wpAny_letOwnedTupleGo_enum out fun h2 hE same => ⟨.ref s.heap.objs.size, upd H s.heap.objs.size (.tup [.int i, x]), ?_, rfl, ⟨_, x, rfl, I.fresh, rfl, fun ys hy => ?_⟩, ⟨⟨_, hE⟩, ?_, ne⟩, fun b hb => ?_⟩⟩
    · refine I.turnedNew (ch := [e, it]) (fun b o nb g => ?_) hf (Nat.le_refl _) ?_
      · have b1 : b ≠ e := fun z => nb (by rw [z]; exact List.mem_cons_self)
        have b2 : b ≠ it := fun z => nb (by rw [z]; exact List.mem_cons_of_mem _ List.mem_cons_self)
        exact (same.2 b b1).trans (keep b o b1 b2 g)
      · have g2 : h2.get? s.heap.objs.size = _ := (same.2 _ (Ne.symm eT)).trans gT
        exact ⟨by show 2 ≤ 16777216; decide, [.int i tk, u], .cons ⟨tk, rfl⟩ (.cons ru .nil), ⟨_, g2, rfl, _, rfl⟩⟩
    · rw [I.tuple_inj hy hx]
      exact hi
    · exact st.1.at fun o g => (same.2 it ne.symm).trans g
    · rcases List.mem_cons.mp hb with rfl | hb
      · rw [upd_ne eT]
        exact (hf _ List.mem_cons_self).1
      · rw [List.mem_singleton.mp hb, upd_ne iT]
        exact (hf it (List.mem_cons_of_mem _ List.mem_cons_self)).1
  done := fun X hP hw hK hc i pins s σ H E I hf ⟨⟨old, h1⟩, h2, ne⟩ ⟨xs, hx, hi⟩ => by
    subst hP hw hK
    obtain ⟨its, rv, ht, hl⟩ := I.tuple hx
    have hn : its.toArray[i]? = none := Array.getElem?_eq_none (by have := rv.length; simp; omega)
    have D : Draws X.prog X.w X.A.in1 it [it, a] i (fun _ _ => True) (fun j h => j = i ∧ h.IsTupleIter it a i ∧ h.IsTuple a its.toArray) :=
      { live := fun j h z => z.2.1.imp fun o y => y.1
        frame := fun j h h' z k => ⟨z.1, z.2.1.at fun o g => k it List.mem_cons_self o g, z.2.2.imp fun o y => ⟨k a (List.mem_cons_of_mem _ List.mem_cons_self) o y.1, y.2⟩⟩
        item := fun j s Q E hj z _ => absurd z.1 (Nat.ne_of_lt hj)
        done := fun s Q E z k => nextOf_tup_end (I.ok.hd hc) z.2.1 z.2.2 hn k }
    refine wpAny_pyNext_enum_endD D h1 ⟨rfl, h2, ht⟩ fun h' ext => ⟨rfl, I.turnedL (ch := [e, it]) (fun b o nb g => ext b o (fun z => nb (by rw [z]; exact List.mem_cons_of_mem _ List.mem_cons_self)) g) hf⟩
  self := fun A i s Q E ⟨⟨old, h1⟩, h2, ne⟩ q => wpAny_pyIter_enum h1 q
def iEnumT (K : PySem.W.Frag) (ta : TE) : TI := fun σ H R => ta σ H fun x H1 => ∃ (a : Addr) (xs : List V), x = .ref a ∧ SqT K H1 a xs ∧ R (IteT K a) H1
theorem pi_enumT {X : Cx} {e : Expr} {ta : TE} {p pos tpos : Pos} {elts : List Expr} {kk : Nat} (hg : Gl X "enumerate") (hm : X.mg "enumerate" = none) (ha : PE X e ta)
    (na : starEach [e] X.env = (false, eval e X.env) :: starEach [] X.env := by rfl) : PI X (.Tuple elts kk tpos) (.Call (.Name "enumerate" p) [e] [] pos) (iEnumT X.K ta) := by
  refine ⟨fun pins s σ H R I h => ?_⟩
  refine Call_ (ld_blt I hg hm PyProof.Rows.boot_enumerate (PyProof.Rows.callWith_type1 (PyProof.Rows.args_cons (thn (ha.run pins s σ H _ I h) fun v s1 ⟨x, H1, J, rx, z⟩ => PyProof.Rows.args_nil ?_) na) na rfl))
  obtain ⟨a, xs, rfl, hx, q⟩ := z
  cases rx
  obtain ⟨its, rv, ht, hl⟩ := J.tuple hx
  refine call_enumT ht fun h' hE hI sz kp => wpAny_pyIter_enum hE ?_
  have J2 : Inv X pins σ H1 { s1 with heap := h' } := J.kept fun b o e => kp b o e
  have f1 : H1 s1.heap.objs.size = none := J.fresh
  have J1 : Inv X pins σ H1 { s1 with heap := s1.heap.push { cls := .type "tuple", data := .seq #[] } } := J.kept fun b o e => Heap.get?_push_of_some _ e
  have f2 : H1 (s1.heap.objs.size + 1) = none := by
    have := J1.fresh
    rw [show (s1.heap.push { cls := .type "tuple", data := .seq #[] }).objs.size = s1.heap.objs.size + 1 from Array.size_push _] at this
    exact this
  refine ⟨_, [s1.heap.objs.size + 1, s1.heap.objs.size], _, IteT X.K a, H1, rfl, J2, turn_enumT a _ _, ⟨⟨.none, hE⟩, hI, Nat.succ_ne_self _⟩, fun b hb => ?_, q⟩
  rcases List.mem_cons.mp hb with rfl | hb
  · exact J.fpOk (Nat.le_succ _) f2
  · rw [List.mem_singleton.mp hb]
    exact J.fpOk (Nat.le_refl _) f1
/-- enumerate of a tuple, for for_it and lc_it -/
theorem walk_enumT {K : PySem.W.Frag} {a : Addr} {xs : List V} : Walk (IteT K a) xs.length (fun H => SqT K H a xs) (YPair (fun i => some (V.int i)) fun i => xs[i]?) where
  goes := fun i H hi h => ⟨xs, xs[i], h, List.getElem?_eq_getElem hi⟩
  stops := fun H h => ⟨xs, h, Nat.le_refl _⟩
  yields := fun i H x H' hi h ⟨T, y, e, n, u, k⟩ => ⟨T, _, y, e, n, u, rfl, k xs h⟩
end L2

namespace Own
open PySem PySem.Spec PyProof.Rows L2
/-! ### levels: the numbers that some things have, and the things cut by them -/
section
variable {α : Type} [DecidableEq α]
def Lev (zs : List α) (f : α → Int) (ls : List Int) : Prop := ls.Pairwise (· < ·) ∧ ∀ k, k ∈ ls ↔ ∃ z ∈ zs, f z = k
def cutBy (zs : List α) (f : α → Int) (ls : List Int) : List (List α) := ls.map fun k => zs.filter fun z => decide (f z = k)
theorem rise_eq : ∀ {a b : List Int}, a.Pairwise (· < ·) → b.Pairwise (· < ·) → (∀ k, k ∈ a ↔ k ∈ b) → a = b
  | [], [], _, _, _ => rfl
  | [], y :: b, _, _, h => by have := (h y).mpr List.mem_cons_self; cases this
  | x :: a, [], _, _, h => by have := (h x).mp List.mem_cons_self; cases this
  | x :: a, y :: b, h1, h2, h => by
    have p1 := List.pairwise_cons.mp h1
    have p2 := List.pairwise_cons.mp h2
    have e : x = y := by
      have a1 := (h x).mp List.mem_cons_self
      have a2 := (h y).mpr List.mem_cons_self
      rcases List.mem_cons.mp a1 with e | a1
      · exact e
      · rcases List.mem_cons.mp a2 with e | a2
        · exact e.symm
        · have := p2.1 x a1
          have := p1.1 y a2
          omega
    subst e
    refine congrArg _ (rise_eq p1.2 p2.2 fun k => ?_)
    have hk := h k
    constructor
    · intro m
      rcases List.mem_cons.mp (hk.mp (List.mem_cons_of_mem _ m)) with e | m'
      · have := p1.1 k m
        omega
      · exact m'
    · intro m
      rcases List.mem_cons.mp (hk.mpr (List.mem_cons_of_mem _ m)) with e | m'
      · have := p2.1 k m
        omega
      · exact m'
theorem Lev.uniq {zs : List α} {f : α → Int} {a b : List Int} (h : Lev zs f a) (g : Lev zs f b) : a = b := rise_eq h.1 g.1 fun k => (h.2 k).trans (g.2 k).symm
def pick (zs : List α) (f : α → Int) (g : α → Int) (k : Int) : Int := match zs.find? fun z => decide (f z = k) with
  | some z => g z
  | none => 0
theorem cut_ne {zs : List α} {f : α → Int} {a : List Int} (h : Lev zs f a) : ∀ t ∈ cutBy zs f a, t ≠ [] := by
  intro t ht e
  obtain ⟨k, hk, rfl⟩ := List.mem_map.mp ht
  obtain ⟨z, hz, rfl⟩ := (h.2 k).mp hk
  have : z ∈ zs.filter fun y => decide (f y = f z) := List.mem_filter.mpr ⟨hz, decide_eq_true rfl⟩
  rw [e] at this
  cases this
theorem cut_mem {zs : List α} {f : α → Int} {a : List Int} (h : Lev zs f a) (z : α) : z ∈ (cutBy zs f a).flatten ↔ z ∈ zs := by
  rw [List.mem_flatten]
  constructor
  · rintro ⟨t, ht, hz⟩
    obtain ⟨k, hk, rfl⟩ := List.mem_map.mp ht
    exact (List.mem_filter.mp hz).1
  · intro hz
    exact ⟨_, List.mem_map.mpr ⟨f z, (h.2 _).mpr ⟨z, hz, rfl⟩, rfl⟩, List.mem_filter.mpr ⟨hz, decide_eq_true rfl⟩⟩
theorem cut_nodup {zs : List α} {f : α → Int} (n : zs.Nodup) : ∀ {a : List Int}, a.Pairwise (· < ·) → (cutBy zs f a).flatten.Nodup
  | [], _ => List.nodup_nil
  | k :: a, h => by
    have p := List.pairwise_cons.mp h
    show ((zs.filter fun z => decide (f z = k)) ++ (cutBy zs f a).flatten).Nodup
    refine List.nodup_append.mpr ⟨n.filter _, cut_nodup n p.2, fun x hx y hy e => ?_⟩
    subst e
    have h1 := of_decide_eq_true (List.mem_filter.mp hx).2
    obtain ⟨t, ht, hz⟩ := List.mem_flatten.mp hy
    obtain ⟨j, hj, rfl⟩ := List.mem_map.mp ht
    have h2 := of_decide_eq_true (List.mem_filter.mp hz).2
    have := p.1 j hj
    omega
/-- the place of the first part that has it -/
def place : List (List α) → α → Nat
  | [], _ => 0
  | t :: ts, z => if z ∈ t then 0 else place ts z + 1
theorem place_le (z : α) : ∀ ts : List (List α), place ts z ≤ ts.length
  | [] => Nat.le_refl _
  | t :: ts => by
    have := place_le z ts
    unfold place
    rw [List.length_cons]
    split <;> omega
theorem place_lt {z : α} : ∀ {ts : List (List α)}, z ∈ ts.flatten → place ts z < ts.length
  | [], h => by cases h
  | t :: ts, h => by
    unfold place
    rw [List.length_cons]
    by_cases e : z ∈ t
    · rw [if_pos e]; omega
    · rw [if_neg e]
      have h : z ∈ t ++ ts.flatten := h
      have := place_lt (ts := ts) ((List.mem_append.mp h).resolve_left e)
      omega
theorem place_out {z : α} : ∀ {ts : List (List α)}, z ∉ ts.flatten → place ts z = ts.length
  | [], _ => rfl
  | t :: ts, h => by
    have h : z ∉ t ++ ts.flatten := h
    unfold place
    rw [if_neg (fun e => h (List.mem_append_left _ e)), place_out (ts := ts) fun e => h (List.mem_append_right _ e)] <;> rfl
theorem place_at {z : α} : ∀ {ts : List (List α)} {i : Nat} {t : List α}, ts.flatten.Nodup → ts[i]? = some t → z ∈ t → place ts z = i
  | [], i, t, _, h, _ => by cases h
  | s :: ts, 0, t, _, h, hz => by
    cases h
    unfold place
    rw [if_pos hz]
  | s :: ts, i + 1, t, n, h, hz => by
    have n : (s ++ ts.flatten).Nodup := n
    have n2 := List.nodup_append.mp n
    have ht : ts[i]? = some t := h
    have hf : z ∈ ts.flatten := List.mem_flatten.mpr ⟨t, List.mem_of_getElem? ht, hz⟩
    unfold place
    rw [if_neg (fun e => n2.2.2 z e z hf rfl), place_at n2.2.1 ht hz]
theorem place_mem {z : α} : ∀ {ts : List (List α)} {i : Nat} {t : List α}, ts[i]? = some t → place ts z = i → z ∈ t
  | [], i, t, h, _ => by cases h
  | s :: ts, 0, t, h, hz => by
    cases h
    unfold place at hz
    by_cases e : z ∈ s
    · exact e
    · rw [if_neg e] at hz
      omega
  | s :: ts, i + 1, t, h, hz => by
    unfold place at hz
    by_cases e : z ∈ s
    · rw [if_pos e] at hz
      omega
    · rw [if_neg e] at hz
      exact place_mem (ts := ts) h (by omega)
/-- the places in what is cut rise as the numbers do -/
theorem cut_place {zs : List α} {f : α → Int} {a : List Int} (n : zs.Nodup) (h : Lev zs f a) {y z : α} (hy : y ∈ zs) (hz : z ∈ zs) : f y < f z ↔ place (cutBy zs f a) y < place (cutBy zs f a) z := by
  have nd := cut_nodup (f := f) n h.1
  have at' : ∀ {x : α}, x ∈ zs → ∃ i, a[i]? = some (f x) ∧ place (cutBy zs f a) x = i := fun {x} hx => by
    obtain ⟨i, hi⟩ := List.mem_iff_getElem?.mp ((h.2 (f x)).mpr ⟨x, hx, rfl⟩)
    refine ⟨i, hi, place_at nd (t := zs.filter fun z => decide (f z = f x)) ?_ (List.mem_filter.mpr ⟨hx, decide_eq_true rfl⟩)⟩
    unfold cutBy
    rw [List.getElem?_map, hi] <;> rfl
  obtain ⟨i, e1, e2⟩ := at' hy
  obtain ⟨j, e3, e4⟩ := at' hz
  rw [e2, e4]
  have up : ∀ {p q : Nat} {u v : Int}, a[p]? = some u → a[q]? = some v → p < q → u < v := fun {p q u v} hp hq lt => by
    obtain ⟨hp1, hp2⟩ := List.getElem?_eq_some_iff.mp hp
    obtain ⟨hq1, hq2⟩ := List.getElem?_eq_some_iff.mp hq
    rw [← hp2, ← hq2]
    exact List.pairwise_iff_getElem.mp h.1 p q hp1 hq1 lt
  constructor
  · intro lt
    rcases Nat.lt_trichotomy i j with c | c | c
    · exact c
    · subst c
      rw [e1] at e3
      have := Option.some.inj e3
      omega
    · have := up e3 e1 c
      omega
  · intro lt
    exact up e1 e3 lt
/-- numbers turned about -/
theorem Lev.neg {zs : List α} {f : α → Int} {a : List Int} (h : Lev zs f a) : Lev zs (fun z => -f z) (a.reverse.map fun k => -k) := by
  refine ⟨List.pairwise_map.mpr (List.pairwise_reverse.mpr (h.1.imp fun {i j} lt => by omega)), fun k => ?_⟩
  rw [List.mem_map]
  constructor
  · rintro ⟨j, hj, rfl⟩
    obtain ⟨z, hz, rfl⟩ := (h.2 j).mp (List.mem_reverse.mp hj)
    exact ⟨z, hz, rfl⟩
  · rintro ⟨z, hz, rfl⟩
    exact ⟨f z, List.mem_reverse.mpr ((h.2 _).mpr ⟨z, hz, rfl⟩), rfl⟩
end
theorem nodup_out {α : Type} : ∀ {l : List α}, l.Nodup → ∀ {i : Nat} {z : α}, l[i]? = some z → z ∉ l.take i
  | [], _, i, z, h => by cases h
  | a :: l, n, 0, z, h => by rw [List.take_zero]; exact fun q => nomatch q
  | a :: l, n, i + 1, z, h => by
    have n2 := List.nodup_cons.mp n
    have h : l[i]? = some z := h
    rw [List.take_succ_cons]
    intro q
    rcases List.mem_cons.mp q with e | q
    · exact n2.1 (e ▸ List.mem_of_getElem? h)
    · exact nodup_out n2.2 h q
/-! ### a dict of names, each with its number -/
def tab (zs : List Str) (f : Str → Int) : List (Key × V) := zs.map fun z => (.inr z, .int (f z))
theorem tab_val (f : Str → Int) (z : Str) : ∀ zs : List Str, valV (tab zs f) (.inr z) = if z ∈ zs then some (.int (f z)) else none
  | [] => rfl
  | a :: zs => by
    by_cases e : a = z
    · subst e
      rw [if_pos List.mem_cons_self]
      exact valV_pos (p := (Sum.inr a, V.int (f a))) (r := tab zs f) rfl
    · have h : valV (tab (a :: zs) f) (.inr z) = valV (tab zs f) (.inr z) := valV_neg (p := (Sum.inr a, V.int (f a))) (r := tab zs f) (fun q => e (Sum.inr.inj q))
      rw [h, tab_val f z zs]
      by_cases m : z ∈ zs
      · rw [if_pos m, if_pos (List.mem_cons_of_mem _ m)]
      · rw [if_neg m, if_neg (fun q => (List.mem_cons.mp q).elim (fun q => e q.symm) m)]
theorem tab_len (zs : List Str) (f : Str → Int) : (tab zs f).length = zs.length := List.length_map ..
theorem tab_congr {zs : List Str} {f g : Str → Int} (h : ∀ z ∈ zs, f z = g z) : tab zs f = tab zs g := List.map_congr_left fun z hz => by rw [h z hz]
theorem tab_new {zs : List Str} {f : Str → Int} {z : Str} {n : Int} (h : z ∉ zs) (e : n = f z) : putK (tab zs f) (.inr z) (.int n) = tab (zs ++ [z]) f := by
  rw [putK_new _ (by rw [tab_val, if_neg h]), e]
  unfold tab
  rw [List.map_append]
  rfl
theorem tab_put {zs : List Str} {f : Str → Int} {z : Str} {n : Int} (h : z ∈ zs) : putK (tab zs f) (.inr z) (.int n) = tab zs (fun y => if y = z then n else f y) := by
  have a : ((tab zs f).any fun kv => decide (kv.1 = (.inr z : Key))) = true := by rw [valV_any, tab_val, if_pos h]; rfl
  unfold putK
  rw [if_pos a]
  unfold tab
  rw [List.map_map]
  refine List.map_congr_left fun y _ => ?_
  show (if (Sum.inr y : Key) = .inr z then ((Sum.inr y : Key), V.int n) else (.inr y, .int (f y))) = (.inr y, .int (if y = z then n else f y))
  by_cases e : y = z
  · rw [if_pos (congrArg Sum.inr e), if_pos e]
  · rw [if_neg (fun q => e (Sum.inr.inj q)), if_neg e]
theorem tab_vals (zs : List Str) (f : Str → Int) : (tab zs f).map (·.2) = (zs.map f).map V.int := by
  unfold tab
  rw [List.map_map, List.map_map]
  rfl
end Own

/-! name = {k: v for ..} on one line, the name a local. -/
namespace Own
open PySem PySem.Spec PyProof.Rows L2
theorem swD_true {kx vx : Expr} {gs : List Comprehension} {scope : Scope} {pos py : Pos} {y : Str} {l : Nat} {env : Env} (fn : env.scope.kind = .function) (loc : env.scope.names.lookup y = some .local) (row : (py.line == pos.line) = true)
    (out : (scope.names.any fun (n, k) => n == y && (k == .local || k == .cell)) = false) : swapsWith (.DictComp kx vx gs scope pos) (some (.Name y py)) l env = pure true := by
  have kind : env.kindOf y = some .local := loc
  have block : env.blockKind = .function := by rw [Env.blockKind, fn] <;> rfl
  unfold swapsWith
  simp only [block, kind, out, Expr.pos, row]
  rfl
/-- a comprehension within a comprehension: what stands around it is told anew -/
theorem look_re {env : Env} {x : Str} : ∀ {names : List (Str × NameKind)}, names.lookup x = some .cell ∨ names.lookup x = some .free →
    (names.map fun (n, k) => if (k == NameKind.free && env.scope.kind == .function && env.kindOf n == some .cell) then (n, NameKind.cell) else (n, k)).lookup x = some .cell ∨
    (names.map fun (n, k) => if (k == NameKind.free && env.scope.kind == .function && env.kindOf n == some .cell) then (n, NameKind.cell) else (n, k)).lookup x = some .free
  | [], h => by rcases h with h | h <;> cases h
  | (n, k) :: r, h => by
    have ih := @look_re env x r
    have pair : ∀ c : Bool, (if c = true then (n, NameKind.cell) else (n, k)) = (n, if c = true then NameKind.cell else k) := fun c => by cases c <;> rfl
    rw [List.map_cons]
    dsimp only
    rw [pair]
    generalize (k == NameKind.free && env.scope.kind == .function && env.kindOf n == some .cell) = c
    by_cases e : x = n
    · subst e
      rw [List.lookup_cons_self] at h
      rw [List.lookup_cons_self]
      cases c with
      | true => exact .inl rfl
      | false => exact h
    · have b : (x == n) = false := beq_eq_false_iff_ne.mpr e
      rw [List.lookup_cons, b] at h
      rw [List.lookup_cons, b]
      exact ih h
theorem blkOk_re {N : List Str} {sc scope : Scope} {own : List (Str × Nat)} {env : Env} (h : BlkOk N sc scope own) : BlkOk N (relabel sc env) scope own :=
  ⟨h.kind, h.uniq, h.ix, fun y hy e => look_re (h.free y hy e), h.own⟩
section
variable {X : Cx} {i : Nat} {y : Str} {py : Pos} {kx vx tg iter : Expr} {ifs : List Expr} {scope : Scope} {own : List (Str × Nat)} {pos spos : Pos} {wi : TI} {g : TG} {tt : TT} {tk tv : TE}
theorem ps_setDc (hc : X.calm = true) (hN : X.N.Nodup) (hy : X.N[i]? = some y) (hyl : X.env.scope.names.lookup y = some .local) (hsw : swapsWith (.DictComp kx vx [⟨tg, iter, ifs, 0⟩] scope pos) (some (.Name y py)) spos.line X.env = pure true)
    (hi : PI X tg iter wi) (ok : BlkOk X.N X.env.scope scope own)
    (hg : ∀ (s : Shared) (H : Hp) (C : Addr) (cl : List (Str × Addr)) (fp : List Addr), PG (X.blk s H scope (compEnvC scope cl C X.env) fp) tg g)
    (ht : ∀ (s : Shared) (H : Hp) (C : Addr) (cl : List (Str × Addr)) (fp : List Addr), PTs (X.blk s H scope (compEnvC scope cl C X.env) fp) ifs tt)
    (hk : ∀ (s : Shared) (H : Hp) (C : Addr) (cl : List (Str × Addr)) (fp : List Addr), PE (X.blk s H scope (compEnvC scope cl C X.env) fp) kx tk)
    (he : ∀ (s : Shared) (H : Hp) (C : Addr) (cl : List (Str × Addr)) (fp : List Addr), PE (X.blk s H scope (compEnvC scope cl C X.env) fp) vx tv) (hs : ∀ x, foldedSetIterable iter X.env x = pure x := by intro _; rfl) :
    PS X (.Assign [.Name y py] (.DictComp kx vx [⟨tg, iter, ifs, 0⟩] scope pos) spos) (tAsg (tDc wi g tt tk tv (own.map (·.2))) (gName i)) := by
  refine ⟨fun pins s σ H D I given => ?_⟩
  rw [exec_Assign_Name_used _ _ _ _ hsw]
  refine wpAny_bind (wpAny_standAt (wpAny_bind (wpAny_bind ?_)))
  have given : tDc wi g tt tk tv (own.map (·.2)) σ H (fun x H1 => gName i x σ H1 D.nx) := given
  refine thn (dc_core (use := some (assign (.Name y py) X.env)) (Qf := fun _ s' => SP X pins D .next s') hc hN I hi ok hg ht hk he hs given ?_) fun _ s' done => wpAny_pure (wpAny_pure done)
  intro L C s' m H' J next held ⟨c0, c1, c2, c3, c4, c5⟩
  refine wpAny_assign_Name (store_ok2 (v := V.ref L) J hN hy (.inl hyl) rfl (fun s2 J2 ⟨a, same, which⟩ => ?_) (.inr hyl))
  have apart : C ≠ a := which.elim (fun z => by rw [z]; exact c1) fun z e => c4 y a z e.symm
  exact ⟨m, held.sameBut same apart, fun h3 sb => ⟨_, H', J2.turned (t' := s2.toks) (fun b o hb e => (sb.2 b hb).trans e) c0 c1 c3 c4 c5, next⟩⟩
end
end Own

/-! {k: v for a in xs if .. for b in ys if ..}, whatever the keys are. -/
namespace Own
open PySem PySem.Spec PyProof.Rows L2
section
variable {X : Cx} {pins : List (Addr × Obj)} {σ : L2.St} {H H' : Hp} {s : Shared} {E : Value → Shared → Prop} {D : Addr} {y v : V} {u r : Value} {Q : Unit → Shared → Prop}
/-- d[y] = v by a comprehension -/
theorem put_dict (room : X.A.units + 1 < cLine) (I : Inv X pins σ H s) (g : DPut H D y v H') (ry : RelV y u) (rv : RelV v r) (k : ∀ s', Inv X pins σ H' s' → Q () s') : wpAny (model X.prog X.w) X.A (dictSet D u r) Q E s := by
  rcases g with ⟨kvs, key, here, rfl, len, rfl⟩ | ⟨kvs, key, b, here, rfl, tup, len, rfl⟩
  · exact d_dictSet I here len ry rv k
  · cases ry
    obtain ⟨_, notMods, xs, rel, isDict⟩ := dt_of I.hok here
    have le := Paired.length rel
    have grow := length_putK kvs key v
    refine wpAny_dictSet_heap (hsz := by omega) (show X.A.units < cLine by omega) (key_of I.hok tup) isDict fun h' dd sb => k _ ?_
    obtain ⟨o, es, ep, ho, z2, z3, z4, _, z5⟩ := dd
    refine d_write I (by rw [here]; exact True.intro) sb ⟨o, ho⟩ ⟨by omega, notMods, _, (rel.put key tup rv).keeps fun c ys e => ?_, o, es, ep, ho, z2, z3, z4, z5⟩
    rw [upd_ne (fun z => by rw [z, here] at e; cases e)]
    exact e
end
section
variable {kx vx t0 i0 t1 i1 : Expr} {ifs0 ifs1 : List Expr} {scope : Scope} {pos : Pos} {it acc : Value} {env : Env} {D : Addr}
theorem turn_out : compTurn (.DictComp kx vx [⟨t0, i0, ifs0, 0⟩, ⟨t1, i1, ifs1, 0⟩] scope pos) 0 it acc env = (do
    standAt i0.pos
    match ← pyNext it with
    | none => pure (.done .next)
    | some item =>
      letOwnedTupleGo t0 it item
      assign t0 env item
      let mut go := true
      for t in ifs0 do
        if go then go ← isTrue t env (eval t env)
      if go then
        let xs ← eval i1 env
        standAt i1.pos
        let xs ← foldedSetIterable i1 env xs
        let _ ← runOwn (.compStart (.DictComp kx vx [⟨t0, i0, ifs0, 0⟩, ⟨t1, i1, ifs1, 0⟩] scope pos) 1 (← holding [xs] (pyIter xs)) acc env) env
      again (.compLoop (.DictComp kx vx [⟨t0, i0, ifs0, 0⟩, ⟨t1, i1, ifs1, 0⟩] scope pos) 0 it acc env)) := by rfl
theorem turn_in : compTurn (.DictComp kx vx [⟨t0, i0, ifs0, 0⟩, ⟨t1, i1, ifs1, 0⟩] scope pos) 1 it (.ref D) env = (do
    standAt i1.pos
    match ← pyNext it with
    | none => pure (.done .next)
    | some item =>
      letOwnedTupleGo t1 it item
      assign t1 env item
      let mut go := true
      for t in ifs1 do
        if go then go ← isTrue t env (eval t env)
      if go then
        (do
          let key ← eval kx env
          let val ← holding [key] (eval vx env)
          standAt { kx.pos with endLine := vx.pos.endLine, endCol := vx.pos.endCol }
          holding [key, val] (dictSet D key val))
      again (.compLoop (.DictComp kx vx [⟨t0, i0, ifs0, 0⟩, ⟨t1, i1, ifs1, 0⟩] scope pos) 1 it (.ref D) env)) := by rfl
end
section
variable {prog : Program} {w : World} {A : Around} {R : Result → Shared → Prop} {s : Shared} {kx vx t0 i0 t1 i1 : Expr} {ifs0 ifs1 : List Expr} {scope : Scope} {pos : Pos} {it acc : Value} {env : Env} {D : Addr}
/-- what an error within the comprehension comes to -/
abbrev Fell (prog : Program) (w : World) (A : Around) (env : Env) (R : Result → Shared → Prop) : Value → Shared → Prop := notedBy (model prog w) A env fun e s' => R (.error e) s'
/-- the tests of a clause -/
abbrev tests (ts : List Expr) (env : Env) : Sem Bool := forIn ts true fun t go => if go = true then do let ok ← isTrue t env (eval t env); pure (ForInStep.yield ok) else pure (ForInStep.yield go)
theorem loop_out (noFold : ∀ x, foldedSetIterable i1 env x = pure x) (Inn : Nat → Shared → Prop)
    (step : ∀ n s, Inn n s → wpAny (model prog w) A (pyNext it) (fun got s₁ => match got with
      | none => R (.ok .next) s₁
      | some x => wpAny (model prog w) A (letOwnedTupleGo t0 it x) (fun _ s₂ => wpAny (model prog w) A (assign t0 env x) (fun _ s₃ => wpAny (model prog w) A (tests ifs0 env) (fun go s₄ =>
          if go = true then wpAny (model prog w) A (eval i1 env) (fun xs s₅ => wpAny (model prog w) A (pyIter xs) (fun inner s₆ =>
            codeAny (model prog w) A (.compStart (.DictComp kx vx [⟨t0, i0, ifs0, 0⟩, ⟨t1, i1, ifs1, 0⟩] scope pos) 1 inner acc env) (fun res s' => match res with
              | .ok _ => ∃ m, m < n ∧ Inn m s'
              | .error _ => False) s₆) (Fell prog w A env R) s₅) (Fell prog w A env R) s₄
          else ∃ m, m < n ∧ Inn m s₄) (Fell prog w A env R) s₃) (Fell prog w A env R) s₂) (Fell prog w A env R) s₁) (Fell prog w A env R) s)
    (n : Nat) (start : Inn n s) : codeAny (model prog w) A (.compLoop (.DictComp kx vx [⟨t0, i0, ifs0, 0⟩, ⟨t1, i1, ifs1, 0⟩] scope pos) 0 it acc env) R s := by
  refine codeAny_loop rfl Inn (fun n s now => ?_) n start
  show wpAny _ A ((compTurn (.DictComp kx vx [⟨t0, i0, ifs0, 0⟩, ⟨t1, i1, ifs1, 0⟩] scope pos) 0 it acc env).onRaise (fun e => do noteFrame e env; theTreesLotGoes e)) _ _ s
  refine wpAny_noted ?_
  rw [turn_out]
  refine wpAny_bind (wpAny_standAt (wpAny_bind (wpAny_mono (step n s now) ?_ fun _ _ z => z)))
  rintro (_ | x) s₁ z₁
  · exact wpAny_pure z₁
  · refine wpAny_bind (wpAny_mono z₁ (fun _ s₂ z₂ => wpAny_bind (wpAny_mono z₂ (fun _ s₃ z₃ => wpAny_bind (wpAny_mono z₃ ?_ fun _ _ z => z)) fun _ _ z => z)) fun _ _ z => z)
    rintro (_ | _) s₄ z₄
    · exact wpAny_pure ⟨rfl, z₄⟩
    · refine wpAny_bind (wpAny_mono z₄ (fun xs s₅ z₅ => ?_) fun _ _ z => z)
      refine wpAny_bind (wpAny_standAt (wpAny_bind (wpAny_of_eq (noFold xs) (wpAny_bind (wpAny_holding (wpAny_mono z₅ (fun inner s₆ z₆ => ?_) fun _ _ z => z))))))
      refine wpAny_bind (wpAny_runOwn ?_)
      rw [Around.mark_none]
      refine codeAny_mono z₆ ?_
      rintro (e | f) s' done
      · exact done.elim
      · first
          | exact wpAny_pure ⟨rfl, done⟩
          | exact wpAny_bind (wpAny_pure (wpAny_pure ⟨rfl, done⟩))
theorem loop_in (Inn : Nat → Shared → Prop)
    (step : ∀ n s, Inn n s → wpAny (model prog w) A (pyNext it) (fun got s₁ => match got with
      | none => R (.ok .next) s₁
      | some x => wpAny (model prog w) A (letOwnedTupleGo t1 it x) (fun _ s₂ => wpAny (model prog w) A (assign t1 env x) (fun _ s₃ => wpAny (model prog w) A (tests ifs1 env) (fun go s₄ =>
          if go = true then wpAny (model prog w) A (eval kx env) (fun key s₅ => wpAny (model prog w) A (eval vx env) (fun val s₆ =>
            wpAny (model prog w) A (dictSet D key val) (fun _ s₇ => ∃ m, m < n ∧ Inn m s₇) (Fell prog w A env R) s₆) (Fell prog w A env R) s₅) (Fell prog w A env R) s₄
          else ∃ m, m < n ∧ Inn m s₄) (Fell prog w A env R) s₃) (Fell prog w A env R) s₂) (Fell prog w A env R) s₁) (Fell prog w A env R) s)
    (n : Nat) (start : Inn n s) : codeAny (model prog w) A (.compLoop (.DictComp kx vx [⟨t0, i0, ifs0, 0⟩, ⟨t1, i1, ifs1, 0⟩] scope pos) 1 it (.ref D) env) R s := by
  refine codeAny_loop rfl Inn (fun n s now => ?_) n start
  show wpAny _ A ((compTurn (.DictComp kx vx [⟨t0, i0, ifs0, 0⟩, ⟨t1, i1, ifs1, 0⟩] scope pos) 1 it (.ref D) env).onRaise (fun e => do noteFrame e env; theTreesLotGoes e)) _ _ s
  refine wpAny_noted ?_
  rw [turn_in]
  refine wpAny_bind (wpAny_standAt (wpAny_bind (wpAny_mono (step n s now) ?_ fun _ _ z => z)))
  rintro (_ | x) s₁ z₁
  · exact wpAny_pure z₁
  · refine wpAny_bind (wpAny_mono z₁ (fun _ s₂ z₂ => wpAny_bind (wpAny_mono z₂ (fun _ s₃ z₃ => wpAny_bind (wpAny_mono z₃ ?_ fun _ _ z => z)) fun _ _ z => z)) fun _ _ z => z)
    rintro (_ | _) s₄ z₄
    · exact wpAny_pure ⟨rfl, z₄⟩
    · exact wpAny_bind (wpAny_bind (wpAny_mono z₄ (fun key s₅ z₅ => wpAny_bind (wpAny_holding (wpAny_mono z₅ (fun val s₆ z₆ => wpAny_bind (wpAny_standAt (wpAny_holding (wpAny_mono z₆ (fun _ s₇ z₇ => wpAny_pure ⟨rfl, z₇⟩) fun _ _ z => z)))) fun _ _ z => z))) fun _ _ z => z))
theorem start_in (self : codeAny (model prog w) A (.compLoop (.DictComp kx vx [⟨t0, i0, ifs0, 0⟩, ⟨t1, i1, ifs1, 0⟩] scope pos) 1 it acc env) R s)
    (anew : wpAny (model prog w) A (pyIter it) (fun it' s' => codeAny (model prog w) A (.compLoop (.DictComp kx vx [⟨t0, i0, ifs0, 0⟩, ⟨t1, i1, ifs1, 0⟩] scope pos) 1 it' acc env) R s') (Fell prog w A env R) s) :
    codeAny (model prog w) A (.compStart (.DictComp kx vx [⟨t0, i0, ifs0, 0⟩, ⟨t1, i1, ifs1, 0⟩] scope pos) 1 it acc env) R s := by
  refine codeAny_of_tree ?_
  show wpAny _ _ ((compStart (.DictComp kx vx [⟨t0, i0, ifs0, 0⟩, ⟨t1, i1, ifs1, 0⟩] scope pos) 1 it acc env).onRaise (fun e => do noteFrame e env; standAt theWindowsPlace)) _ _ s
  refine wpAny_notedAt ?_
  unfold compStart
  show wpAny _ _ (ask >>= _) _ _ s
  refine wpAny_bind (wpAny_askSetting (wpAny_ite ?_))
  split
  · first
      | exact wpAny_bind (wpAny_pure (wpAny_pure (And.intro rfl self)))
      | exact wpAny_pure (And.intro rfl self)
  · first
      | exact wpAny_bind (wpAny_rule (wpAny_bind (wpAny_standAt (wpAny_bind (wpAny_mono anew (fun it' s' z => wpAny_pure (And.intro rfl z)) fun _ _ z => z)))))
      | (refine wpAny_bind (wpAny_rule ?_); show wpAny _ _ (standAt i1.pos >>= _) _ _ s; exact wpAny_bind (wpAny_standAt (wpAny_bind (wpAny_mono anew (fun it' s' z => wpAny_pure (And.intro rfl z)) fun _ _ z => z))))
end
/-- within the comprehension's block -/
abbrev InBlk (X : Cx) (scope : Scope) (J : Cx → Prop) : Prop := ∀ (s : Shared) (H : Hp) (C : Addr) (cl : List (Str × Addr)) (fp : List Addr), J (X.blk s H scope (compEnvC scope cl C X.env) fp)
/-- {k: v for tg in iter if .. for tg1 in iter1 if ..}: D the new dict, of keys of the one sort or of the other -/
def tDc2 (e0 : HO) (wi : TI) (g : TG) (tt : TT) (wi1 : TI) (g1 : TG) (tt1 : TT) (tk tv : TE) (vs vs1 : List Nat) : TE := fun σ H Q => wi σ H fun J H1 => ∀ D, H1 D = none → ∃ W : Nat → Nat → Hp → Prop, (∃ m, W 0 m (upd H1 D e0)) ∧ ∀ i m H, W i m H →
  (J.stop i H ∧ Q (.ref D) H) ∨ (J.go i H ∧ ∃ Nx : Hp → Prop, (∀ H', Nx H' → ∃ m', m' < m ∧ W (i + 1) m' H') ∧ ∀ x H', J.yld i H x H' → g x (wipe σ vs) H' fun σ2 H2 => wipe σ2 vs = wipe σ vs ∧ tt σ2 H2 fun b H3 =>
    if b = true then wi1 σ2 H3 fun J1 H4 => ∃ W1 : Nat → Nat → Hp → Prop, (∃ m, W1 0 m H4) ∧ ∀ j k H, W1 j k H →
      (J1.stop j H ∧ Nx H) ∨ (J1.go j H ∧ ∃ Nx1 : Hp → Prop, (∀ H', Nx1 H' → ∃ k', k' < k ∧ W1 (j + 1) k' H') ∧ ∀ x H', J1.yld j H x H' → g1 x (wipe σ2 vs1) H' fun σ3 H5 => wipe σ3 vs1 = wipe σ2 vs1 ∧ tt1 σ3 H5 fun b H6 =>
        if b = true then tk σ3 H6 fun y H7 => tv σ3 H7 fun z H8 => ∃ H9, DPut H8 D y z H9 ∧ Nx1 H9 else Nx1 H6)
    else Nx H3)
section
variable {X : Cx} {pins : List (Addr × Obj)} {s : Shared} {σ : L2.St} {H : Hp} {Q : VK} {kx vx tg iter tg1 iter1 : Expr} {ifs ifs1 : List Expr} {scope : Scope} {own : List (Str × Nat)} {vs1 : List Nat} {pos pos' : Pos} {wi wi1 : TI} {g g1 : TG} {tt tt1 : TT} {tk tv : TE} {e0 : HO}
  {use : Option (Value → Sem Unit)} {Qf : Value → Shared → Prop}
theorem dc2_core (he0 : e0 = .dK [] ∨ e0 = .dT []) (room : X.A.units + 1 < cLine) (calm : X.calm = true) (nd : X.N.Nodup) (I : Inv X pins σ H s) (src : PI X tg iter wi) (ok : BlkOk X.N X.env.scope scope own) (sub : ∀ i ∈ vs1, i ∈ own.map (·.2))
    (hg : InBlk X scope fun B => PG B tg g) (ht : InBlk X scope fun B => PTs B ifs tt) (src1 : InBlk X scope fun B => PI B tg1 iter1 wi1) (hg1 : InBlk X scope fun B => PG B tg1 g1) (ht1 : InBlk X scope fun B => PTs B ifs1 tt1)
    (hk : InBlk X scope fun B => PE B kx tk) (hv : InBlk X scope fun B => PE B vx tv) (noFold : ∀ x, foldedSetIterable iter X.env x = pure x) (noFold1 : ∀ env x, foldedSetIterable iter1 env x = pure x)
    (given : tDc2 e0 wi g tt wi1 g1 tt1 tk tv (own.map (·.2)) vs1 σ H Q)
    (after : ∀ D C s' m H', Inv X pins σ H' s' → Q (.ref D) H' → s'.heap.Ns C m → FpOk X pins H' C → compPost (model X.prog X.w) X.A X.xe use Qf (.ref D) C (.ok .next) s') :
    wpAny (model X.prog X.w) X.A (comprehension (.DictComp kx vx [⟨tg, iter, ifs, 0⟩, ⟨tg1, iter1, ifs1, 0⟩] scope pos) scope X.env pos' newDict false (eval iter X.env) use) Qf X.xe s := by
  have caught : ∀ y ∈ scope.names, y.2 = .free → ∃ c, X.env.cells.lookup y.1 = some c := fun y hy e => (ok.free y hy e).elim (fun k => I.ok.has _ (.inl k)) fun k => I.ok.has _ (.inr k)
  refine wpAny_comprehension_free (use := use) rfl noFold (closure_ok caught) ok.kind (fun y hy e => by rw [ok.uniq y hy, e]) (thn (src.run pins s σ H _ I given) fun xv s1 z1 => thn z1 fun itv s2 z2 => ?_)
  obtain ⟨it, fp, tn, J, H2, rfl, I2, T, st2, f2, q⟩ := z2
  refine wpAny_newObj_type (newEnv_comp ?_)
  generalize hD : s2.heap.objs.size = D
  obtain ⟨W, ⟨m0, w0⟩, turn⟩ := q D (I2.hok.fresh (Nat.le_of_eq hD))
  generalize hs3 : ({ s2 with heap := s2.heap.push { cls := .type "dict", data := .dict #[] } } : Shared) = s3
  have I3 : Inv X pins σ (upd H2 D e0) s3 := by
    rw [← hs3]
    refine I2.laid (t' := s2.toks) (fun b o e => Heap.get?_push_of_some _ e) (Nat.le_of_eq hD) ?_
    rw [← hD]
    rcases he0 with rfl | rfl
    · exact dk_empty s2.heap I2.big
    · exact dt_empty s2.heap I2.big
  have grown : s3.heap = s2.heap.push { cls := .type "dict", data := .dict #[] } := by rw [← hs3]
  have f3 : ∀ b ∈ fp, FpOk X pins (upd H2 D e0) b ∧ b < s3.heap.objs.size := fun b hb => by
    obtain ⟨o, e, _⟩ := T.obj _ _ st2 b hb
    have lt := Heap.lt_size e
    refine ⟨⟨?_, (f2 b hb).2⟩, by rw [grown, Heap.size_push]; exact Nat.lt_succ_of_lt lt⟩
    rw [upd_ne (by rw [← hD]; exact Nat.ne_of_lt lt)]
    exact (f2 b hb).1
  have st3 : tn 0 s3.heap := T.keep _ _ _ st2 fun b _ o e => by rw [grown]; exact Heap.get?_push_of_some _ e
  have I4 := block_start I3 ok nd f3
  generalize hcl : cellsFrom (s3.heap.objs.size + 1) scope.names (cloFrom X.env.cells scope.names []) = cl at I4 ⊢
  have pg := hg s3 (upd H2 D e0) s3.heap.objs.size cl fp
  have pt := ht s3 (upd H2 D e0) s3.heap.objs.size cl fp
  have ps1 := src1 s3 (upd H2 D e0) s3.heap.objs.size cl fp
  have pg1 := hg1 s3 (upd H2 D e0) s3.heap.objs.size cl fp
  have pt1 := ht1 s3 (upd H2 D e0) s3.heap.objs.size cl fp
  have pk := hk s3 (upd H2 D e0) s3.heap.objs.size cl fp
  have pv' := hv s3 (upd H2 D e0) s3.heap.objs.size cl fp
  show codeAny _ _ (.compStart (.DictComp kx vx [⟨tg, iter, ifs, 0⟩, ⟨tg1, iter1, ifs1, 0⟩] scope pos) 0 (.ref it) (.ref D) (compEnvC scope cl s3.heap.objs.size X.env)) (compPost (model X.prog X.w) X.A X.xe use Qf (.ref D) s3.heap.objs.size) { s3 with heap := pushCells (s3.heap.push { cls := .type "dict", data := .dict #[] }) scope.names }
  have nfp : ∀ b ∈ fp, (upd H2 D e0) b = none := fun b hb => (f3 b hb).1.1
  generalize hce : compEnvC scope cl s3.heap.objs.size X.env = ce at I4 pg pt ps1 pg1 pt1 pk pv' ⊢
  have cL : ce.locals = s3.heap.objs.size := by rw [← hce] <;> rfl
  generalize hH3 : upd H2 D e0 = H3 at I3 I4 pg pt ps1 pg1 pt1 pk pv' w0 nfp f3
  generalize hs4 : ({ s3 with heap := pushCells (s3.heap.push { cls := .type "dict", data := .dict #[] }) scope.names } : Shared) = s4 at I4 ⊢
  have st4 : tn 0 s4.heap := T.keep _ _ _ st3 fun b _ o e => by rw [← hs4]; exact pushCells_keeps _ _ _ _ (Heap.get?_push_of_some _ e)
  have still : ∀ {σ' : L2.St} {H' : Hp} {s' : Shared}, Inv (X.blk s3 H3 scope ce fp) [] σ' H' s' → (∀ b ∈ fp, H' b = none) → ∀ b ∈ fp, FpOk (X.blk s3 H3 scope ce fp) [] H' b := fun {σ' H' s'} I' out b hb =>
    ⟨out b hb, (I'.ok.exf b hb).1, I'.ok.exfs b hb, .inl hb, fun x c e => (I'.ok.exf b hb).2 x c e, fun p hp => absurd (show p ∈ ([] : List (Addr × Obj)) ++ [] from hp) (by simp)⟩
  have loop : codeAny (model X.prog X.w) X.A (.compLoop (.DictComp kx vx [⟨tg, iter, ifs, 0⟩, ⟨tg1, iter1, ifs1, 0⟩] scope pos) 0 (.ref it) (.ref D) ce) (compPost (model X.prog X.w) X.A X.xe use Qf (.ref D) s3.heap.objs.size) s4 := by
    refine loop_out (noFold1 ce) (fun n s' => ∃ i H', Inv (X.blk s3 H3 scope ce fp) [] (wipe σ (own.map (·.2))) H' s' ∧ tn i s'.heap ∧ (∀ b ∈ fp, H' b = none) ∧ W i n H') ?_ m0 ⟨0, H3, I4, st4, nfp, w0⟩
    rintro n s5 ⟨i, H5, I5, st5, n5, w5⟩
    rcases turn i n H5 w5 with ⟨stop, told⟩ | ⟨go, Nx, less, step⟩
    · refine thnF (T.done (X.blk s3 H3 scope ce fp) rfl rfl rfl calm i [] s5 _ H5 (fun _ _ => False) I5 (still I5 n5) st5 stop) fun r s6 ⟨hr, I6⟩ => ?_
      subst hr
      have I7 : Inv X pins σ H5 s6 := I3.call' (ch := fp) I6.os I6.base I6.hok I6.bare fun b hb => ⟨(f3 b hb).1.2.2.2.1, (f3 b hb).1.2.1, (f3 b hb).1.2.2.2.2.1, (f3 b hb).1.2.2.2.2.2⟩
      have nC : H5 s3.heap.objs.size = none := by
        rw [← cL]
        exact I6.free
      obtain ⟨m, held, _⟩ := I6.loc
      have held : s6.heap.Ns ce.locals m := held
      rw [cL] at held
      exact after D s3.heap.objs.size s6 m H5 I7 told held (I3.fpOk (Nat.le_refl _) nC)
    · refine thnF (T.item (X.blk s3 H3 scope ce fp) rfl rfl rfl calm i [] s5 _ H5 (fun _ _ => False) I5 (still I5 n5) st5 go) fun r s6 ⟨u, hr, z6⟩ => ?_
      subst hr
      refine thnF z6 fun _ s7 ⟨x, H7, I7, r7, y7, st7, n7⟩ => ?_
      have I7' := I7.pinned (still I7 n7) (T.obj _ _ st7)
      refine thnF (pg.run _ s7 _ H7 x u _ I7' r7 (step x H7 y7)) fun _ s8 ⟨σ8, H8, I8, as8, q8⟩ => ?_
      refine thnF (pt.run _ s8 σ8 H8 _ I8 q8) fun b s9 ⟨H9, I9, q9⟩ => ?_
      -- back at the loop's head, from whatever slots
      have head : ∀ {σ9 : L2.St} {s' : Shared} {H' : Hp}, Inv (X.blk s3 H3 scope ce fp) ([] ++ pinsAt fp s7.heap) σ9 H' s' → (wipe σ (own.map (·.2))).length = σ9.length → (∀ (j : Nat) v, (wipe σ (own.map (·.2)))[j]? = some (some v) → σ9[j]? = some (some v)) → Nx H' →
          ∃ m, m < n ∧ ∃ i H', Inv (X.blk s3 H3 scope ce fp) [] (wipe σ (own.map (·.2))) H' s' ∧ tn i s'.heap ∧ (∀ b ∈ fp, H' b = none) ∧ W i m H' := fun {σ9 s' H'} I' len keep nx => by
        obtain ⟨m', lt, w'⟩ := less H' nx
        have there : ∀ b ∈ fp, ∀ o, s7.heap.get? b = some o → s'.heap.get? b = some o ∧ H' b = none := fun b hb o e =>
          have z := I'.pin (b, o) (List.mem_append_right _ (List.mem_append_right _ (mem_pinsAt hb e)))
          ⟨z.1, z.2.1⟩
        refine ⟨m', lt, i + 1, H', (I'.unpinned (pins := [])).weak len keep, T.keep _ _ _ st7 fun b hb o e => (there b hb o e).1, fun b hb => ?_, w'⟩
        obtain ⟨o, e, _⟩ := T.obj _ _ st7 b hb
        exact (there b hb o e).2
      have len8 : (wipe σ (own.map (·.2))).length = σ8.length := by rw [← as8, wipe_length]
      have keep8 : ∀ (j : Nat) v, (wipe σ (own.map (·.2)))[j]? = some (some v) → σ8[j]? = some (some v) := fun j v e => (wipe_some (by rw [as8]; exact e)).1
      have keep9 : ∀ (j : Nat) v, (wipe σ (own.map (·.2)))[j]? = some (some v) → (wipe σ8 vs1)[j]? = some (some v) := fun j v e => by
        obtain ⟨z1, z2⟩ := wipe_some (by rw [as8]; exact e)
        exact (wipe_out fun z => z2 (sub j z)).trans z1
      cases b with
      | false =>
        simp only [Bool.false_eq_true, if_false] at q9 ⊢
        exact head I9 len8 keep8 q9
      | true =>
        simp only [if_true] at q9 ⊢
        refine thnF (ps1.run _ s9 σ8 H9 _ I9 q9) fun xv s10 z10 => thnF z10 fun itv s11 z11 => ?_
        obtain ⟨it1, fp1, tn1, J1, H11, rfl, I11, T1, st11, f11, W1, ⟨m1, w1⟩, turn1⟩ := z11
        have still1 : ∀ {H' : Hp}, (∀ b ∈ fp1, H' b = none) → ∀ b ∈ fp1, FpOk (X.blk s3 H3 scope ce fp) ([] ++ pinsAt fp s7.heap) H' b := fun out b hb => ⟨out b hb, (f11 b hb).2⟩
        have inner : codeAny (model X.prog X.w) X.A (.compLoop (.DictComp kx vx [⟨tg, iter, ifs, 0⟩, ⟨tg1, iter1, ifs1, 0⟩] scope pos) 1 (.ref it1) (.ref D) ce)
            (fun res s' => match res with
              | .ok _ => ∃ m, m < n ∧ ∃ i H', Inv (X.blk s3 H3 scope ce fp) [] (wipe σ (own.map (·.2))) H' s' ∧ tn i s'.heap ∧ (∀ b ∈ fp, H' b = none) ∧ W i m H'
              | .error _ => False) s11 := by
          refine loop_in (fun k s' => ∃ j H', Inv (X.blk s3 H3 scope ce fp) ([] ++ pinsAt fp s7.heap) (wipe σ8 vs1) H' s' ∧ tn1 j s'.heap ∧ (∀ b ∈ fp1, H' b = none) ∧ W1 j k H') ?_ m1 ⟨0, H11, I11.weak (wipe_length _ _) (fun j v e => (wipe_some e).1), st11, fun b hb => (f11 b hb).1, w1⟩
          rintro k s12 ⟨j, H12, I12, st12, n12, w12⟩
          rcases turn1 j k H12 w12 with ⟨stop1, nx1⟩ | ⟨go1, Nx1, less1, step1⟩
          · refine thnF (T1.done (X.blk s3 H3 scope ce fp) rfl rfl rfl calm j _ s12 (wipe σ8 vs1) H12 (fun _ _ => False) I12 (still1 n12) st12 stop1) fun r s13 ⟨hr, I13⟩ => ?_
            subst hr
            exact head I13 (len8.trans (wipe_length σ8 vs1).symm) keep9 nx1
          · refine thnF (T1.item (X.blk s3 H3 scope ce fp) rfl rfl rfl calm j _ s12 (wipe σ8 vs1) H12 (fun _ _ => False) I12 (still1 n12) st12 go1) fun r s13 ⟨u1, hr, z13⟩ => ?_
            subst hr
            refine thnF z13 fun _ s14 ⟨x1, H14, I14, r14, y14, st14, n14⟩ => ?_
            have I14' := I14.pinned (still1 n14) (T1.obj _ _ st14)
            refine thnF (pg1.run _ s14 (wipe σ8 vs1) H14 x1 u1 _ I14' r14 (step1 x1 H14 y14)) fun _ s15 ⟨σ15, H15, I15, as15, q15⟩ => ?_
            refine thnF (pt1.run _ s15 σ15 H15 _ I15 q15) fun b1 s16 ⟨H16, I16, q16⟩ => ?_
            have head1 : ∀ {s' : Shared} {H' : Hp}, Inv (X.blk s3 H3 scope ce fp) (([] ++ pinsAt fp s7.heap) ++ pinsAt fp1 s14.heap) σ15 H' s' → Nx1 H' →
                ∃ m, m < k ∧ ∃ j H', Inv (X.blk s3 H3 scope ce fp) ([] ++ pinsAt fp s7.heap) (wipe σ8 vs1) H' s' ∧ tn1 j s'.heap ∧ (∀ b ∈ fp1, H' b = none) ∧ W1 j m H' := fun {s' H'} I' nx => by
              obtain ⟨m', lt, w'⟩ := less1 H' nx
              have there : ∀ b ∈ fp1, ∀ o, s14.heap.get? b = some o → s'.heap.get? b = some o ∧ H' b = none := fun b hb o e =>
                have z := I'.pin (b, o) (List.mem_append_right _ (List.mem_append_right _ (mem_pinsAt hb e)))
                ⟨z.1, z.2.1⟩
              refine ⟨m', lt, j + 1, H', I'.unpinned.weak (by rw [← as15, wipe_length]) (fun j v e => (wipe_some (by rw [as15]; exact e)).1), T1.keep _ _ _ st14 fun b hb o e => (there b hb o e).1, fun b hb => ?_, w'⟩
              obtain ⟨o, e, _⟩ := T1.obj _ _ st14 b hb
              exact (there b hb o e).2
            cases b1 with
            | false =>
              simp only [Bool.false_eq_true, if_false] at q16 ⊢
              exact head1 I16 q16
            | true =>
              simp only [if_true] at q16 ⊢
              refine thnF (pk.run _ s16 σ15 H16 _ I16 q16) fun key s17 ⟨yk, H17, I17, r17, q17⟩ => ?_
              refine thnF (pv'.run _ s17 σ15 H17 _ I17 q17) fun val s18 ⟨yv, H18, I18, r18, H19, put, nx⟩ => ?_
              exact put_dict (X := X.blk s3 H3 scope ce fp) room I18 put r17 r18 fun s19 I19 => head1 I19 nx
        exact start_in inner (T1.self X.A 0 _ _ _ st11 inner)
  exact codeAny_compStart_dict loop (T.self X.A 0 _ _ _ st4 loop)
theorem pe_dc2 {pos : Pos} (he0 : e0 = .dK [] ∨ e0 = .dT []) (room : X.A.units + 1 < cLine) (calm : X.calm = true) (nd : X.N.Nodup) (src : PI X tg iter wi) (ok : BlkOk X.N X.env.scope scope own) (sub : ∀ i ∈ vs1, i ∈ own.map (·.2))
    (hg : InBlk X scope fun B => PG B tg g) (ht : InBlk X scope fun B => PTs B ifs tt) (src1 : InBlk X scope fun B => PI B tg1 iter1 wi1) (hg1 : InBlk X scope fun B => PG B tg1 g1) (ht1 : InBlk X scope fun B => PTs B ifs1 tt1)
    (hk : InBlk X scope fun B => PE B kx tk) (hv : InBlk X scope fun B => PE B vx tv) (noFold : ∀ x, foldedSetIterable iter X.env x = pure x := by intro _; rfl) (noFold1 : ∀ env x, foldedSetIterable iter1 env x = pure x := by intro _ _; rfl) :
    PE X (.DictComp kx vx [⟨tg, iter, ifs, 0⟩, ⟨tg1, iter1, ifs1, 0⟩] scope pos) (tDc2 e0 wi g tt wi1 g1 tt1 tk tv (own.map (·.2)) vs1) := by
  refine ⟨fun pins s σ H Q I given => ?_⟩
  rw [arm_eval_DictComp]
  refine dc2_core he0 room calm nd I src ok sub hg ht src1 hg1 ht1 hk hv noFold noFold1 given ?_
  intro D C s' m H' J told held ⟨c0, c1, c2, c3, c4, c5⟩
  exact ⟨m, held, fun h'' sb => ⟨.ref D, H', J.turned (t' := s'.toks) (fun b o hb e => (sb.2 b hb).trans e) c0 c1 c3 c4 c5, rfl, told⟩⟩
end
/-! both sources tuples -/
section
variable {K : PySem.W.Frag} {σ : L2.St} {D : Addr} {vs vs1 : List Nat}
/-- the second for, over a tuple that stays -/
theorem dIn_tup {b : Addr} {ys : List V} {g1 : TG} {tt1 : TT} {tk tv : TE} {H4 : Hp} {Nx : Hp → Prop} (Pw : Nat → Hp → Prop) (h0 : Pw 0 H4) (hl : ∀ j H, Pw j H → SqT K H b ys)
    (hs : ∀ j y H, ys[j]? = some y → Pw j H → g1 y (wipe σ vs1) H fun σ3 H5 => wipe σ3 vs1 = wipe σ vs1 ∧ tt1 σ3 H5 fun c H6 => if c = true then tk σ3 H6 fun y H7 => tv σ3 H7 fun z H8 => ∃ H9, DPut H8 D y z H9 ∧ Pw (j + 1) H9 else Pw (j + 1) H6)
    (hd : ∀ H, Pw ys.length H → Nx H) :
    ∃ W1 : Nat → Nat → Hp → Prop, (∃ m, W1 0 m H4) ∧ ∀ j k H, W1 j k H → ((Itt K b).stop j H ∧ Nx H) ∨ ((Itt K b).go j H ∧ ∃ Nx1 : Hp → Prop, (∀ H', Nx1 H' → ∃ k', k' < k ∧ W1 (j + 1) k' H') ∧
      ∀ x H', (Itt K b).yld j H x H' → g1 x (wipe σ vs1) H' fun σ3 H5 => wipe σ3 vs1 = wipe σ vs1 ∧ tt1 σ3 H5 fun c H6 => if c = true then tk σ3 H6 fun y H7 => tv σ3 H7 fun z H8 => ∃ H9, DPut H8 D y z H9 ∧ Nx1 H9 else Nx1 H6) := by
  refine ⟨fun j k H => k + j = ys.length ∧ Pw j H, ⟨ys.length, rfl, h0⟩, ?_⟩
  rintro j k H ⟨hk, p⟩
  cases k with
  | zero =>
    have e : j = ys.length := by omega
    rw [e] at p ⊢
    exact .inl ⟨⟨ys, hl _ _ p, Nat.le_refl _⟩, hd H p⟩
  | succ k =>
    have lt : j < ys.length := by omega
    refine .inr ⟨⟨ys, ys[j], hl _ _ p, List.getElem?_eq_getElem lt⟩, Pw (j + 1), fun H' p' => ⟨k, Nat.lt_succ_self _, by omega, p'⟩, ?_⟩
    rintro x H' ⟨rfl, y⟩
    exact hs j x _ (y ys (hl _ _ p)) p
/-- the first for -/
theorem dOut_tup {a : Addr} {xs : List V} {g g1 : TG} {tt tt1 : TT} {wi1 : TI} {e0 : HO} {tk tv : TE} {H1 : Hp} {Qd : Hp → Prop} (Pv : Nat → Hp → Prop) (h0 : Pv 0 (upd H1 D e0)) (hl : ∀ i H, Pv i H → SqT K H a xs)
    (hs : ∀ i x H, xs[i]? = some x → Pv i H → g x (wipe σ vs) H fun σ2 H2 => wipe σ2 vs = wipe σ vs ∧ tt σ2 H2 fun c H3 => if c = true then wi1 σ2 H3 fun J1 H4 => ∃ W1 : Nat → Nat → Hp → Prop, (∃ m, W1 0 m H4) ∧ ∀ j k H, W1 j k H → (J1.stop j H ∧ Pv (i + 1) H) ∨ (J1.go j H ∧ ∃ Nx1 : Hp → Prop, (∀ H', Nx1 H' → ∃ k', k' < k ∧ W1 (j + 1) k' H') ∧
      ∀ x H', J1.yld j H x H' → g1 x (wipe σ2 vs1) H' fun σ3 H5 => wipe σ3 vs1 = wipe σ2 vs1 ∧ tt1 σ3 H5 fun c H6 => if c = true then tk σ3 H6 fun y H7 => tv σ3 H7 fun z H8 => ∃ H9, DPut H8 D y z H9 ∧ Nx1 H9 else Nx1 H6) else Pv (i + 1) H3)
    (hd : ∀ H, Pv xs.length H → Qd H) :
    ∃ W : Nat → Nat → Hp → Prop, (∃ m, W 0 m (upd H1 D e0)) ∧ ∀ i m H, W i m H → ((Itt K a).stop i H ∧ Qd H) ∨ ((Itt K a).go i H ∧ ∃ Nx : Hp → Prop, (∀ H', Nx H' → ∃ m', m' < m ∧ W (i + 1) m' H') ∧
      ∀ x H', (Itt K a).yld i H x H' → g x (wipe σ vs) H' fun σ2 H2 => wipe σ2 vs = wipe σ vs ∧ tt σ2 H2 fun c H3 => if c = true then wi1 σ2 H3 fun J1 H4 => ∃ W1 : Nat → Nat → Hp → Prop, (∃ m, W1 0 m H4) ∧ ∀ j k H, W1 j k H → (J1.stop j H ∧ Nx H) ∨ (J1.go j H ∧ ∃ Nx1 : Hp → Prop, (∀ H', Nx1 H' → ∃ k', k' < k ∧ W1 (j + 1) k' H') ∧
        ∀ x H', J1.yld j H x H' → g1 x (wipe σ2 vs1) H' fun σ3 H5 => wipe σ3 vs1 = wipe σ2 vs1 ∧ tt1 σ3 H5 fun c H6 => if c = true then tk σ3 H6 fun y H7 => tv σ3 H7 fun z H8 => ∃ H9, DPut H8 D y z H9 ∧ Nx1 H9 else Nx1 H6) else Nx H3) := by
  refine ⟨fun i k H => k + i = xs.length ∧ Pv i H, ⟨xs.length, rfl, h0⟩, ?_⟩
  rintro i k H ⟨hk, p⟩
  cases k with
  | zero =>
    have e : i = xs.length := by omega
    rw [e] at p ⊢
    exact .inl ⟨⟨xs, hl _ _ p, Nat.le_refl _⟩, hd H p⟩
  | succ k =>
    have lt : i < xs.length := by omega
    refine .inr ⟨⟨xs, xs[i], hl _ _ p, List.getElem?_eq_getElem lt⟩, Pv (i + 1), fun H' p' => ⟨k, Nat.lt_succ_self _, by omega, p'⟩, ?_⟩
    rintro x H' ⟨rfl, y⟩
    exact hs i x _ (y xs (hl _ _ p)) p
end
end Own

/-! dict(xs) of a list of pairs whose keys are tuples. -/
namespace Own
open PySem PySem.Spec PyProof.Rows L2
/-- a pair's tuple, its key's tuple, the key and the value -/
abbrev Trip := Addr × Addr × (List Key × V)
def mergeT (kvs more : List (List Key × V)) : List (List Key × V) := more.foldl (fun acc kv => putK acc kv.1 kv.2) kvs
section
variable {X : Cx} {pins : List (Addr × Obj)} {σ : L2.St} {H : Hp} {s : Shared}
theorem KT.all : ∀ {ts : List Trip} {ps : List (List Key × Addr × Value)} {kvs : List (List Key × V)} {xs : List (List Key × Addr × Value)},
    Paired (fun (t : Trip) q => t.2.2.1 = q.1 ∧ t.2.1 = q.2.1 ∧ RelV t.2.2.2 q.2.2 ∧ s.heap.IsTuple t.1 #[.ref q.2.1, q.2.2]) ts ps → (∀ t ∈ ts, H t.2.1 = some (.tup (t.2.2.1.map kV))) → KT H kvs xs → KT H (mergeT kvs (ts.map (·.2.2))) (storedAllH xs ps)
  | _, _, _, _, .nil, _, r => r
  | _, _, kvs, xs, .cons (a := t) (b := q) ⟨e1, e2, e3, _⟩ tl, h, r => by
    have h1 := h t List.mem_cons_self
    have step := r.put t.2.2.1 (b := q.2.1) (y := t.2.2.2) (u := q.2.2) (by rw [← e2]; exact h1) e3
    have rest := KT.all tl (fun t ht => h t (List.mem_cons_of_mem _ ht)) step
    rw [e1] at rest
    show KT H (mergeT (putK kvs t.2.2.1 t.2.2.2) _) (storedAllH (storedH xs q.1 q.2.1 q.2.2) _)
    rw [e1]
    exact rest
end
end Own

namespace Own
/-! ### ways of which no step loses, and the top lot -/
section
variable {α : Type} [DecidableEq α]
inductive WayTo (f : α → α → Int) (zs : List α) (s : α) : α → List α → Prop
  | start : s ∈ zs → WayTo f zs s s [s]
  | step {x y : α} {w : List α} : WayTo f zs s x w → y ∈ zs → y ∉ w → 0 ≤ f x y → WayTo f zs s y (w ++ [y])
def Reach (f : α → α → Int) (zs : List α) (s y : α) : Prop := ∃ w, WayTo f zs s y w
variable {f : α → α → Int} {zs : List α}
theorem WayTo.last {s x : α} {w : List α} (h : WayTo f zs s x w) : x ∈ w := by
  cases h with
  | start _ => exact List.mem_singleton.mpr rfl
  | step _ _ _ _ => exact List.mem_append_right _ (List.mem_singleton.mpr rfl)
theorem WayTo.in {s x : α} {w : List α} (h : WayTo f zs s x w) : x ∈ zs := by
  cases h with
  | start h => exact h
  | step _ h _ _ => exact h
theorem WayTo.within {s x : α} {w : List α} (h : WayTo f zs s x w) : ∀ y ∈ w, Reach f zs s y := by
  induction h with
  | start h =>
    intro y hy
    rw [List.mem_singleton.mp hy]
    exact ⟨_, .start h⟩
  | step h m n e ih =>
    intro y hy
    rcases List.mem_append.mp hy with hy | hy
    · exact ih y hy
    · rw [List.mem_singleton.mp hy]
      exact ⟨_, .step h m n e⟩
theorem Reach.step {s x y : α} (h : Reach f zs s x) (m : y ∈ zs) (e : 0 ≤ f x y) : Reach f zs s y := by
  obtain ⟨w, h⟩ := h
  by_cases c : y ∈ w
  · exact h.within y c
  · exact ⟨_, .step h m c e⟩
theorem Reach.closed {s y : α} {S : α → Prop} (h : Reach f zs s y) (h0 : S s) (hs : ∀ x y, S x → y ∈ zs → 0 ≤ f x y → S y) : S y := by
  obtain ⟨w, h⟩ := h
  induction h with
  | start _ => exact h0
  | step _ m _ e ih => exact hs _ _ ih m e
theorem Reach.refl {s : α} (h : s ∈ zs) : Reach f zs s s := ⟨_, .start h⟩
theorem Reach.trans {s x y : α} (h : Reach f zs s x) (g : Reach f zs x y) : Reach f zs s y := g.closed h fun _ _ a m e => a.step m e
theorem Reach.in {s y : α} (h : Reach f zs s y) : y ∈ zs := h.elim fun _ w => w.in
theorem WayTo.nodup {s x : α} {w : List α} (h : WayTo f zs s x w) : w.Nodup := by
  induction h with
  | start _ => simp
  | step _ _ n _ ih => exact List.nodup_append.mpr ⟨ih, by simp, fun a ha b hb e => by rw [List.mem_singleton.mp hb] at e; exact n (e ▸ ha)⟩
theorem WayTo.all {s x : α} {w : List α} (h : WayTo f zs s x w) : ∀ y ∈ w, y ∈ zs := fun y hy => (h.within y hy).in
theorem nodup_le {a b : List α} (n : a.Nodup) (s : ∀ x ∈ a, x ∈ b) : a.length ≤ b.length := by
  induction a generalizing b with
  | nil => exact Nat.zero_le _
  | cons x a ih =>
    have n2 := List.nodup_cons.mp n
    have mx := s x List.mem_cons_self
    have := ih (b := b.erase x) n2.2 fun y hy => (List.mem_erase_of_ne (fun e => n2.1 (by rw [← e]; exact hy))).mpr (s y (List.mem_cons_of_mem _ hy))
    rw [List.length_erase_of_mem mx] at this
    have pos := List.length_pos_of_mem mx
    rw [List.length_cons]
    omega
theorem WayTo.len {s x : α} {w : List α} (h : WayTo f zs s x w) : w.length ≤ zs.length := nodup_le h.nodup h.all
theorem pairwise_two {R : α → α → Prop} : ∀ {l : List α}, l.Pairwise R → ∀ {a b : α}, a ∈ l → b ∈ l → a ≠ b → R a b ∨ R b a
  | [], _, _, _, h, _, _ => by cases h
  | c :: l, p, a, b, ha, hb, n => by
    have p2 := List.pairwise_cons.mp p
    rcases List.mem_cons.mp ha with e1 | h1
    · rcases List.mem_cons.mp hb with e2 | h2
      · exact absurd (e1.trans e2.symm) n
      · rw [e1]
        exact .inl (p2.1 b h2)
    · rcases List.mem_cons.mp hb with e2 | h2
      · rw [e2]
        exact .inr (p2.1 a h1)
      · exact pairwise_two p2.2 h1 h2 n
theorem Reach.mono {zs ws : List α} {s y : α} (h : Reach f zs s y) (m : ∀ x, x ∈ zs → x ∈ ws) : Reach f ws s y := by
  obtain ⟨w, h⟩ := h
  induction h with
  | start h => exact ⟨_, .start (m _ h)⟩
  | step _ i _ e ih => exact ih.step (m _ i) e
def Tops (f : α → α → Int) (zs : List α) (s : α) : Prop := ∀ y ∈ zs, Reach f zs s y
/-- each of these beats each one that is not among them -/
def Dom (f : α → α → Int) (zs S : List α) : Prop := ∀ x ∈ S, ∀ y ∈ zs, y ∉ S → 0 < f x y
theorem Dom.holds (anti : ∀ x y, f x y = -f y x) {S : List α} (h : Dom f zs S) (n : S ≠ []) (sub : ∀ x ∈ S, x ∈ zs) {t : α} (ht : t ∈ zs) (a : Tops f zs t) : t ∈ S := by
  refine Classical.byContradiction fun out => ?_
  obtain ⟨s, hs⟩ := List.exists_mem_of_ne_nil S n
  have := (a s (sub s hs)).closed (S := fun x => x ∉ S ∧ x ∈ zs) ⟨out, ht⟩ fun x y ⟨nx, mx⟩ my e => ⟨fun hy => by
    have h1 := h y hy x mx nx
    have h2 := anti x y
    omega, my⟩
  exact this.1 hs
open Classical in
noncomputable def topB (f : α → α → Int) (zs : List α) (s : α) : Bool := decide (Tops f zs s)
open Classical in
theorem topB_iff {s : α} : topB f zs s = true ↔ Tops f zs s := by
  unfold topB
  exact decide_eq_true_iff
/-- the lots of some names, as they are gone through -/
def lotsOf (zs : List α) : List (List α) := zs.foldl (fun acc z => acc ++ acc.map fun t => t ++ [z]) [[]]
end
end Own

/-! list(zip(t, u)), t and u tuples: each pair stays out, in the list. -/
namespace Own
open PySem PySem.Spec PyProof.Rows L2
section
variable {prog : Program} {w : World} {A : Around} {E : Value → Shared → Prop} {s : Shared}
end
/-- where a zip over the tuples a and b stands, i pairs told -/
structure ZAt (h : Heap) (H : Hp) (z TI TO p q a b : Addr) (i : Nat) : Prop where
  both : IsPair h TI (.ref p) (.ref q)
  last : ∃ x y, IsPair h TO x y
  itA : h.IsTupleIter p a i
  itB : h.IsTupleIter q b i
  zip : IsZip h z TI TO .none ∨ ∃ T f ts, PySem.IsZipHeld h z TI TO T f ∧ H T = some (.tup ts)
/-- the pairs told so far -/
def Pairs (H : Hp) (xs ys : List V) (ts : List Addr) : Prop := ∀ (j : Nat) (t : Addr) (x y : V), ts[j]? = some t → xs[j]? = some x → ys[j]? = some y → H t = some (.tup [x, y])
section
variable {X : Cx} {pins : List (Addr × Obj)} {σ : L2.St}
end
def tListZip (K : PySem.W.Frag) (ta : TA) : TE := fun σ H Q => ta σ H fun ws H1 => ∃ a b xs ys, ws = [.ref a, .ref b] ∧ SqT K H1 a xs ∧ SqT K H1 b ys ∧ xs.length ≤ 1000 ∧ (ys.length + 1 = xs.length ∨ ys.length = xs.length) ∧ ∀ (S : Addr) (ts : List Addr) (H' : Hp), Same H1 H' → H1 S = none → H' S = some (.lst (ts.map V.ref)) → ts.length = ys.length → Pairs H' xs ys ts → Q (.ref S) H'
end Own

/-! A list comprehension of two fors, over whatever can be walked. -/
namespace Own
open PySem PySem.Spec PyProof.Rows L2
section
variable {J J1 : It} {n n1 : Nat} {G G1 : Hp → Prop} {Y Y1 : Nat → Hp → V → Hp → Prop} {σ : L2.St} {D : Addr} {vs vs1 : List Nat}
/-- the inner for -/
theorem in_it (w : Walk J1 n1 G1 Y1) {g1 : TG} {tt1 : TT} {te : TE} {H4 : Hp} {Nx : Hp → Prop} (Pw : Nat → Hp → Prop) (h0 : Pw 0 H4) (hG : ∀ j H, j ≤ n1 → Pw j H → G1 H)
    (hs : ∀ j y H H', j < n1 → Pw j H → Y1 j H y H' → g1 y (wipe σ vs1) H' fun σ3 H5 => wipe σ3 vs1 = wipe σ vs1 ∧ tt1 σ3 H5 fun c H6 => if c = true then te σ3 H6 fun z H7 => ∃ acc, H7 D = some (.lst acc) ∧ acc.length < sizeLine ∧ Pw (j + 1) (upd H7 D (.lst (acc ++ [z]))) else Pw (j + 1) H6)
    (hd : ∀ H, Pw n1 H → Nx H) :
    ∃ W1 : Nat → Nat → Hp → Prop, (∃ m, W1 0 m H4) ∧ ∀ j k H, W1 j k H → (J1.stop j H ∧ Nx H) ∨ (J1.go j H ∧ ∃ Nx1 : Hp → Prop, (∀ H', Nx1 H' → ∃ k', k' < k ∧ W1 (j + 1) k' H') ∧
      ∀ x H', J1.yld j H x H' → g1 x (wipe σ vs1) H' fun σ3 H5 => wipe σ3 vs1 = wipe σ vs1 ∧ tt1 σ3 H5 fun c H6 => if c = true then te σ3 H6 fun z H7 => ∃ acc, H7 D = some (.lst acc) ∧ acc.length < sizeLine ∧ Nx1 (upd H7 D (.lst (acc ++ [z]))) else Nx1 H6) := by
  refine ⟨fun j k H => k = n1 - j ∧ j ≤ n1 ∧ Pw j H, ⟨n1, by simp, Nat.zero_le _, h0⟩, ?_⟩
  rintro j k H ⟨rfl, hj, p⟩
  have q := hG j H hj p
  rcases Nat.lt_or_ge j n1 with lt | ge
  · exact .inr ⟨w.goes j H lt q, Pw (j + 1), fun H' p' => ⟨n1 - (j + 1), by omega, rfl, lt, p'⟩, fun x H' y => hs j x H H' lt p (w.yields j H x H' lt q y)⟩
  · have e : j = n1 := by omega
    subst e
    exact .inl ⟨w.stops H q, hd H p⟩
/-- the outer for -/
theorem out_it (w : Walk J n G Y) {g g1 : TG} {tt tt1 : TT} {wi1 : TI} {te : TE} {H1 : Hp} {Qd : Hp → Prop} (Pv : Nat → Hp → Prop) (h0 : Pv 0 (upd H1 D (.lst []))) (hG : ∀ i H, i ≤ n → Pv i H → G H)
    (hs : ∀ i x H H0, i < n → Pv i H → Y i H x H0 → g x (wipe σ vs) H0 fun σ2 H2 => wipe σ2 vs = wipe σ vs ∧ tt σ2 H2 fun c H3 => if c = true then wi1 σ2 H3 fun J1 H4 => ∃ W1 : Nat → Nat → Hp → Prop, (∃ m, W1 0 m H4) ∧ ∀ j k H, W1 j k H → (J1.stop j H ∧ Pv (i + 1) H) ∨ (J1.go j H ∧ ∃ Nx1 : Hp → Prop, (∀ H', Nx1 H' → ∃ k', k' < k ∧ W1 (j + 1) k' H') ∧
      ∀ x H', J1.yld j H x H' → g1 x (wipe σ2 vs1) H' fun σ3 H5 => wipe σ3 vs1 = wipe σ2 vs1 ∧ tt1 σ3 H5 fun c H6 => if c = true then te σ3 H6 fun z H7 => ∃ acc, H7 D = some (.lst acc) ∧ acc.length < sizeLine ∧ Nx1 (upd H7 D (.lst (acc ++ [z]))) else Nx1 H6) else Pv (i + 1) H3)
    (hd : ∀ H, Pv n H → Qd H) :
    ∃ W : Nat → Nat → Hp → Prop, (∃ m, W 0 m (upd H1 D (.lst []))) ∧ ∀ i m H, W i m H → (J.stop i H ∧ Qd H) ∨ (J.go i H ∧ ∃ Nx : Hp → Prop, (∀ H', Nx H' → ∃ m', m' < m ∧ W (i + 1) m' H') ∧
      ∀ x H', J.yld i H x H' → g x (wipe σ vs) H' fun σ2 H2 => wipe σ2 vs = wipe σ vs ∧ tt σ2 H2 fun c H3 => if c = true then wi1 σ2 H3 fun J1 H4 => ∃ W1 : Nat → Nat → Hp → Prop, (∃ m, W1 0 m H4) ∧ ∀ j k H, W1 j k H → (J1.stop j H ∧ Nx H) ∨ (J1.go j H ∧ ∃ Nx1 : Hp → Prop, (∀ H', Nx1 H' → ∃ k', k' < k ∧ W1 (j + 1) k' H') ∧
        ∀ x H', J1.yld j H x H' → g1 x (wipe σ2 vs1) H' fun σ3 H5 => wipe σ3 vs1 = wipe σ2 vs1 ∧ tt1 σ3 H5 fun c H6 => if c = true then te σ3 H6 fun z H7 => ∃ acc, H7 D = some (.lst acc) ∧ acc.length < sizeLine ∧ Nx1 (upd H7 D (.lst (acc ++ [z]))) else Nx1 H6) else Nx H3) := by
  refine ⟨fun i m H => m = n - i ∧ i ≤ n ∧ Pv i H, ⟨n, by simp, Nat.zero_le _, h0⟩, ?_⟩
  rintro i m H ⟨rfl, hi, p⟩
  have q := hG i H hi p
  rcases Nat.lt_or_ge i n with lt | ge
  · exact .inr ⟨w.goes i H lt q, Pv (i + 1), fun H' p' => ⟨n - (i + 1), by omega, rfl, lt, p'⟩, fun x H' y => hs i x H H' lt p (w.yields i H x H' lt q y)⟩
  · have e : i = n := by omega
    subst e
    exact .inl ⟨w.stops H q, hd H p⟩
end
end Own

/-! x in t, t a tuple, all of any depth. -/
namespace Own
open PySem PySem.Spec PyProof.Rows L2
def rInT (K : PySem.W.Frag) : R2 := fun x y H Q => ∃ (d : PyData) (ds : List PyData), Dp K H x d ∧ Dp K H y (.tuple ds) ∧ SeqAt.shaped d = true ∧ SeqAt.shaped (.tuple ds) = true ∧ Q (.bl (ds.any fun z => PyData.eqv z d)) H
def rNotInT (K : PySem.W.Frag) : R2 := fun x y H Q => ∃ (d : PyData) (ds : List PyData), Dp K H x d ∧ Dp K H y (.tuple ds) ∧ SeqAt.shaped d = true ∧ SeqAt.shaped (.tuple ds) = true ∧ Q (.bl (!ds.any fun z => PyData.eqv z d)) H
theorem op_notInT {X : Cx} (room : X.A.units + 65 < cLine) : OpR X (compareOp .NotIn) (rNotInT X.K) := by
  rintro pins s σ H x y v u Q I rx ry ⟨d, ds, dx, dy, sx, sy, q⟩
  obtain ⟨_, there⟩ := Dp.reads I (.tuple ds) y u dy ry
  obtain ⟨_, own⟩ := Dp.reads I d x v dx rx
  exact SeqAt.notIn_tuple_reads there own (SeqAt.canLay_of_shaped sy) (SeqAt.canLay_of_shaped sx) (room_in_shaped sx room) ⟨.bl _, H, I, rfl, q⟩
end Own

/-! tuple(text): its letters. -/
namespace Own
open PySem PySem.Spec PyProof.Rows L2
/-- the texts of one letter each that a text is made of -/
def lettersOf (x : Str) : List Str := x.cps.toList.map fun c => (⟨#[c]⟩ : Str)
section
variable {X : Cx}
end
end Own

/-! repr of any data where nothing is being shown; a tuple turned round. -/
namespace Own
open PySem PySem.Spec PyProof.Rows L2
section
variable {X : Cx}
end
/-! ### t[::-1] of a tuple -/
theorem adjust_rev (n : Nat) : Builtin.Slice.sliceAdjust none none (-1) (n : Int) = ((n : Int) - 1, -1) := by
  unfold Builtin.Slice.sliceAdjust
  simp
theorem places_rev (n : Nat) : Builtin.Slice.slicePlaces ((n : Int) - 1) (-1) (-1) = n := by
  unfold Builtin.Slice.slicePlaces
  rw [if_neg (by decide), show (- -1 : Int) = 1 by decide, Int.ediv_one]
  split <;> omega
theorem fm_congr {α β : Type} {f g : α → Option β} : ∀ {l : List α}, (∀ x ∈ l, f x = g x) → l.filterMap f = l.filterMap g
  | [], _ => rfl
  | a :: l, h => by
    rw [List.filterMap_cons, List.filterMap_cons, h a List.mem_cons_self, fm_congr fun x hx => h x (List.mem_cons_of_mem _ hx)]
theorem pick_rev (xs : Array Value) : ((List.range xs.size).filterMap fun (m : Nat) => xs[(((xs.size : Int) - 1) + (m : Int) * (-1)).toNat]?) = xs.toList.reverse := by
  have e : ((List.range xs.size).map fun k => xs.size - 1 - k).filterMap (xs[·]?) = xs.toList.reverse := by
    rw [PySem.W.krv_range, List.filterMap_reverse, PySem.W.krv_all]
  rw [← e, List.filterMap_map]
  refine fm_congr fun m hm => ?_
  have := List.mem_range.mp hm
  have e2 : (((xs.size : Int) - 1) + (m : Int) * (-1)).toNat = xs.size - 1 - m := by omega
  rw [e2]
  rfl
section
variable {prog : Program} {w : World} {A : Around} {E : Value → Shared → Prop} {s : Shared}
theorem sliceApplied_rev {sl : Addr} {vl vu vs : Value} {n : Nat} {Q : Int × Int × Nat → Shared → Prop} (hs : s.heap.IsSliceOf sl vl vu vs) (pl : IsPart vl none) (pu : IsPart vu none) (ps : IsPart vs (some (-1)))
    (h : Q ((n : Int) - 1, -1, n) s) : wpAny (model prog w) A (Builtin.Slice.sliceApplied (.ref sl) (pure (n : Int))) Q E s := by
  obtain ⟨os, hos, hcs, hds⟩ := id hs
  unfold Builtin.Slice.sliceApplied Builtin.Slice.sliceFields
  refine wpAny_bind (wpAny_bind (wpAny_field hos hds (x := vl) rfl (wpAny_bind (wpAny_field hos hds (x := vu) rfl (wpAny_bind (wpAny_field hos hds (x := vs) rfl (wpAny_pure ?_)))))))
  refine wpAny_bind (HT.slicePart_ ps ?_)
  show wpAny _ _ (if ((-1 : Int) == 0) = true then _ else _) _ _ s
  rw [if_neg (by decide)]
  refine wpAny_bind (HT.slicePart_ pl (wpAny_bind (HT.slicePart_ pu (wpAny_bind (wpAny_pure ?_)))))
  show wpAny _ _ (match Builtin.Slice.sliceAdjust none none (-1) (n : Int) with | (lo, hi) => pure (lo, (-1 : Int), Builtin.Slice.slicePlaces lo hi (-1))) _ _ s
  rw [adjust_rev n]
  show wpAny _ _ (pure ((n : Int) - 1, (-1 : Int), Builtin.Slice.slicePlaces ((n : Int) - 1) (-1) (-1))) _ _ s
  rw [places_rev]
  exact wpAny_pure h
theorem getItem_tuple_rev {t sl : Addr} {items : Array Value} {vl vu vs : Value} {Q : Value → Shared → Prop} (ht : IsTup s.heap t items) (hs : s.heap.IsSliceOf sl vl vu vs) (pl : IsPart vl none) (pu : IsPart vu none) (ps : IsPart vs (some (-1)))
    (h : Q (.ref s.heap.objs.size) { s with heap := s.heap.push { cls := .type "tuple", data := .seq items.toList.reverse.toArray } })
    (hsz : items.size ≤ sizeLine) : wpAny (model prog w) A (getItem (.ref t) (.ref sl)) Q E s := by
  have htake : sizeOk (.seq items.toList.reverse.toArray) := by
    show items.toList.reverse.toArray.size ≤ sizeLine
    rw [List.size_toArray, List.length_reverse, Array.length_toList]
    exact hsz
  obtain ⟨os, hos, hcs, hds⟩ := id hs
  have hTs : s.TypeIs (.ref sl) "slice" := ⟨os, hos, hcs⟩
  unfold getItem
  try with_reducible refine wpAny_holding ?_
  first | refine wpAny_bind (wpAny_pure ?_) | skip
  refine wpAny_bind (wpAny_sequenceKey ht.typeIs (by decide) ?_)
  refine wpAny_bind (wpAny_callSpecial?_slot (name := Str.ofString "__getitem__") ht.typeIs PyProof.Rows.slot_tuple_getitem
    (wpAny_call_entry PyProof.Rows.slot_tuple_getitem ht.typeIs entry_tuple_getitem ?_ (args_tuple_getitem _ _)))
  show wpAny _ _ (Builtin.Tuple.tupleItemsOf (.ref t) >>= _) _ _ s
  refine wpAny_bind (tupleItemsOf_ ht ?_)
  refine wpAny_bind (wpAny_typeOf hTs ?_)
  rw [if_pos (by decide)]
  refine wpAny_bind (sliceApplied_rev hs pl pu ps ?_)
  have hno : ¬ ((((items.size : Int) - 1) == 0 && (-1 : Int) == 1 && items.size == items.size) = true) := by
    rw [show ((-1 : Int) == 1) = false by decide, Bool.and_false, Bool.false_and]
    exact Bool.false_ne_true
  show wpAny _ _ (if (((items.size : Int) - 1) == 0 && (-1 : Int) == 1 && items.size == items.size) = true then _ else _) _ _ s
  rw [if_neg hno, pick_rev]
  first
    | exact wpAny_bind (m := Builtin.Tuple.tupleExact _) (wpAny_newObj_type (wpAny_pure ⟨_, rfl, wpAny_pure h⟩) htake)
    | exact wpAny_bind (m := Builtin.Tuple.tupleExact _) (wpAny_newObj_type (wpAny_bind (wpAny_pure (wpAny_pure ⟨_, rfl, wpAny_pure h⟩))) htake)
    | exact wpAny_bind (wpAny_bind (m := Builtin.Tuple.tupleExact _) (wpAny_newObj_type (wpAny_pure (wpAny_pure ⟨_, rfl, wpAny_pure h⟩)) htake))
    | exact wpAny_bind (wpAny_bind (m := Builtin.Tuple.tupleExact _) (wpAny_newObj_type (wpAny_pure ⟨_, rfl, wpAny_pure h⟩) htake))
end
section
variable {X : Cx} {te : TE}
def tRevT (K : PySem.W.Frag) (te : TE) : TE := fun σ H Q => te σ H fun x H1 => ∃ a xs, x = .ref a ∧ SqT K H1 a xs ∧ ∀ p, H1 p = none → Q (.ref p) (upd H1 p (.tup xs.reverse))
theorem pe_revT {e : Expr} {k : Nat} {p1 p2 p3 pos : Pos} (he : PE X e te) : PE X (.Subscript e (.Slice none none (some (.UnaryOp .USub (.Constant (.int 1) k p1) p2)) p3) pos) (tRevT X.K te) := by
  refine ⟨fun pins s σ H Q I h => ?_⟩
  refine Subscript_ (thn (he.run pins s σ H _ I h) fun v s1 ⟨x, H1, I1, r1, q1⟩ => ?_)
  obtain ⟨a, xs, ex, hx, q⟩ := q1
  subst ex
  cases r1
  have hst : PO X (some (.UnaryOp .USub (.Constant (.int 1) k p1) p2)) (tPart (tUn (rU fun i => .int (-i)) (tC (.int 1)))) := po_some (pe_un un_neg pe_int)
  refine wpAny_Slice (thn (po_none.run pins s1 σ H1 (fun o H2 => o = none ∧ H2 = H1) I1 ⟨rfl, rfl⟩) fun vl s2 ⟨l, H2, I2, pl, el, e2⟩ => ?_)
  subst el e2
  refine thn (po_none.run pins s2 σ H2 (fun o H3 => o = none ∧ H3 = H2) I2 ⟨rfl, rfl⟩) fun vu s3 ⟨u, H3, I3, pu, eu, e3⟩ => ?_
  subst eu e3
  refine thn (hst.run pins s3 σ H3 (fun o H4 => o = some (-1) ∧ H4 = H3) I3 ⟨1, rfl, -1, rfl, rfl, rfl⟩) fun vs s4 ⟨o, H4, I4, ps, eo, e4⟩ => ?_
  subst eo e4
  have I5 : Inv X pins σ H4 { s4 with heap := s4.heap.push { cls := .type "slice", data := .fields #[vl, vu, vs] } } := I4.kept (t' := s4.toks) fun b ob q => Heap.get?_push_of_some _ q
  obtain ⟨its, r, ht, hz⟩ := I5.tuple hx
  have hlen := r.length
  show wpAny (model X.prog X.w) X.A (subscriptTail e (.Slice none none (some (.UnaryOp .USub (.Constant (.int 1) k p1) p2)) p3) (.ref a) (.ref s4.heap.objs.size)) (EP X pins σ Q) X.xe { s4 with heap := s4.heap.push { cls := .type "slice", data := .fields #[vl, vu, vs] } }
  refine tail_any (ops := [.ref a, .ref s4.heap.objs.size]) ht.typeIs (PyProof.Rows.slot_tuple_getitem.lookup) ?_ (by with_unfolding_all rfl)
  refine getItem_tuple_rev ht (Heap.IsSliceOf.new _ vl vu vs) pl pu ps ?_ (by rw [List.size_toArray]; omega)
  refine ⟨.ref _, _, I5.laid (t' := s4.toks) (o := .tup xs.reverse) (fun b ob q => Heap.get?_push_of_some _ q) (Nat.le_refl _) ?_, rfl, q _ (I5.hok.fresh (Nat.le_refl _))⟩
  exact ⟨by rw [List.length_reverse]; exact hz, _, r.reverse, IsTup.new _ _⟩
end
end Own

/-! repr of an empty dict where nothing is being shown. -/
namespace Own
open PySem PySem.Spec PyProof.Rows L2
section
variable {X : Cx}
end
end Own

/-! Lambdas handed to an own def: the end of a law with the tables of code objects; a def whose code object is known. -/
namespace Own
open PySem PySem.Spec PyProof.Rows L2
/-- the ones that a lambda stands in: name, code object, its table -/
abbrev Tabs3 := List (Str × Addr × Addr)
/-- the law's end, with tables -/
theorem lam_walk {l : PySem.W.OpenLaw} {n k : Nat} {q : Program} {loose : List Str} {XP : (Str → Option Value) → Heap → Prop} {YP : World → Heap → Prop} {d : DefRec} {K : Params → PySem.W.Frag} {sp : PySem.W.Frag → Tabs3 → Sp} {x : Str}
    (hn : l.most = some n) (hn2 : n ≤ sizeLine) (hdf : d.params.defaults = []) (hr : Room k callerA) (hY : ∀ (w : World) (h : Heap), YP w h → (K w.params).In h)
    (F : ∀ (w : World) (mg : Str → Option Value) (fa : Addr) (h : Heap), (K w.params).In h → h.Ns mainGlobals mg → mg d.name = some (.ref fa) →
      ∃ (fd : FuncData) (cs : Tabs3), (∀ t ∈ cs, (∃ r, (recsOf q).find? (fun e => e.name == t.1) = some r) ∧ PySem.W.tabIn (K w.params) t.1 = some t.2 ∧ (K w.params).lookup t.2.2 = none) ∧ (∀ (s : Shared) (u : Value), BindsTo s fd ⟨[u], []⟩ [(x, u)]) ∧
        ∀ base : Heap, (K w.params).In base → base.Ns mainGlobals mg → (∀ t ∈ cs, LamX.TabB base mg t.2.1 t.2.2) → FnOk l.prog w (K w.params) mg base CX0 k fa fd [x] (sp (K w.params) cs))
    (hsp : ∀ (K : PySem.W.Frag) (cs : Tabs3) (H : Hp) (a : Addr) (ns : List Int), ns.length ≤ n → (∀ t ∈ cs, H t.2.2 = some (.tbl #[])) → SqL K H a (ns.map V.int) → sp K cs [.ref a] H (fun v _ => v = .bl true) E0) :
    PySem.W.WalkO q loose XP YP l.row.toRowW d [] (fun f vs => PySem.call f vs) := by
  refine Att.attach_callB hn hdf fun w s₀ s₁ mg mb fa o pm cd doc a vs ns G Y ho hd hcd hmg hobj hints hlen hbits hg => ?_
  have KX := hY w _ Y
  obtain ⟨fd, cs, facts, hb, hF⟩ := F w mg fa _ KX G.T.g hmg
  have both : ∀ t ∈ cs, PySem.W.CodeHd s₁.heap t.2.1 t.2.2 ∧ s₁.heap.get? t.2.2 = some { cls := .none, data := .fields #[] } := fun t ht => by
    obtain ⟨⟨r, hrec⟩, htab, _⟩ := facts t ht
    exact PySem.W.tab_of (x := t.1) (c := t.2.1) (P := t.2.2) G.T KX hrec htab
  have pull : ∀ {Z : Addr × Addr → Prop}, (∀ t ∈ cs, Z t.2) → ∀ p ∈ cs.map (·.2), Z p := fun {Z} h p hp => by
    obtain ⟨t, ht, rfl⟩ := List.mem_map.mp hp
    exact h t ht
  have back : ∀ {Z : Addr × Addr → Prop}, (∀ p ∈ cs.map (·.2), Z p) → ∀ t ∈ cs, Z t.2 := fun h t ht => h t.2 (List.mem_map.mpr ⟨t, ht, rfl⟩)
  refine LamX.law_callTs (cs := cs.map (·.2)) (CX := CX0) KX G.T.g G.T.b G.T.builtins G.T.nolimit hg (pull (Z := fun p => s₁.heap.get? p.2 = _) fun t ht => (both t ht).2) (pull (Z := fun p => (K w.params).lookup p.2 = none) fun t ht => (facts t ht).2.2) (pull (Z := fun p => PySem.W.CodeHd s₁.heap p.1 p.2) fun t ht => (both t ht).1)
    G.T.bmain hobj hints (Nat.le_trans hlen hn2) hr (fun base h1 h2 h3 => hF base h1 h2 (back (Z := fun p => LamX.TabB base mg p.1 p.2) h3)) hb (fun H hH hS => hsp _ cs H a ns hlen (back (Z := fun p => H p.2 = some (.tbl #[])) hH) hS) fun H e s' h => h
/-- a def by its body, its code object known -/
theorem ok_code {P : Program} {w : World} {K : PySem.W.Frag} {mg : Str → Option Value} {base : Heap} {x qual : Str} {st : Stmt} {f c : Addr} {fd : FuncData} {N ps : List Str} {k : Nat} {sp : Sp} (F : Fun K x qual st f fd) (hc : fd.code = .ref c) (S : FnScope N ps (defScope st)) (len : ∀ vs H Q E, sp vs H Q E → vs.length = ps.length)
    (hbody : ∀ (A : Around) (outer : List Env) (s : Shared) (H : Hp) (vs : List V) (Q : VK) (E : XK), Room k (A.deeper (envOfC qual (defScope st) s.heap.objs.size f (.ref c))) → sp vs H Q E →
      ∃ t, PSs (cxOf CX0 P w K mg base N qual (defScope st) f (.ref c) A outer s H E).nox (defBody st) t ∧ t { nx := fun _ H' => Q .non H', rt := Q } (L2.start N vs) H) : FnOk P w K mg base CX0 (k + 1) f fd ps sp := by
  obtain ⟨oc, od, kV, doc, pm, an, cdv, ct, osl, rfl, lk, hcd⟩ := F.ex
  have e : cdv = .ref c := hc
  subst e
  refine fn_of lk hcd S len fun A outer s H vs Q E hr hsp => ?_
  obtain ⟨t, h, q⟩ := hbody A outer s H vs Q E hr hsp
  exact ⟨t, h.nox, q⟩
/-- where a def's code object and its table stand, by what is written -/
theorem tab_by {K : PySem.W.Frag} {x : Str} {f c P : Addr} {oc o2 : Value} {od d2 : Option Addr} {sl s2 : Array (Option Value)} {fd : FuncData} {vs : Array Value} (a : PySem.W.nsIn K mainGlobals x = some (some (.ref f))) (l : K.lookup f = some ⟨oc, od, .func fd, sl⟩) (kd : fd.code = .ref c)
    (lc : K.lookup c = some ⟨o2, d2, .fields vs, s2⟩) (vp : (vs[11]? : Option Value) = some (.ref P)) : PySem.W.tabIn K x = some (c, P) := by
  unfold PySem.W.tabIn
  rw [a]
  dsimp only
  rw [l]
  dsimp only
  rw [kd]
  dsimp only
  rw [lc]
  dsimp only
  rw [vp]
end Own

/-! A lambda of one parameter handed to max as key=: it reads captured names and its parameter, and changes nothing. -/
namespace Own
open PySem PySem.Spec PyProof.Rows L2 LamX
/-! ### the lambda's names -/
structure LamP (sc scope : Scope) (a : Str) : Prop where
  kind : scope.kind = .function
  co : scope.isCoroutine = false
  gen : scope.isGenerator = false
  own : ∀ y ∈ scope.names, y.2 ≠ .cell ∧ (y.2 = .local → y.1 = a)
  par : scope.names.lookup a = some .local
  free : ∀ y ∈ scope.names, y.2 = .free → sc.names.lookup y.1 = some .cell ∨ sc.names.lookup y.1 = some .free
def lamPB (sc scope : Scope) (a : Str) : Bool :=
  decide (scope.kind = .function) && !scope.isCoroutine && !scope.isGenerator && decide (scope.names.lookup a = some .local) && scope.names.all fun y => !decide (y.2 = .cell) && (!decide (y.2 = .local) || decide (y.1 = a)) && (!decide (y.2 = .free) || decide (sc.names.lookup y.1 = some .cell) || decide (sc.names.lookup y.1 = some .free))
theorem lamP_by {sc scope : Scope} {a : Str} (h : lamPB sc scope a = true) : LamP sc scope a := by
  unfold lamPB at h
  simp only [Bool.and_eq_true, Bool.or_eq_true, Bool.not_eq_true', decide_eq_true_eq, decide_eq_false_iff_not, List.all_eq_true] at h
  obtain ⟨⟨⟨⟨h1, h2⟩, h3⟩, h5⟩, h4⟩ := h
  refine ⟨h1, h2, h3, fun y hy => ⟨(h4 y hy).1.1, fun e => ?_⟩, h5, fun y hy e => ?_⟩
  · rcases (h4 y hy).1.2 with z | z
    · exact absurd e z
    · exact z
  · rcases (h4 y hy).2 with (z | z) | z
    · exact absurd e z
    · exact .inl z
    · exact .inr z
theorem LamP.has {X : Cx} {scope : Scope} {a : Str} (L : LamP X.env.scope scope a) (ok : X.Ok) : ∀ y ∈ scope.names, y.2 = .free → ∃ c, X.env.cells.lookup y.1 = some c := fun y hy e => by
  rcases L.free y hy e with k | k
  · exact ok.has _ (.inl k)
  · exact ok.has _ (.inr k)
/-- the context of the lambda's body, its parameter behind the maker's names -/
abbrev lamCxP (X : Cx) (A : Around) (s : Shared) (H : Hp) (scope : Scope) (f c' : Addr) (a : Str) : Cx := { lamCx X A X.stack s H E0 scope f c' with N := X.N ++ [a] }
section
variable {X : Cx} {pins : List (Addr × Obj)} {σ : L2.St} {H HZ : Hp} {s s1 : Shared}
theorem lamP_start {A : Around} {scope : Scope} {f c' : Addr} {a : Str} {v : V} {u : Value} {h₁ : Heap} {tk : Nat} (I : Inv X pins σ H s) (L : LamP X.env.scope scope a) (ha : a ∉ X.N) (rv : RelV v u) (e0 : Env0 X.prog X.w X.K X.mg X.base A X.stack s H) (hd : A.handled = none)
    (hns : h₁.Ns s.heap.objs.size fun y => ([(a, u)] : List (Str × Value)).reverse.lookup y) (kp : ∀ b o, s.heap.get? b = some o → h₁.get? b = some o) :
    Inv (lamCxP X A s H scope f c' a) [] (σ ++ [some v]) H { s with heap := h₁, toks := tk } := by
  have hfree := L.has I.ok
  have cm : ∀ {y c}, (cloFrom X.env.cells scope.names []).lookup y = some c → X.env.cells.lookup y = some c := fun {y c} e => by
    rcases cloFrom_mem (PySem.mem_of_lookup e) with hm | ⟨h1, h2⟩
    · cases hm
    · obtain ⟨c1, hc⟩ := hfree _ h1 rfl
      have hc : X.env.cells.lookup y = some c1 := hc
      have e2 : c = c1 := by
        rw [h2, hc] <;> rfl
      rw [e2]
      exact hc
  have look : ∀ {y}, scope.names.lookup y = some .free → ∃ c, (cloFrom X.env.cells scope.names []).lookup y = some c := fun {y} hl => by
    have hy : (y, NameKind.free) ∈ scope.names := PySem.mem_of_lookup hl
    exact mem_lookup (cloFrom_has (cells := X.env.cells) (acc := []) hy)
  have cellK : ∀ {c : Addr} {v : Option Value}, s.heap.IsCell c v → h₁.IsCell c v := fun {c v} ⟨o, ho, hd⟩ => ⟨_, kp _ _ ho, hd⟩
  have noA : ∀ b : Addr, b ∉ (lamCxP X A s H scope f c' a).ex := fun b z => absurd (show b ∈ ([] : List Addr) from z) (by simp)
  have len := I.len
  refine ⟨⟨e0.mod, L.kind, rfl, rfl, Nat.le_refl _, fun y z c e1 e2 => I.ok.inj y z c (cm e1) (cm e2), fun y hy => ?_, fun y c z _ => ?_, fun _ => hd, Around.frames_deeper e0.frames, .inr ⟨rfl, rfl⟩, fun b z => absurd z (noA b), e0.bs, e0.bsz, fun b _ _ => noA b,
      fun b z => absurd z (noA b), e0.funs, e0.frf⟩,
    rfl, e0.bare, Un.kept kp, ⟨_, hns, fun i y w e1 e2 e3 => ?_⟩, fun y c e => ?_, e0.hok.fresh (Nat.le_refl _), fun y c e => ?_, fun q hq => absurd (show q ∈ ([] : List (Addr × Obj)) ++ [] from hq) (by simp), e0.hok.kept kp, ?_⟩
  · have hy : scope.names.lookup y = some .cell ∨ scope.names.lookup y = some .free := hy
    rcases hy with hy | hy
    · exact absurd rfl (L.own _ (PySem.mem_of_lookup hy)).1
    · exact look hy
  · have z : false = true := z
    cases z
  · have e3 : Vis scope y := e3
    have e1 : (X.N ++ [a])[i]? = some y := e1
    have e2 : (σ ++ [some v])[i]? = some (some w) := e2
    by_cases il : i < X.N.length
    · rw [List.getElem?_append_left il] at e1
      rw [List.getElem?_append_left (by omega)] at e2
      have ya : y ≠ a := fun e => ha (by rw [← e]; exact List.mem_of_getElem? e1)
      rcases e3 with k | k | k
      · exact absurd ((L.own _ (PySem.mem_of_lookup k)).2 rfl) ya
      · exact absurd rfl (L.own _ (PySem.mem_of_lookup k)).1
      · obtain ⟨m, hn, hl⟩ := I.loc
        have hvis : Vis X.env.scope y := (L.free _ (PySem.mem_of_lookup k) rfl).elim (fun k => .inr (.inl k)) (fun k => .inr (.inr k))
        obtain ⟨w', r, q⟩ := hl i y w e1 e2 hvis
        obtain ⟨c2, h2⟩ := look k
        refine ⟨w', r, .inr ⟨.inr k, c2, h2, ?_⟩⟩
        have c1 := cm h2
        rcases q with ⟨k', _⟩ | ⟨_, c3, e', z⟩
        · have k' : X.env.scope.names.lookup y = some .local := k'
          rcases L.free _ (PySem.mem_of_lookup k) rfl with k2 | k2 <;> rw [show X.env.scope.names.lookup y = _ from k2] at k' <;> cases k'
        · rw [c1] at e'
          cases e'
          exact cellK z
    · rw [List.getElem?_append_right (by omega)] at e1 e2
      have i0 : i - X.N.length = 0 := by
        have := (List.getElem?_eq_some_iff.mp e1).1
        have : i - X.N.length < 1 := this
        omega
      rw [i0] at e1
      rw [len, i0] at e2
      have ey : a = y := Option.some.inj e1
      have ew : v = w := Option.some.inj (Option.some.inj e2)
      subst ey
      subst ew
      refine ⟨u, rv, .inl ⟨L.par, ?_⟩⟩
      show (([(a, u)] : List (Str × Value)).reverse).lookup a = some u
      simp
  · obtain ⟨w', z⟩ := I.cell y c (cm e)
    exact ⟨w', cellK z⟩
  · exact I.freeC y c (cm e)
  · show (σ ++ [some v]).length = (X.N ++ [a]).length
    rw [List.length_append, List.length_append, len]
    rfl
/-- the lambda at f, called with one value: what its body reads -/
theorem lamP_call {A1 : Around} {k : Nat} {f c' : Addr} {pm ctv : Value} {params : Arguments} {body : Expr} {scope : Scope} {a : Str} {v : V} {u : Value} {tb : TE} {Q : Value → Shared → Prop} {E : Value → Shared → Prop}
    (sb : Sub X (k + 1) A1) (I : Inv X pins σ H s) (L : LamP X.env.scope scope a) (ha : a ∉ X.N) (hf : s.heap.get? f = some (PySem.W.kla_obj "<lambda>" (X.env.qual ++ "<lambda>") params body scope (cloFrom X.env.cells scope.names []) pm c' ctv)) (hco : H c' = some (CodeO c' (X.env.qual ++ "<lambda>")))
    (hbind : ∀ (s : Shared), bindArgs (PySem.W.kla_fn "<lambda>" (X.env.qual ++ "<lambda>") params body scope (cloFrom X.env.cells scope.names []) pm (.ref c') ctv) ⟨[u], []⟩ = pure [(a, u)])
    (rv : RelV v u) (hbody : Room k (A1.deeper (lamEnv X scope s.heap.objs.size f c')) → PE (lamCxP X A1 s H scope f c' a) body tb) (W : VK) (h : tb (σ ++ [some v]) H W)
    (go : ∀ (x : V) (y : Value) (H' : Hp) (s' : Shared), Inv X pins σ H' s' → RelV x y → W x H' → (∀ b o, s.heap.get? b = some o → H b = none → b ∉ frs X.stack → s'.heap.get? b = some o) → (∀ b o z, H b = some (.frz o z) → H' b = some (.frz o z)) → Q y s') :
    wpAny (model X.prog X.w) A1 (call (.ref f) [u]) Q E s := by
  have e0 : Env0 X.prog X.w X.K X.mg X.base A1 X.stack s H := by
    have e := I.env0
    exact ⟨by rw [sb.fr]; exact e.frames, e.mod, e.bs, e.bsz, e.funs, e.frf, e.hok, e.bare⟩
  obtain ⟨⟨oc, vs, t, hoc, hdc, hvc⟩, _, _⟩ := I.hok c' _ hco
  have rc : codeAny (model X.prog X.w) A1 (.call (.ref f) ⟨[u], []⟩) (CR (L2.CX X.prog X.w) X.stack X.prog X.w H s W E0) s := by
    refine PySem.W.kla_callFunE sb.room.depth hf rfl L.co L.gen rfl ⟨c', oc, vs, t, rfl, hoc, hdc, hvc⟩ ?_
    rw [hbind s]
    refine wpAny_pure (wpAny_newFunctionEnv (fun y hy => (L.own y hy).1) (fun y hy => ?_) (fun h₁ hns hsb => ⟨I.nolimit.fresh _ hsb, ?_⟩) L.kind)
    · rw [List.mem_singleton.mp hy]
      exact L.par
    show codeAny _ _ (.expr body (lamEnv X scope s.heap.objs.size f c')) _ _
    have kp : ∀ b o, s.heap.get? b = some o → h₁.get? b = some o := fun b o e => hsb.extBut b o (Nat.ne_of_lt (Heap.lt_size e)) (Heap.get?_push_of_some _ e)
    have J := lamP_start (f := f) (c' := c') (tk := s.toks + ([(a, u)] : List (Str × Value)).length) I L ha rv e0 sb.room.hd hns kp
    refine PySem.W.kla_codeExpr (wpAny_mono ((hbody (sb.room.deeper _)).run [] _ _ H W J h) (fun y s' hq => ?_) fun e s' hq => hq)
    obtain ⟨w', H', J', r, q⟩ := hq
    exact ⟨w', H', J'.os, J'.bare, J'.base, J'.hok, r, q⟩
  refine wpAny_call (codeAny_mono rc fun r s' hq => ?_)
  cases r with
  | error e =>
    obtain ⟨_, _, _, _, _, _, _, _, _, _, _, _, z⟩ := (show L2.CX X.prog X.w X.stack H s E0 e s' from hq)
    exact z.elim
  | ok fl =>
    cases fl with
    | ret y =>
      have hq : CE X.stack X.prog X.w H s W y s' := hq
      have un : ∃ H', Un (frs X.stack) [] H H' s.heap s'.heap := by
        obtain ⟨_, H', _, _, un, _⟩ := hq
        exact ⟨H', un⟩
      obtain ⟨x, H', os, bare, un, hok, rx, q⟩ := hq
      have I2 : Inv X pins σ H' s' := by
        obtain ⟨hh, g, d, t, os'⟩ := s'
        obtain rfl : os' = s.os := os
        exact I.call (h' := hh) (g' := g) (d' := d) (t' := t) (ch := []) un hok bare (fun b z => absurd z (by simp))
      exact go x y H' s' I2 rx q (fun b o e n nf => un.keep b o e n nf (by simp)) un.frzs
    | next => exact False.elim hq
    | brk => exact False.elim hq
    | cont => exact False.elim hq
end
/-! ### max(e, key=lambda a: body) -/
/-- the list is locked; kk: what the lambda tells of the i-th item; the first one of the greatest is told -/
def tMaxKey (T : List (Addr × Str)) (to tb : TE) : TE := fun σ H Q => to σ H fun x H1 => Tabs T H1 ∧ ∀ H2, ExtN H1 H2 → Tabs T H2 → ∃ (l : Addr) (od : Obj) (xs : List V) (kk : Nat → Int), x = .ref l ∧ H2 l = some (.frz od (.lst xs)) ∧ xs ≠ [] ∧
  (∀ i v, xs[i]? = some v → tb (σ ++ [some v]) H2 fun k H3 => H3 = H2 ∧ k = .int (kk i)) ∧ ∀ i v, xs[i]? = some v → (∀ j, j < xs.length → kk j ≤ kk i) → (∀ j, j < i → kk j < kk i) → Q v H2
section
variable {X : Cx}
theorem nofr_at {pins : List (Addr × Obj)} {σ : L2.St} {H : Hp} {s : Shared} (I : Inv X pins σ H s) {f : Addr} (hf : s.heap.objs.size ≤ f) : f ∉ frs X.stack := fun z => by
  rcases List.mem_cons.mp (I.stkSub _ z) with e | e
  · have h1 := I.lt
    rw [← e] at h1
    exact Nat.lt_irrefl _ (Nat.lt_of_lt_of_le h1 hf)
  · exact I.nofs hf e
end
end Own

/-! list.remove of a text, which stands in the list. -/
namespace Own
open PySem PySem.Spec PyProof.Rows L2
def eqz (z : Str) (v : Value) : Bool := match v with
  | .str x _ => x.cps.toList == z.cps.toList
  | _ => false
theorem erase_mapS : ∀ (l : List Str) (j : Nat), (l.map V.str).eraseIdx j = (l.eraseIdx j).map V.str
  | [], j => by simp
  | a :: r, 0 => by simp
  | a :: r, j + 1 => by
    have ih := erase_mapS r j
    simp [ih]
section
variable {X : Cx}
def rRemS : V → List V → Hp → VK → Prop := fun x xs H Q => ∃ (l : Addr) (zs : List Str) (z : Str) (j : Nat), x = .ref l ∧ xs = [.str z] ∧ H l = some (.lst (zs.map V.str)) ∧ zs[j]? = some z ∧ (∀ m : Nat, m < j → zs[m]? ≠ some z) ∧ Q .non (upd H l (.lst ((zs.eraseIdx j).map V.str)))
theorem mt_removeS : MtM X "list.remove" rRemS := by
  intro pins s σ H x xs v us Q I rx rxs h
  obtain ⟨l, zs, z, j, rfl, rfl, hH, hj, hno, q⟩ := h
  cases rx
  obtain ⟨u, rfl, ru⟩ := rxs.one
  obtain ⟨t, rfl⟩ := ru
  obtain ⟨zz, its, n, r, hl, e⟩ := I.lstM hH
  rw [List.length_map] at hl zz
  have at_ : ∀ (m : Nat) (h : m < its.length), ∃ tm, its[m]'h = .str (zs[m]'(by omega)) tm := fun m h => by
    obtain ⟨u', hu', ru'⟩ := r.get (i := m) (x := .str (zs[m]'(by omega))) (by rw [List.getElem?_map, List.getElem?_eq_getElem (by omega)] <;> rfl)
    obtain ⟨tm, rfl⟩ := ru'
    rw [List.getElem?_eq_getElem h] at hu'
    exact ⟨tm, Option.some.inj hu'⟩
  have hjn : j < zs.length := (List.getElem?_eq_some_iff.mp hj).1
  have hjl : j < its.toArray.size := by rw [List.size_toArray]; omega
  refine call_meets PySem.F.slot_list_remove ⟨_, e, rfl⟩ PySem.F.entry_list_remove (PySem.F.args_list_remove_2 _ _)
    (MeetsSeq.list_remove l its.toArray n (.str z t) (eqz z) (fun y hy => ?_) j hjl ?_ ?_ (by rw [List.size_toArray]; omega)) ⟨e, ?_⟩
  · have hy' : y ∈ its := by simpa using hy
    obtain ⟨m, hm, rfl⟩ := List.mem_iff_getElem.mp hy'
    obtain ⟨tm, em⟩ := at_ m hm
    rw [em]
    exact PySem.SeqRoads2.EqGives.str _ z tm t
  · obtain ⟨tj, ej⟩ := at_ j (by omega)
    have e1 : its.toArray[j] = .str zs[j] tj := by simpa using ej
    rw [e1]
    have e2 : zs[j] = z := (List.getElem?_eq_some_iff.mp hj).2
    rw [e2]
    show (z.cps.toList == z.cps.toList) = true
    exact beq_self_eq_true _
  · intro m hm hmj
    obtain ⟨tm, em⟩ := at_ m (by rw [List.size_toArray] at hm; exact hm)
    have e1 : its.toArray[m] = .str (zs[m]'(by omega)) tm := by simpa using em
    rw [e1]
    refine beq_eq_false_iff_ne.mpr fun e2 => hno m hmj ?_
    rw [List.getElem?_eq_getElem (show m < zs.length by omega)]
    have e3 := Array.toList_inj.mp e2
    cases hz : zs[m]'(by omega)
    cases z
    rw [hz] at e3
    exact congrArg some (congrArg Str.mk e3)
  · have rr := r.eraseIdx j
    rw [erase_mapS] at rr
    refine ⟨.non, _, I.lset (its' := its.eraseIdx j) (t' := s.toks) hH e ?_ rr ?_, rfl, q⟩
    · show its.toArray.eraseIdxIfInBounds j = (its.eraseIdx j).toArray
      rw [List.eraseIdxIfInBounds_toArray]
    · rw [List.length_map]
      have := List.length_eraseIdx_le zs j
      omega
end
end Own

/-! sorted(d) of a dict whose keys are pairs of texts. -/
namespace Own
open PySem PySem.Spec PyProof.Rows L2
end Own

/-! sorted(xs, key=lambda a: ..) of a lambda that captures names, keys whole numbers: stable. -/
namespace Own
open PySem PySem.Spec PyProof.Rows L2 LamX
section
variable {prog : Program} {w : World} {A : Around} {E : Value → Shared → Prop} {s : Shared} {a kS : Addr} {vs : List Value} {e1 : Nat} {P : PySem.Fin → Shared → Prop} {f : Value} {J : Shared → Prop} {kz : List Int}
/-- a call of the key: the turn keeps J and the two lists -/
def KeyTurn (prog : Program) (w : World) (A : Around) (J : Shared → Prop) (a kS : Addr) (f : Value) (vs : List Value) (kz : List Int) : Prop :=
  ∀ (i : Nat) (v : Value) (k : Int) (s' : Shared) (Q' : Value → Shared → Prop), vs[i]? = some v → kz[i]? = some k → J s' →
    (∀ (y : Value) (s'' : Shared), J s'' → (∃ t, y = .int k t) → (∀ c o, (c = kS ∨ c = a) → s'.heap.get? c = some o → s''.heap.get? c = some o) → Q' y s'') →
    wpAny (model prog w) A (call f [v]) Q' (fun _ _ => False) s'
theorem heap_without_up (h : Heap) (c : Addr) : ∃ h1 : Heap, h1.get? c = none ∧ (∀ b o, b ≠ c → h1.get? b = some o → h.get? b = some o) ∧ ∀ b o, b ≠ c → h.get? b = some o → h1.get? b = some o := by
  refine ⟨h.update c (fun o => { o with data := .freed }), ?_, fun b o hb e => ?_, fun b o hb e => ?_⟩
  · show (match (h.objs.modify c fun o => { o with data := .freed })[c]? with | some ⟨_, _, .freed, _⟩ => none | o => o) = none
    rw [Array.getElem?_modify, if_pos rfl]
    cases h.objs[c]? with
    | none => rfl
    | some o => rfl
  · rw [Heap.get?_update_other h _ (Ne.symm hb)] at e
    exact e
  · rw [Heap.get?_update_other h _ (Ne.symm hb)]
    exact e
theorem each_ints {h : Heap} : ∀ {us : List Value} {ks : List Int}, W.EachIs (fun v k => ∃ t, v = Value.int k t) us ks → W.EachIs (fun v d => ∃ as, Reads h v d as) us (ks.map PyData.int)
  | _, _, .nil => .nil
  | _, _, .cons ⟨t, e⟩ r => .cons ⟨[], by rw [e]; exact .int _ t⟩ (each_ints r)
theorem each_put {α β : Type} {R : α → β → Prop} {x : α} {y : β} (r : R x y) : ∀ {as : List α} {bs : List β}, W.EachIs R as bs → W.EachIs R (as ++ [x]) (bs ++ [y])
  | _, _, .nil => .cons r .nil
  | _, _, .cons h t => .cons h (each_put r t)
theorem keyJ_rest (nk : s.heap.get? kS = some (seqObj "list" #[] 0)) (na : s.heap.get? a = some (seqObj "list" #[] e1)) (hka : kS ≠ a) (hlen : kz.length = vs.length) (hZ : vs.length ≤ sizeLine) (hu : A.units + 1 < cLine) (hJ : J s)
    (turn : KeyTurn prog w A J a kS f vs kz) (put : ∀ s' h', J s' → (∀ b o, b ≠ kS → s'.heap.get? b = some o → h'.get? b = some o) → J { s' with heap := h' })
    (fin : ∀ s' h' tk out c, J s' → (∀ b o, b ≠ a → b ≠ kS → s'.heap.get? b = some o → h'.get? b = some o) → h'.get? a = some (seqObj "list" (List.toArray out) c) → W.KeyedOut false (kz.map PyData.int) vs out → P (.done (.ret .none)) { s' with heap := h', toks := tk }) :
    wpAny (model prog w) A (ksk_rest a f false vs.toArray e1 (.ref kS)) P E s := by
  unfold ksk_rest
  refine wpAny_bind (wpAny_rule ?_)
  rw [List.forIn_toArray]
  refine wpAny_bind (ksk_fold (fun i s' => J s' ∧ ∃ kA e, s'.heap.get? kS = some (seqObj "list" kA e) ∧ s'.heap.get? a = some (seqObj "list" #[] e1) ∧ W.EachIs (fun v k => ∃ t, v = Value.int k t) kA.toList (kz.take i)) vs 0 s ⟨hJ, #[], 0, nk, na, by rw [List.take_zero]; exact .nil⟩ ?_ ?_)
  · rintro j x s1 hx ⟨j1, kA, e, k1, a1, ek⟩
    rw [Nat.zero_add] at ek ⊢
    have hj : j < vs.length := (List.getElem?_eq_some_iff.mp hx).1
    obtain ⟨k, hk⟩ : ∃ k, kz[j]? = some k := ⟨_, List.getElem?_eq_getElem (by omega)⟩
    have size_kA : kA.size ≤ vs.length := by
      have q := ek.length
      rw [Array.length_toList, List.length_take] at q
      omega
    refine wpAny_bind (wpAny_attempt (wpAny_mono (turn j x k s1 (fun y s2 => J s2 ∧ (∃ t, y = .int k t) ∧ s2.heap.get? kS = some (seqObj "list" kA e) ∧ s2.heap.get? a = some (seqObj "list" #[] e1)) hx hk j1 fun y s2 j2 hy kp => ⟨j2, hy, kp _ _ (.inl rfl) k1, kp _ _ (.inr rfl) a1⟩) (fun y s2 h2 => ?_) fun _ _ z => z.elim))
    obtain ⟨j2, ⟨t, rfl⟩, k2, a2⟩ := h2
    dsimp only
    have sb := Heap.SameBut.update s2.heap kS (Obj.mapSeq (·.push (Value.int k t)))
    have k3 := get?_update_seq k2 (·.push (Value.int k t))
    refine wpAny_bind (listUpdate_at k2 rfl ?_ (Nat.le_trans size_kA hZ) (by rw [Array.size_push]; omega))
    refine wpAny_pure ⟨rfl, put s2 _ j2 fun b o hb q => (sb.2 b hb).trans q, _, _, k3, (sb.2 a hka.symm).trans a2, ?_⟩
    rw [Array.toList_push, List.take_add_one, hk]
    exact each_put ⟨t, rfl⟩ ek
  · rintro s1 ⟨j1, kA, e, k1, a1, ek⟩
    rw [List.take_of_length_le (by omega)] at ek
    have size_kA : kA.size = vs.length := by
      have q := ek.length
      rw [Array.length_toList] at q
      omega
    refine wpAny_bind (listItems_at k1 rfl ?_)
    obtain ⟨h0, n0, up, dn⟩ := heap_without_up s1.heap kS
    have hk' : W.EachIs (fun v d => ∃ as, Reads s1.heap v d as) kA.toList (kz.map PyData.int) := each_ints ek
    have al : W.AllAlike (kz.map PyData.int) := fun d hd d' hd' => by
      obtain ⟨x, _, rfl⟩ := List.mem_map.mp hd
      obtain ⟨y, _, rfl⟩ := List.mem_map.mp hd'
      rfl
    have so : W.Sortable (kz.map PyData.int) := .inr fun d hd => by
      obtain ⟨x, _, rfl⟩ := List.mem_map.mp hd
      exact ⟨(by intro z; cases z), fun xs z => (by cases z)⟩
    refine W.keyH_end (κ := W.dataKind s1.heap (kz.map PyData.int)) (h₁ := h0) (fun b o _ q => by
      by_cases hb : b = kS
      · rw [hb, n0] at q; cases q
      · exact up b o hb q) n0 k1 a1 hka (W.SortsAt.data hk' al so fun d hd => ?_) size_kA hZ fun h3 tk c kp n3 => ?_
    · obtain ⟨x, _, rfl⟩ := List.mem_map.mp hd
      show A.units + 0 < cLine
      omega
    · exact fin s1 h3 tk _ c j1 (fun b o hb hb2 q => kp b o hb (dn b o hb2 q)) n3 ⟨s1.heap, kA.toList, al, rfl, hk'⟩
theorem keyJ_sorted {l q : Addr} {Q : Value → Shared → Prop} (hl : s.heap.IsList l vs.toArray) (hlen : kz.length = vs.length) (hZ : vs.length ≤ sizeLine) (hu : A.in1.in1.units + 1 < cLine)
    (start : ∀ h', (∀ b o, s.heap.get? b = some o → h'.get? b = some o) → J { s with heap := h' })
    (turn : ∀ a kS, s.heap.objs.size ≤ a → s.heap.objs.size ≤ kS → KeyTurn prog w A.in1.in1 J a kS (.ref q) vs kz)
    (put : ∀ kS, s.heap.objs.size ≤ kS → ∀ s' h', J s' → (∀ b o, b ≠ kS → s'.heap.get? b = some o → h'.get? b = some o) → J { s' with heap := h' })
    (fin : ∀ a kS s' h' tk out c, s.heap.objs.size ≤ a → s.heap.objs.size ≤ kS → J s' → (∀ b o, b ≠ a → b ≠ kS → s'.heap.get? b = some o → h'.get? b = some o) → h'.get? a = some (seqObj "list" (List.toArray out) c) → W.KeyedOut false (kz.map PyData.int) vs out →
      Q (.ref a) { s' with heap := h', toks := tk }) :
    wpAny (model prog w) A (call (.builtin "sorted") [.ref l] [(Str.ofString "key", .ref q)]) Q E s := by
  refine W.sorted_of_sort hl hZ (ksk_s1 _ _) (fun _ => ksk_l1 _ _) fun E' => ?_
  rw [ksk_t1]
  have c0 := W.copyHeap_at s.heap vs
  have old : ∀ b o, s.heap.get? b = some o → (W.copyHeap s.heap vs).get? b = some o := fun b o e => W.copyHeap_old e
  have big : s.heap.objs.size ≤ (W.copyHeap s.heap vs).objs.size := Nat.le_of_lt (Nat.lt_of_le_of_lt (Nat.le_succ _) (Heap.lt_size c0))
  generalize W.copyHeap s.heap vs = hc at c0 old big
  have alt := Heap.lt_size c0
  have u0 := get?_update_seq c0 (fun _ => (#[] : Array Value))
  have sb := Heap.SameBut.update hc (s.heap.objs.size + 1) (Obj.mapSeq fun _ => (#[] : Array Value))
  have usz : (hc.update (s.heap.objs.size + 1) (Obj.mapSeq fun _ => (#[] : Array Value))).objs.size = hc.objs.size := Heap.size_update _ _ _
  unfold ksk_tree
  refine wpAny_bind (listItems_at c0 rfl (wpAny_bind (listUpdate_at c0 rfl ?_ (by rw [List.size_toArray]; exact hZ) (Nat.zero_le _))))
  refine wpAny_bind (seqEpoch_at u0 rfl (wpAny_bind (wpAny_newTuple ?_ (by show vs.length ≤ _; exact hZ))))
  refine wpAny_bind (wpAny_newList ?_ (Nat.zero_le _))
  refine wpAny_holding ?_
  dsimp only at u0 sb usz ⊢
  generalize hc.update (s.heap.objs.size + 1) (Obj.mapSeq fun _ => (#[] : Array Value)) = hd at u0 sb usz ⊢
  have tsz : (hd.push { cls := .type "tuple", data := .seq vs.toArray.toList.toArray }).objs.size = hd.objs.size + 1 := Heap.size_push _ _
  have kge : s.heap.objs.size ≤ (hd.push { cls := .type "tuple", data := .seq vs.toArray.toList.toArray }).objs.size := by
    rw [tsz]
    omega
  have alt2 : s.heap.objs.size + 1 < hd.objs.size := by rw [usz]; exact alt
  have kne : (hd.push { cls := .type "tuple", data := .seq vs.toArray.toList.toArray }).objs.size ≠ s.heap.objs.size + 1 := by
    rw [tsz]
    omega
  refine keyJ_rest (a := s.heap.objs.size + 1) (kS := (hd.push { cls := .type "tuple", data := .seq vs.toArray.toList.toArray }).objs.size) (J := J) (kz := kz) (Heap.get?_push_size _ rfl) (Heap.get?_push_of_some _ (Heap.get?_push_of_some _ u0)) kne hlen hZ hu
    (start _ fun b o e => Heap.get?_push_of_some _ (Heap.get?_push_of_some _ ((sb.2 b (Nat.ne_of_lt (Nat.lt_succ_of_lt (Heap.lt_size e)))).trans (old b o e)))) (turn _ _ (Nat.le_succ _) kge) (put _ kge) fun s' h' tk out c j k n ko => ⟨rfl, fin _ _ s' h' tk out c (Nat.le_succ _) kge j k n ko⟩
theorem each_vals : ∀ {xs : List V} {us : List Value}, Vals xs us → W.EachIs (fun u x => RelV x u) us xs
  | _, _, .nil => .nil
  | _, _, .cons r t => .cons r (each_vals t)
theorem vals_each : ∀ {us : List Value} {xs : List V}, W.EachIs (fun u x => RelV x u) us xs → Vals xs us
  | _, _, .nil => .nil
  | _, _, .cons r t => .cons r (vals_each t)
end
/-! ### sorted(e, key=lambda a: body) -/
/-- kk: what the lambda tells of an item; the items come by it, like ones as they stood -/
def tSortKey (K : PySem.W.Frag) (T : List (Addr × Str)) (to tb : TE) : TE := fun σ H Q => to σ H fun x H1 => Tabs T H1 ∧ ∀ H2, ExtN H1 H2 → Tabs T H2 → ∃ (l : Addr) (xs : List V) (kk : V → Int), x = .ref l ∧ SqL K H2 l xs ∧
  (∀ v ∈ xs, tb (σ ++ [some v]) H2 fun k H3 => H3 = H2 ∧ k = .int (kk v)) ∧ ∀ (c : Addr), H2 c = none → Q (.ref c) (upd H2 c (.lst (xs.mergeSort fun a b => decide (kk a ≤ kk b))))
section
variable {X : Cx}
theorem pe_sortedKey {T : List (Addr × Str)} {c P : Addr} {k : Nat} {e : Expr} {params : Arguments} {body : Expr} {scope : Scope} {a : Str} {to tb : TE} {p kpos lpos pos : Pos} (hc : X.calm = true) (hg : Gl X "sorted") (hm : X.mg "sorted" = none) (he : PE X e to)
    (TB : TabB X.base X.mg c P) (hcode : X.env.code = .ref c) (hmT : (P, X.env.qual ++ "<lambda>") ∈ T) (hu : ∀ p ∈ T, p.1 = P → p.2 = X.env.qual ++ "<lambda>") (hr : Room (k + 3) X.A) (L : LamP X.env.scope scope a) (ha : a ∉ X.N) (hdef : defaultsOf params X.env = ([], []))
    (hbind : ∀ (q : Str) (cl : List (Str × Addr)) (pm cv ctv u : Value), bindArgs (PySem.W.kla_fn "<lambda>" q params body scope cl pm cv ctv) ⟨[u], []⟩ = pure [(a, u)])
    (hbody : ∀ (s : Shared) (H : Hp) (f c' : Addr), Room k (X.A.in1.in1.deeper (lamEnv X scope s.heap.objs.size f c')) → PE (lamCxP X X.A.in1.in1 s H scope f c' a) body tb)
    (h1 : backTo pos (starEach [e] X.env) = (false, eval e X.env) :: backTo pos (starEach [] X.env) := by rfl) (h2 : (backTo pos (starEach [e] X.env)).any (·.1) = false := by rfl) :
    PE X (.Call (.Name "sorted" p) [e] [⟨some "key", .Lambda params body scope lpos, kpos⟩] pos) (tSortKey X.K T to tb) := by
  refine ⟨fun pins s σ H Q I h => ?_⟩
  refine wpAny_Call_Name_kw (ld_blt I hg hm (show bootBuiltins "sorted" = some (.builtin "sorted") by decide +kernel) ?_)
  refine PyProof.Rows.callWith_kw ?_ h1 h2 rfl rfl
  rw [h1]
  refine Calls.spliced_cons (thn (he.run pins s σ H _ I h) fun u s1 ⟨x, H1, I1, r1, q1⟩ => ?_)
  refine Calls.spliced_nil ?_
  obtain ⟨hT, h⟩ := q1
  show wpAny _ _ (evalAll [do let v ← eval (.Lambda params body scope lpos) X.env; standAt pos; pure v]) _ _ s1
  refine wpAny_evalAll_cons (wpAny_bind (lam_make2 I1 TB hcode hmT hu hT hdef (L.has I1.ok) fun f c' pm ctv H2 s2 I2 eN T2 hf hfn hfr hco => wpAny_bind (wpAny_standAt (wpAny_pure ?_))))
  refine wpAny_evalAll_nil ?_
  show wpAny _ X.A (call (.builtin "sorted") [u] [(Str.ofString "key", .ref f)]) _ _ s2
  obtain ⟨l, xs, kk, rfl, hl, hbd, fin⟩ := h H2 eN T2
  obtain rfl : u = Value.ref l := r1
  obtain ⟨its, rv, hL, hz⟩ := I2.list hl
  have hn : its.length = xs.length := rv.length.symm
  have nfr : ∀ {b}, s2.heap.objs.size ≤ b → b ∉ frs X.stack := fun h => nofr_at I2 h
  have nH : ∀ {b}, s2.heap.objs.size ≤ b → H2 b = none := fun h => I2.hok.fresh h
  have fpk : ∀ {b}, s2.heap.objs.size ≤ b → FpOk X pins H2 b := fun h => I2.fpOk h (nH h)
  have fne : ∀ {b}, s2.heap.objs.size ≤ b → f ≠ b := fun h => Nat.ne_of_lt (Nat.lt_of_lt_of_le (Heap.lt_size hf) h)
  have sb : Sub X (k + 1) X.A.in1.in1 := ⟨hr.in1.in1, rfl⟩
  refine keyJ_sorted (kz := xs.map kk) (J := fun s' => Inv X pins σ H2 s' ∧ s'.heap.get? f = some (PySem.W.kla_obj "<lambda>" (X.env.qual ++ "<lambda>") params body scope (cloFrom X.env.cells scope.names []) pm c' ctv))
    hL.isList (by rw [List.length_map, hn]) (by rw [hn]; exact hz) (by have := hr.in1.in1.un; omega) (fun h' kp => ⟨I2.kept (t' := s2.toks) kp, kp _ _ hf⟩) (fun a1 kS h3 h4 i v kv s' Q' hv hk hJ go => ?_) (fun kS hk s' h' hJ kp => ?_) fun a1 kS s' h' tk out cc h3 h4 hJ kp na ko => ?_
  · obtain ⟨x, hx, rx⟩ : ∃ x, xs[i]? = some x ∧ RelV x v := by
      have il : i < xs.length := by
        have := (List.getElem?_eq_some_iff.mp hv).1
        omega
      obtain ⟨u', hu', ru'⟩ := rv.get (List.getElem?_eq_getElem il)
      rw [hv] at hu'
      cases hu'
      exact ⟨_, List.getElem?_eq_getElem il, ru'⟩
    rw [List.getElem?_map, hx] at hk
    obtain rfl : kk x = kv := Option.some.inj hk
    refine lamP_call sb hJ.1 L ha hJ.2 hco (fun _ => hbind _ _ _ _ _ _) rx (fun hr' => hbody _ _ _ _ hr') _ (hbd x (List.mem_of_getElem? hx)) fun y yv H' s'' I'' ry q kp fz => ?_
    obtain ⟨e1, e2⟩ := q
    subst e1
    subst e2
    refine go _ s'' ⟨I'', kp _ _ hJ.2 hfn hfr⟩ ry fun b o hb e => ?_
    rcases hb with rfl | rfl
    · exact kp _ _ e (nH h4) (nfr h4)
    · exact kp _ _ e (nH h3) (nfr h3)
  · refine ⟨hJ.1.turnedL (h' := h') (t' := s'.toks) (ch := [kS]) (fun b o hb e => kp b o (fun z => hb (by rw [z]; exact List.mem_singleton.mpr rfl)) e) fun b hb => ?_, kp _ _ (fne hk) hJ.2⟩
    rw [List.mem_singleton.mp hb]
    exact fpk hk
  · have ev := W.keyedOut_each (R := fun u x => RelV x u) (fun x => PyData.int (kk x)) (by rw [show (xs.map fun x => PyData.int (kk x)) = (xs.map kk).map PyData.int by rw [List.map_map]; rfl]; exact ko) (each_vals rv)
    rw [W.dataLe_int] at ev
    have I3 : Inv X pins σ H2 { s' with heap := h', toks := tk } := hJ.1.turnedL (ch := [a1, kS]) (fun b o hb e => kp b o (fun z => hb (by simp [z])) (fun z => hb (by simp [z])) e) fun b hb => by
      rcases List.mem_cons.mp hb with e | hb
      · rw [e]; exact fpk h3
      · rw [List.mem_singleton.mp hb]; exact fpk h4
    have vo := vals_each ev
    have lo : (xs.mergeSort fun a b => decide (kk a ≤ kk b)).length ≤ sizeLine := by rw [List.length_mergeSort]; exact hz
    have na' : h'.get? a1 = some { cls := .type "list", data := .seq out.toArray cc } := na
    exact ⟨.ref a1, _, Inv.take (s := { s' with heap := h', toks := tk }) (h' := h') (t' := tk) (it := a1) (o := .lst (xs.mergeSort fun a b => decide (kk a ≤ kk b))) I3 (fun _ _ _ e => e) (fpk h3) (by unfold ObjOk; exact ⟨lo, out, cc, vo, na'⟩), rfl, fin a1 (nH h3)⟩
end
end Own

/-! set(numbers) of a list; list(d.values()). -/
namespace Own
open PySem PySem.Spec PyProof.Rows L2
section
variable {prog : Program} {w : World} {A : Around} {E : Value → Shared → Prop} {s : Shared}
set_option maxHeartbeats 3200000 in
theorem ints_of_list {l : Addr} {its : Array Value} {ns : List Int} {Q : Value → Shared → Prop} (hh : A.handled = none) (hl : s.heap.IsList l its) (hi : PyProof.Rows.IntsAre its.toList ns) (small : ns.length < 1000)
    (h : ∀ (h' : Heap) (tk c : Nat), SetR w h' s.heap.objs.size (fun j => decide (j ∈ ns)) c → c ≤ ns.length → (∀ b o, b < s.heap.objs.size → s.heap.get? b = some o → h'.get? b = some o) → Q (.ref s.heap.objs.size) { s with heap := h', toks := tk }) :
    wpAny (model prog w) A (call (.type "set") [.ref l]) Q E s := by
  obtain ⟨c, tl, hmro⟩ := PySem.F.called_set.mro
  have hmade := PySem.F.called_set.made
  have hsub := PySem.F.called_set.sub
  refine wpAny_call (codeAny_of_tree (wpAny_pure ⟨Code.quiet_builtin _ (by decide +kernel), codeAny_builtin PySem.F.entry_type_call ?_⟩))
  rw [Around.under_plain (weight_type_call_type "set" [.ref l] []) rfl]
  have g1 := PySem.F.called_set.notType
  have g2 := PySem.F.called_set.canCreate
  have g3 := PySem.F.typeCall_set_1 (.ref l)
  repeat (any_goals (first | assumption | wp_step))
  -- the empty set is made
  generalize hled : (!w.params.followText "set-order") = led
  have made : ∀ {M : Value → Shared → Prop}, M (.ref s.heap.objs.size) { s with heap := s.heap.push { cls := .type "set", dict := none, data := .set #[] 0 (.fresh 0 0 led) } } → codeAny (model prog w) A.in1 (.call (.builtin "set.__new__") ⟨[.type "set", .ref l], []⟩) (wants M E) s := fun z => code_set_led1 (.ref l) (by rw [hled]; exact z)
  refine codeAny_mono (made (M := fun v s₁ => v = .ref s.heap.objs.size ∧ s₁ = { s with heap := s.heap.push { cls := .type "set", dict := none, data := .set #[] 0 (.fresh 0 0 led) } }) ⟨rfl, rfl⟩) ?_
  rintro (e | _ | _ | _ | v) s₁ z
  · exact z
  · exact z.elim
  · exact z.elim
  · exact z.elim
  · obtain ⟨rfl, rfl⟩ := z
    have at0 : (s.heap.push { cls := .type "set", dict := none, data := .set #[] 0 (.fresh 0 0 led) }).get? s.heap.objs.size = some { cls := .type "set", dict := none, data := .set #[] 0 (.fresh 0 0 led) } := Heap.get?_push_size _ rfl
    have ty : Shared.TypeIs { s with heap := s.heap.push { cls := .type "set", dict := none, data := .set #[] 0 (.fresh 0 0 led) } } (.ref s.heap.objs.size) "set" := ⟨_, at0, rfl⟩
    have g4 := PySem.F.called_set.init.lookup
    have g5 := PySem.F.called_set.init.bind (.ref s.heap.objs.size)
    repeat (any_goals (first | assumption | wp_step))
    -- and filled
    refine codeAny_mono (codeAny_call_builtin (R := wants (fun r s₂ => r = .none ∧ ∃ h' tk c, s₂ = { s with heap := h', toks := tk } ∧ SetR w h' s.heap.objs.size (fun j => decide (j ∈ ns)) c ∧ c ≤ ns.length ∧ (∀ b o, b < s.heap.objs.size → s.heap.get? b = some o → h'.get? b = some o)) E)
      PySem.F.called_set.init.plain PySem.F.entry_set_init (check_set_init_1 ty ?_)) ?_
    · obtain ⟨⟨cls, dd, dat, sl⟩, hol, hc, nl, hd⟩ := hl
      simp only at hc hd
      subst hc hd
      have old := Heap.lt_size hol
      have hol2 : (s.heap.push { cls := .type "set", dict := none, data := .set #[] 0 (.fresh 0 0 led) }).get? l = some { cls := .type "list", dict := dd, data := .seq its nl, slots := sl } := Heap.get?_push_of_some _ hol
      have hl2 : (s.heap.push { cls := .type "set", dict := none, data := .set #[] 0 (.fresh 0 0 led) }).IsList l its := ⟨_, hol2, rfl, nl, rfl⟩
      have f1 := PySem.F.sub_list_set
      have f2 := PySem.F.sub_list_frozenset
      have f3 : (Value.type "list" == Value.type "dict") = false := by decide
      unfold Builtin.«set.__init__» noKeywords Builtin.Frozenset.updateFrom
      generalize hit : pyIter = itf
      wp_walk
      subst hit
      refine wpAny_pyIter_list hl2 ?_
      refine wpAny_bind (wpAny_runValue ?_)
      have top : (s.heap.push { cls := .type "set", dict := none, data := .set #[] 0 (.fresh 0 0 led) }).objs.size = s.heap.objs.size + 1 := Heap.size_push ..
      have ne1 : l ≠ (s.heap.push { cls := .type "set", dict := none, data := .set #[] 0 (.fresh 0 0 led) }).objs.size := by rw [top]; exact Nat.ne_of_lt (Nat.lt_succ_of_lt old)
      have out : s.heap.objs.size ∉ [(s.heap.push { cls := .type "set", dict := none, data := .set #[] 0 (.fresh 0 0 led) }).objs.size, l] := by
        rw [top]
        intro m
        rcases List.mem_cons.mp m with e | m
        · exact absurd e (Nat.ne_of_lt (Nat.lt_succ_self _))
        · exact absurd (List.mem_singleton.mp m) (Nat.ne_of_gt old)
      have len : its.size = ns.length := by rw [← PyProof.Rows.IntsAre.length hi, Array.length_toList]
      have val : ∀ (i : Nat) (v : Value), its[i]? = some v → ∃ k t, ns[i]? = some k ∧ v = .int k t := fun i v hv => by
        have lt : i < ns.length := by rw [← len]; exact (Array.getElem?_eq_some_iff.mp hv).1
        obtain ⟨t, e⟩ := PyProof.Rows.IntsAre.int_at hi i v (by rw [Array.getElem?_toList]; exact hv)
        rw [List.getD_eq_getElem?_getD, List.getElem?_eq_getElem lt] at e
        exact ⟨ns[i], t, List.getElem?_eq_getElem lt, e⟩
      refine set_update_ints ((Walks.list (show A.in1.in1.in1.handled = none by simp [hh]) _ l ne1 its).toS) s.heap.objs.size out ns len (by show _ < 4096; omega) val (its.size - 0) 0 _ (by omega) (Nat.zero_le _) ⟨⟨_, Heap.get?_push_size _ rfl, rfl, rfl⟩, hl2.push _⟩ ⟨0, Nat.le_refl 0, setR_new_at ?_⟩ ?_
      · rw [hled]
        exact Heap.get?_push_of_some _ at0
      · rintro ⟨h', g', d', tk', os'⟩ c m hc hS'
        obtain rfl : g' = s.gens := m.gens
        obtain rfl : d' = s.drawn := m.drawn
        obtain rfl : os' = s.os := m.os
        refine wpAny_pure (wpAny_pure ⟨rfl, h', tk', c, rfl, hS', by omega, fun b o hb e => ?_⟩)
        refine m.heap b o (fun mm => ?_) (Heap.get?_push_of_some _ (Heap.get?_push_of_some _ e))
        rcases List.mem_cons.mp mm with e1 | mm
        · exact absurd e1 (Nat.ne_of_lt hb)
        · have e2 : b = (s.heap.push { cls := .type "set", dict := none, data := .set #[] 0 (.fresh 0 0 led) }).objs.size := List.mem_singleton.mp mm
          rw [top] at e2
          omega
    · rintro (e | _ | _ | _ | v) s₂ z
      · exact z
      · exact z.elim
      · exact z.elim
      · exact z.elim
      · obtain ⟨rfl, h', tk, c, rfl, hS', hc, kp⟩ := z
        repeat (any_goals (first | assumption | wp_step))
        exact h _ _ _ hS' hc kp
end
section
variable {X : Cx}
def rSetL (w : World) (K : PySem.W.Frag) : List V → Hp → VK → Prop := fun vs H Q => ∃ (l : Addr) (ns : List Int), vs = [.ref l] ∧ SqL K H l (ns.map V.int) ∧ ns.length < 1000 ∧
  ∀ (p : Addr) (c : Nat), H p = none → c ≤ ns.length → Q (.ref p) (upd H p (SetO w p (fun j => decide (j ∈ ns)) c))
/-- set(numbers) of a list -/
theorem cr_setL {w : World} (hc : X.calm = true) (hw : X.w = w) : CallR X (.type "set") (rSetL w X.K) := by
  subst hw
  intro pins s σ H vs us Q I r h
  obtain ⟨l, ns, rfl, hq, small, q⟩ := h
  rw [Vals.ref1 r]
  obtain ⟨its, rv, pl, _⟩ := I.list hq
  refine ints_of_list (I.ok.hd hc) pl.isList (by simpa using ints_of_vals rv) small fun h' tk c hS le kp => ?_
  have n := I.hok.fresh (Nat.le_refl s.heap.objs.size)
  exact ⟨.ref _, upd H s.heap.objs.size (SetO X.w s.heap.objs.size (fun j => decide (j ∈ ns)) c), I.laid (t' := tk) (fun b u e => kp b u (Heap.lt_size e) e) (Nat.le_refl _) (setO_new hS), rfl, q _ c n le⟩
theorem vals_snd : ∀ {kvs : List (Key × V)} {vs : List (Key × Value)}, KV kvs vs → Vals (kvs.map (·.2)) (vs.map (·.2))
  | _, _, .nil => .nil
  | _, _, .cons h t => .cons h.2 (vals_snd t)
variable {e : Expr} {te : TE} {p apos cpos pos : Pos}
def tListVals (te : TE) : TE := fun σ H Q => te σ H fun x H1 => ∃ (d : Addr) (kvs : List (Key × V)), x = .ref d ∧ H1 d = some (.dK kvs) ∧ ∀ l, H1 l = none → Q (.ref l) (upd H1 l (.lst (kvs.map (·.2))))
/-- list(e.values()) -/
theorem pe_listVals (hc : X.calm = true) (he : PE X e te) (hg : Gl X "list") (hm : X.mg "list" = none) (hv : bootBuiltins "list" = some (.type "list")) (hbase : attributeBase e "values" X.env (eval e X.env) = eval e X.env := by rfl) (hline : (apos.endLine == cpos.line) = true := by rfl)
    (hs : starEach [.Call (.Attribute e "values" apos) [] [] cpos] X.env = (false, eval (.Call (.Attribute e "values" apos) [] [] cpos) X.env) :: starEach [] X.env := by rfl) :
    PE X (.Call (.Name "list" p) [.Call (.Attribute e "values" apos) [] [] cpos] [] pos) (tListVals te) := by
  refine ⟨fun pins s σ H Q I z => wpAny_Call_Name_kw (ld_blt I hg hm hv (PyProof.Rows.callWith_type1 ?_ hs rfl))⟩
  rw [hs]
  refine Calls.spliced_cons (wpAny_Call_method (T := "dict") (id := "dict.values") hbase rfl hline PySem.F.plainAttrs_dict PySem.F.slot_dict_values PySem.F.type_dict_values (thn (he.run pins s σ H _ I z) ?_))
  rintro u s1 ⟨x, H1, I1, rx, d, kvs, rfl, hd, q⟩
  cases rx
  obtain ⟨len, notMods, vs, kv, isDict⟩ := I1.hok d _ hd
  obtain ⟨ep, stands⟩ := isDict.dictAt
  have same : kvs.length = vs.length := Paired.length kv
  refine ⟨isDict.typeIs, isDict.mapOf.noDict, method_meetsIn PySem.F.slot_dict_values PySem.F.entry_dict_values rfl (PySem.evalArgs_none ⟨rfl, isDict.typeIs, PySem.F.args_dict_values_1 _, _, meets_dict_values (mixKind X.prog X.w) d notMods, ⟨vs, isDict⟩, Calls.spliced_nil ?_⟩)⟩
  have J : Inv X pins σ H1 { s1 with heap := s1.heap.push { cls := .type "dict_values", data := .fields #[.ref d] } } := I1.kept (t' := s1.toks) fun _ _ there => Heap.get?_push_of_some _ there
  refine PySem.W.kdl_call (PySem.W.kdl_values (knd := mixKind X.prog X.w) (kvs := vs) (ep := ep) (r := s1.heap.objs.size) (d := d)) (I1.ok.hd hc) ⟨⟨_, Heap.get?_push_size _ rfl, rfl, rfl⟩, stands.push _⟩ (by omega) fun h' tk acc c' kp at0 its => ?_
  have all : acc.toList = vs.map (·.2) := PySem.W.kdl_vals_eq acc.toList (by rw [Array.length_toList]; exact its.1) fun j v e => its.2 j v (by rw [← Array.getElem?_toList]; exact e)
  refine ⟨.ref _, upd H1 _ (.lst (kvs.map (·.2))), J.laid (t' := tk) kp (Nat.le_refl _) ⟨by rw [List.length_map]; exact len, acc.toList, c', by rw [all]; exact vals_snd kv, ?_⟩, rfl, q _ (J.hok.fresh (Nat.le_refl _))⟩
  rw [Array.toArray_toList]
  exact at0
end
end Own

/-! for k, v in d.items(), d a dict whose keys are tuples. -/
namespace Own
open PySem PySem.Spec PyProof.Rows L2
/-- the pairs of the locked dict at d, each a new tuple of the key's own tuple and the value -/
def Itit (d : Addr) (o : Obj) (kvs : List (List Key × V)) : It :=
  ⟨fun i H => H d = some (.frz o (.dT kvs)) ∧ i < kvs.length, fun i H x H' => ∃ T q k v, kvs[i]? = some (k, v) ∧ x = .ref T ∧ H T = none ∧ H q = some (.tup (k.map kV)) ∧ H' = upd H T (.tup [.ref q, v]), fun i H => H d = some (.frz o (.dT kvs)) ∧ kvs.length ≤ i⟩
def iItemsT (td : TE) : TI := fun σ H R => td σ H fun x H1 => ∃ d o kvs, x = .ref d ∧ H1 d = some (.frz o (.dT kvs)) ∧ R (Itit d o kvs) H1
section
variable {X : Cx} {pins : List (Addr × Obj)} {σ : L2.St} {H : Hp} {s : Shared} {d : Addr} {o : Obj}
theorem frz_pairs {kvs : List (List Key × V)} (I : Inv X pins σ H s) (h : H d = some (.frz o (.dT kvs))) :
    (d == sysModules) = false ∧ ∃ (es : Array DictEntry) (ep : Nat), s.heap.get? d = some o ∧ o.ExactDict ∧ o.data = .dict es ep ∧ es.size = kvs.length ∧
      ∀ (i : Nat) (k : List Key) (v : V), kvs[i]? = some (k, v) → ∃ (en : DictEntry) (q : Addr), es[i]? = some en ∧ en.key = .ref q ∧ H q = some (.tup (k.map kV)) ∧ RelV v en.val := by
  obtain ⟨hd, z, hs, xs, pr, o', es, ep, ho, hx, hdt, he, _⟩ := I.hok d _ h
  rw [hd] at ho
  cases ho
  refine ⟨hs, es, ep, hd, hx, hdt, ?_, fun i k v e => ?_⟩
  · have := size_of_entries he
    have l2 : kvs.length = xs.length := Paired.length pr
    omega
  · obtain ⟨b, hb, e1, e2, e3⟩ := paired_get pr e
    have q := entry_at he i
    rw [hb] at q
    exact ⟨_, b.2.1, q, rfl, e2, e3⟩
end
section
variable {P : Program} {w : World} {K : PySem.W.Frag} {d : Addr} {o : Obj} {es : Array DictEntry} {ep : Nat}
theorem turn_itemsT {kvs : List (List Key × V)} {elts : List Expr} {kk : Nat} {tpos : Pos} (it : Addr) (hod : o.data = .dict es ep) :
    Turn P w K (.Tuple elts kk tpos) (Itit d o kvs) [it] it (fun i h => ∃ ok ov, IsItemIter h it d i kvs.length ep ok ov) where
  mem := by simp
  obj := fun i h st b hb => by
    obtain rfl : b = it := by simpa using hb
    obtain ⟨ok, ov, e⟩ := st
    exact ⟨_, e, fun v z => nomatch z⟩
  keep := fun i h h' ⟨ok, ov, e⟩ k => ⟨ok, ov, k it (by simp) _ e⟩
  item := by
    intro X hP hw hK hc i pins s σ H E I hf st hg
    subst hP hw hK
    obtain ⟨hd, hi⟩ := hg
    obtain ⟨hs, es', ep', hgd, hx, hdt, hsz, ent⟩ := frz_pairs I hd
    obtain ⟨rfl, rfl⟩ := dict_ep hod hdt
    obtain ⟨⟨k, v⟩, hkv⟩ : ∃ p, kvs[i]? = some p := ⟨kvs[i], List.getElem?_eq_getElem hi⟩
    obtain ⟨en, q, hen, hkey, hq, rv⟩ := ent i k v hkv
    obtain ⟨ok, ov, he⟩ := st
    have hlt : it < s.heap.objs.size := Heap.lt_size he
    have il : i < es'.size := by omega
    rw [← hsz] at he
    have ee : es'[i] = en := by
      rw [Array.getElem?_eq_getElem il] at hen
      exact Option.some.inj hen
    refine DT.nextI he ⟨o, hgd, hx, hdt⟩ il fun h' ho hT hz hk => ?_
    refine ⟨_, rfl, wpAny_letOwnedTupleGo_items (s := { s with heap := h' }) ho fun h'' he' sb => ?_⟩
    have hT2 : h''.get? s.heap.objs.size = some { cls := .type "tuple", data := .seq #[es'[i].key, es'[i].val] } := (sb.2 _ (Nat.ne_of_gt hlt)).trans hT
    have qlt : q ≠ s.heap.objs.size := fun e => by
      have := I.hok.fresh (Nat.le_refl s.heap.objs.size)
      rw [← e, hq] at this
      cases this
    have new : ObjOk X.prog X.w (upd H s.heap.objs.size (.tup [.ref q, v])) h'' s.heap.objs.size (.tup [.ref q, v]) :=
      ⟨by show 2 ≤ sizeLine; decide, [es'[i].key, es'[i].val], .cons (by rw [ee, hkey]; rfl) (.cons (by rw [ee]; exact rv) .nil), ⟨_, hT2, rfl, _, rfl⟩⟩
    have I1 : Inv X pins σ (upd H s.heap.objs.size (.tup [.ref q, v])) { s with heap := h'' } :=
      I.turnedNew (t' := s.toks) (ch := [it]) (fun b ob hb e => (sb.2 b (by simpa using hb)).trans (hk b ob (by simpa using hb) e)) hf (Nat.le_refl _) new
    refine ⟨.ref s.heap.objs.size, _, I1, rfl, ⟨_, q, k, v, hkv, rfl, I.hok.fresh (Nat.le_refl _), hq, rfl⟩, ⟨es'[i].key, es'[i].val, ?_⟩, fun b hb => ?_⟩
    · rw [← hsz]
      exact he'
    · obtain rfl : b = it := by simpa using hb
      rw [upd_ne (Nat.ne_of_lt hlt)]
      exact (hf b (by simp)).1
  done := by
    intro X hP hw hK hc i pins s σ H E I hf st hg
    subst hP hw hK
    obtain ⟨hd, hi⟩ := hg
    obtain ⟨f0, f1, f2, f3, f4, f5⟩ := hf it (by simp)
    obtain ⟨hs, es', ep', hgd, hx, hdt, hsz, ent⟩ := frz_pairs I hd
    obtain ⟨rfl, rfl⟩ := dict_ep hod hdt
    obtain ⟨ok, ov, he⟩ := st
    rw [← hsz] at he
    exact DT.endI (I.ok.hd hc) he ⟨o, hgd, hx, hdt⟩ (by omega) fun h' eb => ⟨rfl, I.turned (t' := s.toks) (fun b ob hb e => eb b ob hb e) f0 f1 f3 f4 f5⟩
  self := fun A i s Q E st h => let ⟨_, _, e⟩ := st; PySem.W.kcp_self e h
end
section
variable {X : Cx} {e : Expr} {td : TE} {apos cpos : Pos}
theorem pi_itemsT {elts : List Expr} {kk : Nat} {tpos : Pos} (he : PE X e td) (hbase : attributeBase e "items" X.env (eval e X.env) = eval e X.env := by rfl) (hline : (apos.endLine == cpos.line) = true := by rfl) :
    PI X (.Tuple elts kk tpos) (.Call (.Attribute e "items" apos) [] [] cpos) (iItemsT td) := by
  refine ⟨fun pins s σ H R I h => ?_⟩
  refine wpAny_Call_method (T := "dict") (id := "dict.items") hbase rfl hline F.plainAttrs_dict F.slot_dict_items F.type_dict_items (thn (he.run pins s σ H _ I h) fun u s1 ⟨x, H1, I1, rx, d, o, kvs, ex, hd, q⟩ => ?_)
  subst ex
  obtain rfl : u = Value.ref d := rx
  obtain ⟨hs, es, ep, hgd, hx, hdt, hsz, ent⟩ := frz_pairs I1 hd
  have raw : DT.Raw s1.heap d es ep := ⟨o, hgd, hx, hdt⟩
  refine ⟨raw.typeIs, fun a e => (by cases e; exact ⟨o, hgd, hx.2.1⟩), ?_⟩
  have I2 : Inv X pins σ H1 { s1 with heap := s1.heap.push { cls := .type "dict_items", data := .fields #[.ref d] } } := I1.kept (t' := s1.toks) fun b ob q => Heap.get?_push_of_some _ q
  have fin : wpAny (model X.prog X.w) X.A (pyIter (.ref s1.heap.objs.size)) (PIE X pins σ (.Tuple elts kk tpos) R) X.xe { s1 with heap := s1.heap.push { cls := .type "dict_items", data := .fields #[.ref d] } } := by
    refine DT.iterI (d := d) ⟨_, Heap.get?_push_size _ rfl, rfl, rfl⟩ (raw.push _) (pi_one (tk := s1.toks) I2 _ (turn_itemsT _ hdt) ⟨.none, .none, ?_⟩ q)
    rw [← hsz]
    exact Heap.get?_push_size _ rfl
  show wpAny _ _ (callWith cpos (.builtin "dict.items") [.ref d] [] []) _ X.xe s1
  exact method_meetsIn F.slot_dict_items F.entry_dict_items rfl (PySem.evalArgs_none ⟨rfl, raw.typeIs, F.args_dict_items_1 _, _, DT.meetsItems (es := es) (ep := ep) hs, ⟨raw, fin⟩⟩)
end
theorem walk_itemsT {d : Addr} {o : Obj} {kvs : List (List Key × V)} : Walk (Itit d o kvs) kvs.length (fun H => H d = some (.frz o (.dT kvs)))
    (fun i H x H' => ∃ T q k v, kvs[i]? = some (k, v) ∧ x = .ref T ∧ H T = none ∧ H q = some (.tup (k.map kV)) ∧ H' = upd H T (.tup [.ref q, v])) :=
  ⟨fun _ _ hi q => ⟨q, hi⟩, fun _ q => ⟨q, Nat.le_refl _⟩, fun _ _ _ _ _ _ y => y⟩
end Own

/-! len(set(xs)) of any whole numbers: as many as xs has just where they are unlike. -/
namespace Own
open PySem PySem.Spec PyProof.Rows L2
theorem first_of (ns : List Int) : ∀ i, i ≤ ns.length → (PyProof.Rows.firstMet (fun i => ns.getD i 0) i).length ≤ i ∧ (∀ x, x ∈ PyProof.Rows.firstMet (fun i => ns.getD i 0) i ↔ x ∈ ns.take i) ∧ ((PyProof.Rows.firstMet (fun i => ns.getD i 0) i).length = i ↔ (ns.take i).Nodup)
  | 0, _ => by
    rw [List.take_zero]
    exact ⟨Nat.le_refl _, fun x => Iff.rfl, fun _ => List.nodup_nil, fun _ => rfl⟩
  | i + 1, h => by
    obtain ⟨h1, h2, h3⟩ := first_of ns i (by omega)
    have hx : ns[i]? = some ns[i] := List.getElem?_eq_getElem h
    have e0 : ns.getD i 0 = ns[i] := by rw [List.getD_eq_getElem?_getD, hx] <;> rfl
    have et : ns.take (i + 1) = ns.take i ++ [ns[i]] := by rw [List.take_add_one, hx] <;> rfl
    rw [PyProof.Rows.firstMet_succ, et]
    rw [e0]
    show (if (PyProof.Rows.firstMet (fun i => ns.getD i 0) i).any (· == ns[i]) then PyProof.Rows.firstMet (fun i => ns.getD i 0) i else PyProof.Rows.firstMet (fun i => ns.getD i 0) i ++ [ns[i]]).length ≤ i + 1 ∧ (∀ x, x ∈ (if (PyProof.Rows.firstMet (fun i => ns.getD i 0) i).any (· == ns[i]) then PyProof.Rows.firstMet (fun i => ns.getD i 0) i else PyProof.Rows.firstMet (fun i => ns.getD i 0) i ++ [ns[i]]) ↔ x ∈ ns.take i ++ [ns[i]]) ∧ ((if (PyProof.Rows.firstMet (fun i => ns.getD i 0) i).any (· == ns[i]) then PyProof.Rows.firstMet (fun i => ns.getD i 0) i else PyProof.Rows.firstMet (fun i => ns.getD i 0) i ++ [ns[i]]).length = i + 1 ↔ (ns.take i ++ [ns[i]]).Nodup)
    by_cases c : ns[i] ∈ ns.take i
    · have cy : ((PyProof.Rows.firstMet (fun i => ns.getD i 0) i).any fun x => x == ns[i]) = true := List.any_eq_true.mpr ⟨_, (h2 _).mpr c, beq_self_eq_true _⟩
      rw [if_pos cy]
      refine ⟨by omega, fun x => ?_, fun e => by omega, fun n => ?_⟩
      · rw [h2 x, List.mem_append, List.mem_singleton]
        exact ⟨.inl, fun k => k.elim id fun e => by rw [e]; exact c⟩
      · exact absurd rfl ((List.nodup_append.mp n).2.2 _ c _ List.mem_cons_self)
    · have cn : ¬ ((PyProof.Rows.firstMet (fun i => ns.getD i 0) i).any fun x => x == ns[i]) = true := fun k => by
        obtain ⟨x, mx, e⟩ := List.any_eq_true.mp k
        exact c (by rw [← eq_of_beq e]; exact (h2 x).mp mx)
      rw [if_neg cn]
      refine ⟨by rw [List.length_append]; show _ + 1 ≤ _; omega, fun x => ?_, fun e => ?_, fun n => ?_⟩
      · rw [List.mem_append, List.mem_append, h2 x]
      · rw [List.length_append] at e
        have e : (PyProof.Rows.firstMet (fun i => ns.getD i 0) i).length + 1 = i + 1 := e
        exact List.nodup_append.mpr ⟨h3.mp (by omega), by simp, fun a ha b hb e => c (by rw [← List.mem_singleton.mp hb, ← e]; exact ha)⟩
      · rw [List.length_append, h3.mpr (List.nodup_append.mp n).1] <;> rfl
section
variable {X : Cx}
def tUnlikeI (K : PySem.W.Frag) (ta : TE) : TE := fun σ H Q => ta σ H fun x H1 => ∃ (l : Addr) (ns : List Int), x = V.ref l ∧ SqL K H1 l (ns.map V.int) ∧ ns.length < 64 ∧ ∀ m : Nat, (m = ns.length ↔ ns.Nodup) → Q (.int (m : Int)) H1
theorem pe_unlikeI {a : Expr} {ta : TE} {p p2 q pos : Pos} (hc : X.calm = true) (hg : Gl X "len") (hm : X.mg "len" = none) (hg2 : Gl X "set") (hm2 : X.mg "set" = none) (ha : PE X a ta)
    (na : starEach [a] X.env = (false, eval a X.env) :: starEach [] X.env := by rfl) : PE X (.Call (.Name "len" p) [.Call (.Name "set" p2) [a] [] q] [] pos) (tUnlikeI X.K ta) := by
  refine ⟨fun pins s σ H Q I h => Call_ (ld_blt I hg hm PySem.boot_len ?_)⟩
  refine PyProof.Rows.callWith_builtin1 (PyProof.Rows.args_cons (Call_ (ld_blt I hg2 hm2 PyProof.Rows.boot_set ?_)) rfl) rfl rfl
  refine PyProof.Rows.callWith_type1 (PyProof.Rows.args_cons (thn (ha.run pins s σ H _ I h) fun v s1 ⟨x, H1, I1, r1, q1⟩ => PyProof.Rows.args_nil ?_) na) na rfl
  obtain ⟨l, ns, rfl, hq, h1, q1⟩ := q1
  cases r1
  obtain ⟨its, r, pl, hz⟩ := I1.list hq
  have hl : its.toArray.size = ns.length := by rw [List.size_toArray, ← r.length, List.length_map]
  refine call_set_list (I1.ok.hd hc) pl.isList (ns := ns) (by simpa using r.ints) (by unfold scanBound; omega) fun h' tk hS hk => ?_
  rw [hl] at hS
  obtain ⟨f1, _, f3⟩ := first_of ns ns.length (Nat.le_refl _)
  rw [List.take_length] at f3
  refine PyProof.Rows.args_nil ?_
  obtain ⟨o, es, ep, t, ho, hex, hd, _, _, _, hf, hn⟩ := hS
  have I2 : Inv X pins σ H1 { s1 with heap := h', toks := tk } := I1.kept fun b o e => hk b o (Heap.lt_size e) e
  exact call_len_set ho hex hd hf (by rw [hn] <;> omega) ⟨.int ((PyProof.Rows.firstMet (fun i => ns.getD i 0) ns.length).length : Nat), H1, I2.tok _, ⟨_, by rw [hn]⟩, q1 _ f3⟩
end
end Own

/-! The law's own def, as the judge calls it: there nothing is being shown, so repr of data is told in full. -/
namespace Own
open PySem PySem.Spec PyProof.Rows L2
/-- a promise of the law's def at that one call -/
def TopOk (P : Program) (w : World) (K : PySem.W.Frag) (mg : Str → Option Value) (base : Heap) (f : Addr) (fd : FuncData) (x : Str) (sp : Sp) : Prop :=
  ∀ (s : Shared) (H : Hp) (v : V) (u : Value) (Q : VK), Env0 P w K mg base callerA [] s H → BindsTo s fd ⟨[u], []⟩ [(x, u)] → RelV v u → sp [v] H Q E0 →
    codeAny (model P w) callerA (.call (.ref f) ⟨[u], []⟩) (CR CX0 [] P w H s Q E0) s
section
variable {P : Program} {w : World} {K : PySem.W.Frag} {mg : Str → Option Value} {base : Heap} {f : Addr} {fd : FuncData} {x name qual : Str} {st : Stmt} {N : List Str} {k : Nat} {sp : Sp}
end
section
variable {X : Cx}
end
end Own

/-! A def in which data is shown by repr: its promise holds where nothing is being shown yet. The law's own call, with the tables of code objects. -/
namespace Own
open PySem PySem.Spec PyProof.Rows L2
/-- a def's promise where nothing is being shown -/
structure FnOkG (P : Program) (w : World) (K : PySem.W.Frag) (mg : Str → Option Value) (base : Heap) (CX : CXT) (k : Nat) (f : Addr) (fd : FuncData) (ps : List Str) (sp : Sp) : Prop where
  len : ∀ vs H Q E, sp vs H Q E → vs.length = ps.length
  run : ∀ (A : Around) (outer : List Env) (s : Shared) (H : Hp) (args : Args) (us : List Value) (vs : List V) (Q : VK) (E : XK), A.guards = some [] → Room k A → Env0 P w K mg base A outer s H → BindsTo s fd args (ps.zip us) → Vals vs us → sp vs H Q E →
    codeAny (model P w) A (.call (.ref f) args) (CR CX outer P w H s Q E) s
section
variable {P : Program} {w : World} {K : PySem.W.Frag} {mg : Str → Option Value} {base : Heap}
end
section
variable {X : Cx} {CX : CXT} {k : Nat} {f : Addr} {fd : FuncData} {ps : List Str} {sp : Sp} {x : Str} {p pos : Pos} {e : Expr} {es : List Expr} {t : TA} {ds : List Value} {dvs : List V}
end
end Own

/-! Law k46 over the landed papers: by hand, over the layer. -/
namespace Own
open PySem PySem.Spec PyProof.Rows L2
/-! ### the text -/
/-- the k-th block of a statement -/
def blkOf (s : Stmt) (k : Nat) : List Stmt := match s with
  | .If _ a b _ => if k = 0 then a else b
  | .For _ _ a _ _ => a
  | .While _ a _ _ => a
  | .Try a hs _ _ _ => match k, hs with
    | 0, _ => a
    | j + 1, hs => match hs[j]? with
      | some (.ExceptHandler _ _ b _) => b
      | none => []
  | _ => []
abbrev noE : Expr := .Constant .none 0 ⟨0, 0, 0, 0⟩
/-- a statement's own expression; the k-th part of an expression -/
def rootE (s : Stmt) : Expr := match s with
  | .Assign _ v _ => v
  | .Return (some v) _ => v
  | .Expr v _ => v
  | .AugAssign _ _ v _ => v
  | .If t _ _ _ => t
  | .While t _ _ _ => t
  | .For _ i _ _ _ => i
  | _ => noE
def subE (e : Expr) (k : Nat) : Expr := match e with
  | .BinOp a _ b _ => if k = 0 then a else b
  | .BoolOp _ vs _ => vs.getD k noE
  | .UnaryOp _ a _ => a
  | .Compare a _ cs _ => (a :: cs).getD k noE
  | .Call f as kws _ => (f :: (as ++ kws.map (·.value))).getD k noE
  | .Attribute a _ _ => a
  | .Subscript a b _ => if k = 0 then a else b
  | .Tuple es _ _ => es.getD k noE
  | .List es _ => es.getD k noE
  | .IfExp c a b _ => [c, a, b].getD k noE
  | .Slice a b c _ => ([a, b, c].getD k none).getD noE
  | .ListComp a gs _ _ => match gs with
    | g :: _ => ([a, g.iter, g.target] ++ g.ifs).getD k noE
    | [] => noE
  | .DictComp a b gs _ _ => match gs with
    | g :: _ => ([a, b, g.iter, g.target] ++ g.ifs).getD k noE
    | [] => noE
  | _ => noE
def lcScope (e : Expr) : Scope := match e with
  | .ListComp _ _ sc _ => sc
  | .DictComp _ _ _ sc _ => sc
  | _ => { kind := .function, names := [], isGenerator := false, isCoroutine := false }
def lcG (e : Expr) (k : Nat) : Comprehension := match e with
  | .ListComp _ gs _ _ => gs.getD k ⟨noE, noE, [], 0⟩
  | .DictComp _ _ gs _ _ => gs.getD k ⟨noE, noE, [], 0⟩
  | _ => ⟨noE, noE, [], 0⟩
def lcIfs (e : Expr) : List Expr := match e with
  | .ListComp _ (g :: _) _ _ => g.ifs
  | .DictComp _ _ (g :: _) _ _ => g.ifs
  | _ => []
def topS (i : Nat) : Stmt := PySem.Challenge.pw_voicefold_k46_whole_orders_that_stand_ha.main.body.getD i (.Pass ⟨0, 0, 0, 0⟩)
abbrev s_PollError_init : Stmt := inClass (topS 2) 0
theorem sc_PollError_init : FnScope ["self", "why"] ["self", "why"] (defScope s_PollError_init) := ⟨rfl, rfl, rfl, by decide +kernel, rfl, by decide +kernel, by decide +kernel⟩
abbrev s_is_whole : Stmt := topS 7
theorem sc_is_whole : FnScope ["thing"] ["thing"] (defScope s_is_whole) := ⟨rfl, rfl, rfl, by decide +kernel, rfl, by decide +kernel, by decide +kernel⟩
abbrev s_is_name : Stmt := topS 8
theorem sc_is_name : FnScope ["thing", "sign"] ["thing"] (defScope s_is_name) := ⟨rfl, rfl, rfl, by decide +kernel, rfl, by decide +kernel, by decide +kernel⟩
abbrev s_is_tuple_of : Stmt := topS 9
theorem sc_is_tuple_of : FnScope ["thing", "many"] ["thing", "many"] (defScope s_is_tuple_of) := ⟨rfl, rfl, rfl, by decide +kernel, rfl, by decide +kernel, by decide +kernel⟩
abbrev s_are_names : Stmt := topS 13
theorem sc_are_names : FnScope ["thing", "name"] ["thing"] (defScope s_are_names) := ⟨rfl, rfl, rfl, by decide +kernel, rfl, by decide +kernel, by decide +kernel⟩
abbrev s_are_options : Stmt := topS 14
theorem sc_are_options : FnScope ["thing"] ["thing"] (defScope s_are_options) := ⟨rfl, rfl, rfl, by decide +kernel, rfl, by decide +kernel, by decide +kernel⟩
abbrev s_is_option : Stmt := topS 15
theorem sc_is_option : FnScope ["options", "thing"] ["options", "thing"] (defScope s_is_option) := ⟨rfl, rfl, rfl, by decide +kernel, rfl, by decide +kernel, by decide +kernel⟩
abbrev s_are_unlike_options : Stmt := topS 16
theorem sc_are_unlike_options : FnScope ["options", "names", "name"] ["options", "names"] (defScope s_are_unlike_options) := ⟨rfl, rfl, rfl, by decide +kernel, rfl, by decide +kernel, by decide +kernel⟩
abbrev s_is_mark : Stmt := topS 20
theorem sc_is_mark : FnScope ["thing"] ["thing"] (defScope s_is_mark) := ⟨rfl, rfl, rfl, by decide +kernel, rfl, by decide +kernel, by decide +kernel⟩
abbrev s_are_tiers : Stmt := topS 18
theorem sc_are_tiers : FnScope ["options", "told", "tier", "name"] ["options", "told"] (defScope s_are_tiers) := ⟨rfl, rfl, rfl, by decide +kernel, rfl, by decide +kernel, by decide +kernel⟩
abbrev s_are_marks : Stmt := topS 19
theorem sc_are_marks : FnScope ["options", "told", "pair"] ["options", "told"] (defScope s_are_marks) := ⟨rfl, rfl, rfl, by decide +kernel, rfl, by decide +kernel, by decide +kernel⟩
abbrev s_is_ballot : Stmt := topS 17
theorem sc_is_ballot : FnScope ["options", "thing", "form", "told"] ["options", "thing"] (defScope s_is_ballot) := ⟨rfl, rfl, rfl, by decide +kernel, rfl, by decide +kernel, by decide +kernel⟩
abbrev s_is_row : Stmt := topS 49
theorem sc_is_row : FnScope ["options", "thing"] ["options", "thing"] (defScope s_is_row) := ⟨rfl, rfl, rfl, by decide +kernel, rfl, by decide +kernel, by decide +kernel⟩
abbrev s_check_poll : Stmt := topS 48
theorem sc_check_poll : FnScope ["options", "voices", "row"] ["options", "voices"] (defScope s_check_poll) := ⟨rfl, rfl, rfl, by decide +kernel, rfl, by decide +kernel, by decide +kernel⟩
abbrev s_Poll_init : Stmt := inClass (topS 47) 0
theorem sc_Poll_init : FnScope ["self", "options", "voices"] ["self", "options", "voices"] (defScope s_Poll_init) := ⟨rfl, rfl, rfl, by decide +kernel, rfl, by decide +kernel, by decide +kernel⟩
abbrev s_order_ranks : Stmt := topS 22
theorem sc_order_ranks : FnScope ["options", "told", "found", "at", "tier", "name"] ["options", "told"] (defScope s_order_ranks) := ⟨rfl, rfl, rfl, by decide +kernel, rfl, by decide +kernel, by decide +kernel⟩
abbrev s_ranks : Stmt := topS 21
theorem sc_ranks : FnScope ["options", "ballot", "form", "told", "marks", "name", "mark"] ["options", "ballot"] (defScope s_ranks) := ⟨rfl, rfl, rfl, by decide +kernel, rfl, by decide +kernel, by decide +kernel⟩
abbrev s_tiers : Stmt := topS 23
theorem sc_tiers : FnScope ["options", "ballot", "rank", "levels", "level", "name"] ["options", "ballot"] (defScope s_tiers) := ⟨rfl, rfl, rfl, by decide +kernel, rfl, by decide +kernel, by decide +kernel⟩
abbrev s_ranked : Stmt := topS 26
theorem sc_ranked : FnScope ["poll", "ballot", "many"] ["poll"] (defScope s_ranked) := ⟨rfl, rfl, rfl, by decide +kernel, rfl, by decide +kernel, by decide +kernel⟩
abbrev s_margin_by : Stmt := topS 27
theorem sc_margin_by : FnScope ["rows", "one", "other", "found", "rank", "many"] ["rows", "one", "other"] (defScope s_margin_by) := ⟨rfl, rfl, rfl, by decide +kernel, rfl, by decide +kernel, by decide +kernel⟩
abbrev s_margins : Stmt := topS 25
theorem sc_margins : FnScope ["poll", "rows", "one", "other"] ["poll"] (defScope s_margins) := ⟨rfl, rfl, rfl, by decide +kernel, rfl, by decide +kernel, by decide +kernel⟩
abbrev s_others_than : Stmt := topS 41
theorem sc_others_than : FnScope ["poll", "one", "other"] ["poll", "one"] (defScope s_others_than) := ⟨rfl, rfl, rfl, by decide +kernel, rfl, by decide +kernel, by decide +kernel⟩
abbrev s_leader : Stmt := topS 39
theorem sc_leader : FnScope ["poll", "held", "one", "other"] ["poll"] (defScope s_leader) := ⟨rfl, rfl, rfl, by decide +kernel, rfl, by decide +kernel, by decide +kernel⟩
abbrev s_trailer : Stmt := topS 40
theorem sc_trailer : FnScope ["poll", "held", "one", "other"] ["poll"] (defScope s_trailer) := ⟨rfl, rfl, rfl, by decide +kernel, rfl, by decide +kernel, by decide +kernel⟩
abbrev s_unlost_ways : Stmt := topS 43
theorem sc_unlost_ways : FnScope ["poll", "held", "start", "found", "fresh", "here", "there"] ["poll", "held", "start"] (defScope s_unlost_ways) := ⟨rfl, rfl, rfl, by decide +kernel, rfl, by decide +kernel, by decide +kernel⟩
abbrev s_top_lot : Stmt := topS 42
theorem sc_top_lot : FnScope ["poll", "held", "one"] ["poll"] (defScope s_top_lot) := ⟨rfl, rfl, rfl, by decide +kernel, rfl, by decide +kernel, by decide +kernel⟩
abbrev s_is_order : Stmt := topS 29
theorem sc_is_order : FnScope ["options", "thing"] ["options", "thing"] (defScope s_is_order) := ⟨rfl, rfl, rfl, by decide +kernel, rfl, by decide +kernel, by decide +kernel⟩
abbrev s_check_order : Stmt := topS 30
theorem sc_check_order : FnScope ["options", "order"] ["options", "order"] (defScope s_check_order) := ⟨rfl, rfl, rfl, by decide +kernel, rfl, by decide +kernel, by decide +kernel⟩
abbrev s_order_of_ties : Stmt := topS 31
theorem sc_order_of_ties : FnScope ["options", "ties"] ["options", "ties"] (defScope s_order_of_ties) := ⟨rfl, rfl, rfl, by decide +kernel, rfl, by decide +kernel, by decide +kernel⟩
abbrev s_led_to : Stmt := topS 35
theorem sc_led_to : FnScope ["kept", "start", "found", "at", "one", "other"] ["kept", "start"] (defScope s_led_to) := ⟨rfl, rfl, rfl, by decide +kernel, rfl, by decide +kernel, by decide +kernel⟩
abbrev s_kept_pairs : Stmt := topS 34
theorem sc_kept_pairs : FnScope ["order", "held", "pairs", "kept", "one", "other"] ["order", "held"] (defScope s_kept_pairs) := ⟨rfl, rfl, rfl, by decide +kernel, rfl, by decide +kernel, by decide +kernel⟩
abbrev s_pairs_order : Stmt := topS 33
theorem sc_pairs_order : FnScope ["poll", "ties", "left", "kept", "found", "free", "option", "above"] ["poll", "ties"] (defScope s_pairs_order) := ⟨rfl, rfl, rfl, by decide +kernel, rfl, by decide +kernel, by decide +kernel⟩
abbrev s_stands_ahead : Stmt := topS 37
theorem sc_stands_ahead : FnScope ["order", "held", "first", "reach", "at", "there", "by_others", "here"] ["order", "held"] (defScope s_stands_ahead) := ⟨rfl, rfl, rfl, by decide +kernel, rfl, by decide +kernel, by decide +kernel⟩
abbrev s_shows_stands : Stmt := topS 36
theorem sc_shows_stands : FnScope ["poll", "order", "held", "at"] ["poll", "order"] (defScope s_shows_stands) := ⟨rfl, rfl, rfl, by decide +kernel, rfl, by decide +kernel, by decide +kernel⟩
abbrev s_law_cell_at : Stmt := topS 52
theorem sc_law_cell_at : FnScope ["_law_script", "_law_k"] ["_law_script", "_law_k"] (defScope s_law_cell_at) := ⟨rfl, rfl, rfl, by decide +kernel, rfl, by decide +kernel, by decide +kernel⟩
abbrev s_law_well : Stmt := topS 53
theorem sc_law_well : FnScope ["_law_cell"] ["_law_cell"] (defScope s_law_well) := ⟨rfl, rfl, rfl, by decide +kernel, rfl, by decide +kernel, by decide +kernel⟩
abbrev s_law_draw : Stmt := topS 54
theorem sc_law_draw : FnScope ["_law_well_here", "_law_size", "_law_found", "_law_mixed"] ["_law_well_here", "_law_size"] (defScope s_law_draw) := ⟨rfl, rfl, rfl, by decide +kernel, rfl, by decide +kernel, by decide +kernel⟩
abbrev s_law_one : Stmt := topS 55
theorem sc_law_one : FnScope ["_law_well_here", "_law_some"] ["_law_well_here", "_law_some"] (defScope s_law_one) := ⟨rfl, rfl, rfl, by decide +kernel, rfl, by decide +kernel, by decide +kernel⟩
abbrev s_law_shuffled : Stmt := topS 57
theorem sc_law_shuffled : FnScope ["_law_well_here", "_law_some", "_law_left", "_law_found"] ["_law_well_here", "_law_some"] (defScope s_law_shuffled) := ⟨rfl, rfl, rfl, by decide +kernel, rfl, by decide +kernel, by decide +kernel⟩
abbrev s_law_names : Stmt := topS 56
theorem sc_law_names : FnScope ["_law_well_here", "_law_size", "_law_letters", "_law_first", "_law_stem", "_law_turn", "_law_found", "_law_k", "_law_sign"] ["_law_well_here", "_law_size"] (defScope s_law_names) := ⟨rfl, rfl, rfl, by decide +kernel, rfl, by decide +kernel, by decide +kernel⟩
abbrev s_law_ballot : Stmt := topS 58
theorem sc_law_ballot : FnScope ["_law_well_here", "_law_names_here", "_law_kind", "_law_some", "_law_steps", "_law_one_here"] ["_law_well_here", "_law_names_here"] (defScope s_law_ballot) := ⟨rfl, rfl, rfl, by decide +kernel, rfl, by decide +kernel, by decide +kernel⟩
abbrev s_law_parts : Stmt := topS 59
theorem sc_law_parts : FnScope ["_law_well_here", "_law_sizes", "_law_names_here", "_law_rows", "_law_k", "_law_some", "_law_turned_here", "_law_one_here"] ["_law_well_here", "_law_sizes"] (defScope s_law_parts) := ⟨rfl, rfl, rfl, by decide +kernel, rfl, by decide +kernel, by decide +kernel⟩
abbrev s_law_orders : Stmt := topS 60
theorem sc_law_orders : FnScope ["_law_names_here", "_law_found", "_law_turn", "_law_longer", "_law_some", "_law_one_here"] ["_law_names_here"] (defScope s_law_orders) := ⟨rfl, rfl, rfl, by decide +kernel, rfl, by decide +kernel, by decide +kernel⟩
abbrev s_law_turned : Stmt := topS 61
theorem sc_law_turned : FnScope ["_law_p", "_law_rows", "_law_ballot_here", "_law_number"] ["_law_p"] (defScope s_law_turned) := ⟨rfl, rfl, rfl, by decide +kernel, rfl, by decide +kernel, by decide +kernel⟩
abbrev s_law_standing_right : Stmt := topS 62
theorem sc_law_standing_right : FnScope ["_law_table", "_law_about", "_law_facts", "_law_some", "_law_top", "_law_first", "_law_last", "_law_k"] ["_law_table", "_law_about", "_law_facts", "_law_some"] (defScope s_law_standing_right) := ⟨rfl, rfl, rfl, by decide +kernel, rfl, by decide +kernel, by decide +kernel⟩
abbrev s_law : Stmt := topS 63
theorem sc_law : FnScope ["_law_script", "_law_k", "_law_well_here", "_law_names_here", "_law_rows", "_law_p", "_law_table", "_law_about", "_law_twice", "_law_told", "_law_some", "_law_facts", "_law_stand", "_law_one_here", "_law_good", "_law_above", "_law_turn", "_law_pair", "_law_number"] ["_law_script"] (defScope s_law) := ⟨rfl, rfl, rfl, by decide +kernel, rfl, by decide +kernel, by decide +kernel⟩
set_option genInjectivity false in
set_option genSizeOf false in
structure Txt (K : PySem.W.Frag) (mg : Str → Option Value) where
  f_PollError_init : Addr
  fd_PollError_init : FuncData
  F_PollError_init : FunD K "__init__" "PollError.__init__" (defArgs s_PollError_init) (defBody s_PollError_init) (defScope s_PollError_init) [.str ""] [] f_PollError_init fd_PollError_init
  gkb_PollError_init_2 : List Value → List Value → List Value
  kb_PollError_init_2 : KBn K fd_PollError_init ["self", "why"] 2 [] gkb_PollError_init_2 (fun vs zs => vs)
  f_is_whole : Addr
  fd_is_whole : FuncData
  F_is_whole : Fun K "is_whole" "is_whole" s_is_whole f_is_whole fd_is_whole
  b_is_whole : Binds K fd_is_whole ["thing"] []
  g_is_whole : mg "is_whole" = some (.ref f_is_whole)
  f_is_name : Addr
  fd_is_name : FuncData
  F_is_name : Fun K "is_name" "is_name" s_is_name f_is_name fd_is_name
  b_is_name : Binds K fd_is_name ["thing"] []
  g_is_name : mg "is_name" = some (.ref f_is_name)
  f_is_tuple_of : Addr
  fd_is_tuple_of : FuncData
  F_is_tuple_of : Fun K "is_tuple_of" "is_tuple_of" s_is_tuple_of f_is_tuple_of fd_is_tuple_of
  b_is_tuple_of : Binds K fd_is_tuple_of ["thing", "many"] []
  g_is_tuple_of : mg "is_tuple_of" = some (.ref f_is_tuple_of)
  f_are_names : Addr
  fd_are_names : FuncData
  F_are_names : Fun K "are_names" "are_names" s_are_names f_are_names fd_are_names
  b_are_names : Binds K fd_are_names ["thing"] []
  g_are_names : mg "are_names" = some (.ref f_are_names)
  f_are_options : Addr
  fd_are_options : FuncData
  F_are_options : Fun K "are_options" "are_options" s_are_options f_are_options fd_are_options
  b_are_options : Binds K fd_are_options ["thing"] []
  g_are_options : mg "are_options" = some (.ref f_are_options)
  f_is_option : Addr
  fd_is_option : FuncData
  F_is_option : Fun K "is_option" "is_option" s_is_option f_is_option fd_is_option
  b_is_option : Binds K fd_is_option ["options", "thing"] []
  g_is_option : mg "is_option" = some (.ref f_is_option)
  f_are_unlike_options : Addr
  fd_are_unlike_options : FuncData
  F_are_unlike_options : Fun K "are_unlike_options" "are_unlike_options" s_are_unlike_options f_are_unlike_options fd_are_unlike_options
  b_are_unlike_options : Binds K fd_are_unlike_options ["options", "names"] []
  g_are_unlike_options : mg "are_unlike_options" = some (.ref f_are_unlike_options)
  f_is_mark : Addr
  fd_is_mark : FuncData
  F_is_mark : Fun K "is_mark" "is_mark" s_is_mark f_is_mark fd_is_mark
  b_is_mark : Binds K fd_is_mark ["thing"] []
  g_is_mark : mg "is_mark" = some (.ref f_is_mark)
  f_are_tiers : Addr
  fd_are_tiers : FuncData
  F_are_tiers : Fun K "are_tiers" "are_tiers" s_are_tiers f_are_tiers fd_are_tiers
  b_are_tiers : Binds K fd_are_tiers ["options", "told"] []
  g_are_tiers : mg "are_tiers" = some (.ref f_are_tiers)
  f_are_marks : Addr
  fd_are_marks : FuncData
  F_are_marks : Fun K "are_marks" "are_marks" s_are_marks f_are_marks fd_are_marks
  b_are_marks : Binds K fd_are_marks ["options", "told"] []
  g_are_marks : mg "are_marks" = some (.ref f_are_marks)
  f_is_ballot : Addr
  fd_is_ballot : FuncData
  F_is_ballot : Fun K "is_ballot" "is_ballot" s_is_ballot f_is_ballot fd_is_ballot
  b_is_ballot : Binds K fd_is_ballot ["options", "thing"] []
  g_is_ballot : mg "is_ballot" = some (.ref f_is_ballot)
  f_is_row : Addr
  fd_is_row : FuncData
  F_is_row : Fun K "is_row" "is_row" s_is_row f_is_row fd_is_row
  b_is_row : Binds K fd_is_row ["options", "thing"] []
  g_is_row : mg "is_row" = some (.ref f_is_row)
  f_check_poll : Addr
  fd_check_poll : FuncData
  F_check_poll : Fun K "check_poll" "check_poll" s_check_poll f_check_poll fd_check_poll
  b_check_poll : Binds K fd_check_poll ["options", "voices"] []
  g_check_poll : mg "check_poll" = some (.ref f_check_poll)
  gkb_check_poll_2 : List Value → List Value → List Value
  kb_check_poll_2 : KBn K fd_check_poll ["options", "voices"] 2 [] gkb_check_poll_2 (fun vs zs => vs)
  f_Poll_init : Addr
  fd_Poll_init : FuncData
  e_Poll_init : Addr
  F_Poll_init : FunD K "__init__" "Poll.__init__" (defArgs s_Poll_init) (defBody s_Poll_init) (defScope s_Poll_init) [.ref e_Poll_init] [] f_Poll_init fd_Poll_init
  gkb_Poll_init_3 : List Value → List Value → List Value
  kb_Poll_init_3 : KBn K fd_Poll_init ["self", "options", "voices"] 3 [] gkb_Poll_init_3 (fun vs zs => vs)
  f_order_ranks : Addr
  fd_order_ranks : FuncData
  F_order_ranks : Fun K "order_ranks" "order_ranks" s_order_ranks f_order_ranks fd_order_ranks
  b_order_ranks : Binds K fd_order_ranks ["options", "told"] []
  g_order_ranks : mg "order_ranks" = some (.ref f_order_ranks)
  f_ranks : Addr
  fd_ranks : FuncData
  F_ranks : Fun K "ranks" "ranks" s_ranks f_ranks fd_ranks
  b_ranks : Binds K fd_ranks ["options", "ballot"] []
  g_ranks : mg "ranks" = some (.ref f_ranks)
  f_tiers : Addr
  fd_tiers : FuncData
  F_tiers : Fun K "tiers" "tiers" s_tiers f_tiers fd_tiers
  b_tiers : Binds K fd_tiers ["options", "ballot"] []
  g_tiers : mg "tiers" = some (.ref f_tiers)
  f_ranked : Addr
  fd_ranked : FuncData
  F_ranked : Fun K "ranked" "ranked" s_ranked f_ranked fd_ranked
  b_ranked : Binds K fd_ranked ["poll"] []
  g_ranked : mg "ranked" = some (.ref f_ranked)
  f_margin_by : Addr
  fd_margin_by : FuncData
  F_margin_by : Fun K "margin_by" "margin_by" s_margin_by f_margin_by fd_margin_by
  b_margin_by : Binds K fd_margin_by ["rows", "one", "other"] []
  g_margin_by : mg "margin_by" = some (.ref f_margin_by)
  f_margins : Addr
  fd_margins : FuncData
  F_margins : Fun K "margins" "margins" s_margins f_margins fd_margins
  b_margins : Binds K fd_margins ["poll"] []
  g_margins : mg "margins" = some (.ref f_margins)
  f_others_than : Addr
  fd_others_than : FuncData
  F_others_than : Fun K "others_than" "others_than" s_others_than f_others_than fd_others_than
  b_others_than : Binds K fd_others_than ["poll", "one"] []
  g_others_than : mg "others_than" = some (.ref f_others_than)
  f_leader : Addr
  fd_leader : FuncData
  F_leader : Fun K "leader" "leader" s_leader f_leader fd_leader
  b_leader : Binds K fd_leader ["poll"] []
  g_leader : mg "leader" = some (.ref f_leader)
  f_trailer : Addr
  fd_trailer : FuncData
  F_trailer : Fun K "trailer" "trailer" s_trailer f_trailer fd_trailer
  b_trailer : Binds K fd_trailer ["poll"] []
  g_trailer : mg "trailer" = some (.ref f_trailer)
  f_unlost_ways : Addr
  fd_unlost_ways : FuncData
  F_unlost_ways : Fun K "unlost_ways" "unlost_ways" s_unlost_ways f_unlost_ways fd_unlost_ways
  b_unlost_ways : Binds K fd_unlost_ways ["poll", "held", "start"] []
  g_unlost_ways : mg "unlost_ways" = some (.ref f_unlost_ways)
  f_top_lot : Addr
  fd_top_lot : FuncData
  F_top_lot : Fun K "top_lot" "top_lot" s_top_lot f_top_lot fd_top_lot
  b_top_lot : Binds K fd_top_lot ["poll"] []
  g_top_lot : mg "top_lot" = some (.ref f_top_lot)
  f_is_order : Addr
  fd_is_order : FuncData
  F_is_order : Fun K "is_order" "is_order" s_is_order f_is_order fd_is_order
  b_is_order : Binds K fd_is_order ["options", "thing"] []
  g_is_order : mg "is_order" = some (.ref f_is_order)
  f_check_order : Addr
  fd_check_order : FuncData
  F_check_order : Fun K "check_order" "check_order" s_check_order f_check_order fd_check_order
  b_check_order : Binds K fd_check_order ["options", "order"] []
  g_check_order : mg "check_order" = some (.ref f_check_order)
  f_order_of_ties : Addr
  fd_order_of_ties : FuncData
  F_order_of_ties : Fun K "order_of_ties" "order_of_ties" s_order_of_ties f_order_of_ties fd_order_of_ties
  b_order_of_ties : Binds K fd_order_of_ties ["options", "ties"] []
  g_order_of_ties : mg "order_of_ties" = some (.ref f_order_of_ties)
  f_led_to : Addr
  fd_led_to : FuncData
  F_led_to : Fun K "led_to" "led_to" s_led_to f_led_to fd_led_to
  b_led_to : Binds K fd_led_to ["kept", "start"] []
  g_led_to : mg "led_to" = some (.ref f_led_to)
  f_kept_pairs : Addr
  fd_kept_pairs : FuncData
  F_kept_pairs : Fun K "kept_pairs" "kept_pairs" s_kept_pairs f_kept_pairs fd_kept_pairs
  b_kept_pairs : Binds K fd_kept_pairs ["order", "held"] []
  g_kept_pairs : mg "kept_pairs" = some (.ref f_kept_pairs)
  f_pairs_order : Addr
  fd_pairs_order : FuncData
  e_pairs_order : Addr
  es_pairs_order : ∀ H : Hp, SqT K H e_pairs_order []
  et_pairs_order : ∀ H : Hp, TyX K H (.ref e_pairs_order) (.type "tuple")
  F_pairs_order : FunD K "pairs_order" "pairs_order" (defArgs s_pairs_order) (defBody s_pairs_order) (defScope s_pairs_order) [] [("ties", .ref e_pairs_order)] f_pairs_order fd_pairs_order
  g_pairs_order : mg "pairs_order" = some (.ref f_pairs_order)
  gkb_pairs_order_1 : List Value → List Value → List Value
  kb_pairs_order_1 : KBn K fd_pairs_order ["poll", "ties"] 1 [] gkb_pairs_order_1 (fun vs zs => vs ++ ([V.ref e_pairs_order]))
  gkb_pairs_order_1_ties : List Value → List Value → List Value
  kb_pairs_order_1_ties : KBn K fd_pairs_order ["poll", "ties"] 1 ["ties"] gkb_pairs_order_1_ties (fun vs zs => vs ++ ((zs.drop 0).take 1))
  f_stands_ahead : Addr
  fd_stands_ahead : FuncData
  F_stands_ahead : Fun K "stands_ahead" "stands_ahead" s_stands_ahead f_stands_ahead fd_stands_ahead
  b_stands_ahead : Binds K fd_stands_ahead ["order", "held"] []
  g_stands_ahead : mg "stands_ahead" = some (.ref f_stands_ahead)
  f_shows_stands : Addr
  fd_shows_stands : FuncData
  F_shows_stands : Fun K "shows_stands" "shows_stands" s_shows_stands f_shows_stands fd_shows_stands
  b_shows_stands : Binds K fd_shows_stands ["poll", "order"] []
  g_shows_stands : mg "shows_stands" = some (.ref f_shows_stands)
  f_law_cell_at : Addr
  fd_law_cell_at : FuncData
  F_law_cell_at : Fun K "_law_cell_at" "_law_cell_at" s_law_cell_at f_law_cell_at fd_law_cell_at
  b_law_cell_at : Binds K fd_law_cell_at ["_law_script", "_law_k"] []
  g_law_cell_at : mg "_law_cell_at" = some (.ref f_law_cell_at)
  f_law_well : Addr
  fd_law_well : FuncData
  F_law_well : Fun K "_law_well" "_law_well" s_law_well f_law_well fd_law_well
  b_law_well : Binds K fd_law_well ["_law_cell"] []
  g_law_well : mg "_law_well" = some (.ref f_law_well)
  f_law_draw : Addr
  fd_law_draw : FuncData
  F_law_draw : Fun K "_law_draw" "_law_draw" s_law_draw f_law_draw fd_law_draw
  b_law_draw : Binds K fd_law_draw ["_law_well_here", "_law_size"] []
  g_law_draw : mg "_law_draw" = some (.ref f_law_draw)
  f_law_one : Addr
  fd_law_one : FuncData
  F_law_one : Fun K "_law_one" "_law_one" s_law_one f_law_one fd_law_one
  b_law_one : Binds K fd_law_one ["_law_well_here", "_law_some"] []
  g_law_one : mg "_law_one" = some (.ref f_law_one)
  f_law_shuffled : Addr
  fd_law_shuffled : FuncData
  F_law_shuffled : Fun K "_law_shuffled" "_law_shuffled" s_law_shuffled f_law_shuffled fd_law_shuffled
  b_law_shuffled : Binds K fd_law_shuffled ["_law_well_here", "_law_some"] []
  g_law_shuffled : mg "_law_shuffled" = some (.ref f_law_shuffled)
  f_law_names : Addr
  fd_law_names : FuncData
  F_law_names : Fun K "_law_names" "_law_names" s_law_names f_law_names fd_law_names
  b_law_names : Binds K fd_law_names ["_law_well_here", "_law_size"] []
  g_law_names : mg "_law_names" = some (.ref f_law_names)
  f_law_ballot : Addr
  fd_law_ballot : FuncData
  F_law_ballot : Fun K "_law_ballot" "_law_ballot" s_law_ballot f_law_ballot fd_law_ballot
  b_law_ballot : Binds K fd_law_ballot ["_law_well_here", "_law_names_here"] []
  g_law_ballot : mg "_law_ballot" = some (.ref f_law_ballot)
  f_law_parts : Addr
  fd_law_parts : FuncData
  F_law_parts : Fun K "_law_parts" "_law_parts" s_law_parts f_law_parts fd_law_parts
  b_law_parts : Binds K fd_law_parts ["_law_well_here", "_law_sizes"] []
  g_law_parts : mg "_law_parts" = some (.ref f_law_parts)
  f_law_orders : Addr
  fd_law_orders : FuncData
  F_law_orders : Fun K "_law_orders" "_law_orders" s_law_orders f_law_orders fd_law_orders
  b_law_orders : Binds K fd_law_orders ["_law_names_here"] []
  g_law_orders : mg "_law_orders" = some (.ref f_law_orders)
  f_law_turned : Addr
  fd_law_turned : FuncData
  F_law_turned : Fun K "_law_turned" "_law_turned" s_law_turned f_law_turned fd_law_turned
  b_law_turned : Binds K fd_law_turned ["_law_p"] []
  g_law_turned : mg "_law_turned" = some (.ref f_law_turned)
  f_law_standing_right : Addr
  fd_law_standing_right : FuncData
  F_law_standing_right : Fun K "_law_standing_right" "_law_standing_right" s_law_standing_right f_law_standing_right fd_law_standing_right
  b_law_standing_right : Binds K fd_law_standing_right ["_law_table", "_law_about", "_law_facts", "_law_some"] []
  g_law_standing_right : mg "_law_standing_right" = some (.ref f_law_standing_right)
  f_law : Addr
  fd_law : FuncData
  F_law : Fun K "law" "law" s_law f_law fd_law
  b_law : Binds K fd_law ["_law_script"] []
  g_law : mg "law" = some (.ref f_law)
  C_PollError : Addr
  k_PollError : mg "PollError" = some (.ref C_PollError)
  ex_PollError : ExK K C_PollError f_PollError_init
  ox_PollError : OexC K C_PollError
  xf_PollError : XfC K C_PollError
  nf_PollError_why : PySem.W.findIn K (.ref C_PollError) "why" = some none
  rd_PollError : PySem.W.readsIn K C_PollError (.type "type") = true
  ga_PollError : PySem.W.specialIn K (.ref C_PollError) "__getattribute__" = some (some (.builtin "type.__getattribute__"))
  fc_PollError_init : PySem.W.findCls K (.ref C_PollError) (.type "type") "__init__" = some (.val (.ref f_PollError_init))
  C_BadPoll : Addr
  k_BadPoll : mg "BadPoll" = some (.ref C_BadPoll)
  ex_BadPoll : ExK K C_BadPoll f_PollError_init
  ox_BadPoll : OexC K C_BadPoll
  xf_BadPoll : XfC K C_BadPoll
  nf_BadPoll_why : PySem.W.findIn K (.ref C_BadPoll) "why" = some none
  C_Poll : Addr
  k_Poll : mg "Poll" = some (.ref C_Poll)
  cl_Poll : Cls K C_Poll
  n_Poll_options : NoAttr K C_Poll "options"
  n_Poll_voices : NoAttr K C_Poll "voices"
  mk_Poll : Mk K C_Poll f_Poll_init
  tc_kept_pairs : Addr
  tp_kept_pairs : Addr
  co_kept_pairs : fd_kept_pairs.code = .ref tc_kept_pairs
  tt_kept_pairs : PySem.W.tabIn K "kept_pairs" = some (tc_kept_pairs, tp_kept_pairs)
  np_kept_pairs : K.lookup tp_kept_pairs = none
  vV : PySem.W.findCls K (.type "ValueError") (.type "type") "__init__" = some (.val (.builtin "ValueError.__init__"))
  z_ValueError : mg "ValueError" = none
  z_isinstance : mg "isinstance" = none
  z_bool : mg "bool" = none
  z_int : mg "int" = none
  z_str : mg "str" = none
  z_len : mg "len" = none
  z_all : mg "all" = none
  z_tuple : mg "tuple" = none
  z_enumerate : mg "enumerate" = none
  z_sorted : mg "sorted" = none
  z_set : mg "set" = none
  z_list : mg "list" = none
  z_any : mg "any" = none
  z_range : mg "range" = none
  z_min : mg "min" = none
  z_max : mg "max" = none
  t_LONGEST_NAME : Tok
  c_LONGEST_NAME : mg "LONGEST_NAME" = some (.int 8 t_LONGEST_NAME)
  t_MOST_OPTIONS : Tok
  c_MOST_OPTIONS : mg "MOST_OPTIONS" = some (.int 6 t_MOST_OPTIONS)
  t_GREATEST_MARK : Tok
  c_GREATEST_MARK : mg "GREATEST_MARK" = some (.int 9 t_GREATEST_MARK)
  t_MOST_VOICES : Tok
  c_MOST_VOICES : mg "MOST_VOICES" = some (.int 1000000 t_MOST_VOICES)
  t_MOST_ROWS : Tok
  c_MOST_ROWS : mg "MOST_ROWS" = some (.int 30 t_MOST_ROWS)
def Txt.tabs {K : PySem.W.Frag} {mg : Str → Option Value} (T : Txt K mg) : Tabs3 := [("kept_pairs", T.tc_kept_pairs, T.tp_kept_pairs)]
/-! ### wells -/
/-- a well's three numbers, k a bound of how often it was drawn from -/
def WellL (w : List V) (k : Nat) : Prop := ∃ a b c : Int, w = [.int a, .int b, .int c] ∧ 0 ≤ a ∧ 0 ≤ b ∧ b < 2147483629 ∧ 0 ≤ c ∧ c ≤ k
theorem WellL.mono {w : List V} {j k : Nat} (h : WellL w j) (hk : j ≤ k) : WellL w k := by
  obtain ⟨a, b, c, e, h1, h2, h3, h4, h5⟩ := h
  exact ⟨a, b, c, e, h1, h2, h3, h4, by omega⟩
theorem mix_mod (x m : Int) (h : 0 < m) : 0 ≤ x % m ∧ x % m < m := ⟨Int.emod_nonneg x (by omega), Int.emod_lt_of_pos x h⟩
theorem div_nn {a n : Int} (h : 0 ≤ a) (hn : 0 < n) : 0 ≤ a / n := Int.ediv_nonneg h (by omega)
theorem same_upd {H : Hp} {p : Addr} {o : HO} (h : H p = none) : Same H (upd H p o) := fun b x e => by
  rw [upd_ne (ne_of_none e h)]
  exact e
theorem same_mut {H H' : Hp} {p : Addr} {o : HO} (e : Same H H') (h : H p = none) : Same H (upd H' p o) := fun b x q => by
  rw [upd_ne (ne_of_none q h)]
  exact e b x q
theorem mulOk {a b : Int} {n m : Nat} (ha : a.natAbs < 2 ^ n) (hb : b.natAbs < 2 ^ m) (h : n + m + 1 ≤ 8000) : CMulW a b :=
  wide_mul (a := n + 1) (b := m + 1) (Nat.lt_of_lt_of_le ha (Nat.pow_le_pow_right (by decide) (by omega))) (Nat.lt_of_lt_of_le hb (Nat.pow_le_pow_right (by decide) (by omega))) (by omega) (by omega) (by omega)
theorem line_of {n : Nat} (h : n ≤ 1000) : n ≤ sizeLine := Nat.le_of_lt (small1000 h)
/-- what was tracked besides p stays -/
def But (p : Addr) (H H' : Hp) : Prop := ∀ b o, b ≠ p → H b = some o → H' b = some o
theorem But.refl (p : Addr) (H : Hp) : But p H H := fun _ _ _ h => h
theorem But.upd {p : Addr} {H H' : Hp} (e : But p H H') (o : HO) : But p H (upd H' p o) := fun b u hb q => by
  rw [upd_ne hb]
  exact e b u hb q
theorem But.new {p q : Addr} {H H' : Hp} (e : But p H H') (n : H' q = none) (o : HO) : But p H (L2.upd H' q o) := fun b u hb h => by
  have h2 := e b u hb h
  rw [upd_ne (ne_of_none h2 n)]
  exact h2
theorem But.same {p : Addr} {H H1 H2 : Hp} (e : But p H H1) (s : Same H1 H2) : But p H H2 := fun b u hb h => s b u (e b u hb h)
theorem But.trans {p : Addr} {H H1 H2 : Hp} (e : But p H H1) (f : But p H1 H2) : But p H H2 := fun b u hb h => f b u hb (e b u hb h)
/-- p new to H0 -/
theorem But.ext {p : Addr} {H0 H H' : Hp} (s : Same H0 H) (n : H0 p = none) (e : But p H H') : Same H0 H' := fun b u h => e b u (ne_of_none h n) (s b u h)
theorem size_ok {n : Int} (h0 : 0 ≤ n) (h : n ≤ 1000) : n.natAbs < 2 ^ 8000 := Nat.lt_of_le_of_lt (show n.natAbs ≤ 1000 by omega) (by decide +kernel)
theorem take_more {α : Type} : ∀ {l : List α} {i : Nat} {x : α}, l[i]? = some x → l.take (i + 1) = l.take i ++ [x]
  | [], i, x, h => by simp at h
  | a :: l, 0, x, h => by
    have e : a = x := Option.some.inj h
    subst e
    rfl
  | a :: l, i + 1, x, h => by
    have ih := take_more (l := l) (i := i) (x := x) h
    show a :: l.take (i + 1) = a :: l.take i ++ [x]
    rw [ih]
    rfl
section
variable {P : Program} {w : World} {K : PySem.W.Frag} {mg : Str → Option Value} {base : Heap}
/-! ### the law's own small defs -/
def sp_law_cell_at (K : PySem.W.Frag) : Sp := fun vs H Q _ => ∃ (a : Addr) (ns : List Int) (j : Nat), vs = [.ref a, .int j] ∧ SqL K H a (ns.map V.int) ∧ ns.length ≤ 63 ∧ ∀ z : Int, Q (.int z) H
theorem ok_law_cell_at (T : Txt K mg) : FnOk P w K mg base CX0 1 T.f_law_cell_at T.fd_law_cell_at ["_law_script", "_law_k"] (sp_law_cell_at K) := by
  refine T.F_law_cell_at.ok sc_law_cell_at (fun vs H Q E h => ?_) (fun cdv A outer s H vs Q E hr h => ?_)
  · obtain ⟨a, ns, j, rfl, _⟩ := h
    rfl
  · obtain ⟨a, ns, j, rfl, hS, hlen, q⟩ := h
    refine ⟨_, (pss_cons
 (ps_if (pt_cmpR op_lt (pv 1) (pe_callB call_len_seq (by rfl) T.z_len (by decide +kernel) (pa_cons (pv 0) pa_nil)) (nomark _))
 (pss_one
 (ps_ret (pe_ix ix_list (pv 0) (pv 1) (fun _ _ => rfl))))
 pss_nil)
 (pss_one
 (ps_ret (pe_op op_add (pe_op op_mul pe_int (pv 1)) pe_int)))), ?_⟩
    refine ⟨.int j, rfl, .ref a, rfl, a, ns.map V.int, rfl, .inl hS, j, _, rfl, rfl, _, rfl, ite2 (fun e => ?_) (fun e => ?_)⟩
    · have e0 := of_decide_eq_true e
      rw [List.length_map] at e0
      have hj : j < ns.length := by omega
      exact ⟨.ref a, rfl, .int j, rfl, a, _, j, .int ns[j], rfl, rfl, hS, atI_nat (by rw [List.getElem?_map, List.getElem?_eq_getElem hj]; rfl), q _⟩
    · exact ⟨.int j, rfl, _, _, rfl, rfl, .inl ⟨by decide, by decide⟩, _, _, rfl, rfl, q _⟩
def sp_law_well : Sp := fun vs H Q _ => ∃ z : Int, vs = [.int z] ∧ ∀ (p : Addr) (x : List V), H p = none → WellL x 0 → Q (.ref p) (upd H p (.lst x))
theorem ok_law_well (T : Txt K mg) : FnOk P w K mg base CX0 1 T.f_law_well T.fd_law_well ["_law_cell"] sp_law_well := by
  refine T.F_law_well.ok sc_law_well (fun vs H Q E h => ?_) (fun cdv A outer s H vs Q E hr h => ?_)
  · obtain ⟨z, rfl, _⟩ := h
    rfl
  · obtain ⟨z, rfl, q⟩ := h
    refine ⟨_, (pss_one
 (ps_ret (pe_lst (pa_cons (pe_op op_mul (pv 0) (pe_callTy call_int1 (by rfl) T.z_int (by decide +kernel) (pa_cons (pe_cmpR op_ge (pv 0) (pe_op op_pow pe_int pe_int) (nomark _)) pa_nil))) (pa_cons (pe_op op_mod (pv 0) pe_int) (pa_cons pe_int pa_nil)))))), ?_⟩
    have hb := mix_mod z 2147483629 (by decide)
    refine ⟨.int z, rfl, .int z, rfl, 10, 18, rfl, rfl, ⟨by decide, by decide, by decide⟩, z, _, rfl, rfl, .inr ⟨_, rfl, ?_⟩⟩
    by_cases hz : (10 : Int) ^ (18 : Int).toNat ≤ z
    · have hp : (0 : Int) < (10 : Int) ^ (18 : Int).toNat := by decide
      rw [show decide ((10 : Int) ^ (18 : Int).toNat ≤ z) = true from decide_eq_true hz]
      exact ⟨z, 1, rfl, rfl, .inr ⟨by decide, by decide⟩, .int z, rfl, z, _, rfl, rfl, (by show (0 : Int) < 2147483629; decide), line_of (show 3 ≤ 1000 by decide), fun p np => q p _ np ⟨z * 1, _, 0, rfl, by omega, hb.1, hb.2, by decide, by decide⟩⟩
    · rw [show decide ((10 : Int) ^ (18 : Int).toNat ≤ z) = false from decide_eq_false hz]
      exact ⟨z, 0, rfl, rfl, .inr ⟨by decide, by decide⟩, .int z, rfl, z, _, rfl, rfl, (by show (0 : Int) < 2147483629; decide), line_of (show 3 ≤ 1000 by decide), fun p np => q p _ np ⟨z * 0, _, 0, rfl, by omega, hb.1, hb.2, by decide, by decide⟩⟩
/-- drawing: a number below the size; the well holds three numbers again -/
def sp_law_draw : Sp := fun vs H Q _ => ∃ (p : Addr) (n : Int) (x : List V) (k : Nat), vs = [.ref p, .int n] ∧ H p = some (.lst x) ∧ WellL x k ∧ k ≤ 1000000 ∧ 0 < n ∧ n.natAbs < 2 ^ 8000 ∧
  ∀ (d : Int) (y : List V), 0 ≤ d → d < n → WellL y (k + 1) → Q (.int d) (upd H p (.lst y))
theorem ok_law_draw (T : Txt K mg) : FnOk P w K mg base CX0 1 T.f_law_draw T.fd_law_draw ["_law_well_here", "_law_size"] sp_law_draw := by
  refine T.F_law_draw.ok sc_law_draw (fun vs H Q E h => ?_) (fun cdv A outer s H vs Q E hr h => ?_)
  · obtain ⟨p, n, x, k, rfl, _⟩ := h
    rfl
  · obtain ⟨p, n, x, k, rfl, hp, ⟨a, b, c, rfl, ha, hb, hb2, hc, hck⟩, hk, hn, hn2, q⟩ := h
    refine ⟨_, (pss_cons
 (ps_if (pt_cmpR op_gt (pe_ix ix_list (pv 0) pe_int (fun _ _ => rfl)) pe_int (nomark _))
 (pss_cons
 (ps_set (i := 2) sc_law_draw.nd rfl (Or.inl rfl) (pe_op op_mod (pe_ix ix_list (pv 0) pe_int (fun _ _ => rfl)) (pv 1)))
 (pss_cons
 (ps_asg (pe_op op_fdivW (pe_ix ix_list (pv 0) pe_int (fun _ _ => rfl)) (pv 1)) (pg_sub (pv 0) pe_int set_list))
 (pss_one
 (ps_ret (pv 2)))))
 pss_nil)
 (pss_cons
 (ps_asg (pe_op op_add (pe_ix ix_list (pv 0) pe_int (fun _ _ => rfl)) pe_int) (pg_sub (pv 0) pe_int set_list))
 (pss_cons
 (ps_set (i := 3) sc_law_draw.nd rfl (Or.inl rfl) (pe_op op_mod (pe_op op_mul (pe_op op_add (pe_op op_add (pe_ix ix_list (pv 0) pe_int (fun _ _ => rfl)) (pe_op op_mul pe_int (pe_ix ix_list (pv 0) pe_int (fun _ _ => rfl)))) pe_int) pe_int) pe_int))
 (pss_cons
 (ps_set (i := 3) sc_law_draw.nd rfl (Or.inl rfl) (pe_op op_mod (pe_op op_mul (pv 3) (pe_op op_add (pe_op op_fdiv (pv 3) pe_int) pe_int)) pe_int))
 (pss_one
 (ps_ret (pe_op op_mod (pe_op op_fdiv (pe_op op_mod (pe_op op_mul (pv 3) (pe_op op_add (pe_op op_fdiv (pv 3) pe_int) pe_int)) pe_int) pe_int) (pv 1)))))))), ?_⟩
    refine ⟨.ref p, rfl, p, _, 0, .int a, rfl, rfl, .of hp, rfl, a, 0, rfl, rfl, _, rfl, ite2 (fun e => ?_) (fun e => ?_)⟩
    · have hd := mix_mod a n hn
      have ha2 := div_nn ha hn
      refine ⟨.ref p, rfl, p, _, 0, .int a, rfl, rfl, .of hp, rfl, .int n, rfl, a, n, rfl, rfl, hn, ?_⟩
      refine ⟨.ref p, rfl, p, _, 0, .int a, rfl, rfl, .of hp, rfl, .int n, rfl, a, n, rfl, rfl, wide_div hn hn2 (by decide) (by decide), .ref p, rfl, p, _, 0, 0, rfl, rfl, hp, rfl, ?_⟩
      exact ⟨_, rfl, q (a % n) _ hd.1 hd.2 ⟨a / n, b, c, rfl, ha2, hb, hb2, hc, by omega⟩⟩
    · refine ⟨.ref p, rfl, p, _, 2, .int c, rfl, rfl, .of hp, rfl, c, 1, rfl, rfl, .ref p, rfl, p, _, 2, 2, rfl, rfl, hp, rfl, ?_⟩
      have h1 : (upd H p (.lst [V.int a, V.int b, V.int (c + 1)])) p = some (.lst [V.int a, V.int b, V.int (c + 1)]) := upd_same
      refine ⟨.ref p, rfl, p, _, 1, .int b, rfl, rfl, .of h1, rfl, .ref p, rfl, p, _, 2, .int (c + 1), rfl, rfl, .of h1, rfl, 7919, c + 1, rfl, rfl, .inl ⟨by decide, by decide⟩, b, _, rfl, rfl, _, 1, rfl, rfl, _, 48271, rfl, rfl, .inr ⟨by decide, by decide⟩, _, 2147483647, rfl, rfl, (by show (0 : Int) < 2147483647; decide), ?_⟩
      dsimp only
      generalize hg : (_ : Int) % 2147483647 = m
      have hm : 0 ≤ m ∧ m < 2147483647 := hg ▸ mix_mod _ _ (by decide)
      refine ⟨.int m, rfl, .int m, rfl, m, 1009, rfl, rfl, ⟨by decide, by decide⟩, _, 69621, rfl, rfl, m, _, rfl, rfl, .inl ⟨by omega, by omega⟩, _, 2147483629, rfl, rfl, (by show (0 : Int) < 2147483629; decide), ?_⟩
      dsimp only
      generalize hg2 : (_ : Int) % 2147483629 = m2
      have hm2 : 0 ≤ m2 ∧ m2 < 2147483629 := hg2 ▸ mix_mod _ _ (by decide)
      refine ⟨.int m2, rfl, .int m2, rfl, m2, 2003, rfl, rfl, ⟨by decide, by decide⟩, _, 40692, rfl, rfl, m2, _, rfl, rfl, .inl ⟨by omega, by omega⟩, _, 2147483587, rfl, rfl, (by show (0 : Int) < 2147483587; decide), _, 5, rfl, rfl, ⟨by decide, by decide⟩, .int n, rfl, _, n, rfl, rfl, hn, ?_⟩
      have hd := mix_mod (m2 * (m2 / 2003 + 40692) % 2147483587 / 5) n hn
      exact q _ _ hd.1 hd.2 ⟨a, b, c + 1, rfl, ha, hb, hb2, by omega, by omega⟩
end
theorem But.mut {p q : Addr} {H H' : Hp} {o : HO} (e : But p H H') (n : H q = none) : But p H (L2.upd H' q o) := fun b u hb h => by
  have hq : b ≠ q := fun z => by rw [z, n] at h; cases h
  rw [upd_ne hq]
  exact e b u hb h
theorem But.free {p q : Addr} {H H' : Hp} {o : HO} (e : But p H H') (hp : H' p = some o) (n : H' q = none) : H q = none := by
  have hq : q ≠ p := fun z => by rw [z, hp] at n; cases n
  cases h : H q with
  | none => rfl
  | some u => rw [e q u hq h] at n; cases n
theorem pick_perm {α : Type} : ∀ (l : List α) (n : Nat) (h : n < l.length), (l[n] :: l.eraseIdx n).Perm l
  | [], _, h => absurd h (Nat.not_lt_zero _)
  | a :: l, 0, _ => List.Perm.refl _
  | a :: l, n + 1, h => (List.Perm.swap a (l[n]'(Nat.lt_of_succ_lt_succ h)) (l.eraseIdx n)).trans ((pick_perm l n (Nat.lt_of_succ_lt_succ h)).cons a)
abbrev abc : Str := "abcdefghijklmnopqrstuvwxyz"
theorem abc_len : abc.length = 26 := by decide +kernel
theorem abc_all : ∀ j : Fin 26, abc.cps.toList[j.val]? = some (97 + j.val) := by decide +kernel
theorem abc_at {d : Int} (h0 : 0 ≤ d) (h1 : d < 26) : atI abc.cps.toList d = some (97 + d.toNat) := by
  obtain ⟨j, rfl⟩ := Int.eq_ofNat_of_zero_le h0
  exact atI_nat (abc_all ⟨j, by omega⟩)
def Small (z : Str) : Prop := ∀ c ∈ z.cps.toList, 97 ≤ c ∧ c ≤ 122
def NameOk (z : Str) : Prop := 1 ≤ z.length ∧ z.length ≤ 8 ∧ Small z
def lastc (z : Str) : Nat := z.cps.toList.getLastD 0
theorem cps_more (z : Str) (c : Nat) : (z ++ ⟨#[c]⟩ : Str).cps.toList = z.cps.toList ++ [c] := by
  rw [Str.cps_append, Array.toList_append]
def tyD (t : List Str) : PyData := .tuple (t.map PyData.str)
theorem lay_strs : ∀ t : List Str, (∀ z ∈ t, PyData.strOk z = true) → PyData.canLayAll0 (t.map PyData.str) = true ∧ PyData.depthAll (t.map PyData.str) ≤ 0
  | [], _ => ⟨rfl, by decide⟩
  | a :: l, h => by
    obtain ⟨h1, h2⟩ := lay_strs l fun z hz => h z (List.mem_cons_of_mem _ hz)
    constructor
    · rw [List.map_cons, PyData.canLayAll0, h1]
      simp [PyData.canLay0, h a List.mem_cons_self]
    · rw [List.map_cons, PyData.depthAll]
      have : PyData.depth (.str a) = 0 := rfl
      omega
theorem lay_tiers : ∀ ts : List (List Str), (∀ t ∈ ts, ∀ z ∈ t, PyData.strOk z = true) → PyData.canLayAll0 (ts.map tyD) = true ∧ PyData.depthAll (ts.map tyD) ≤ 1
  | [], _ => ⟨rfl, by decide⟩
  | a :: l, h => by
    obtain ⟨h1, h2⟩ := lay_tiers l fun t ht => h t (List.mem_cons_of_mem _ ht)
    obtain ⟨g1, g2⟩ := lay_strs a (h a List.mem_cons_self)
    constructor
    · rw [List.map_cons, PyData.canLayAll0, h1]
      simp [tyD, PyData.canLay0, g1]
    · rw [List.map_cons, PyData.depthAll]
      have : PyData.depth (tyD a) ≤ 1 := by
        show PyData.depth (.tuple (a.map PyData.str)) ≤ 1
        rw [PyData.depth]
        omega
      omega
theorem shaped_tiers {ts : List (List Str)} (h : ∀ t ∈ ts, ∀ z ∈ t, PyData.strOk z = true) : SeqAt.shaped (.list (ts.map tyD)) = true := by
  obtain ⟨h1, h2⟩ := lay_tiers ts h
  unfold SeqAt.shaped
  rw [PyData.canLay0, h1, PyData.depth]
  simp only [Bool.true_and, decide_eq_true_eq]
  omega
theorem dp_strs {K : PySem.W.Frag} {H : Hp} : ∀ t : List Str, DpAll K H (t.map V.str) (t.map PyData.str)
  | [] => .nil
  | a :: l => .cons (.str a) (dp_strs l)
def Tiers (H : Hp) (bs : List (Addr × List Str)) : Prop := ∀ b ∈ bs, H b.1 = some (.tup (b.2.map V.str)) ∧ b.2 ≠ []
theorem dp_tiers {K : PySem.W.Frag} {H : Hp} : ∀ bs : List (Addr × List Str), Tiers H bs → DpAll K H (bs.map fun b => V.ref b.1) ((bs.map (·.2)).map tyD)
  | [], _ => .nil
  | b :: l, h => .cons (.tup (.of (h b List.mem_cons_self).1) (dp_strs b.2)) (dp_tiers l fun c hc => h c (List.mem_cons_of_mem _ hc))
theorem small_ok {z : Str} (h : Small z) : PyData.strOk z = true := by
  unfold PyData.strOk
  rw [← Array.all_toList, List.all_eq_true]
  exact fun c hc => decide_eq_true (by have := (h c hc).2; omega)
theorem cut_strs (ws : List Str) (lo hi : Option Int) : ∃ ms : List Str, cutV (ws.map V.str) lo hi = ms.map V.str ∧ ms.Sublist ws := by
  refine ⟨(ws.drop (HT.sIx (ws.map V.str).length 0 lo)).take (HT.sIx (ws.map V.str).length (ws.map V.str).length hi - HT.sIx (ws.map V.str).length 0 lo), ?_, (List.take_sublist _ _).trans (List.drop_sublist _ _)⟩
  unfold cutV
  rw [← List.map_drop, ← List.map_take]
theorem ix_last (n : Nat) : ixN (n + 1) (-1) = some n := by
  unfold ixN
  rw [if_neg (by decide)]
  simp
  omega
theorem set_last {α : Type} : ∀ (l : List α) (a b : α), (l ++ [a]).set l.length b = l ++ [b]
  | [], _, _ => rfl
  | c :: l, a, b => congrArg (c :: ·) (set_last l a b)
theorem at_last {α : Type} (l : List α) (a : α) : atI (l ++ [a]) (-1) = some a := by
  unfold atI
  rw [List.length_append, List.length_singleton, ix_last]
  show (l ++ [a])[l.length]? = some a
  rw [List.getElem?_append_right (Nat.le_refl _), Nat.sub_self]
  rfl
/-- a ballot, as the document tells them -/
inductive Bal where
  | order (ts : List (List Str))
  | lets (ns : List Str)
  | marks (ms : List (Str × Int))
def Bal.Ok (zs : List Str) : Bal → Prop
  | .order ts => ts.flatten.Nodup ∧ (∀ z ∈ ts.flatten, z ∈ zs) ∧ ∀ t ∈ ts, t ≠ []
  | .lets ns => ns.Nodup ∧ ∀ z ∈ ns, z ∈ zs
  | .marks ms => (ms.map (·.1)).Nodup ∧ (∀ m ∈ ms, m.1 ∈ zs) ∧ ∀ m ∈ ms, 0 ≤ m.2 ∧ m.2 ≤ 9
def BalAt (H : Hp) (t : Addr) : Bal → Prop
  | .order ts => ∃ (u : Addr) (bs : List (Addr × List Str)), H t = some (.tup [.str "order", .ref u]) ∧ H u = some (.tup (bs.map fun b => V.ref b.1)) ∧ Tiers H bs ∧ bs.map (·.2) = ts
  | .lets ns => ∃ u : Addr, H t = some (.tup [.str "lets", .ref u]) ∧ H u = some (.tup (ns.map V.str))
  | .marks ms => ∃ (u : Addr) (bs : List (Addr × (Str × Int))), H t = some (.tup [.str "marks", .ref u]) ∧ H u = some (.tup (bs.map fun b => V.ref b.1)) ∧ (∀ b ∈ bs, H b.1 = some (.tup [.str b.2.1, .int b.2.2])) ∧ bs.map (·.2) = ms
theorem BalAt.keep {H H' : Hp} {t : Addr} : ∀ {b : Bal}, (∀ a xs, H a = some (.tup xs) → H' a = some (.tup xs)) → BalAt H t b → BalAt H' t b
  | .order _, k, ⟨u, bs, h1, h2, h3, h4⟩ => ⟨u, bs, k _ _ h1, k _ _ h2, fun b hb => ⟨k _ _ (h3 b hb).1, (h3 b hb).2⟩, h4⟩
  | .lets _, k, ⟨u, h1, h2⟩ => ⟨u, k _ _ h1, k _ _ h2⟩
  | .marks _, k, ⟨u, bs, h1, h2, h3, h4⟩ => ⟨u, bs, k _ _ h1, k _ _ h2, fun b hb => k _ _ (h3 b hb), h4⟩
theorem But.tups {p : Addr} {H H' : Hp} {x : List V} (b : But p H H') (hp : H p = some (.lst x)) : ∀ a xs, H a = some (.tup xs) → H' a = some (.tup xs) := fun a xs h => b a _ (fun e => by rw [e, hp] at h; cases h) h
/-- tuples stay -/
def TK (H H' : Hp) : Prop := ∀ a xs, H a = some (.tup xs) → H' a = some (.tup xs)
theorem TK.trans {H H1 H2 : Hp} (a : TK H H1) (b : TK H1 H2) : TK H H2 := fun c xs h => b c xs (a c xs h)
theorem TK.new {H : Hp} {q : Addr} {o : HO} (n : H q = none) : TK H (upd H q o) := fun c xs h => (upd_ne (ne_of_none h n)).trans h
theorem TK.lst {H : Hp} {q : Addr} {x : List V} {o : HO} (n : H q = some (.lst x)) : TK H (upd H q o) := fun c xs h => (upd_ne (fun e => by rw [e, n] at h; cases h)).trans h
def RowsAt (H : Hp) (u : Addr) (rows : List (Bal × Int)) : Prop := ∃ as : List (Addr × Addr × (Bal × Int)), H u = some (.tup (as.map fun a => V.ref a.1)) ∧ (∀ a ∈ as, H a.1 = some (.tup [.ref a.2.1, .int a.2.2.2]) ∧ BalAt H a.2.1 a.2.2.1) ∧ as.map (·.2.2) = rows
theorem RowsAt.keep {H H' : Hp} {u : Addr} {rows : List (Bal × Int)} (k : TK H H') (h : RowsAt H u rows) : RowsAt H' u rows := by
  obtain ⟨as, h1, h2, h3⟩ := h
  exact ⟨as, k _ _ h1, fun a ha => ⟨k _ _ (h2 a ha).1, (h2 a ha).2.keep k⟩, h3⟩
def RowsOk (zs : List Str) (n : Nat) (rows : List (Bal × Int)) : Prop := rows.length ≤ n ∧ ∀ r ∈ rows, r.1.Ok zs ∧ 1 ≤ r.2 ∧ r.2 ≤ 1000000
section
variable {P : Program} {w : World} {K : PySem.W.Frag} {mg : Str → Option Value} {base : Heap}
/-! ### one of several -/
def sp_law_one : Sp := fun vs H Q _ => ∃ (p : Addr) (sv : V) (x : List V) (k : Nat), vs = [.ref p, sv] ∧ H p = some (.lst x) ∧ WellL x k ∧ k ≤ 1000000 ∧
  ((∃ z : Str, sv = .str z ∧ 0 < z.length ∧ z.length ≤ 1000 ∧ ∀ (c : Nat) (y : List V), c ∈ z.cps.toList → WellL y (k + 1) → Q (.str ⟨#[c]⟩) (upd H p (.lst y))) ∨
    (∃ (l : Addr) (xs : List V), sv = .ref l ∧ H l = some (.lst xs) ∧ l ≠ p ∧ 0 < xs.length ∧ xs.length ≤ 1000 ∧ ∀ (v : V) (y : List V), v ∈ xs → WellL y (k + 1) → Q v (upd H p (.lst y))) ∨
    ∃ (l : Addr) (xs : List V), sv = .ref l ∧ H l = some (.tup xs) ∧ 0 < xs.length ∧ xs.length ≤ 1000 ∧ ∀ (v : V) (y : List V), v ∈ xs → WellL y (k + 1) → Q v (upd H p (.lst y)))
theorem at_mem {α : Type} {xs : List α} {d : Int} (h0 : 0 ≤ d) (h1 : d < xs.length) : ∃ v, atI xs d = some v ∧ v ∈ xs := by
  obtain ⟨j, rfl⟩ := Int.eq_ofNat_of_zero_le h0
  have hj : j < xs.length := by omega
  exact ⟨xs[j], atI_nat (List.getElem?_eq_getElem hj), List.getElem_mem hj⟩
theorem ok_law_one (T : Txt K mg) : FnOk P w K mg base CX0 2 T.f_law_one T.fd_law_one ["_law_well_here", "_law_some"] sp_law_one := by
  refine T.F_law_one.ok sc_law_one (fun vs H Q E h => ?_) (fun cdv A outer s H vs Q E hr h => ?_)
  · obtain ⟨p, sv, x, k, rfl, _⟩ := h
    rfl
  · obtain ⟨p, sv, x, k, rfl, hp, hx, hk, h⟩ := h
    refine ⟨_, (pss_one
 (ps_ret (pe_ix (ix_or ix_str (ix_or ix_list ix_tup)) (pv 1) (pe_call (ok_law_draw T) (hr.mono (by decide)) (by rfl) T.g_law_draw T.F_law_draw.kp T.b_law_draw .nil pass0 (pa_cons (pv 0) (pa_cons (pe_callB (call_or call_len_str call_len_seq) (by rfl) T.z_len (by decide +kernel) (pa_cons (pv 1) pa_nil)) pa_nil))) (fun _ _ => rfl)))), ?_⟩
    rcases h with ⟨z, rfl, z0, z1, q⟩ | ⟨l, xs, rfl, hl, hlp, l0, l1, q⟩ | ⟨l, xs, rfl, hl, l0, l1, q⟩
    · refine ⟨.str z, rfl, .ref p, rfl, .str z, rfl, .inl ⟨z, rfl, line_of z1, p, _, x, k, rfl, hp, hx, hk, by omega, size_ok (by omega) (by omega), fun d y h0 h1 hy => ?_⟩⟩
      have e : z.length = z.cps.toList.length := by unfold Str.length; rw [Array.length_toList]
      rw [e] at h1
      obtain ⟨c, hc, hm⟩ := at_mem h0 h1
      exact .inl ⟨z, d, c, rfl, rfl, line_of z1, hc, q c y hm hy⟩
    · refine ⟨.ref l, rfl, .ref p, rfl, .ref l, rfl, .inr ⟨l, _, rfl, .inl (.of hl), p, _, x, k, rfl, hp, hx, hk, by omega, size_ok (by omega) (by omega), fun d y h0 h1 hy => ?_⟩⟩
      obtain ⟨v, hv, hm⟩ := at_mem h0 h1
      exact .inr (.inl ⟨l, xs, d, v, rfl, rfl, .of (by rw [upd_ne hlp]; exact hl), hv, q v y hm hy⟩)
    · have hlp : l ≠ p := fun e => by rw [e, hp] at hl; cases hl
      refine ⟨.ref l, rfl, .ref p, rfl, .ref l, rfl, .inr ⟨l, _, rfl, .inr (.of hl), p, _, x, k, rfl, hp, hx, hk, by omega, size_ok (by omega) (by omega), fun d y h0 h1 hy => ?_⟩⟩
      obtain ⟨v, hv, hm⟩ := at_mem h0 h1
      exact .inr (.inr ⟨l, xs, d, v, rfl, rfl, .of (by rw [upd_ne hlp]; exact hl), hv, q v y hm hy⟩)
end
section
variable {P : Program} {w : World} {K : PySem.W.Frag} {mg : Str → Option Value} {base : Heap}
/-! ### any order -/
theorem shaped_strs {t : List Str} (h : ∀ z ∈ t, PyData.strOk z = true) : SeqAt.shaped (.list (t.map PyData.str)) = true := by
  obtain ⟨h1, h2⟩ := lay_strs t h
  unfold SeqAt.shaped
  rw [PyData.canLay0, h1, PyData.depth]
  simp only [Bool.true_and, decide_eq_true_eq]
  omega
def sp_law_shuffled : Sp := fun vs H Q _ => ∃ (p t : Addr) (zs : List Str) (x : List V) (k : Nat), vs = [.ref p, .ref t] ∧ H p = some (.lst x) ∧ H t = some (.tup (zs.map V.str)) ∧ zs.length ≤ 6 ∧ (∀ z ∈ zs, NameOk z) ∧ WellL x k ∧ k ≤ 900000 ∧
  ∀ (u : Addr) (ws : List Str) (y : List V) (H' : Hp), ws.Perm zs → But p H H' → H u = none → H' u = some (.tup (ws.map V.str)) → H' p = some (.lst y) → WellL y (k + 6) → Q (.ref u) H'
theorem erase_map {α β : Type} (f : α → β) : ∀ (l : List α) (n : Nat), (l.map f).eraseIdx n = (l.eraseIdx n).map f
  | [], _ => rfl
  | _ :: _, 0 => rfl
  | a :: l, n + 1 => congrArg (f a :: ·) (erase_map f l n)
def leftOf (l : Addr) (_ : L2.St) (H : Hp) : Nat := match H l with
  | some (.lst xs) => xs.length
  | _ => 0
theorem ok_law_shuffled (T : Txt K mg) : FnOk P w K mg base CX0 2 T.f_law_shuffled T.fd_law_shuffled ["_law_well_here", "_law_some"] sp_law_shuffled := by
  refine T.F_law_shuffled.ok sc_law_shuffled (fun vs H Q E h => ?_) (fun cdv A outer s H vs Q E hr h => ?_)
  · obtain ⟨p, t, zs, x, k, rfl, _⟩ := h
    rfl
  · obtain ⟨p, t, zs, x, k, rfl, hp, ht, hn, ok, hx, hk, q⟩ := h
    refine ⟨_, (pss_cons
 (ps_set (i := 2) sc_law_shuffled.nd rfl (Or.inl rfl) (pe_callTy call_list_of (by rfl) T.z_list (by decide +kernel) (pa_cons (pv 1) pa_nil)))
 (pss_cons
 (ps_set (i := 3) sc_law_shuffled.nd rfl (Or.inl rfl) (pe_lst pa_nil))
 (pss_cons
 (ps_while PassesOwn.never (pt_cmpR (op_neD hr.units) (pv 2) (pe_lst pa_nil) (nomark _))
 (pss_one
 (ps_expr (pe_bm PySem.F.plainAttrs_list PySem.F.slot_list_append PySem.F.type_list_append mt_append (pv 3) (pa_cons (pe_bm PySem.F.plainAttrs_list PySem.F.slot_list_pop PySem.F.type_list_pop mt_popAt (pv 2) (pa_cons (pe_call (ok_law_draw T) (hr.mono (by decide)) (by rfl) T.g_law_draw T.F_law_draw.kp T.b_law_draw .nil pass0 (pa_cons (pv 0) (pa_cons (pe_callB call_len_seq (by rfl) T.z_len (by decide +kernel) (pa_cons (pv 2) pa_nil)) pa_nil))) pa_nil)) pa_nil)))))
 (pss_one
 (ps_ret (pe_callTy call_tuple_of (by rfl) T.z_tuple (by decide +kernel) (pa_cons (pv 3) pa_nil))))))), ?_⟩
    refine ⟨.ref t, rfl, t, _, rfl, .inr (.of ht), fun l nl => ?_⟩
    have hpl := ne_of_none hp nl
    refine ⟨line_of (show 0 ≤ 1000 by decide), fun g ng => ?_⟩
    have hlg : l ≠ g := fun e => by rw [← e, upd_same] at ng; cases ng
    have ngH : H g = none := by rw [upd_ne hlg.symm] at ng; exact ng
    have hpg := ne_of_none hp ngH
    refine while_by (fun σ H' => σ = [some (.ref p), some (.ref t), some (.ref l), some (.ref g)] ∧ ∃ (left done : List Str) (y : List V) (i : Nat), H' l = some (.lst (left.map V.str)) ∧ H' g = some (.lst (done.map V.str)) ∧ (done ++ left).Perm zs ∧ done.length = i ∧
        But p H H' ∧ H' p = some (.lst y) ∧ WellL y (k + i)) (leftOf l)
      ⟨rfl, zs, [], x, 0, by rw [upd_ne hlg, upd_same], upd_same, List.Perm.refl _, rfl, ((But.refl p H).mut nl).mut ngH, by rw [upd_ne hpg, upd_ne hpl]; exact hp, hx⟩ ?_
      (fun σ H Q Q' imp h => by
        obtain ⟨x, h1, h2, h3⟩ := h
        refine ⟨x, h1, h2, fun le nle => ?_⟩
        obtain ⟨d, e, a, b, c, f, kk, gg, hh⟩ := h3 le nle
        exact ⟨d, e, a, b, c, f, kk, gg, imp _ _ hh⟩)
    rintro σ H1 ⟨rfl, left, done, y, i, hl, hg, pm, ld, hb, hp1, hw⟩
    have len := pm.length_eq
    rw [List.length_append] at len
    have sok : ∀ z ∈ left, PyData.strOk z = true := fun z hz => small_ok (ok z (pm.mem_iff.mp (List.mem_append_right _ hz))).2.2
    refine ⟨.ref l, rfl, line_of (show 0 ≤ 1000 by decide), fun le nle => ?_⟩
    have lle := ne_of_none hl nle
    have gle := ne_of_none hg nle
    have ple := ne_of_none hp1 nle
    have hl' : (upd H1 le (.lst [])) l = some (.lst (left.map V.str)) := by rw [upd_ne lle]; exact hl
    have hg' : (upd H1 le (.lst [])) g = some (.lst (done.map V.str)) := by rw [upd_ne gle]; exact hg
    have hp' : (upd H1 le (.lst [])) p = some (.lst y) := by rw [upd_ne ple]; exact hp1
    have hb' := hb.mut (o := HO.lst []) (hb.free hp1 nle)
    refine ⟨.list (left.map PyData.str), .list [], .lst (.of hl') (dp_strs left), .lst (.of upd_same) .nil, shaped_strs sok, rfl, ?_⟩
    have eL : leftOf l [some (.ref p), some (.ref t), some (.ref l), some (.ref g)] H1 = left.length := by
      unfold leftOf
      rw [hl]
      exact List.length_map _
    generalize upd H1 le (.lst []) = H2 at hl' hg' hp' hb'
    by_cases h0 : left = []
    · subst h0
      refine ⟨_, rfl, iteF ?_⟩
      rw [List.append_nil] at pm
      refine ⟨.ref g, rfl, g, _, rfl, .inl ⟨.of hg', fun u nu => ?_⟩⟩
      refine q u done y _ pm (hb'.mut (hb'.free hp' nu)) (hb'.free hp' nu) upd_same (by rw [upd_ne (ne_of_none hp' nu)]; exact hp') (hw.mono ?_)
      have : ([] : List Str).length = 0 := rfl
      omega
    · have hc : (!PyData.eqv (.list (left.map PyData.str)) (.list [])) = true := by
        cases left with
        | nil => exact absurd rfl h0
        | cons a r => rfl
      rw [hc]
      have hpos := List.length_pos_iff.mpr h0
      refine ⟨_, rfl, iteT ?_⟩
      refine ⟨.ref g, rfl, .inl ⟨rfl, _, .of hg'⟩, .ref l, rfl, .inl ⟨rfl, _, .of hl'⟩, .ref p, rfl, .ref l, rfl, l, _, rfl, .inl (.of hl'), p, _, y, _, rfl, hp', hw, by omega, by rw [List.length_map]; omega, size_ok (by rw [List.length_map]; omega) (by rw [List.length_map]; omega), fun d y2 d0 d1 hw2 => ?_⟩
      rw [List.length_map] at d1
      have hd : d.toNat < left.length := by omega
      refine ⟨l, _, d, d.toNat, .str left[d.toNat], rfl, rfl, by rw [upd_ne hpl.symm]; exact hl', by omega, by omega, by rw [List.length_map]; exact seqIndex_of d0 d1, by rw [List.getElem?_map, List.getElem?_eq_getElem hd]; rfl, ?_⟩
      have hg2 : (upd (upd H2 p (.lst y2)) l (.lst ((left.map V.str).eraseIdx d.toNat))) g = some (.lst (done.map V.str)) := by rw [upd_ne hlg.symm, upd_ne hpg.symm]; exact hg'
      refine ⟨g, _, _, rfl, rfl, hg2, small1000 (by rw [List.length_map]; omega), ⟨rfl, left.eraseIdx d.toNat, done ++ [left[d.toNat]], y2, i + 1, ?_, ?_, ?_, by rw [List.length_append, ld]; rfl, ((hb'.upd _).mut nl).mut ngH, by rw [upd_ne hpg, upd_ne hpl, upd_same], hw2⟩, ?_⟩
      · rw [upd_ne hlg, upd_same, erase_map]
      · rw [upd_same, List.map_append]
        rfl
      · rw [List.append_assoc]
        exact ((pick_perm left d.toNat hd).append_left done).trans pm
      · rw [eL]
        unfold leftOf
        rw [upd_ne hlg, upd_same]
        show ((left.map V.str).eraseIdx d.toNat).length < left.length
        rw [erase_map, List.length_map, List.length_eraseIdx]
        split <;> omega
end
theorem abc_small : ∀ c ∈ abc.cps.toList, 97 ≤ c ∧ c ≤ 122 := by decide +kernel
theorem sum_ones : ∀ ys : List Str, (∀ z ∈ ys, z.length = 1) → (ys.map (·.length)).sum ≤ ys.length
  | [], _ => Nat.le_refl _
  | a :: l, h => by
    have := sum_ones l fun z hz => h z (List.mem_cons_of_mem _ hz)
    have := h a List.mem_cons_self
    rw [List.map_cons, List.sum_cons, List.length_cons]
    omega
theorem stem_ok (ys : List Str) (h : ∀ z ∈ ys, Small z ∧ z.length = 1) : Small (Txt.join Str.empty ys) ∧ (Txt.join Str.empty ys).length ≤ ys.length := by
  have e : Txt.join Str.empty ys = Str.join Str.empty ys := StrLaws.glued_eq_join _ _
  rw [e]
  constructor
  · intro c hc
    rcases (PyProof.Rows.mem_join Str.empty c ys).mp hc with ⟨t, ht, hct⟩ | ⟨_, hn⟩
    · exact (h t ht).1 c hct
    · cases hn
  · have h1 := StrLaws.join_length_le Str.empty ys
    have h2 := sum_ones ys fun z hz => (h z hz).2
    have : Str.empty.length = 0 := rfl
    rw [this] at h1
    omega
def nmOf (tn : Int) (c : Nat) (st : Str) : Str := if tn = 0 then ⟨#[c]⟩ ++ st else if tn = 1 then st ++ ⟨#[c]⟩ else ⟨#[c]⟩
def keyOf (tn : Int) (z : Str) : Nat := if tn = 1 then z.cps.toList.getLastD 0 else z.cps.toList.headD 0
theorem key_nm (tn : Int) (c : Nat) (st : Str) : keyOf tn (nmOf tn c st) = c := by
  unfold keyOf nmOf
  by_cases h0 : tn = 0
  · rw [if_pos h0, if_neg (by omega), Str.cps_append, Array.toList_append]
    rfl
  · rw [if_neg h0]
    by_cases h1 : tn = 1
    · rw [if_pos h1, if_pos h1, cps_more, List.getLastD_concat]
    · rw [if_neg h1, if_neg h1]
      rfl
theorem nm_ok {tn : Int} {c : Nat} {st : Str} (hs : Small st) (hl : st.length ≤ 7) (h0 : 97 ≤ c) (h1 : c ≤ 122) : NameOk (nmOf tn c st) := by
  have one : (⟨#[c]⟩ : Str).length = 1 := rfl
  have sm : Small (⟨#[c]⟩ : Str) := fun d hd => by
    have : d = c := by simpa using hd
    omega
  have cat : ∀ {a b : Str}, Small a → Small b → Small (a ++ b) := fun ha hb d hd => by
    rw [Str.cps_append, Array.toList_append] at hd
    rcases List.mem_append.mp hd with hd | hd
    · exact ha d hd
    · exact hb d hd
  unfold nmOf
  split
  · exact ⟨by rw [Str.length_append]; omega, by rw [Str.length_append]; omega, cat sm hs⟩
  · split
    · exact ⟨by rw [Str.length_append]; omega, by rw [Str.length_append]; omega, cat hs sm⟩
    · exact ⟨by omega, by omega, sm⟩
theorem nm_at (st : Str) (c : Nat) {tn : Int} (t0 : 0 ≤ tn) (t1 : tn < 3) : atI [V.str (⟨#[c]⟩ ++ st), V.str (st ++ ⟨#[c]⟩), V.str ⟨#[c]⟩] tn = some (.str (nmOf tn c st)) := by
  rcases (show tn = 0 ∨ tn = 1 ∨ tn = 2 by omega) with rfl | rfl | rfl
  · exact atI_nat (j := 0) rfl
  · exact atI_nat (j := 1) rfl
  · exact atI_nat (j := 2) rfl
theorem steps5_nodup (a : Int) {n : Nat} (hn : n ≤ 6) : ((List.range n).map fun j : Nat => 97 + ((a + 5 * (j : Int)) % 26).toNat).Nodup := by
  refine List.pairwise_map.mpr (List.Pairwise.imp_of_mem (fun {i j} hi hj h => ?_) (List.pairwise_lt_range (n := n)))
  have h1 := List.mem_range.mp hi
  have h2 := List.mem_range.mp hj
  intro e
  omega
section
variable {P : Program} {w : World} {K : PySem.W.Frag} {mg : Str → Option Value} {base : Heap}
/-! ### drawn names -/
def sp_law_names : Sp := fun vs H Q _ => ∃ (p : Addr) (n : Int) (x : List V) (k : Nat), vs = [.ref p, .int n] ∧ H p = some (.lst x) ∧ WellL x k ∧ k ≤ 900000 ∧ 0 ≤ n ∧ n ≤ 6 ∧
  ∀ (t : Addr) (zs : List Str) (y : List V) (H' : Hp), zs.length = n.toNat → zs.Nodup → (∀ z ∈ zs, NameOk z) → But p H H' → H t = none → H' t = some (.tup (zs.map V.str)) → H' p = some (.lst y) → WellL y (k + 20) → Q (.ref t) H'
theorem ok_law_names (T : Txt K mg) : FnOk P w K mg base CX0 3 T.f_law_names T.fd_law_names ["_law_well_here", "_law_size"] sp_law_names := by
  refine T.F_law_names.ok sc_law_names (fun vs H Q E h => ?_) (fun cdv A outer s H vs Q E hr h => ?_)
  · obtain ⟨p, n, x, k, rfl, _⟩ := h
    rfl
  · obtain ⟨p, n, x, k, rfl, hp, hx, hk, n0, n6, q⟩ := h
    refine ⟨_, (pss_cons
 (ps_set (i := 2) sc_law_names.nd rfl (Or.inr rfl) pe_str)
 (pss_cons
 (ps_set (i := 3) sc_law_names.nd rfl (Or.inl rfl) (pe_call (ok_law_draw T) (hr.mono (by decide)) (by rfl) T.g_law_draw T.F_law_draw.kp T.b_law_draw .nil pass0 (pa_cons (pv 0) (pa_cons pe_int pa_nil))))
 (pss_cons
 (ps_set (i := 4) sc_law_names.nd rfl (Or.inl rfl) (pe_join pe_str (pe_lc (own := [("_law_k", 7)]) (g := gName 7) (tt := tYes) rfl sc_law_names.nd (pi_range1 rfl T.z_range (pa_cons (pe_call (ok_law_draw T) (hr.mono (by decide)) (by rfl) T.g_law_draw T.F_law_draw.kp T.b_law_draw .nil pass0 (pa_cons (pv 0) (pa_cons pe_int pa_nil))) pa_nil)) (blkOk_by (own := [("_law_k", 7)]) (N := ["_law_well_here", "_law_size", "_law_letters", "_law_first", "_law_stem", "_law_turn", "_law_found", "_law_k", "_law_sign"]) (sc := (defScope s_law_names)) (by decide +kernel)) (fun _ _ _ _ _ => pg_name (i := 7) sc_law_names.nd rfl (Or.inl rfl)) (fun _ _ _ _ _ => pts_nil) (fun _ _ _ _ _ => (pe_call (ok_law_one T) (hr.mono (by decide)) (by rfl) T.g_law_one T.F_law_one.kp T.b_law_one .nil pass0 (pa_cons (pv 0) (pa_cons (pv 2) pa_nil)))))))
 (pss_cons
 (ps_set (i := 5) sc_law_names.nd rfl (Or.inl rfl) (pe_call (ok_law_draw T) (hr.mono (by decide)) (by rfl) T.g_law_draw T.F_law_draw.kp T.b_law_draw .nil pass0 (pa_cons (pv 0) (pa_cons pe_int pa_nil))))
 (pss_cons
 (ps_set (i := 6) sc_law_names.nd rfl (Or.inl rfl) (pe_lst pa_nil))
 (pss_cons
 (ps_for PassesOwn.never rfl (pi_range1 rfl T.z_range (pa_cons (pv 1) pa_nil)) (pg_name (i := 7) sc_law_names.nd rfl (Or.inl rfl))
 (pss_cons
 (ps_set (i := 8) sc_law_names.nd rfl (Or.inl rfl) (pe_ix ix_str (pv 2) (pe_op op_mod (pe_op op_add (pv 3) (pe_op op_mulW pe_int (pv 7))) pe_int) (fun _ _ => rfl)))
 (pss_one
 (ps_expr (pe_bm PySem.F.plainAttrs_list PySem.F.slot_list_append PySem.F.type_list_append mt_append (pv 6) (pa_cons (pe_ix ix_list (pe_lst (pa_cons (pe_op op_add_str (pv 8) (pv 4)) (pa_cons (pe_op op_add_str (pv 4) (pv 8)) (pa_cons (pv 8) pa_nil)))) (pv 5) (fun _ _ => rfl)) pa_nil))))))
 (pss_one
 (ps_ret (pe_callTy call_tuple_of (by rfl) T.z_tuple (by decide +kernel) (pa_cons (pv 6) pa_nil)))))))))), ?_⟩
    have lenL : abc.length ≤ sizeLine := line_of (by rw [abc_len]; decide)
    refine ⟨.ref p, rfl, p, 26, x, k, rfl, hp, hx, by omega, by decide, size_ok (by decide) (by decide), fun a x1 a0 a1 w1 => ?_⟩
    refine ⟨⟨_, rfl⟩, .ref p, rfl, p, 8, x1, _, rfl, upd_same, w1, by omega, by decide, size_ok (by decide) (by decide), fun m x2 m0 m1 w2 => ?_⟩
    rw [upd_upd]
    refine ⟨m, rfl, by omega, by omega, fun D nD => ?_⟩
    have hpm : (upd H p (.lst x2)) p = some (.lst x2) := upd_same
    have pD := ne_of_none hpm nD
    have nDH : H D = none := by rw [upd_ne pD.symm] at nD; exact nD
    refine lc_range (fun i H' => ∃ (ys : List Str) (y : List V), H' D = some (.lst (ys.map V.str)) ∧ ys.length = i ∧ (∀ z ∈ ys, Small z ∧ z.length = 1) ∧ But p H H' ∧ H' p = some (.lst y) ∧ WellL y (k + 2 + i))
      ⟨[], x2, upd_same, rfl, fun _ h => (by cases h), ((But.refl p H).upd _).mut nDH, by rw [upd_ne pD]; exact hpm, w2⟩ ?_ ?_
    · rintro i H1 hi ⟨ys, y, hD, ly, hys, hb, hp1, hw⟩
      refine ⟨rfl, .ref p, rfl, .str abc, rfl, p, .str abc, y, _, rfl, hp1, hw, by omega, .inl ⟨abc, rfl, by rw [abc_len]; decide, by rw [abc_len]; decide, fun c y2 hc hw2 => ?_⟩⟩
      refine ⟨ys.map V.str, by rw [upd_ne pD.symm]; exact hD, small1000 (by rw [List.length_map]; omega), ys ++ [⟨#[c]⟩], y2, ?_, by rw [List.length_append, ly]; rfl, ?_, (hb.upd _).mut nDH, by rw [upd_ne pD, upd_same], hw2.mono (by omega)⟩
      · rw [upd_same, List.map_append]
        rfl
      · intro z hz
        rcases List.mem_append.mp hz with hz | hz
        · exact hys z hz
        · rw [List.mem_singleton.mp hz]
          exact ⟨fun d hd => by
            have : d = c := by simpa using hd
            rw [this]
            exact abc_small c hc, rfl⟩
    · rintro H1 ⟨ys, y, hD, ly, hys, hb, hp1, hw⟩
      obtain ⟨st1, st2⟩ := stem_ok ys hys
      refine ⟨Str.empty, D, ys, rfl, rfl, .inl (.of hD), ?_, ?_⟩
      · have e : (ys.map (·.length)).sum ≤ ys.length := sum_ones ys fun z hz => (hys z hz).2
        have : Str.empty.length = 0 := rfl
        rw [this]
        omega
      rw [ly] at st2
      have st3 : (Txt.join Str.empty ys).length ≤ 7 := by omega
      show _
      generalize Txt.join Str.empty ys = st at st1 st3
      refine ⟨.ref p, rfl, p, 3, y, _, rfl, hp1, hw, by omega, by decide, size_ok (by decide) (by decide), fun tn y3 t0 t1 w3 => ?_⟩
      refine ⟨line_of (show 0 ≤ 1000 by decide), fun l nl => ?_⟩
      have hpm3 : (upd H1 p (.lst y3)) p = some (.lst y3) := upd_same
      have pl := ne_of_none hpm3 nl
      have nlH : H l = none := (hb.upd (.lst y3)).free hpm3 nl
      refine ⟨.int n, rfl, n, rfl, by omega, by omega, for_range (fun i σ H' => ∃ (x7 x8 : Option V) (zs : List Str), σ = [some (.ref p), some (.int n), some (.str abc), some (.int a), some (.str st), some (.int tn), some (.ref l), x7, x8] ∧ H' l = some (.lst (zs.map V.str)) ∧
          zs.map (keyOf tn) = ((List.range i).map fun j : Nat => 97 + ((a + 5 * (j : Int)) % 26).toNat) ∧ (∀ z ∈ zs, NameOk z) ∧ But p H H' ∧ H' p = some (.lst y3))
        ⟨_, none, [], rfl, upd_same, rfl, fun _ h => (by cases h), (hb.upd _).mut nlH, by rw [upd_ne pl]; exact hpm3⟩ ?_ ?_⟩
      · rintro i σ H2 hi ⟨x7, x8, zs, rfl, hl, hm, hz, hb2, hp2⟩
        have lz : zs.length = i := by
          have := congrArg List.length hm
          rw [List.length_map, List.length_map, List.length_range] at this
          exact this
        have m0 : 0 ≤ (a + 5 * (0 + (i : Int))) % 26 ∧ (a + 5 * (0 + (i : Int))) % 26 < 26 := mix_mod _ _ (by decide)
        refine ⟨.str abc, rfl, .int a, rfl, .int (0 + (i : Int)), rfl, _, _, rfl, rfl, mulOk (n := 3) (m := 3) (by decide) (by omega) (by decide), _, _, rfl, rfl, _, _, rfl, rfl, (by show (0 : Int) < 26; decide), ?_⟩
        refine ⟨abc, _, _, rfl, rfl, lenL, abc_at m0.1 m0.2, ?_⟩
        have hc : 97 ≤ 97 + ((a + 5 * (0 + (i : Int))) % 26).toNat ∧ 97 + ((a + 5 * (0 + (i : Int))) % 26).toNat ≤ 122 := by omega
        have ec : 97 + ((a + 5 * (0 + (i : Int))) % 26).toNat = 97 + ((a + 5 * (i : Int)) % 26).toNat := by rw [Int.zero_add]
        generalize 97 + ((a + 5 * (0 + (i : Int))) % 26).toNat = c at hc ec
        have l1 : (⟨#[c]⟩ : Str).length = 1 := rfl
        refine ⟨.ref l, rfl, .inl ⟨rfl, _, .of hl⟩, .str ⟨#[c]⟩, rfl, .str st, rfl, _, _, rfl, rfl, line_of (by omega), .str st, rfl, .str ⟨#[c]⟩, rfl, _, _, rfl, rfl, line_of (by omega), .str ⟨#[c]⟩, rfl, line_of (show 3 ≤ 1000 by decide), fun l3 n3 => ?_⟩
        have ll3 := ne_of_none hl n3
        refine ⟨.int tn, rfl, l3, _, tn, _, rfl, rfl, .of upd_same, nm_at st c t0 t1, ?_⟩
        refine ⟨l, _, _, rfl, rfl, by rw [upd_ne ll3]; exact hl, small1000 (by rw [List.length_map]; omega), _, _, zs ++ [nmOf tn c st], rfl, ?_, ?_, ?_, (hb2.mut (hb2.free hp2 n3)).mut nlH, by rw [upd_ne pl, upd_ne (ne_of_none hp2 n3)]; exact hp2⟩
        · rw [upd_same, List.map_append]
          rfl
        · rw [List.map_append, hm, List.range_succ, List.map_append]
          refine congrArg _ ?_
          show [keyOf tn (nmOf tn c st)] = [_]
          rw [key_nm, ec]
        · intro z hz'
          rcases List.mem_append.mp hz' with h | h
          · exact hz z h
          · rw [List.mem_singleton.mp h]
            exact nm_ok st1 st3 hc.1 hc.2
      · rintro σ H2 ⟨x7, x8, zs, rfl, hl, hm, hz, hb2, hp2⟩
        refine ⟨.ref l, rfl, l, _, rfl, .inl ⟨.of hl, fun t nt => ?_⟩⟩
        have lz : zs.length = n.toNat := by
          have := congrArg List.length hm
          rw [List.length_map, List.length_map, List.length_range] at this
          exact this
        refine q t zs y3 _ lz ?_ hz (hb2.mut (hb2.free hp2 nt)) (hb2.free hp2 nt) upd_same (by rw [upd_ne (ne_of_none hp2 nt)]; exact hp2) (w3.mono (by omega))
        have nd := steps5_nodup a (n := n.toNat) (by omega)
        rw [← hm] at nd
        exact (List.pairwise_map.mp nd).imp fun h e => h (congrArg (keyOf tn) e)
end
theorem slA_of {K : PySem.W.Frag} {H : Hp} {a : Addr} {ws : List Str} {lo hi : Option Int} {Q : VK} (h : H a = some (.tup (ws.map V.str))) (c : ∀ (s : Addr) (ms : List Str) (H' : Hp), H' s = some (.tup (ms.map V.str)) → ms.Sublist ws → Same H H' → Q (.ref s) H') : rSlA K (.ref a) lo hi H Q := by
  refine ⟨a, _, rfl, .of h, fun _ => c a ws H h (List.Sublist.refl _) (Same.refl _), fun _ s ns => ?_⟩
  obtain ⟨ms, em, sub⟩ := cut_strs ws lo hi
  rw [em]
  exact c s ms _ upd_same sub (same_upd ns)
theorem Tiers.keep {H H' : Hp} {bs : List (Addr × List Str)} (k : TK H H') (h : Tiers H bs) : Tiers H' bs := fun b hb => ⟨k _ _ (h b hb).1, (h b hb).2⟩
theorem TK.same {H H' : Hp} (s : Same H H') : TK H H' := fun a xs h => s a _ h
theorem strs_at {ms : List Str} {i : Nat} {v : V} (h : (ms.map V.str)[i]? = some v) : ∃ wd, ms[i]? = some wd ∧ v = V.str wd := by
  rw [List.getElem?_map] at h
  cases e : ms[i]? with
  | none => rw [e] at h; cases h
  | some b => rw [e] at h; exact ⟨b, rfl, (Option.some.inj h).symm⟩
theorem tiers_len {fb : List (Addr × List Str)} {ms : List Str} {i : Nat} (hne : ∀ b ∈ fb, b.2 ≠ []) (hf : (fb.map (·.2)).flatten = ms.take i) : fb.length ≤ i := by
  have h1 : ∀ l : List (Addr × List Str), (∀ b ∈ l, b.2 ≠ []) → l.length ≤ (l.map (·.2)).flatten.length := fun l => by
    induction l with
    | nil => intro _; exact Nat.le_refl _
    | cons b r ih =>
      intro hne
      have := ih fun c hc => hne c (List.mem_cons_of_mem _ hc)
      have := List.length_pos_iff.mpr (hne b List.mem_cons_self)
      rw [List.map_cons, List.flatten_cons, List.length_append, List.length_cons]
      omega
  have := h1 fb hne
  rw [hf, List.length_take] at this
  omega
section
variable {P : Program} {w : World} {K : PySem.W.Frag} {mg : Str → Option Value} {base : Heap}
/-! ### a ballot drawn -/
def sp_law_ballot : Sp := fun vs H Q _ => ∃ (p t : Addr) (zs : List Str) (x : List V) (k : Nat), vs = [.ref p, .ref t] ∧ H p = some (.lst x) ∧ H t = some (.tup (zs.map V.str)) ∧ 0 < zs.length ∧ zs.length ≤ 6 ∧ zs.Nodup ∧ (∀ z ∈ zs, NameOk z) ∧ WellL x k ∧ k ≤ 700000 ∧
  ∀ (u : Addr) (b : Bal) (y : List V) (H' : Hp), BalAt H' u b → b.Ok zs → But p H H' → H u = none → H' p = some (.lst y) → WellL y (k + 40) → Q (.ref u) H'
theorem ok_law_ballot (T : Txt K mg) : FnOk P w K mg base CX0 3 T.f_law_ballot T.fd_law_ballot ["_law_well_here", "_law_names_here"] (sp_law_ballot) := by
  refine T.F_law_ballot.ok sc_law_ballot (fun vs H Q E h => ?_) (fun cdv A outer s H vs Q E hr h => ?_)
  · obtain ⟨p, t, zs, x, k, rfl, _⟩ := h
    rfl
  · obtain ⟨p, t, zs, x, k, rfl, hp, ht, hn0, hn, nd, ok, hx, hk, q⟩ := h
    refine ⟨_, (pss_cons
 (ps_set (i := 2) sc_law_ballot.nd rfl (Or.inl rfl) (pe_call (ok_law_draw T) (hr.mono (by decide)) (by rfl) T.g_law_draw T.F_law_draw.kp T.b_law_draw .nil pass0 (pa_cons (pv 0) (pa_cons pe_int pa_nil))))
 (pss_cons
 (ps_set (i := 3) sc_law_ballot.nd rfl (Or.inl rfl) (pe_call (ok_law_shuffled T) (hr.mono (by decide)) (by rfl) T.g_law_shuffled T.F_law_shuffled.kp T.b_law_shuffled .nil pass0 (pa_cons (pv 0) (pa_cons (pv 1) pa_nil))))
 (pss_cons
 (ps_if (pt_cmpR op_eq (pv 2) pe_int (nomark _))
 (pss_one
 (ps_ret (pe_tup (pa_cons pe_str (pa_cons (pe_slice sl_tupA (pv 3) po_none (po_some (pe_call (ok_law_draw T) (hr.mono (by decide)) (by rfl) T.g_law_draw T.F_law_draw.kp T.b_law_draw .nil pass0 (pa_cons (pv 0) (pa_cons (pe_op op_add (pe_callB call_len_seq (by rfl) T.z_len (by decide +kernel) (pa_cons (pv 1) pa_nil)) pe_int) pa_nil))))) pa_nil)))))
 pss_nil)
 (pss_cons
 (ps_if (pt_cmpR op_eq (pv 2) pe_int (nomark _))
 (pss_one
 (ps_ret (pe_tup (pa_cons pe_str (pa_cons (pe_callTy call_tuple_of (by rfl) T.z_tuple (by decide +kernel) (pa_cons (pe_lc (own := [("_law_one_here", 5)]) (g := gName 5) (tt := tYes) rfl sc_law_ballot.nd (pi_tup (pe_slice sl_tupA (pv 3) (po_some pe_int) po_none)) (blkOk_by (own := [("_law_one_here", 5)]) (N := ["_law_well_here", "_law_names_here", "_law_kind", "_law_some", "_law_steps", "_law_one_here"]) (sc := (defScope s_law_ballot)) (by decide +kernel)) (fun _ _ _ _ _ => pg_name (i := 5) sc_law_ballot.nd rfl (Or.inl rfl)) (fun _ _ _ _ _ => pts_nil) (fun _ _ _ _ _ => (pe_tup (pa_cons (pv 5) (pa_cons (pe_call (ok_law_one T) (hr.mono (by decide)) (by rfl) T.g_law_one T.F_law_one.kp T.b_law_one .nil pass0 (pa_cons (pv 0) (pa_cons (pe_lst (pa_cons pe_int (pa_cons pe_int (pa_cons pe_int (pa_cons (pe_call (ok_law_draw T) (hr.mono (by decide)) (by rfl) T.g_law_draw T.F_law_draw.kp T.b_law_draw .nil pass0 (pa_cons (pv 0) (pa_cons pe_int pa_nil))) pa_nil))))) pa_nil))) pa_nil))))) pa_nil)) pa_nil)))))
 pss_nil)
 (pss_cons
 (ps_if (pt_cmpR op_gt (pv 2) pe_int (nomark _))
 (pss_one
 (ps_ret (pe_tup (pa_cons pe_str (pa_cons (pe_callTy call_tuple_of (by rfl) T.z_tuple (by decide +kernel) (pa_cons (pe_lc (own := [("_law_one_here", 5)]) (g := gName 5) (tt := tYes) rfl sc_law_ballot.nd (pi_tup (pv 3)) (blkOk_by (own := [("_law_one_here", 5)]) (N := ["_law_well_here", "_law_names_here", "_law_kind", "_law_some", "_law_steps", "_law_one_here"]) (sc := (defScope s_law_ballot)) (by decide +kernel)) (fun _ _ _ _ _ => pg_name (i := 5) sc_law_ballot.nd rfl (Or.inl rfl)) (fun _ _ _ _ _ => pts_nil) (fun _ _ _ _ _ => (pe_tup (pa_cons (pv 5) pa_nil)))) pa_nil)) pa_nil)))))
 pss_nil)
 (pss_cons
 (ps_set (i := 4) sc_law_ballot.nd rfl (Or.inl rfl) (pe_lst pa_nil))
 (pss_cons
 (ps_for PassesOwn.never rfl (pi_tup (pe_slice sl_tupA (pv 3) po_none (po_some (pe_op op_add pe_int (pe_call (ok_law_draw T) (hr.mono (by decide)) (by rfl) T.g_law_draw T.F_law_draw.kp T.b_law_draw .nil pass0 (pa_cons (pv 0) (pa_cons (pe_callB call_len_seq (by rfl) T.z_len (by decide +kernel) (pa_cons (pv 1) pa_nil)) pa_nil))))))) (pg_name (i := 5) sc_law_ballot.nd rfl (Or.inl rfl))
 (pss_one
 (ps_if (PW.pt (pw_and (pt_cmpR (op_neD hr.units) (pv 4) (pe_lst pa_nil) (nomark _)) (pw_and1 (pt_cmpR op_eq (pe_call (ok_law_draw T) (hr.mono (by decide)) (by rfl) T.g_law_draw T.F_law_draw.kp T.b_law_draw .nil pass0 (pa_cons (pv 0) (pa_cons pe_int pa_nil))) pe_int (nomark _)))))
 (pss_one
 (ps_asg (pe_op op_catT (pe_ix ix_list (pv 4) (pe_un un_neg pe_int) (fun _ _ => rfl)) (pe_tup (pa_cons (pv 5) pa_nil))) (pg_sub (pv 4) (pe_un un_neg pe_int) set_list)))
 (pss_one
 (ps_expr (pe_bm PySem.F.plainAttrs_list PySem.F.slot_list_append PySem.F.type_list_append mt_append (pv 4) (pa_cons (pe_tup (pa_cons (pv 5) pa_nil)) pa_nil)))))))
 (pss_one
 (ps_ret (pe_tup (pa_cons pe_str (pa_cons (pe_callTy call_tuple_of (by rfl) T.z_tuple (by decide +kernel) (pa_cons (pv 4) pa_nil)) pa_nil)))))))))))), ?_⟩
    have htp : t ≠ p := fun e => by rw [e, hp] at ht; cases ht
    refine ⟨.ref p, rfl, p, 8, x, k, rfl, hp, hx, by omega, by decide, size_ok (by decide) (by decide), fun kd x1 k0 k1 w1 => ?_⟩
    refine ⟨.ref p, rfl, .ref t, rfl, p, t, zs, x1, _, rfl, upd_same, by rw [upd_ne htp]; exact ht, hn, ok, w1, by omega, fun u ws y1 H1 pw b1 nu hu hp1 w2 => ?_⟩
    have ht1 : H1 t = some (.tup (zs.map V.str)) := b1 t _ htp (by rw [upd_ne htp]; exact ht)
    have bH1 : But p H H1 := ((But.refl p H).upd _).trans b1
    have wnd : ws.Nodup := (pw.nodup_iff).mpr nd
    have wsub : ∀ z ∈ ws, z ∈ zs := fun z hz => pw.mem_iff.mp hz
    have wl := pw.length_eq
    refine ⟨.int kd, rfl, rfl, _, rfl, ?_⟩
    cases decide (V.int kd = V.int 0) with
    | true =>
      refine iteT ⟨.ref u, rfl, .ref p, rfl, .ref t, rfl, t, _, rfl, .inr (.of ht1), _, _, rfl, rfl, p, _, y1, _, rfl, hp1, w2, by omega, by rw [List.length_map]; omega, size_ok (by rw [List.length_map]; omega) (by rw [List.length_map]; omega), fun e y2 e0 e1 w3 => ⟨e, rfl, ?_⟩⟩
      have kp : TK H1 (upd H1 p (.lst y2)) := TK.lst hp1
      refine slA_of (kp _ _ hu) fun s ms H2 hs sub sm => ⟨line_of (show 2 ≤ 1000 by decide), fun v nv => ?_⟩
      have b2 := (bH1.upd (.lst y2)).same sm
      have hp2 : H2 p = some (.lst y2) := sm _ _ upd_same
      exact q v (.lets ms) y2 _ ⟨s, upd_same, by rw [upd_ne (ne_of_none hs nv)]; exact hs⟩ ⟨wnd.sublist sub, fun z hz => wsub z (sub.subset hz)⟩ (b2.mut (b2.free hp2 nv)) (b2.free hp2 nv) (by rw [upd_ne (ne_of_none hp2 nv)]; exact hp2) (w3.mono (by omega))
    | false =>
      refine iteF ⟨.int kd, rfl, rfl, _, rfl, ?_⟩
      cases decide (V.int kd = V.int 1) with
      | true =>
        refine iteT ⟨.ref u, rfl, 1, rfl, ?_⟩
        dsimp only [tNoPart]
        refine slA_of hu fun s ms H2 hs sub sm => ?_
        refine ⟨s, rfl, ⟨_, .of hs⟩, fun D nD => ?_⟩
        have b2 := bH1.same sm
        have hp2 := sm _ _ hp1
        have pD := ne_of_none hp2 nD
        have nDH := b2.free hp2 nD
        have lms : ms.length ≤ 6 := by have := sub.length_le; omega
        refine lc_tup (K := K) (a := s) (xs := ms.map V.str) (fun i H' => ∃ (bs : List (Addr × (Str × Int))) (y : List V), H' D = some (.lst (bs.map fun b => V.ref b.1)) ∧ (∀ b ∈ bs, H' b.1 = some (.tup [.str b.2.1, .int b.2.2])) ∧
            bs.map (·.2.1) = ms.take i ∧ (∀ b ∈ bs, 0 ≤ b.2.2 ∧ b.2.2 ≤ 9) ∧ But p H H' ∧ H' p = some (.lst y) ∧ WellL y (k + 10 + 2 * i) ∧ H' s = some (.tup (ms.map V.str)))
          ⟨[], y1, upd_same, fun _ h => (by cases h), rfl, fun _ h => (by cases h), b2.mut nDH, by rw [upd_ne pD]; exact hp2, w2.mono (by omega), TK.new nD _ _ hs⟩ (fun _ _ _ h => by obtain ⟨_, _, _, _, _, _, _, _, _, z⟩ := h; exact .of z) ?_ ?_
        · rintro i v9 H3 hi ⟨bs, y, hD, hbs, hm, hr9, hb, hp3, hw, hs3⟩
          obtain ⟨wd, hwd, rfl⟩ := strs_at hi
          have il : i < ms.length := (List.getElem?_eq_some_iff.mp hwd).1
          have lbs : bs.length ≤ i := by
            have := congrArg List.length hm
            rw [List.length_map, List.length_take] at this
            omega
          refine ⟨rfl, .str wd, rfl, .ref p, rfl, .ref p, rfl, p, 10, y, _, rfl, hp3, hw, by omega, by decide, size_ok (by decide) (by decide), fun d y4 d0 d1 hw4 => ⟨line_of (show 4 ≤ 1000 by decide), fun l4 n4 => ?_⟩⟩
          have k4 : TK H3 (upd (upd H3 p (.lst y4)) l4 (.lst [V.int 0, V.int 9, V.int 5, V.int d])) := (TK.lst hp3).trans (TK.new n4)
          have hp4' : (upd H3 p (.lst y4)) p = some (.lst y4) := upd_same
          have pl4 := ne_of_none hp4' n4
          have hD4' : (upd H3 p (.lst y4)) D = some (.lst (bs.map fun b => V.ref b.1)) := by rw [upd_ne pD.symm]; exact hD
          have hb4 := (hb.upd (.lst y4)).mut (o := HO.lst [V.int 0, V.int 9, V.int 5, V.int d]) ((hb.upd (.lst y4)).free hp4' n4)
          have hp4 : (upd (upd H3 p (.lst y4)) l4 (.lst [V.int 0, V.int 9, V.int 5, V.int d])) p = some (.lst y4) := by rw [upd_ne pl4]; exact hp4'
          have hD4 : (upd (upd H3 p (.lst y4)) l4 (.lst [V.int 0, V.int 9, V.int 5, V.int d])) D = some (.lst (bs.map fun b => V.ref b.1)) := by rw [upd_ne (ne_of_none hD4' n4)]; exact hD4'
          have hl4 : (upd (upd H3 p (.lst y4)) l4 (.lst [V.int 0, V.int 9, V.int 5, V.int d])) l4 = some (.lst [V.int 0, V.int 9, V.int 5, V.int d]) := upd_same
          generalize upd (upd H3 p (.lst y4)) l4 (.lst [V.int 0, V.int 9, V.int 5, V.int d]) = H4 at k4 hb4 hp4 hD4 hl4
          refine ⟨p, .ref l4, y4, _, rfl, hp4, hw4, by omega, .inr (.inl ⟨l4, _, rfl, hl4, pl4.symm, (show 0 < 4 by decide), (show 4 ≤ 1000 by decide), fun v y5 hv hw5 => ?_⟩)⟩
          obtain ⟨mk, rfl, mk0, mk9⟩ : ∃ mk : Int, v = V.int mk ∧ 0 ≤ mk ∧ mk ≤ 9 := by
            have : v = V.int 0 ∨ v = V.int 9 ∨ v = V.int 5 ∨ v = V.int d := by simpa using hv
            rcases this with rfl | rfl | rfl | rfl
            · exact ⟨_, rfl, by decide, by decide⟩
            · exact ⟨_, rfl, by decide, by decide⟩
            · exact ⟨_, rfl, by decide, by decide⟩
            · exact ⟨_, rfl, d0, by omega⟩
          refine ⟨line_of (show 2 ≤ 1000 by decide), fun b nb => ?_⟩
          have k5 : TK H3 (upd (upd H4 p (.lst y5)) b (.tup [V.str wd, V.int mk])) := (k4.trans (TK.lst hp4)).trans (TK.new nb)
          have hD5' : (upd H4 p (.lst y5)) D = some (.lst (bs.map fun b => V.ref b.1)) := by rw [upd_ne pD.symm]; exact hD4
          have hp5' : (upd H4 p (.lst y5)) p = some (.lst y5) := upd_same
          have hD5 : (upd (upd H4 p (.lst y5)) b (.tup [V.str wd, V.int mk])) D = some (.lst (bs.map fun b => V.ref b.1)) := by rw [upd_ne (ne_of_none hD5' nb)]; exact hD5'
          have hb5 := (hb4.upd (.lst y5)).mut (o := HO.tup [V.str wd, V.int mk]) ((hb4.upd (.lst y5)).free hp5' nb)
          have hp5 : (upd (upd H4 p (.lst y5)) b (.tup [V.str wd, V.int mk])) p = some (.lst y5) := by rw [upd_ne (ne_of_none hp5' nb)]; exact hp5'
          have hq5 : (upd (upd H4 p (.lst y5)) b (.tup [V.str wd, V.int mk])) b = some (.tup [V.str wd, V.int mk]) := upd_same
          generalize upd (upd H4 p (.lst y5)) b (.tup [V.str wd, V.int mk]) = H5 at k5 hD5 hb5 hp5 hq5
          have kD := TK.lst (o := HO.lst ((bs.map fun b => V.ref b.1) ++ [V.ref b])) hD5
          refine ⟨bs.map fun b => V.ref b.1, hD5, small1000 (by rw [List.length_map]; omega), bs ++ [(b, (wd, mk))], y5, ?_, ?_, ?_, ?_, hb5.mut nDH, by rw [upd_ne pD]; exact hp5, hw5.mono (by omega), (k5.trans kD) _ _ hs3⟩
          · rw [upd_same, List.map_append]
            rfl
          · intro c hc
            rcases List.mem_append.mp hc with hc | hc
            · exact (k5.trans kD) _ _ (hbs c hc)
            · rw [List.mem_singleton.mp hc]
              exact kD _ _ hq5
          · rw [List.map_append, hm, take_more hwd]
            rfl
          · intro c hc
            rcases List.mem_append.mp hc with hc | hc
            · exact hr9 c hc
            · rw [List.mem_singleton.mp hc]
              exact ⟨mk0, mk9⟩
        · rintro H3 ⟨bs, y, hD, hbs, hm, hr9, hb, hp3, hw, hs3⟩
          rw [List.length_map, List.take_length] at hm
          refine ⟨D, _, rfl, .inl ⟨.of hD, fun u2 nu2 => ⟨line_of (show 2 ≤ 1000 by decide), fun v nv => ?_⟩⟩⟩
          have bu := hb.mut (o := HO.tup (bs.map fun b => V.ref b.1)) (hb.free hp3 nu2)
          have hpu := (upd_ne (o := HO.tup (bs.map fun b => V.ref b.1)) (ne_of_none hp3 nu2)).trans hp3
          have kk := (TK.new (o := HO.tup (bs.map fun b => V.ref b.1)) nu2).trans (TK.new (o := HO.tup [V.str "marks", V.ref u2]) nv)
          have hm2 : (bs.map (·.2)).map (·.1) = ms := by rw [List.map_map]; exact hm
          refine q v (.marks (bs.map (·.2))) y _ ⟨u2, bs, upd_same, TK.new nv _ _ upd_same, fun c hc => kk _ _ (hbs c hc), rfl⟩ ⟨by rw [hm2]; exact wnd.sublist sub, ?_, ?_⟩ (bu.mut (bu.free hpu nv)) (bu.free hpu nv) (by rw [upd_ne (ne_of_none hpu nv)]; exact hpu) (hw.mono (by rw [List.length_map]; omega))
          · intro m hm'
            exact wsub _ (sub.subset (by rw [← hm2]; exact List.mem_map.mpr ⟨m, hm', rfl⟩))
          · intro m hm'
            obtain ⟨c, hc, rfl⟩ := List.mem_map.mp hm'
            exact hr9 c hc
      | false =>
        refine iteF ⟨.int kd, rfl, _, _, rfl, rfl, _, rfl, ?_⟩
        have close : ∀ (bs : List (Addr × List Str)) (y : List V) (H3 : Hp) (l0 : Addr), H3 l0 = some (.lst (bs.map fun b => V.ref b.1)) → Tiers H3 bs → (bs.map (·.2)).flatten.Sublist ws → But p H H3 → H3 p = some (.lst y) → WellL y (k + 30) →
            ∀ (u2 : Addr), H3 u2 = none → ∀ v : Addr, (upd H3 u2 (.tup (bs.map fun b => V.ref b.1))) v = none → Q (.ref v) (upd (upd H3 u2 (.tup (bs.map fun b => V.ref b.1))) v (.tup [V.str "order", V.ref u2])) := fun bs y H3 l0 hl0 htb hsb hb hp3 hw u2 nu2 v nv => by
          have bu := hb.mut (o := HO.tup (bs.map fun b => V.ref b.1)) (hb.free hp3 nu2)
          have hpu := (upd_ne (o := HO.tup (bs.map fun b => V.ref b.1)) (ne_of_none hp3 nu2)).trans hp3
          refine q v (.order (bs.map (·.2))) y _ ⟨u2, bs, upd_same, TK.new nv _ _ upd_same, htb.keep ((TK.new nu2).trans (TK.new nv)), rfl⟩ ⟨wnd.sublist hsb, fun z hz => wsub z (hsb.subset hz), ?_⟩ (bu.mut (bu.free hpu nv)) (bu.free hpu nv) (by rw [upd_ne (ne_of_none hpu nv)]; exact hpu) (hw.mono (by omega))
          intro tr htr
          obtain ⟨c, hc, rfl⟩ := List.mem_map.mp htr
          exact (htb c hc).2
        cases decide (3 < kd) with
        | true =>
          refine iteT ⟨.ref u, rfl, u, rfl, ⟨_, .of hu⟩, fun D nD => ?_⟩
          have pD := ne_of_none hp1 nD
          have nDH := bH1.free hp1 nD
          refine lc_tup (K := K) (a := u) (xs := ws.map V.str) (fun i H' => ∃ bs : List (Addr × List Str), H' D = some (.lst (bs.map fun b => V.ref b.1)) ∧ Tiers H' bs ∧ (bs.map (·.2)).flatten = ws.take i ∧ But p H H' ∧ H' p = some (.lst y1) ∧ H' u = some (.tup (ws.map V.str)))
            ⟨[], upd_same, fun _ h => (by cases h), rfl, bH1.mut nDH, by rw [upd_ne pD]; exact hp1, TK.new nD _ _ hu⟩ (fun _ _ _ h => by obtain ⟨_, _, _, _, _, _, z⟩ := h; exact .of z) ?_ ?_
          · rintro i v9 H3 hi ⟨bs, hD, htb, hflat, hb, hp3, hu3⟩
            obtain ⟨wd, hwd, rfl⟩ := strs_at hi
            have il : i < ws.length := (List.getElem?_eq_some_iff.mp hwd).1
            have lbs := tiers_len (fun b hb => (htb b hb).2) hflat
            refine ⟨rfl, .str wd, rfl, line_of (show 1 ≤ 1000 by decide), fun b nb => ?_⟩
            have kb := TK.new (o := HO.tup [V.str wd]) nb
            have hDb := (upd_ne (o := HO.tup [V.str wd]) (ne_of_none hD nb)).trans hD
            have kD := TK.lst (o := HO.lst ((bs.map fun b => V.ref b.1) ++ [V.ref b])) hDb
            refine ⟨bs.map fun b => V.ref b.1, hDb, small1000 (by rw [List.length_map]; omega), bs ++ [(b, [wd])], ?_, ?_, ?_, (hb.mut (hb.free hp3 nb)).mut nDH, by rw [upd_ne pD, upd_ne (ne_of_none hp3 nb)]; exact hp3, (kb.trans kD) _ _ hu3⟩
            · rw [upd_same, List.map_append]
              rfl
            · intro c hc
              rcases List.mem_append.mp hc with hc | hc
              · exact (htb.keep (kb.trans kD)) c hc
              · rw [List.mem_singleton.mp hc]
                exact ⟨kD _ _ upd_same, List.cons_ne_nil _ _⟩
            · rw [take_more hwd, ← hflat, List.map_append, List.flatten_append]
              rfl
          · rintro H3 ⟨bs, hD, htb, hflat, hb, hp3, hu3⟩
            rw [List.length_map, List.take_length] at hflat
            exact ⟨D, _, rfl, .inl ⟨.of hD, fun u2 nu2 => ⟨line_of (show 2 ≤ 1000 by decide), fun v nv => close bs y1 H3 D hD htb (by rw [hflat]; exact List.Sublist.refl _) hb hp3 (w2.mono (by omega)) u2 nu2 v nv⟩⟩⟩
        | false =>
          refine iteF ⟨line_of (show 0 ≤ 1000 by decide), fun l nl => ?_⟩
          have hpl := ne_of_none hp1 nl
          have nlH := bH1.free hp1 nl
          have kl0 := TK.new (o := HO.lst []) nl
          refine ⟨.ref u, rfl, .ref p, rfl, .ref t, rfl, t, _, rfl, .inr (.of (kl0 _ _ ht1)), p, _, y1, _, rfl, by rw [upd_ne hpl]; exact hp1, w2, by omega, by rw [List.length_map]; omega, size_ok (by rw [List.length_map]; omega) (by rw [List.length_map]; omega), fun e y2 e0 e1 w3 => ⟨_, _, rfl, rfl, _, rfl, ?_⟩⟩
          have hp1l : (upd H1 l (.lst [])) p = some (.lst y1) := by rw [upd_ne hpl]; exact hp1
          have k2 := kl0.trans (TK.lst (o := HO.lst y2) hp1l)
          refine slA_of (k2 _ _ hu) fun s ms H2 hs sub sm => ?_
          have b2 := ((bH1.mut (o := HO.lst []) nlH).upd (.lst y2)).same sm
          have hp2 : H2 p = some (.lst y2) := sm _ _ upd_same
          have hl2 : H2 l = some (.lst []) := sm _ _ (by rw [upd_ne hpl.symm, upd_same])
          have lms : ms.length ≤ 6 := by have := sub.length_le; omega
          have hms : ∀ z ∈ ms, NameOk z := fun z hz => ok z (wsub z (sub.subset hz))
          refine ⟨s, rfl, ⟨_, .of hs⟩, for_tup (K := K) (a := s) (xs := ms.map V.str)
            (fun i σ H' => ∃ (x5 : Option V) (fb : List (Addr × List Str)) (y : List V), σ = [some (.ref p), some (.ref t), some (.int kd), some (.ref u), some (.ref l), x5] ∧ H' l = some (.lst (fb.map fun b => V.ref b.1)) ∧ Tiers H' fb ∧ (fb.map (·.2)).flatten = ms.take i ∧
              TK H2 H' ∧ But p H H' ∧ H' p = some (.lst y) ∧ WellL y (k + 10 + i))
            ⟨_, [], y2, rfl, hl2, fun _ h => (by cases h), rfl, fun _ _ h => h, b2, hp2, w3.mono (by omega)⟩ (fun _ _ _ _ h => by obtain ⟨_, _, _, _, _, _, _, z, _⟩ := h; exact .of (z _ _ hs)) ?_ ?_⟩
          · rintro i v9 σ H3 hi ⟨x5, fb, y, rfl, hl, hfb, hflat, hk3, hb, hp3, hw⟩
            obtain ⟨wd, hwd, rfl⟩ := strs_at hi
            have il : i < ms.length := (List.getElem?_eq_some_iff.mp hwd).1
            have lfb := tiers_len (fun b hb => (hfb b hb).2) hflat
            have sok : ∀ tr ∈ fb.map (·.2), ∀ z ∈ tr, PyData.strOk z = true := fun tr htr z hz => by
              have : z ∈ ms.take i := by
                rw [← hflat]
                exact List.mem_flatten.mpr ⟨tr, htr, hz⟩
              exact small_ok (hms z (List.mem_of_mem_take this)).2.2
            refine ⟨.ref l, rfl, line_of (show 0 ≤ 1000 by decide), fun le nle => ?_⟩
            have ke := TK.new (o := HO.lst []) nle
            have hle := (upd_ne (o := HO.lst []) (ne_of_none hl nle)).trans hl
            have hpe := (upd_ne (o := HO.lst []) (ne_of_none hp3 nle)).trans hp3
            have hbe := hb.mut (o := HO.lst []) (hb.free hp3 nle)
            have hfe := hfb.keep ke
            have hke := hk3.trans ke
            refine ⟨.list ((fb.map (·.2)).map tyD), .list [], .lst (.of hle) (dp_tiers fb hfe), .lst (.of upd_same) .nil, shaped_tiers sok, rfl, ?_⟩
            generalize upd H3 le (.lst []) = H4 at hle hpe hbe hfe hke
            by_cases hfb0 : fb = []
            · have hc : (!PyData.eqv (.list ((fb.map (·.2)).map tyD)) (.list [])) = false := by rw [hfb0]; rfl
              rw [hc]
              refine ⟨_, rfl, iteF (iteF ?_)⟩
              refine ⟨.ref l, rfl, .inl ⟨rfl, _, .of hle⟩, .str wd, rfl, line_of (show 1 ≤ 1000 by decide), fun b nb => ?_⟩
              have kb := TK.new (o := HO.tup [V.str wd]) nb
              have hlb := (upd_ne (o := HO.tup [V.str wd]) (ne_of_none hle nb)).trans hle
              have kl := TK.lst (o := HO.lst ((fb.map fun b => V.ref b.1) ++ [V.ref b])) hlb
              refine ⟨l, _, _, rfl, rfl, hlb, small1000 (by rw [List.length_map]; omega), _, fb ++ [(b, [wd])], _, rfl, ?_, ?_, ?_, (hke.trans kb).trans kl, (hbe.mut (hbe.free hpe nb)).mut nlH, by rw [upd_ne hpl, upd_ne (ne_of_none hpe nb)]; exact hpe, hw.mono (by omega)⟩
              · rw [upd_same]
                simp
              · intro c hc
                rcases List.mem_append.mp hc with hc | hc
                · exact (hfe.keep (kb.trans kl)) c hc
                · rw [List.mem_singleton.mp hc]
                  exact ⟨kl _ _ upd_same, List.cons_ne_nil _ _⟩
              · rw [take_more hwd, ← hflat, List.map_append, List.flatten_append]
                rfl
            · obtain ⟨fi, bl, rfl⟩ : ∃ fi bl, fb = fi ++ [bl] := ⟨fb.dropLast, fb.getLast hfb0, (List.dropLast_concat_getLast hfb0).symm⟩
              have hc : (!PyData.eqv (.list (((fi ++ [bl]).map (·.2)).map tyD)) (.list [])) = true := by
                cases fi with
                | nil => rfl
                | cons a r => rfl
              rw [hc]
              refine ⟨_, rfl, iteT ?_⟩
              refine ⟨.ref p, rfl, p, 2, y, _, rfl, hpe, hw, by omega, by decide, size_ok (by decide) (by decide), fun dd yy dd0 dd1 ww => ?_⟩
              have kp := TK.lst (o := HO.lst yy) hpe
              have hlp : (upd H4 p (.lst yy)) l = some (.lst ((fi ++ [bl]).map fun b => V.ref b.1)) := by rw [upd_ne hpl.symm]; exact hle
              have hpp : (upd H4 p (.lst yy)) p = some (.lst yy) := upd_same
              have hbp := hbe.upd (.lst yy)
              have hfp := hfe.keep kp
              have hkp := hke.trans kp
              generalize upd H4 p (.lst yy) = H5 at hlp hpp hbp hfp hkp
              refine ⟨rfl, _, rfl, ?_⟩
              cases decide (V.int dd = V.int 0) with
              | false =>
                refine iteF ?_
                refine ⟨.ref l, rfl, .inl ⟨rfl, _, .of hlp⟩, .str wd, rfl, line_of (show 1 ≤ 1000 by decide), fun b nb => ?_⟩
                have kb := TK.new (o := HO.tup [V.str wd]) nb
                have hlb := (upd_ne (o := HO.tup [V.str wd]) (ne_of_none hlp nb)).trans hlp
                have kl := TK.lst (o := HO.lst (((fi ++ [bl]).map fun b => V.ref b.1) ++ [V.ref b])) hlb
                refine ⟨l, _, _, rfl, rfl, hlb, small1000 (by rw [List.length_map]; omega), _, (fi ++ [bl]) ++ [(b, [wd])], _, rfl, ?_, ?_, ?_, (hkp.trans kb).trans kl, (hbp.mut (hbp.free hpp nb)).mut nlH, by rw [upd_ne hpl, upd_ne (ne_of_none hpp nb)]; exact hpp, ww.mono (by omega)⟩
                · rw [upd_same]
                  simp
                · intro c hc
                  rcases List.mem_append.mp hc with hc | hc
                  · exact (hfp.keep (kb.trans kl)) c hc
                  · rw [List.mem_singleton.mp hc]
                    exact ⟨kl _ _ upd_same, List.cons_ne_nil _ _⟩
                · rw [take_more hwd, ← hflat, List.map_append, List.flatten_append]
                  rfl
              | true =>
                rw [List.map_append] at hlp
                refine iteT ⟨.ref l, rfl, 1, rfl, l, _, _, .ref bl.1, rfl, rfl, .of hlp, at_last _ _, .str wd, rfl, line_of (show 1 ≤ 1000 by decide), fun b nb => ?_⟩
                obtain ⟨gb, nbe⟩ := hfp bl (List.mem_append_right _ List.mem_cons_self)
                have sb := same_upd (o := HO.tup [V.str wd]) nb
                have lb2 : bl.2.length ≤ 6 := by
                  have h1 : ((fi ++ [bl]).map (·.2)).flatten.length = (ms.take i).length := congrArg List.length hflat
                  rw [List.map_append, List.flatten_append, List.length_append, List.length_take] at h1
                  have h2 : (([bl].map (·.2)).flatten).length = bl.2.length := by simp
                  omega
                refine ⟨bl.1, b, bl.2.map V.str, [V.str wd], rfl, rfl, .of (sb _ _ gb), .of upd_same, by simpa using nbe, line_of (by rw [List.length_map]; show bl.2.length + 1 ≤ 1000; omega), fun h => absurd h (List.cons_ne_nil _ _), fun _ b2' nb2 => ?_⟩
                have sb2 := sb.trans (same_upd (o := HO.tup (bl.2.map V.str ++ [V.str wd])) nb2)
                have hq2 : (upd (upd H5 b (.tup [V.str wd])) b2' (.tup (bl.2.map V.str ++ [V.str wd]))) b2' = some (.tup (bl.2.map V.str ++ [V.str wd])) := upd_same
                have hbb := hbp.same sb2
                have hl5 := sb2 _ _ hlp
                have hp5 := sb2 _ _ hpp
                have hf5 := hfp.keep (TK.same sb2)
                have hk5 := hkp.trans (TK.same sb2)
                generalize upd (upd H5 b (.tup [V.str wd])) b2' (.tup (bl.2.map V.str ++ [V.str wd])) = H6 at hq2 hbb hl5 hp5 hf5 hk5
                refine ⟨.ref l, rfl, 1, rfl, l, _, _, fi.length, rfl, rfl, hl5, by rw [List.length_append, List.length_map]; exact ix_last _, ?_⟩
                have kz := TK.lst (o := HO.lst (((fi.map fun b => V.ref b.1) ++ [V.ref bl.1]).set fi.length (V.ref b2'))) hl5
                refine ⟨_, fi ++ [(b2', bl.2 ++ [wd])], yy, rfl, ?_, ?_, ?_, hk5.trans kz, hbb.mut nlH, by rw [upd_ne hpl]; exact hp5, ww.mono (by omega)⟩
                · rw [upd_same, List.map_append]
                  have e := set_last (fi.map fun b => V.ref b.1) (V.ref bl.1) (V.ref b2')
                  rw [List.length_map] at e
                  exact congrArg (fun l => some (HO.lst l)) e
                · intro c hc
                  rcases List.mem_append.mp hc with hc | hc
                  · exact (hf5.keep kz) c (List.mem_append_left _ hc)
                  · rw [List.mem_singleton.mp hc]
                    refine ⟨?_, by simp⟩
                    rw [List.map_append]
                    exact kz _ _ hq2
                · rw [take_more hwd, ← hflat, List.map_append, List.map_append, List.flatten_append, List.flatten_append]
                  simp
          · rintro σ H3 ⟨x5, fb, y, rfl, hl, hfb, hflat, hk3, hb, hp3, hw⟩
            rw [List.length_map, List.take_length] at hflat
            exact ⟨.ref l, rfl, l, _, rfl, .inl ⟨.of hl, fun u2 nu2 => ⟨line_of (show 2 ≤ 1000 by decide), fun v nv => close fb y H3 l hl hfb (by rw [hflat]; exact sub) hb hp3 (hw.mono (by rw [List.length_map]; omega)) u2 nu2 v nv⟩⟩⟩
end
theorem slX_of {K : PySem.W.Frag} {H : Hp} {a : Addr} {xs : List V} {lo hi : Option Int} {Q : VK} (h : H a = some (.tup xs)) (c : ∀ (s : Addr) (H' : Hp), H' s = some (.tup (cutV xs lo hi)) → Same H H' → Q (.ref s) H') : rSlA K (.ref a) lo hi H Q := by
  refine ⟨a, xs, rfl, .of h, fun e => c a H ?_ (Same.refl _), fun _ s ns => c s _ upd_same (same_upd ns)⟩
  have e2 : cutV xs lo hi = xs := by
    unfold cutV
    rw [e.1, e.2, List.drop_zero, Nat.sub_zero, List.take_length]
  rw [e2]
  exact h
theorem catA_of {K : PySem.W.Frag} {H : Hp} {a b : Addr} {xs ys : List V} {Q : VK} (ha : H a = some (.tup xs)) (hb : H b = some (.tup ys)) (hz : xs.length + ys.length ≤ sizeLine) (c : ∀ (s : Addr) (H' : Hp), H' s = some (.tup (xs ++ ys)) → Same H H' → Q (.ref s) H') : rCatA K (.ref a) (.ref b) H Q := by
  refine ⟨a, b, xs, ys, rfl, rfl, .of ha, .of hb, hz, fun e => ?_, fun _ e => ?_, fun _ _ s ns => c s _ upd_same (same_upd ns)⟩
  · refine c b H ?_ (Same.refl _)
    rw [e]
    exact hb
  · refine c a H ?_ (Same.refl _)
    rw [e, List.append_nil]
    exact ha
theorem turn_perm {α : Type} (l : List α) (k : Nat) : (l.drop k ++ l.take k).Perm l := List.perm_append_comm.trans (by rw [List.take_append_drop])
theorem cut_from {xs : List V} {k : Nat} (h : k ≤ xs.length) : cutV xs (some (k : Int)) none = xs.drop k := by
  unfold cutV
  rw [HT.sIx_nat, HT.sIx_none, Nat.min_eq_left h, List.take_of_length_le (by rw [List.length_drop]; exact Nat.le_refl _)]
theorem cut_to {xs : List V} {k : Nat} (h : k ≤ xs.length) : cutV xs none (some (k : Int)) = xs.take k := by
  unfold cutV
  rw [HT.sIx_nat, HT.sIx_none, Nat.min_eq_left h, List.drop_zero, Nat.sub_zero]
/-- the list of rows, not yet a tuple -/
def RowsL (H : Hp) (g : Addr) (as : List (Addr × Addr × (Bal × Int))) : Prop := H g = some (.lst (as.map fun a => V.ref a.1)) ∧ ∀ a ∈ as, H a.1 = some (.tup [.ref a.2.1, .int a.2.2.2]) ∧ BalAt H a.2.1 a.2.2.1
theorem RowsL.push {H1 H2 : Hp} {g u c : Addr} {as : List (Addr × Addr × (Bal × Int))} {b : Bal} {m : Int} (h : RowsL H1 g as) (k : TK H1 H2) (hg : H2 g = some (.lst (as.map fun a => V.ref a.1))) (hb : BalAt H2 u b) (nc : H2 c = none) :
    RowsL (upd (upd H2 c (.tup [.ref u, .int m])) g (.lst ((as.map fun a => V.ref a.1) ++ [V.ref c]))) g (as ++ [(c, u, (b, m))]) ∧ TK H1 (upd (upd H2 c (.tup [.ref u, .int m])) g (.lst ((as.map fun a => V.ref a.1) ++ [V.ref c]))) := by
  have kc := TK.new (o := HO.tup [V.ref u, V.int m]) nc
  have hgc := (upd_ne (o := HO.tup [V.ref u, V.int m]) (ne_of_none hg nc)).trans hg
  have kg := TK.lst (o := HO.lst ((as.map fun a => V.ref a.1) ++ [V.ref c])) hgc
  refine ⟨⟨by rw [upd_same]; simp, fun a ha => ?_⟩, (k.trans kc).trans kg⟩
  rcases List.mem_append.mp ha with ha | ha
  · exact ⟨((k.trans kc).trans kg) _ _ (h.2 a ha).1, (h.2 a ha).2.keep ((k.trans kc).trans kg)⟩
  · rw [List.mem_singleton.mp ha]
    exact ⟨kg _ _ upd_same, (hb.keep kc).keep kg⟩
def RowOk (zs : List Str) (a : Addr × Addr × (Bal × Int)) : Prop := a.2.2.1.Ok zs ∧ 1 ≤ a.2.2.2 ∧ a.2.2.2 ≤ 1000000
theorem rowOk_push {zs : List Str} {as : List (Addr × Addr × (Bal × Int))} {a : Addr × Addr × (Bal × Int)} (h : ∀ a ∈ as, RowOk zs a) (ha : RowOk zs a) : ∀ b ∈ as ++ [a], RowOk zs b := fun b hb => by
  rcases List.mem_append.mp hb with hb | hb
  · exact h b hb
  · rw [List.mem_singleton.mp hb]
    exact ha
section
variable {P : Program} {w : World} {K : PySem.W.Frag} {mg : Str → Option Value} {base : Heap}
/-! ### a poll's parts drawn -/
def sp_law_parts : Sp := fun vs H Q _ => ∃ (p l : Addr) (ns : List Int) (x : List V) (k : Nat), vs = [.ref p, .ref l] ∧ H p = some (.lst x) ∧ H l = some (.lst (ns.map V.int)) ∧ l ≠ p ∧ (∀ n ∈ ns, 1 ≤ n ∧ n ≤ 6) ∧ 0 < ns.length ∧ ns.length ≤ 1000 ∧ WellL x k ∧ k ≤ 600000 ∧
  ∀ (u t r : Addr) (zs : List Str) (rows : List (Bal × Int)) (y : List V) (H' : Hp), H' u = some (.tup [.ref t, .ref r]) → H' t = some (.tup (zs.map V.str)) → 0 < zs.length → zs.length ≤ 6 → (zs.length : Int) ∈ ns → zs.Nodup → (∀ z ∈ zs, NameOk z) → RowsAt H' r rows → RowsOk zs 6 rows →
    But p H H' → H u = none → H' p = some (.lst y) → WellL y (k + 400) → Q (.ref u) H'
theorem ok_law_parts (T : Txt K mg) : FnOk P w K mg base CX0 4 T.f_law_parts T.fd_law_parts ["_law_well_here", "_law_sizes"] (sp_law_parts) := by
  refine T.F_law_parts.ok sc_law_parts (fun vs H Q E h => ?_) (fun cdv A outer s H vs Q E hr h => ?_)
  · obtain ⟨p, l, ns, x, k, rfl, _⟩ := h
    rfl
  · obtain ⟨p, l, ns, x, k, rfl, hp, hl, hlp, hns, n0, n1, hx, hk, q⟩ := h
    refine ⟨_, (pss_cons
 (ps_set (i := 2) sc_law_parts.nd rfl (Or.inl rfl) (pe_call (ok_law_names T) (hr.mono (by decide)) (by rfl) T.g_law_names T.F_law_names.kp T.b_law_names .nil pass0 (pa_cons (pv 0) (pa_cons (pe_call (ok_law_one T) (hr.mono (by decide)) (by rfl) T.g_law_one T.F_law_one.kp T.b_law_one .nil pass0 (pa_cons (pv 0) (pa_cons (pv 1) pa_nil))) pa_nil))))
 (pss_cons
 (ps_set (i := 3) sc_law_parts.nd rfl (Or.inl rfl) (pe_lst pa_nil))
 (pss_cons
 (ps_for PassesOwn.never rfl (pi_range1 rfl T.z_range (pa_cons (pe_call (ok_law_draw T) (hr.mono (by decide)) (by rfl) T.g_law_draw T.F_law_draw.kp T.b_law_draw .nil pass0 (pa_cons (pv 0) (pa_cons pe_int pa_nil))) pa_nil)) (pg_name (i := 4) sc_law_parts.nd rfl (Or.inl rfl))
 (pss_one
 (ps_expr (pe_bm PySem.F.plainAttrs_list PySem.F.slot_list_append PySem.F.type_list_append mt_append (pv 3) (pa_cons (pe_tup (pa_cons (pe_call (ok_law_ballot T) (hr.mono (by decide)) (by rfl) T.g_law_ballot T.F_law_ballot.kp T.b_law_ballot .nil pass0 (pa_cons (pv 0) (pa_cons (pv 2) pa_nil))) (pa_cons (pe_call (ok_law_one T) (hr.mono (by decide)) (by rfl) T.g_law_one T.F_law_one.kp T.b_law_one .nil pass0 (pa_cons (pv 0) (pa_cons (pe_lst (pa_cons pe_int (pa_cons pe_int (pa_cons pe_int (pa_cons pe_int (pa_cons (pe_op op_add pe_int (pe_call (ok_law_draw T) (hr.mono (by decide)) (by rfl) T.g_law_draw T.F_law_draw.kp T.b_law_draw .nil pass0 (pa_cons (pv 0) (pa_cons pe_int pa_nil)))) pa_nil)))))) pa_nil))) pa_nil))) pa_nil)))))
 (pss_cons
 (ps_if (pt_cmpR op_eq (pe_call (ok_law_draw T) (hr.mono (by decide)) (by rfl) T.g_law_draw T.F_law_draw.kp T.b_law_draw .nil pass0 (pa_cons (pv 0) (pa_cons pe_int pa_nil))) pe_int (nomark _))
 (pss_cons
 (ps_set (i := 5) sc_law_parts.nd rfl (Or.inl rfl) (pe_call (ok_law_shuffled T) (hr.mono (by decide)) (by rfl) T.g_law_shuffled T.F_law_shuffled.kp T.b_law_shuffled .nil pass0 (pa_cons (pv 0) (pa_cons (pv 2) pa_nil))))
 (pss_one
 (ps_for PassesOwn.never rfl (pi_range1 rfl T.z_range (pa_cons (pe_callB (call_min2 rfl) (by rfl) T.z_min (by decide +kernel) (pa_cons pe_int (pa_cons (pe_callB call_len_seq (by rfl) T.z_len (by decide +kernel) (pa_cons (pv 2) pa_nil)) pa_nil))) pa_nil)) (pg_name (i := 4) sc_law_parts.nd rfl (Or.inl rfl))
 (pss_cons
 (ps_set (i := 6) sc_law_parts.nd rfl (Or.inl rfl) (pe_op op_catA (pe_slice sl_tupA (pv 5) (po_some (pv 4)) po_none) (pe_slice sl_tupA (pv 5) po_none (po_some (pv 4)))))
 (pss_one
 (ps_expr (pe_bm PySem.F.plainAttrs_list PySem.F.slot_list_append PySem.F.type_list_append mt_append (pv 3) (pa_cons (pe_tup (pa_cons (pe_tup (pa_cons pe_str (pa_cons (pe_callTy call_tuple_of (by rfl) T.z_tuple (by decide +kernel) (pa_cons (pe_lc (own := [("_law_one_here", 7)]) (g := gName 7) (tt := tYes) rfl sc_law_parts.nd (pi_tup (pv 6)) (blkOk_by (own := [("_law_one_here", 7)]) (N := ["_law_well_here", "_law_sizes", "_law_names_here", "_law_rows", "_law_k", "_law_some", "_law_turned_here", "_law_one_here"]) (sc := (defScope s_law_parts)) (by decide +kernel)) (fun _ _ _ _ _ => pg_name (i := 7) sc_law_parts.nd rfl (Or.inl rfl)) (fun _ _ _ _ _ => pts_nil) (fun _ _ _ _ _ => (pe_tup (pa_cons (pv 7) pa_nil)))) pa_nil)) pa_nil))) (pa_cons (pe_op op_add pe_int (pe_call (ok_law_draw T) (hr.mono (by decide)) (by rfl) T.g_law_draw T.F_law_draw.kp T.b_law_draw .nil pass0 (pa_cons (pv 0) (pa_cons pe_int pa_nil)))) pa_nil))) pa_nil))))))))
 pss_nil)
 (pss_one
 (ps_ret (pe_tup (pa_cons (pv 2) (pa_cons (pe_callTy call_tuple_of (by rfl) T.z_tuple (by decide +kernel) (pa_cons (pv 3) pa_nil)) pa_nil))))))))), ?_⟩
    refine ⟨.ref p, rfl, .ref p, rfl, .ref l, rfl, p, .ref l, x, k, rfl, hp, hx, by omega, .inr (.inl ⟨l, _, rfl, hl, hlp, by rw [List.length_map]; exact n0, by rw [List.length_map]; exact n1, fun v x1 hv w1 => ?_⟩)⟩
    obtain ⟨n, hn, rfl⟩ := List.mem_map.mp hv
    obtain ⟨nl, nh⟩ := hns n hn
    refine ⟨p, n, x1, _, rfl, upd_same, w1, by omega, by omega, nh, fun t zs y1 H1 lz nd ok b1 nt ht hp1 w2 => ?_⟩
    have b1' : But p H H1 := ((But.refl p H).upd _).trans b1
    have z0 : 0 < zs.length := by omega
    have z6 : zs.length ≤ 6 := by omega
    refine ⟨line_of (show 0 ≤ 1000 by decide), fun g ng => ?_⟩
    have pg := ne_of_none hp1 ng
    have ngH := b1'.free hp1 ng
    have fin : ∀ (as : List (Addr × Addr × (Bal × Int))) (y : List V) (H' : Hp), RowsL H' g as → (∀ a ∈ as, RowOk zs a) → as.length ≤ 6 → But p H H' → H' p = some (.lst y) → WellL y (k + 390) → H' t = some (.tup (zs.map V.str)) →
        ∀ u2 : Addr, H' u2 = none → ∀ v : Addr, (upd H' u2 (.tup (as.map fun a => V.ref a.1))) v = none → Q (.ref v) (upd (upd H' u2 (.tup (as.map fun a => V.ref a.1))) v (.tup [V.ref t, V.ref u2])) := fun as y H' hr' ho hl' hb hp' hw ht' u2 nu2 v nv => by
      have ku := TK.new (o := HO.tup (as.map fun a => V.ref a.1)) nu2
      have kv := TK.new (o := HO.tup [V.ref t, V.ref u2]) nv
      have bu := hb.mut (o := HO.tup (as.map fun a => V.ref a.1)) (hb.free hp' nu2)
      have hpu := (upd_ne (o := HO.tup (as.map fun a => V.ref a.1)) (ne_of_none hp' nu2)).trans hp'
      refine q v t u2 zs (as.map (·.2.2)) y _ upd_same ((ku.trans kv) _ _ ht') z0 z6 (by rw [lz, Int.toNat_of_nonneg (by omega)]; exact hn) nd ok ⟨as, kv _ _ upd_same, fun a ha => ⟨(ku.trans kv) _ _ (hr'.2 a ha).1, (hr'.2 a ha).2.keep (ku.trans kv)⟩, rfl⟩ ⟨by rw [List.length_map]; exact hl', ?_⟩ (bu.mut (bu.free hpu nv)) (bu.free hpu nv) (by rw [upd_ne (ne_of_none hpu nv)]; exact hpu) (hw.mono (by omega))
      intro r hr2
      obtain ⟨a, ha, rfl⟩ := List.mem_map.mp hr2
      exact ho a ha
    refine ⟨.ref p, rfl, p, 4, y1, _, rfl, by rw [upd_ne pg]; exact hp1, w2, by omega, by decide, size_ok (by decide) (by decide), fun m y2 m0 m1 w3 => ?_⟩
    have hpg : (upd H1 g (.lst [])) p = some (.lst y1) := by rw [upd_ne pg]; exact hp1
    have k0 := (TK.new (o := HO.lst []) ng).trans (TK.lst (o := HO.lst y2) hpg)
    refine ⟨m, rfl, by omega, by omega, for_range (fun i σ H' => ∃ (x4 x5 x6 x7 : Option V) (as : List (Addr × Addr × (Bal × Int))) (y : List V), σ = [some (.ref p), some (.ref l), some (.ref t), some (.ref g), x4, x5, x6, x7] ∧ RowsL H' g as ∧ (∀ a ∈ as, RowOk zs a) ∧ as.length = i ∧ But p H H' ∧
        H' p = some (.lst y) ∧ WellL y (k + 40 + 50 * i) ∧ H' t = some (.tup (zs.map V.str)))
      ⟨_, _, _, _, [], y2, rfl, ⟨by rw [upd_ne pg.symm, upd_same]; rfl, fun _ h => (by cases h)⟩, fun _ h => (by cases h), rfl, (b1'.mut ngH).upd _, upd_same, w3.mono (by omega), k0 _ _ ht⟩ ?_ ?_⟩
    · rintro i σ H2 hi ⟨x4, x5, x6, x7, as, y, rfl, hrl, hok, la, hb, hp2, hw, ht2⟩
      refine ⟨.ref g, rfl, .inl ⟨rfl, _, .of hrl.1⟩, .ref p, rfl, .ref t, rfl, p, t, zs, y, _, rfl, hp2, ht2, z0, z6, nd, ok, hw, by omega, fun u b y5 H5 hbal hbok b5 nu hp5 w5 => ?_⟩
      refine ⟨.ref p, rfl, .ref p, rfl, p, 9, y5, _, rfl, hp5, w5, by omega, by decide, size_ok (by decide) (by decide), fun d y6 d0 d1 w6 => ?_⟩
      refine ⟨1, d, rfl, rfl, line_of (show 5 ≤ 1000 by decide), fun l5 n5 => ?_⟩
      have hp5' : (upd H5 p (.lst y6)) p = some (.lst y6) := upd_same
      have pl5 := ne_of_none hp5' n5
      refine ⟨p, .ref l5, y6, _, rfl, by rw [upd_ne pl5]; exact hp5', w6, by omega, .inr (.inl ⟨l5, _, rfl, upd_same, pl5.symm, (show 0 < 5 by decide), (show 5 ≤ 1000 by decide), fun v y7 hv w7 => ?_⟩)⟩
      obtain ⟨mk, rfl, mk1, mk9⟩ : ∃ mk : Int, v = V.int mk ∧ 1 ≤ mk ∧ mk ≤ 1000000 := by
        have : v = V.int 1 ∨ v = V.int 1 ∨ v = V.int 2 ∨ v = V.int 3 ∨ v = V.int (1 + d) := by simpa using hv
        rcases this with rfl | rfl | rfl | rfl | rfl
        · exact ⟨_, rfl, by decide, by decide⟩
        · exact ⟨_, rfl, by decide, by decide⟩
        · exact ⟨_, rfl, by decide, by decide⟩
        · exact ⟨_, rfl, by decide, by decide⟩
        · exact ⟨_, rfl, by omega, by omega⟩
      refine ⟨line_of (show 2 ≤ 1000 by decide), fun c nc => ?_⟩
      have hg5 : H5 g = some (.lst (as.map fun a => V.ref a.1)) := b5 g _ pg.symm hrl.1
      have kk : TK H2 (upd (upd (upd H5 p (.lst y6)) l5 (.lst [V.int 1, V.int 1, V.int 2, V.int 3, V.int (1 + d)])) p (.lst y7)) :=
        (((show TK H2 H5 from b5.tups hp2).trans (TK.lst hp5)).trans (TK.new n5)).trans (TK.lst (by rw [upd_ne pl5]; exact hp5'))
      have k5 : TK H5 (upd (upd (upd H5 p (.lst y6)) l5 (.lst [V.int 1, V.int 1, V.int 2, V.int 3, V.int (1 + d)])) p (.lst y7)) := ((TK.lst hp5).trans (TK.new n5)).trans (TK.lst (by rw [upd_ne pl5]; exact hp5'))
      have hbb : But p H (upd (upd (upd H5 p (.lst y6)) l5 (.lst [V.int 1, V.int 1, V.int 2, V.int 3, V.int (1 + d)])) p (.lst y7)) := (((hb.trans b5).upd _).mut (((hb.trans b5).upd _).free hp5' n5)).upd _
      have hpp : (upd (upd (upd H5 p (.lst y6)) l5 (.lst [V.int 1, V.int 1, V.int 2, V.int 3, V.int (1 + d)])) p (.lst y7)) p = some (.lst y7) := upd_same
      have hgg : (upd (upd (upd H5 p (.lst y6)) l5 (.lst [V.int 1, V.int 1, V.int 2, V.int 3, V.int (1 + d)])) p (.lst y7)) g = some (.lst (as.map fun a => V.ref a.1)) := by
        have h1 : (upd H5 p (.lst y6)) g = some (.lst (as.map fun a => V.ref a.1)) := by rw [upd_ne pg.symm]; exact hg5
        rw [upd_ne pg.symm, upd_ne (ne_of_none h1 n5)]
        exact h1
      have hbal' := hbal.keep k5
      generalize upd (upd (upd H5 p (.lst y6)) l5 (.lst [V.int 1, V.int 1, V.int 2, V.int 3, V.int (1 + d)])) p (.lst y7) = H6 at nc kk hbb hpp hgg hbal'
      obtain ⟨r1, r2⟩ := hrl.push (m := mk) kk hgg hbal' nc
      refine ⟨g, _, _, rfl, rfl, (upd_ne (ne_of_none hgg nc)).trans hgg, small1000 (by rw [List.length_map]; omega), _, _, _, _, _, y7, rfl, r1, rowOk_push hok ⟨hbok, mk1, mk9⟩, by rw [List.length_append, la]; rfl, (hbb.mut (hbb.free hpp nc)).mut ngH, by rw [upd_ne pg, upd_ne (ne_of_none hpp nc)]; exact hpp, w7.mono (by omega), r2 _ _ ht2⟩
    · rintro σ H2 ⟨x4, x5, x6, x7, as, y, rfl, hrl, hok, la, hb, hp2, hw, ht2⟩
      have la3 : as.length ≤ 3 := by omega
      have hw2 : WellL y (k + 190) := hw.mono (by omega)
      refine ⟨.ref p, rfl, p, 2, y, _, rfl, hp2, hw2, by omega, by decide, size_ok (by decide) (by decide), fun d y3 d0 d1 w4 => ⟨rfl, _, rfl, ?_⟩⟩
      have kp := TK.lst (o := HO.lst y3) hp2
      have hrl3 : RowsL (upd H2 p (.lst y3)) g as := ⟨by rw [upd_ne pg.symm]; exact hrl.1, fun a ha => ⟨kp _ _ (hrl.2 a ha).1, (hrl.2 a ha).2.keep kp⟩⟩
      have ht3 := kp _ _ ht2
      have hb3 := hb.upd (.lst y3)
      have hp3 : (upd H2 p (.lst y3)) p = some (.lst y3) := upd_same
      generalize upd H2 p (.lst y3) = H3 at hrl3 ht3 hb3 hp3
      cases decide (V.int d = V.int 0) with
      | false =>
        exact iteF ⟨.ref t, rfl, .ref g, rfl, g, _, rfl, .inl ⟨.of hrl3.1, fun u2 nu2 => ⟨line_of (show 2 ≤ 1000 by decide), fun v nv => fin as y3 H3 hrl3 hok (by omega) hb3 hp3 (w4.mono (by omega)) ht3 u2 nu2 v nv⟩⟩⟩
      | true =>
        refine iteT ⟨.ref p, rfl, .ref t, rfl, p, t, zs, y3, _, rfl, hp3, ht3, z6, ok, w4, by omega, fun sm ws y4 H4 pw b4 nsm hsm hp4 w5 => ?_⟩
        have k4 : TK H3 H4 := b4.tups hp3
        have hg4 : H4 g = some (.lst (as.map fun a => V.ref a.1)) := b4 g _ pg.symm hrl3.1
        have hrl4 : RowsL H4 g as := ⟨hg4, fun a ha => ⟨k4 _ _ (hrl3.2 a ha).1, (hrl3.2 a ha).2.keep k4⟩⟩
        have wl := pw.length_eq
        have wnd : ws.Nodup := (pw.nodup_iff).mpr nd
        refine ⟨.ref t, rfl, t, _, rfl, .inr (.of (k4 _ _ ht3)), 3, _, rfl, _, rfl, ?_⟩
        obtain ⟨rng, hr1, hr2, hr3⟩ : ∃ rng : Int, (if (((zs.map V.str).length : Nat) : Int) < 3 then (((zs.map V.str).length : Nat) : Int) else 3) = rng ∧ 0 ≤ rng ∧ rng ≤ 3 ∧ rng ≤ zs.length := by
          rw [List.length_map]
          split
          · exact ⟨_, rfl, by omega, by omega, by omega⟩
          · exact ⟨_, rfl, by omega, by omega, by omega⟩
        rw [hr1]
        refine ⟨by omega, by omega, for_range (fun i σ H' => ∃ (x4 x6 x7 : Option V) (as : List (Addr × Addr × (Bal × Int))) (y : List V), σ = [some (.ref p), some (.ref l), some (.ref t), some (.ref g), x4, some (.ref sm), x6, x7] ∧ RowsL H' g as ∧ (∀ a ∈ as, RowOk zs a) ∧ as.length ≤ 3 + i ∧ But p H H' ∧
            H' p = some (.lst y) ∧ WellL y (k + 210 + i) ∧ H' t = some (.tup (zs.map V.str)) ∧ H' sm = some (.tup (ws.map V.str)))
          ⟨_, _, _, as, y4, rfl, hrl4, hok, by omega, hb3.trans b4, hp4, w5.mono (by omega), k4 _ _ ht3, hsm⟩ ?_ ?_⟩
        · rintro i σ H5 hi ⟨x4, x6, x7, as, y, rfl, hrl, hok, la, hb, hp5, hw, ht5, hsm5⟩
          have i3 : i < 3 := by omega
          have iw : i ≤ (ws.map V.str).length := by rw [List.length_map]; omega
          rw [Int.zero_add]
          refine ⟨.ref sm, rfl, .int i, rfl, _, rfl, ?_⟩
          dsimp only [tNoPart]
          refine slX_of hsm5 fun s1 H6 hs1 m1 => ?_
          refine ⟨.ref sm, rfl, .int i, rfl, _, rfl, ?_⟩
          refine slX_of (m1 _ _ hsm5) fun s2 H7 hs2 m2 => ?_
          rw [cut_from iw] at hs1
          rw [cut_to iw] at hs2
          refine catA_of (m2 _ _ hs1) hs2 (line_of (by rw [List.length_drop, List.length_take, List.length_map]; omega)) fun s3 H8 hs3 m3 => ?_
          rw [← List.map_drop, ← List.map_take, ← List.map_append] at hs3
          have tp := turn_perm ws i
          generalize ws.drop i ++ ws.take i = tw at hs3 tp
          have tl := tp.length_eq
          have sm8 := (m1.trans m2).trans m3
          have k8 := TK.same sm8
          have hrl8 : RowsL H8 g as := ⟨sm8 _ _ hrl.1, fun a ha => ⟨k8 _ _ (hrl.2 a ha).1, (hrl.2 a ha).2.keep k8⟩⟩
          have hb8 := hb.same sm8
          have hp8 := sm8 _ _ hp5
          have ht8 := sm8 _ _ ht5
          have hsm8 := sm8 _ _ hsm5
          refine ⟨.ref g, rfl, .inl ⟨rfl, _, .of hrl8.1⟩, .ref s3, rfl, s3, rfl, ⟨_, .of hs3⟩, fun D nD => ?_⟩
          have pD := ne_of_none hp8 nD
          have gD := ne_of_none hrl8.1 nD
          have nDH := hb8.free hp8 nD
          refine lc_tup (K := K) (a := s3) (xs := tw.map V.str) (fun i H' => ∃ bs : List (Addr × List Str), H' D = some (.lst (bs.map fun b => V.ref b.1)) ∧ Tiers H' bs ∧ (bs.map (·.2)).flatten = tw.take i ∧ But p H H' ∧ H' p = some (.lst y) ∧ TK H8 H' ∧ H' g = some (.lst (as.map fun a => V.ref a.1)))
            ⟨[], upd_same, fun _ h => (by cases h), rfl, hb8.mut nDH, by rw [upd_ne pD]; exact hp8, TK.new nD, by rw [upd_ne gD]; exact hrl8.1⟩ (fun _ _ _ h => by obtain ⟨_, _, _, _, _, _, z, _⟩ := h; exact .of (z _ _ hs3)) ?_ ?_
          · rintro j v9 H9 hj ⟨bs, hD, htb, hflat, hb9, hp9, k9, hg9⟩
            obtain ⟨wd, hwd, rfl⟩ := strs_at hj
            have jl : j < tw.length := (List.getElem?_eq_some_iff.mp hwd).1
            have lbs := tiers_len (fun b hb => (htb b hb).2) hflat
            refine ⟨rfl, .str wd, rfl, line_of (show 1 ≤ 1000 by decide), fun b nb => ?_⟩
            have kb := TK.new (o := HO.tup [V.str wd]) nb
            have hDb := (upd_ne (o := HO.tup [V.str wd]) (ne_of_none hD nb)).trans hD
            have kD := TK.lst (o := HO.lst ((bs.map fun b => V.ref b.1) ++ [V.ref b])) hDb
            refine ⟨bs.map fun b => V.ref b.1, hDb, small1000 (by rw [List.length_map]; omega), bs ++ [(b, [wd])], ?_, ?_, ?_, (hb9.mut (hb9.free hp9 nb)).mut nDH, by rw [upd_ne pD, upd_ne (ne_of_none hp9 nb)]; exact hp9, (k9.trans kb).trans kD, by rw [upd_ne gD, upd_ne (ne_of_none hg9 nb)]; exact hg9⟩
            · rw [upd_same, List.map_append]
              rfl
            · intro c hc
              rcases List.mem_append.mp hc with hc | hc
              · exact (htb.keep (kb.trans kD)) c hc
              · rw [List.mem_singleton.mp hc]
                exact ⟨kD _ _ upd_same, List.cons_ne_nil _ _⟩
            · rw [take_more hwd, ← hflat, List.map_append, List.flatten_append]
              rfl
          · rintro H9 ⟨bs, hD, htb, hflat, hb9, hp9, k9, hg9⟩
            rw [List.length_map, List.take_length] at hflat
            refine ⟨D, _, rfl, .inl ⟨.of hD, fun u2 nu2 => ⟨line_of (show 2 ≤ 1000 by decide), fun v nv => ?_⟩⟩⟩
            have ku := TK.new (o := HO.tup (bs.map fun b => V.ref b.1)) nu2
            have kv := TK.new (o := HO.tup [V.str "order", V.ref u2]) nv
            have hbal : BalAt (upd (upd H9 u2 (.tup (bs.map fun b => V.ref b.1))) v (.tup [V.str "order", V.ref u2])) v (.order (bs.map (·.2))) := ⟨u2, bs, upd_same, kv _ _ upd_same, htb.keep (ku.trans kv), rfl⟩
            have bu := hb9.mut (o := HO.tup (bs.map fun b => V.ref b.1)) (hb9.free hp9 nu2)
            have hpu := (upd_ne (o := HO.tup (bs.map fun b => V.ref b.1)) (ne_of_none hp9 nu2)).trans hp9
            have hgu := (upd_ne (o := HO.tup (bs.map fun b => V.ref b.1)) (ne_of_none hg9 nu2)).trans hg9
            have bv := bu.mut (o := HO.tup [V.str "order", V.ref u2]) (bu.free hpu nv)
            have hpv := (upd_ne (o := HO.tup [V.str "order", V.ref u2]) (ne_of_none hpu nv)).trans hpu
            have hgv := (upd_ne (o := HO.tup [V.str "order", V.ref u2]) (ne_of_none hgu nv)).trans hgu
            have kk := (k9.trans ku).trans kv
            generalize upd (upd H9 u2 (.tup (bs.map fun b => V.ref b.1))) v (.tup [V.str "order", V.ref u2]) = HA at hbal bv hpv hgv kk
            refine ⟨.ref p, rfl, p, 4, y, _, rfl, hpv, hw, by omega, by decide, size_ok (by decide) (by decide), fun d2 y5 e0 e1 w6 => ⟨2, d2, rfl, rfl, line_of (show 2 ≤ 1000 by decide), fun c nc => ?_⟩⟩
            have kp := TK.lst (o := HO.lst y5) hpv
            have hpp : (upd HA p (.lst y5)) p = some (.lst y5) := upd_same
            have hgp : (upd HA p (.lst y5)) g = some (.lst (as.map fun a => V.ref a.1)) := by rw [upd_ne pg.symm]; exact hgv
            have bp := bv.upd (.lst y5)
            have hbal2 := hbal.keep kp
            have kz := kk.trans kp
            generalize upd HA p (.lst y5) = HB at nc hpp hgp bp hbal2 kz
            obtain ⟨r1, r2⟩ := hrl8.push (m := 2 + d2) kz hgp hbal2 nc
            refine ⟨g, _, _, rfl, rfl, (upd_ne (ne_of_none hgp nc)).trans hgp, small1000 (by rw [List.length_map]; omega), _, _, _, _, y5, rfl, r1, rowOk_push hok ⟨⟨?_, ?_, ?_⟩, by show 1 ≤ 2 + d2; omega, by show 2 + d2 ≤ 1000000; omega⟩, by rw [List.length_append]; show as.length + 1 ≤ _; omega, (bp.mut (bp.free hpp nc)).mut ngH, by rw [upd_ne pg, upd_ne (ne_of_none hpp nc)]; exact hpp, w6.mono (by omega), r2 _ _ ht8, r2 _ _ hsm8⟩
            · show ((bs.map (·.2)).flatten).Nodup
              rw [hflat]
              exact (tp.nodup_iff).mpr wnd
            · intro z hz
              rw [hflat] at hz
              exact pw.mem_iff.mp (tp.mem_iff.mp hz)
            · intro tr htr
              obtain ⟨c2, hc2, rfl⟩ := List.mem_map.mp htr
              exact (htb c2 hc2).2
        · rintro σ H5 ⟨x4, x6, x7, as, y, rfl, hrl, hok, la, hb, hp5, hw, ht5, hsm5⟩
          exact ⟨.ref t, rfl, .ref g, rfl, g, _, rfl, .inl ⟨.of hrl.1, fun u2 nu2 => ⟨line_of (show 2 ≤ 1000 by decide), fun v nv => fin as y H5 hrl hok (by omega) hb hp5 (hw.mono (by omega)) ht5 u2 nu2 v nv⟩⟩⟩
end
/-! ### what stands apart from the well -/
/-- all that is tracked, but p -/
def hide (p : Addr) (H : Hp) : Hp := fun a => if a = p then none else H a
theorem hide_ne {p a : Addr} {H : Hp} (h : a ≠ p) : hide p H a = H a := if_neg h
theorem hide_at {p : Addr} {H : Hp} : hide p H p = none := if_pos rfl
theorem hide_sub (p : Addr) (H : Hp) : Same (hide p H) H := fun b o h => by
  by_cases e : b = p
  · rw [e, hide_at] at h
    cases h
  · rw [hide_ne e] at h
    exact h
theorem But.hid {p : Addr} {H H' : Hp} (b : But p H H') : Same (hide p H) (hide p H') := fun a o h => by
  by_cases e : a = p
  · rw [e, hide_at] at h
    cases h
  · rw [hide_ne e] at h ⊢
    exact b a o e h
theorem hide_upd {p : Addr} {H : Hp} {o : HO} : hide p (upd H p o) = hide p H := by
  funext a
  by_cases e : a = p
  · rw [e, hide_at, hide_at]
  · rw [hide_ne e, hide_ne e, upd_ne e]
theorem hid_same {p : Addr} {H H' : Hp} (s : Same H H') : Same (hide p H) (hide p H') := But.hid fun a o _ h => s a o h
theorem hid_new {p a : Addr} {H : Hp} {o u : HO} (hp : H p = some o) (n : H a = none) (h : H' a = some u) : hide p H' a = some u := by
  rw [hide_ne (fun e => by rw [e, hp] at n; cases n)]
  exact h
theorem hid_tup {p a : Addr} {H : Hp} {x : List V} {xs : List V} (hp : H p = some (.lst x)) (h : H a = some (.tup xs)) : hide p H a = some (.tup xs) := by
  rw [hide_ne (fun e => by rw [e, hp] at h; cases h)]
  exact h
/-- as H stood, but for the well p, which holds y -/
def On (p : Addr) (H : Hp) (y : List V) (Hc : Hp) : Prop := Same (hide p H) (hide p Hc) ∧ Hc p = some (.lst y)
theorem On.start {p : Addr} {H : Hp} {y : List V} (h : H p = some (.lst y)) : On p H y H := ⟨Same.refl _, h⟩
theorem On.same {p : Addr} {H Hc H' : Hp} {y : List V} (o : On p H y Hc) (s : Same Hc H') : On p H y H' := ⟨o.1.trans (hid_same s), s _ _ o.2⟩
theorem On.new {p q : Addr} {H Hc : Hp} {y : List V} {u : HO} (o : On p H y Hc) (n : Hc q = none) : On p H y (upd Hc q u) := o.same (same_upd n)
theorem On.put {p : Addr} {H Hc : Hp} {y z : List V} (o : On p H y Hc) : On p H z (upd Hc p (.lst z)) := ⟨by rw [hide_upd]; exact o.1, upd_same⟩
theorem On.trans {p : Addr} {H H1 H2 : Hp} {y z : List V} (o : On p H y H1) (c : On p H1 z H2) : On p H z H2 := ⟨o.1.trans c.1, c.2⟩
theorem On.hid {p q : Addr} {H Hc : Hp} {y : List V} {u : HO} (o : On p H y Hc) (n : Hc q = none) : hide p (upd Hc q u) q = some u := hid_new o.2 n upd_same
theorem On.free {p q : Addr} {H Hc : Hp} {y : List V} {u : HO} (o : On p H y Hc) (h : H p = some u) (n : Hc q = none) : H q = none := by
  have e : q ≠ p := fun z => by rw [z, o.2] at n; cases n
  cases g : H q with
  | none => rfl
  | some b =>
    have z := hide_sub p Hc q b (o.1 q b (by rw [hide_ne e]; exact g))
    rw [z] at n
    cases n
theorem item_map {α : Type} {f : α → V} {l : List α} {i : Nat} {v : V} (h : (l.map f)[i]? = some v) : ∃ a, l[i]? = some a ∧ v = f a := by
  rw [List.getElem?_map] at h
  cases e : l[i]? with
  | none => rw [e] at h; cases h
  | some a => rw [e] at h; exact ⟨a, rfl, (Option.some.inj h).symm⟩
/-! ### [e for a in t for b in a], both tuples -/
section
variable {K : PySem.W.Frag} {σ : L2.St} {D : Addr} {vs vs1 : List Nat}
/-- the second for, over a tuple that stays -/
theorem inner_tup {b : Addr} {ys : List V} {g1 : TG} {tt1 : TT} {te : TE} {H4 : Hp} {Nx : Hp → Prop} (Pw : Nat → Hp → Prop) (h0 : Pw 0 H4) (hl : ∀ j H, Pw j H → SqT K H b ys)
    (hs : ∀ j y H, ys[j]? = some y → Pw j H → g1 y (wipe σ vs1) H fun σ3 H5 => wipe σ3 vs1 = wipe σ vs1 ∧ tt1 σ3 H5 fun c H6 => if c = true then te σ3 H6 fun z H7 => ∃ acc, H7 D = some (.lst acc) ∧ acc.length < sizeLine ∧ Pw (j + 1) (upd H7 D (.lst (acc ++ [z]))) else Pw (j + 1) H6)
    (hd : ∀ H, Pw ys.length H → Nx H) :
    ∃ W1 : Nat → Nat → Hp → Prop, (∃ m, W1 0 m H4) ∧ ∀ j k H, W1 j k H → ((Itt K b).stop j H ∧ Nx H) ∨ ((Itt K b).go j H ∧ ∃ Nx1 : Hp → Prop, (∀ H', Nx1 H' → ∃ k', k' < k ∧ W1 (j + 1) k' H') ∧
      ∀ x H', (Itt K b).yld j H x H' → g1 x (wipe σ vs1) H' fun σ3 H5 => wipe σ3 vs1 = wipe σ vs1 ∧ tt1 σ3 H5 fun c H6 => if c = true then te σ3 H6 fun z H7 => ∃ acc, H7 D = some (.lst acc) ∧ acc.length < sizeLine ∧ Nx1 (upd H7 D (.lst (acc ++ [z]))) else Nx1 H6) := by
  refine ⟨fun j k H => k + j = ys.length ∧ Pw j H, ⟨ys.length, rfl, h0⟩, ?_⟩
  rintro j k H ⟨hk, p⟩
  cases k with
  | zero =>
    have e : j = ys.length := by omega
    rw [e] at p ⊢
    exact .inl ⟨⟨ys, hl _ _ p, Nat.le_refl _⟩, hd H p⟩
  | succ k =>
    have lt : j < ys.length := by omega
    refine .inr ⟨⟨ys, ys[j], hl _ _ p, List.getElem?_eq_getElem lt⟩, Pw (j + 1), fun H' p' => ⟨k, Nat.lt_succ_self _, by omega, p'⟩, ?_⟩
    rintro x H' ⟨rfl, y⟩
    exact hs j x _ (y ys (hl _ _ p)) p
/-- the first for -/
theorem outer_tup {a : Addr} {xs : List V} {g g1 : TG} {tt tt1 : TT} {wi1 : TI} {te : TE} {H1 : Hp} {Qd : Hp → Prop} (Pv : Nat → Hp → Prop) (h0 : Pv 0 (upd H1 D (.lst []))) (hl : ∀ i H, Pv i H → SqT K H a xs)
    (hs : ∀ i x H, xs[i]? = some x → Pv i H → g x (wipe σ vs) H fun σ2 H2 => wipe σ2 vs = wipe σ vs ∧ tt σ2 H2 fun c H3 => if c = true then wi1 σ2 H3 fun J1 H4 => ∃ W1 : Nat → Nat → Hp → Prop, (∃ m, W1 0 m H4) ∧ ∀ j k H, W1 j k H → (J1.stop j H ∧ Pv (i + 1) H) ∨ (J1.go j H ∧ ∃ Nx1 : Hp → Prop, (∀ H', Nx1 H' → ∃ k', k' < k ∧ W1 (j + 1) k' H') ∧
      ∀ x H', J1.yld j H x H' → g1 x (wipe σ2 vs1) H' fun σ3 H5 => wipe σ3 vs1 = wipe σ2 vs1 ∧ tt1 σ3 H5 fun c H6 => if c = true then te σ3 H6 fun z H7 => ∃ acc, H7 D = some (.lst acc) ∧ acc.length < sizeLine ∧ Nx1 (upd H7 D (.lst (acc ++ [z]))) else Nx1 H6) else Pv (i + 1) H3)
    (hd : ∀ H, Pv xs.length H → Qd H) :
    ∃ W : Nat → Nat → Hp → Prop, (∃ m, W 0 m (upd H1 D (.lst []))) ∧ ∀ i m H, W i m H → ((Itt K a).stop i H ∧ Qd H) ∨ ((Itt K a).go i H ∧ ∃ Nx : Hp → Prop, (∀ H', Nx H' → ∃ m', m' < m ∧ W (i + 1) m' H') ∧
      ∀ x H', (Itt K a).yld i H x H' → g x (wipe σ vs) H' fun σ2 H2 => wipe σ2 vs = wipe σ vs ∧ tt σ2 H2 fun c H3 => if c = true then wi1 σ2 H3 fun J1 H4 => ∃ W1 : Nat → Nat → Hp → Prop, (∃ m, W1 0 m H4) ∧ ∀ j k H, W1 j k H → (J1.stop j H ∧ Nx H) ∨ (J1.go j H ∧ ∃ Nx1 : Hp → Prop, (∀ H', Nx1 H' → ∃ k', k' < k ∧ W1 (j + 1) k' H') ∧
        ∀ x H', J1.yld j H x H' → g1 x (wipe σ2 vs1) H' fun σ3 H5 => wipe σ3 vs1 = wipe σ2 vs1 ∧ tt1 σ3 H5 fun c H6 => if c = true then te σ3 H6 fun z H7 => ∃ acc, H7 D = some (.lst acc) ∧ acc.length < sizeLine ∧ Nx1 (upd H7 D (.lst (acc ++ [z]))) else Nx1 H6) else Nx H3) := by
  refine ⟨fun i k H => k + i = xs.length ∧ Pv i H, ⟨xs.length, rfl, h0⟩, ?_⟩
  rintro i k H ⟨hk, p⟩
  cases k with
  | zero =>
    have e : i = xs.length := by omega
    rw [e] at p ⊢
    exact .inl ⟨⟨xs, hl _ _ p, Nat.le_refl _⟩, hd H p⟩
  | succ k =>
    have lt : i < xs.length := by omega
    refine .inr ⟨⟨xs, xs[i], hl _ _ p, List.getElem?_eq_getElem lt⟩, Pv (i + 1), fun H' p' => ⟨k, Nat.lt_succ_self _, by omega, p'⟩, ?_⟩
    rintro x H' ⟨rfl, y⟩
    exact hs i x _ (y xs (hl _ _ p)) p
end
/-! ### data: None, truths, numbers, texts, lists and tuples of such -/
mutual
def DAt (H : Hp) : PyData → V → Prop
  | .none, v => v = .non
  | .bool b, v => v = .bl b
  | .int i, v => v = .int i
  | .str z, v => v = .str z
  | .list ds, v => ∃ p xs, v = .ref p ∧ H p = some (.lst xs) ∧ DAll H ds xs
  | .tuple ds, v => ∃ p xs, v = .ref p ∧ H p = some (.tup xs) ∧ DAll H ds xs
  | .dict _, _ => False
def DAll (H : Hp) : List PyData → List V → Prop
  | [], xs => xs = []
  | d :: ds, xs => ∃ v r, xs = v :: r ∧ DAt H d v ∧ DAll H ds r
end
mutual
theorem DAt.same {H H' : Hp} (s : Same H H') : ∀ (d : PyData) {v : V}, DAt H d v → DAt H' d v
  | .none, _, h => h
  | .bool _, _, h => h
  | .int _, _, h => h
  | .str _, _, h => h
  | .list ds, _, ⟨p, xs, e, h, g⟩ => ⟨p, xs, e, s _ _ h, DAll.same s ds g⟩
  | .tuple ds, _, ⟨p, xs, e, h, g⟩ => ⟨p, xs, e, s _ _ h, DAll.same s ds g⟩
  | .dict _, _, h => h
theorem DAll.same {H H' : Hp} (s : Same H H') : ∀ (ds : List PyData) {xs : List V}, DAll H ds xs → DAll H' ds xs
  | [], _, h => h
  | d :: ds, _, ⟨v, r, e, h, g⟩ => ⟨v, r, e, DAt.same s d h, DAll.same s ds g⟩
end
mutual
theorem DAt.dp {K : PySem.W.Frag} {H : Hp} : ∀ (d : PyData) {v : V}, DAt H d v → Dp K H v d
  | .none, _, h => by rw [show _ = V.non from h]; exact .non
  | .bool b, _, h => by rw [show _ = V.bl b from h]; exact .bl b
  | .int i, _, h => by rw [show _ = V.int i from h]; exact .int i
  | .str z, _, h => by rw [show _ = V.str z from h]; exact .str z
  | .list ds, _, ⟨p, xs, e, h, g⟩ => by rw [e]; exact .lst (.of h) (DAll.dp ds g)
  | .tuple ds, _, ⟨p, xs, e, h, g⟩ => by rw [e]; exact .tup (.of h) (DAll.dp ds g)
  | .dict _, _, h => h.elim
theorem DAll.dp {K : PySem.W.Frag} {H : Hp} : ∀ (ds : List PyData) {xs : List V}, DAll H ds xs → DpAll K H xs ds
  | [], _, h => by rw [show _ = ([] : List V) from h]; exact .nil
  | d :: ds, _, ⟨v, r, e, h, g⟩ => by rw [e]; exact .cons (DAt.dp d h) (DAll.dp ds g)
end
theorem DAll.len {H : Hp} : ∀ {l : List PyData} {xs : List V}, DAll H l xs → xs.length = l.length
  | [], _, h => by rw [show _ = [] from h]; rfl
  | k :: l, _, ⟨v, r, e, h, g⟩ => by rw [e]; exact congrArg Nat.succ (DAll.len g)
theorem DAll.get {H : Hp} : ∀ {l : List PyData} {xs : List V}, DAll H l xs → ∀ {i : Nat} {v : V}, xs[i]? = some v → ∃ k, l[i]? = some k ∧ DAt H k v
  | [], _, h, i, v, e => by
    rw [show _ = [] from h] at e
    simp at e
  | k :: l, _, ⟨v, r, e, h, g⟩, 0, u, q => by
    rw [e] at q
    cases q
    exact ⟨k, rfl, h⟩
  | k :: l, _, ⟨v, r, e, h, g⟩, i + 1, u, q => by
    rw [e] at q
    exact DAll.get g (i := i) q
theorem DAll.append {H : Hp} : ∀ {l m : List PyData} {xs ys : List V}, DAll H l xs → DAll H m ys → DAll H (l ++ m) (xs ++ ys)
  | [], _, _, _, h, g => by rw [show _ = [] from h]; exact g
  | k :: l, _, _, _, ⟨v, r, e, h, g⟩, q => by rw [e]; exact ⟨v, _, rfl, h, DAll.append g q⟩
theorem DAll.take {H : Hp} : ∀ (n : Nat) {l : List PyData} {xs : List V}, DAll H l xs → DAll H (l.take n) (xs.take n)
  | 0, _, _, _ => by rw [List.take_zero, List.take_zero]; rfl
  | n + 1, [], _, h => by rw [show _ = [] from h]; rfl
  | n + 1, k :: l, _, ⟨v, r, e, h, g⟩ => by rw [e]; exact ⟨v, _, rfl, h, DAll.take n g⟩
theorem DAll.drop {H : Hp} : ∀ (n : Nat) {l : List PyData} {xs : List V}, DAll H l xs → DAll H (l.drop n) (xs.drop n)
  | 0, _, _, h => h
  | n + 1, [], _, h => by rw [show _ = [] from h]; rfl
  | n + 1, k :: l, _, ⟨v, r, e, h, g⟩ => by rw [e]; exact DAll.drop n g
theorem DAll.strs {H : Hp} : ∀ (zs : List Str), DAll H (zs.map PyData.str) (zs.map V.str)
  | [] => rfl
  | z :: zs => ⟨.str z, _, rfl, rfl, DAll.strs zs⟩
theorem da0 {H : Hp} : DAll H [] [] := rfl
theorem da1 {H : Hp} {k : PyData} {v : V} {l : List PyData} {xs : List V} (a : DAt H k v) (b : DAll H l xs) : DAll H (k :: l) (v :: xs) := ⟨v, xs, rfl, a, b⟩
def dT : PyData → Bool
  | .tuple _ => true
  | _ => false
def dS : PyData → Bool
  | .str _ => true
  | _ => false
def dI : PyData → Bool
  | .int _ => true
  | .bool _ => true
  | _ => false
def dB : PyData → Bool
  | .bool _ => true
  | _ => false
theorem DAt.ty {K : PySem.W.Frag} {H : Hp} : ∀ {d : PyData} {v : V}, DAt H d v → ∃ t, TyX K H v t ∧ PySem.W.kitOne K t (.type "tuple") = some (dT d) ∧ PySem.W.kitOne K t (.type "str") = some (dS d) ∧ PySem.W.kitOne K t (.type "int") = some (dI d) ∧ PySem.W.kitOne K t (.type "bool") = some (dB d)
  | .none, _, h => by
    rw [show _ = V.non from h]
    exact ⟨_, .base .non, kit_ty (show kitB "NoneType" "tuple" = some false by decide +kernel), kit_ty (show kitB "NoneType" "str" = some false by decide +kernel), kit_ty (show kitB "NoneType" "int" = some false by decide +kernel), kit_ty (show kitB "NoneType" "bool" = some false by decide +kernel)⟩
  | .bool b, _, h => by
    rw [show _ = V.bl b from h]
    exact ⟨_, .base (.bl b), kit_ty (show kitB "bool" "tuple" = some false by decide +kernel), kit_ty (show kitB "bool" "str" = some false by decide +kernel), kit_ty (show kitB "bool" "int" = some true by decide +kernel), kit_ty (show kitB "bool" "bool" = some true by decide +kernel)⟩
  | .int i, _, h => by
    rw [show _ = V.int i from h]
    exact ⟨_, .base (.int i), kit_ty (show kitB "int" "tuple" = some false by decide +kernel), kit_ty (show kitB "int" "str" = some false by decide +kernel), kit_ty (show kitB "int" "int" = some true by decide +kernel), kit_ty (show kitB "int" "bool" = some false by decide +kernel)⟩
  | .str z, _, h => by
    rw [show _ = V.str z from h]
    exact ⟨_, .base (.str z), kit_ty (show kitB "str" "tuple" = some false by decide +kernel), kit_ty (show kitB "str" "str" = some true by decide +kernel), kit_ty (show kitB "str" "int" = some false by decide +kernel), kit_ty (show kitB "str" "bool" = some false by decide +kernel)⟩
  | .list ds, _, ⟨p, xs, e, h, g⟩ => by
    rw [e]
    exact ⟨_, .base (.lst h), kit_ty (show kitB "list" "tuple" = some false by decide +kernel), kit_ty (show kitB "list" "str" = some false by decide +kernel), kit_ty (show kitB "list" "int" = some false by decide +kernel), kit_ty (show kitB "list" "bool" = some false by decide +kernel)⟩
  | .tuple ds, _, ⟨p, xs, e, h, g⟩ => by
    rw [e]
    exact ⟨_, .base (.tup h), kit_ty (show kitB "tuple" "tuple" = some true by decide +kernel), kit_ty (show kitB "tuple" "str" = some false by decide +kernel), kit_ty (show kitB "tuple" "int" = some false by decide +kernel), kit_ty (show kitB "tuple" "bool" = some false by decide +kernel)⟩
  | .dict _, _, h => h.elim
/-- data that can be laid, of some depth and weight, told in short texts -/
structure Ok (n m : Nat) (d : PyData) : Prop where
  lay : d.canLay0 = true
  dep : d.depth ≤ n
  sho : d.showable = true
  lea : d.leavesShort 40 = true
  wei : d.weight ≤ m
structure OkA (n m : Nat) (ds : List PyData) : Prop where
  lay : PyData.canLayAll0 ds = true
  dep : PyData.depthAll ds ≤ n
  sho : PyData.showableAll ds = true
  lea : PyData.leavesShortAll 40 ds = true
  wei : PyData.weightAll ds ≤ m
theorem OkA.nil {n m : Nat} : OkA n m [] := ⟨rfl, Nat.zero_le _, rfl, rfl, Nat.zero_le _⟩
theorem Ok.mono {n m n' m' : Nat} {d : PyData} (h : Ok n m d) (a : n ≤ n') (b : m ≤ m') : Ok n' m' d := ⟨h.lay, Nat.le_trans h.dep a, h.sho, h.lea, Nat.le_trans h.wei b⟩
theorem OkA.mono {n m n' m' : Nat} {d : List PyData} (h : OkA n m d) (a : n ≤ n') (b : m ≤ m') : OkA n' m' d := ⟨h.lay, Nat.le_trans h.dep a, h.sho, h.lea, Nat.le_trans h.wei b⟩
theorem OkA.cons {n m k : Nat} {d : PyData} {ds : List PyData} (a : Ok n m d) (b : OkA n k ds) : OkA n (m + 1 + k) (d :: ds) := by
  refine ⟨?_, ?_, ?_, ?_, ?_⟩
  · rw [PyData.canLayAll0, a.lay, b.lay] <;> rfl
  · rw [PyData.depthAll]
    exact Nat.max_le.mpr ⟨a.dep, b.dep⟩
  · rw [PyData.showableAll, a.sho, b.sho] <;> rfl
  · rw [PyData.leavesShortAll, a.lea, b.lea] <;> rfl
  · rw [PyData.weightAll]
    have := a.wei
    have := b.wei
    omega
theorem OkA.head {n m : Nat} {d : PyData} {ds : List PyData} (h : OkA n m (d :: ds)) : Ok n m d := by
  have h1 := h.lay
  have h2 := h.dep
  have h3 := h.sho
  have h4 := h.lea
  have h5 := h.wei
  rw [PyData.canLayAll0, Bool.and_eq_true] at h1
  rw [PyData.depthAll] at h2
  rw [PyData.showableAll, Bool.and_eq_true] at h3
  rw [PyData.leavesShortAll, Bool.and_eq_true] at h4
  rw [PyData.weightAll] at h5
  exact ⟨h1.1, (Nat.max_le.mp h2).1, h3.1, h4.1, by omega⟩
theorem OkA.tail {n m : Nat} {d : PyData} {ds : List PyData} (h : OkA n m (d :: ds)) : OkA n m ds := by
  have h1 := h.lay
  have h2 := h.dep
  have h3 := h.sho
  have h4 := h.lea
  have h5 := h.wei
  rw [PyData.canLayAll0, Bool.and_eq_true] at h1
  rw [PyData.depthAll] at h2
  rw [PyData.showableAll, Bool.and_eq_true] at h3
  rw [PyData.leavesShortAll, Bool.and_eq_true] at h4
  rw [PyData.weightAll] at h5
  exact ⟨h1.2, (Nat.max_le.mp h2).2, h3.2, h4.2, by omega⟩
theorem OkA.get {n m : Nat} : ∀ {ds : List PyData}, OkA n m ds → ∀ d ∈ ds, Ok n m d
  | [], _, _, h => by cases h
  | a :: ds, h, d, hd => by
    rcases List.mem_cons.mp hd with e | hd
    · rw [e]
      exact h.head
    · exact h.tail.get d hd
theorem OkA.append {n m k : Nat} : ∀ {a b : List PyData}, OkA n m a → OkA n k b → OkA n (m + k) (a ++ b)
  | [], b, h, g => g.mono (Nat.le_refl _) (by omega)
  | d :: a, b, h, g => by
    have e := h.wei
    rw [PyData.weightAll] at e
    have hd : Ok n d.weight d := ⟨h.head.lay, h.head.dep, h.head.sho, h.head.lea, Nat.le_refl _⟩
    have ha : OkA n (PyData.weightAll a) a := ⟨h.tail.lay, h.tail.dep, h.tail.sho, h.tail.lea, Nat.le_refl _⟩
    exact (OkA.cons hd (OkA.append ha g)).mono (Nat.le_refl _) (by omega)
theorem OkA.take {n m : Nat} : ∀ (k : Nat) {a : List PyData}, OkA n m a → OkA n m (a.take k)
  | 0, _, _ => OkA.nil
  | _ + 1, [], _ => OkA.nil
  | k + 1, d :: a, h => by
    have e := h.wei
    rw [PyData.weightAll] at e
    have hd : Ok n d.weight d := ⟨h.head.lay, h.head.dep, h.head.sho, h.head.lea, Nat.le_refl _⟩
    have ha : OkA n (PyData.weightAll a) a := ⟨h.tail.lay, h.tail.dep, h.tail.sho, h.tail.lea, Nat.le_refl _⟩
    exact (OkA.cons hd (ha.take k)).mono (Nat.le_refl _) (by omega)
theorem OkA.drop {n m : Nat} : ∀ (k : Nat) {a : List PyData}, OkA n m a → OkA n m (a.drop k)
  | 0, _, h => h
  | _ + 1, [], _ => OkA.nil
  | k + 1, _ :: _, h => h.tail.drop k
theorem OkA.tuple {n m : Nat} {ds : List PyData} (h : OkA n m ds) : Ok (n + 1) m (.tuple ds) := by
  refine ⟨?_, ?_, ?_, ?_, ?_⟩
  · rw [PyData.canLay0]; exact h.lay
  · have := h.dep
    rw [PyData.depth]
    omega
  · rw [PyData.showable]; exact h.sho
  · rw [PyData.leavesShort]; exact h.lea
  · rw [PyData.weight]; exact h.wei
theorem OkA.list {n m : Nat} {ds : List PyData} (h : OkA n m ds) : Ok (n + 1) m (.list ds) := by
  refine ⟨?_, ?_, ?_, ?_, ?_⟩
  · rw [PyData.canLay0]; exact h.lay
  · have := h.dep
    rw [PyData.depth]
    omega
  · rw [PyData.showable]; exact h.sho
  · rw [PyData.leavesShort]; exact h.lea
  · rw [PyData.weight]; exact h.wei
theorem Ok.shaped {n m : Nat} {d : PyData} (h : Ok n m d) (hn : n ≤ 64) : SeqAt.shaped d = true := by
  unfold SeqAt.shaped
  rw [h.lay, Bool.true_and]
  exact decide_eq_true (Nat.le_trans h.dep hn)
theorem Ok.fits {n m : Nat} {d : PyData} (h : Ok n m d) (hm : m ≤ 100000) : d.shown.length ≤ sizeLine := by
  have := PyData.shown_le 40 (by decide) d h.lea
  have := h.wei
  show _ ≤ 16777216
  omega
theorem ok_none {n m : Nat} : Ok n m .none := ⟨rfl, Nat.zero_le _, rfl, rfl, Nat.zero_le _⟩
theorem ok_str {n m : Nat} {z : Str} (h : PyData.strOk z = true) (g : z.length ≤ m) : Ok n m (.str z) := by
  refine ⟨by rw [PyData.canLay0]; exact h, Nat.zero_le _, by rw [PyData.showable], ?_, by rw [PyData.weight]; exact g⟩
  rw [PyData.leavesShort, List.all_eq_true]
  intro c hc
  unfold PyData.strOk at h
  rw [← Array.all_toList, List.all_eq_true] at h
  have := of_decide_eq_true (h c hc)
  exact decide_eq_true (Nat.lt_trans this (by decide))
/-! ### what the program's own looks tell of data -/
def wholeD : PyData → Bool
  | .int _ => true
  | _ => false
def tupD : PyData → Nat → Bool
  | .tuple l, n => decide (l.length = n)
  | _, _ => false
def optD (zs : List Str) : PyData → Bool
  | .str z => decide (z ∈ zs)
  | _ => false
def unS : PyData → Option Str
  | .str z => some z
  | _ => none
def unlikeD (zs : List Str) (ds : List PyData) : Bool := ds.all (optD zs) && decide (ds.filterMap unS).Nodup
def markD : PyData → Bool
  | .int i => decide (0 ≤ i) && decide (i ≤ 9)
  | _ => false
def parts : PyData → List PyData
  | .tuple l => l
  | _ => []
def tierD : PyData → Bool
  | .tuple l => decide (0 < l.length)
  | _ => false
def pairD : PyData → Bool
  | .tuple [_, m] => markD m
  | _ => false
def firstD : PyData → PyData
  | .tuple (a :: _) => a
  | _ => .none
def tiersD (zs : List Str) (ds : List PyData) : Bool := ds.all tierD && unlikeD zs (ds.flatMap parts)
def marksD (zs : List Str) (ds : List PyData) : Bool := ds.all pairD && unlikeD zs (ds.map firstD)
def ballotD (zs : List Str) : PyData → Bool
  | .tuple [.str f, .tuple l] => if f = "order" then tiersD zs l else if f = "lets" then unlikeD zs l else if f = "marks" then marksD zs l else false
  | _ => false
theorem inV_str (z : Str) : ∀ zs : List Str, inV (.str z) (zs.map V.str) = decide (z ∈ zs)
  | [] => rfl
  | a :: l => by
    have ih := inV_str z l
    unfold inV at ih ⊢
    rw [List.map_cons, List.any_cons, ih]
    show ((a == z) || decide (z ∈ l)) = decide (z ∈ a :: l)
    by_cases h : a = z
    · rw [h]
      simp
    · have : (a == z) = false := beq_eq_false_iff_ne.mpr h
      rw [this, Bool.false_or]
      exact decide_eq_decide.mpr ⟨fun m => List.mem_cons_of_mem _ m, fun m => (List.mem_cons.mp m).elim (fun e => absurd e.symm h) id⟩
theorem flat_strs (zs : List Str) : (zs.map V.str).all flatV = true := by
  rw [List.all_map, List.all_eq_true]
  exact fun _ _ => rfl
theorem opt_strs {zs : List Str} : ∀ {ds : List PyData}, ds.all (optD zs) = true → ds = (ds.filterMap unS).map PyData.str
  | [], _ => rfl
  | d :: ds, h => by
    rw [List.all_cons, Bool.and_eq_true] at h
    cases d with
    | str z => exact congrArg (PyData.str z :: ·) (opt_strs h.2)
    | _ => cases h.1
theorem DAll.of_strs {H : Hp} : ∀ {zs : List Str} {xs : List V}, DAll H (zs.map PyData.str) xs → xs = zs.map V.str
  | [], _, h => h
  | z :: zs, _, ⟨v, r, e, h, g⟩ => by
    rw [e, show v = V.str z from h, DAll.of_strs g] <;> rfl
section
variable {P : Program} {w : World} {K : PySem.W.Frag} {mg : Str → Option Value} {base : Heap}
def sp_is_whole : Sp := fun vs H Q _ => ∃ (v : V) (d : PyData), vs = [v] ∧ DAt H d v ∧ Q (.bl (wholeD d)) H
theorem ok_is_whole (T : Txt K mg) : FnOk P w K mg base CX0 1 T.f_is_whole T.fd_is_whole ["thing"] sp_is_whole := by
  refine T.F_is_whole.ok sc_is_whole (fun vs H Q E h => ?_) (fun cdv A outer s H vs Q E hr h => ?_)
  · obtain ⟨v, d, rfl, _⟩ := h
    rfl
  · obtain ⟨v, d, rfl, hd, q⟩ := h
    refine ⟨_, (pss_one
 (ps_ret (pe_and (pe_callB call_isi (by rfl) T.z_isinstance (by decide +kernel) (pa_cons (pv 0) (pa_cons (pe_bltn (v := .ty "int") (u := .type "int") rfl T.z_int (by decide +kernel) rfl) pa_nil))) (pe_one (pe_not (pe_callB call_isi (by rfl) T.z_isinstance (by decide +kernel) (pa_cons (pv 0) (pa_cons (pe_bltn (v := .ty "bool") (u := .type "bool") rfl T.z_bool (by decide +kernel) rfl) pa_nil)))))))), ?_⟩
    obtain ⟨t, ht, _, _, k3, k4⟩ := hd.ty (K := K)
    refine ⟨v, rfl, v, _, t, _, dI d, rfl, .ty _, ht, k3, dI d, rfl, ?_⟩
    have e : (if dI d = true then !dB d else false) = wholeD d := by cases d <;> rfl
    rw [← e] at q
    cases h1 : dI d with
    | false =>
      rw [h1] at q
      exact iteF q
    | true =>
      rw [h1] at q
      exact iteT ⟨v, rfl, v, _, t, _, dB d, rfl, .ty _, ht, k4, dB d, rfl, q⟩
def sp_is_tuple_of : Sp := fun vs H Q _ => ∃ (v : V) (n : Nat) (d : PyData), vs = [v, .int n] ∧ DAt H d v ∧ Q (.bl (tupD d n)) H
theorem ok_is_tuple_of (T : Txt K mg) : FnOk P w K mg base CX0 1 T.f_is_tuple_of T.fd_is_tuple_of ["thing", "many"] sp_is_tuple_of := by
  refine T.F_is_tuple_of.ok sc_is_tuple_of (fun vs H Q E h => ?_) (fun cdv A outer s H vs Q E hr h => ?_)
  · obtain ⟨v, n, d, rfl, _⟩ := h
    rfl
  · obtain ⟨v, n, d, rfl, hd, q⟩ := h
    refine ⟨_, (pss_one
 (ps_ret (pe_and (pe_callB call_isi (by rfl) T.z_isinstance (by decide +kernel) (pa_cons (pv 0) (pa_cons (pe_bltn (v := .ty "tuple") (u := .type "tuple") rfl T.z_tuple (by decide +kernel) rfl) pa_nil))) (pe_one (pe_cmpR op_eq (pe_callB call_len_seq (by rfl) T.z_len (by decide +kernel) (pa_cons (pv 0) pa_nil)) (pv 1) (nomark _)))))), ?_⟩
    obtain ⟨t, ht, k1, _⟩ := hd.ty (K := K)
    refine ⟨v, rfl, v, _, t, _, dT d, rfl, .ty _, ht, k1, dT d, rfl, ?_⟩
    cases d with
    | tuple l =>
      obtain ⟨p, xs, rfl, hp, ha⟩ := hd
      refine iteT ⟨.ref p, rfl, p, _, rfl, .inr (.of hp), .int n, rfl, rfl, ?_⟩
      rw [ha.len]
      have e : decide (V.int (l.length : Int) = V.int (n : Int)) = decide (l.length = n) := decide_eq_decide.mpr ⟨fun h => by have := V.int.inj h; omega, fun h => by rw [h]⟩
      rw [e]
      exact q
    | _ => exact iteF q
def sp_is_option : Sp := fun vs H Q _ => ∃ (o : Addr) (zs : List Str) (v : V) (d : PyData), vs = [.ref o, v] ∧ H o = some (.tup (zs.map V.str)) ∧ DAt H d v ∧ Q (.bl (optD zs d)) H
theorem ok_is_option (T : Txt K mg) : FnOk P w K mg base CX0 1 T.f_is_option T.fd_is_option ["options", "thing"] sp_is_option := by
  refine T.F_is_option.ok sc_is_option (fun vs H Q E h => ?_) (fun cdv A outer s H vs Q E hr h => ?_)
  · obtain ⟨o, zs, v, d, rfl, _⟩ := h
    rfl
  · obtain ⟨o, zs, v, d, rfl, ho, hd, q⟩ := h
    refine ⟨_, (pss_one
 (ps_ret (pe_and (pe_callB call_isi (by rfl) T.z_isinstance (by decide +kernel) (pa_cons (pv 1) (pa_cons (pe_bltn (v := .ty "str") (u := .type "str") rfl T.z_str (by decide +kernel) rfl) pa_nil))) (pe_one (pe_cmpR op_in_seq (pv 1) (pv 0) rfl))))), ?_⟩
    obtain ⟨t, ht, _, k2, _⟩ := hd.ty (K := K)
    refine ⟨v, rfl, v, _, t, _, dS d, rfl, .ty _, ht, k2, dS d, rfl, ?_⟩
    cases d with
    | str z =>
      rw [show v = V.str z from hd]
      refine iteT ⟨.str z, rfl, .ref o, rfl, o, _, rfl, .inr (.of ho), rfl, flat_strs zs, ?_⟩
      show Q (.bl (inV (.str z) (zs.map V.str))) H
      rw [inV_str]
      exact q
    | _ => exact iteF q
def sp_are_unlike_options : Sp := fun vs H Q _ => ∃ (o p : Addr) (zs : List Str) (xs : List V) (ds : List PyData), vs = [.ref o, .ref p] ∧ H o = some (.tup (zs.map V.str)) ∧ (H p = some (.lst xs) ∨ H p = some (.tup xs)) ∧ DAll H ds xs ∧ ds.length ≤ 500 ∧ ∀ H', Same H H' → Q (.bl (unlikeD zs ds)) H'
theorem ok_are_unlike_options (T : Txt K mg) : FnOk P w K mg base CX0 2 T.f_are_unlike_options T.fd_are_unlike_options ["options", "names"] sp_are_unlike_options := by
  refine T.F_are_unlike_options.ok sc_are_unlike_options (fun vs H Q E h => ?_) (fun cdv A outer s H vs Q E hr h => ?_)
  · obtain ⟨o, p, zs, xs, ds, rfl, _⟩ := h
    rfl
  · obtain ⟨o, p, zs, xs, ds, rfl, ho, hp, ha, hl, q⟩ := h
    refine ⟨_, (pss_one
 (ps_ret (pe_and (pe_callB (cr_all rfl) (by rfl) T.z_all (by decide +kernel) (pa_cons (pe_lc (own := [("name", 2)]) (g := gName 2) (tt := tYes) rfl sc_are_unlike_options.nd (pi_or (pi_list (pv 1)) (pi_tup (pv 1))) (blkOk_by (own := [("name", 2)]) (N := ["options", "names", "name"]) (sc := (defScope s_are_unlike_options)) (by decide +kernel)) (fun _ _ _ _ _ => pg_name (i := 2) sc_are_unlike_options.nd rfl (Or.inl rfl)) (fun _ _ _ _ _ => pts_nil) (fun _ _ _ _ _ => (pe_call (ok_is_option T) (hr.mono (by decide)) (by rfl) T.g_is_option T.F_is_option.kp T.b_is_option .nil pass0 (pa_cons (pv 0) (pa_cons (pv 2) pa_nil))))) pa_nil)) (pe_one (pe_cmpR op_eq (pe_unlike rfl (by rfl) T.z_len (by rfl) T.z_set (pv 1)) (pe_callB call_len_seq (by rfl) T.z_len (by decide +kernel) (pa_cons (pv 1) pa_nil)) (nomark _)))))), ?_⟩
    have lx : xs.length = ds.length := ha.len
    -- behind the comprehension
    have go : ∀ (H1 : Hp), Same H H1 → ∀ (R : VK), (∀ b H', Same H H' → b = unlikeD zs ds → R (.bl b) H') →
        (ds.all (optD zs) = false → R (.bl false) H1) ∧ (ds.all (optD zs) = true → ∀ b, b = decide (V.int ((met (ds.filterMap unS)).length : Int) = V.int (xs.length : Int)) → R (.bl b) H1) := by
      intro H1 s1 R c
      refine ⟨fun e => c _ _ s1 ?_, fun e b hb => c _ _ s1 ?_⟩
      · unfold unlikeD
        rw [e] <;> rfl
      · have es := opt_strs e
        have el : (ds.filterMap unS).length = ds.length := by
          have := congrArg List.length es
          rw [List.length_map] at this
          exact this.symm
        unfold unlikeD
        rw [e, Bool.true_and, ← met_iff, hb]
        exact decide_eq_decide.mpr ⟨fun h => by have := V.int.inj h; omega, fun h => by rw [h, el, ← lx]⟩
    have turn : ∀ (D : Addr) (nD : H D = none) (i : Nat) (x : V) (H1 : Hp), xs[i]? = some x → (Same H H1 ∧ H1 D = some (.lst (((ds.take i).map (optD zs)).map V.bl))) → ∃ kk, ds[i]? = some kk ∧ DAt H1 kk x ∧ H1 o = some (.tup (zs.map V.str)) ∧
        H1 D = some (.lst (((ds.take i).map (optD zs)).map V.bl)) ∧ (((ds.take i).map (optD zs)).map V.bl).length < sizeLine ∧ Same H (upd H1 D (.lst (((ds.take i).map (optD zs)).map V.bl ++ [V.bl (optD zs kk)]))) ∧
        (upd H1 D (.lst (((ds.take i).map (optD zs)).map V.bl ++ [V.bl (optD zs kk)]))) D = some (.lst (((ds.take (i + 1)).map (optD zs)).map V.bl)) := by
      rintro D nD i x H1 hi ⟨s1, e1⟩
      obtain ⟨kk, hkk, hx⟩ := ha.get hi
      refine ⟨kk, hkk, DAt.same s1 _ hx, s1 _ _ ho, e1, ?_, same_mut s1 nD, ?_⟩
      · rw [List.length_map, List.length_map, List.length_take]
        exact small1000 (by omega)
      · rw [upd_same, take_more hkk, List.map_append, List.map_append]
        rfl
    rcases hp with hp | hp
    · refine .inl ⟨.ref p, rfl, p, rfl, ⟨_, .of hp⟩, fun D nD => ?_⟩
      refine lc_list (K := K) (a := p) (xs := xs) (fun i H' => Same H H' ∧ H' D = some (.lst (((ds.take i).map (optD zs)).map V.bl))) ⟨same_upd nD, upd_same⟩ (fun _ _ _ h => .of (h.1 _ _ hp)) ?_ ?_
      · intro i x H1 hi h
        obtain ⟨kk, hkk, hx, ho1, e1, z1, z2, z3⟩ := turn D nD i x H1 hi h
        exact ⟨rfl, .ref o, rfl, x, rfl, o, zs, x, kk, rfl, ho1, hx, _, e1, z1, z2, z3⟩
      · rintro H1 ⟨s1, e1⟩
        rw [lx, List.take_length] at e1
        refine ⟨D, _, rfl, .of e1, _, rfl, ?_⟩
        have ea : (ds.map (optD zs)).all id = ds.all (optD zs) := by rw [List.all_map]; rfl
        rw [ea]
        obtain ⟨g1, g2⟩ := go H1 s1 Q (fun b H' s e => by rw [e]; exact q _ s)
        cases hs : ds.all (optD zs) with
        | false => exact iteF (g1 hs)
        | true =>
          have es := opt_strs hs
          have ex : xs = (ds.filterMap unS).map V.str := by rw [es] at ha; exact ha.of_strs
          have lw : (ds.filterMap unS).length ≤ 500 := Nat.le_trans (List.length_filterMap_le _ _) hl
          exact iteT ⟨.ref p, rfl, p, ds.filterMap unS, rfl, .inl (.of (by rw [← ex]; exact s1 _ _ hp)), by omega, .ref p, rfl, p, _, rfl, .inl (.of (s1 _ _ hp)), rfl, g2 hs _ rfl⟩
    · refine .inr ⟨.ref p, rfl, p, rfl, ⟨_, .of hp⟩, fun D nD => ?_⟩
      refine lc_tup (K := K) (a := p) (xs := xs) (fun i H' => Same H H' ∧ H' D = some (.lst (((ds.take i).map (optD zs)).map V.bl))) ⟨same_upd nD, upd_same⟩ (fun _ _ _ h => .of (h.1 _ _ hp)) ?_ ?_
      · intro i x H1 hi h
        obtain ⟨kk, hkk, hx, ho1, e1, z1, z2, z3⟩ := turn D nD i x H1 hi h
        exact ⟨rfl, .ref o, rfl, x, rfl, o, zs, x, kk, rfl, ho1, hx, _, e1, z1, z2, z3⟩
      · rintro H1 ⟨s1, e1⟩
        rw [lx, List.take_length] at e1
        refine ⟨D, _, rfl, .of e1, _, rfl, ?_⟩
        have ea : (ds.map (optD zs)).all id = ds.all (optD zs) := by rw [List.all_map]; rfl
        rw [ea]
        obtain ⟨g1, g2⟩ := go H1 s1 Q (fun b H' s e => by rw [e]; exact q _ s)
        cases hs : ds.all (optD zs) with
        | false => exact iteF (g1 hs)
        | true =>
          have es := opt_strs hs
          have ex : xs = (ds.filterMap unS).map V.str := by rw [es] at ha; exact ha.of_strs
          have lw : (ds.filterMap unS).length ≤ 500 := Nat.le_trans (List.length_filterMap_le _ _) hl
          exact iteT ⟨.ref p, rfl, p, ds.filterMap unS, rfl, .inr (.of (by rw [← ex]; exact s1 _ _ hp)), by omega, .ref p, rfl, p, _, rfl, .inr (.of (s1 _ _ hp)), rfl, g2 hs _ rfl⟩
end
section
variable {P : Program} {w : World} {K : PySem.W.Frag} {mg : Str → Option Value} {base : Heap}
def sp_is_mark : Sp := fun vs H Q _ => ∃ (v : V) (d : PyData), vs = [v] ∧ DAt H d v ∧ Q (.bl (markD d)) H
theorem ok_is_mark (T : Txt K mg) : FnOk P w K mg base CX0 2 T.f_is_mark T.fd_is_mark ["thing"] sp_is_mark := by
  refine T.F_is_mark.ok sc_is_mark (fun vs H Q E h => ?_) (fun cdv A outer s H vs Q E hr h => ?_)
  · obtain ⟨v, d, rfl, _⟩ := h
    rfl
  · obtain ⟨v, d, rfl, hd, q⟩ := h
    refine ⟨_, (pss_one
 (ps_ret (pe_and (pe_call (ok_is_whole T) (hr.mono (by decide)) (by rfl) T.g_is_whole T.F_is_whole.kp T.b_is_whole .nil pass0 (pa_cons (pv 0) pa_nil)) (pe_one (pe_chain op_le op_le pe_int (pv 0) (pe_glob (v := .int 9) rfl T.c_GREATEST_MARK ⟨_, rfl⟩)))))), ?_⟩
    refine ⟨v, rfl, v, d, rfl, hd, wholeD d, rfl, ?_⟩
    cases d with
    | int i =>
      rw [show v = V.int i from hd]
      have e : markD (.int i) = if decide (0 ≤ i) = true then decide (i ≤ 9) else false := by
        show (decide (0 ≤ i) && decide (i ≤ 9)) = _
        by_cases h : 0 ≤ i <;> simp [h]
      rw [e] at q
      refine iteT ⟨.int i, rfl, _, _, rfl, rfl, _, rfl, ?_⟩
      by_cases h : 0 ≤ i
      · rw [decide_eq_true h] at q ⊢
        exact iteT ⟨_, _, rfl, rfl, q⟩
      · rw [decide_eq_false h] at q ⊢
        exact iteF q
    | _ => exact iteF q
/-- a tuple of which no part is long -/
def Wide (ds : List PyData) : Prop := ds.length ≤ 20 ∧ ∀ d ∈ ds, (parts d).length ≤ 20
def sp_are_tiers : Sp := fun vs H Q _ => ∃ (o t : Addr) (zs : List Str) (xs : List V) (ds : List PyData), vs = [.ref o, .ref t] ∧ H o = some (.tup (zs.map V.str)) ∧ H t = some (.tup xs) ∧ DAll H ds xs ∧ Wide ds ∧ ∀ H', Same H H' → Q (.bl (tiersD zs ds)) H'
theorem flat_le {ds : List PyData} (h : Wide ds) : (ds.flatMap parts).length ≤ 400 := by
  obtain ⟨h1, h2⟩ := h
  have : ∀ l : List PyData, (∀ d ∈ l, (parts d).length ≤ 20) → (l.flatMap parts).length ≤ 20 * l.length := by
    intro l
    induction l with
    | nil => intro _; exact Nat.le_refl _
    | cons a l ih =>
      intro g
      have a1 := g a List.mem_cons_self
      have a2 := ih fun d hd => g d (List.mem_cons_of_mem _ hd)
      rw [List.flatMap_cons, List.length_append, List.length_cons]
      omega
  have := this ds h2
  omega
theorem ok_are_tiers (T : Txt K mg) : FnOk P w K mg base CX0 3 T.f_are_tiers T.fd_are_tiers ["options", "told"] sp_are_tiers := by
  refine T.F_are_tiers.ok sc_are_tiers (fun vs H Q E h => ?_) (fun cdv A outer s H vs Q E hr h => ?_)
  · obtain ⟨o, t, zs, xs, ds, rfl, _⟩ := h
    rfl
  · obtain ⟨o, t, zs, xs, ds, rfl, ho, ht, ha, hw, q⟩ := h
    refine ⟨_, (pss_cons
 (ps_if (pt_not (pt_val (pe_callB (cr_all rfl) (by rfl) T.z_all (by decide +kernel) (pa_cons (pe_lc (own := [("tier", 2)]) (g := gName 2) (tt := tYes) rfl sc_are_tiers.nd (pi_tup (pv 1)) (blkOk_by (own := [("tier", 2)]) (N := ["options", "told", "tier", "name"]) (sc := (defScope s_are_tiers)) (by decide +kernel)) (fun _ _ _ _ _ => pg_name (i := 2) sc_are_tiers.nd rfl (Or.inl rfl)) (fun _ _ _ _ _ => pts_nil) (fun s0 H0 C0 cl0 fp0 => (by have h := ((pe_and (pe_callB call_isi (by rfl) T.z_isinstance (by decide +kernel) (pa_cons (pv 2) (pa_cons (pe_bltn (v := .ty "tuple") (u := .type "tuple") rfl T.z_tuple (by decide +kernel) rfl) pa_nil))) (pe_one (pe_cmpR op_gt (pe_callB call_len_seq (by rfl) T.z_len (by decide +kernel) (pa_cons (pv 2) pa_nil)) pe_int (nomark _)))) : PE ((cxOf CX0 P w K mg base ["options", "told", "tier", "name"] "are_tiers" (defScope s_are_tiers) T.f_are_tiers cdv A outer s H E).nox.blk s0 H0 (lcScope (subE (subE (rootE ((defBody s_are_tiers).getD 0 (.Pass ⟨0, 0, 0, 0⟩))) 0) 1)) (compEnvC (lcScope (subE (subE (rootE ((defBody s_are_tiers).getD 0 (.Pass ⟨0, 0, 0, 0⟩))) 0) 1)) cl0 C0 (cxOf CX0 P w K mg base ["options", "told", "tier", "name"] "are_tiers" (defScope s_are_tiers) T.f_are_tiers cdv A outer s H E).nox.env) fp0) (subE (subE (subE (rootE ((defBody s_are_tiers).getD 0 (.Pass ⟨0, 0, 0, 0⟩))) 0) 1) 0) _); dsimp only [Cx.blk, Cx.tr, Cx.suite, Cx.nox, Cx.wish, cxOf] at h; exact h))) pa_nil))))
 (pss_one
 (ps_ret pe_bl))
 pss_nil)
 (pss_one
 (ps_ret (pe_call (ok_are_unlike_options T) (hr.mono (by decide)) (by rfl) T.g_are_unlike_options T.F_are_unlike_options.kp T.b_are_unlike_options .nil pass0 (pa_cons (pv 0) (pa_cons (pe_lc2 (own := [("tier", 2), ("name", 3)]) (vs1 := [3]) (g := gName 2) (g1 := gName 3) (tt := tYes) (tt1 := tYes) rfl sc_are_tiers.nd (pi_tup (pv 1)) (blkOk_by (own := [("tier", 2), ("name", 3)]) (N := ["options", "told", "tier", "name"]) (sc := (defScope s_are_tiers)) (by decide +kernel)) (by decide) (fun _ _ _ _ _ => pg_name (i := 2) sc_are_tiers.nd rfl (Or.inl rfl)) (fun _ _ _ _ _ => pts_nil) (fun s0 H0 C0 cl0 fp0 => (by have h := ((pi_tup (pv 2)) : PI ((cxOf CX0 P w K mg base ["options", "told", "tier", "name"] "are_tiers" (defScope s_are_tiers) T.f_are_tiers cdv A outer s H E).nox.blk s0 H0 (lcScope (subE (rootE ((defBody s_are_tiers).getD 1 (.Pass ⟨0, 0, 0, 0⟩))) 2)) (compEnvC (lcScope (subE (rootE ((defBody s_are_tiers).getD 1 (.Pass ⟨0, 0, 0, 0⟩))) 2)) cl0 C0 (cxOf CX0 P w K mg base ["options", "told", "tier", "name"] "are_tiers" (defScope s_are_tiers) T.f_are_tiers cdv A outer s H E).nox.env) fp0) (lcG (subE (rootE ((defBody s_are_tiers).getD 1 (.Pass ⟨0, 0, 0, 0⟩))) 2) 1).target (lcG (subE (rootE ((defBody s_are_tiers).getD 1 (.Pass ⟨0, 0, 0, 0⟩))) 2) 1).iter _); dsimp only [Cx.blk, Cx.tr, Cx.suite, Cx.nox, Cx.wish, cxOf] at h; exact h)) (fun _ _ _ _ _ => pg_name (i := 3) sc_are_tiers.nd rfl (Or.inl rfl)) (fun _ _ _ _ _ => pts_nil) (fun _ _ _ _ _ => (pv 3))) pa_nil)))))), ?_⟩
    have lx : xs.length = ds.length := ha.len
    have l20 := hw.1
    refine ⟨.ref t, rfl, t, rfl, ⟨_, .of ht⟩, fun D nD => ?_⟩
    refine lc_tup (K := K) (a := t) (xs := xs) (fun i H' => Same H H' ∧ H' D = some (.lst (((ds.take i).map tierD).map V.bl))) ⟨same_upd nD, upd_same⟩ (fun _ _ _ h => .of (h.1 _ _ ht)) ?_ ?_
    · rintro i x H1 hi ⟨s1, e1⟩
      obtain ⟨kk, hkk, hx⟩ := ha.get hi
      have hx := DAt.same s1 _ hx
      obtain ⟨ty, hty, k1, _⟩ := hx.ty (K := K)
      have fin : ∀ b, b = tierD kk → ∃ acc, H1 D = some (.lst acc) ∧ acc.length < sizeLine ∧ Same H (upd H1 D (.lst (acc ++ [V.bl b]))) ∧ (upd H1 D (.lst (acc ++ [V.bl b]))) D = some (.lst (((ds.take (i + 1)).map tierD).map V.bl)) := fun b e => by
        refine ⟨_, e1, ?_, same_mut s1 nD, ?_⟩
        · rw [List.length_map, List.length_map, List.length_take]
          exact small1000 (by omega)
        · rw [upd_same, take_more hkk, List.map_append, List.map_append, e]
          rfl
      refine ⟨rfl, x, rfl, x, _, ty, _, dT kk, rfl, .ty _, hty, k1, dT kk, rfl, ?_⟩
      cases kk with
      | tuple l =>
        obtain ⟨a1, ys, rfl, h1, h2⟩ := hx
        refine iteT ⟨.ref a1, rfl, a1, _, rfl, .inr (.of h1), _, _, rfl, rfl, fin _ ?_⟩
        rw [h2.len]
        exact decide_eq_decide.mpr ⟨fun h => by omega, fun h => by omega⟩
      | _ => exact iteF (fin _ rfl)
    · rintro H1 ⟨s1, e1⟩
      rw [lx, List.take_length] at e1
      refine ⟨D, _, rfl, .of e1, _, rfl, ?_⟩
      have ea : (ds.map tierD).all id = ds.all tierD := by rw [List.all_map]; rfl
      rw [ea]
      cases hs : ds.all tierD with
      | false =>
        refine iteT ?_
        have := q H1 s1
        unfold tiersD at this
        rw [hs] at this
        exact this
      | true =>
        have q : ∀ H', Same H H' → Q (.bl (unlikeD zs (ds.flatMap parts))) H' := fun H' s' => by
          have := q H' s'
          unfold tiersD at this
          rw [hs] at this
          exact this
        refine iteF ⟨.ref o, rfl, .ref t, rfl, t, rfl, ⟨_, .of (s1 _ _ ht)⟩, fun D2 nD2 => ?_⟩
        have every : ∀ {i : Nat} {k : PyData}, ds[i]? = some k → ∃ l, k = .tuple l := fun {i k} h => by
          have := List.all_eq_true.mp hs _ (List.mem_of_getElem? h)
          cases k with
          | tuple l => exact ⟨l, rfl⟩
          | _ => cases this
        refine outer_tup (K := K) (a := t) (xs := xs) (fun i H' => ∃ ys, Same H1 H' ∧ H' D2 = some (.lst ys) ∧ DAll H1 ((ds.take i).flatMap parts) ys) ⟨[], same_upd nD2, upd_same, rfl⟩ (fun _ _ ⟨_, h, _⟩ => .of (h _ _ (s1 _ _ ht))) ?_ ?_
        · rintro i x H2 hi ⟨ys, s2, e2, d2⟩
          obtain ⟨kk, hkk, hx⟩ := ha.get hi
          obtain ⟨l, rfl⟩ := every hkk
          obtain ⟨a1, us, rfl, h1, h2⟩ := hx
          have h1 := s1 _ _ h1
          have h2 := DAll.same s1 _ h2
          have lu : us.length = l.length := h2.len
          refine ⟨rfl, .ref a1, rfl, a1, rfl, ⟨_, .of (s2 _ _ h1)⟩, inner_tup (K := K) (b := a1) (ys := us) (fun j H' => ∃ zs', Same H1 H' ∧ H' D2 = some (.lst (ys ++ zs')) ∧ DAll H1 (l.take j) zs') ⟨[], s2, by rw [List.append_nil]; exact e2, rfl⟩ (fun _ _ ⟨_, h, _⟩ => .of (h _ _ h1)) ?_ ?_⟩
          · rintro j u H3 hj ⟨zs', s3, e3, d3⟩
            obtain ⟨ku, hku, hu⟩ := h2.get hj
            refine ⟨rfl, u, rfl, _, e3, ?_, zs' ++ [u], same_mut s3 nD2, by rw [upd_same, List.append_assoc], ?_⟩
            · have z1 := d2.len
              have z2 := d3.len
              have z3 : ((ds.take i).flatMap parts).length ≤ 400 := flat_le ⟨by rw [List.length_take]; omega, fun d hd => hw.2 d (List.mem_of_mem_take hd)⟩
              have z4 := hw.2 _ (List.mem_of_getElem? hkk)
              have z5 : (parts (.tuple l)).length = l.length := rfl
              rw [List.length_take] at z2
              rw [List.length_append]
              exact small1000 (by omega)
            · rw [take_more hku]
              exact d3.append (da1 hu da0)
          · rintro H3 ⟨zs', s3, e3, d3⟩
            rw [lu, List.take_length] at d3
            refine ⟨_, s3, e3, ?_⟩
            rw [take_more hkk, List.flatMap_append]
            exact d2.append (by simpa [parts] using d3)
        · rintro H2 ⟨ys, s2, e2, d2⟩
          rw [lx, List.take_length] at d2
          exact ⟨o, D2, zs, ys, _, rfl, s2 _ _ (s1 _ _ ho), .inl e2, DAll.same s2 _ d2, by have := flat_le hw; omega, fun H3 s3 => q H3 (s1.trans (s2.trans s3))⟩
end
section
variable {P : Program} {w : World} {K : PySem.W.Frag} {mg : Str → Option Value} {base : Heap}
theorem tupD_two : ∀ {d : PyData}, tupD d 2 = true → ∃ a b, d = .tuple [a, b]
  | .tuple [a, b], _ => ⟨a, b, rfl⟩
  | .tuple [], h => (by cases h)
  | .tuple [_], h => (by cases h)
  | .tuple (_ :: _ :: _ :: _), h => (by simp [tupD] at h)
  | .none, h => (by cases h)
  | .bool _, h => (by cases h)
  | .int _, h => (by cases h)
  | .str _, h => (by cases h)
  | .list _, h => (by cases h)
  | .dict _, h => (by cases h)
theorem pairD_two {d : PyData} (h : tupD d 2 = false) : pairD d = false := by
  unfold pairD
  split
  · simp [tupD] at h
  · rfl
theorem ballotD_two {zs : List Str} {d : PyData} (h : tupD d 2 = false) : ballotD zs d = false := by
  unfold ballotD
  split
  · simp [tupD] at h
  · rfl
def sp_are_marks : Sp := fun vs H Q _ => ∃ (o t : Addr) (zs : List Str) (xs : List V) (ds : List PyData), vs = [.ref o, .ref t] ∧ H o = some (.tup (zs.map V.str)) ∧ H t = some (.tup xs) ∧ DAll H ds xs ∧ ds.length ≤ 20 ∧ ∀ H', Same H H' → Q (.bl (marksD zs ds)) H'
theorem ok_are_marks (T : Txt K mg) : FnOk P w K mg base CX0 3 T.f_are_marks T.fd_are_marks ["options", "told"] sp_are_marks := by
  refine T.F_are_marks.ok sc_are_marks (fun vs H Q E h => ?_) (fun cdv A outer s H vs Q E hr h => ?_)
  · obtain ⟨o, t, zs, xs, ds, rfl, _⟩ := h
    rfl
  · obtain ⟨o, t, zs, xs, ds, rfl, ho, ht, ha, l20, q⟩ := h
    refine ⟨_, (pss_cons
 (ps_if (pt_not (pt_val (pe_callB (cr_all rfl) (by rfl) T.z_all (by decide +kernel) (pa_cons (pe_lc (own := [("pair", 2)]) (g := gName 2) (tt := tYes) rfl sc_are_marks.nd (pi_tup (pv 1)) (blkOk_by (own := [("pair", 2)]) (N := ["options", "told", "pair"]) (sc := (defScope s_are_marks)) (by decide +kernel)) (fun _ _ _ _ _ => pg_name (i := 2) sc_are_marks.nd rfl (Or.inl rfl)) (fun _ _ _ _ _ => pts_nil) (fun s0 H0 C0 cl0 fp0 => (by have h := ((pe_and (pe_call (ok_is_tuple_of T) (hr.mono (by decide)) (by rfl) T.g_is_tuple_of T.F_is_tuple_of.kp T.b_is_tuple_of .nil pass0 (pa_cons (pv 2) (pa_cons pe_int pa_nil))) (pe_one (pe_call (ok_is_mark T) (hr.mono (by decide)) (by rfl) T.g_is_mark T.F_is_mark.kp T.b_is_mark .nil pass0 (pa_cons (pe_ix ix_tup (pv 2) pe_int (fun _ _ => rfl)) pa_nil)))) : PE ((cxOf CX0 P w K mg base ["options", "told", "pair"] "are_marks" (defScope s_are_marks) T.f_are_marks cdv A outer s H E).nox.blk s0 H0 (lcScope (subE (subE (rootE ((defBody s_are_marks).getD 0 (.Pass ⟨0, 0, 0, 0⟩))) 0) 1)) (compEnvC (lcScope (subE (subE (rootE ((defBody s_are_marks).getD 0 (.Pass ⟨0, 0, 0, 0⟩))) 0) 1)) cl0 C0 (cxOf CX0 P w K mg base ["options", "told", "pair"] "are_marks" (defScope s_are_marks) T.f_are_marks cdv A outer s H E).nox.env) fp0) (subE (subE (subE (rootE ((defBody s_are_marks).getD 0 (.Pass ⟨0, 0, 0, 0⟩))) 0) 1) 0) _); dsimp only [Cx.blk, Cx.tr, Cx.suite, Cx.nox, Cx.wish, cxOf] at h; exact h))) pa_nil))))
 (pss_one
 (ps_ret pe_bl))
 pss_nil)
 (pss_one
 (ps_ret (pe_call (ok_are_unlike_options T) (hr.mono (by decide)) (by rfl) T.g_are_unlike_options T.F_are_unlike_options.kp T.b_are_unlike_options .nil pass0 (pa_cons (pv 0) (pa_cons (pe_lc (own := [("pair", 2)]) (g := gName 2) (tt := tYes) rfl sc_are_marks.nd (pi_tup (pv 1)) (blkOk_by (own := [("pair", 2)]) (N := ["options", "told", "pair"]) (sc := (defScope s_are_marks)) (by decide +kernel)) (fun _ _ _ _ _ => pg_name (i := 2) sc_are_marks.nd rfl (Or.inl rfl)) (fun _ _ _ _ _ => pts_nil) (fun s0 H0 C0 cl0 fp0 => (by have h := ((pe_ix ix_tup (pv 2) pe_int (fun _ _ => rfl)) : PE ((cxOf CX0 P w K mg base ["options", "told", "pair"] "are_marks" (defScope s_are_marks) T.f_are_marks cdv A outer s H E).nox.blk s0 H0 (lcScope (subE (rootE ((defBody s_are_marks).getD 1 (.Pass ⟨0, 0, 0, 0⟩))) 2)) (compEnvC (lcScope (subE (rootE ((defBody s_are_marks).getD 1 (.Pass ⟨0, 0, 0, 0⟩))) 2)) cl0 C0 (cxOf CX0 P w K mg base ["options", "told", "pair"] "are_marks" (defScope s_are_marks) T.f_are_marks cdv A outer s H E).nox.env) fp0) (subE (subE (rootE ((defBody s_are_marks).getD 1 (.Pass ⟨0, 0, 0, 0⟩))) 2) 0) _); dsimp only [Cx.blk, Cx.tr, Cx.suite, Cx.nox, Cx.wish, cxOf] at h; exact h))) pa_nil)))))), ?_⟩
    have lx : xs.length = ds.length := ha.len
    refine ⟨.ref t, rfl, t, rfl, ⟨_, .of ht⟩, fun D nD => ?_⟩
    refine lc_tup (K := K) (a := t) (xs := xs) (fun i H' => Same H H' ∧ H' D = some (.lst (((ds.take i).map pairD).map V.bl))) ⟨same_upd nD, upd_same⟩ (fun _ _ _ h => .of (h.1 _ _ ht)) ?_ ?_
    · rintro i x H1 hi ⟨s1, e1⟩
      obtain ⟨kk, hkk, hx⟩ := ha.get hi
      have hx := DAt.same s1 _ hx
      have fin : ∀ b, b = pairD kk → ∃ acc, H1 D = some (.lst acc) ∧ acc.length < sizeLine ∧ Same H (upd H1 D (.lst (acc ++ [V.bl b]))) ∧ (upd H1 D (.lst (acc ++ [V.bl b]))) D = some (.lst (((ds.take (i + 1)).map pairD).map V.bl)) := fun b e => by
        refine ⟨_, e1, ?_, same_mut s1 nD, ?_⟩
        · rw [List.length_map, List.length_map, List.length_take]
          exact small1000 (by omega)
        · rw [upd_same, take_more hkk, List.map_append, List.map_append, e]
          rfl
      refine ⟨rfl, x, rfl, x, 2, kk, rfl, hx, tupD kk 2, rfl, ?_⟩
      cases h2 : tupD kk 2 with
      | false => exact iteF (fin _ (pairD_two h2).symm)
      | true =>
        obtain ⟨a, b, rfl⟩ := tupD_two h2
        obtain ⟨a1, ys, rfl, h1, v0, r, rfl, _, v1, r2, rfl, hb, rfl⟩ := hx
        exact iteT ⟨.ref a1, rfl, a1, _, 1, v1, rfl, rfl, .of h1, atI_nat (j := 1) rfl, v1, b, rfl, hb, fin _ rfl⟩
    · rintro H1 ⟨s1, e1⟩
      rw [lx, List.take_length] at e1
      refine ⟨D, _, rfl, .of e1, _, rfl, ?_⟩
      have ea : (ds.map pairD).all id = ds.all pairD := by rw [List.all_map]; rfl
      rw [ea]
      cases hs : ds.all pairD with
      | false =>
        refine iteT ?_
        have := q H1 s1
        unfold marksD at this
        rw [hs] at this
        exact this
      | true =>
        have q : ∀ H', Same H H' → Q (.bl (unlikeD zs (ds.map firstD))) H' := fun H' s' => by
          have := q H' s'
          unfold marksD at this
          rw [hs] at this
          exact this
        refine iteF ⟨.ref o, rfl, .ref t, rfl, t, rfl, ⟨_, .of (s1 _ _ ht)⟩, fun D2 nD2 => ?_⟩
        refine lc_tup (K := K) (a := t) (xs := xs) (fun i H' => ∃ ys, Same H1 H' ∧ H' D2 = some (.lst ys) ∧ DAll H1 ((ds.take i).map firstD) ys) ⟨[], same_upd nD2, upd_same, rfl⟩ (fun _ _ _ ⟨_, h, _⟩ => .of (h _ _ (s1 _ _ ht))) ?_ ?_
        · rintro i x H2 hi ⟨ys, s2, e2, d2⟩
          obtain ⟨kk, hkk, hx⟩ := ha.get hi
          have hp := List.all_eq_true.mp hs _ (List.mem_of_getElem? hkk)
          have h2 : tupD kk 2 = true := by
            cases h : tupD kk 2 with
            | true => rfl
            | false => rw [pairD_two h] at hp; cases hp
          obtain ⟨a, b, rfl⟩ := tupD_two h2
          obtain ⟨a1, us, rfl, h1, v0, r, rfl, hv, v1, r2, rfl, _, rfl⟩ := hx
          refine ⟨rfl, .ref a1, rfl, a1, _, 0, v0, rfl, rfl, .of ((s1.trans s2) _ _ h1), atI_nat (j := 0) rfl, _, e2, ?_, ys ++ [v0], same_mut s2 nD2, upd_same, ?_⟩
          · rw [d2.len, List.length_map, List.length_take]
            exact small1000 (by omega)
          · rw [take_more hkk, List.map_append]
            exact d2.append (da1 (DAt.same s1 _ hv) da0)
        · rintro H2 ⟨ys, s2, e2, d2⟩
          rw [lx, List.take_length] at d2
          exact ⟨o, D2, zs, ys, _, rfl, s2 _ _ (s1 _ _ ho), .inl e2, DAll.same s2 _ d2, by rw [List.length_map]; omega, fun H3 s3 => q H3 (s1.trans (s2.trans s3))⟩
/-- no part too long: what a ballot's second half may be -/
def Fit : PyData → Prop
  | .tuple [_, .tuple l] => Wide l
  | _ => True
def sp_is_ballot : Sp := fun vs H Q _ => ∃ (o : Addr) (zs : List Str) (v : V) (d : PyData), vs = [.ref o, v] ∧ H o = some (.tup (zs.map V.str)) ∧ DAt H d v ∧ Fit d ∧ ∀ H', Same H H' → Q (.bl (ballotD zs d)) H'
theorem ok_is_ballot (T : Txt K mg) : FnOk P w K mg base CX0 4 T.f_is_ballot T.fd_is_ballot ["options", "thing"] sp_is_ballot := by
  refine T.F_is_ballot.ok sc_is_ballot (fun vs H Q E h => ?_) (fun cdv A outer s H vs Q E hr h => ?_)
  · obtain ⟨o, zs, v, d, rfl, _⟩ := h
    rfl
  · obtain ⟨o, zs, v, d, rfl, ho, hd, hf, q⟩ := h
    refine ⟨_, (pss_cons
 (ps_if (PW.pt (pw_or (pt_not (pt_val (pe_call (ok_is_tuple_of T) (hr.mono (by decide)) (by rfl) T.g_is_tuple_of T.F_is_tuple_of.kp T.b_is_tuple_of .nil pass0 (pa_cons (pv 1) (pa_cons pe_int pa_nil))))) (pw_or (pt_not (pt_val (pe_callB call_isi (by rfl) T.z_isinstance (by decide +kernel) (pa_cons (pe_ix ix_tup (pv 1) pe_int (fun _ _ => rfl)) (pa_cons (pe_bltn (v := .ty "str") (u := .type "str") rfl T.z_str (by decide +kernel) rfl) pa_nil))))) (pw_or1 (pt_not (pt_val (pe_callB call_isi (by rfl) T.z_isinstance (by decide +kernel) (pa_cons (pe_ix ix_tup (pv 1) pe_int (fun _ _ => rfl)) (pa_cons (pe_bltn (v := .ty "tuple") (u := .type "tuple") rfl T.z_tuple (by decide +kernel) rfl) pa_nil)))))))))
 (pss_one
 (ps_ret pe_bl))
 pss_nil)
 (pss_cons
 (ps_asg (pv 1) (pg_tup rfl (pgs_cons (pg_name (i := 2) sc_is_ballot.nd rfl (Or.inl rfl)) (pgs_cons (pg_name (i := 3) sc_is_ballot.nd rfl (Or.inl rfl)) pgs_nil))))
 (pss_cons
 (ps_if (pt_cmpR op_eq (pv 2) pe_str (nomark _))
 (pss_one
 (ps_ret (pe_call (ok_are_tiers T) (hr.mono (by decide)) (by rfl) T.g_are_tiers T.F_are_tiers.kp T.b_are_tiers .nil pass0 (pa_cons (pv 0) (pa_cons (pv 3) pa_nil)))))
 pss_nil)
 (pss_cons
 (ps_if (pt_cmpR op_eq (pv 2) pe_str (nomark _))
 (pss_one
 (ps_ret (pe_call (ok_are_unlike_options T) (hr.mono (by decide)) (by rfl) T.g_are_unlike_options T.F_are_unlike_options.kp T.b_are_unlike_options .nil pass0 (pa_cons (pv 0) (pa_cons (pv 3) pa_nil)))))
 pss_nil)
 (pss_cons
 (ps_if (pt_cmpR op_eq (pv 2) pe_str (nomark _))
 (pss_one
 (ps_ret (pe_call (ok_are_marks T) (hr.mono (by decide)) (by rfl) T.g_are_marks T.F_are_marks.kp T.b_are_marks .nil pass0 (pa_cons (pv 0) (pa_cons (pv 3) pa_nil)))))
 pss_nil)
 (pss_one
 (ps_ret pe_bl))))))), ?_⟩
    have q0 := q H (Same.refl H)
    refine ⟨v, rfl, v, 2, d, rfl, hd, tupD d 2, rfl, ?_⟩
    cases h2 : tupD d 2 with
    | false =>
      rw [ballotD_two h2] at q0
      exact iteT q0
    | true =>
      obtain ⟨a, b, rfl⟩ := tupD_two h2
      obtain ⟨p, xs, rfl, hp, v0, r, rfl, ha, v1, r2, rfl, hb, rfl⟩ := hd
      obtain ⟨t0, ht0, _, k0, _⟩ := ha.ty (K := K)
      refine iteF ⟨.ref p, rfl, p, _, 0, v0, rfl, rfl, .of hp, atI_nat (j := 0) rfl, v0, _, t0, _, dS a, rfl, .ty _, ht0, k0, dS a, rfl, ?_⟩
      cases a with
      | str f =>
        obtain ⟨t1, ht1, k1, _⟩ := hb.ty (K := K)
        refine iteF ⟨.ref p, rfl, p, _, 1, v1, rfl, rfl, .of hp, atI_nat (j := 1) rfl, v1, _, t1, _, dT b, rfl, .ty _, ht1, k1, dT b, rfl, ?_⟩
        cases b with
        | tuple l =>
          obtain ⟨pt, us, rfl, hpt, hl⟩ := hb
          rw [show v0 = V.str f from ha] at hp
          have wl : Wide l := hf
          refine iteF ⟨.ref p, rfl, p, _, rfl, .of hp, rfl, _, _, rfl, _, _, rfl, rfl, ?_⟩
          have es : ∀ z : Str, decide (V.str f = V.str z) = decide (f = z) := fun z => decide_eq_decide.mpr ⟨fun h => V.str.inj h, fun h => by rw [h]⟩
          have eq : ballotD zs (.tuple [.str f, .tuple l]) = if f = "order" then tiersD zs l else if f = "lets" then unlikeD zs l else if f = "marks" then marksD zs l else false := rfl
          rw [eq] at q q0
          refine ⟨.str f, rfl, rfl, _, rfl, ?_⟩
          rw [es]
          by_cases e1 : f = "order"
          · rw [decide_eq_true e1]
            rw [if_pos e1] at q
            exact iteT ⟨.ref o, rfl, .ref pt, rfl, o, pt, zs, us, l, rfl, ho, hpt, hl, wl, q⟩
          · rw [decide_eq_false e1]
            rw [if_neg e1] at q q0
            refine iteF ⟨.str f, rfl, rfl, _, rfl, ?_⟩
            rw [es]
            by_cases e2 : f = "lets"
            · rw [decide_eq_true e2]
              rw [if_pos e2] at q
              exact iteT ⟨.ref o, rfl, .ref pt, rfl, o, pt, zs, us, l, rfl, ho, .inr hpt, hl, by have := wl.1; omega, q⟩
            · rw [decide_eq_false e2]
              rw [if_neg e2] at q q0
              refine iteF ⟨.str f, rfl, rfl, _, rfl, ?_⟩
              rw [es]
              by_cases e3 : f = "marks"
              · rw [decide_eq_true e3]
                rw [if_pos e3] at q
                exact iteT ⟨.ref o, rfl, .ref pt, rfl, o, pt, zs, us, l, rfl, ho, hpt, hl, wl.1, q⟩
              · rw [decide_eq_false e3]
                rw [if_neg e3] at q0
                exact iteF q0
        | none => exact iteT q0
        | bool _ => exact iteT q0
        | int _ => exact iteT q0
        | str _ => exact iteT q0
        | list _ => exact iteT q0
        | dict _ => exact iteT q0
      | none => exact iteT q0
      | bool _ => exact iteT q0
      | int _ => exact iteT q0
      | tuple _ => exact iteT q0
      | list _ => exact iteT q0
      | dict _ => exact iteT q0
def BadE (C : Addr) (H : Hp) (E : XK) : Prop := ∀ (d : Addr) (fs : List (Str × V)) (H' : Hp), Same H H' → H d = none → H' d = some (.xd fs) → E (.ref C) (some d) H'
def sp_PollError_init (K : PySem.W.Frag) : Sp := fun vs H Q _ => ∃ (a C : Addr) (z : Str), vs = [.ref a, .str z] ∧ H a = some (exo a C none) ∧ OexC K C ∧ PySem.W.findIn K (.ref C) "why" = some none ∧
  ∀ dx, H dx = none → dx ≠ a → Q .non (upd (upd H dx (exd dx [("why", .str z)])) a (exo a C (some dx)))
theorem ok_PollError_init (T : Txt K mg) : FnOk P w K mg base CX0 1 T.f_PollError_init T.fd_PollError_init ["self", "why"] (sp_PollError_init K) := by
  refine T.F_PollError_init.ok (CX := CX0) sc_PollError_init (fun vs H Q E h => ?_) (fun cdv A outer s H vs Q E hr h => ?_)
  · obtain ⟨a, C, z, rfl, _⟩ := h
    rfl
  · obtain ⟨a, C, z, rfl, ha, hT, hno, q⟩ := h
    refine ⟨_, (pss_cons
 (ps_expr (pe_veinit (by rfl) T.z_ValueError T.vV (pa_cons (pv 0) (pa_cons (pv 1) pa_nil))))
 (pss_one
 (ps_ost (pv 0) (pv 1)))), ?_⟩
    refine ⟨.ref a, rfl, .str z, rfl, a, C, [.str z], rfl, (by show 1 ≤ 1000; decide), hT, ha, ?_⟩
    exact ⟨.str z, rfl, .ref a, rfl, a, C, rfl, hT, hno, .inl ⟨ha, fun dx n1 n2 => q dx n1 n2⟩⟩
end
theorem ok_small {z : Str} (h : NameOk z) : Ok 0 8 (.str z) := ok_str (small_ok h.2.2) h.2.1
def PieceD (wd : Str) (d : PyData) : Prop := (parts d).length ≤ 6 ∧ (((∃ z, d = .str z) ∧ wd ≠ "marks") ∨ ∃ a l, d = .tuple (a :: l))
/-! ### good ballots as data -/
def tyT (t : List Str) : PyData := .tuple (t.map PyData.str)
def mkT (m : Str × Int) : PyData := .tuple [.str m.1, .int m.2]
def Bal.word : Bal → Str
  | .order _ => "order"
  | .lets _ => "lets"
  | .marks _ => "marks"
def Bal.things : Bal → List PyData
  | .order ts => ts.map tyT
  | .lets ns => ns.map PyData.str
  | .marks ms => ms.map mkT
def Bal.data (b : Bal) : PyData := .tuple [.str b.word, .tuple b.things]
theorem DAll.of_map {α : Type} {H : Hp} {f : α → PyData} {g : α → V} : ∀ {l : List α}, (∀ a ∈ l, DAt H (f a) (g a)) → DAll H (l.map f) (l.map g)
  | [], _ => rfl
  | a :: l, h => ⟨_, _, rfl, h a List.mem_cons_self, DAll.of_map fun b hb => h b (List.mem_cons_of_mem _ hb)⟩
theorem BalAt.things {H : Hp} {t : Addr} : ∀ {b : Bal}, BalAt H t b → ∃ (u : Addr) (xs : List V), H t = some (.tup [.str b.word, .ref u]) ∧ H u = some (.tup xs) ∧ DAll H b.things xs
  | .order ts, ⟨u, bs, h1, h2, h3, h4⟩ => by
    refine ⟨u, _, h1, h2, ?_⟩
    show DAll H (ts.map tyT) _
    rw [← h4, List.map_map]
    exact DAll.of_map fun b hb => ⟨b.1, _, rfl, (h3 b hb).1, DAll.strs b.2⟩
  | .lets ns, ⟨u, h1, h2⟩ => ⟨u, _, h1, h2, DAll.strs ns⟩
  | .marks ms, ⟨u, bs, h1, h2, h3, h4⟩ => by
    refine ⟨u, _, h1, h2, ?_⟩
    show DAll H (ms.map mkT) _
    rw [← h4, List.map_map]
    exact DAll.of_map fun b hb => ⟨b.1, _, rfl, h3 b hb, da1 rfl (da1 rfl da0)⟩
theorem BalAt.data {H : Hp} {t : Addr} {b : Bal} (h : BalAt H t b) : DAt H b.data (.ref t) := by
  obtain ⟨u, xs, h1, h2, a⟩ := h.things
  exact ⟨t, _, rfl, h1, da1 rfl (da1 ⟨u, xs, rfl, h2, a⟩ da0)⟩
theorem flat_strsD : ∀ ts : List (List Str), (ts.map tyT).flatMap parts = ts.flatten.map PyData.str
  | [] => rfl
  | t :: ts => by
    rw [List.map_cons, List.flatMap_cons, flat_strsD ts, List.flatten_cons, List.map_append]
    rfl
theorem unS_strs : ∀ ws : List Str, (ws.map PyData.str).filterMap unS = ws
  | [] => rfl
  | a :: ws => by
    rw [List.map_cons, List.filterMap_cons]
    show a :: (ws.map PyData.str).filterMap unS = a :: ws
    rw [unS_strs ws]
theorem unlike_strs {zs ws : List Str} (h : ws.Nodup) (g : ∀ z ∈ ws, z ∈ zs) : unlikeD zs (ws.map PyData.str) = true := by
  unfold unlikeD
  rw [unS_strs, decide_eq_true h, Bool.and_true, List.all_eq_true]
  intro d hd
  obtain ⟨z, hz, rfl⟩ := List.mem_map.mp hd
  exact decide_eq_true (g z hz)
theorem firsts_marks : ∀ ms : List (Str × Int), (ms.map mkT).map firstD = (ms.map (·.1)).map PyData.str
  | [] => rfl
  | m :: ms => by
    rw [List.map_cons, List.map_cons, firsts_marks ms]
    rfl
theorem Bal.Ok.good {zs : List Str} : ∀ {b : Bal}, b.Ok zs → ballotD zs b.data = true
  | .order ts, h => by
    obtain ⟨h1, h2, h3⟩ := h
    show tiersD zs (ts.map tyT) = true
    unfold tiersD
    rw [flat_strsD, unlike_strs h1 h2, Bool.and_true, List.all_eq_true]
    intro d hd
    obtain ⟨t, ht, rfl⟩ := List.mem_map.mp hd
    cases t with
    | nil => exact absurd rfl (h3 _ ht)
    | cons a l => exact decide_eq_true (Nat.succ_pos (l.map PyData.str).length)
  | .lets ns, h => unlike_strs h.1 h.2
  | .marks ms, h => by
    obtain ⟨h1, h2, h3⟩ := h
    show marksD zs (ms.map mkT) = true
    unfold marksD
    rw [firsts_marks, unlike_strs h1 (fun z hz => by obtain ⟨m, hm, rfl⟩ := List.mem_map.mp hz; exact h2 m hm), Bool.and_true, List.all_eq_true]
    intro d hd
    obtain ⟨m, hm, rfl⟩ := List.mem_map.mp hd
    show (decide ((0 : Int) ≤ m.2) && decide (m.2 ≤ 9)) = true
    rw [decide_eq_true (h3 m hm).1, decide_eq_true (h3 m hm).2]
    rfl
theorem few {zs ws : List Str} (n : zs.length ≤ 6) (h : ws.Nodup) (g : ∀ z ∈ ws, z ∈ zs) : ws.length ≤ 6 := Nat.le_trans (h.length_le_of_subset g) n
theorem flat_few : ∀ {ts : List (List Str)}, (∀ t ∈ ts, t ≠ []) → ts.length ≤ ts.flatten.length
  | [], _ => Nat.le_refl _
  | t :: ts, h => by
    rw [List.flatten_cons, List.length_append, List.length_cons]
    have := flat_few fun u hu => h u (List.mem_cons_of_mem _ hu)
    have := List.length_pos_iff.mpr (h t List.mem_cons_self)
    omega
theorem part_few {t : List Str} : ∀ {ts : List (List Str)}, t ∈ ts → t.length ≤ ts.flatten.length
  | u :: ts, h => by
    rw [List.flatten_cons, List.length_append]
    rcases List.mem_cons.mp h with rfl | h
    · omega
    · have := part_few h
      omega
theorem Bal.Ok.few {zs : List Str} (n : zs.length ≤ 6) : ∀ {b : Bal}, b.Ok zs → b.things.length ≤ 6 ∧ ∀ d ∈ b.things, PieceD b.word d
  | .order ts, h => by
    obtain ⟨h1, h2, h3⟩ := h
    have f := Own.few n h1 h2
    refine ⟨by show (ts.map tyT).length ≤ 6; rw [List.length_map]; exact Nat.le_trans (flat_few h3) f, fun d hd => ?_⟩
    obtain ⟨t, ht, rfl⟩ := List.mem_map.mp hd
    refine ⟨by show (t.map PyData.str).length ≤ 6; rw [List.length_map]; exact Nat.le_trans (part_few ht) f, .inr ?_⟩
    cases t with
    | nil => exact absurd rfl (h3 _ ht)
    | cons a l => exact ⟨_, _, rfl⟩
  | .lets ns, h => by
    refine ⟨by show (ns.map PyData.str).length ≤ 6; rw [List.length_map]; exact Own.few n h.1 h.2, fun d hd => ?_⟩
    obtain ⟨z, hz, rfl⟩ := List.mem_map.mp hd
    exact ⟨Nat.zero_le _, .inl ⟨⟨z, rfl⟩, by show ("lets" : Str) ≠ "marks"; decide⟩⟩
  | .marks ms, h => by
    obtain ⟨h1, h2, h3⟩ := h
    have f := Own.few n h1 (fun z hz => by obtain ⟨m, hm, rfl⟩ := List.mem_map.mp hz; exact h2 m hm)
    rw [List.length_map] at f
    refine ⟨by show (ms.map mkT).length ≤ 6; rw [List.length_map]; exact f, fun d hd => ?_⟩
    obtain ⟨m, hm, rfl⟩ := List.mem_map.mp hd
    exact ⟨by show 2 ≤ 6; decide, .inr ⟨_, _, rfl⟩⟩
theorem OkA.of {n m : Nat} : ∀ {l : List PyData}, (∀ d ∈ l, Ok n m d) → OkA n (l.length * (m + 1)) l
  | [], _ => OkA.nil
  | d :: l, h => by
    refine ((OkA.cons (h d List.mem_cons_self) (OkA.of fun e he => h e (List.mem_cons_of_mem _ he)))).mono (Nat.le_refl _) ?_
    rw [List.length_cons, Nat.succ_mul]
    omega
theorem Bal.Ok.fit {zs : List Str} {b : Bal} (n : zs.length ≤ 6) (h : b.Ok zs) : Fit b.data := by
  obtain ⟨f1, f2⟩ := h.few n
  exact (⟨by omega, fun d hd => by have := (f2 d hd).1; omega⟩ : Wide b.things)
theorem BalAt.hid {p u : Addr} {H : Hp} {y : List V} {b : Bal} (hp : H p = some (.lst y)) (h : BalAt H u b) : BalAt (hide p H) u b := h.keep fun _ _ e => hid_tup hp e
/-! ### ranks, in plain words -/
def mkAt : List (Str × Int) → Str → Option Int
  | [], _ => none
  | m :: ms, z => if m.1 = z then some m.2 else mkAt ms z
def mT (ms : List (Str × Int)) : List (Key × V) := ms.map fun m => (.inr m.1, .int m.2)
theorem mT_val (z : Str) : ∀ ms : List (Str × Int), valV (mT ms) (.inr z) = (mkAt ms z).map V.int
  | [] => rfl
  | m :: ms => by
    by_cases e : m.1 = z
    · have h : valV (mT (m :: ms)) (.inr z) = some (V.int m.2) := valV_pos (p := ((.inr m.1 : Key), V.int m.2)) (r := mT ms) (congrArg Sum.inr e)
      rw [h]
      unfold mkAt
      rw [if_pos e] <;> rfl
    · have h : valV (mT (m :: ms)) (.inr z) = valV (mT ms) (.inr z) := valV_neg (p := ((.inr m.1 : Key), V.int m.2)) (r := mT ms) (fun q => e (Sum.inr.inj q))
      rw [h, mT_val z ms]
      show _ = Option.map V.int (if m.1 = z then some m.2 else mkAt ms z)
      rw [if_neg e]
theorem mk_none {z : Str} : ∀ {ms : List (Str × Int)}, z ∉ ms.map (·.1) → mkAt ms z = none
  | [], _ => rfl
  | m :: ms, h => by
    unfold mkAt
    rw [if_neg (fun e => h (by rw [← e]; exact List.mem_cons_self)), mk_none fun q => h (List.mem_cons_of_mem _ q)]
theorem mT_put {ms : List (Str × Int)} {m : Str × Int} (h : m.1 ∉ ms.map (·.1)) : putK (mT ms) (.inr m.1) (.int m.2) = mT (ms ++ [m]) := by
  rw [putK_new _ (by rw [mT_val, mk_none h]; rfl)]
  unfold mT
  rw [List.map_append]
  rfl
/-- the rank that the program gives, the height that the law gives -/
def Bal.rk : Bal → Str → Int
  | .order ts, z => place ts z
  | .lets ns, z => if z ∈ ns then 0 else 1
  | .marks ms, z => -((mkAt ms z).getD 0)
def Bal.hi : Bal → Str → Int
  | .order ts, z => if z ∈ ts.flatten then 99 - place ts z else 0
  | .lets ns, z => if z ∈ ns then 1 else 0
  | .marks ms, z => (mkAt ms z).getD 0
theorem Bal.turn {b : Bal} {zs : List Str} (n : zs.length ≤ 6) (h : b.Ok zs) (y z : Str) : b.rk y < b.rk z ↔ b.hi z < b.hi y := by
  cases b with
  | order ts =>
    have f := (Bal.Ok.few (b := .order ts) n h).1
    have f : (ts.map tyT).length ≤ 6 := f
    rw [List.length_map] at f
    show ((place ts y : Nat) : Int) < (place ts z : Nat) ↔ (if z ∈ ts.flatten then (99 : Int) - (place ts z : Nat) else 0) < (if y ∈ ts.flatten then (99 : Int) - (place ts y : Nat) else 0)
    have l1 := place_le y ts
    have l2 := place_le z ts
    by_cases hy : y ∈ ts.flatten <;> by_cases hz : z ∈ ts.flatten
    · rw [if_pos hy, if_pos hz]
      omega
    · rw [if_pos hy, if_neg hz, place_out hz]
      have := place_lt hy
      omega
    · rw [if_neg hy, if_pos hz, place_out hy]
      have := place_lt hz
      omega
    · rw [if_neg hy, if_neg hz, place_out hy, place_out hz]
      omega
  | lets ns =>
    show (if y ∈ ns then (0 : Int) else 1) < (if z ∈ ns then 0 else 1) ↔ (if z ∈ ns then (1 : Int) else 0) < (if y ∈ ns then 1 else 0)
    by_cases hy : y ∈ ns <;> by_cases hz : z ∈ ns <;> simp [hy, hz]
  | marks ms =>
    show -((mkAt ms y).getD 0) < -((mkAt ms z).getD 0) ↔ (mkAt ms z).getD 0 < (mkAt ms y).getD 0
    omega
section
variable {P : Program} {w : World} {K : PySem.W.Frag} {mg : Str → Option Value} {base : Heap}
/-! ### ranks by an order -/
theorem mem_part {z : Str} {t : List Str} {ts : List (List Str)} {i : Nat} (h : ts[i]? = some t) (m : z ∈ t) : z ∈ ts.flatten := List.mem_flatten.mpr ⟨t, List.mem_of_getElem? h, m⟩
def sp_order_ranks : Sp := fun vs H Q _ => ∃ (o u : Addr) (zs : List Str) (bs : List (Addr × List Str)), vs = [.ref o, .ref u] ∧ H o = some (.tup (zs.map V.str)) ∧ H u = some (.tup (bs.map fun b => V.ref b.1)) ∧ Tiers H bs ∧ zs.Nodup ∧ zs.length ≤ 100 ∧ bs.length ≤ 100 ∧ (bs.map (·.2)).flatten.Nodup ∧ (∀ z ∈ (bs.map (·.2)).flatten, z ∈ zs) ∧
  ∀ (D : Addr) (H' : Hp), Same H H' → H D = none → H' D = some (.dK (tab zs fun z => place (bs.map (·.2)) z)) → Q (.ref D) H'
theorem ok_order_ranks (T : Txt K mg) : FnOk P w K mg base CX0 1 T.f_order_ranks T.fd_order_ranks ["options", "told"] sp_order_ranks := by
  refine T.F_order_ranks.ok sc_order_ranks (fun vs H Q E h => ?_) (fun cdv A outer s H vs Q E hr h => ?_)
  · obtain ⟨o, u, zs, bs, rfl, _⟩ := h
    rfl
  · obtain ⟨o, u, zs, bs, rfl, ho, hu, ht, nd, lz, lb, fn, fm, q⟩ := h
    refine ⟨_, (pss_cons
 (ps_setDc (i := 2) (own := [("name", 5)]) (g := gName 5) (tt := tYes) rfl sc_order_ranks.nd rfl rfl (swD_true rfl rfl rfl (by decide +kernel)) (pi_tup (pv 0)) (blkOk_by (own := [("name", 5)]) (N := ["options", "told", "found", "at", "tier", "name"]) (sc := (defScope s_order_ranks)) (by decide +kernel)) (fun _ _ _ _ _ => pg_name (i := 5) sc_order_ranks.nd rfl (Or.inl rfl)) (fun _ _ _ _ _ => pts_nil) (fun _ _ _ _ _ => (pv 5)) (fun s0 H0 C0 cl0 fp0 => (by have h := ((pe_callB call_len_seq (by rfl) T.z_len (by decide +kernel) (pa_cons (pv 1) pa_nil)) : PE ((cxOf CX0 P w K mg base ["options", "told", "found", "at", "tier", "name"] "order_ranks" (defScope s_order_ranks) T.f_order_ranks cdv A outer s H E).nox.blk s0 H0 (lcScope (rootE ((defBody s_order_ranks).getD 0 (.Pass ⟨0, 0, 0, 0⟩)))) (compEnvC (lcScope (rootE ((defBody s_order_ranks).getD 0 (.Pass ⟨0, 0, 0, 0⟩)))) cl0 C0 (cxOf CX0 P w K mg base ["options", "told", "found", "at", "tier", "name"] "order_ranks" (defScope s_order_ranks) T.f_order_ranks cdv A outer s H E).nox.env) fp0) (subE (rootE ((defBody s_order_ranks).getD 0 (.Pass ⟨0, 0, 0, 0⟩))) 1) _); dsimp only [Cx.blk, Cx.tr, Cx.suite, Cx.nox, Cx.wish, cxOf] at h; exact h)))
 (pss_cons
 (ps_for PassesOwn.never rfl (pi_enumT (by rfl) T.z_enumerate (pv 1)) (pg_tup rfl (pgs_cons (pg_name (i := 3) sc_order_ranks.nd rfl (Or.inl rfl)) (pgs_cons (pg_name (i := 4) sc_order_ranks.nd rfl (Or.inl rfl)) pgs_nil)))
 (pss_one
 (ps_for PassesOwn.never rfl (pi_tup (pv 4)) (pg_name (i := 5) sc_order_ranks.nd rfl (Or.inl rfl))
 (pss_one
 (ps_dput (hu_of hr) (pv 2) (pv 5) (pv 3) (by rfl))))))
 (pss_one
 (ps_ret (pv 2))))), ?_⟩
    generalize hts : bs.map (·.2) = ts at fn fm q
    have lt : ts.length = bs.length := by rw [← hts, List.length_map]
    refine ⟨.ref o, rfl, o, rfl, ⟨_, .of ho⟩, fun D nD => ?_⟩
    refine dc_tup (K := K) (a := o) (xs := zs.map V.str) (fun i H' => Same H H' ∧ H' D = some (.dK (tab (zs.take i) fun _ => (ts.length : Int)))) ⟨same_upd nD, upd_same⟩ (fun _ _ _ h => .of (h.1 _ _ ho)) ?_ ?_
    · rintro i x H1 hi ⟨s1, e1⟩
      obtain ⟨z, hz, rfl⟩ := item_map hi
      have zn : z ∉ zs.take i := fun m => nodup_out nd hz m
      refine ⟨rfl, .str z, rfl, .ref u, rfl, u, _, rfl, .inr (.of (s1 _ _ hu)), _, .inr z, rfl, e1, ?_, same_mut s1 nD, ?_⟩
      · rw [tab_len, List.length_take]
        exact small1000 (by omega)
      · rw [upd_same, tab_new (f := fun _ => (ts.length : Int)) zn (by rw [List.length_map, lt]), ← take_more hz]
    · rintro H1 ⟨s1, e1⟩
      rw [List.length_map, List.take_length] at e1
      have hu1 := s1 _ _ hu
      let fin : List Str → Str → Int := fun seen z => if z ∈ seen then (place ts z : Nat) else (ts.length : Nat)
      refine ⟨.ref u, rfl, u, _, rfl, .of hu1, for_it walk_enumT (fun i σ H' => ∃ x3 x4 x5 : Option V, σ = [some (.ref o), some (.ref u), some (.ref D), x3, x4, x5] ∧ Same H H' ∧ H' D = some (.dK (tab zs (fin (ts.take i).flatten))))
        ⟨none, none, none, rfl, s1, ?_⟩ (fun _ _ _ _ ⟨_, _, _, _, h, _⟩ => .of (h _ _ hu)) ?_ ?_⟩
      · rw [e1]
        exact congrArg (fun l => some (HO.dK l)) (tab_congr fun z _ => (if_neg (by simp)).symm)
      · rintro i x σ H2 H3 hi ⟨x3, x4, x5, rfl, s2, e2⟩ ⟨Tt, a, b, rfl, nT, rfl, ea, eb⟩
        cases ea
        obtain ⟨bb, hb, rfl⟩ := item_map eb
        have s3 : Same H2 _ := same_upd (o := HO.tup [V.int (i : Int), V.ref bb.1]) nT
        have e3 := s3 _ _ e2
        have s3' := s2.trans s3
        have hbt := ht bb (List.mem_of_getElem? hb)
        have tsi : ts[i]? = some bb.2 := by rw [← hts, List.getElem?_map, hb]; rfl
        refine ⟨Tt, _, rfl, .of upd_same, rfl, _, _, rfl, _, _, rfl, rfl, ?_⟩
        refine ⟨.ref bb.1, rfl, bb.1, rfl, ⟨_, .of (s3' _ _ hbt.1)⟩, for_tup (K := K) (a := bb.1) (xs := bb.2.map V.str) (fun j σ H' => ∃ x5 : Option V, σ = [some (.ref o), some (.ref u), some (.ref D), some (.int i), some (.ref bb.1), x5] ∧ Same H H' ∧ H' D = some (.dK (tab zs (fin ((ts.take i).flatten ++ bb.2.take j)))))
          ⟨x5, rfl, s3', ?_⟩ (fun _ _ _ _ ⟨_, _, h, _⟩ => .of (h _ _ hbt.1)) ?_ ?_⟩
        · rw [List.take_zero, List.append_nil]
          exact e3
        · rintro j x σ H4 hj ⟨x5, rfl, s4, e4⟩
          obtain ⟨z, hz, rfl⟩ := item_map hj
          have mz : z ∈ bb.2 := List.mem_of_getElem? hz
          have zz := fm z (mem_part tsi mz)
          refine ⟨.int i, rfl, .ref D, rfl, .str z, rfl, D, _, rfl, DPut.k (k := .inr z) e4 ?_, some (.str z), rfl, same_mut s4 nD, ?_⟩
          · rw [tab_len]
            exact small1000 (by omega)
          · rw [upd_same, tab_put zz]
            refine congrArg (fun l => some (HO.dK l)) (tab_congr fun y _ => ?_)
            show (if y = z then (i : Int) else if y ∈ (ts.take i).flatten ++ bb.2.take j then ((place ts y : Nat) : Int) else (ts.length : Nat)) = if y ∈ (ts.take i).flatten ++ bb.2.take (j + 1) then ((place ts y : Nat) : Int) else (ts.length : Nat)
            rw [take_more hz, ← List.append_assoc]
            by_cases e : y = z
            · rw [if_pos e, if_pos (by rw [e]; exact List.mem_append_right _ (List.mem_singleton.mpr rfl)), e, place_at fn tsi mz]
            · rw [if_neg e]
              have : (y ∈ (ts.take i).flatten ++ bb.2.take j ++ [z]) ↔ y ∈ (ts.take i).flatten ++ bb.2.take j := by
                rw [List.mem_append, List.mem_singleton]
                exact ⟨fun h => h.resolve_right e, .inl⟩
              by_cases m : y ∈ (ts.take i).flatten ++ bb.2.take j
              · rw [if_pos m, if_pos (this.mpr m)]
              · rw [if_neg m, if_neg fun h => m (this.mp h)]
        · rintro σ H4 ⟨x5, rfl, s4, e4⟩
          rw [List.length_map, List.take_length] at e4
          refine ⟨_, _, _, rfl, s4, ?_⟩
          rw [take_more tsi, List.flatten_append]
          simpa using e4
      · rintro σ H2 ⟨x3, x4, x5, rfl, s2, e2⟩
        refine ⟨.ref D, rfl, q D H2 s2 nD ?_⟩
        rw [List.length_map, ← lt, List.take_length] at e2
        rw [e2]
        refine congrArg (fun l => some (HO.dK l)) (tab_congr fun z _ => ?_)
        show (if z ∈ ts.flatten then ((place ts z : Nat) : Int) else (ts.length : Nat)) = (place ts z : Nat)
        by_cases m : z ∈ ts.flatten
        · rw [if_pos m]
        · rw [if_neg m, place_out m]
/-! ### ranks -/
def sp_ranks : Sp := fun vs H Q _ => ∃ (o t : Addr) (zs : List Str) (b : Bal), vs = [.ref o, .ref t] ∧ H o = some (.tup (zs.map V.str)) ∧ BalAt H t b ∧ b.Ok zs ∧ zs.Nodup ∧ zs.length ≤ 6 ∧
  ∀ (D : Addr) (H' : Hp), Same H H' → H D = none → H' D = some (.dK (tab zs b.rk)) → Q (.ref D) H'
theorem ok_ranks (T : Txt K mg) : FnOk P w K mg base CX0 2 T.f_ranks T.fd_ranks ["options", "ballot"] sp_ranks := by
  refine T.F_ranks.ok sc_ranks (fun vs H Q E h => ?_) (fun cdv A outer s H vs Q E hr h => ?_)
  · obtain ⟨o, t, zs, b, rfl, _⟩ := h
    rfl
  · obtain ⟨o, t, zs, b, rfl, ho, hb, bok, nd, lz, q⟩ := h
    refine ⟨_, (pss_cons
 (ps_asg (pv 1) (pg_tup rfl (pgs_cons (pg_name (i := 2) sc_ranks.nd rfl (Or.inl rfl)) (pgs_cons (pg_name (i := 3) sc_ranks.nd rfl (Or.inr rfl)) pgs_nil))))
 (pss_cons
 (ps_if (pt_cmpR op_eq (pv 2) pe_str (nomark _))
 (pss_one
 (ps_ret (pe_call (ok_order_ranks T) (hr.mono (by decide)) (by rfl) T.g_order_ranks T.F_order_ranks.kp T.b_order_ranks .nil pass0 (pa_cons (pv 0) (pa_cons (pv 3) pa_nil)))))
 pss_nil)
 (pss_cons
 (ps_if (pt_cmpR op_eq (pv 2) pe_str (nomark _))
 (pss_one
 (ps_ret (pe_dc (own := [("name", 5)]) (g := gName 5) (tt := tYes) rfl sc_ranks.nd (pi_tup (pv 0)) (blkOk_by (own := [("name", 5)]) (N := ["options", "ballot", "form", "told", "marks", "name", "mark"]) (sc := (defScope s_ranks)) (by decide +kernel)) (fun _ _ _ _ _ => pg_name (i := 5) sc_ranks.nd rfl (Or.inl rfl)) (fun _ _ _ _ _ => pts_nil) (fun _ _ _ _ _ => (pv 5)) (fun s0 H0 C0 cl0 fp0 => (by have h := ((pe_ifExp (pt_cmpR op_in_seq (pv 5) (pv 3) rfl) pe_int pe_int) : PE ((cxOf CX0 P w K mg base ["options", "ballot", "form", "told", "marks", "name", "mark"] "ranks" (defScope s_ranks) T.f_ranks cdv A outer s H E).nox.blk s0 H0 (lcScope (rootE ((blkOf ((defBody s_ranks).getD 2 (.Pass ⟨0, 0, 0, 0⟩)) 0).getD 0 (.Pass ⟨0, 0, 0, 0⟩)))) (compEnvC (lcScope (rootE ((blkOf ((defBody s_ranks).getD 2 (.Pass ⟨0, 0, 0, 0⟩)) 0).getD 0 (.Pass ⟨0, 0, 0, 0⟩)))) cl0 C0 (cxOf CX0 P w K mg base ["options", "ballot", "form", "told", "marks", "name", "mark"] "ranks" (defScope s_ranks) T.f_ranks cdv A outer s H E).nox.env) fp0) (subE (rootE ((blkOf ((defBody s_ranks).getD 2 (.Pass ⟨0, 0, 0, 0⟩)) 0).getD 0 (.Pass ⟨0, 0, 0, 0⟩))) 1) _); dsimp only [Cx.blk, Cx.tr, Cx.suite, Cx.nox, Cx.wish, cxOf] at h; exact h)))))
 pss_nil)
 (pss_cons
 (ps_set (i := 4) sc_ranks.nd rfl (Or.inr rfl) (pe_dc (own := [("name", 5), ("mark", 6)]) (tt := tYes) rfl sc_ranks.nd (pi_tup (pv 3)) (blkOk_by (own := [("name", 5), ("mark", 6)]) (N := ["options", "ballot", "form", "told", "marks", "name", "mark"]) (sc := (defScope s_ranks)) (by decide +kernel)) (fun s0 H0 C0 cl0 fp0 => (by have h := (pg_tup (n := 2) rfl (pgs_cons (pg_name (i := 5) sc_ranks.nd rfl (Or.inl rfl)) (pgs_cons (pg_name (i := 6) sc_ranks.nd rfl (Or.inl rfl)) pgs_nil)) : PG ((cxOf CX0 P w K mg base ["options", "ballot", "form", "told", "marks", "name", "mark"] "ranks" (defScope s_ranks) T.f_ranks cdv A outer s H E).nox.blk s0 H0 (lcScope (rootE ((defBody s_ranks).getD 3 (.Pass ⟨0, 0, 0, 0⟩)))) (compEnvC (lcScope (rootE ((defBody s_ranks).getD 3 (.Pass ⟨0, 0, 0, 0⟩)))) cl0 C0 (cxOf CX0 P w K mg base ["options", "ballot", "form", "told", "marks", "name", "mark"] "ranks" (defScope s_ranks) T.f_ranks cdv A outer s H E).nox.env) fp0) (subE (rootE ((defBody s_ranks).getD 3 (.Pass ⟨0, 0, 0, 0⟩))) 3) _); dsimp only [Cx.blk, Cx.tr, Cx.suite, Cx.nox, Cx.wish, cxOf] at h; exact h)) (fun _ _ _ _ _ => pts_nil) (fun _ _ _ _ _ => (pv 5)) (fun _ _ _ _ _ => (pv 6))))
 (pss_one
 (ps_ret (pe_dc (own := [("name", 5)]) (g := gName 5) (tt := tYes) rfl sc_ranks.nd (pi_tup (pv 0)) (blkOk_by (own := [("name", 5)]) (N := ["options", "ballot", "form", "told", "marks", "name", "mark"]) (sc := (defScope s_ranks)) (by decide +kernel)) (fun _ _ _ _ _ => pg_name (i := 5) sc_ranks.nd rfl (Or.inl rfl)) (fun _ _ _ _ _ => pts_nil) (fun _ _ _ _ _ => (pv 5)) (fun s0 H0 C0 cl0 fp0 => (by have h := ((pe_un un_neg (pe_dget2 (hu_of hr) (pv 4) (pv 5) pe_int ⟨by rfl, by rfl, by rfl, by rfl⟩)) : PE ((cxOf CX0 P w K mg base ["options", "ballot", "form", "told", "marks", "name", "mark"] "ranks" (defScope s_ranks) T.f_ranks cdv A outer s H E).nox.blk s0 H0 (lcScope (rootE ((defBody s_ranks).getD 4 (.Pass ⟨0, 0, 0, 0⟩)))) (compEnvC (lcScope (rootE ((defBody s_ranks).getD 4 (.Pass ⟨0, 0, 0, 0⟩)))) cl0 C0 (cxOf CX0 P w K mg base ["options", "ballot", "form", "told", "marks", "name", "mark"] "ranks" (defScope s_ranks) T.f_ranks cdv A outer s H E).nox.env) fp0) (subE (rootE ((defBody s_ranks).getD 4 (.Pass ⟨0, 0, 0, 0⟩))) 1) _); dsimp only [Cx.blk, Cx.tr, Cx.suite, Cx.nox, Cx.wish, cxOf] at h; exact h))))))))), ?_⟩
    have few := (bok.few lz).1
    cases b with
    | order ts =>
      obtain ⟨u, bs, h1, h2, h3, h4⟩ := hb
      obtain ⟨b1, b2, b3⟩ := bok
      have lb : bs.length ≤ 6 := by
        have e : bs.length = ts.length := by rw [← h4, List.length_map]
        have : (ts.map tyT).length ≤ 6 := few
        rw [List.length_map] at this
        omega
      rw [← h4] at b1 b2
      refine ⟨.ref t, rfl, t, _, rfl, .of h1, rfl, _, _, rfl, _, _, rfl, rfl, ?_⟩
      refine ⟨.str "order", rfl, rfl, _, rfl, iteT ?_⟩
      exact ⟨.ref o, rfl, .ref u, rfl, o, u, zs, bs, rfl, ho, h2, h3, nd, by omega, by omega, b1, b2, fun D H' s n e => q D H' s n (by rw [e, h4]; rfl)⟩
    | lets ns =>
      obtain ⟨u, h1, h2⟩ := hb
      refine ⟨.ref t, rfl, t, _, rfl, .of h1, rfl, _, _, rfl, _, _, rfl, rfl, ?_⟩
      refine ⟨.str "lets", rfl, rfl, _, rfl, iteF ?_⟩
      refine ⟨.str "lets", rfl, rfl, _, rfl, iteT ?_⟩
      refine ⟨.ref o, rfl, o, rfl, ⟨_, .of ho⟩, fun D nD => ?_⟩
      refine dc_tup (K := K) (a := o) (xs := zs.map V.str) (fun i H' => Same H H' ∧ H' D = some (.dK (tab (zs.take i) (Bal.lets ns).rk))) ⟨same_upd nD, upd_same⟩ (fun _ _ _ h => .of (h.1 _ _ ho)) ?_ ?_
      · rintro i x H1 hi ⟨s1, e1⟩
        obtain ⟨z, hz, rfl⟩ := item_map hi
        have zn : z ∉ zs.take i := fun m => nodup_out nd hz m
        have small : (tab (zs.take i) (Bal.lets ns).rk).length < sizeLine := by
          rw [tab_len, List.length_take]
          exact small1000 (by omega)
        refine ⟨rfl, .str z, rfl, .str z, rfl, .ref u, rfl, u, _, rfl, .inr (.of (s1 _ _ h2)), rfl, flat_strs ns, ?_⟩
        refine ⟨_, rfl, ?_⟩
        rw [inV_str]
        by_cases m : z ∈ ns
        · rw [decide_eq_true m]
          refine iteT ⟨_, .inr z, rfl, e1, small, same_mut s1 nD, ?_⟩
          rw [upd_same, tab_new (f := (Bal.lets ns).rk) zn (show (0 : Int) = if z ∈ ns then 0 else 1 by rw [if_pos m]), ← take_more hz]
        · rw [decide_eq_false m]
          refine iteF ⟨_, .inr z, rfl, e1, small, same_mut s1 nD, ?_⟩
          rw [upd_same, tab_new (f := (Bal.lets ns).rk) zn (show (1 : Int) = if z ∈ ns then 0 else 1 by rw [if_neg m]), ← take_more hz]
      · rintro H1 ⟨s1, e1⟩
        rw [List.length_map, List.take_length] at e1
        exact q D H1 s1 nD e1
    | marks ms =>
      obtain ⟨u, bs, h1, h2, h3, h4⟩ := hb
      obtain ⟨b1, b2, b3⟩ := bok
      have lb : bs.length ≤ 6 := by
        have e : bs.length = ms.length := by rw [← h4, List.length_map]
        have : (ms.map mkT).length ≤ 6 := few
        rw [List.length_map] at this
        omega
      refine ⟨.ref t, rfl, t, _, rfl, .of h1, rfl, _, _, rfl, _, _, rfl, rfl, ?_⟩
      refine ⟨.str "marks", rfl, rfl, _, rfl, iteF ?_⟩
      refine ⟨.str "marks", rfl, rfl, _, rfl, iteF ?_⟩
      refine ⟨.ref u, rfl, u, rfl, ⟨_, .of h2⟩, fun M nM => ?_⟩
      refine dc_tup (K := K) (a := u) (xs := bs.map fun b => V.ref b.1) (fun i H' => Same H H' ∧ H' M = some (.dK (mT (ms.take i)))) ⟨same_upd nM, upd_same⟩ (fun _ _ _ h => .of (h.1 _ _ h2)) ?_ ?_
      · rintro i x H1 hi ⟨s1, e1⟩
        obtain ⟨bb, hbb, rfl⟩ := item_map hi
        have hm : ms[i]? = some bb.2 := by rw [← h4, List.getElem?_map, hbb]; rfl
        have out : bb.2.1 ∉ (ms.take i).map (·.1) := by
          rw [List.map_take]
          exact nodup_out b1 (by rw [List.getElem?_map, hm]; rfl)
        refine ⟨bb.1, _, rfl, .of (s1 _ _ (h3 bb (List.mem_of_getElem? hbb))), rfl, _, _, rfl, _, _, rfl, rfl, rfl, .str bb.2.1, rfl, .int bb.2.2, rfl, _, .inr bb.2.1, rfl, e1, ?_, same_mut s1 nM, ?_⟩
        · unfold mT
          rw [List.length_map, List.length_take]
          exact small1000 (by have : ms.length = bs.length := by rw [← h4, List.length_map]
                              omega)
        · rw [upd_same, mT_put out, ← take_more hm]
      · rintro H1 ⟨s1, e1⟩
        have lm : ms.length = bs.length := by rw [← h4, List.length_map]
        rw [List.length_map, ← lm, List.take_length] at e1
        have ho1 := s1 _ _ ho
        refine ⟨.ref o, rfl, o, rfl, ⟨_, .of ho1⟩, fun D nD => ?_⟩
        have nD0 := s1.free nD
        refine dc_tup (K := K) (a := o) (xs := zs.map V.str) (fun i H' => Same H1 H' ∧ H' D = some (.dK (tab (zs.take i) (Bal.marks ms).rk))) ⟨same_upd nD, upd_same⟩ (fun _ _ _ h => .of (h.1 _ _ ho1)) ?_ ?_
        · rintro i x H2 hi ⟨s2, e2⟩
          obtain ⟨z, hz, rfl⟩ := item_map hi
          have zn : z ∉ zs.take i := fun m => nodup_out nd hz m
          have e1' := s2 _ _ e1
          refine ⟨rfl, .str z, rfl, .ref M, rfl, M, rfl, .inl ⟨_, .inl e1'⟩, .str z, rfl, _, DGet.k (k := .inr z) e1', ?_⟩
          rw [mT_val]
          refine ⟨(mkAt ms z).getD 0, ?_, _, .inr z, rfl, e2, ?_, same_mut s2 nD, ?_⟩
          · cases mkAt ms z <;> rfl
          · rw [tab_len, List.length_take]
            exact small1000 (by omega)
          · rw [upd_same]
            show some (HO.dK (putK (tab (zs.take i) (Bal.marks ms).rk) (.inr z) (V.int (-((mkAt ms z).getD 0))))) = _
            rw [tab_new (f := (Bal.marks ms).rk) (n := -((mkAt ms z).getD 0)) zn rfl, ← take_more hz]
        · rintro H2 ⟨s2, e2⟩
          rw [List.length_map, List.take_length] at e2
          exact q D H2 (s1.trans s2) nD0 e2
end
/-! ### polls, good ones -/
/-- the poll of options at o and rows at u stands at p -/
def pollF (o u : Addr) : List (Str × V) := putF "voices" (.ref u) (putF "options" (.ref o) [])
theorem pollF_options (o u : Addr) : (pollF o u).lookup ("options" : Str) = some (.ref o) := by
  unfold pollF
  rw [lookup_putF, if_neg (by decide +kernel), lookup_putF, if_pos rfl]
theorem pollF_voices (o u : Addr) : (pollF o u).lookup ("voices" : Str) = some (.ref u) := by
  unfold pollF
  rw [lookup_putF, if_pos rfl]
def PollAt (C : Addr) (H : Hp) (p o u : Addr) : Prop := ∃ dx, H p = some (.ins C dx (pollF o u))
theorem PollAt.same {C : Addr} {H H' : Hp} {p o u : Addr} (s : Same H H') (h : PollAt C H p o u) : PollAt C H' p o u := by
  obtain ⟨dx, h⟩ := h
  exact ⟨dx, s _ _ h⟩
theorem BalAt.same {H H' : Hp} {t : Addr} {b : Bal} (s : Same H H') (h : BalAt H t b) : BalAt H' t b := h.keep fun _ _ e => s _ _ e
theorem RowsAt.same {H H' : Hp} {u : Addr} {rows : List (Bal × Int)} (s : Same H H') (h : RowsAt H u rows) : RowsAt H' u rows := h.keep fun _ _ e => s _ _ e
theorem sign_a {c : Nat} (h : 97 ≤ c) : (!decide ((⟨#[c]⟩ : Str).cps.toList < ("a" : Str).cps.toList)) = true := by
  have e : ("a" : Str).cps.toList = [97] := by decide +kernel
  rw [e]
  show (!decide ([c] < [97])) = true
  rw [decide_eq_false fun z => ?_] <;> try rfl
  rcases List.cons_lt_cons_iff.mp z with z | z
  · omega
  · exact absurd z.2 (List.lt_irrefl _)
theorem sign_z {c : Nat} (h : c ≤ 122) : (!decide (("z" : Str).cps.toList < (⟨#[c]⟩ : Str).cps.toList)) = true := by
  have e : ("z" : Str).cps.toList = [122] := by decide +kernel
  rw [e]
  show (!decide ([122] < [c])) = true
  rw [decide_eq_false fun z => ?_] <;> try rfl
  rcases List.cons_lt_cons_iff.mp z with z | z
  · omega
  · exact absurd z.2 (List.lt_irrefl _)
/-- options as they must be -/
structure OptsOk (zs : List Str) : Prop where
  some : zs ≠ []
  few : zs.length ≤ 6
  nodup : zs.Nodup
  names : ∀ z ∈ zs, NameOk z
section
variable {P : Program} {w : World} {K : PySem.W.Frag} {mg : Str → Option Value} {base : Heap}
def sp_is_name : Sp := fun vs H Q _ => ∃ z : Str, vs = [.str z] ∧ NameOk z ∧ ∀ H', Same H H' → Q (.bl true) H'
theorem ok_is_name (T : Txt K mg) : FnOk P w K mg base CX0 1 T.f_is_name T.fd_is_name ["thing"] sp_is_name := by
  refine T.F_is_name.ok sc_is_name (fun vs H Q E h => ?_) (fun cdv A outer s H vs Q E hr h => ?_)
  · obtain ⟨z, rfl, _⟩ := h
    rfl
  · obtain ⟨z, rfl, hz, q⟩ := h
    refine ⟨_, (pss_cons
 (ps_if (pt_not (pt_val (pe_callB call_isi (by rfl) T.z_isinstance (by decide +kernel) (pa_cons (pv 0) (pa_cons (pe_bltn (v := .ty "str") (u := .type "str") rfl T.z_str (by decide +kernel) rfl) pa_nil)))))
 (pss_one
 (ps_ret pe_bl))
 pss_nil)
 (pss_cons
 (ps_if (pt_not (pt_chain op_le op_le pe_int (pe_callB call_len_str (by rfl) T.z_len (by decide +kernel) (pa_cons (pv 0) pa_nil)) (pe_glob (v := .int 8) rfl T.c_LONGEST_NAME ⟨_, rfl⟩)))
 (pss_one
 (ps_ret pe_bl))
 pss_nil)
 (pss_one
 (ps_ret (pe_callB (cr_all rfl) (by rfl) T.z_all (by decide +kernel) (pa_cons (pe_lc (own := [("sign", 1)]) (g := gName 1) (tt := tYes) rfl sc_is_name.nd (pi_str (pv 0)) (blkOk_by (own := [("sign", 1)]) (N := ["thing", "sign"]) (sc := (defScope s_is_name)) (by decide +kernel)) (fun _ _ _ _ _ => pg_name (i := 1) sc_is_name.nd rfl (Or.inl rfl)) (fun _ _ _ _ _ => pts_nil) (fun _ _ _ _ _ => (pe_chain op_le_str op_le_str pe_str (pv 1) pe_str))) pa_nil)))))), ?_⟩
    obtain ⟨h1, h8, hs⟩ := hz
    obtain ⟨t, ht, _, k2, _⟩ := (show DAt H (.str z) (.str z) from rfl).ty (K := K)
    refine ⟨.str z, rfl, .str z, _, t, _, true, rfl, .ty _, ht, k2, true, rfl, iteF ?_⟩
    refine ⟨.str z, rfl, z, rfl, line_of (by omega), 1, _, rfl, rfl, _, rfl, ite2 (fun _ => ?_) (fun e => absurd (decide_eq_true (show (1 : Int) ≤ (z.length : Int) by omega)) e)⟩
    refine ⟨_, 8, rfl, rfl, _, rfl, ?_⟩
    show if (!decide ((z.length : Int) ≤ 8)) = true then _ else _
    rw [decide_eq_true (show (z.length : Int) ≤ 8 by omega)]
    refine iteF ?_
    refine ⟨.str z, rfl, z, rfl, fun D nD => ?_⟩
    refine lc_it walk_str (fun i H' => Same H H' ∧ H' D = some (.lst ((List.replicate i true).map V.bl))) ⟨same_upd nD, upd_same⟩ (fun _ _ _ _ => trivial) ?_ ?_
    · rintro i x H1 H2 hi ⟨s1, e1⟩ ⟨rfl, c, hc, rfl⟩
      have hc2 : z.cps.toList[i]? = some c := by rw [Array.getElem?_toList]; exact hc
      obtain ⟨c1, c2⟩ := hs c (List.mem_of_getElem? hc2)
      have il := (List.getElem?_eq_some_iff.mp hc2).1
      have l8 : z.cps.toList.length = z.length := by simp [Str.length]
      refine ⟨rfl, .str ⟨#[c]⟩, rfl, _, _, rfl, rfl, _, rfl, ite2 (fun _ => ?_) (fun e => absurd (sign_a c1) e)⟩
      refine ⟨_, _, rfl, rfl, _, e1, small1000 (by rw [List.length_map, List.length_replicate]; omega), same_mut s1 nD, ?_⟩
      rw [upd_same, sign_z c2, List.replicate_succ', List.map_append]
      rfl
    · rintro H1 ⟨s1, e1⟩
      refine ⟨D, _, rfl, .of e1, ?_⟩
      have ea : ∀ n, (List.replicate n true).all id = true := fun n => by induction n with
        | zero => rfl
        | succ n ih => rw [List.replicate_succ, List.all_cons, ih] <;> rfl
      rw [ea]
      exact q _ s1
def sp_are_names : Sp := fun vs H Q _ => ∃ (o : Addr) (zs : List Str), vs = [.ref o] ∧ H o = some (.tup (zs.map V.str)) ∧ OptsOk zs ∧ ∀ H', Same H H' → Q (.bl true) H'
theorem ok_are_names (T : Txt K mg) : FnOk P w K mg base CX0 2 T.f_are_names T.fd_are_names ["thing"] sp_are_names := by
  refine T.F_are_names.ok sc_are_names (fun vs H Q E h => ?_) (fun cdv A outer s H vs Q E hr h => ?_)
  · obtain ⟨o, zs, rfl, _⟩ := h
    rfl
  · obtain ⟨o, zs, rfl, ho, ok, q⟩ := h
    refine ⟨_, (pss_cons
 (ps_if (PW.pt (pw_or (pt_not (pt_val (pe_callB call_isi (by rfl) T.z_isinstance (by decide +kernel) (pa_cons (pv 0) (pa_cons (pe_bltn (v := .ty "tuple") (u := .type "tuple") rfl T.z_tuple (by decide +kernel) rfl) pa_nil))))) (pw_or1 (pt_cmpR op_eq (pe_callB call_len_seq (by rfl) T.z_len (by decide +kernel) (pa_cons (pv 0) pa_nil)) pe_int (nomark _)))))
 (pss_one
 (ps_ret pe_bl))
 pss_nil)
 (pss_one
 (ps_ret (pe_and (pe_callB (cr_all rfl) (by rfl) T.z_all (by decide +kernel) (pa_cons (pe_lc (own := [("name", 1)]) (g := gName 1) (tt := tYes) rfl sc_are_names.nd (pi_tup (pv 0)) (blkOk_by (own := [("name", 1)]) (N := ["thing", "name"]) (sc := (defScope s_are_names)) (by decide +kernel)) (fun _ _ _ _ _ => pg_name (i := 1) sc_are_names.nd rfl (Or.inl rfl)) (fun _ _ _ _ _ => pts_nil) (fun _ _ _ _ _ => (pe_call (ok_is_name T) (hr.mono (by decide)) (by rfl) T.g_is_name T.F_is_name.kp T.b_is_name .nil pass0 (pa_cons (pv 1) pa_nil)))) pa_nil)) (pe_one (pe_cmpR op_eq (pe_unlike rfl (by rfl) T.z_len (by rfl) T.z_set (pv 0)) (pe_callB call_len_seq (by rfl) T.z_len (by decide +kernel) (pa_cons (pv 0) pa_nil)) (nomark _))))))), ?_⟩
    obtain ⟨ty, hty, k1, _⟩ := (show DAt H (.tuple (zs.map PyData.str)) (.ref o) from ⟨o, _, rfl, ho, DAll.strs zs⟩).ty (K := K)
    have pos : 0 < zs.length := List.length_pos_iff.mpr ok.some
    refine ⟨.ref o, rfl, .ref o, _, ty, _, true, rfl, .ty _, hty, k1, true, rfl, iteF ?_⟩
    refine ⟨.ref o, rfl, o, _, rfl, .inr (.of ho), rfl, _, rfl, ite2 (fun e => ?_) (fun _ => ?_)⟩
    · have e := V.int.inj (of_decide_eq_true e)
      rw [List.length_map] at e
      omega
    · refine ⟨.ref o, rfl, o, rfl, ⟨_, .of ho⟩, fun D nD => ?_⟩
      refine lc_tup (K := K) (a := o) (xs := zs.map V.str) (fun i H' => Same H H' ∧ H' D = some (.lst ((List.replicate i true).map V.bl))) ⟨same_upd nD, upd_same⟩ (fun _ _ _ h => .of (h.1 _ _ ho)) ?_ ?_
      · rintro i x H1 hi ⟨s1, e1⟩
        obtain ⟨z, hz, rfl⟩ := item_map hi
        have il := (List.getElem?_eq_some_iff.mp hz).1
        have few := ok.few
        refine ⟨rfl, .str z, rfl, z, rfl, ok.names z (List.mem_of_getElem? hz), fun H2 s2 => ⟨_, s2 _ _ e1, small1000 (by rw [List.length_map, List.length_replicate]; omega), same_mut (s1.trans s2) nD, ?_⟩⟩
        rw [upd_same, List.replicate_succ', List.map_append]
        rfl
      · rintro H1 ⟨s1, e1⟩
        refine ⟨D, _, rfl, .of e1, ?_⟩
        have ea : ∀ n, (List.replicate n true).all id = true := fun n => by induction n with
          | zero => rfl
          | succ n ih => rw [List.replicate_succ, List.all_cons, ih] <;> rfl
        rw [ea]
        have few := ok.few
        refine ⟨_, rfl, iteT ⟨.ref o, rfl, o, zs, rfl, .inr (.of (s1 _ _ ho)), by omega, .ref o, rfl, o, _, rfl, .inr (.of (s1 _ _ ho)), rfl, ?_⟩⟩
        rw [met_all ok.nodup, List.length_map, decide_eq_true rfl]
        exact q _ s1
def sp_are_options : Sp := fun vs H Q _ => ∃ (o : Addr) (zs : List Str), vs = [.ref o] ∧ H o = some (.tup (zs.map V.str)) ∧ OptsOk zs ∧ ∀ H', Same H H' → Q (.bl true) H'
theorem ok_are_options (T : Txt K mg) : FnOk P w K mg base CX0 3 T.f_are_options T.fd_are_options ["thing"] sp_are_options := by
  refine T.F_are_options.ok sc_are_options (fun vs H Q E h => ?_) (fun cdv A outer s H vs Q E hr h => ?_)
  · obtain ⟨o, zs, rfl, _⟩ := h
    rfl
  · obtain ⟨o, zs, rfl, ho, ok, q⟩ := h
    refine ⟨_, (pss_one
 (ps_ret (pe_and (pe_call (ok_are_names T) (hr.mono (by decide)) (by rfl) T.g_are_names T.F_are_names.kp T.b_are_names .nil pass0 (pa_cons (pv 0) pa_nil)) (pe_one (pe_cmpR op_le (pe_callB call_len_seq (by rfl) T.z_len (by decide +kernel) (pa_cons (pv 0) pa_nil)) (pe_glob (v := .int 6) rfl T.c_MOST_OPTIONS ⟨_, rfl⟩) (nomark _)))))), ?_⟩
    refine ⟨.ref o, rfl, o, zs, rfl, ho, ok, fun H1 s1 => ⟨_, rfl, iteT ⟨.ref o, rfl, o, _, rfl, .inr (.of (s1 _ _ ho)), _, _, rfl, rfl, ?_⟩⟩⟩
    have few := ok.few
    have e : decide (((zs.map V.str).length : Int) ≤ 6) = true := decide_eq_true (by rw [List.length_map]; omega)
    show Q (.bl (decide (((zs.map V.str).length : Int) ≤ 6))) H1
    rw [e]
    exact q _ s1
def sp_is_row : Sp := fun vs H Q _ => ∃ (o r t : Addr) (zs : List Str) (b : Bal) (m : Int), vs = [.ref o, .ref r] ∧ H o = some (.tup (zs.map V.str)) ∧ H r = some (.tup [.ref t, .int m]) ∧ BalAt H t b ∧ b.Ok zs ∧ zs.length ≤ 6 ∧ 1 ≤ m ∧ m ≤ 1000000 ∧ ∀ H', Same H H' → Q (.bl true) H'
theorem ok_is_row (T : Txt K mg) : FnOk P w K mg base CX0 5 T.f_is_row T.fd_is_row ["options", "thing"] sp_is_row := by
  refine T.F_is_row.ok sc_is_row (fun vs H Q E h => ?_) (fun cdv A outer s H vs Q E hr h => ?_)
  · obtain ⟨o, r, t, zs, b, m, rfl, _⟩ := h
    rfl
  · obtain ⟨o, r, t, zs, b, m, rfl, ho, hrow, hb, bok, n6, m1, m2, q⟩ := h
    refine ⟨_, (pss_cons
 (ps_if (PW.pt (pw_or (pt_not (pt_val (pe_call (ok_is_tuple_of T) (hr.mono (by decide)) (by rfl) T.g_is_tuple_of T.F_is_tuple_of.kp T.b_is_tuple_of .nil pass0 (pa_cons (pv 1) (pa_cons pe_int pa_nil))))) (pw_or1 (pt_not (pt_val (pe_call (ok_is_ballot T) (hr.mono (by decide)) (by rfl) T.g_is_ballot T.F_is_ballot.kp T.b_is_ballot .nil pass0 (pa_cons (pv 0) (pa_cons (pe_ix ix_tup (pv 1) pe_int (fun _ _ => rfl)) pa_nil))))))))
 (pss_one
 (ps_ret pe_bl))
 pss_nil)
 (pss_one
 (ps_ret (pe_and (pe_call (ok_is_whole T) (hr.mono (by decide)) (by rfl) T.g_is_whole T.F_is_whole.kp T.b_is_whole .nil pass0 (pa_cons (pe_ix ix_tup (pv 1) pe_int (fun _ _ => rfl)) pa_nil)) (pe_one (pe_chain op_le op_le pe_int (pe_ix ix_tup (pv 1) pe_int (fun _ _ => rfl)) (pe_glob (v := .int 1000000) rfl T.c_MOST_VOICES ⟨_, rfl⟩))))))), ?_⟩
    have dr : DAt H (.tuple [b.data, .int m]) (.ref r) := ⟨r, _, rfl, hrow, da1 hb.data (da1 rfl da0)⟩
    refine ⟨.ref r, rfl, .ref r, 2, _, rfl, dr, true, rfl, iteF ?_⟩
    refine ⟨.ref o, rfl, .ref r, rfl, r, _, 0, .ref t, rfl, rfl, .of hrow, atI_nat (j := 0) rfl, o, zs, .ref t, b.data, rfl, ho, hb.data, bok.fit n6, fun H1 s1 => ?_⟩
    rw [bok.good]
    refine ⟨true, rfl, iteF ?_⟩
    refine ⟨.ref r, rfl, r, _, 1, .int m, rfl, rfl, .of (s1 _ _ hrow), atI_nat (j := 1) rfl, .int m, .int m, rfl, rfl, true, rfl, iteT ?_⟩
    refine ⟨.ref r, rfl, r, _, 1, .int m, rfl, rfl, .of (s1 _ _ hrow), atI_nat (j := 1) rfl, _, _, rfl, rfl, _, rfl, ite2 (fun _ => ?_) (fun e => absurd (decide_eq_true m1) e)⟩
    refine ⟨_, _, rfl, rfl, ?_⟩
    show Q (.bl (decide (m ≤ 1000000))) H1
    rw [decide_eq_true m2]
    exact q _ s1
def sp_check_poll : Sp := fun vs H Q _ => ∃ (o u : Addr) (zs : List Str) (rows : List (Bal × Int)), vs = [.ref o, .ref u] ∧ H o = some (.tup (zs.map V.str)) ∧ RowsAt H u rows ∧ OptsOk zs ∧ RowsOk zs 30 rows ∧ ∀ H', Same H H' → Q .non H'
theorem ok_check_poll (T : Txt K mg) : FnOk P w K mg base (L2.CX P w) 6 T.f_check_poll T.fd_check_poll ["options", "voices"] sp_check_poll := by
  refine T.F_check_poll.okX sc_check_poll (fun vs H Q E h => ?_) (fun cdv A outer s H vs Q E hr h => ?_)
  · obtain ⟨o, u, zs, rows, rfl, _⟩ := h
    rfl
  · obtain ⟨o, u, zs, rows, rfl, ho, ⟨as, hu, ha, hm⟩, ok, rok, q⟩ := h
    refine ⟨_, (pss_cons
 (ps_if (pt_not (pt_val (pe_call (ok_are_options T) (hr.mono (by decide)) (by rfl) T.g_are_options T.F_are_options.kp T.b_are_options .nil pass0 (pa_cons (pv 0) pa_nil))))
 (pss_one
 (ps_raise rfl (takes_of rfl rfl rfl rfl) (px_pos T.ex_BadPoll (ok_PollError_init T) (hr.mono (by decide)) (by rfl) T.k_BadPoll T.kb_PollError_init_2 (fun σ => at0 σ) (pa_cons pe_str pa_nil))))
 pss_nil)
 (pss_cons
 (ps_if (PW.pt (pw_or (pt_not (pt_val (pe_callB call_isi (by rfl) T.z_isinstance (by decide +kernel) (pa_cons (pv 1) (pa_cons (pe_bltn (v := .ty "tuple") (u := .type "tuple") rfl T.z_tuple (by decide +kernel) rfl) pa_nil))))) (pw_or1 (pt_cmpR op_gt (pe_callB call_len_seq (by rfl) T.z_len (by decide +kernel) (pa_cons (pv 1) pa_nil)) (pe_glob (v := .int 30) rfl T.c_MOST_ROWS ⟨_, rfl⟩) (nomark _)))))
 (pss_one
 (ps_raise rfl (takes_of rfl rfl rfl rfl) (px_pos T.ex_BadPoll (ok_PollError_init T) (hr.mono (by decide)) (by rfl) T.k_BadPoll T.kb_PollError_init_2 (fun σ => at0 σ) (pa_cons pe_str pa_nil))))
 pss_nil)
 (pss_one
 (ps_if (pt_not (pt_val (pe_callB (cr_all rfl) (by rfl) T.z_all (by decide +kernel) (pa_cons (pe_lc (own := [("row", 2)]) (g := gName 2) (tt := tYes) rfl sc_check_poll.nd (pi_tup (pv 1)) (blkOk_by (own := [("row", 2)]) (N := ["options", "voices", "row"]) (sc := (defScope s_check_poll)) (by decide +kernel)) (fun _ _ _ _ _ => pg_name (i := 2) sc_check_poll.nd rfl (Or.inl rfl)) (fun _ _ _ _ _ => pts_nil) (fun _ _ _ _ _ => (pe_call (ok_is_row T) (hr.mono (by decide)) (by rfl) T.g_is_row T.F_is_row.kp T.b_is_row .nil pass0 (pa_cons (pv 0) (pa_cons (pv 2) pa_nil))))) pa_nil))))
 (pss_one
 (ps_raise rfl (takes_of rfl rfl rfl rfl) (px_pos T.ex_BadPoll (ok_PollError_init T) (hr.mono (by decide)) (by rfl) T.k_BadPoll T.kb_PollError_init_2 (fun σ => at0 σ) (pa_cons pe_str pa_nil))))
 pss_nil)))), ?_⟩
    have la : as.length = rows.length := by rw [← hm, List.length_map]
    have l30 := rok.1
    refine ⟨.ref o, rfl, o, zs, rfl, ho, ok, fun H1 s1 => ⟨true, rfl, iteF ?_⟩⟩
    have hu1 := s1 _ _ hu
    refine ⟨.ref u, rfl, .ref u, _, _, _, true, rfl, .ty _, .base (.tup hu1), kit_ty (show kitB "tuple" "tuple" = some true by decide +kernel), true, rfl, iteF ?_⟩
    refine ⟨.ref u, rfl, u, _, rfl, .inr (.of hu1), _, _, rfl, rfl, _, rfl, ite2 (fun e => ?_) (fun _ => ?_)⟩
    · have e := of_decide_eq_true e
      rw [List.length_map] at e
      omega
    · refine ⟨.ref u, rfl, u, rfl, ⟨_, .of hu1⟩, fun D nD => ?_⟩
      have nDH := s1.free nD
      refine lc_tup (K := K) (a := u) (xs := as.map fun a => V.ref a.1) (fun i H' => Same H H' ∧ H' D = some (.lst ((List.replicate i true).map V.bl))) ⟨s1.trans (same_upd nD), upd_same⟩ (fun _ _ _ h => .of (h.1 _ _ hu)) ?_ ?_
      · rintro i x H2 hi ⟨s2, e2⟩
        obtain ⟨a, hai, rfl⟩ := item_map hi
        have il := (List.getElem?_eq_some_iff.mp hai).1
        obtain ⟨h1, h2⟩ := ha a (List.mem_of_getElem? hai)
        obtain ⟨bok, m1, m2⟩ := rok.2 a.2.2 (by rw [← hm]; exact List.mem_map.mpr ⟨a, List.mem_of_getElem? hai, rfl⟩)
        refine ⟨rfl, .ref o, rfl, .ref a.1, rfl, o, a.1, a.2.1, zs, a.2.2.1, a.2.2.2, rfl, s2 _ _ ho, s2 _ _ h1, h2.same s2, bok, ok.few, m1, m2, fun H3 s3 => ⟨_, s3 _ _ e2, small1000 (by rw [List.length_map, List.length_replicate]; omega), same_mut (s2.trans s3) nDH, ?_⟩⟩
        rw [upd_same, List.replicate_succ', List.map_append]
        rfl
      · rintro H2 ⟨s2, e2⟩
        refine ⟨D, _, rfl, .of e2, ?_⟩
        have ea : ∀ n, (List.replicate n true).all id = true := fun n => by induction n with
          | zero => rfl
          | succ n ih => rw [List.replicate_succ, List.all_cons, ih] <;> rfl
        rw [ea]
        exact ⟨_, rfl, iteF (q _ s2)⟩
def sp_Poll_init (C : Addr) : Sp := fun vs H Q _ => ∃ (p dx o u : Addr) (zs : List Str) (rows : List (Bal × Int)), vs = [.ref p, .ref o, .ref u] ∧ H p = some (.ins C dx []) ∧ H o = some (.tup (zs.map V.str)) ∧ RowsAt H u rows ∧ OptsOk zs ∧ RowsOk zs 30 rows ∧
  ∀ H', But p H H' → H' p = some (.ins C dx (pollF o u)) → Q .non H'
theorem ok_Poll_init (T : Txt K mg) : FnOk P w K mg base (L2.CX P w) 7 T.f_Poll_init T.fd_Poll_init ["self", "options", "voices"] (sp_Poll_init T.C_Poll) := by
  refine T.F_Poll_init.ok (CX := L2.CX P w) sc_Poll_init (fun vs H Q E h => ?_) (fun cdv A outer s H vs Q E hr h => ?_)
  · obtain ⟨p, dx, o, u, zs, rows, rfl, _⟩ := h
    rfl
  · obtain ⟨p, dx, o, u, zs, rows, rfl, hp, ho, hu, ok, rok, q⟩ := h
    refine ⟨_, (pss_cons
 (ps_expr (pf_pos (ok_check_poll T) (hr.mono (by decide)) (by rfl) T.g_check_poll T.F_check_poll.kp T.kb_check_poll_2 (fun σ => atN σ) (pa_cons (pv 1) (pa_cons (pv 2) pa_nil))))
 (pss_cons
 (ps_fld (pv 0) (pv 1) rfl)
 (pss_one
 (ps_fld (pv 0) (pv 2) rfl)))), ?_⟩
    refine ⟨.ref o, rfl, .ref u, rfl, rfl, rfl, o, u, zs, rows, rfl, ho, hu, ok, rok, fun H1 s1 => ?_⟩
    refine ⟨.ref o, rfl, .ref p, rfl, p, T.C_Poll, dx, [], rfl, s1 _ _ hp, T.cl_Poll, T.n_Poll_options, by decide, ?_⟩
    refine ⟨.ref u, rfl, .ref p, rfl, p, T.C_Poll, dx, _, rfl, upd_same, T.cl_Poll, T.n_Poll_voices, (by show 1 < 1000; decide), ?_⟩
    refine q _ (fun y x hy hx => ?_) upd_same
    rw [upd_ne hy, upd_ne hy]
    exact s1 _ _ hx
end
/-! ### margins, in plain words -/
def sg (a b : Int) : Int := if a < b then 1 else if a > b then -1 else 0
def marg : List (Bal × Int) → Str → Str → Int
  | [], _, _ => 0
  | r :: rs, y, z => r.2 * sg (r.1.rk y) (r.1.rk z) + marg rs y z
theorem marg_more (y z : Str) (r : Bal × Int) : ∀ rs : List (Bal × Int), marg (rs ++ [r]) y z = marg rs y z + r.2 * sg (r.1.rk y) (r.1.rk z)
  | [] => by
    show r.2 * sg (r.1.rk y) (r.1.rk z) + 0 = 0 + r.2 * sg (r.1.rk y) (r.1.rk z)
    omega
  | q :: rs => by
    show q.2 * sg (q.1.rk y) (q.1.rk z) + marg (rs ++ [r]) y z = q.2 * sg (q.1.rk y) (q.1.rk z) + marg rs y z + r.2 * sg (r.1.rk y) (r.1.rk z)
    rw [marg_more y z r rs]
    omega
theorem sg_turn (a b : Int) : sg b a = -sg a b := by
  unfold sg
  by_cases h : a < b <;> by_cases g : b < a
  · omega
  all_goals simp [h, g]
theorem marg_turn (y z : Str) : ∀ rs : List (Bal × Int), marg rs z y = -marg rs y z
  | [] => rfl
  | r :: rs => by
    show r.2 * sg (r.1.rk z) (r.1.rk y) + marg rs z y = -(r.2 * sg (r.1.rk y) (r.1.rk z) + marg rs y z)
    rw [sg_turn, marg_turn y z rs, Int.mul_neg]
    omega
/-! ### a dict of pairs of names, each with its number -/
def row2 (f : Str → Str → Int) (y : Str) (zs : List Str) : List (List Key × V) := (zs.filter fun z => decide (y ≠ z)).map fun z => ([.inr y, .inr z], .int (f y z))
def tab2 (zs : List Str) (f : Str → Str → Int) (ys : List Str) : List (List Key × V) := ys.flatMap fun y => row2 f y zs
theorem val_none {κ : Type} [DecidableEq κ] {kvs : List (κ × V)} {k : κ} (h : ∀ e ∈ kvs, e.1 ≠ k) : valV kvs k = none := by
  unfold valV
  rw [List.find?_eq_none.mpr fun e he => by simpa using h e he] <;> rfl
theorem val_some {κ : Type} [DecidableEq κ] {k : κ} {v : V} : ∀ {kvs : List (κ × V)}, (k, v) ∈ kvs → (∀ e ∈ kvs, e.1 = k → e.2 = v) → valV kvs k = some v
  | [], h, _ => by cases h
  | e :: kvs, h, u => by
    by_cases c : e.1 = k
    · rw [valV_pos c, u e List.mem_cons_self c]
    · rw [valV_neg c]
      refine val_some ?_ fun e' h' => u e' (List.mem_cons_of_mem _ h')
      rcases List.mem_cons.mp h with rfl | h
      · exact absurd rfl c
      · exact h
theorem mem_row2 {f : Str → Str → Int} {y : Str} {zs : List Str} {e : List Key × V} : e ∈ row2 f y zs ↔ ∃ z ∈ zs, y ≠ z ∧ e = ([.inr y, .inr z], .int (f y z)) := by
  unfold row2
  rw [List.mem_map]
  constructor
  · rintro ⟨z, hz, rfl⟩
    obtain ⟨h1, h2⟩ := List.mem_filter.mp hz
    exact ⟨z, h1, of_decide_eq_true h2, rfl⟩
  · rintro ⟨z, hz, n, rfl⟩
    exact ⟨z, List.mem_filter.mpr ⟨hz, decide_eq_true n⟩, rfl⟩
theorem mem_tab2 {f : Str → Str → Int} {ys zs : List Str} {e : List Key × V} : e ∈ tab2 zs f ys ↔ ∃ y ∈ ys, ∃ z ∈ zs, y ≠ z ∧ e = ([.inr y, .inr z], .int (f y z)) := by
  unfold tab2
  rw [List.mem_flatMap]
  exact ⟨fun ⟨y, hy, h⟩ => ⟨y, hy, mem_row2.mp h⟩, fun ⟨y, hy, h⟩ => ⟨y, hy, mem_row2.mpr h⟩⟩
theorem key2_inj {y z y' z' : Str} (h : ([.inr y, .inr z] : List Key) = [.inr y', .inr z']) : y = y' ∧ z = z' := by
  obtain ⟨h1, h2⟩ := List.cons.inj h
  exact ⟨Sum.inr.inj h1, Sum.inr.inj (List.cons.inj h2).1⟩
theorem tab2_val {f : Str → Str → Int} {zs : List Str} {y z : Str} (hy : y ∈ zs) (hz : z ∈ zs) (n : y ≠ z) : valV (tab2 zs f zs) [.inr y, .inr z] = some (.int (f y z)) := by
  refine val_some (mem_tab2.mpr ⟨y, hy, z, hz, n, rfl⟩) fun e he k => ?_
  obtain ⟨y', _, z', _, _, rfl⟩ := mem_tab2.mp he
  obtain ⟨rfl, rfl⟩ := key2_inj k
  rfl
theorem tab2_len (f : Str → Str → Int) (zs : List Str) : ∀ ys : List Str, (tab2 zs f ys).length ≤ ys.length * zs.length
  | [] => Nat.zero_le _
  | y :: ys => by
    have h := tab2_len f zs ys
    show (row2 f y zs ++ tab2 zs f ys).length ≤ (ys.length + 1) * zs.length
    have g : (row2 f y zs).length ≤ zs.length := by
      unfold row2
      rw [List.length_map]
      exact List.length_filter_le _ _
    rw [List.length_append, Nat.add_mul]
    omega
theorem row2_new {f : Str → Str → Int} {zs : List Str} {y z : Str} {i j : Nat} (nd : zs.Nodup) (hy : zs[i]? = some y) (hz : zs[j]? = some z) (n : y ≠ z) :
    putK (tab2 zs f (zs.take i) ++ row2 f y (zs.take j)) [.inr y, .inr z] (.int (f y z)) = tab2 zs f (zs.take i) ++ row2 f y (zs.take (j + 1)) := by
  have none' : valV (tab2 zs f (zs.take i) ++ row2 f y (zs.take j)) ([.inr y, .inr z] : List Key) = none := val_none fun e he k => by
    rcases List.mem_append.mp he with he | he
    · obtain ⟨y', hy', z', _, _, rfl⟩ := mem_tab2.mp he
      obtain ⟨rfl, rfl⟩ := key2_inj k
      exact nodup_out nd hy hy'
    · obtain ⟨z', hz', _, rfl⟩ := mem_row2.mp he
      obtain ⟨_, rfl⟩ := key2_inj k
      exact nodup_out nd hz hz'
  rw [putK_new _ none', List.append_assoc]
  refine congrArg _ ?_
  unfold row2
  rw [take_more hz, List.filter_append, List.map_append, List.filter_cons_of_pos (p := fun z => decide (y ≠ z)) (decide_eq_true n)] <;> rfl
theorem row2_skip {f : Str → Str → Int} {zs : List Str} {y z : Str} {j : Nat} (hz : zs[j]? = some z) (n : ¬ y ≠ z) : row2 f y (zs.take (j + 1)) = row2 f y (zs.take j) := by
  unfold row2
  rw [take_more hz, List.filter_append, List.filter_cons_of_neg (p := fun z => decide (y ≠ z)) (by simpa using n)]
  simp
theorem tab2_more {f : Str → Str → Int} {zs ys : List Str} {y : Str} {i : Nat} (hy : ys[i]? = some y) : tab2 zs f (ys.take (i + 1)) = tab2 zs f (ys.take i) ++ row2 f y zs := by
  unfold tab2
  rw [take_more hy, List.flatMap_append]
  simp
/-- the ranked rows at l: each row's tuple, its ranks -/
def RkAt (H : Hp) (l : Addr) (zs : List Str) (qs : List (Addr × Addr × (Bal × Int))) : Prop := H l = some (.lst (qs.map fun q => V.ref q.1)) ∧ ∀ q ∈ qs, H q.1 = some (.tup [.ref q.2.1, .int q.2.2.2]) ∧ H q.2.1 = some (.dK (tab zs q.2.2.1.rk))
theorem RkAt.same {H H' : Hp} {l : Addr} {zs : List Str} {qs : List (Addr × Addr × (Bal × Int))} (s : Same H H') (h : RkAt H l zs qs) : RkAt H' l zs qs := ⟨s _ _ h.1, fun q hq => ⟨s _ _ (h.2 q hq).1, s _ _ (h.2 q hq).2⟩⟩
/-- a good poll at p -/
structure PollOk (C : Addr) (H : Hp) (p o u : Addr) (zs : List Str) (rows : List (Bal × Int)) : Prop where
  poll : PollAt C H p o u
  opts : H o = some (.tup (zs.map V.str))
  votes : RowsAt H u rows
  ok : OptsOk zs
  rok : RowsOk zs 30 rows
theorem PollOk.same {C : Addr} {H H' : Hp} {p o u : Addr} {zs : List Str} {rows : List (Bal × Int)} (s : Same H H') (h : PollOk C H p o u zs rows) : PollOk C H' p o u zs rows := ⟨h.poll.same s, s _ _ h.opts, h.votes.same s, h.ok, h.rok⟩
section
variable {P : Program} {w : World} {K : PySem.W.Frag} {mg : Str → Option Value} {base : Heap}
def sp_ranked (C : Addr) : Sp := fun vs H Q _ => ∃ (p o u : Addr) (zs : List Str) (rows : List (Bal × Int)), vs = [.ref p] ∧ PollOk C H p o u zs rows ∧
  ∀ (l : Addr) (qs : List (Addr × Addr × (Bal × Int))) (H' : Hp), Same H H' → RkAt H' l zs qs → qs.map (·.2.2) = rows → Q (.ref l) H'
theorem ok_ranked (T : Txt K mg) : FnOk P w K mg base CX0 3 T.f_ranked T.fd_ranked ["poll"] (sp_ranked T.C_Poll) := by
  refine T.F_ranked.ok sc_ranked (fun vs H Q E h => ?_) (fun cdv A outer s H vs Q E hr h => ?_)
  · obtain ⟨p, o, u, zs, rows, rfl, _⟩ := h
    rfl
  · obtain ⟨p, o, u, zs, rows, rfl, pk, q⟩ := h
    refine ⟨_, (pss_one
 (ps_ret (pe_lc (own := [("ballot", 1), ("many", 2)]) (tt := tYes) rfl sc_ranked.nd (pi_tup (pe_fld (pv 0) rfl)) (blkOk_by (own := [("ballot", 1), ("many", 2)]) (N := ["poll", "ballot", "many"]) (sc := (defScope s_ranked)) (by decide +kernel)) (fun s0 H0 C0 cl0 fp0 => (by have h := (pg_tup (n := 2) rfl (pgs_cons (pg_name (i := 1) sc_ranked.nd rfl (Or.inl rfl)) (pgs_cons (pg_name (i := 2) sc_ranked.nd rfl (Or.inl rfl)) pgs_nil)) : PG ((cxOf CX0 P w K mg base ["poll", "ballot", "many"] "ranked" (defScope s_ranked) T.f_ranked cdv A outer s H E).nox.blk s0 H0 (lcScope (rootE ((defBody s_ranked).getD 0 (.Pass ⟨0, 0, 0, 0⟩)))) (compEnvC (lcScope (rootE ((defBody s_ranked).getD 0 (.Pass ⟨0, 0, 0, 0⟩)))) cl0 C0 (cxOf CX0 P w K mg base ["poll", "ballot", "many"] "ranked" (defScope s_ranked) T.f_ranked cdv A outer s H E).nox.env) fp0) (subE (rootE ((defBody s_ranked).getD 0 (.Pass ⟨0, 0, 0, 0⟩))) 2) _); dsimp only [Cx.blk, Cx.tr, Cx.suite, Cx.nox, Cx.wish, cxOf] at h; exact h)) (fun _ _ _ _ _ => pts_nil) (fun s0 H0 C0 cl0 fp0 => (by have h := ((pe_tup (pa_cons (pe_call (ok_ranks T) (hr.mono (by decide)) (by rfl) T.g_ranks T.F_ranks.kp T.b_ranks .nil pass0 (pa_cons (pe_fld (pv 0) rfl) (pa_cons (pv 1) pa_nil))) (pa_cons (pv 2) pa_nil))) : PE ((cxOf CX0 P w K mg base ["poll", "ballot", "many"] "ranked" (defScope s_ranked) T.f_ranked cdv A outer s H E).nox.blk s0 H0 (lcScope (rootE ((defBody s_ranked).getD 0 (.Pass ⟨0, 0, 0, 0⟩)))) (compEnvC (lcScope (rootE ((defBody s_ranked).getD 0 (.Pass ⟨0, 0, 0, 0⟩)))) cl0 C0 (cxOf CX0 P w K mg base ["poll", "ballot", "many"] "ranked" (defScope s_ranked) T.f_ranked cdv A outer s H E).nox.env) fp0) (subE (rootE ((defBody s_ranked).getD 0 (.Pass ⟨0, 0, 0, 0⟩))) 0) _); dsimp only [Cx.blk, Cx.tr, Cx.suite, Cx.nox, Cx.wish, cxOf] at h; exact h))))), ?_⟩
    obtain ⟨⟨dx, hp⟩, ho, ⟨as, hu, ha, hm⟩, ok, rok⟩ := pk
    have la : as.length = rows.length := by rw [← hm, List.length_map]
    have l30 := rok.1
    refine ⟨.ref p, rfl, p, T.C_Poll, dx, _, .ref u, rfl, hp, T.cl_Poll, T.n_Poll_voices, pollF_voices o u, u, rfl, ⟨_, .of hu⟩, fun D nD => ?_⟩
    refine lc_tup (K := K) (a := u) (xs := as.map fun a => V.ref a.1) (fun i H' => ∃ qs : List (Addr × Addr × (Bal × Int)), Same H H' ∧ RkAt H' D zs qs ∧ qs.map (·.2.2) = rows.take i) ⟨[], same_upd nD, ⟨upd_same, fun _ h => (by cases h)⟩, rfl⟩ (fun _ _ _ ⟨_, h, _⟩ => .of (h _ _ hu)) ?_ ?_
    · rintro i x H1 hi ⟨qs, s1, rk, m1⟩
      obtain ⟨a, hai, rfl⟩ := item_map hi
      have il := (List.getElem?_eq_some_iff.mp hai).1
      obtain ⟨h1, h2⟩ := ha a (List.mem_of_getElem? hai)
      have mem : a.2.2 ∈ rows := by rw [← hm]; exact List.mem_map.mpr ⟨a, List.mem_of_getElem? hai, rfl⟩
      have ri : rows[i]? = some a.2.2 := by rw [← hm, List.getElem?_map, hai]; rfl
      obtain ⟨bok, _, _⟩ := rok.2 a.2.2 mem
      have lq : qs.length = i := by
        have := congrArg List.length m1
        rw [List.length_map, List.length_take] at this
        omega
      refine ⟨a.1, _, rfl, .of (s1 _ _ h1), rfl, _, _, rfl, _, _, rfl, rfl, rfl, ?_⟩
      refine ⟨.ref p, rfl, p, T.C_Poll, dx, _, .ref o, rfl, s1 _ _ hp, T.cl_Poll, T.n_Poll_options, pollF_options o u, .ref a.2.1, rfl, o, a.2.1, zs, a.2.2.1, rfl, s1 _ _ ho, h2.same s1, bok, ok.nodup, ok.few, fun Dr H2 s2 nDr eDr => ?_⟩
      refine ⟨.int a.2.2.2, rfl, line_of (show 2 ≤ 1000 by decide), fun t nt => ?_⟩
      have s3 := same_upd (o := HO.tup [V.ref Dr, V.int a.2.2.2]) nt
      have et : (upd H2 t (.tup [V.ref Dr, V.int a.2.2.2])) t = some (.tup [V.ref Dr, V.int a.2.2.2]) := upd_same
      have rk3 := (rk.same s2).same s3
      have eD := s3 _ _ eDr
      generalize upd H2 t (.tup [V.ref Dr, V.int a.2.2.2]) = H3 at s3 et rk3 eD
      refine ⟨_, rk3.1, small1000 (by rw [List.length_map]; omega), qs ++ [(t, Dr, a.2.2)], same_mut (s1.trans (s2.trans s3)) nD, ⟨by rw [upd_same, List.map_append]; rfl, fun q' hq => ?_⟩, by rw [List.map_append, m1, take_more ri]; rfl⟩
      have both : H3 q'.1 = some (.tup [.ref q'.2.1, .int q'.2.2.2]) ∧ H3 q'.2.1 = some (.dK (tab zs q'.2.2.1.rk)) := by
        rcases List.mem_append.mp hq with hq | hq
        · exact rk3.2 q' hq
        · rw [List.mem_singleton.mp hq]
          exact ⟨et, eD⟩
      rw [upd_ne (fun e => by rw [e, rk3.1] at both; cases both.1), upd_ne (fun e => by rw [e, rk3.1] at both; cases both.2)]
      exact both
    · rintro H1 ⟨qs, s1, rk, m1⟩
      rw [List.length_map, la, List.take_length] at m1
      exact q D qs H1 s1 rk m1
def sp_margin_by : Sp := fun vs H Q _ => ∃ (l : Addr) (zs : List Str) (qs : List (Addr × Addr × (Bal × Int))) (y z : Str), vs = [.ref l, .str y, .str z] ∧ RkAt H l zs qs ∧ y ∈ zs ∧ z ∈ zs ∧ Q (.int (marg (qs.map (·.2.2)) y z)) H
theorem ok_margin_by (T : Txt K mg) : FnOk P w K mg base CX0 1 T.f_margin_by T.fd_margin_by ["rows", "one", "other"] sp_margin_by := by
  refine T.F_margin_by.ok sc_margin_by (fun vs H Q E h => ?_) (fun cdv A outer s H vs Q E hr h => ?_)
  · obtain ⟨l, zs, qs, y, z, rfl, _⟩ := h
    rfl
  · obtain ⟨l, zs, qs, y, z, rfl, rk, hy, hz, q⟩ := h
    refine ⟨_, (pss_cons
 (ps_set (i := 3) sc_margin_by.nd rfl (Or.inl rfl) pe_int)
 (pss_cons
 (ps_for PassesOwn.never rfl (pi_list (pv 0)) (pg_tup rfl (pgs_cons (pg_name (i := 4) sc_margin_by.nd rfl (Or.inl rfl)) (pgs_cons (pg_name (i := 5) sc_margin_by.nd rfl (Or.inl rfl)) pgs_nil)))
 (pss_one
 (ps_if (pt_cmpR op_lt (pe_dget (hu_of hr) (pv 4) (pv 1) (fun _ _ => rfl)) (pe_dget (hu_of hr) (pv 4) (pv 2) (fun _ _ => rfl)) (nomark _))
 (pss_one
 (ps_aug (i := 3) sc_margin_by.nd rfl (Or.inl rfl) (pv 5) ip_add))
 (pss_one
 (ps_if (pt_cmpR op_gt (pe_dget (hu_of hr) (pv 4) (pv 1) (fun _ _ => rfl)) (pe_dget (hu_of hr) (pv 4) (pv 2) (fun _ _ => rfl)) (nomark _))
 (pss_one
 (ps_aug (i := 3) sc_margin_by.nd rfl (Or.inl rfl) (pv 5) ip_sub))
 pss_nil)))))
 (pss_one
 (ps_ret (pv 3))))), ?_⟩
    refine ⟨.ref l, rfl, l, rfl, ⟨_, .of rk.1⟩, for_list (K := K) (a := l) (xs := qs.map fun q => V.ref q.1) (fun i σ H' => ∃ x4 x5 : Option V, σ = [some (.ref l), some (.str y), some (.str z), some (.int (marg ((qs.take i).map (·.2.2)) y z)), x4, x5] ∧ H' = H) ⟨none, none, rfl, rfl⟩ (fun _ _ _ _ ⟨_, _, _, e⟩ => by rw [e]; exact .of rk.1) ?_ ?_⟩
    · rintro i x σ H1 hi ⟨x4, x5, rfl, rfl⟩
      obtain ⟨a, hai, rfl⟩ := item_map hi
      obtain ⟨h1, h2⟩ := rk.2 a (List.mem_of_getElem? hai)
      have got : ∀ {x : Str}, x ∈ zs → DGet H1 a.2.1 (.str x) (some (.int (a.2.2.1.rk x))) := fun {x} hx => by
        have := DGet.k (k := .inr x) h2
        rw [tab_val, if_pos hx] at this
        exact this
      have next : marg ((qs.take (i + 1)).map (·.2.2)) y z = marg ((qs.take i).map (·.2.2)) y z + a.2.2.2 * sg (a.2.2.1.rk y) (a.2.2.1.rk z) := by
        rw [take_more hai, List.map_append]
        exact marg_more y z a.2.2 _
      refine ⟨a.1, _, rfl, .of h1, rfl, _, _, rfl, _, _, rfl, rfl, ?_⟩
      refine ⟨.ref a.2.1, rfl, .str y, rfl, a.2.1, _, rfl, got hy, .ref a.2.1, rfl, .str z, rfl, a.2.1, _, rfl, got hz, _, _, rfl, rfl, _, rfl, ite2 (fun e => ?_) (fun e => ?_)⟩
      · have lt := of_decide_eq_true e
        refine ⟨_, rfl, .int a.2.2.2, rfl, _, _, rfl, rfl, some (.ref a.2.1), some (.int a.2.2.2), ?_, rfl⟩
        rw [next]
        unfold sg
        rw [if_pos lt, Int.mul_one]
        rfl
      · have nlt : ¬ a.2.2.1.rk y < a.2.2.1.rk z := fun h => e (decide_eq_true h)
        refine ⟨.ref a.2.1, rfl, .str y, rfl, a.2.1, _, rfl, got hy, .ref a.2.1, rfl, .str z, rfl, a.2.1, _, rfl, got hz, _, _, rfl, rfl, _, rfl, ite2 (fun e => ?_) (fun e => ?_)⟩
        · have gt := of_decide_eq_true e
          refine ⟨_, rfl, .int a.2.2.2, rfl, _, _, rfl, rfl, some (.ref a.2.1), some (.int a.2.2.2), ?_, rfl⟩
          rw [next]
          unfold sg
          rw [if_neg nlt, if_pos gt, Int.mul_neg, Int.mul_one, ← Int.sub_eq_add_neg]
          rfl
        · have ngt : ¬ a.2.2.1.rk y > a.2.2.1.rk z := fun h => e (decide_eq_true h)
          refine ⟨some (.ref a.2.1), some (.int a.2.2.2), ?_, rfl⟩
          rw [next]
          unfold sg
          rw [if_neg nlt, if_neg ngt, Int.mul_zero, Int.add_zero]
          rfl
    · rintro σ H1 ⟨x4, x5, rfl, rfl⟩
      rw [List.length_map, List.take_length]
      exact ⟨_, rfl, q⟩
def sp_margins (C : Addr) : Sp := fun vs H Q _ => ∃ (p o u : Addr) (zs : List Str) (rows : List (Bal × Int)), vs = [.ref p] ∧ PollOk C H p o u zs rows ∧
  ∀ (D : Addr) (H' : Hp), Same H H' → H D = none → H' D = some (.dT (tab2 zs (marg rows) zs)) → Q (.ref D) H'
theorem ok_margins (T : Txt K mg) : FnOk P w K mg base CX0 4 T.f_margins T.fd_margins ["poll"] (sp_margins T.C_Poll) := by
  refine T.F_margins.ok sc_margins (fun vs H Q E h => ?_) (fun cdv A outer s H vs Q E hr h => ?_)
  · obtain ⟨p, o, u, zs, rows, rfl, _⟩ := h
    rfl
  · obtain ⟨p, o, u, zs, rows, rfl, pk, q⟩ := h
    refine ⟨_, (pss_cons
 (ps_set (i := 1) sc_margins.nd rfl (Or.inr rfl) (pe_call (ok_ranked T) (hr.mono (by decide)) (by rfl) T.g_ranked T.F_ranked.kp T.b_ranked .nil pass0 (pa_cons (pv 0) pa_nil)))
 (pss_one
 (ps_ret (pe_dc2 (own := [("one", 2), ("other", 3)]) (vs1 := [3]) (e0 := .dT []) (g := gName 2) (g1 := gName 3) (tt := tYes) (.inr rfl) (hu_of hr) rfl sc_margins.nd (pi_tup (pe_fld (pv 0) rfl)) (blkOk_by (own := [("one", 2), ("other", 3)]) (N := ["poll", "rows", "one", "other"]) (sc := (defScope s_margins)) (by decide +kernel)) (by decide) (fun _ _ _ _ _ => pg_name (i := 2) sc_margins.nd rfl (Or.inl rfl)) (fun _ _ _ _ _ => pts_nil) (fun s0 H0 C0 cl0 fp0 => (by have h := ((pi_tup (pe_fld (pv 0) rfl)) : PI ((cxOf CX0 P w K mg base ["poll", "rows", "one", "other"] "margins" (defScope s_margins) T.f_margins cdv A outer s H E).nox.blk s0 H0 (lcScope (rootE ((defBody s_margins).getD 1 (.Pass ⟨0, 0, 0, 0⟩)))) (compEnvC (lcScope (rootE ((defBody s_margins).getD 1 (.Pass ⟨0, 0, 0, 0⟩)))) cl0 C0 (cxOf CX0 P w K mg base ["poll", "rows", "one", "other"] "margins" (defScope s_margins) T.f_margins cdv A outer s H E).nox.env) fp0) (lcG (rootE ((defBody s_margins).getD 1 (.Pass ⟨0, 0, 0, 0⟩))) 1).target (lcG (rootE ((defBody s_margins).getD 1 (.Pass ⟨0, 0, 0, 0⟩))) 1).iter _); dsimp only [Cx.blk, Cx.tr, Cx.suite, Cx.nox, Cx.wish, cxOf] at h; exact h)) (fun _ _ _ _ _ => pg_name (i := 3) sc_margins.nd rfl (Or.inl rfl)) (fun _ _ _ _ _ => (pts_one (pt_cmpR op_ne (pv 2) (pv 3) (nomark _)))) (fun _ _ _ _ _ => (pe_tup (pa_cons (pv 2) (pa_cons (pv 3) pa_nil)))) (fun _ _ _ _ _ => (pe_call (ok_margin_by T) (hr.mono (by decide)) (by rfl) T.g_margin_by T.F_margin_by.kp T.b_margin_by .nil pass0 (pa_cons (pv 1) (pa_cons (pv 2) (pa_cons (pv 3) pa_nil))))))))), ?_⟩
    refine ⟨.ref p, rfl, p, o, u, zs, rows, rfl, pk, fun l qs H1 s1 rk m1 => ?_⟩
    have pk1 := pk.same s1
    have few := pk.ok.few
    have nd := pk.ok.nodup
    obtain ⟨dx, hp⟩ := pk1.poll
    have ho := pk1.opts
    refine ⟨.ref p, rfl, p, T.C_Poll, dx, _, .ref o, rfl, hp, T.cl_Poll, T.n_Poll_options, pollF_options o u, o, rfl, ⟨_, .of ho⟩, fun D nD => ?_⟩
    have nDH := s1.free nD
    refine dOut_tup (K := K) (a := o) (xs := zs.map V.str) (fun i H' => Same H1 H' ∧ H' D = some (.dT (tab2 zs (marg rows) (zs.take i)))) ⟨same_upd nD, upd_same⟩ (fun _ _ h => .of (h.1 _ _ ho)) ?_ ?_
    · rintro i x H2 hi ⟨s2, e2⟩
      obtain ⟨y, hy, rfl⟩ := item_map hi
      have hy' := List.mem_of_getElem? hy
      refine ⟨rfl, .ref p, rfl, p, T.C_Poll, dx, _, .ref o, rfl, s2 _ _ hp, T.cl_Poll, T.n_Poll_options, pollF_options o u, o, rfl, ⟨_, .of (s2 _ _ ho)⟩, ?_⟩
      refine dIn_tup (K := K) (b := o) (ys := zs.map V.str) (fun j H' => Same H1 H' ∧ H' D = some (.dT (tab2 zs (marg rows) (zs.take i) ++ row2 (marg rows) y (zs.take j)))) ⟨s2, ?_⟩ (fun _ _ h => .of (h.1 _ _ ho)) ?_ ?_
      · rw [e2]
        exact congrArg (fun l => some (HO.dT l)) (List.append_nil _).symm
      · rintro j x H3 hj ⟨s3, e3⟩
        obtain ⟨z, hz, rfl⟩ := item_map hj
        have hz' := List.mem_of_getElem? hz
        refine ⟨rfl, .str y, rfl, .str z, rfl, rfl, _, rfl, ite2 (fun e => ?_) (fun e => ?_)⟩
        · have ne : y ≠ z := fun h => by subst h; simp at e
          refine ⟨.str y, rfl, .str z, rfl, line_of (show 2 ≤ 1000 by decide), fun t nt => ?_⟩
          have s4 := same_upd (o := HO.tup [V.str y, V.str z]) nt
          refine ⟨.ref l, rfl, .str y, rfl, .str z, rfl, l, zs, qs, y, z, rfl, (rk.same s3).same s4, hy', hz', _, DPut.t (k := [.inr y, .inr z]) (s4 _ _ e3) upd_same ?_, same_mut (s3.trans s4) nD, ?_⟩
          · have a1 := tab2_len (marg rows) zs (zs.take i)
            have a2 : (row2 (marg rows) y (zs.take j)).length ≤ zs.length := by
              unfold row2
              rw [List.length_map]
              exact Nat.le_trans (List.length_filter_le _ _) (by rw [List.length_take]; omega)
            have a3 : (zs.take i).length * zs.length ≤ 6 * 6 := Nat.mul_le_mul (by rw [List.length_take]; omega) few
            rw [List.length_append]
            exact small1000 (by omega)
          · rw [upd_same, m1, row2_new nd hy hz ne]
        · have ne : ¬ y ≠ z := fun h => e (by simp [h])
          refine ⟨s3, ?_⟩
          rw [row2_skip hz ne]
          exact e3
      · rintro H3 ⟨s3, e3⟩
        rw [List.length_map, List.take_length] at e3
        refine ⟨s3, ?_⟩
        rw [tab2_more hy]
        exact e3
    · rintro H2 ⟨s2, e2⟩
      rw [List.length_map, List.take_length] at e2
      exact q D H2 (s1.trans s2) nDH e2
end
section
variable {P : Program} {w : World} {K : PySem.W.Frag} {mg : Str → Option Value} {base : Heap}
/-! ### tiers -/
theorem Tiers.same {H H' : Hp} {bs : List (Addr × List Str)} (s : Same H H') (h : Tiers H bs) : Tiers H' bs := fun b hb => ⟨s _ _ (h b hb).1, (h b hb).2⟩
theorem Tiers.add {H : Hp} {bs : List (Addr × List Str)} {b : Addr × List Str} (h : Tiers H bs) (e : H b.1 = some (.tup (b.2.map V.str))) (n : b.2 ≠ []) : Tiers H (bs ++ [b]) := fun c hc => by
  rcases List.mem_append.mp hc with hc | hc
  · exact h c hc
  · rw [List.mem_singleton.mp hc]
    exact ⟨e, n⟩
theorem cut_take {zs : List Str} {f : Str → Int} {ls : List Int} {i : Nat} {k : Int} (h : ls[i]? = some k) : cutBy zs f (ls.take (i + 1)) = cutBy zs f (ls.take i) ++ [zs.filter fun z => decide (f z = k)] := by
  rw [take_more h]
  unfold cutBy
  rw [List.map_append]
  rfl
theorem filter_take {zs : List Str} {f : Str → Bool} {j : Nat} {z : Str} (h : zs[j]? = some z) : (zs.take (j + 1)).filter f = (zs.take j).filter f ++ if f z = true then [z] else [] := by
  rw [take_more h, List.filter_append]
  refine congrArg _ ?_
  cases e : f z with
  | true => rw [if_pos rfl, List.filter_cons_of_pos e] <;> rfl
  | false => rw [if_neg Bool.false_ne_true, List.filter_cons_of_neg (by rw [e]; exact Bool.false_ne_true)] <;> rfl
def sp_tiers : Sp := fun vs H Q _ => ∃ (o t : Addr) (zs : List Str) (b : Bal), vs = [.ref o, .ref t] ∧ H o = some (.tup (zs.map V.str)) ∧ BalAt H t b ∧ b.Ok zs ∧ zs.Nodup ∧ zs.length ≤ 6 ∧
  ∀ (u : Addr) (bs : List (Addr × List Str)) (ls : List Int) (H' : Hp), Lev zs b.rk ls → Same H H' → H' u = some (.tup (bs.map fun b => V.ref b.1)) → Tiers H' bs → bs.map (·.2) = cutBy zs b.rk ls → Q (.ref u) H'
theorem ok_tiers (T : Txt K mg) : FnOk P w K mg base CX0 3 T.f_tiers T.fd_tiers ["options", "ballot"] sp_tiers := by
  refine T.F_tiers.ok sc_tiers (fun vs H Q E h => ?_) (fun cdv A outer s H vs Q E hr h => ?_)
  · obtain ⟨o, t, zs, b, rfl, _⟩ := h
    rfl
  · obtain ⟨o, t, zs, b, rfl, ho, hb, bok, nd, lz, q⟩ := h
    refine ⟨_, (pss_cons
 (ps_set (i := 2) sc_tiers.nd rfl (Or.inr rfl) (pe_call (ok_ranks T) (hr.mono (by decide)) (by rfl) T.g_ranks T.F_ranks.kp T.b_ranks .nil pass0 (pa_cons (pv 0) (pa_cons (pv 1) pa_nil))))
 (pss_cons
 (ps_set (i := 3) sc_tiers.nd rfl (Or.inl rfl) (pe_callB (cr_sortedSet rfl) (by rfl) T.z_sorted (by decide +kernel) (pa_cons (pe_callTy (cr_setL (w := w) rfl rfl) (by rfl) T.z_set (by decide +kernel) (pa_cons (pe_listVals rfl (pv 2) (by rfl) T.z_list (by decide +kernel)) pa_nil)) pa_nil)))
 (pss_one
 (ps_ret (pe_callTy call_tuple_of (by rfl) T.z_tuple (by decide +kernel) (pa_cons (pe_lc (own := [("level", 4)]) (g := gName 4) (tt := tYes) rfl sc_tiers.nd (pi_list (pv 3)) (blkOk_by (own := [("level", 4)]) (N := ["options", "ballot", "rank", "levels", "level", "name"]) (sc := (defScope s_tiers)) (by decide +kernel)) (fun _ _ _ _ _ => pg_name (i := 4) sc_tiers.nd rfl (Or.inr rfl)) (fun _ _ _ _ _ => pts_nil) (fun s0 H0 C0 cl0 fp0 => (by have h := ((pe_callTy call_tuple_of (by rfl) T.z_tuple (by decide +kernel) (pa_cons (pe_lc (own := [("name", 5)]) (g := gName 5) rfl sc_tiers.nd (pi_tup (pv 0)) (blkOk_re (blkOk_by (own := [("name", 5)]) (N := ["options", "ballot", "rank", "levels", "level", "name"]) (sc := (lcScope (subE (rootE ((defBody s_tiers).getD 2 (.Pass ⟨0, 0, 0, 0⟩))) 1))) (by decide +kernel))) (fun _ _ _ _ _ => pg_name (i := 5) sc_tiers.nd rfl (Or.inl rfl)) (fun s1 H1 C1 cl1 fp1 => (by have h := ((pts_one (pt_cmpR op_eq (pe_dget (hu_of hr) (pv 2) (pv 5) (fun _ _ => rfl)) (pv 4) (nomark _))) : PTs (((cxOf CX0 P w K mg base ["options", "ballot", "rank", "levels", "level", "name"] "tiers" (defScope s_tiers) T.f_tiers cdv A outer s H E).nox.blk s0 H0 (lcScope (subE (rootE ((defBody s_tiers).getD 2 (.Pass ⟨0, 0, 0, 0⟩))) 1)) (compEnvC (lcScope (subE (rootE ((defBody s_tiers).getD 2 (.Pass ⟨0, 0, 0, 0⟩))) 1)) cl0 C0 (cxOf CX0 P w K mg base ["options", "ballot", "rank", "levels", "level", "name"] "tiers" (defScope s_tiers) T.f_tiers cdv A outer s H E).nox.env) fp0).blk s1 H1 (lcScope (subE (subE (subE (rootE ((defBody s_tiers).getD 2 (.Pass ⟨0, 0, 0, 0⟩))) 1) 0) 1)) (compEnvC (lcScope (subE (subE (subE (rootE ((defBody s_tiers).getD 2 (.Pass ⟨0, 0, 0, 0⟩))) 1) 0) 1)) cl1 C1 ((cxOf CX0 P w K mg base ["options", "ballot", "rank", "levels", "level", "name"] "tiers" (defScope s_tiers) T.f_tiers cdv A outer s H E).nox.blk s0 H0 (lcScope (subE (rootE ((defBody s_tiers).getD 2 (.Pass ⟨0, 0, 0, 0⟩))) 1)) (compEnvC (lcScope (subE (rootE ((defBody s_tiers).getD 2 (.Pass ⟨0, 0, 0, 0⟩))) 1)) cl0 C0 (cxOf CX0 P w K mg base ["options", "ballot", "rank", "levels", "level", "name"] "tiers" (defScope s_tiers) T.f_tiers cdv A outer s H E).nox.env) fp0).env) fp1) (lcIfs (subE (subE (subE (rootE ((defBody s_tiers).getD 2 (.Pass ⟨0, 0, 0, 0⟩))) 1) 0) 1)) _); dsimp only [Cx.blk, Cx.tr, Cx.suite, Cx.nox, Cx.wish, cxOf] at h; exact h)) (fun _ _ _ _ _ => (pv 5))) pa_nil)) : PE ((cxOf CX0 P w K mg base ["options", "ballot", "rank", "levels", "level", "name"] "tiers" (defScope s_tiers) T.f_tiers cdv A outer s H E).nox.blk s0 H0 (lcScope (subE (rootE ((defBody s_tiers).getD 2 (.Pass ⟨0, 0, 0, 0⟩))) 1)) (compEnvC (lcScope (subE (rootE ((defBody s_tiers).getD 2 (.Pass ⟨0, 0, 0, 0⟩))) 1)) cl0 C0 (cxOf CX0 P w K mg base ["options", "ballot", "rank", "levels", "level", "name"] "tiers" (defScope s_tiers) T.f_tiers cdv A outer s H E).nox.env) fp0) (subE (subE (rootE ((defBody s_tiers).getD 2 (.Pass ⟨0, 0, 0, 0⟩))) 1) 0) _); dsimp only [Cx.blk, Cx.tr, Cx.suite, Cx.nox, Cx.wish, cxOf] at h; exact h))) pa_nil)))))), ?_⟩
    refine ⟨.ref o, rfl, .ref t, rfl, o, t, zs, b, rfl, ho, hb, bok, nd, lz, fun D H1 s1 nD eD => ?_⟩
    refine ⟨.ref D, rfl, D, _, rfl, eD, fun l nl => ⟨l, zs.map b.rk, rfl, .of (by rw [upd_same, tab_vals]), by rw [List.length_map]; omega, fun p c np lc => ⟨p, _, c, rfl, upd_same, by rw [List.length_map] at lc; omega, fun ls q0 rise mem len nq => ?_⟩⟩⟩
    have lev : Lev zs b.rk ls := ⟨rise, fun k => (mem k).trans (by rw [decide_eq_true_iff, List.mem_map])⟩
    have lls : ls.length ≤ 6 := by rw [List.length_map] at lc; omega
    have s2 : Same H1 (upd (upd (upd H1 l (.lst ((tab zs b.rk).map (·.2)))) p (SetO w p (fun j => decide (j ∈ zs.map b.rk)) c)) q0 (.lst (ls.map V.int))) := ((same_upd nl).trans (same_upd np)).trans (same_upd nq)
    have hq0 : (upd (upd (upd H1 l (.lst ((tab zs b.rk).map (·.2)))) p (SetO w p (fun j => decide (j ∈ zs.map b.rk)) c)) q0 (.lst (ls.map V.int))) q0 = some (.lst (ls.map V.int)) := upd_same
    generalize upd (upd (upd H1 l (.lst ((tab zs b.rk).map (·.2)))) p (SetO w p (fun j => decide (j ∈ zs.map b.rk)) c)) q0 (.lst (ls.map V.int)) = H2 at s2 hq0
    have eD2 := s2 _ _ eD
    have ho2 := s2 _ _ (s1 _ _ ho)
    refine ⟨.ref q0, rfl, q0, rfl, ⟨_, .of hq0⟩, fun D1 nD1 => ?_⟩
    refine lc_list (K := K) (a := q0) (xs := ls.map V.int) (fun i H' => ∃ bs : List (Addr × List Str), Same H2 H' ∧ H' D1 = some (.lst (bs.map fun b => V.ref b.1)) ∧ Tiers H' bs ∧ bs.map (·.2) = cutBy zs b.rk (ls.take i))
      ⟨[], same_upd nD1, upd_same, fun _ h => (by cases h), rfl⟩ (fun _ _ _ ⟨_, h, _⟩ => .of (h _ _ hq0)) ?_ ?_
    · rintro i x H3 hi ⟨bs, s3, e3, t3, m3⟩
      obtain ⟨k, hk, rfl⟩ := item_map hi
      have il : i < ls.length := (List.getElem?_eq_some_iff.mp hk).1
      have lbs : bs.length ≤ 6 := by
        have := congrArg List.length m3
        unfold cutBy at this
        rw [List.length_map, List.length_map, List.length_take] at this
        omega
      refine ⟨rfl, .ref o, rfl, o, rfl, ⟨_, .of (s3 _ _ ho2)⟩, fun D2 nD2 => ?_⟩
      have ne12 : D1 ≠ D2 := ne_of_none e3 nD2
      refine lc_tup (K := K) (a := o) (xs := zs.map V.str) (fun j H' => Same H3 H' ∧ H' D2 = some (.lst (((zs.take j).filter fun z => decide (b.rk z = k)).map V.str))) ⟨same_upd nD2, upd_same⟩ (fun _ _ _ h => .of (h.1 _ _ (s3 _ _ ho2))) ?_ ?_
      · rintro j x H4 hj ⟨s4, e4⟩
        obtain ⟨z, hz, rfl⟩ := item_map hj
        have got : DGet H4 D (.str z) (some (.int (b.rk z))) := by
          have := DGet.k (k := .inr z) (s4 _ _ (s3 _ _ eD2))
          rw [tab_val, if_pos (List.mem_of_getElem? hz)] at this
          exact this
        have small : (((zs.take j).filter fun z => decide (b.rk z = k)).map V.str).length < sizeLine := by
          rw [List.length_map]
          have := List.length_filter_le (fun z => decide (b.rk z = k)) (zs.take j)
          rw [List.length_take] at this
          exact small1000 (by omega)
        refine ⟨rfl, .ref D, rfl, .str z, rfl, D, _, rfl, got, .int k, rfl, rfl, _, rfl, ?_⟩
        have eb : decide (V.int (b.rk z) = V.int k) = decide (b.rk z = k) := decide_eq_decide.mpr ⟨fun h => V.int.inj h, fun h => by rw [h]⟩
        rw [eb]
        have ft := filter_take (f := fun z => decide (b.rk z = k)) hz
        cases ec : decide (b.rk z = k) with
        | true =>
          rw [if_pos ec] at ft
          refine iteT ⟨.str z, rfl, _, e4, small, same_mut s4 nD2, ?_⟩
          rw [upd_same, ft, List.map_append]
          rfl
        | false =>
          rw [if_neg (by rw [ec]; exact Bool.false_ne_true), List.append_nil] at ft
          refine iteF ⟨s4, ?_⟩
          rw [ft]
          exact e4
      · rintro H4 ⟨s4, e4⟩
        rw [List.length_map, List.take_length] at e4
        refine ⟨D2, _, rfl, .inl ⟨.of e4, fun u nu => ?_⟩⟩
        have s5 := s4.trans (same_upd (o := HO.tup ((zs.filter fun z => decide (b.rk z = k)).map V.str)) nu)
        have eu : (upd H4 u (.tup ((zs.filter fun z => decide (b.rk z = k)).map V.str))) u = some (.tup ((zs.filter fun z => decide (b.rk z = k)).map V.str)) := upd_same
        generalize upd H4 u (.tup ((zs.filter fun z => decide (b.rk z = k)).map V.str)) = H5 at s5 eu
        have e5 := s5 _ _ e3
        have nD1' : H2 D1 = none := nD1
        have uD : u ≠ D1 := fun e => by rw [e, e5] at eu; cases eu
        refine ⟨_, e5, small1000 (by rw [List.length_map]; omega), bs ++ [(u, zs.filter fun z => decide (b.rk z = k))], same_mut (s3.trans s5) nD1, ?_, ?_, ?_⟩
        · rw [upd_same, List.map_append]
          rfl
        · have tt := (t3.same s5).add (b := (u, zs.filter fun z => decide (b.rk z = k))) eu (cut_ne lev _ (List.mem_map.mpr ⟨k, List.mem_of_getElem? hk, rfl⟩))
          refine fun c hc => ⟨?_, (tt c hc).2⟩
          rw [upd_ne fun e => ?_]
          · exact (tt c hc).1
          · have := (tt c hc).1
            rw [e, e5] at this
            cases this
        · rw [List.map_append, m3, cut_take hk]
          rfl
    · rintro H3 ⟨bs, s3, e3, t3, m3⟩
      rw [List.length_map, List.take_length] at m3
      refine ⟨D1, _, rfl, .inl ⟨.of e3, fun u nu => ?_⟩⟩
      exact q u bs ls _ lev (s1.trans (s2.trans (s3.trans (same_upd nu)))) upd_same (t3.same (same_upd nu)) m3
/-! ### who is ahead -/
end
section
variable {P : Program} {w : World} {K : PySem.W.Frag} {mg : Str → Option Value} {base : Heap}
def sp_others_than (C : Addr) : Sp := fun vs H Q _ => ∃ (p o u : Addr) (zs : List Str) (rows : List (Bal × Int)) (y : Str), vs = [.ref p, .str y] ∧ PollOk C H p o u zs rows ∧
  ∀ (L : Addr) (H' : Hp), Same H H' → H L = none → H' L = some (.lst ((zs.filter fun z => decide (z ≠ y)).map V.str)) → Q (.ref L) H'
theorem ok_others_than (T : Txt K mg) : FnOk P w K mg base CX0 1 T.f_others_than T.fd_others_than ["poll", "one"] (sp_others_than T.C_Poll) := by
  refine T.F_others_than.ok sc_others_than (fun vs H Q E h => ?_) (fun cdv A outer s H vs Q E hr h => ?_)
  · obtain ⟨p, o, u, zs, rows, y, rfl, _⟩ := h
    rfl
  · obtain ⟨p, o, u, zs, rows, y, rfl, pk, q⟩ := h
    refine ⟨_, (pss_one
 (ps_ret (pe_lc (own := [("other", 2)]) (g := gName 2) rfl sc_others_than.nd (pi_tup (pe_fld (pv 0) rfl)) (blkOk_by (own := [("other", 2)]) (N := ["poll", "one", "other"]) (sc := (defScope s_others_than)) (by decide +kernel)) (fun _ _ _ _ _ => pg_name (i := 2) sc_others_than.nd rfl (Or.inl rfl)) (fun _ _ _ _ _ => (pts_one (pt_cmpR op_ne (pv 2) (pv 1) (nomark _)))) (fun _ _ _ _ _ => (pv 2))))), ?_⟩
    obtain ⟨dx, hp⟩ := pk.poll
    have ho := pk.opts
    have few := pk.ok.few
    refine ⟨.ref p, rfl, p, T.C_Poll, dx, _, .ref o, rfl, hp, T.cl_Poll, T.n_Poll_options, pollF_options o u, o, rfl, ⟨_, .of ho⟩, fun D nD => ?_⟩
    refine lc_tup (K := K) (a := o) (xs := zs.map V.str) (fun i H' => Same H H' ∧ H' D = some (.lst (((zs.take i).filter fun z => decide (z ≠ y)).map V.str))) ⟨same_upd nD, upd_same⟩ (fun _ _ _ h => .of (h.1 _ _ ho)) ?_ ?_
    · rintro i x H1 hi ⟨s1, e1⟩
      obtain ⟨z, hz, rfl⟩ := item_map hi
      have ft := filter_take (f := fun z => decide (z ≠ y)) hz
      refine ⟨rfl, .str z, rfl, .str y, rfl, rfl, _, rfl, ?_⟩
      by_cases c : z = y
      · rw [decide_eq_true (congrArg V.str c)]
        rw [if_neg (by rw [decide_eq_false fun h => h c]; exact Bool.false_ne_true), List.append_nil] at ft
        refine iteF ⟨s1, ?_⟩
        rw [ft]
        exact e1
      · rw [decide_eq_false fun h => c (V.str.inj h)]
        rw [if_pos (decide_eq_true c)] at ft
        refine iteT ⟨.str z, rfl, _, e1, ?_, same_mut s1 nD, ?_⟩
        · rw [List.length_map]
          have := List.length_filter_le (fun z => decide (z ≠ y)) (zs.take i)
          rw [List.length_take] at this
          exact small1000 (by omega)
        · rw [upd_same, ft, List.map_append]
          rfl
    · rintro H1 ⟨s1, e1⟩
      rw [List.length_map, List.take_length] at e1
      exact q D H1 s1 nD e1
end
/-! ### ways found, and the top lot -/
abbrev Found := Str × Addr × List Str
def wkv (fs : List Found) : List (Key × V) := fs.map fun e => (.inr e.1, .ref e.2.1)
def keysF (fs : List Found) : List Str := fs.map (·.1)
structure FOk (H : Hp) (f : Str → Str → Int) (zs : List Str) (s : Str) (fs : List Found) : Prop where
  ways : ∀ e ∈ fs, H e.2.1 = some (.tup (e.2.2.map V.str)) ∧ WayTo f zs s e.1 e.2.2
  nodup : (keysF fs).Nodup
  within : ∀ e ∈ fs, ∀ x ∈ e.2.2, x ∈ keysF fs
  start : s ∈ keysF fs
theorem FOk.sub {H : Hp} {f : Str → Str → Int} {zs : List Str} {s : Str} {fs : List Found} (h : FOk H f zs s fs) : ∀ x ∈ keysF fs, x ∈ zs := fun x hx => by
  obtain ⟨e, he, rfl⟩ := List.mem_map.mp hx
  exact (h.ways e he).2.in
theorem FOk.len {H : Hp} {f : Str → Str → Int} {zs : List Str} {s : Str} {fs : List Found} (h : FOk H f zs s fs) : fs.length ≤ zs.length := by
  have := nodup_le h.nodup h.sub
  unfold keysF at this
  rw [List.length_map] at this
  exact this
theorem FOk.keep {H H' : Hp} {f : Str → Str → Int} {zs : List Str} {s : Str} {fs : List Found} (k : ∀ a xs, H a = some (.tup xs) → H' a = some (.tup xs)) (h : FOk H f zs s fs) : FOk H' f zs s fs := ⟨fun e he => ⟨k _ _ (h.ways e he).1, (h.ways e he).2⟩, h.nodup, h.within, h.start⟩
theorem wkv_in {fs : List Found} {e : Found} (nd : (keysF fs).Nodup) (h : e ∈ fs) : valV (wkv fs) (.inr e.1) = some (.ref e.2.1) := by
  refine val_some (List.mem_map.mpr ⟨e, h, rfl⟩) fun kv hk ek => ?_
  obtain ⟨e', he', rfl⟩ := List.mem_map.mp hk
  have : e' = e := by
    refine Classical.byContradiction fun ne => ?_
    have pw := List.pairwise_map.mp nd
    rcases pairwise_two pw he' h ne with z | z
    · exact z (Sum.inr.inj ek)
    · exact z (Sum.inr.inj ek).symm
  rw [this]
theorem wkv_out {fs : List Found} {x : Str} (h : x ∉ keysF fs) : valV (wkv fs) (.inr x) = none := val_none fun kv hk ek => by
  obtain ⟨e, he, rfl⟩ := List.mem_map.mp hk
  exact h (List.mem_map.mpr ⟨e, he, Sum.inr.inj ek⟩)
theorem wkv_new {fs : List Found} {x : Str} {a : Addr} {w : List Str} (h : x ∉ keysF fs) : putK (wkv fs) (.inr x) (.ref a) = wkv (fs ++ [(x, a, w)]) := by
  rw [putK_new _ (wkv_out h)]
  unfold wkv
  rw [List.map_append]
  rfl
def leftU (D L : Addr) (n : Nat) (_ : L2.St) (H : Hp) : Nat := match H L, H D with
  | some (.lst xs), some (.dK kvs) => xs.length + (n - kvs.length)
  | _, _ => 0
section
variable {P : Program} {w : World} {K : PySem.W.Frag} {mg : Str → Option Value} {base : Heap}
def sp_unlost (C : Addr) : Sp := fun vs H Q _ => ∃ (p o u M : Addr) (zs : List Str) (rows : List (Bal × Int)) (f : Str → Str → Int) (s : Str), vs = [.ref p, .ref M, .str s] ∧ PollOk C H p o u zs rows ∧ H M = some (.dT (tab2 zs f zs)) ∧ s ∈ zs ∧
  ∀ (D : Addr) (fs : List Found) (H' : Hp), Same H H' → H D = none → H' D = some (.dK (wkv fs)) → FOk H' f zs s fs → (∀ x ∈ keysF fs, ∀ y ∈ zs, 0 ≤ f x y → y ∈ keysF fs) → Q (.ref D) H'
theorem ok_unlost_ways (T : Txt K mg) : FnOk P w K mg base CX0 1 T.f_unlost_ways T.fd_unlost_ways ["poll", "held", "start"] (sp_unlost T.C_Poll) := by
  refine T.F_unlost_ways.ok sc_unlost_ways (fun vs H Q E h => ?_) (fun cdv A outer s H vs Q E hr h => ?_)
  · obtain ⟨p, o, u, M, zs, rows, f, s, rfl, _⟩ := h
    rfl
  · obtain ⟨p, o, u, M, zs, rows, f, s, rfl, pk, hM, hs, q⟩ := h
    refine ⟨_, (pss_cons
 (ps_set (i := 3) sc_unlost_ways.nd rfl (Or.inl rfl) (pe_disp (pps_cons (pv 2) (pe_tup (pa_cons (pv 2) pa_nil)) pps_nil) rfl rfl (by simp) (by decide)))
 (pss_cons
 (ps_set (i := 4) sc_unlost_ways.nd rfl (Or.inl rfl) (pe_lst (pa_cons (pv 2) pa_nil)))
 (pss_cons
 (ps_while PassesOwn.never (pt_truth (pv 4) (by intro _; rfl))
 (pss_cons
 (ps_set (i := 5) sc_unlost_ways.nd rfl (Or.inl rfl) (pe_bm PySem.F.plainAttrs_list PySem.F.slot_list_pop PySem.F.type_list_pop mt_popAt (pv 4) (pa_cons pe_int pa_nil)))
 (pss_one
 (ps_for PassesOwn.never rfl (pi_tup (pe_fld (pv 0) rfl)) (pg_name (i := 6) sc_unlost_ways.nd rfl (Or.inl rfl))
 (pss_one
 (ps_if (PW.pt (pw_and (pt_cmp (pc_dnotin (hu_of hr) (pv 6) (pv 3))) (pw_and1 (pt_cmpR op_ge (pe_dget (hu_of hr) (pv 1) (pe_tup (pa_cons (pv 5) (pa_cons (pv 6) pa_nil))) (fun _ _ => rfl)) pe_int (nomark _)))))
 (pss_cons
 (ps_dput (hu_of hr) (pv 3) (pv 6) (pe_op op_catA (pe_dget (hu_of hr) (pv 3) (pv 5) (fun _ _ => rfl)) (pe_tup (pa_cons (pv 6) pa_nil))) (by rfl))
 (pss_one
 (ps_expr (pe_bm PySem.F.plainAttrs_list PySem.F.slot_list_append PySem.F.type_list_append mt_append (pv 4) (pa_cons (pv 6) pa_nil)))))
 pss_nil))))))
 (pss_one
 (ps_ret (pv 3)))))), ?_⟩
    have few := pk.ok.few
    have nd := pk.ok.nodup
    obtain ⟨dx, hp⟩ := pk.poll
    have ho := pk.opts
    refine fun D nD => ⟨.str s, rfl, .str s, rfl, line_of (show 1 ≤ 1000 by decide), fun t nt => ?_⟩
    have Dt : D ≠ t := fun e => by rw [← e, upd_same] at nt; cases nt
    have ntH : H t = none := by rw [upd_ne Dt.symm] at nt; exact nt
    refine ⟨by rw [upd_ne Dt, upd_same], [(.inr s, .ref t)], rfl, (by show 1 ≤ 15; decide), ?_⟩
    have s1 : Same H (upd (upd (upd H D (.dK [])) t (.tup [V.str s])) D (.dK (mergeK [] [(.inr s, .ref t)]))) := same_mut (((same_upd nD).trans (same_upd nt))) nD
    have eD : (upd (upd (upd H D (.dK [])) t (.tup [V.str s])) D (.dK (mergeK [] [(.inr s, .ref t)]))) D = some (.dK (wkv [(s, t, [s])])) := upd_same
    have et : (upd (upd (upd H D (.dK [])) t (.tup [V.str s])) D (.dK (mergeK [] [(.inr s, .ref t)]))) t = some (.tup [V.str s]) := by rw [upd_ne Dt.symm, upd_same]
    generalize upd (upd (upd H D (.dK [])) t (.tup [V.str s])) D (.dK (mergeK [] [(.inr s, .ref t)])) = H1 at s1 eD et ⊢
    refine ⟨.str s, rfl, line_of (show 1 ≤ 1000 by decide), fun L nL => ?_⟩
    have nLH := s1.free nL
    have LD : L ≠ D := fun e => by rw [e, eD] at nL; cases nL
    have s2 := same_upd (o := HO.lst [V.str s]) nL
    have pos : 0 < zs.length := List.length_pos_iff.mpr pk.ok.some
    dsimp only [gName, tSeq]
    show tWhile _ _ _ [some (.ref p), some (.ref M), some (.str s), some (.ref D), some (.ref L), none, none] (upd H1 L (.lst [.str s]))
    refine while_by (fun σ H' => ∃ (x5 x6 : Option V) (fs : List Found) (k : Nat), σ = [some (.ref p), some (.ref M), some (.str s), some (.ref D), some (.ref L), x5, x6] ∧ Same H H' ∧ H' D = some (.dK (wkv fs)) ∧ H' L = some (.lst (((keysF fs).drop k).map V.str)) ∧ FOk H' f zs s fs ∧ k ≤ fs.length ∧
        ∀ x ∈ (keysF fs).take k, ∀ y ∈ zs, 0 ≤ f x y → y ∈ keysF fs) (leftU D L zs.length)
      ⟨none, none, [(s, t, [s])], 0, rfl, s1.trans s2, s2 _ _ eD, upd_same, ⟨fun e he => ?_, by simp [keysF], fun e he x hx => ?_, by simp [keysF]⟩, Nat.zero_le _, fun x hx => (by cases hx)⟩ ?_ (fun σ H Q Q' imp h => by
        obtain ⟨v, h1, k, h2, h3⟩ := h
        exact ⟨v, h1, k, h2, imp _ _ h3⟩)
    · rw [List.mem_singleton.mp he]
      exact ⟨s2 _ _ et, .start hs⟩
    · rw [List.mem_singleton.mp he] at hx
      exact hx
    · rintro σ H2 ⟨x5, x6, fs, k, rfl, g2, eD, eL, ok, kl, cl⟩
      have lens := ok.len
      have lk : (keysF fs).length = fs.length := List.length_map ..
      refine ⟨.ref L, rfl, !(((keysF fs).drop k).map V.str).isEmpty, .inl ⟨_, .of eL, rfl⟩, ?_⟩
      by_cases hk : k < fs.length
      · obtain ⟨e0, he0⟩ : ∃ e0, fs[k]? = some e0 := ⟨fs[k], List.getElem?_eq_getElem hk⟩
        have kk : (keysF fs)[k]? = some e0.1 := by unfold keysF; rw [List.getElem?_map, he0]; rfl
        have m0 := List.mem_of_getElem? he0
        have dk : (keysF fs).drop k = e0.1 :: (keysF fs).drop (k + 1) := by
          rw [List.drop_eq_getElem_cons (by omega)]
          refine congrArg (· :: _) ?_
          exact Option.some.inj ((List.getElem?_eq_getElem (by omega)).symm.trans kk)
        rw [dk] at eL ⊢
        refine iteT ?_
        refine ⟨.ref L, rfl, .inl ⟨rfl, _, .of eL⟩, L, _, 0, 0, .str e0.1, rfl, rfl, eL, by decide, by decide, seqIndex_of (by decide) (by rw [List.length_map, List.length_cons]; omega), rfl, ?_⟩
        have g3 : Same H (upd H2 L (.lst (((e0.1 :: (keysF fs).drop (k + 1)).map V.str).eraseIdx 0))) := same_mut g2 nLH
        have eD3 : (upd H2 L (.lst (((e0.1 :: (keysF fs).drop (k + 1)).map V.str).eraseIdx 0))) D = some (.dK (wkv fs)) := by rw [upd_ne LD.symm]; exact eD
        have eL3 : (upd H2 L (.lst (((e0.1 :: (keysF fs).drop (k + 1)).map V.str).eraseIdx 0))) L = some (.lst (((keysF fs).drop (k + 1)).map V.str)) := upd_same
        have ok3 := ok.keep (H' := upd H2 L (.lst (((e0.1 :: (keysF fs).drop (k + 1)).map V.str).eraseIdx 0))) fun a xs h => by
          rw [upd_ne (fun e => by rw [e, eL] at h; cases h)]
          exact h
        have mu : leftU D L zs.length [some (.ref p), some (.ref M), some (.str s), some (.ref D), some (.ref L), x5, x6] H2 = (fs.length - k) + (zs.length - fs.length) := by
          unfold leftU
          rw [eL, eD]
          show ((e0.1 :: (keysF fs).drop (k + 1)).map V.str).length + (zs.length - (wkv fs).length) = _
          unfold wkv
          rw [← dk, List.length_map, List.length_drop, List.length_map, lk]
        generalize upd H2 L (.lst (((e0.1 :: (keysF fs).drop (k + 1)).map V.str).eraseIdx 0)) = H3 at g3 eD3 eL3 ok3 ⊢
        refine ⟨.ref p, rfl, p, T.C_Poll, dx, _, .ref o, rfl, g3 _ _ hp, T.cl_Poll, T.n_Poll_options, pollF_options o u, o, rfl, ⟨_, .of (g3 _ _ ho)⟩, for_tup (K := K) (a := o) (xs := zs.map V.str) (fun j σ H' => ∃ (x6 : Option V) (more : List Found),
            σ = [some (.ref p), some (.ref M), some (.str s), some (.ref D), some (.ref L), some (.str e0.1), x6] ∧ Same H H' ∧ H' D = some (.dK (wkv (fs ++ more))) ∧ H' L = some (.lst (((keysF (fs ++ more)).drop (k + 1)).map V.str)) ∧ FOk H' f zs s (fs ++ more) ∧
            ∀ y ∈ zs.take j, 0 ≤ f e0.1 y → y ∈ keysF (fs ++ more))
          ⟨x6, [], rfl, g3, by rw [List.append_nil]; exact eD3, by rw [List.append_nil]; exact eL3, by rw [List.append_nil]; exact ok3, fun y hy => (by cases hy)⟩ (fun _ _ _ _ ⟨_, _, _, h, _⟩ => .of (h _ _ ho)) ?_ ?_⟩
        · rintro j x σ H4 hj ⟨x6, more, rfl, g4, eD4, eL4, ok4, cl4⟩
          obtain ⟨z, hz, rfl⟩ := item_map hj
          have mz := List.mem_of_getElem? hz
          have len4 := ok4.len
          have inside : e0 ∈ fs ++ more := List.mem_append_left _ m0
          have next : ∀ {fm : List Found}, (∀ y ∈ zs.take j, 0 ≤ f e0.1 y → y ∈ keysF fm) → (0 ≤ f e0.1 z → z ∈ keysF fm) → ∀ y ∈ zs.take (j + 1), 0 ≤ f e0.1 y → y ∈ keysF fm := fun {fm} h1 h2 y hy e => by
            rw [take_more hz] at hy
            rcases List.mem_append.mp hy with hy | hy
            · exact h1 y hy e
            · rw [List.mem_singleton.mp hy] at e ⊢
              exact h2 e
          refine ⟨.str z, rfl, .ref D, rfl, D, _, rfl, DGet.k (k := .inr z) eD4, _, rfl, ?_⟩
          by_cases c : z ∈ keysF (fs ++ more)
          · obtain ⟨e', he', ee⟩ := List.mem_map.mp c
            have v := wkv_in ok4.nodup he'
            rw [ee] at v
            rw [v]
            exact iteF (iteF ⟨_, more, rfl, g4, eD4, eL4, ok4, next cl4 fun _ => c⟩)
          · rw [wkv_out c]
            refine iteT ?_
            refine ⟨.ref M, rfl, .str e0.1, rfl, .str z, rfl, line_of (show 2 ≤ 1000 by decide), fun t5 nt5 => ?_⟩
            have s5 := same_upd (o := HO.tup [V.str e0.1, V.str z]) nt5
            have e5 : (upd H4 t5 (.tup [V.str e0.1, V.str z])) t5 = some (.tup [V.str e0.1, V.str z]) := upd_same
            generalize upd H4 t5 (.tup [V.str e0.1, V.str z]) = H5 at s5 e5 ⊢
            have g5 := g4.trans s5
            have ne : e0.1 ≠ z := fun e => c (by rw [← e]; exact List.mem_map.mpr ⟨e0, inside, rfl⟩)
            have got : DGet H5 M (.ref t5) (some (.int (f e0.1 z))) := by
              have := DGet.t (k := [.inr e0.1, .inr z]) (g5 _ _ hM) e5
              rw [tab2_val (ok4.sub e0.1 (List.mem_map.mpr ⟨e0, inside, rfl⟩)) mz ne] at this
              exact this
            have ok5 := ok4.keep fun a xs h => s5 _ _ h
            have eD5 := s5 _ _ eD4
            have eL5 := s5 _ _ eL4
            refine ⟨M, _, rfl, got, _, _, rfl, rfl, _, rfl, ite2 (fun e => ?_) (fun e => ?_)⟩
            · have le : 0 ≤ f e0.1 z := of_decide_eq_true e
              obtain ⟨w1, w2⟩ := ok5.ways e0 inside
              have gotW : DGet H5 D (.str e0.1) (some (.ref e0.2.1)) := by
                have := DGet.k (k := .inr e0.1) eD5
                rw [wkv_in ok5.nodup inside] at this
                exact this
              refine ⟨.ref D, rfl, .str e0.1, rfl, D, _, rfl, gotW, .str z, rfl, line_of (show 1 ≤ 1000 by decide), fun t6 nt6 => ?_⟩
              have s6 := same_upd (o := HO.tup [V.str z]) nt6
              have le6 : e0.2.2.length ≤ 6 := by
                have := WayTo.len w2
                omega
              refine catA_of (s6 _ _ w1) upd_same (line_of (by rw [List.length_map]; show _ + 1 ≤ 1000; omega)) fun t7 H7 e7 s7 => ?_
              have s57 := s6.trans s7
              have eD7 := s57 _ _ eD5
              have eL7 := s57 _ _ eL5
              have ok7 := ok5.keep fun a xs h => s57 _ _ h
              have g7 := g5.trans s57
              have e7' : H7 t7 = some (.tup ((e0.2.2 ++ [z]).map V.str)) := by rw [e7, List.map_append]; rfl
              have t7D : t7 ≠ D := fun e => by rw [e, eD7] at e7; cases e7
              have t7L : t7 ≠ L := fun e => by rw [e, eL7] at e7; cases e7
              refine ⟨.ref D, rfl, .str z, rfl, D, _, rfl, DPut.k (k := .inr z) eD7 (small1000 (by unfold wkv; rw [List.length_map]; omega)), ?_⟩
              rw [wkv_new (w := e0.2.2 ++ [z]) c]
              have eL8 : (upd H7 D (.dK (wkv (fs ++ more ++ [(z, t7, e0.2.2 ++ [z])])))) L = some (.lst (((keysF (fs ++ more)).drop (k + 1)).map V.str)) := by rw [upd_ne LD]; exact eL7
              refine ⟨.ref L, rfl, .inl ⟨rfl, _, .of eL8⟩, .str z, rfl, L, _, _, rfl, rfl, eL8, small1000 (by rw [List.length_map, List.length_drop]; unfold keysF; rw [List.length_map]; omega), ?_⟩
              have new : keysF (fs ++ (more ++ [(z, t7, e0.2.2 ++ [z])])) = keysF (fs ++ more) ++ [z] := by
                rw [← List.append_assoc]
                unfold keysF
                rw [List.map_append]
                rfl
              refine ⟨some (.str z), more ++ [(z, t7, e0.2.2 ++ [z])], rfl, same_mut (same_mut g7 nD) nLH, ?_, ?_, ⟨fun e he => ?_, ?_, fun e he x hx => ?_, ?_⟩, ?_⟩
              · rw [upd_ne LD.symm, upd_same, List.append_assoc]
              · rw [upd_same, new, List.drop_append_of_le_length (by unfold keysF; rw [List.length_map, List.length_append]; omega), List.map_append]
                rfl
              · have both : H7 e.2.1 = some (.tup (e.2.2.map V.str)) ∧ WayTo f zs s e.1 e.2.2 := by
                  rw [← List.append_assoc] at he
                  rcases List.mem_append.mp he with he | he
                  · exact ok7.ways e he
                  · rw [List.mem_singleton.mp he]
                    exact ⟨e7', w2.step mz (fun h => c (ok5.within e0 inside z h)) le⟩
                refine ⟨?_, both.2⟩
                rw [upd_ne (fun h => by rw [h, eL7] at both; cases both.1), upd_ne (fun h => by rw [h, eD7] at both; cases both.1)]
                exact both.1
              · rw [new]
                exact List.nodup_append.mpr ⟨ok7.nodup, by simp, fun a ha b hb e => by rw [List.mem_singleton.mp hb] at e; exact c (e ▸ ha)⟩
              · rw [new]
                rw [← List.append_assoc] at he
                rcases List.mem_append.mp he with he | he
                · exact List.mem_append_left _ (ok7.within e he x hx)
                · rw [List.mem_singleton.mp he] at hx
                  rcases List.mem_append.mp hx with hx | hx
                  · exact List.mem_append_left _ (ok7.within e0 inside x hx)
                  · exact List.mem_append_right _ hx
              · rw [new]
                exact List.mem_append_left _ ok7.start
              · refine next (fun y hy e => ?_) fun _ => ?_
                · rw [new]
                  exact List.mem_append_left _ (cl4 y hy e)
                · rw [new]
                  exact List.mem_append_right _ (List.mem_singleton.mpr rfl)
            · exact ⟨some (.str z), more, rfl, g5, eD5, eL5, ok5, next cl4 fun h => absurd (decide_eq_true h) e⟩
        · rintro σ H4 ⟨x6, more, rfl, g4, eD4, eL4, ok4, cl4⟩
          rw [List.length_map, List.take_length] at cl4
          have kf : keysF (fs ++ more) = keysF fs ++ keysF more := List.map_append ..
          refine ⟨⟨_, _, fs ++ more, k + 1, rfl, g4, eD4, eL4, ok4, by rw [List.length_append]; omega, fun x hx y hy e => ?_⟩, ?_⟩
          · rw [kf, List.take_append_of_le_length (by omega), take_more kk] at hx
            rcases List.mem_append.mp hx with hx | hx
            · rw [kf]
              exact List.mem_append_left _ (cl x hx y hy e)
            · rw [List.mem_singleton.mp hx] at e
              exact cl4 y hy e
          · have l4 := ok4.len
            rw [mu]
            unfold leftU
            rw [eL4, eD4]
            show (((keysF (fs ++ more)).drop (k + 1)).map V.str).length + (zs.length - (wkv (fs ++ more)).length) < _
            unfold wkv keysF
            rw [List.length_map, List.length_drop, List.length_map, List.length_map]
            rw [List.length_append] at l4 ⊢
            omega
      · have ek : k = fs.length := by omega
        have de : (keysF fs).drop k = [] := List.drop_eq_nil_iff.mpr (by omega)
        rw [de]
        refine iteF ⟨.ref D, rfl, q D fs H2 g2 nD eD ok fun x hx => cl x ?_⟩
        rw [ek, ← lk, List.take_length]
        exact hx
end
section
variable {P : Program} {w : World} {K : PySem.W.Frag} {mg : Str → Option Value} {base : Heap}
theorem full_tops {H : Hp} {f : Str → Str → Int} {zs : List Str} {s : Str} {fs : List Found} (nd : zs.Nodup) (h : FOk H f zs s fs) (cl : ∀ x ∈ keysF fs, ∀ y ∈ zs, 0 ≤ f x y → y ∈ keysF fs) : decide (fs.length = zs.length) = topB f zs s := by
  have lk : (keysF fs).length = fs.length := List.length_map ..
  have reach : ∀ y, Reach f zs s y → y ∈ keysF fs := fun y r => r.closed (S := fun x => x ∈ keysF fs) h.start fun x y hx => cl x hx y
  have back : ∀ y ∈ keysF fs, Reach f zs s y := fun y hy => by
    obtain ⟨e, he, rfl⟩ := List.mem_map.mp hy
    exact ⟨_, (h.ways e he).2⟩
  rw [← Bool.decide_coe (topB f zs s)]
  refine decide_eq_decide.mpr ⟨fun e => topB_iff.mpr fun y hy => back y ?_, fun t => ?_⟩
  · refine Classical.byContradiction fun out => ?_
    have := nodup_le (a := y :: keysF fs) (b := zs) (List.nodup_cons.mpr ⟨out, h.nodup⟩) fun x hx => (List.mem_cons.mp hx).elim (fun e => e ▸ hy) fun m => h.sub x m
    rw [List.length_cons] at this
    omega
  · have t := topB_iff.mp t
    have a := nodup_le nd fun y hy => reach y (t y hy)
    have b := h.len
    omega
def sp_top_lot (C : Addr) : Sp := fun vs H Q _ => ∃ (p o u : Addr) (zs : List Str) (rows : List (Bal × Int)), vs = [.ref p] ∧ PollOk C H p o u zs rows ∧
  ∀ (L : Addr) (H' : Hp), Same H H' → H L = none → H' L = some (.lst ((zs.filter (topB (marg rows) zs)).map V.str)) → Q (.ref L) H'
theorem ok_top_lot (T : Txt K mg) : FnOk P w K mg base CX0 5 T.f_top_lot T.fd_top_lot ["poll"] (sp_top_lot T.C_Poll) := by
  refine T.F_top_lot.ok sc_top_lot (fun vs H Q E h => ?_) (fun cdv A outer s H vs Q E hr h => ?_)
  · obtain ⟨p, o, u, zs, rows, rfl, _⟩ := h
    rfl
  · obtain ⟨p, o, u, zs, rows, rfl, pk, q⟩ := h
    refine ⟨_, (pss_cons
 (ps_set (i := 1) sc_top_lot.nd rfl (Or.inr rfl) (pe_call (ok_margins T) (hr.mono (by decide)) (by rfl) T.g_margins T.F_margins.kp T.b_margins .nil pass0 (pa_cons (pv 0) pa_nil)))
 (pss_one
 (ps_ret (pe_lc (own := [("one", 2)]) (g := gName 2) rfl sc_top_lot.nd (pi_tup (pe_fld (pv 0) rfl)) (blkOk_by (own := [("one", 2)]) (N := ["poll", "held", "one"]) (sc := (defScope s_top_lot)) (by decide +kernel)) (fun _ _ _ _ _ => pg_name (i := 2) sc_top_lot.nd rfl (Or.inl rfl)) (fun s0 H0 C0 cl0 fp0 => (by have h := ((pts_one (pt_cmpR op_eq (pe_callB call_lenD (by rfl) T.z_len (by decide +kernel) (pa_cons (pe_call (ok_unlost_ways T) (hr.mono (by decide)) (by rfl) T.g_unlost_ways T.F_unlost_ways.kp T.b_unlost_ways .nil pass0 (pa_cons (pv 0) (pa_cons (pv 1) (pa_cons (pv 2) pa_nil)))) pa_nil)) (pe_callB call_len_seq (by rfl) T.z_len (by decide +kernel) (pa_cons (pe_fld (pv 0) rfl) pa_nil)) (nomark _))) : PTs ((cxOf CX0 P w K mg base ["poll", "held", "one"] "top_lot" (defScope s_top_lot) T.f_top_lot cdv A outer s H E).nox.blk s0 H0 (lcScope (rootE ((defBody s_top_lot).getD 1 (.Pass ⟨0, 0, 0, 0⟩)))) (compEnvC (lcScope (rootE ((defBody s_top_lot).getD 1 (.Pass ⟨0, 0, 0, 0⟩)))) cl0 C0 (cxOf CX0 P w K mg base ["poll", "held", "one"] "top_lot" (defScope s_top_lot) T.f_top_lot cdv A outer s H E).nox.env) fp0) (lcIfs (rootE ((defBody s_top_lot).getD 1 (.Pass ⟨0, 0, 0, 0⟩)))) _); dsimp only [Cx.blk, Cx.tr, Cx.suite, Cx.nox, Cx.wish, cxOf] at h; exact h)) (fun _ _ _ _ _ => (pv 2)))))), ?_⟩
    refine ⟨.ref p, rfl, p, o, u, zs, rows, rfl, pk, fun M H1 s1 nM eM => ?_⟩
    have pk1 := pk.same s1
    have few := pk.ok.few
    have nd := pk.ok.nodup
    obtain ⟨dx, hp⟩ := pk1.poll
    have ho := pk1.opts
    refine ⟨.ref p, rfl, p, T.C_Poll, dx, _, .ref o, rfl, hp, T.cl_Poll, T.n_Poll_options, pollF_options o u, o, rfl, ⟨_, .of ho⟩, fun D nD => ?_⟩
    have nDH := s1.free nD
    refine lc_tup (K := K) (a := o) (xs := zs.map V.str) (fun i H' => Same H1 H' ∧ H' D = some (.lst (((zs.take i).filter (topB (marg rows) zs)).map V.str))) ⟨same_upd nD, upd_same⟩ (fun _ _ _ h => .of (h.1 _ _ ho)) ?_ ?_
    · rintro i x H2 hi ⟨s2, e2⟩
      obtain ⟨z, hz, rfl⟩ := item_map hi
      have mz := List.mem_of_getElem? hz
      refine ⟨rfl, .ref p, rfl, .ref M, rfl, .str z, rfl, p, o, u, M, zs, rows, marg rows, z, rfl, pk1.same s2, s2 _ _ eM, mz, fun F fs H3 s3 nF eF okF clF => ?_⟩
      have s23 := s2.trans s3
      refine ⟨F, wkv fs, rfl, eF, .ref p, rfl, p, T.C_Poll, dx, _, .ref o, rfl, s23 _ _ hp, T.cl_Poll, T.n_Poll_options, pollF_options o u, o, _, rfl, .inr (.of (s23 _ _ ho)), rfl, _, rfl, ?_⟩
      have eb : decide (V.int (wkv fs).length = V.int (zs.map V.str).length) = topB (marg rows) zs z := by
        rw [← full_tops nd okF clF]
        unfold wkv
        rw [List.length_map, List.length_map]
        exact decide_eq_decide.mpr ⟨fun h => by have := V.int.inj h; omega, fun h => by rw [h]⟩
      rw [eb]
      have ft := filter_take (f := topB (marg rows) zs) hz
      have e3 := s3 _ _ e2
      cases ec : topB (marg rows) zs z with
      | true =>
        rw [if_pos ec] at ft
        refine iteT ⟨.str z, rfl, _, e3, ?_, same_mut s23 nD, ?_⟩
        · rw [List.length_map]
          have := List.length_filter_le (topB (marg rows) zs) (zs.take i)
          rw [List.length_take] at this
          exact small1000 (by omega)
        · rw [upd_same, ft, List.map_append]
          rfl
      | false =>
        rw [if_neg (by rw [ec]; exact Bool.false_ne_true), List.append_nil] at ft
        refine iteF ⟨s23, ?_⟩
        rw [ft]
        exact e3
    · rintro H2 ⟨s2, e2⟩
      rw [List.length_map, List.take_length] at e2
      exact q D H2 (s1.trans s2) nDH e2
end
/-! ### who is ahead of all, or behind all -/
def lead (g : Str → Str → Bool) (zs : List Str) : Option Str := zs.find? fun y => (zs.filter fun z => decide (z ≠ y)).all (g y)
def vO : Option Str → V
  | some z => .str z
  | none => .non
theorem find_at {α : Type} {f : α → Bool} {a : α} : ∀ {zs : List α} {i : Nat}, zs[i]? = some a → f a = true → (∀ x ∈ zs.take i, f x = false) → zs.find? f = some a
  | [], _, h, _, _ => by cases h
  | z :: zs, 0, h, fa, _ => by
    cases h
    exact List.find?_cons_of_pos fa
  | z :: zs, i + 1, h, fa, no => by
    rw [List.find?_cons_of_neg (by rw [no z (by rw [List.take_succ_cons]; exact List.mem_cons_self)]; exact Bool.false_ne_true)]
    exact find_at (i := i) (by simpa using h) fa fun x hx => no x (by rw [List.take_succ_cons]; exact List.mem_cons_of_mem _ hx)
section
variable {P : Program} {w : World} {K : PySem.W.Frag} {mg : Str → Option Value} {base : Heap}
def sp_lead (C : Addr) (G : (Str → Str → Int) → Str → Str → Bool) : Sp := fun vs H Q _ => ∃ (p o u : Addr) (zs : List Str) (rows : List (Bal × Int)), vs = [.ref p] ∧ PollOk C H p o u zs rows ∧ ∀ H', Same H H' → Q (vO (lead (G (marg rows)) zs)) H'
theorem ok_leader (T : Txt K mg) : FnOk P w K mg base CX0 5 T.f_leader T.fd_leader ["poll"] (sp_lead T.C_Poll fun f y z => decide (0 < f y z)) := by
  refine T.F_leader.ok sc_leader (fun vs H Q E h => ?_) (fun cdv A outer s H vs Q E hr h => ?_)
  · obtain ⟨p, o, u, zs, rows, rfl, _⟩ := h
    rfl
  · obtain ⟨p, o, u, zs, rows, rfl, pk, q⟩ := h
    refine ⟨_, (pss_cons
 (ps_set (i := 1) sc_leader.nd rfl (Or.inr rfl) (pe_call (ok_margins T) (hr.mono (by decide)) (by rfl) T.g_margins T.F_margins.kp T.b_margins .nil pass0 (pa_cons (pv 0) pa_nil)))
 (pss_cons
 (ps_for PassesOwn.never rfl (pi_tup (pe_fld (pv 0) rfl)) (pg_name (i := 2) sc_leader.nd rfl (Or.inr rfl))
 (pss_one
 (ps_if (pt_val (pe_callB (cr_all rfl) (by rfl) T.z_all (by decide +kernel) (pa_cons (pe_lc (own := [("other", 3)]) (g := gName 3) (tt := tYes) rfl sc_leader.nd (pi_list (pe_call (ok_others_than T) (hr.mono (by decide)) (by rfl) T.g_others_than T.F_others_than.kp T.b_others_than .nil pass0 (pa_cons (pv 0) (pa_cons (pv 2) pa_nil)))) (blkOk_by (own := [("other", 3)]) (N := ["poll", "held", "one", "other"]) (sc := (defScope s_leader)) (by decide +kernel)) (fun _ _ _ _ _ => pg_name (i := 3) sc_leader.nd rfl (Or.inl rfl)) (fun _ _ _ _ _ => pts_nil) (fun s0 H0 C0 cl0 fp0 => (by have h := ((pe_cmpR op_gt (pe_dget (hu_of hr) (pv 1) (pe_tup (pa_cons (pv 2) (pa_cons (pv 3) pa_nil))) (fun _ _ => rfl)) pe_int (nomark _)) : PE ((cxOf CX0 P w K mg base ["poll", "held", "one", "other"] "leader" (defScope s_leader) T.f_leader cdv A outer s H E).nox.blk s0 H0 (lcScope (subE (rootE ((blkOf ((defBody s_leader).getD 1 (.Pass ⟨0, 0, 0, 0⟩)) 0).getD 0 (.Pass ⟨0, 0, 0, 0⟩))) 1)) (compEnvC (lcScope (subE (rootE ((blkOf ((defBody s_leader).getD 1 (.Pass ⟨0, 0, 0, 0⟩)) 0).getD 0 (.Pass ⟨0, 0, 0, 0⟩))) 1)) cl0 C0 (cxOf CX0 P w K mg base ["poll", "held", "one", "other"] "leader" (defScope s_leader) T.f_leader cdv A outer s H E).nox.env) fp0) (subE (subE (rootE ((blkOf ((defBody s_leader).getD 1 (.Pass ⟨0, 0, 0, 0⟩)) 0).getD 0 (.Pass ⟨0, 0, 0, 0⟩))) 1) 0) _); dsimp only [Cx.blk, Cx.tr, Cx.suite, Cx.nox, Cx.wish, cxOf] at h; exact h))) pa_nil)))
 (pss_one
 (ps_ret (pv 2)))
 pss_nil)))
 (pss_one
 (ps_ret pe_non)))), ?_⟩
    refine ⟨.ref p, rfl, p, o, u, zs, rows, rfl, pk, fun M H1 s1 nM eM => ?_⟩
    have pk1 := pk.same s1
    have few := pk.ok.few
    obtain ⟨dx, hp⟩ := pk1.poll
    have ho := pk1.opts
    refine ⟨.ref p, rfl, p, T.C_Poll, dx, _, .ref o, rfl, hp, T.cl_Poll, T.n_Poll_options, pollF_options o u, o, rfl, ⟨_, .of ho⟩, ?_⟩
    refine for_tup (K := K) (a := o) (xs := zs.map V.str) (fun i σ H' => ∃ x2 x3 : Option V, σ = [some (.ref p), some (.ref M), x2, x3] ∧ Same H1 H' ∧ ∀ y ∈ zs.take i, (zs.filter fun z => decide (z ≠ y)).all (fun z => decide (0 < marg rows y z)) = false) ⟨none, none, rfl, Same.refl _, fun y hy => (by cases hy)⟩ (fun _ _ _ _ ⟨_, _, _, h, _⟩ => .of (h _ _ ho)) ?_ ?_
    · rintro i x σ H2 hi ⟨x2, x3, rfl, s2, no⟩
      obtain ⟨y, hy, rfl⟩ := item_map hi
      have my := List.mem_of_getElem? hy
      refine ⟨.ref p, rfl, .str y, rfl, p, o, u, zs, rows, y, rfl, pk1.same s2, fun O H3 s3 nO eO => ?_⟩
      have sub : ∀ z ∈ zs.filter (fun z => decide (z ≠ y)), z ∈ zs ∧ z ≠ y := fun z hz => ⟨(List.mem_filter.mp hz).1, of_decide_eq_true (List.mem_filter.mp hz).2⟩
      have lo : (zs.filter fun z => decide (z ≠ y)).length ≤ 6 := Nat.le_trans (List.length_filter_le _ _) few
      generalize hos : (zs.filter fun z => decide (z ≠ y)) = os at sub lo eO
      refine ⟨O, rfl, ⟨_, .of eO⟩, fun D nD => ?_⟩
      refine lc_list (K := K) (a := O) (xs := os.map V.str) (fun j H' => Same H3 H' ∧ H' D = some (.lst (((os.take j).map fun z => decide (0 < marg rows y z)).map V.bl))) ⟨same_upd nD, upd_same⟩ (fun _ _ _ h => .of (h.1 _ _ eO)) ?_ ?_
      · rintro j x H4 hj ⟨s4, e4⟩
        obtain ⟨z, hz, rfl⟩ := item_map hj
        obtain ⟨mz, ne⟩ := sub z (List.mem_of_getElem? hz)
        have s24 := s2.trans (s3.trans s4)
        refine ⟨rfl, .ref M, rfl, .str y, rfl, .str z, rfl, line_of (show 2 ≤ 1000 by decide), fun t nt => ?_⟩
        have s5 := same_upd (o := HO.tup [V.str y, V.str z]) nt
        have got : DGet (upd H4 t (.tup [V.str y, V.str z])) M (.ref t) (some (.int (marg rows y z))) := by
          have := DGet.t (k := [.inr y, .inr z]) (s5 _ _ (s24 _ _ eM)) (upd_same (a := t) (H := H4))
          rw [tab2_val my mz ne.symm] at this
          exact this
        refine ⟨M, _, rfl, got, _, _, rfl, rfl, ?_⟩
        refine ⟨_, s5 _ _ e4, ?_, same_mut (s4.trans s5) nD, ?_⟩
        · rw [List.length_map, List.length_map, List.length_take]
          exact small1000 (by omega)
        · rw [upd_same, take_more hz, List.map_append, List.map_append]
          rfl
      · rintro H4 ⟨s4, e4⟩
        rw [List.length_map, List.take_length] at e4
        refine ⟨D, _, rfl, .of e4, _, rfl, ?_⟩
        have eq : ((os.map fun z => decide (0 < marg rows y z)).all id) = os.all (fun z => decide (0 < marg rows y z)) := by rw [List.all_map]; rfl
        dsimp only
        rw [eq]
        have s04 := s1.trans (s2.trans (s3.trans s4))
        cases ea : os.all (fun z => decide (0 < marg rows y z)) with
        | true =>
          refine iteT ⟨.str y, rfl, ?_⟩
          have := q _ s04
          unfold lead at this
          rw [find_at hy (by rw [hos]; exact ea) no] at this
          exact this
        | false =>
          refine iteF ⟨_, _, rfl, s2.trans (s3.trans s4), fun x hx => ?_⟩
          rw [take_more hy] at hx
          rcases List.mem_append.mp hx with hx | hx
          · exact no x hx
          · rw [List.mem_singleton.mp hx, hos]
            exact ea
    · rintro σ H2 ⟨x2, x3, rfl, s2, no⟩
      rw [List.length_map, List.take_length] at no
      have := q _ (s1.trans s2)
      unfold lead at this
      rw [List.find?_eq_none.mpr fun y hy => by rw [no y hy]; exact Bool.false_ne_true] at this
      exact this
theorem ok_trailer (T : Txt K mg) : FnOk P w K mg base CX0 5 T.f_trailer T.fd_trailer ["poll"] (sp_lead T.C_Poll fun f y z => decide (0 < f z y)) := by
  refine T.F_trailer.ok sc_trailer (fun vs H Q E h => ?_) (fun cdv A outer s H vs Q E hr h => ?_)
  · obtain ⟨p, o, u, zs, rows, rfl, _⟩ := h
    rfl
  · obtain ⟨p, o, u, zs, rows, rfl, pk, q⟩ := h
    refine ⟨_, (pss_cons
 (ps_set (i := 1) sc_trailer.nd rfl (Or.inr rfl) (pe_call (ok_margins T) (hr.mono (by decide)) (by rfl) T.g_margins T.F_margins.kp T.b_margins .nil pass0 (pa_cons (pv 0) pa_nil)))
 (pss_cons
 (ps_for PassesOwn.never rfl (pi_tup (pe_fld (pv 0) rfl)) (pg_name (i := 2) sc_trailer.nd rfl (Or.inr rfl))
 (pss_one
 (ps_if (pt_val (pe_callB (cr_all rfl) (by rfl) T.z_all (by decide +kernel) (pa_cons (pe_lc (own := [("other", 3)]) (g := gName 3) (tt := tYes) rfl sc_trailer.nd (pi_list (pe_call (ok_others_than T) (hr.mono (by decide)) (by rfl) T.g_others_than T.F_others_than.kp T.b_others_than .nil pass0 (pa_cons (pv 0) (pa_cons (pv 2) pa_nil)))) (blkOk_by (own := [("other", 3)]) (N := ["poll", "held", "one", "other"]) (sc := (defScope s_trailer)) (by decide +kernel)) (fun _ _ _ _ _ => pg_name (i := 3) sc_trailer.nd rfl (Or.inl rfl)) (fun _ _ _ _ _ => pts_nil) (fun s0 H0 C0 cl0 fp0 => (by have h := ((pe_cmpR op_gt (pe_dget (hu_of hr) (pv 1) (pe_tup (pa_cons (pv 3) (pa_cons (pv 2) pa_nil))) (fun _ _ => rfl)) pe_int (nomark _)) : PE ((cxOf CX0 P w K mg base ["poll", "held", "one", "other"] "trailer" (defScope s_trailer) T.f_trailer cdv A outer s H E).nox.blk s0 H0 (lcScope (subE (rootE ((blkOf ((defBody s_trailer).getD 1 (.Pass ⟨0, 0, 0, 0⟩)) 0).getD 0 (.Pass ⟨0, 0, 0, 0⟩))) 1)) (compEnvC (lcScope (subE (rootE ((blkOf ((defBody s_trailer).getD 1 (.Pass ⟨0, 0, 0, 0⟩)) 0).getD 0 (.Pass ⟨0, 0, 0, 0⟩))) 1)) cl0 C0 (cxOf CX0 P w K mg base ["poll", "held", "one", "other"] "trailer" (defScope s_trailer) T.f_trailer cdv A outer s H E).nox.env) fp0) (subE (subE (rootE ((blkOf ((defBody s_trailer).getD 1 (.Pass ⟨0, 0, 0, 0⟩)) 0).getD 0 (.Pass ⟨0, 0, 0, 0⟩))) 1) 0) _); dsimp only [Cx.blk, Cx.tr, Cx.suite, Cx.nox, Cx.wish, cxOf] at h; exact h))) pa_nil)))
 (pss_one
 (ps_ret (pv 2)))
 pss_nil)))
 (pss_one
 (ps_ret pe_non)))), ?_⟩
    refine ⟨.ref p, rfl, p, o, u, zs, rows, rfl, pk, fun M H1 s1 nM eM => ?_⟩
    have pk1 := pk.same s1
    have few := pk.ok.few
    obtain ⟨dx, hp⟩ := pk1.poll
    have ho := pk1.opts
    refine ⟨.ref p, rfl, p, T.C_Poll, dx, _, .ref o, rfl, hp, T.cl_Poll, T.n_Poll_options, pollF_options o u, o, rfl, ⟨_, .of ho⟩, ?_⟩
    refine for_tup (K := K) (a := o) (xs := zs.map V.str) (fun i σ H' => ∃ x2 x3 : Option V, σ = [some (.ref p), some (.ref M), x2, x3] ∧ Same H1 H' ∧ ∀ y ∈ zs.take i, (zs.filter fun z => decide (z ≠ y)).all (fun z => decide (0 < marg rows z y)) = false) ⟨none, none, rfl, Same.refl _, fun y hy => (by cases hy)⟩ (fun _ _ _ _ ⟨_, _, _, h, _⟩ => .of (h _ _ ho)) ?_ ?_
    · rintro i x σ H2 hi ⟨x2, x3, rfl, s2, no⟩
      obtain ⟨y, hy, rfl⟩ := item_map hi
      have my := List.mem_of_getElem? hy
      refine ⟨.ref p, rfl, .str y, rfl, p, o, u, zs, rows, y, rfl, pk1.same s2, fun O H3 s3 nO eO => ?_⟩
      have sub : ∀ z ∈ zs.filter (fun z => decide (z ≠ y)), z ∈ zs ∧ z ≠ y := fun z hz => ⟨(List.mem_filter.mp hz).1, of_decide_eq_true (List.mem_filter.mp hz).2⟩
      have lo : (zs.filter fun z => decide (z ≠ y)).length ≤ 6 := Nat.le_trans (List.length_filter_le _ _) few
      generalize hos : (zs.filter fun z => decide (z ≠ y)) = os at sub lo eO
      refine ⟨O, rfl, ⟨_, .of eO⟩, fun D nD => ?_⟩
      refine lc_list (K := K) (a := O) (xs := os.map V.str) (fun j H' => Same H3 H' ∧ H' D = some (.lst (((os.take j).map fun z => decide (0 < marg rows z y)).map V.bl))) ⟨same_upd nD, upd_same⟩ (fun _ _ _ h => .of (h.1 _ _ eO)) ?_ ?_
      · rintro j x H4 hj ⟨s4, e4⟩
        obtain ⟨z, hz, rfl⟩ := item_map hj
        obtain ⟨mz, ne⟩ := sub z (List.mem_of_getElem? hz)
        have s24 := s2.trans (s3.trans s4)
        refine ⟨rfl, .ref M, rfl, .str z, rfl, .str y, rfl, line_of (show 2 ≤ 1000 by decide), fun t nt => ?_⟩
        have s5 := same_upd (o := HO.tup [V.str z, V.str y]) nt
        have got : DGet (upd H4 t (.tup [V.str z, V.str y])) M (.ref t) (some (.int (marg rows z y))) := by
          have := DGet.t (k := [.inr z, .inr y]) (s5 _ _ (s24 _ _ eM)) (upd_same (a := t) (H := H4))
          rw [tab2_val mz my ne] at this
          exact this
        refine ⟨M, _, rfl, got, _, _, rfl, rfl, ?_⟩
        refine ⟨_, s5 _ _ e4, ?_, same_mut (s4.trans s5) nD, ?_⟩
        · rw [List.length_map, List.length_map, List.length_take]
          exact small1000 (by omega)
        · rw [upd_same, take_more hz, List.map_append, List.map_append]
          rfl
      · rintro H4 ⟨s4, e4⟩
        rw [List.length_map, List.take_length] at e4
        refine ⟨D, _, rfl, .of e4, _, rfl, ?_⟩
        have eq : ((os.map fun z => decide (0 < marg rows z y)).all id) = os.all (fun z => decide (0 < marg rows z y)) := by rw [List.all_map]; rfl
        dsimp only
        rw [eq]
        have s04 := s1.trans (s2.trans (s3.trans s4))
        cases ea : os.all (fun z => decide (0 < marg rows z y)) with
        | true =>
          refine iteT ⟨.str y, rfl, ?_⟩
          have := q _ s04
          unfold lead at this
          rw [find_at hy (by rw [hos]; exact ea) no] at this
          exact this
        | false =>
          refine iteF ⟨_, _, rfl, s2.trans (s3.trans s4), fun x hx => ?_⟩
          rw [take_more hy] at hx
          rcases List.mem_append.mp hx with hx | hx
          · exact no x hx
          · rw [List.mem_singleton.mp hx, hos]
            exact ea
    · rintro σ H2 ⟨x2, x3, rfl, s2, no⟩
      rw [List.length_map, List.take_length] at no
      have := q _ (s1.trans s2)
      unfold lead at this
      rw [List.find?_eq_none.mpr fun y hy => by rw [no y hy]; exact Bool.false_ne_true] at this
      exact this
end
def PrAt (H : Hp) (prs : List (Addr × (Str × Str))) : Prop := ∀ q ∈ prs, H q.1 = some (.tup [.str q.2.1, .str q.2.2])
/-! ### where tables grow -/
def Fresh (H : Hp) (L : Addr) : Prop := ∀ b o, H b = some o → (∀ ps, o ≠ HO.tbl ps) → b ≠ L
theorem ext_clear {H H' : Hp} {L : Addr} {o : HO} (x : LamX.ExtN H H') (f : Fresh H L) : LamX.ExtN H (upd H' L o) := fun b u e k => by
  rw [upd_ne (f b u e k)]
  exact x b u e k
theorem tabs_upd {T : List (Addr × Str)} {H : Hp} {a : Addr} {u x : HO} (ha : H a = some u) (h1 : ∀ ps, u ≠ .tbl ps) (h2 : ∀ f, u ≠ .ext f) (h : LamX.Tabs T H) : LamX.Tabs T (upd H a x) := fun p hp => by
  obtain ⟨ps, e1, e2, e3⟩ := h p hp
  refine ⟨ps, ?_, e2, fun pos cv hc => ?_⟩
  · rw [upd_ne fun e => by rw [e, ha] at e1; exact h1 _ (Option.some.inj e1)]
    exact e1
  · obtain ⟨c, c1, c2⟩ := e3 pos cv hc
    refine ⟨c, c1, ?_⟩
    rw [upd_ne fun e => by rw [e, ha] at c2; exact h2 _ (Option.some.inj c2)]
    exact c2
theorem seq_nx {a u : TS} {D : Ends} {σ : L2.St} {H : Hp} (h : a { D with nx := u D } σ H) : tSeq a u D σ H := h
theorem eqv_same (d : PyData) (h : SeqAt.shaped d = true) : PyData.eqv d d = true := SeqAt.eqv_refl d (SeqAt.canLay_of_shaped h)
theorem made_same {H H' : Hp} {a dx : Addr} {C : Addr} (n1 : H a = none) (n2 : H dx = none) (b : But a (upd (upd H dx (.own a)) a (.ins C dx [])) H') : Same H H' := fun y x h => by
  have y1 := ne_of_none h n1
  have y2 := ne_of_none h n2
  exact b y x y1 (by rw [upd_ne y1, upd_ne y2]; exact h)
theorem SqL.extN {K : PySem.W.Frag} {H H' : Hp} {a : Addr} {xs : List V} (k : LamX.ExtN H H') (h : SqL K H a xs) : SqL K H' a xs := by
  rcases h with (h | ⟨o, h⟩) | h
  · exact .inl (.inl (k _ _ h fun _ e => by cases e))
  · exact .inl (.inr ⟨o, k _ _ h fun _ e => by cases e⟩)
  · exact .inr h
theorem RowsOk.more {zs : List Str} {m n : Nat} {rows : List (Bal × Int)} (h : RowsOk zs m rows) (g : m ≤ n) : RowsOk zs n rows := ⟨Nat.le_trans h.1 g, h.2⟩
theorem PrAt.same {H H' : Hp} {prs : List (Addr × (Str × Str))} (s : Same H H') (h : PrAt H prs) : PrAt H' prs := fun q hq => s _ _ (h q hq)
theorem PrAt.app {H : Hp} {a b : List (Addr × (Str × Str))} (ha : PrAt H a) (hb : PrAt H b) : PrAt H (a ++ b) := fun q hq => (List.mem_append.mp hq).elim (ha q) (hb q)
theorem room65 {A : Around} {k : Nat} (hr : Room k A) : A.units + 65 < cLine := by
  have := hr.un
  omega
/-! ### pairs kept one by one -/
inductive Led (k : List (Str × Str)) : Str → Str → Prop
  | refl (a : Str) : Led k a a
  | step {a b c : Str} : Led k a b → (b, c) ∈ k → Led k a c
theorem Led.mono {k l : List (Str × Str)} (s : ∀ p ∈ k, p ∈ l) {a b : Str} (h : Led k a b) : Led l a b := by
  induction h with
  | refl => exact .refl _
  | step _ m ih => exact .step ih (s _ m)
theorem Led.trans {k : List (Str × Str)} {a b c : Str} (h : Led k a b) (g : Led k b c) : Led k a c := by
  induction g with
  | refl => exact h
  | step _ m ih => exact .step ih m
theorem Led.one {k : List (Str × Str)} {a b : Str} (h : (a, b) ∈ k) : Led k a b := .step (.refl a) h
theorem Led.more {k : List (Str × Str)} {p : Str × Str} {a b : Str} (h : Led (k ++ [p]) a b) : Led k a b ∨ (Led k a p.1 ∧ Led k p.2 b) := by
  induction h with
  | refl => exact .inl (.refl _)
  | step _ m ih =>
    rcases List.mem_append.mp m with m | m
    · rcases ih with h | ⟨h1, h2⟩
      · exact .inl (.step h m)
      · exact .inr ⟨h1, .step h2 m⟩
    · have e := List.mem_singleton.mp m
      subst e
      rcases ih with h | ⟨h1, h2⟩
      · exact .inr ⟨h, .refl _⟩
      · exact .inr ⟨h1, .refl _⟩
open Classical in
noncomputable def keepStep (k : List (Str × Str)) (p : Str × Str) : List (Str × Str) := if Led k p.2 p.1 then k else k ++ [p]
noncomputable def keepL (ps : List (Str × Str)) : List (Str × Str) := ps.foldl keepStep []
theorem keepL_snoc (ps : List (Str × Str)) (p : Str × Str) : keepL (ps ++ [p]) = keepStep (keepL ps) p := by
  unfold keepL
  rw [List.foldl_append] <;> rfl
theorem keepStep_yes {k : List (Str × Str)} {p : Str × Str} (h : Led k p.2 p.1) : keepStep k p = k := if_pos h
theorem keepStep_no {k : List (Str × Str)} {p : Str × Str} (h : ¬ Led k p.2 p.1) : keepStep k p = k ++ [p] := if_neg h
def Acy (k : List (Str × Str)) : Prop := ∀ a b, (a, b) ∈ k → ¬ Led k b a
theorem acy_snoc {k : List (Str × Str)} {p : Str × Str} (A : Acy k) (h : ¬ Led k p.2 p.1) : Acy (k ++ [p]) := by
  intro a b m l
  rcases List.mem_append.mp m with m | m
  · rcases l.more with l | ⟨l1, l2⟩
    · exact A a b m l
    · exact h ((Led.step l2 m).trans l1)
  · have e := List.mem_singleton.mp m
    subst e
    rcases l.more with l | ⟨l1, l2⟩
    · exact h l
    · exact h l1
theorem snocI {α : Type} {M : List α → Prop} (h0 : M []) (h1 : ∀ l a, M l → M (l ++ [a])) (l : List α) : M l := by
  have : ∀ r : List α, M r.reverse := by
    intro r
    induction r with
    | nil => exact h0
    | cons a r ih =>
      rw [List.reverse_cons]
      exact h1 _ _ ih
  have q := this l.reverse
  rw [List.reverse_reverse] at q
  exact q
theorem keepL_acy (ps : List (Str × Str)) : Acy (keepL ps) := by
  refine snocI (M := fun ps => Acy (keepL ps)) (fun a b m => by cases m) (fun ps p ih => ?_) ps
  rw [keepL_snoc]
  by_cases c : Led (keepL ps) p.2 p.1
  · rw [keepStep_yes c]
    exact ih
  · rw [keepStep_no c]
    exact acy_snoc ih c
theorem keepL_sub (ps : List (Str × Str)) : ∀ p ∈ keepL ps, p ∈ ps := by
  refine snocI (M := fun ps => ∀ p ∈ keepL ps, p ∈ ps) (fun p m => by cases m) (fun ps p ih => ?_) ps
  intro q hq
  rw [keepL_snoc] at hq
  by_cases c : Led (keepL ps) p.2 p.1
  · rw [keepStep_yes c] at hq
    exact List.mem_append_left _ (ih q hq)
  · rw [keepStep_no c] at hq
    rcases List.mem_append.mp hq with h | h
    · exact List.mem_append_left _ (ih q h)
    · exact List.mem_append_right _ h
theorem keepL_len (ps : List (Str × Str)) : (keepL ps).length ≤ ps.length := by
  refine snocI (M := fun ps => (keepL ps).length ≤ ps.length) (Nat.le_refl _) (fun ps p ih => ?_) ps
  rw [keepL_snoc, List.length_append]
  show _ ≤ ps.length + 1
  by_cases c : Led (keepL ps) p.2 p.1
  · rw [keepStep_yes c]
    omega
  · rw [keepStep_no c, List.length_append]
    show (keepL ps).length + 1 ≤ _
    omega
/-! ### who is free, one after the other -/
def freeIn (k : List (Str × Str)) (left : List Str) (o : Str) : Bool := !(left.any fun a => decide ((a, o) ∈ k))
def peel (k : List (Str × Str)) : Nat → List Str → List Str
  | 0, _ => []
  | n + 1, left => match left.filter (freeIn k left) with
    | [] => []
    | x :: _ => x :: peel k n (left.erase x)
theorem peel_cons {k : List (Str × Str)} {n : Nat} {left fr : List Str} {x : Str} (h : left.filter (freeIn k left) = x :: fr) : peel k (n + 1) left = x :: peel k n (left.erase x) := by
  show (match left.filter (freeIn k left) with | [] => [] | x :: _ => x :: peel k n (left.erase x)) = _
  rw [h]
theorem filter_less {α : Type} {p q : α → Bool} : ∀ {l : List α}, (∀ x ∈ l, p x = true → q x = true) → ∀ {y : α}, y ∈ l → q y = true → p y = false → (l.filter p).length < (l.filter q).length
  | [], _, y, h, _, _ => by cases h
  | a :: l, s, y, h, hq, hp => by
    have le : ∀ m : List α, (∀ x ∈ m, p x = true → q x = true) → (m.filter p).length ≤ (m.filter q).length := by
      intro m s
      induction m with
      | nil => exact Nat.le_refl _
      | cons b m ih =>
        have i := ih fun x hx => s x (List.mem_cons_of_mem _ hx)
        rw [List.filter_cons, List.filter_cons]
        cases c : p b with
        | true =>
          rw [if_pos rfl, if_pos (s b List.mem_cons_self c), List.length_cons, List.length_cons]
          omega
        | false =>
          rw [if_neg Bool.false_ne_true]
          split
          · rw [List.length_cons]; omega
          · exact i
    rw [List.filter_cons, List.filter_cons]
    rcases List.mem_cons.mp h with e | m
    · subst e
      rw [if_neg (by rw [hp]; exact Bool.false_ne_true), if_pos hq, List.length_cons]
      have := le l fun x hx => s x (List.mem_cons_of_mem _ hx)
      omega
    · have ih := filter_less (fun x hx => s x (List.mem_cons_of_mem _ hx)) m hq hp
      cases c : p a with
      | true =>
        rw [if_pos rfl, if_pos (s a List.mem_cons_self c), List.length_cons, List.length_cons]
        omega
      | false =>
        rw [if_neg Bool.false_ne_true]
        split
        · rw [List.length_cons]; omega
        · exact ih
theorem freeIn_iff {k : List (Str × Str)} {left : List Str} {o : Str} : freeIn k left o = true ↔ ∀ a ∈ left, (a, o) ∉ k := by
  unfold freeIn
  rw [Bool.not_eq_true', List.any_eq_false]
  exact ⟨fun h a ha m => h a ha (decide_eq_true m), fun h a ha m => h a ha (of_decide_eq_true m)⟩
open Classical in
theorem free_some {k : List (Str × Str)} (A : Acy k) {left : List Str} {o : Str} (ho : o ∈ left) : ∃ x fr, left.filter (freeIn k left) = x :: fr := by
  have main : ∀ (n : Nat) (m : Str), m ∈ left → (left.filter fun x => decide (Led k x m)).length ≤ n → ∃ x ∈ left, freeIn k left x = true := by
    intro n
    induction n with
    | zero =>
      intro m hm h
      have : m ∈ left.filter fun x => decide (Led k x m) := List.mem_filter.mpr ⟨hm, decide_eq_true (.refl m)⟩
      have := List.length_pos_of_mem this
      omega
    | succ n ih =>
      intro m hm h
      by_cases c : freeIn k left m = true
      · exact ⟨m, hm, c⟩
      · rw [freeIn_iff] at c
        obtain ⟨a, c⟩ := Classical.not_forall.mp c
        obtain ⟨ha, c⟩ := Classical.not_imp.mp c
        have c := Classical.not_not.mp c
        refine ih a ha ?_
        have := filter_less (l := left) (p := fun x => decide (Led k x a)) (q := fun x => decide (Led k x m)) (fun x _ hx => decide_eq_true (.step (of_decide_eq_true hx) c)) hm (decide_eq_true (.refl m)) (decide_eq_false (A a m c))
        omega
  obtain ⟨x, hx, fx⟩ := main _ o ho (Nat.le_refl _)
  have m : x ∈ left.filter (freeIn k left) := List.mem_filter.mpr ⟨hx, fx⟩
  cases e : left.filter (freeIn k left) with
  | nil => rw [e] at m; cases m
  | cons y fr => exact ⟨y, fr, rfl⟩
theorem peel_perm {k : List (Str × Str)} (A : Acy k) : ∀ (n : Nat) (left : List Str), left.length = n → (peel k n left).Perm left
  | 0, left, h => by rw [List.length_eq_zero_iff.mp h]; exact .nil
  | n + 1, left, h => by
    obtain ⟨o, ho⟩ : ∃ o, o ∈ left := by
      cases left with
      | nil => cases h
      | cons o l => exact ⟨o, List.mem_cons_self⟩
    obtain ⟨x, fr, e⟩ := free_some A ho
    have hx : x ∈ left := (List.mem_filter.mp (by rw [e]; exact List.mem_cons_self)).1
    rw [peel_cons e]
    exact (List.Perm.cons x (peel_perm A n _ (by rw [List.length_erase_of_mem hx]; omega))).trans (List.perm_cons_erase hx).symm
/-- all pairs of unlike ones of which the one beats the other -/
def posPairs (g : Str → Str → Int) (zs ys : List Str) : List (Str × Str) := ys.flatMap fun y => (zs.filter fun z => decide (y ≠ z) && decide (g y z > 0)).map fun z => (y, z)
def sortP (g : Str → Str → Int) (ps : List (Str × Str)) : List (Str × Str) := ps.mergeSort fun a b => decide (-(g a.1 a.2) ≤ -(g b.1 b.2))
noncomputable def keptP (g : Str → Str → Int) (ord : List Str) : List (Str × Str) := keepL (sortP g (posPairs g ord ord))
noncomputable def pairsO (g : Str → Str → Int) (ord : List Str) : List Str := peel (keptP g ord) ord.length ord
theorem pairsO_perm (g : Str → Str → Int) (ord : List Str) : (pairsO g ord).Perm ord := peel_perm (keepL_acy _) _ _ rfl
theorem mem_pos {g : Str → Str → Int} {zs ys : List Str} {q : Str × Str} : q ∈ posPairs g zs ys ↔ q.1 ∈ ys ∧ q.2 ∈ zs ∧ q.1 ≠ q.2 ∧ g q.1 q.2 > 0 := by
  unfold posPairs
  rw [List.mem_flatMap]
  constructor
  · rintro ⟨y, hy, h⟩
    obtain ⟨z, hz, rfl⟩ := List.mem_map.mp h
    obtain ⟨h1, h2⟩ := List.mem_filter.mp hz
    rw [Bool.and_eq_true] at h2
    exact ⟨hy, h1, of_decide_eq_true h2.1, of_decide_eq_true h2.2⟩
  · rintro ⟨h1, h2, h3, h4⟩
    exact ⟨q.1, h1, List.mem_map.mpr ⟨q.2, List.mem_filter.mpr ⟨h2, by rw [decide_eq_true h3, decide_eq_true h4] <;> rfl⟩, rfl⟩⟩
theorem pos_more {g : Str → Str → Int} {zs ys : List Str} {y : Str} {i : Nat} (h : ys[i]? = some y) : posPairs g zs (ys.take (i + 1)) = posPairs g zs (ys.take i) ++ (zs.filter fun z => decide (y ≠ z) && decide (g y z > 0)).map fun z => (y, z) := by
  unfold posPairs
  rw [take_more h, List.flatMap_append]
  simp
theorem pos_len (g : Str → Str → Int) (zs : List Str) : ∀ ys : List Str, (posPairs g zs ys).length ≤ ys.length * zs.length
  | [] => Nat.zero_le _
  | y :: ys => by
    have ih := pos_len g zs ys
    have e : posPairs g zs (y :: ys) = ((zs.filter fun z => decide (y ≠ z) && decide (g y z > 0)).map fun z => (y, z)) ++ posPairs g zs ys := rfl
    rw [e, List.length_append, List.length_map, List.length_cons, Nat.add_mul]
    have := List.length_filter_le (fun z => decide (y ≠ z) && decide (g y z > 0)) zs
    omega
theorem sortP_mem {g : Str → Str → Int} {ps : List (Str × Str)} {p : Str × Str} : p ∈ sortP g ps ↔ p ∈ ps := (List.mergeSort_perm ps _).mem_iff
theorem keptP_mem {g : Str → Str → Int} {ord : List Str} {p : Str × Str} (h : p ∈ keptP g ord) : p.1 ∈ ord ∧ p.2 ∈ ord ∧ p.1 ≠ p.2 ∧ g p.1 p.2 > 0 := mem_pos.mp (sortP_mem.mp (keepL_sub _ _ h))
/-! ### orders of all options; an order of ties -/
/-- anything: data, a dict, or the empty tuple that is written -/
def AnyD (K : PySem.W.Frag) (H : Hp) (d : PyData) (v : V) : Prop := DAt H d v ∨ (∃ (a : Addr) (kvs : List (Key × V)), v = .ref a ∧ H a = some (.dK kvs) ∧ d = .dict []) ∨ (∃ e : Addr, v = .ref e ∧ (∀ G : Hp, SqT K G e []) ∧ (∀ G : Hp, TyX K G (.ref e) (.type "tuple")) ∧ d = .tuple [])
def orderD (zs : List Str) : PyData → Bool
  | .tuple ds => decide (ds.length = zs.length) && unlikeD zs ds
  | _ => false
def fewL : PyData → Prop
  | .tuple ds => ds.length ≤ 500
  | _ => True
theorem perm_of_sub : ∀ {a b : List Str}, a.Nodup → (∀ x ∈ a, x ∈ b) → b.length ≤ a.length → a.Perm b
  | [], b, _, _, l => by
    rw [List.length_eq_zero_iff.mp (Nat.le_zero.mp l)]
  | x :: a, b, n, s, l => by
    have hx := s x List.mem_cons_self
    obtain ⟨n1, n2⟩ := List.nodup_cons.mp n
    have p := List.perm_cons_erase hx
    refine (List.Perm.cons x (perm_of_sub (b := b.erase x) n2 (fun y hy => ?_) ?_)).trans p.symm
    · exact (List.mem_erase_of_ne fun e => n1 (by rw [← e]; exact hy)).mpr (s y (List.mem_cons_of_mem _ hy))
    · rw [List.length_erase_of_mem hx]
      have l : b.length ≤ a.length + 1 := l
      omega
theorem order_strs {zs ws : List Str} (nd : zs.Nodup) (pm : ws.Perm zs) : orderD zs (.tuple (ws.map PyData.str)) = true := by
  show (decide ((ws.map PyData.str).length = zs.length) && unlikeD zs (ws.map PyData.str)) = true
  rw [unlike_strs (pm.nodup_iff.mpr nd) (fun z hz => pm.mem_iff.mp hz), decide_eq_true (by rw [List.length_map, pm.length_eq])] <;> rfl
/-- what is an order is one of the options -/
theorem order_is {zs : List Str} {d : PyData} (nd : zs.Nodup) (h : orderD zs d = true) : ∃ ws : List Str, d = .tuple (ws.map PyData.str) ∧ ws.Perm zs := by
  cases d with
  | tuple ds =>
    have h : (decide (ds.length = zs.length) && unlikeD zs ds) = true := h
    rw [Bool.and_eq_true] at h
    obtain ⟨h1, h2⟩ := h
    have h1 := of_decide_eq_true h1
    unfold unlikeD at h2
    rw [Bool.and_eq_true] at h2
    have es := opt_strs h2.1
    have n2 := of_decide_eq_true h2.2
    refine ⟨ds.filterMap unS, congrArg PyData.tuple es, ?_⟩
    have sub : ∀ z ∈ ds.filterMap unS, z ∈ zs := fun z hz => by
      have hz2 : PyData.str z ∈ ds := by rw [es]; exact List.mem_map.mpr ⟨z, hz, rfl⟩
      exact of_decide_eq_true ((List.all_eq_true.mp h2.1) _ hz2)
    have len : (ds.filterMap unS).length = zs.length := by
      have := congrArg List.length es
      rw [List.length_map] at this
      omega
    exact perm_of_sub n2 sub (by omega)
  | _ => cases h
section
variable {P : Program} {w : World} {K : PySem.W.Frag} {mg : Str → Option Value} {base : Heap}
theorem AnyD.same {d : PyData} {v : V} {H H' : Hp} (s : Same H H') : AnyD K H d v → AnyD K H' d v
  | .inl h => .inl (DAt.same s d h)
  | .inr (.inl ⟨a, kvs, e, h, f⟩) => .inr (.inl ⟨a, kvs, e, s _ _ h, f⟩)
  | .inr (.inr h) => .inr (.inr h)
def sp_is_tuple_ofA (K : PySem.W.Frag) : Sp := fun vs H Q _ => ∃ (v : V) (n : Nat) (d : PyData), vs = [v, .int n] ∧ AnyD K H d v ∧ Q (.bl (tupD d n)) H
theorem ok_is_tuple_ofA (T : Txt K mg) : FnOk P w K mg base CX0 1 T.f_is_tuple_of T.fd_is_tuple_of ["thing", "many"] (sp_is_tuple_ofA K) := by
  refine T.F_is_tuple_of.ok sc_is_tuple_of (fun vs H Q E h => ?_) (fun cdv A outer s H vs Q E hr h => ?_)
  · obtain ⟨v, n, d, rfl, _⟩ := h
    rfl
  · obtain ⟨v, n, d, rfl, hd, q⟩ := h
    refine ⟨_, (pss_one
 (ps_ret (pe_and (pe_callB call_isi (by rfl) T.z_isinstance (by decide +kernel) (pa_cons (pv 0) (pa_cons (pe_bltn (v := .ty "tuple") (u := .type "tuple") rfl T.z_tuple (by decide +kernel) rfl) pa_nil))) (pe_one (pe_cmpR op_eq (pe_callB call_len_seq (by rfl) T.z_len (by decide +kernel) (pa_cons (pv 0) pa_nil)) (pv 1) (nomark _)))))), ?_⟩
    rcases hd with hd | ⟨a, kvs, rfl, ha, rfl⟩ | ⟨e, rfl, hs, ht, rfl⟩
    · obtain ⟨t, ht, k1, _⟩ := hd.ty (K := K)
      refine ⟨v, rfl, v, _, t, _, dT d, rfl, .ty _, ht, k1, dT d, rfl, ?_⟩
      cases d with
      | tuple l =>
        obtain ⟨p, xs, rfl, hp, ha⟩ := hd
        refine iteT ⟨.ref p, rfl, p, _, rfl, .inr (.of hp), .int n, rfl, rfl, ?_⟩
        rw [ha.len]
        have e : decide (V.int (l.length : Int) = V.int (n : Int)) = decide (l.length = n) := decide_eq_decide.mpr ⟨fun h => by have := V.int.inj h; omega, fun h => by rw [h]⟩
        rw [e]
        exact q
      | _ => exact iteF q
    · exact ⟨.ref a, rfl, .ref a, _, .type "dict", _, false, rfl, .ty _, @TyX.base _ _ _ _ (.dK ha), kit_ty (show kitB "dict" "tuple" = some false by decide +kernel), false, rfl, iteF q⟩
    · refine ⟨.ref e, rfl, .ref e, _, .type "tuple", _, true, rfl, .ty _, ht _, kit_ty (show kitB "tuple" "tuple" = some true by decide +kernel), true, rfl, iteT ⟨.ref e, rfl, e, [], rfl, .inr (hs _), .int n, rfl, rfl, ?_⟩⟩
      have e : decide (V.int (([] : List V).length : Int) = V.int (n : Int)) = decide (([] : List PyData).length = n) := decide_eq_decide.mpr ⟨fun h => by have := V.int.inj h; exact Int.ofNat.inj this, fun h => by rw [← h] <;> rfl⟩
      rw [e]
      exact q
def sp_is_order (K : PySem.W.Frag) : Sp := fun vs H Q _ => ∃ (o : Addr) (zs : List Str) (v : V) (d : PyData), vs = [.ref o, v] ∧ H o = some (.tup (zs.map V.str)) ∧ AnyD K H d v ∧ fewL d ∧ zs ≠ [] ∧ ∀ H', Same H H' → Q (.bl (orderD zs d)) H'
theorem ok_is_order (T : Txt K mg) : FnOk P w K mg base CX0 3 T.f_is_order T.fd_is_order ["options", "thing"] (sp_is_order K) := by
  refine T.F_is_order.ok sc_is_order (fun vs H Q E h => ?_) (fun cdv A outer s H vs Q E hr h => ?_)
  · obtain ⟨o, zs, v, d, rfl, _⟩ := h
    rfl
  · obtain ⟨o, zs, v, d, rfl, ho, hd, few, zne, q⟩ := h
    refine ⟨_, (pss_one
 (ps_ret (pe_and (pe_call (ok_is_tuple_ofA T) (hr.mono (by decide)) (by rfl) T.g_is_tuple_of T.F_is_tuple_of.kp T.b_is_tuple_of .nil pass0 (pa_cons (pv 1) (pa_cons (pe_callB call_len_seq (by rfl) T.z_len (by decide +kernel) (pa_cons (pv 0) pa_nil)) pa_nil))) (pe_one (pe_call (ok_are_unlike_options T) (hr.mono (by decide)) (by rfl) T.g_are_unlike_options T.F_are_unlike_options.kp T.b_are_unlike_options .nil pass0 (pa_cons (pv 0) (pa_cons (pv 1) pa_nil))))))), ?_⟩
    have lz : (zs.map V.str).length = zs.length := List.length_map ..
    refine ⟨v, rfl, .ref o, rfl, o, _, rfl, .inr (.of ho), v, (zs.map V.str).length, d, rfl, hd, ?_⟩
    rw [lz]
    refine ⟨_, rfl, ?_⟩
    rcases hd with hd | ⟨a, kvs, rfl, ha, rfl⟩ | ⟨e, rfl, hs, ht, rfl⟩
    · cases d with
      | tuple ds =>
        obtain ⟨p, xs, rfl, hp, ha⟩ := hd
        by_cases c : ds.length = zs.length
        · have e : orderD zs (.tuple ds) = unlikeD zs ds := by
            show (decide (ds.length = zs.length) && unlikeD zs ds) = _
            rw [decide_eq_true c, Bool.true_and]
          rw [show tupD (.tuple ds) zs.length = true from decide_eq_true c]
          rw [e] at q
          exact iteT ⟨.ref o, rfl, .ref p, rfl, o, p, zs, xs, ds, rfl, ho, .inr hp, ha, few, q⟩
        · have e : orderD zs (.tuple ds) = false := by
            show (decide (ds.length = zs.length) && unlikeD zs ds) = _
            rw [decide_eq_false c, Bool.false_and]
          rw [show tupD (.tuple ds) zs.length = false from decide_eq_false c]
          rw [e] at q
          exact iteF (q _ (Same.refl _))
      | _ => exact iteF (q _ (Same.refl _))
    · exact iteF (q _ (Same.refl _))
    · have zp := List.length_pos_iff.mpr zne
      have c : ¬ ([] : List PyData).length = zs.length := by
        show ¬ 0 = zs.length
        omega
      have e : orderD zs (.tuple []) = false := by
        show (decide (([] : List PyData).length = zs.length) && unlikeD zs []) = _
        rw [decide_eq_false c, Bool.false_and]
      rw [show tupD (.tuple []) zs.length = false from decide_eq_false c]
      rw [e] at q
      exact iteF (q _ (Same.refl _))
def sp_check_order (K : PySem.W.Frag) : Sp := fun vs H Q _ => ∃ (o : Addr) (zs : List Str) (v : V) (d : PyData), vs = [.ref o, v] ∧ H o = some (.tup (zs.map V.str)) ∧ AnyD K H d v ∧ fewL d ∧ zs ≠ [] ∧ orderD zs d = true ∧ ∀ H', Same H H' → Q .non H'
theorem ok_check_order (T : Txt K mg) : FnOk P w K mg base CX0 4 T.f_check_order T.fd_check_order ["options", "order"] (sp_check_order K) := by
  refine T.F_check_order.ok sc_check_order (fun vs H Q E h => ?_) (fun cdv A outer s H vs Q E hr h => ?_)
  · obtain ⟨o, zs, v, d, rfl, _⟩ := h
    rfl
  · obtain ⟨o, zs, v, d, rfl, ho, hd, few, zne, c, q⟩ := h
    refine ⟨_, (pss_one
 (ps_if (pt_not (pt_val (pe_call (ok_is_order T) (hr.mono (by decide)) (by rfl) T.g_is_order T.F_is_order.kp T.b_is_order .nil pass0 (pa_cons (pv 0) (pa_cons (pv 1) pa_nil)))))
 (pss_one
 ps_never)
 pss_nil)), ?_⟩
    refine ⟨.ref o, rfl, v, rfl, o, zs, v, d, rfl, ho, hd, few, zne, fun H1 s1 => ⟨_, rfl, ?_⟩⟩
    rw [c]
    exact iteF (q H1 s1)
/-- an order of all by which ties go -/
def TiesBy (zs : List Str) (d : PyData) (ord : List Str) : Prop := tupD d 0 = true ∧ ord = zs ∨ tupD d 0 = false ∧ d = .tuple (ord.map PyData.str) ∧ ord.Perm zs
theorem TiesBy.perm {zs ord : List Str} {d : PyData} (h : TiesBy zs d ord) : ord.Perm zs := by
  rcases h with ⟨_, e⟩ | ⟨_, _, e⟩
  · rw [e]
  · exact e
theorem AnyD.of_strs {H : Hp} {v : V} {ord : List Str} (h : AnyD K H (.tuple (ord.map PyData.str)) v) (ne : ord ≠ []) : ∃ w, v = .ref w ∧ H w = some (.tup (ord.map V.str)) := by
  rcases h with ⟨p, xs, e, hp, ha⟩ | ⟨_, _, _, _, e⟩ | ⟨_, _, _, _, e⟩
  · rw [ha.of_strs] at hp
    exact ⟨p, e, hp⟩
  · cases e
  · exact absurd (List.map_eq_nil_iff.mp (PyData.tuple.inj e)) ne
/-- the options' own order, or the order that is told -/
def sp_order_of_ties (K : PySem.W.Frag) : Sp := fun vs H Q E => ∃ (o : Addr) (zs : List Str) (v : V) (d : PyData) (ord : List Str), vs = [.ref o, v] ∧ H o = some (.tup (zs.map V.str)) ∧ AnyD K H d v ∧ fewL d ∧ zs ≠ [] ∧ zs.Nodup ∧
  TiesBy zs d ord ∧ ∀ (w : Addr) (H1 : Hp), Same H H1 → H1 w = some (.tup (ord.map V.str)) → Q (.ref w) H1
theorem ok_order_of_ties (T : Txt K mg) : FnOk P w K mg base CX0 5 T.f_order_of_ties T.fd_order_of_ties ["options", "ties"] (sp_order_of_ties K) := by
  refine T.F_order_of_ties.ok sc_order_of_ties (fun vs H Q E h => ?_) (fun cdv A outer s H vs Q E hr h => ?_)
  · obtain ⟨o, zs, v, d, ord, rfl, _⟩ := h
    rfl
  · obtain ⟨o, zs, v, d, ord, rfl, ho, hd, few, zne, nd, how, q⟩ := h
    refine ⟨_, (pss_cons
 (ps_if (pt_val (pe_call (ok_is_tuple_ofA T) (hr.mono (by decide)) (by rfl) T.g_is_tuple_of T.F_is_tuple_of.kp T.b_is_tuple_of .nil pass0 (pa_cons (pv 1) (pa_cons pe_int pa_nil))))
 (pss_one
 (ps_ret (pv 0)))
 pss_nil)
 (pss_cons
 (ps_expr (pe_call (ok_check_order T) (hr.mono (by decide)) (by rfl) T.g_check_order T.F_check_order.kp T.b_check_order .nil pass0 (pa_cons (pv 0) (pa_cons (pv 1) pa_nil))))
 (pss_one
 (ps_ret (pv 1))))), ?_⟩
    refine ⟨v, rfl, v, 0, d, rfl, hd, ⟨_, rfl, ?_⟩⟩
    rcases how with ⟨c, rfl⟩ | ⟨c, rfl, pm⟩
    · rw [c]
      exact iteT ⟨.ref o, rfl, q o H (Same.refl _) ho⟩
    · rw [c]
      obtain ⟨w, rfl, rd⟩ := hd.of_strs fun e => zne (by rw [e] at pm; exact (List.Perm.nil_eq pm).symm)
      refine iteF ⟨.ref o, rfl, .ref w, rfl, o, zs, _, _, rfl, ho, hd, few, zne, order_strs nd pm, fun H1 s1 => ⟨.ref w, rfl, q w H1 s1 (s1 _ _ rd)⟩⟩
end
/-! ### pairs kept, by the program -/
section
variable {P : Program} {w : World} {K : PySem.W.Frag} {mg : Str → Option Value} {base : Heap}
def sp_led_to : Sp := fun vs H Q _ => ∃ (k : Addr) (qs : List (Addr × (Str × Str))) (s : Str) (zs : List Str), vs = [.ref k, .str s] ∧ H k = some (.lst (qs.map fun q => V.ref q.1)) ∧ PrAt H qs ∧ zs.length ≤ 6 ∧ s ∈ zs ∧ (∀ q ∈ qs, q.2.2 ∈ zs) ∧
  ∀ (F : Addr) (ls : List Str) (H' : Hp), Same H H' → H F = none → H' F = some (.lst (ls.map V.str)) → (∀ x, x ∈ ls ↔ Led (qs.map (·.2)) s x) → Q (.ref F) H'
theorem ok_led_to (T : Txt K mg) : FnOk P w K mg base CX0 1 T.f_led_to T.fd_led_to ["kept", "start"] sp_led_to := by
  refine T.F_led_to.ok sc_led_to (fun vs H Q E h => ?_) (fun cdv A outer s H vs Q E hr h => ?_)
  · obtain ⟨k, qs, s, zs, rfl, _⟩ := h
    rfl
  · obtain ⟨k, qs, st, zs, rfl, hk, pr, l6, hs, sub, q⟩ := h
    refine ⟨_, (pss_cons
 (ps_set (i := 2) sc_led_to.nd rfl (Or.inl rfl) (pe_lst (pa_cons (pv 1) pa_nil)))
 (pss_cons
 (ps_set (i := 3) sc_led_to.nd rfl (Or.inl rfl) pe_int)
 (pss_cons
 (ps_while PassesOwn.never (pt_cmpR op_lt (pv 3) (pe_callB call_len_seq (by rfl) T.z_len (by decide +kernel) (pa_cons (pv 2) pa_nil)) (nomark _))
 (pss_cons
 (ps_for PassesOwn.never rfl (pi_list (pv 0)) (pg_tup rfl (pgs_cons (pg_name (i := 4) sc_led_to.nd rfl (Or.inl rfl)) (pgs_cons (pg_name (i := 5) sc_led_to.nd rfl (Or.inl rfl)) pgs_nil)))
 (pss_one
 (ps_if (PW.pt (pw_and (pt_cmpR op_eq (pv 4) (pe_ix ix_list (pv 2) (pv 3) (fun _ _ => rfl)) (nomark _)) (pw_and1 (pt_cmpR op_notIn_seq (pv 5) (pv 2) rfl))))
 (pss_one
 (ps_expr (pe_bm PySem.F.plainAttrs_list PySem.F.slot_list_append PySem.F.type_list_append mt_append (pv 2) (pa_cons (pv 5) pa_nil))))
 pss_nil)))
 (pss_one
 (ps_aug (i := 3) sc_led_to.nd rfl (Or.inl rfl) pe_int ip_add))))
 (pss_one
 (ps_ret (pv 2)))))), ?_⟩
    refine ⟨.str st, rfl, line_of (show 1 ≤ 1000 by decide), fun F nF => ?_⟩
    have s0 := same_upd (o := HO.lst [V.str st]) nF
    have eF : (upd H F (.lst [V.str st])) F = some (.lst [V.str st]) := upd_same
    generalize upd H F (.lst [V.str st]) = H0 at s0 eF ⊢
    have lenz : ∀ {ls : List Str}, ls.Nodup → (∀ x ∈ ls, x ∈ zs) → ls.length ≤ zs.length := fun {ls} n h => n.length_le_of_subset h
    refine while_by (fun σ H' => ∃ (at_ : Nat) (x4 x5 : Option V) (ls : List Str), σ = [some (.ref k), some (.str st), some (.ref F), some (.int (at_ : Int)), x4, x5] ∧ at_ ≤ ls.length ∧ Same H H' ∧ H' F = some (.lst (ls.map V.str)) ∧ ls.Nodup ∧ (∀ x ∈ ls, x ∈ zs) ∧ st ∈ ls ∧ (∀ x ∈ ls, Led (qs.map (·.2)) st x) ∧
        (∀ j x, j < at_ → ls[j]? = some x → ∀ p ∈ qs, p.2.1 = x → p.2.2 ∈ ls)) (fun σ _ => match σ with | [_, _, _, some (.int n), _, _] => zs.length - n.toNat | _ => 0)
      ⟨0, none, none, [st], rfl, Nat.zero_le _, s0, eF, by simp, fun x hx => by rw [List.mem_singleton.mp hx]; exact hs, List.mem_cons_self, fun x hx => by rw [List.mem_singleton.mp hx]; exact .refl _, fun j x h => absurd h (Nat.not_lt_zero _)⟩ ?_ (fun σ H Q Q' imp h => by
        obtain ⟨v, h1, x, h2, a, b, h3, h4, i, j, h5, h6, r, h7, h8⟩ := h
        exact ⟨v, h1, x, h2, a, b, h3, h4, i, j, h5, h6, r, h7, imp _ _ h8⟩)
    rintro σ H1 ⟨at_, x4, x5, ls, rfl, hat, s1, e1, lnd, lin, sin, led, clo⟩
    refine ⟨.int at_, rfl, .ref F, rfl, F, _, rfl, .inl (.of e1), _, _, rfl, rfl, _, rfl, ?_⟩
    rw [List.length_map]
    by_cases more : (at_ : Int) < (ls.length : Int)
    case neg =>
      rw [decide_eq_false more]
      refine iteF ⟨.ref F, rfl, q F ls H1 s1 nF e1 fun x => ⟨led x, fun h => ?_⟩⟩
      induction h with
      | refl => exact sin
      | step h m ih =>
        obtain ⟨j, hj⟩ := List.mem_iff_getElem?.mp ih
        obtain ⟨p, hp, ep⟩ := List.mem_map.mp m
        have := clo j _ (by have := (List.getElem?_eq_some_iff.mp hj).1; omega) hj p hp (by rw [ep])
        rw [ep] at this
        exact this
    rw [decide_eq_true more]
    refine iteT ?_
    have atl : at_ < ls.length := by omega
    obtain ⟨x, hx⟩ : ∃ x, ls[at_]? = some x := ⟨_, List.getElem?_eq_getElem atl⟩
    have ledx : Led (qs.map (·.2)) st x := led x (List.mem_of_getElem? hx)
    have nFH : ∀ {b o}, H b = some o → b ≠ F := fun h => ne_of_none h nF
    refine ⟨.ref k, rfl, k, rfl, ⟨_, .of (s1 _ _ hk)⟩, for_list (K := K) (a := k) (xs := qs.map fun q => V.ref q.1) (fun i σ H' => ∃ (x4 x5 : Option V) (ls2 : List Str), σ = [some (.ref k), some (.str st), some (.ref F), some (.int (at_ : Int)), x4, x5] ∧ (∃ ex, ls2 = ls ++ ex) ∧ Same H H' ∧ H' F = some (.lst (ls2.map V.str)) ∧ ls2.Nodup ∧ (∀ x ∈ ls2, x ∈ zs) ∧
        (∀ x ∈ ls2, Led (qs.map (·.2)) st x) ∧ (∀ p ∈ qs.take i, p.2.1 = x → p.2.2 ∈ ls2)) ⟨x4, x5, ls, rfl, ⟨[], (List.append_nil _).symm⟩, s1, e1, lnd, lin, led, fun p hp => by rw [List.take_zero] at hp; cases hp⟩ (fun _ _ _ _ ⟨_, _, _, _, _, s, _⟩ => .of (s _ _ hk)) ?_ ?_⟩
    · rintro i v σ H2 hi ⟨x4, x5, ls2, rfl, ⟨ex, rfl⟩, s2, e2, nd2, in2, led2, cl2⟩
      obtain ⟨p, hp, rfl⟩ := item_map hi
      have mp := List.mem_of_getElem? hp
      have tk : ∀ p' ∈ qs.take (i + 1), p' ∈ qs.take i ∨ p' = p := fun p' h => by
        rw [take_more hp] at h
        exact (List.mem_append.mp h).imp id List.mem_singleton.mp
      have l2 := lenz nd2 in2
      have atx : atI ((ls ++ ex).map V.str) (at_ : Int) = some (.str x) := atI_nat (j := at_) (by rw [List.getElem?_map, List.getElem?_append_left atl, hx] <;> rfl)
      refine ⟨p.1, _, rfl, .of (s2 _ _ (pr p mp)), rfl, _, _, rfl, _, _, rfl, rfl, ?_⟩
      refine ⟨.str p.2.1, rfl, .ref F, rfl, .int at_, rfl, F, _, at_, .str x, rfl, rfl, .of e2, atx, rfl, _, rfl, ?_⟩
      by_cases c : p.2.1 = x
      · rw [decide_eq_true (congrArg V.str c)]
        refine iteT ⟨.str p.2.2, rfl, .ref F, rfl, F, _, rfl, .inl (.of e2), rfl, flat_strs _, _, rfl, ?_⟩
        rw [inV_str]
        by_cases d : p.2.2 ∈ ls ++ ex
        · rw [decide_eq_true d]
          refine iteF ⟨_, _, ls ++ ex, rfl, ⟨ex, rfl⟩, s2, e2, nd2, in2, led2, fun p' h e => (tk p' h).elim (fun h => cl2 p' h e) fun h => by rw [h]; exact d⟩
        · rw [decide_eq_false d]
          refine iteT ⟨.ref F, rfl, .inl ⟨rfl, _, .of e2⟩, .str p.2.2, rfl, F, _, _, rfl, rfl, e2, ?_, ?_⟩
          · rw [List.length_map]
            exact small1000 (by omega)
          · refine ⟨_, _, ls ++ (ex ++ [p.2.2]), rfl, ⟨_, rfl⟩, same_mut s2 nF, ?_, ?_, fun y hy => ?_, fun y hy => ?_, fun p' h e => ?_⟩
            · rw [upd_same, ← List.append_assoc, List.map_append (l₁ := ls ++ ex)]
              rfl
            · rw [← List.append_assoc]
              exact List.nodup_append.mpr ⟨nd2, by simp, fun a ha b hb e => d (by rw [← List.mem_singleton.mp hb, ← e]; exact ha)⟩
            · rw [← List.append_assoc] at hy
              rcases List.mem_append.mp hy with hy | hy
              · exact in2 y hy
              · rw [List.mem_singleton.mp hy]
                exact sub p mp
            · rw [← List.append_assoc] at hy
              rcases List.mem_append.mp hy with hy | hy
              · exact led2 y hy
              · rw [List.mem_singleton.mp hy]
                exact .step ledx (List.mem_map.mpr ⟨p, mp, by rw [← c]⟩)
            · rw [← List.append_assoc]
              rcases tk p' h with h | h
              · exact List.mem_append_left _ (cl2 p' h e)
              · rw [h]
                exact List.mem_append_right _ List.mem_cons_self
      · rw [decide_eq_false fun e => c (V.str.inj e)]
        refine iteF (iteF ⟨_, _, ls ++ ex, rfl, ⟨ex, rfl⟩, s2, e2, nd2, in2, led2, fun p' h e => (tk p' h).elim (fun h => cl2 p' h e) fun h => absurd (by rw [← h]; exact e) c⟩)
    rintro σ H2 ⟨x4, x5, ls2, rfl, ⟨ex, rfl⟩, s2, e2, nd2, in2, led2, cl2⟩
    rw [List.length_map, List.take_length] at cl2
    refine ⟨_, rfl, _, _, rfl, rfl, ⟨at_ + 1, x4, x5, ls ++ ex, rfl, by rw [List.length_append]; omega, s2, e2, nd2, in2, List.mem_append_left _ sin, led2, fun j y hj hy p hp e => ?_⟩, ?_⟩
    · by_cases c : j = at_
      · rw [c, List.getElem?_append_left atl, hx] at hy
        exact cl2 p hp (by rw [e]; exact (Option.some.inj hy).symm)
      · have jl : j < at_ := by omega
        rw [List.getElem?_append_left (by omega)] at hy
        exact List.mem_append_left _ (clo j y jl hy p hp e)
    · have := lenz lnd lin
      show zs.length - ((at_ : Int) + 1).toNat < zs.length - (at_ : Int).toNat
      omega
abbrev lamK : Str := ("kept_pairs.<locals>." : Str) ++ "<lambda>"
/-- what stands at an address as a pair, weighed -/
def pairW (H : Hp) (g : Str → Str → Int) (v : V) : Int := match v with
  | .ref a => match H a with
    | some (.tup [.str x, .str y]) => -(g x y)
    | _ => 0
  | _ => 0
theorem pairW_at {H : Hp} {g : Str → Str → Int} {a : Addr} {p : Str × Str} (h : H a = some (.tup [.str p.1, .str p.2])) : pairW H g (.ref a) = -(g p.1 p.2) := by
  show (match H a with | some (.tup [.str x, .str y]) => -(g x y) | _ => 0) = _
  rw [h]
def sp_kept_pairs (tp : Addr) : Sp := fun vs H Q _ => ∃ (o M : Addr) (zs ord : List Str) (g : Str → Str → Int), vs = [.ref o, .ref M] ∧ H o = some (.lst (ord.map V.str)) ∧ H M = some (.dT (tab2 zs g zs)) ∧ (∀ x ∈ ord, x ∈ zs) ∧ ord.length ≤ 6 ∧ LamX.Tabs [(tp, lamK)] H ∧
  ∀ (D : Addr) (qs : List (Addr × (Str × Str))) (H' : Hp), LamX.ExtN H H' → LamX.Tabs [(tp, lamK)] H' → H D = none → H' D = some (.lst (qs.map fun q => V.ref q.1)) → PrAt H' qs → qs.map (·.2) = keptP g ord → Q (.ref D) H'
theorem ok_kept_pairs (T : Txt K mg) (tb : ∀ t ∈ T.tabs, LamX.TabB base mg t.2.1 t.2.2) : FnOk P w K mg base CX0 6 T.f_kept_pairs T.fd_kept_pairs ["order", "held"] (sp_kept_pairs T.tp_kept_pairs) := by
  refine ok_code T.F_kept_pairs T.co_kept_pairs sc_kept_pairs (fun vs H Q E h => ?_) (fun A outer s H vs Q E hr h => ?_)
  · obtain ⟨o, M, zs, ord, g, rfl, _⟩ := h
    rfl
  · obtain ⟨o, M, zs, ord, g, rfl, ho, hM, sub, l6, hT, q⟩ := h
    refine ⟨_, (pss_cons
 (ps_setLc2 (i := 2) (own := [("one", 4), ("other", 5)]) (vs1 := [5]) (g := gName 4) (g1 := gName 5) (tt := tYes) rfl sc_kept_pairs.nd rfl rfl (sw_true rfl rfl rfl (by decide +kernel)) (pi_list (pv 0)) (blkOk_by (own := [("one", 4), ("other", 5)]) (N := ["order", "held", "pairs", "kept", "one", "other"]) (sc := (defScope s_kept_pairs)) (by decide +kernel)) (by decide) (fun _ _ _ _ _ => pg_name (i := 4) sc_kept_pairs.nd rfl (Or.inl rfl)) (fun _ _ _ _ _ => pts_nil) (fun s0 H0 C0 cl0 fp0 => (by have h := ((pi_list (pv 0)) : PI ((cxOf CX0 P w K mg base ["order", "held", "pairs", "kept", "one", "other"] "kept_pairs" (defScope s_kept_pairs) T.f_kept_pairs (.ref T.tc_kept_pairs) A outer s H E).nox.blk s0 H0 (lcScope (rootE ((defBody s_kept_pairs).getD 0 (.Pass ⟨0, 0, 0, 0⟩)))) (compEnvC (lcScope (rootE ((defBody s_kept_pairs).getD 0 (.Pass ⟨0, 0, 0, 0⟩)))) cl0 C0 (cxOf CX0 P w K mg base ["order", "held", "pairs", "kept", "one", "other"] "kept_pairs" (defScope s_kept_pairs) T.f_kept_pairs (.ref T.tc_kept_pairs) A outer s H E).nox.env) fp0) (lcG (rootE ((defBody s_kept_pairs).getD 0 (.Pass ⟨0, 0, 0, 0⟩))) 1).target (lcG (rootE ((defBody s_kept_pairs).getD 0 (.Pass ⟨0, 0, 0, 0⟩))) 1).iter _); dsimp only [Cx.blk, Cx.tr, Cx.suite, Cx.nox, Cx.wish, cxOf] at h; exact h)) (fun _ _ _ _ _ => pg_name (i := 5) sc_kept_pairs.nd rfl (Or.inl rfl)) (fun s0 H0 C0 cl0 fp0 => (by have h := ((pts_one (PW.pt (pw_and (pt_cmpR op_ne (pv 4) (pv 5) (nomark _)) (pw_and1 (pt_cmpR op_gt (pe_dget (hu_of hr) (pv 1) (pe_tup (pa_cons (pv 4) (pa_cons (pv 5) pa_nil))) (fun _ _ => rfl)) pe_int (nomark _)))))) : PTs ((cxOf CX0 P w K mg base ["order", "held", "pairs", "kept", "one", "other"] "kept_pairs" (defScope s_kept_pairs) T.f_kept_pairs (.ref T.tc_kept_pairs) A outer s H E).nox.blk s0 H0 (lcScope (rootE ((defBody s_kept_pairs).getD 0 (.Pass ⟨0, 0, 0, 0⟩)))) (compEnvC (lcScope (rootE ((defBody s_kept_pairs).getD 0 (.Pass ⟨0, 0, 0, 0⟩)))) cl0 C0 (cxOf CX0 P w K mg base ["order", "held", "pairs", "kept", "one", "other"] "kept_pairs" (defScope s_kept_pairs) T.f_kept_pairs (.ref T.tc_kept_pairs) A outer s H E).nox.env) fp0) (lcG (rootE ((defBody s_kept_pairs).getD 0 (.Pass ⟨0, 0, 0, 0⟩))) 1).ifs _); dsimp only [Cx.blk, Cx.tr, Cx.suite, Cx.nox, Cx.wish, cxOf] at h; exact h)) (fun _ _ _ _ _ => (pe_tup (pa_cons (pv 4) (pa_cons (pv 5) pa_nil)))))
 (pss_cons
 (ps_set (i := 3) sc_kept_pairs.nd rfl (Or.inl rfl) (pe_lst pa_nil))
 (pss_cons
 (ps_for PassesOwn.never rfl (pi_list (pe_sortedKey (T := [(T.tp_kept_pairs, ("kept_pairs.<locals>." : Str) ++ "<lambda>")]) (k := 2) (a := "pair") rfl (by rfl) T.z_sorted (pv 2) (show LamX.TabB base mg T.tc_kept_pairs T.tp_kept_pairs from tb ("kept_pairs", T.tc_kept_pairs, T.tp_kept_pairs) (by simp [Txt.tabs])) rfl (List.mem_singleton.mpr rfl) (fun p hp _ => by rw [List.mem_singleton.mp hp] <;> rfl) (hr.mono (by decide)) (lamP_by (sc := defScope s_kept_pairs) (by decide +kernel)) (show ("pair" : Str) ∉ (["order", "held", "pairs", "kept", "one", "other"] : List Str) from by decide) rfl (fun _ _ _ _ _ _ => rfl) (fun s0 H0 f0 c0 hr => (pe_un un_neg (pe_dget (hu_of hr) (pv 1) (pv 6) (fun _ _ => rfl)))))) (pg_tup rfl (pgs_cons (pg_name (i := 4) sc_kept_pairs.nd rfl (Or.inl rfl)) (pgs_cons (pg_name (i := 5) sc_kept_pairs.nd rfl (Or.inl rfl)) pgs_nil)))
 (pss_one
 (ps_if (pt_cmpR op_notIn_seq (pv 4) (pe_call (ok_led_to T) (hr.mono (by decide)) (by rfl) T.g_led_to T.F_led_to.kp T.b_led_to .nil pass0 (pa_cons (pv 3) (pa_cons (pv 5) pa_nil))) rfl)
 (pss_one
 (ps_expr (pe_bm PySem.F.plainAttrs_list PySem.F.slot_list_append PySem.F.type_list_append mt_append (pv 3) (pa_cons (pe_tup (pa_cons (pv 4) (pa_cons (pv 5) pa_nil))) pa_nil))))
 pss_nil)))
 (pss_one
 (ps_ret (pv 3)))))), ?_⟩
    have plen : ∀ i, (posPairs g ord (ord.take i)).length ≤ 36 := fun i => by
      have h1 := pos_len g ord (ord.take i)
      have h2 : (ord.take i).length ≤ 6 := by rw [List.length_take]; omega
      exact Nat.le_trans h1 (Nat.le_trans (Nat.mul_le_mul h2 l6) (by decide))
    refine ⟨.ref o, rfl, o, rfl, ⟨_, .of ho⟩, fun S nS => ?_⟩
    have gd : ∀ {H' : Hp} {u : Addr} {a b : Str}, H' M = some (.dT (tab2 zs g zs)) → a ∈ zs → b ∈ zs → a ≠ b → H' u = some (.tup [.str a, .str b]) → DGet H' M (.ref u) (some (.int (g a b))) := fun {H' u a b} h ma mb ne e => by
      have := DGet.t (k := [.inr a, .inr b]) h e
      rw [tab2_val ma mb ne] at this
      exact this
    refine out_it (walk_list (K := K) (a := o) (xs := ord.map V.str)) (fun i H' => ∃ prs : List (Addr × (Str × Str)), Same H H' ∧ H' S = some (.lst (prs.map fun q => V.ref q.1)) ∧ PrAt H' prs ∧ prs.map (·.2) = posPairs g ord (ord.take i))
      ⟨[], same_upd nS, upd_same, fun _ h => (by cases h), rfl⟩ (fun _ _ _ ⟨_, h, _⟩ => .of (h _ _ ho)) ?_ ?_
    · rintro i x H4 H5 hi ⟨prs, s4, e4, p4, m4⟩ ⟨rfl, hx⟩
      obtain ⟨a, ha, rfl⟩ := item_map hx
      refine ⟨rfl, .ref o, rfl, o, rfl, ⟨_, .of (s4 _ _ ho)⟩, ?_⟩
      refine in_it (walk_list (K := K) (a := o) (xs := ord.map V.str)) (fun j H' => ∃ prs : List (Addr × (Str × Str)), Same H H' ∧ H' S = some (.lst (prs.map fun q => V.ref q.1)) ∧ PrAt H' prs ∧ prs.map (·.2) = posPairs g ord (ord.take i) ++ ((ord.take j).filter fun z => decide (a ≠ z) && decide (g a z > 0)).map fun z => (a, z))
        ⟨prs, s4, e4, p4, by rw [m4]; simp⟩ (fun _ _ _ ⟨_, h, _⟩ => .of (h _ _ ho)) ?_ ?_
      · rintro j y H6 H7 hj ⟨prs, s6, e6, p6, m6⟩ ⟨rfl, hy⟩
        obtain ⟨b, hb, rfl⟩ := item_map hy
        have ft := filter_take (f := fun z => decide (a ≠ z) && decide (g a z > 0)) hb
        have ma := sub _ (List.mem_of_getElem? ha)
        have mb := sub _ (List.mem_of_getElem? hb)
        have lp : prs.length ≤ 1000 - 1 := by
          have a1 := congrArg List.length m6
          rw [List.length_map, List.length_append, List.length_map] at a1
          have a2 := plen i
          have a3 := List.length_filter_le (fun z => decide (a ≠ z) && decide (g a z > 0)) (ord.take j)
          rw [List.length_take] at a3
          omega
        refine ⟨rfl, .str a, rfl, .str b, rfl, rfl, _, rfl, ?_⟩
        by_cases c : a = b
        · rw [show (!decide (V.str a = V.str b)) = false by rw [decide_eq_true (congrArg V.str c)] <;> rfl]
          rw [if_neg (by rw [decide_eq_false (fun h => h c)]; exact Bool.false_ne_true), List.append_nil] at ft
          exact iteF (iteF ⟨prs, s6, e6, p6, by rw [m6, ft]⟩)
        · rw [show (!decide (V.str a = V.str b)) = true by rw [decide_eq_false (fun e => c (V.str.inj e))] <;> rfl]
          refine iteT ?_
          refine ⟨.ref M, rfl, .str a, rfl, .str b, rfl, line_of (show 2 ≤ 1000 by decide), fun u0 nu0 => ?_⟩
          have s7 := same_upd (o := HO.tup [V.str a, V.str b]) nu0
          have et7 : (upd H7 u0 (.tup [V.str a, V.str b])) u0 = some (.tup [V.str a, V.str b]) := upd_same
          generalize upd H7 u0 (.tup [V.str a, V.str b]) = H8 at s7 et7 ⊢
          refine ⟨M, _, rfl, gd ((s6.trans s7) _ _ hM) ma mb c et7, _, _, rfl, rfl, _, rfl, ?_⟩
          have e8 := s7 _ _ e6
          have p8 := p6.same s7
          by_cases d : g a b > 0
          · rw [decide_eq_true d]
            rw [if_pos (by rw [decide_eq_true d, decide_eq_true (show a ≠ b from c)] <;> rfl)] at ft
            refine iteT ?_
            refine ⟨.str a, rfl, .str b, rfl, line_of (show 2 ≤ 1000 by decide), fun u nu => ?_⟩
            have s9 := same_upd (o := HO.tup [V.str a, V.str b]) nu
            have et9 : (upd H8 u (.tup [V.str a, V.str b])) u = some (.tup [V.str a, V.str b]) := upd_same
            have e9 := s9 _ _ e8
            have p9 := (p8.same s9).app (b := [(u, (a, b))]) fun q hq => by rw [List.mem_singleton.mp hq]; exact et9
            generalize upd H8 u (.tup [V.str a, V.str b]) = H9 at s9 et9 e9 p9
            refine ⟨_, e9, small1000 (by rw [List.length_map]; omega), prs ++ [(u, (a, b))], same_mut ((s6.trans s7).trans s9) nS, by rw [upd_same, List.map_append]; rfl, fun q hq => ?_, ?_⟩
            · have := p9 q hq
              rw [upd_ne (fun h => by rw [h, e9] at this; cases this)]
              exact this
            · rw [List.map_append, m6, ft, List.map_append, List.append_assoc]
              rfl
          · rw [decide_eq_false d]
            rw [if_neg (by rw [decide_eq_false d, Bool.and_false]; exact Bool.false_ne_true), List.append_nil] at ft
            exact iteF ⟨prs, s6.trans s7, e8, p8, by rw [m6, ft]⟩
      · rintro H6 ⟨prs, s6, e6, p6, m6⟩
        rw [List.length_map, List.take_length] at m6
        exact ⟨prs, s6, e6, p6, by rw [m6, pos_more ha]⟩
    rintro H4 ⟨prs, s4, e4, p4, m4⟩
    rw [List.length_map, List.take_length] at m4
    dsimp only [gName]
    refine seq_nx ?_
    -- none is kept as yet
    refine ⟨line_of (show 0 ≤ 1000 by decide), fun D nD => ?_⟩
    have s5 := same_upd (o := HO.lst []) nD
    have eD : (upd H4 D (.lst [])) D = some (.lst []) := upd_same
    generalize upd H4 D (.lst []) = H5 at s5 eD ⊢
    have s05 := s4.trans s5
    have nDH := s4.free nD
    have eS5 := s5 _ _ e4
    have p5 := p4.same s5
    refine ⟨.ref S, rfl, hT.ext s05, fun H6 x6 t6 => ?_⟩
    have p6 : PrAt H6 prs := fun q hq => x6 _ _ (p5 q hq) (fun _ e => by cases e)
    have hM6 : H6 M = some (.dT (tab2 zs g zs)) := x6 _ _ (s05 _ _ hM) (fun _ e => by cases e)
    have pin : ∀ q ∈ prs, q.2.1 ∈ ord ∧ q.2.2 ∈ ord ∧ q.2.1 ≠ q.2.2 ∧ g q.2.1 q.2.2 > 0 := fun q hq => mem_pos.mp (by rw [← m4]; exact List.mem_map.mpr ⟨q, hq, rfl⟩)
    refine ⟨S, _, pairW H6 g, rfl, .of (x6 _ _ eS5 (fun _ e => by cases e)), fun v hv => ?_, fun Z nZ => ?_⟩
    · obtain ⟨p, hp, rfl⟩ := List.mem_map.mp hv
      obtain ⟨i1, i2, i3, _⟩ := pin p hp
      refine ⟨.ref M, rfl, .ref p.1, rfl, M, _, rfl, gd hM6 (sub _ i1) (sub _ i2) i3 (p6 p hp), _, rfl, rfl, ?_⟩
      rw [pairW_at (p6 p hp)]
    -- the sorted list
    generalize hqs : prs.mergeSort (fun a b => decide (pairW H6 g (V.ref a.1) ≤ pairW H6 g (V.ref b.1))) = qs
    have eV : (prs.map fun q => V.ref q.1).mergeSort (fun a b => decide (pairW H6 g a ≤ pairW H6 g b)) = qs.map fun q => V.ref q.1 := by
      rw [← hqs]
      exact (List.map_mergeSort (r := fun a b : Addr × (Str × Str) => decide (pairW H6 g (V.ref a.1) ≤ pairW H6 g (V.ref b.1))) (s := fun a b => decide (pairW H6 g a ≤ pairW H6 g b)) (f := fun q : Addr × (Str × Str) => V.ref q.1) (l := prs) (fun a _ b _ => rfl)).symm
    have eP : qs.map (·.2) = sortP g (posPairs g ord ord) := by
      rw [← hqs, ← m4]
      exact List.map_mergeSort (r := fun a b : Addr × (Str × Str) => decide (pairW H6 g (V.ref a.1) ≤ pairW H6 g (V.ref b.1))) (s := fun a b : Str × Str => decide (-(g a.1 a.2) ≤ -(g b.1 b.2))) (f := fun q : Addr × (Str × Str) => q.2) (l := prs) fun a ha b hb => by rw [pairW_at (p6 a ha), pairW_at (p6 b hb)]
    have pmq : qs.Perm prs := by rw [← hqs]; exact List.mergeSort_perm _ _
    rw [eV]
    have s7 := same_upd (o := HO.lst (qs.map fun q => V.ref q.1)) nZ
    have eZ : (upd H6 Z (.lst (qs.map fun q => V.ref q.1))) Z = some (.lst (qs.map fun q => V.ref q.1)) := upd_same
    have x07 : LamX.ExtN H5 (upd H6 Z (.lst (qs.map fun q => V.ref q.1))) := x6.trans (.of s7)
    have t7 := t6.ext s7
    generalize upd H6 Z (.lst (qs.map fun q => V.ref q.1)) = H7 at s7 eZ x07 t7 ⊢
    have eD7 : H7 D = some (.lst []) := x07 _ _ eD (fun _ e => by cases e)
    have p7 : PrAt H7 qs := fun q hq => s7 _ _ (p6 q (pmq.mem_iff.mp hq))
    have x0 : LamX.ExtN H H7 := (LamX.ExtN.of s05).trans x07
    have ZD : Z ≠ D := fun e => by rw [e, x6 _ _ eD (fun _ e => by cases e)] at nZ; cases nZ
    have lqs : qs.length ≤ 36 := by
      have a1 := congrArg List.length m4
      rw [List.length_map] at a1
      have a2 := plen ord.length
      rw [List.take_length] at a2
      rw [pmq.length_eq]
      omega
    refine ⟨Z, rfl, ⟨_, .of eZ⟩, for_list (K := K) (a := Z) (xs := qs.map fun q => V.ref q.1) (fun i σ H' => ∃ (x4 x5 : Option V) (ks : List (Addr × (Str × Str))), σ = [some (.ref o), some (.ref M), some (.ref S), some (.ref D), x4, x5] ∧ (∀ b u, b ≠ D → H7 b = some u → H' b = some u) ∧ H' D = some (.lst (ks.map fun q => V.ref q.1)) ∧ PrAt H' ks ∧ ks.map (·.2) = keepL ((qs.map (·.2)).take i))
      ⟨_, _, [], rfl, fun _ _ _ h => h, eD7, fun _ h => (by cases h), rfl⟩ (fun _ _ _ _ ⟨_, _, _, _, b, _⟩ => .of (b _ _ ZD eZ)) ?_ ?_⟩
    · rintro i v σ H8 hi ⟨x4, x5, ks, rfl, b8, e8, pk8, m8⟩
      obtain ⟨p, hp, rfl⟩ := item_map hi
      have mp := List.mem_of_getElem? hp
      obtain ⟨i1, i2, i3, i4⟩ := pin p (pmq.mem_iff.mp mp)
      have tpD : ∀ {a xs}, H7 a = some (.tup xs) → a ≠ D := fun h e => by rw [e, eD7] at h; cases h
      have tk : (qs.map (·.2)).take (i + 1) = (qs.map (·.2)).take i ++ [p.2] := take_more (by rw [List.getElem?_map, hp] <;> rfl)
      have kin : ∀ r ∈ ks, r.2.1 ∈ ord ∧ r.2.2 ∈ ord := fun r hr => by
        have h1 : r.2 ∈ ks.map (·.2) := List.mem_map.mpr ⟨r, hr, rfl⟩
        rw [m8] at h1
        have h2 := List.mem_of_mem_take (keepL_sub _ _ h1)
        rw [eP] at h2
        have h3 := mem_pos.mp (sortP_mem.mp h2)
        exact ⟨h3.1, h3.2.1⟩
      have lks : ks.length ≤ 36 := by
        have a1 := congrArg List.length m8
        rw [List.length_map] at a1
        have a2 := keepL_len ((qs.map (·.2)).take i)
        rw [List.length_take, List.length_map] at a2
        omega
      refine ⟨p.1, _, rfl, .of (b8 _ _ (tpD (p7 p mp)) (p7 p mp)), rfl, _, _, rfl, _, _, rfl, rfl, ?_⟩
      refine ⟨.str p.2.1, rfl, .ref D, rfl, .str p.2.2, rfl, D, ks, p.2.2, ord, rfl, e8, pk8, l6, i2, fun r hr => (kin r hr).2, fun F ls H9 s9 nF9 eF9 mem9 => ?_⟩
      refine ⟨F, _, rfl, .inl (.of eF9), rfl, flat_strs _, _, rfl, ?_⟩
      rw [inV_str]
      have e9 := s9 _ _ e8
      have b9 : ∀ b u, b ≠ D → H7 b = some u → H9 b = some u := fun b u n h => s9 _ _ (b8 b u n h)
      by_cases c : p.2.1 ∈ ls
      · rw [decide_eq_true c]
        have ld := (mem9 _).mp c
        rw [m8] at ld
        exact iteF ⟨_, _, ks, rfl, b9, e9, pk8.same s9, by rw [tk, keepL_snoc, keepStep_yes ld, m8]⟩
      · rw [decide_eq_false c]
        have ld : ¬ Led (keepL ((qs.map (·.2)).take i)) p.2.2 p.2.1 := fun h => c ((mem9 _).mpr (by rw [m8]; exact h))
        refine iteT ⟨.ref D, rfl, .inl ⟨rfl, _, .of e9⟩, .str p.2.1, rfl, .str p.2.2, rfl, line_of (show 2 ≤ 1000 by decide), fun u nu => ?_⟩
        have s10 := same_upd (o := HO.tup [V.str p.2.1, V.str p.2.2]) nu
        have et : (upd H9 u (.tup [V.str p.2.1, V.str p.2.2])) u = some (.tup [V.str p.2.1, V.str p.2.2]) := upd_same
        generalize upd H9 u (.tup [V.str p.2.1, V.str p.2.2]) = HA at s10 et ⊢
        have eA := s10 _ _ e9
        have pkA := (pk8.same (s9.trans s10)).app (b := [(u, p.2)]) fun q hq => by rw [List.mem_singleton.mp hq]; exact et
        refine ⟨D, _, _, rfl, rfl, eA, small1000 (by rw [List.length_map]; omega), _, _, ks ++ [(u, p.2)], rfl, fun b y n h => by rw [upd_ne n]; exact s10 _ _ (b9 b y n h), by rw [upd_same, List.map_append]; rfl, fun q hq => ?_, ?_⟩
        · have := pkA q hq
          rw [upd_ne (fun h => by rw [h, eA] at this; cases this)]
          exact this
        · rw [List.map_append, m8, tk, keepL_snoc, keepStep_no ld]
          rfl
    · rintro σ H8 ⟨x4, x5, ks, rfl, b8, e8, pk8, m8⟩
      rw [List.length_map, ← List.length_map (f := fun q : Addr × (Str × Str) => q.2), List.take_length, eP] at m8
      refine ⟨.ref D, rfl, q D ks H8 (fun b u h n => b8 b u (ne_of_none h nDH) (x0 b u h n)) (fun t ht => ?_) nDH e8 pk8 m8⟩
      obtain ⟨ps, h1, h2, h3⟩ := t7 t ht
      refine ⟨ps, b8 _ _ (fun e => by rw [e, eD7] at h1; cases h1) h1, h2, fun pos cv hc => ?_⟩
      obtain ⟨c, c1, c2⟩ := h3 pos cv hc
      refine ⟨c, c1, b8 _ _ (fun e => ?_) c2⟩
      rw [e, eD7] at c2
      unfold LamX.CodeO at c2
      cases c2
end
/-! ### the order by pairs -/
def prP (p : Str × Str) : PyData := .tuple [.str p.1, .str p.2]
theorem eqv_prP (p q : Str × Str) : PyData.eqv (prP p) (prP q) = decide (p = q) := by
  have h : PyData.eqv (prP p) (prP q) = (p.1 == q.1 && (p.2 == q.2 && true)) := rfl
  rw [h, Bool.and_true]
  by_cases c : p = q
  · subst c
    rw [decide_eq_true rfl, beq_self_eq_true, beq_self_eq_true] <;> rfl
  · rw [decide_eq_false c]
    refine Bool.eq_false_iff.mpr fun e => c ?_
    rw [Bool.and_eq_true] at e
    exact Prod.ext (eq_of_beq e.1) (eq_of_beq e.2)
theorem any_prP (ps : List (Str × Str)) (q : Str × Str) : ((ps.map prP).any fun z => PyData.eqv z (prP q)) = decide (q ∈ ps) := by
  rw [List.any_map]
  by_cases c : q ∈ ps
  · rw [decide_eq_true c]
    exact List.any_eq_true.mpr ⟨q, c, by show PyData.eqv (prP q) (prP q) = true; rw [eqv_prP, decide_eq_true rfl]⟩
  · rw [decide_eq_false c]
    refine List.any_eq_false.mpr fun p hp => ?_
    show ¬ PyData.eqv (prP p) (prP q) = true
    rw [eqv_prP, decide_eq_false fun e => c (by rw [← e]; exact hp)]
    exact Bool.false_ne_true
theorem shaped_prP {zs : List Str} (okz : ∀ z ∈ zs, NameOk z) {ps : List (Str × Str)} (h : ∀ p ∈ ps, p.1 ∈ zs ∧ p.2 ∈ zs) (l : ps.length ≤ 36) : SeqAt.shaped (.list (ps.map prP)) = true := by
  have one : ∀ d ∈ ps.map prP, Own.Ok 1 40 d := fun d hd => by
    obtain ⟨q, hq, rfl⟩ := List.mem_map.mp hd
    obtain ⟨h1, h2⟩ := h q hq
    exact (OkA.tuple (n := 0) (OkA.cons (m := 8) (ok_small (okz _ h1)) (OkA.cons (m := 8) (ok_small (okz _ h2)) (OkA.nil (m := 0))))).mono (by decide) (by decide)
  exact (OkA.list (OkA.of one)).shaped (by decide)
theorem shaped_one {zs : List Str} (okz : ∀ z ∈ zs, NameOk z) {p : Str × Str} (h1 : p.1 ∈ zs) (h2 : p.2 ∈ zs) : SeqAt.shaped (prP p) = true :=
  ((OkA.tuple (n := 0) (OkA.cons (m := 8) (ok_small (okz _ h1)) (OkA.cons (m := 8) (ok_small (okz _ h2)) (OkA.nil (m := 0))))).mono (n' := 1) (m' := 40) (by decide) (by decide)).shaped (by decide)
theorem PrAt.data {H : Hp} {qs : List (Addr × (Str × Str))} (h : PrAt H qs) : DAll H ((qs.map (·.2)).map prP) (qs.map fun q => V.ref q.1) := by
  rw [List.map_map]
  exact DAll.of_map fun q hq => ⟨q.1, _, rfl, h q hq, DAll.strs [q.2.1, q.2.2]⟩
theorem keptP_len {g : Str → Str → Int} {ord : List Str} (l6 : ord.length ≤ 6) : (keptP g ord).length ≤ 36 := by
  have h1 := keepL_len (sortP g (posPairs g ord ord))
  have h2 : (sortP g (posPairs g ord ord)).length = (posPairs g ord ord).length := List.length_mergeSort _
  have h3 := pos_len g ord ord
  have h4 : ord.length * ord.length ≤ 36 := Nat.le_trans (Nat.mul_le_mul l6 l6) (by decide)
  show (keepL (sortP g (posPairs g ord ord))).length ≤ 36
  omega
def leftO (L : Addr) (_ : L2.St) (H : Hp) : Nat := match H L with
  | some (.lst xs) => xs.length
  | _ => 0
section
variable {P : Program} {w : World} {K : PySem.W.Frag} {mg : Str → Option Value} {base : Heap}
def sp_pairs_order (K : PySem.W.Frag) (C tp : Addr) : Sp := fun vs H Q _ => ∃ (p o u : Addr) (zs : List Str) (rows : List (Bal × Int)) (v : V) (d : PyData) (ord : List Str), vs = [.ref p, v] ∧ PollOk C H p o u zs rows ∧ AnyD K H d v ∧ fewL d ∧ TiesBy zs d ord ∧ LamX.Tabs [(tp, lamK)] H ∧
  ∀ (R : Addr) (H' : Hp), LamX.ExtN H H' → LamX.Tabs [(tp, lamK)] H' → Fresh H R → H' R = some (.tup ((pairsO (marg rows) ord).map V.str)) → Q (.ref R) H'
theorem ok_pairs_order (T : Txt K mg) (tb : ∀ t ∈ T.tabs, LamX.TabB base mg t.2.1 t.2.2) : FnOk P w K mg base CX0 8 T.f_pairs_order T.fd_pairs_order ["poll", "ties"] (sp_pairs_order K T.C_Poll T.tp_kept_pairs) := by
  refine T.F_pairs_order.ok (CX := CX0) sc_pairs_order (fun vs H Q E h => ?_) (fun cdv A outer s H vs Q E hr h => ?_)
  · obtain ⟨p, o, u, zs, rows, v, d, ord, rfl, _⟩ := h
    rfl
  · obtain ⟨p, o, u, zs, rows, v, d, ord, rfl, pk, hd, few, how, hT, q⟩ := h
    refine ⟨_, PSs.nox ((pss_cons
 (ps_set (i := 2) sc_pairs_order.nd rfl (Or.inr rfl) (pe_callTy call_list_of (by rfl) T.z_list (by decide +kernel) (pa_cons (pe_call (ok_order_of_ties T) (hr.mono (by decide)) (by rfl) T.g_order_of_ties T.F_order_of_ties.kp T.b_order_of_ties .nil pass0 (pa_cons (pe_fld (pv 0) rfl) (pa_cons (pv 1) pa_nil))) pa_nil)))
 (pss_cons
 (ps_set (i := 3) sc_pairs_order.nd rfl (Or.inr rfl) (pe_call (ok_kept_pairs T tb) (hr.mono (by decide)) (by rfl) T.g_kept_pairs T.F_kept_pairs.kp T.b_kept_pairs .nil pass0 (pa_cons (pv 2) (pa_cons (pe_call (ok_margins T) (hr.mono (by decide)) (by rfl) T.g_margins T.F_margins.kp T.b_margins .nil pass0 (pa_cons (pv 0) pa_nil)) pa_nil))))
 (pss_cons
 (ps_set (i := 4) sc_pairs_order.nd rfl (Or.inl rfl) (pe_lst pa_nil))
 (pss_cons
 (ps_while PassesOwn.never (pt_truth (pv 2) (by intro _; rfl))
 (pss_cons
 (ps_setLc (i := 5) (own := [("option", 6)]) (g := gName 6) rfl sc_pairs_order.nd rfl rfl (sw_true rfl rfl rfl (by decide +kernel)) (pi_list (pv 2)) (blkOk_by (own := [("option", 6)]) (N := ["poll", "ties", "left", "kept", "found", "free", "option", "above"]) (sc := (defScope s_pairs_order)) (by decide +kernel)) (fun _ _ _ _ _ => pg_name (i := 6) sc_pairs_order.nd rfl (Or.inr rfl)) (fun s0 H0 C0 cl0 fp0 => (by have h := ((pts_one (pt_not (pt_val (pe_callB (cr_any rfl) (by rfl) T.z_any (by decide +kernel) (pa_cons (pe_lc (own := [("above", 7)]) (g := gName 7) (tt := tYes) rfl sc_pairs_order.nd (pi_list (pv 2)) (blkOk_re (blkOk_by (own := [("above", 7)]) (N := ["poll", "ties", "left", "kept", "found", "free", "option", "above"]) (sc := (lcScope (rootE ((blkOf ((defBody s_pairs_order).getD 3 (.Pass ⟨0, 0, 0, 0⟩)) 0).getD 0 (.Pass ⟨0, 0, 0, 0⟩))))) (by decide +kernel))) (fun _ _ _ _ _ => pg_name (i := 7) sc_pairs_order.nd rfl (Or.inl rfl)) (fun _ _ _ _ _ => pts_nil) (fun s1 H1 C1 cl1 fp1 => (by have h := ((pe_cmpR (op_inD (room65 hr)) (pe_tup (pa_cons (pv 7) (pa_cons (pv 6) pa_nil))) (pv 3) rfl) : PE (((cxOf CX0 P w K mg base ["poll", "ties", "left", "kept", "found", "free", "option", "above"] "pairs_order" (defScope s_pairs_order) T.f_pairs_order cdv A outer s H E).nox.blk s0 H0 (lcScope (rootE ((blkOf ((defBody s_pairs_order).getD 3 (.Pass ⟨0, 0, 0, 0⟩)) 0).getD 0 (.Pass ⟨0, 0, 0, 0⟩)))) (compEnvC (lcScope (rootE ((blkOf ((defBody s_pairs_order).getD 3 (.Pass ⟨0, 0, 0, 0⟩)) 0).getD 0 (.Pass ⟨0, 0, 0, 0⟩)))) cl0 C0 (cxOf CX0 P w K mg base ["poll", "ties", "left", "kept", "found", "free", "option", "above"] "pairs_order" (defScope s_pairs_order) T.f_pairs_order cdv A outer s H E).nox.env) fp0).blk s1 H1 (lcScope (subE (subE (subE (rootE ((blkOf ((defBody s_pairs_order).getD 3 (.Pass ⟨0, 0, 0, 0⟩)) 0).getD 0 (.Pass ⟨0, 0, 0, 0⟩))) 3) 0) 1)) (compEnvC (lcScope (subE (subE (subE (rootE ((blkOf ((defBody s_pairs_order).getD 3 (.Pass ⟨0, 0, 0, 0⟩)) 0).getD 0 (.Pass ⟨0, 0, 0, 0⟩))) 3) 0) 1)) cl1 C1 ((cxOf CX0 P w K mg base ["poll", "ties", "left", "kept", "found", "free", "option", "above"] "pairs_order" (defScope s_pairs_order) T.f_pairs_order cdv A outer s H E).nox.blk s0 H0 (lcScope (rootE ((blkOf ((defBody s_pairs_order).getD 3 (.Pass ⟨0, 0, 0, 0⟩)) 0).getD 0 (.Pass ⟨0, 0, 0, 0⟩)))) (compEnvC (lcScope (rootE ((blkOf ((defBody s_pairs_order).getD 3 (.Pass ⟨0, 0, 0, 0⟩)) 0).getD 0 (.Pass ⟨0, 0, 0, 0⟩)))) cl0 C0 (cxOf CX0 P w K mg base ["poll", "ties", "left", "kept", "found", "free", "option", "above"] "pairs_order" (defScope s_pairs_order) T.f_pairs_order cdv A outer s H E).nox.env) fp0).env) fp1) (subE (subE (subE (subE (rootE ((blkOf ((defBody s_pairs_order).getD 3 (.Pass ⟨0, 0, 0, 0⟩)) 0).getD 0 (.Pass ⟨0, 0, 0, 0⟩))) 3) 0) 1) 0) _); dsimp only [Cx.blk, Cx.tr, Cx.suite, Cx.nox, Cx.wish, cxOf] at h; exact h))) pa_nil))))) : PTs ((cxOf CX0 P w K mg base ["poll", "ties", "left", "kept", "found", "free", "option", "above"] "pairs_order" (defScope s_pairs_order) T.f_pairs_order cdv A outer s H E).nox.blk s0 H0 (lcScope (rootE ((blkOf ((defBody s_pairs_order).getD 3 (.Pass ⟨0, 0, 0, 0⟩)) 0).getD 0 (.Pass ⟨0, 0, 0, 0⟩)))) (compEnvC (lcScope (rootE ((blkOf ((defBody s_pairs_order).getD 3 (.Pass ⟨0, 0, 0, 0⟩)) 0).getD 0 (.Pass ⟨0, 0, 0, 0⟩)))) cl0 C0 (cxOf CX0 P w K mg base ["poll", "ties", "left", "kept", "found", "free", "option", "above"] "pairs_order" (defScope s_pairs_order) T.f_pairs_order cdv A outer s H E).nox.env) fp0) (lcIfs (rootE ((blkOf ((defBody s_pairs_order).getD 3 (.Pass ⟨0, 0, 0, 0⟩)) 0).getD 0 (.Pass ⟨0, 0, 0, 0⟩)))) _); dsimp only [Cx.blk, Cx.tr, Cx.suite, Cx.nox, Cx.wish, cxOf] at h; exact h)) (fun _ _ _ _ _ => (pv 6)))
 (pss_cons
 (ps_expr (pe_bm PySem.F.plainAttrs_list PySem.F.slot_list_append PySem.F.type_list_append mt_append (pv 4) (pa_cons (pe_ix ix_list (pv 5) pe_int (fun _ _ => rfl)) pa_nil)))
 (pss_one
 (ps_expr (pe_bm PySem.F.plainAttrs_list PySem.F.slot_list_remove PySem.F.type_list_remove mt_removeS (pv 2) (pa_cons (pe_ix ix_list (pv 5) pe_int (fun _ _ => rfl)) pa_nil)))))))
 (pss_one
 (ps_ret (pe_callTy call_tuple_of (by rfl) T.z_tuple (by decide +kernel) (pa_cons (pv 4) pa_nil))))))))), ?_⟩
    obtain ⟨⟨dx, hp⟩, ho, hrow, ok, rok⟩ := id pk
    have pm := how.perm
    have okn := ok.names
    have l6 : ord.length ≤ 6 := by rw [pm.length_eq]; exact ok.few
    have ndo : ord.Nodup := pm.nodup_iff.mpr ok.nodup
    refine ⟨.ref p, rfl, p, T.C_Poll, dx, _, .ref o, rfl, hp, T.cl_Poll, T.n_Poll_options, pollF_options o u, v, rfl, o, zs, v, d, ord, rfl, ho, hd, few, ok.some, ok.nodup, how, fun w0 H1 s1 hw => ?_⟩
    refine ⟨w0, _, rfl, .inr (.of hw), fun L nL => ?_⟩
    have s2 := same_upd (o := HO.lst (ord.map V.str)) nL
    have eL2 : (upd H1 L (.lst (ord.map V.str))) L = some (.lst (ord.map V.str)) := upd_same
    have nLH := s1.free nL
    generalize upd H1 L (.lst (ord.map V.str)) = H2 at s2 eL2 ⊢
    have s02 := s1.trans s2
    refine ⟨.ref L, rfl, .ref p, rfl, p, o, u, zs, rows, rfl, pk.same s02, fun M H3 s3 nM eM => ?_⟩
    have s03 := s02.trans s3
    refine ⟨L, M, zs, ord, marg rows, rfl, s3 _ _ eL2, eM, fun x hx => pm.mem_iff.mp hx, l6, hT.ext s03, fun D qs H4 x4 t4 nD eD pr em => ?_⟩
    have x04 : LamX.ExtN H H4 := (LamX.ExtN.of s03).trans x4
    have nDH := s03.free nD
    have eL4 := x4 _ _ (s3 _ _ eL2) (fun _ e => by cases e)
    have LD : L ≠ D := fun e => by rw [e] at eL2; rw [s3 _ _ eL2] at nD; cases nD
    refine ⟨line_of (show 0 ≤ 1000 by decide), fun F nF => ?_⟩
    have s5 := same_upd (o := HO.lst []) nF
    have eF : (upd H4 F (.lst [])) F = some (.lst []) := upd_same
    have fF : Fresh H F := fun b o h k => ne_of_none (x04 b o h k) nF
    generalize upd H4 F (.lst []) = H5 at s5 eF ⊢
    have eL5 := s5 _ _ eL4
    have eD5 := s5 _ _ eD
    have pr5 := pr.same s5
    have x05 := x04.trans (LamX.ExtN.of s5)
    have t5 := t4.ext s5
    have LF : L ≠ F := (ne_of_none eL4 nF)
    have DF : D ≠ F := (ne_of_none eD nF)
    have nLm : ∀ {b o}, H1 b = some o → b ≠ L := fun h => ne_of_none h nL
    have fL : Fresh H L := fun b o h _ => nLm (s1 _ _ h)
    have kin : ∀ r ∈ keptP (marg rows) ord, r.1 ∈ ord ∧ r.2 ∈ ord := fun r hr => ⟨(keptP_mem hr).1, (keptP_mem hr).2.1⟩
    have oko : ∀ z ∈ ord, NameOk z := fun z hz => okn z (pm.mem_iff.mp hz)
    have shK := shaped_prP oko kin (keptP_len l6)
    have acy : Acy (keptP (marg rows) ord) := keepL_acy _
    have lenO : ∀ {ls : List Str}, ls.Nodup → (∀ x ∈ ls, x ∈ ord) → ls.length ≤ 6 := fun n h => Own.few l6 n h
    dsimp only [gName]
    refine seq_nx ?_
    refine while_by (fun σ H' => ∃ (x5 x6 x7 : Option V) (fs ls : List Str), σ = [some (.ref p), some v, some (.ref L), some (.ref D), some (.ref F), x5, x6, x7] ∧ LamX.ExtN H H' ∧ LamX.Tabs [(T.tp_kept_pairs, lamK)] H' ∧ H' L = some (.lst (ls.map V.str)) ∧ H' F = some (.lst (fs.map V.str)) ∧
        H' D = some (.lst (qs.map fun q => V.ref q.1)) ∧ PrAt H' qs ∧ ls.Nodup ∧ (∀ x ∈ ls, x ∈ ord) ∧ fs ++ peel (keptP (marg rows) ord) ls.length ls = pairsO (marg rows) ord ∧ fs.length + ls.length = ord.length) (leftO L)
      ⟨none, none, none, [], ord, rfl, x05, t5, eL5, eF, eD5, pr5, ndo, fun x hx => hx, rfl, Nat.zero_add _⟩ ?_ (fun σ H Q Q' imp h => by
        obtain ⟨v, h1, k, h2, h3⟩ := h
        exact ⟨v, h1, k, h2, imp _ _ h3⟩)
    rintro σ H6 ⟨x5, x6, x7, fs, ls, rfl, x06, t6, eL6, eF6, eD6, pr6, lnd, lin, epe, efl⟩
    refine ⟨.ref L, rfl, !(ls.map V.str).isEmpty, .inl ⟨_, .of eL6, rfl⟩, ?_⟩
    by_cases hl : ls = []
    · subst hl
      refine iteF ?_
      refine ⟨.ref F, rfl, F, _, rfl, .inl ⟨.of eF6, fun R nR => ?_⟩⟩
      have e : fs = pairsO (marg rows) ord := by
        rw [← epe]
        exact (List.append_nil _).symm
      refine q R _ (x06.trans (.of (same_upd nR))) (t6.ext (same_upd nR)) (fun b y h k => ne_of_none (x06 b y h k) nR) ?_
      rw [upd_same, e]
    rw [show (!(ls.map V.str).isEmpty) = true by cases ls with
      | nil => exact absurd rfl hl
      | cons a b => rfl]
    refine iteT ?_
    have l6ls := lenO lnd lin
    refine ⟨.ref L, rfl, L, rfl, ⟨_, .of eL6⟩, fun N nN => ?_⟩
    refine lc_list (K := K) (a := L) (xs := ls.map V.str) (fun i H' => Same H6 H' ∧ H' N = some (.lst (((ls.take i).filter (freeIn (keptP (marg rows) ord) ls)).map V.str))) ⟨same_upd nN, upd_same⟩ (fun _ _ _ h => .of (h.1 _ _ eL6)) ?_ ?_
    · rintro i x H7 hi ⟨s7, e7⟩
      obtain ⟨y, hy, rfl⟩ := item_map hi
      have my := lin _ (List.mem_of_getElem? hy)
      have ft := filter_take (f := freeIn (keptP (marg rows) ord) ls) hy
      refine ⟨rfl, .ref L, rfl, L, rfl, ⟨_, .of (s7 _ _ eL6)⟩, fun B nB => ?_⟩
      refine lc_list (K := K) (a := L) (xs := ls.map V.str) (fun j H' => Same H7 H' ∧ H' B = some (.lst (((ls.take j).map fun a => decide ((a, y) ∈ keptP (marg rows) ord)).map V.bl))) ⟨same_upd nB, upd_same⟩ (fun _ _ _ h => .of (h.1 _ _ (s7 _ _ eL6))) ?_ ?_
      · rintro j x H8 hj ⟨s8, e8⟩
        obtain ⟨a, ha, rfl⟩ := item_map hj
        have ma := lin _ (List.mem_of_getElem? ha)
        refine ⟨rfl, .str a, rfl, .str y, rfl, line_of (show 2 ≤ 1000 by decide), fun u nu => ?_⟩
        have s9 := same_upd (o := HO.tup [V.str a, V.str y]) nu
        have et : (upd H8 u (.tup [V.str a, V.str y])) u = some (.tup [V.str a, V.str y]) := upd_same
        generalize upd H8 u (.tup [V.str a, V.str y]) = H9 at s9 et ⊢
        have s79 := s8.trans s9
        have dK := (pr6.same (s7.trans s79)).data
        rw [em] at dK
        refine ⟨.ref D, rfl, prP (a, y), (keptP (marg rows) ord).map prP, DAt.dp (prP (a, y)) ⟨u, _, rfl, et, DAll.strs [a, y]⟩, DAt.dp (.list _) ⟨D, _, rfl, (s7.trans s79) _ _ eD6, dK⟩, shaped_one oko ma my, shK, ?_⟩
        rw [any_prP]
        refine ⟨_, s9 _ _ e8, ?_, same_mut s79 nB, ?_⟩
        · rw [List.length_map, List.length_map, List.length_take]
          exact small1000 (by omega)
        · rw [upd_same, take_more ha, List.map_append, List.map_append]
          rfl
      · rintro H8 ⟨s8, e8⟩
        rw [List.length_map, List.take_length] at e8
        refine ⟨B, _, rfl, .of e8, _, rfl, ?_⟩
        have fr : (!((ls.map fun a => decide ((a, y) ∈ keptP (marg rows) ord)).any id)) = freeIn (keptP (marg rows) ord) ls y := by
          rw [List.any_map]
          rfl
        dsimp only
        rw [fr]
        have s68 := s7.trans s8
        have e78 := s8 _ _ e7
        cases ec : freeIn (keptP (marg rows) ord) ls y with
        | true =>
          rw [if_pos ec] at ft
          refine iteT ⟨.str y, rfl, _, e78, ?_, same_mut s68 nN, ?_⟩
          · rw [List.length_map]
            have := List.length_filter_le (freeIn (keptP (marg rows) ord) ls) (ls.take i)
            rw [List.length_take] at this
            exact small1000 (by omega)
          · rw [upd_same, ft, List.map_append]
            rfl
        | false =>
          rw [if_neg (by rw [ec]; exact Bool.false_ne_true), List.append_nil] at ft
          refine iteF ⟨s68, ?_⟩
          rw [ft]
          exact e78
    rintro H7 ⟨s7, e7⟩
    rw [List.length_map, List.take_length] at e7
    obtain ⟨y0, hy0⟩ : ∃ y, y ∈ ls := by
      cases ls with
      | nil => exact absurd rfl hl
      | cons y l => exact ⟨y, List.mem_cons_self⟩
    obtain ⟨x, fr, ef⟩ := free_some acy hy0
    have mx : x ∈ ls := (List.mem_filter.mp (by rw [ef]; exact List.mem_cons_self)).1
    rw [ef] at e7
    have at0 : atI ((x :: fr).map V.str) 0 = some (.str x) := atI_nat (j := 0) rfl
    have eL7 := s7 _ _ eL6
    have eF7 := s7 _ _ eF6
    have NF : N ≠ F := fun e => by rw [e, eF6] at nN; cases nN
    have NL : N ≠ L := fun e => by rw [e, eL6] at nN; cases nN
    dsimp only [gName]
    refine seq_nx ?_
    refine ⟨.ref F, rfl, .inl ⟨rfl, _, .of eF7⟩, .ref N, rfl, N, _, 0, .str x, rfl, rfl, .of e7, at0, F, _, _, rfl, rfl, eF7, small1000 (by rw [List.length_map]; omega), ?_⟩
    have x07 : LamX.ExtN H (upd H7 F (.lst (fs.map V.str ++ [.str x]))) := ext_clear (x06.trans (.of s7)) fF
    have t7 : LamX.Tabs [(T.tp_kept_pairs, lamK)] (upd H7 F (.lst (fs.map V.str ++ [.str x]))) := tabs_upd eF7 (fun _ e => by cases e) (fun _ e => by cases e) (t6.ext s7)
    have k7 : ∀ b o, b ≠ F → H7 b = some o → (upd H7 F (.lst (fs.map V.str ++ [.str x]))) b = some o := fun b o n h => by rw [upd_ne n]; exact h
    have eF8 : (upd H7 F (.lst (fs.map V.str ++ [.str x]))) F = some (.lst ((fs ++ [x]).map V.str)) := by rw [upd_same, List.map_append] <;> rfl
    generalize upd H7 F (.lst (fs.map V.str ++ [.str x])) = H8 at x07 t7 k7 eF8 ⊢
    have eL8 := k7 _ _ LF eL7
    have e8 := k7 _ _ NF e7
    have jl := List.idxOf_lt_length_of_mem mx
    have hj : ls[ls.idxOf x]? = some x := by rw [List.getElem?_eq_getElem jl, List.getElem_idxOf jl]
    refine ⟨.ref L, rfl, .inl ⟨rfl, _, .of eL8⟩, .ref N, rfl, N, _, 0, .str x, rfl, rfl, .of e8, at0, L, ls, x, ls.idxOf x, rfl, rfl, eL8, hj, fun m hm e => ?_, ?_⟩
    · have := (List.getElem?_inj (i := m) (j := ls.idxOf x) (by omega) lnd).mp (e.trans hj.symm)
      omega
    have ee : ls.eraseIdx (ls.idxOf x) = ls.erase x := (List.erase_eq_eraseIdx_of_idxOf rfl).symm
    rw [ee]
    have eD8 := k7 _ _ DF (s7 _ _ eD6)
    have kL : ∀ b o, b ≠ L → H8 b = some o → (upd H8 L (.lst ((ls.erase x).map V.str))) b = some o := fun b o n h => by rw [upd_ne n]; exact h
    have tpN : ∀ {a xs}, H6 a = some (.tup xs) → (upd H8 L (.lst ((ls.erase x).map V.str))) a = some (.tup xs) := fun {a xs} h => kL _ _ (fun e => by rw [e, eL6] at h; cases h) (k7 _ _ (fun e => by rw [e, eF6] at h; cases h) (s7 _ _ h))
    have ln : ls.length = (ls.erase x).length + 1 := by
      rw [List.length_erase_of_mem mx]
      have := List.length_pos_of_mem mx
      omega
    refine ⟨⟨_, _, _, fs ++ [x], ls.erase x, rfl, ext_clear x07 fL, tabs_upd eL8 (fun _ e => by cases e) (fun _ e => by cases e) t7, upd_same, kL _ _ LF.symm eF8, kL _ _ LD.symm eD8, fun q hq => tpN (pr6 q hq), lnd.erase _, fun y hy => lin y (List.mem_of_mem_erase hy), ?_, by rw [List.length_append]; show fs.length + 1 + _ = _; omega⟩, ?_⟩
    · rw [← epe, ln, peel_cons ef, List.append_assoc]
      rfl
    · show leftO L _ _ < leftO L _ _
      unfold leftO
      rw [upd_same, eL6]
      show ((ls.erase x).map V.str).length < (ls.map V.str).length
      rw [List.length_map, List.length_map]
      omega
end
/-! ### orders that stand -/
/-- from x a way goes onward to the j-th of those behind it, each step m at least -/
inductive Onw (g : Str → Str → Int) (x : Str) (m : Int) (rest : List Str) : Nat → Prop
  | first {j : Nat} {t : Str} : rest[j]? = some t → m ≤ g x t → Onw g x m rest j
  | next {i j : Nat} {s t : Str} : Onw g x m rest i → i < j → rest[i]? = some s → rest[j]? = some t → m ≤ g s t → Onw g x m rest j
def AheadP (g : Str → Str → Int) (x : Str) (rest : List Str) : Prop := ∀ j t, rest[j]? = some t → 0 < g t x → Onw g x (g t x) rest j
def StandsP (g : Str → Str → Int) (ws : List Str) : Prop := ∀ a x, ws[a]? = some x → AheadP g x (ws.drop (a + 1))
theorem onw_iff {g : Str → Str → Int} {x : Str} {m : Int} {rest : List Str} {j : Nat} {t : Str} (h : rest[j]? = some t) : Onw g x m rest j ↔ m ≤ g x t ∨ ∃ i s, i < j ∧ rest[i]? = some s ∧ Onw g x m rest i ∧ m ≤ g s t := by
  constructor
  · intro o
    cases o with
    | first h1 h2 =>
      rw [h] at h1
      rw [Option.some.inj h1]
      exact .inl h2
    | next o l h1 h2 h3 =>
      rw [h] at h2
      rw [Option.some.inj h2]
      exact .inr ⟨_, _, l, h1, o, h3⟩
  · rintro (h1 | ⟨i, s, l, h1, o, h2⟩)
    · exact .first h h1
    · exact .next o l h1 h h2
theorem cut_mid {xs : List V} {a b : Nat} (h : a ≤ b) (l : b ≤ xs.length) : cutV xs (some (a : Int)) (some (b : Int)) = (xs.drop a).take (b - a) := by
  unfold cutV
  rw [HT.sIx_nat, HT.sIx_nat, Nat.min_eq_left l, Nat.min_eq_left (show a ≤ xs.length by omega)]
theorem tab_put_new {ls : List Str} {f : Str → Int} {t : Str} {n : Int} (h : t ∉ ls) : putK (tab ls f) (.inr t) (.int n) = tab (ls ++ [t]) (fun z => if z = t then n else f z) := by
  have none' : valV (tab ls f) (.inr t) = none := by rw [tab_val, if_neg h]
  rw [putK_new _ none']
  unfold tab
  rw [List.map_append]
  have e1 : ls.map (fun z => ((.inr z : Key), V.int (f z))) = ls.map (fun z => ((.inr z : Key), V.int (if z = t then n else f z))) := List.map_congr_left fun z hz => by rw [if_neg (fun e => h (by rw [← e]; exact hz))]
  rw [e1]
  show _ ++ [_] = _ ++ [((.inr t : Key), V.int (if t = t then n else f t))]
  rw [if_pos rfl]
theorem strs_inj : ∀ {a b : List Str}, a.map PyData.str = b.map PyData.str → a = b
  | [], [], _ => rfl
  | [], _ :: _, h => by cases h
  | _ :: _, [], h => by cases h
  | x :: a, y :: b, h => by
    have h := List.cons.inj h
    rw [PyData.str.inj h.1, strs_inj h.2]
section
variable {P : Program} {w : World} {K : PySem.W.Frag} {mg : Str → Option Value} {base : Heap}
def sp_stands_ahead : Sp := fun vs H Q _ => ∃ (t M : Addr) (zs rest : List Str) (x : Str) (g : Str → Str → Int), vs = [.ref t, .ref M] ∧ H t = some (.tup ((x :: rest).map V.str)) ∧ H M = some (.dT (tab2 zs g zs)) ∧ (x :: rest).Nodup ∧ (∀ y ∈ x :: rest, y ∈ zs) ∧ (x :: rest).length ≤ 6 ∧
  ∀ (b : Bool) (H' : Hp), Same H H' → (b = true ↔ AheadP g x rest) → Q (.bl b) H'
theorem ok_stands_ahead (T : Txt K mg) : FnOk P w K mg base CX0 1 T.f_stands_ahead T.fd_stands_ahead ["order", "held"] sp_stands_ahead := by
  refine T.F_stands_ahead.ok sc_stands_ahead (fun vs H Q E h => ?_) (fun cdv A outer s H vs Q E hr h => ?_)
  · obtain ⟨t, M, zs, rest, x, g, rfl, _⟩ := h
    rfl
  · obtain ⟨t, M, zs, rest, x, g, rfl, ht, hM, nd, sub, l6, q⟩ := h
    refine ⟨_, (pss_cons
 (ps_set (i := 2) sc_stands_ahead.nd rfl (Or.inl rfl) (pe_ix ix_tup (pv 0) pe_int (fun _ _ => rfl)))
 (pss_cons
 (ps_set (i := 3) sc_stands_ahead.nd rfl (Or.inr rfl) pe_dnewK)
 (pss_cons
 (ps_for PassesOwn.never rfl (pi_range2 rfl T.z_range (pa_cons pe_int (pa_cons (pe_callB call_len_seq (by rfl) T.z_len (by decide +kernel) (pa_cons (pv 0) pa_nil)) pa_nil))) (pg_name (i := 4) sc_stands_ahead.nd rfl (Or.inl rfl))
 (pss_cons
 (ps_set (i := 5) sc_stands_ahead.nd rfl (Or.inr rfl) (pe_ix ix_tup (pv 0) (pv 4) (fun _ _ => rfl)))
 (pss_cons
 (ps_setLc (i := 6) (own := [("here", 7)]) (g := gName 7) (tt := tYes) rfl sc_stands_ahead.nd rfl rfl (sw_true rfl rfl rfl (by decide +kernel)) (pi_tup (pe_slice sl_tupA (pv 0) (po_some pe_int) (po_some (pv 4)))) (blkOk_by (own := [("here", 7)]) (N := ["order", "held", "first", "reach", "at", "there", "by_others", "here"]) (sc := (defScope s_stands_ahead)) (by decide +kernel)) (fun _ _ _ _ _ => pg_name (i := 7) sc_stands_ahead.nd rfl (Or.inl rfl)) (fun _ _ _ _ _ => pts_nil) (fun s0 H0 C0 cl0 fp0 => (by have h := ((pe_callB (call_min2 rfl) (by rfl) T.z_min (by decide +kernel) (pa_cons (pe_dget (hu_of hr) (pv 3) (pv 7) (fun _ _ => rfl)) (pa_cons (pe_dget (hu_of hr) (pv 1) (pe_tup (pa_cons (pv 7) (pa_cons (pv 5) pa_nil))) (fun _ _ => rfl)) pa_nil))) : PE ((cxOf CX0 P w K mg base ["order", "held", "first", "reach", "at", "there", "by_others", "here"] "stands_ahead" (defScope s_stands_ahead) T.f_stands_ahead cdv A outer s H E).nox.blk s0 H0 (lcScope (rootE ((blkOf ((defBody s_stands_ahead).getD 2 (.Pass ⟨0, 0, 0, 0⟩)) 0).getD 1 (.Pass ⟨0, 0, 0, 0⟩)))) (compEnvC (lcScope (rootE ((blkOf ((defBody s_stands_ahead).getD 2 (.Pass ⟨0, 0, 0, 0⟩)) 0).getD 1 (.Pass ⟨0, 0, 0, 0⟩)))) cl0 C0 (cxOf CX0 P w K mg base ["order", "held", "first", "reach", "at", "there", "by_others", "here"] "stands_ahead" (defScope s_stands_ahead) T.f_stands_ahead cdv A outer s H E).nox.env) fp0) (subE (rootE ((blkOf ((defBody s_stands_ahead).getD 2 (.Pass ⟨0, 0, 0, 0⟩)) 0).getD 1 (.Pass ⟨0, 0, 0, 0⟩))) 0) _); dsimp only [Cx.blk, Cx.tr, Cx.suite, Cx.nox, Cx.wish, cxOf] at h; exact h)))
 (pss_cons
 (ps_dput (hu_of hr) (pv 3) (pv 5) (pe_callB (cr_max rfl) (by rfl) T.z_max (by decide +kernel) (pa_cons (pe_op op_cat (pe_lst (pa_cons (pe_dget (hu_of hr) (pv 1) (pe_tup (pa_cons (pv 2) (pa_cons (pv 5) pa_nil))) (fun _ _ => rfl)) pa_nil)) (pv 6)) pa_nil)) (by rfl))
 (pss_one
 (ps_if (pt_cmpR op_gt (pe_dget (hu_of hr) (pv 1) (pe_tup (pa_cons (pv 5) (pa_cons (pv 2) pa_nil))) (fun _ _ => rfl)) (pe_callB (call_max2 rfl) (by rfl) T.z_max (by decide +kernel) (pa_cons pe_int (pa_cons (pe_dget (hu_of hr) (pv 3) (pv 5) (fun _ _ => rfl)) pa_nil))) (nomark _))
 (pss_one
 (ps_ret pe_bl))
 pss_nil))))))
 (pss_one
 (ps_ret pe_bl))))), ?_⟩
    obtain ⟨nx, ndr⟩ := List.nodup_cons.mp nd
    have lr : rest.length + 1 ≤ 6 := l6
    have gd : ∀ {H' : Hp} {u : Addr} {a b : Str}, H' M = some (.dT (tab2 zs g zs)) → a ∈ x :: rest → b ∈ x :: rest → a ≠ b → H' u = some (.tup [.str a, .str b]) → DGet H' M (.ref u) (some (.int (g a b))) := fun {H' u a b} h ma mb ne e => by
      have := DGet.t (k := [.inr a, .inr b]) h e
      rw [tab2_val (sub _ ma) (sub _ mb) ne] at this
      exact this
    have mx : x ∈ x :: rest := List.mem_cons_self
    refine ⟨.ref t, rfl, t, _, 0, .str x, rfl, rfl, .of ht, atI_nat (j := 0) rfl, fun D nD => ?_⟩
    have s0 := same_upd (o := HO.dK []) nD
    have eD : (upd H D (.dK [])) D = some (.dK []) := upd_same
    generalize upd H D (.dK []) = H0 at s0 eD ⊢
    refine ⟨.ref t, rfl, t, _, rfl, .inr (.of (s0 _ _ ht)), 1, _, rfl, ⟨by decide, by decide, by omega, by rw [List.length_map]; show ((rest.length + 1 : Nat) : Int) < _; omega⟩, ?_⟩
    rw [List.length_map, show (((x :: rest).length : Int) - 1).toNat = rest.length by show (((rest.length + 1 : Nat) : Int) - 1).toNat = _; omega]
    refine for_range (lo := 1) (n := rest.length) (fun i σ H' => ∃ (x4 x5 x6 x7 : Option V) (f : Str → Int), σ = [some (.ref t), some (.ref M), some (.str x), some (.ref D), x4, x5, x6, x7] ∧ Same H H' ∧ H' D = some (.dK (tab (rest.take i) f)) ∧
        (∀ j z, j < i → rest[j]? = some z → ∀ m, m ≤ f z ↔ Onw g x m rest j) ∧ (∀ j z, j < i → rest[j]? = some z → 0 < g z x → Onw g x (g z x) rest j)) ⟨none, none, none, none, fun _ => 0, rfl, s0, by rw [List.take_zero]; exact eD, fun j z h => absurd h (Nat.not_lt_zero _), fun j z h => absurd h (Nat.not_lt_zero _)⟩ ?_ ?_
    · rintro i σ H1 hi ⟨x4, x5, x6, x7, f, rfl, s1, e1, hf, hb⟩
      obtain ⟨z, hz⟩ : ∃ z, rest[i]? = some z := ⟨_, List.getElem?_eq_getElem hi⟩
      have mzr := List.mem_of_getElem? hz
      have mz : z ∈ x :: rest := List.mem_cons_of_mem _ mzr
      have xz : x ≠ z := fun e => nx (by rw [e]; exact mzr)
      have ntk : z ∉ rest.take i := fun h => by
        obtain ⟨j, hj⟩ := List.mem_iff_getElem?.mp h
        have jl : j < i := by
          have := (List.getElem?_eq_some_iff.mp hj).1
          rw [List.length_take] at this
          omega
        rw [List.getElem?_take_of_lt jl] at hj
        have := (List.getElem?_inj (i := j) (j := i) (by omega) ndr).mp (hj.trans hz.symm)
        omega
      have atz : atI ((x :: rest).map V.str) (1 + (i : Int)) = some (.str z) := by
        rw [show (1 + (i : Int)) = ((i + 1 : Nat) : Int) by omega]
        exact atI_nat (j := i + 1) (by rw [List.getElem?_map, List.getElem?_cons_succ, hz] <;> rfl)
      refine ⟨.ref t, rfl, .int (1 + (i : Int)), rfl, t, _, _, .str z, rfl, rfl, .of (s1 _ _ ht), atz, ?_⟩
      refine ⟨.ref t, rfl, 1, rfl, .int (1 + (i : Int)), rfl, _, rfl, ?_⟩
      refine slX_of (s1 _ _ ht) fun c H2 hc s2 => ?_
      have ec : cutV ((x :: rest).map V.str) (some 1) (some (1 + (i : Int))) = (rest.take i).map V.str := by
        rw [show (1 + (i : Int)) = ((i + 1 : Nat) : Int) by omega, show (some (1 : Int)) = some ((1 : Nat) : Int) from rfl, cut_mid (by omega) (by rw [List.length_map]; show i + 1 ≤ rest.length + 1; omega), ← List.map_drop, ← List.map_take]
        rfl
      rw [ec] at hc
      have s12 := s1.trans s2
      have e2 := s2 _ _ e1
      refine ⟨c, rfl, ⟨_, .of hc⟩, fun B nB => ?_⟩
      have mn : ∀ {a b : Int}, (if b < a then b else a) = min a b := fun {a b} => by
        rw [Int.min_def]
        split <;> split <;> omega
      refine lc_tup (K := K) (a := c) (xs := (rest.take i).map V.str) (fun j H' => Same H2 H' ∧ H' B = some (.lst ((((rest.take i).take j).map fun y => min (f y) (g y z)).map V.int))) ⟨same_upd nB, upd_same⟩ (fun _ _ _ h => .of (h.1 _ _ hc)) ?_ ?_
      · rintro j v H3 hj ⟨s3, e3⟩
        obtain ⟨y, hy, rfl⟩ := item_map hj
        have myr : y ∈ rest.take i := List.mem_of_getElem? hy
        have my : y ∈ x :: rest := List.mem_cons_of_mem _ (List.mem_of_mem_take myr)
        have yz : y ≠ z := fun e => ntk (by rw [← e]; exact myr)
        have got : DGet H3 D (.str y) (some (.int (f y))) := by
          have := DGet.k (k := .inr y) ((s3 _ _ e2))
          rw [tab_val, if_pos myr] at this
          exact this
        refine ⟨rfl, .ref D, rfl, .str y, rfl, D, _, rfl, got, .ref M, rfl, .str y, rfl, .str z, rfl, line_of (show 2 ≤ 1000 by decide), fun u nu => ?_⟩
        have s4 := same_upd (o := HO.tup [V.str y, V.str z]) nu
        have et : (upd H3 u (.tup [V.str y, V.str z])) u = some (.tup [V.str y, V.str z]) := upd_same
        have e4 := s4 _ _ e3
        generalize upd H3 u (.tup [V.str y, V.str z]) = H4 at s4 et e4 ⊢
        have s24 := s3.trans s4
        refine ⟨M, _, rfl, gd ((s12.trans s24) _ _ hM) my mz yz et, _, _, rfl, _, e4, ?_, same_mut s24 nB, ?_⟩
        · rw [List.length_map, List.length_map, List.length_take, List.length_take]
          exact small1000 (by omega)
        · rw [upd_same, take_more hy, List.map_append, List.map_append, mn]
          rfl
      · rintro H3 ⟨s3, e3⟩
        rw [List.length_map, List.take_length] at e3
        have s13 := s12.trans s3
        have e3D := s3 _ _ e2
        dsimp only [gName]
        refine seq_nx ?_
        refine ⟨.ref M, rfl, .str x, rfl, .str z, rfl, line_of (show 2 ≤ 1000 by decide), fun u nu => ?_⟩
        have s4 := same_upd (o := HO.tup [V.str x, V.str z]) nu
        have et : (upd H3 u (.tup [V.str x, V.str z])) u = some (.tup [V.str x, V.str z]) := upd_same
        have e4 := s4 _ _ e3
        generalize upd H3 u (.tup [V.str x, V.str z]) = H4 at s4 et e4 ⊢
        have s14 := s13.trans s4
        refine ⟨M, _, rfl, gd (s14 _ _ hM) mx mz xz et, line_of (show 1 ≤ 1000 by decide), fun l nl => ?_⟩
        have s5 := same_upd (o := HO.lst [V.int (g x z)]) nl
        have el : (upd H4 l (.lst [V.int (g x z)])) l = some (.lst ([g x z].map V.int)) := upd_same
        have e5 := s5 _ _ e4
        generalize upd H4 l (.lst [V.int (g x z)]) = H5 at s5 el e5 ⊢
        have s15 := s14.trans s5
        refine ⟨.ref B, rfl, l, B, _, _, rfl, rfl, el, e5, line_of (by rw [List.length_map, List.length_map, List.length_map, List.length_take]; show 1 + _ ≤ 1000; omega), fun c2 nc2 => ?_⟩
        have s6 := same_upd (o := HO.lst ([g x z].map V.int ++ ((rest.take i).map fun y => min (f y) (g y z)).map V.int)) nc2
        have e6 : (upd H5 c2 (.lst ([g x z].map V.int ++ ((rest.take i).map fun y => min (f y) (g y z)).map V.int))) c2 = some (.lst ((g x z :: (rest.take i).map fun y => min (f y) (g y z)).map V.int)) := upd_same
        generalize upd H5 c2 (.lst ([g x z].map V.int ++ ((rest.take i).map fun y => min (f y) (g y z)).map V.int)) = H6 at s6 e6 ⊢
        have s16 := s15.trans s6
        have s36 := (s4.trans s5).trans s6
        refine ⟨c2, _, rfl, .of e6, Nat.succ_pos _, fun m hm hle => ?_⟩
        have e6D := s36 _ _ e3D
        have lti : (rest.take i).length = i := by rw [List.length_take]; omega
        refine ⟨.ref D, rfl, .str z, rfl, D, _, rfl, DPut.k (k := .inr z) e6D (small1000 (by rw [tab_len]; omega)), ?_⟩
        rw [tab_put_new ntk, ← take_more hz]
        have nDH : H D = none := nD
        have s7 : Same H (upd H6 D (.dK (tab (rest.take (i + 1)) fun y => if y = z then m else f y))) := same_mut s16 nDH
        have eD7 : (upd H6 D (.dK (tab (rest.take (i + 1)) fun y => if y = z then m else f y))) D = some (.dK (tab (rest.take (i + 1)) fun y => if y = z then m else f y)) := upd_same
        generalize upd H6 D (.dK (tab (rest.take (i + 1)) fun y => if y = z then m else f y)) = H7 at s7 eD7 ⊢
        -- what m is
        have hm2 : ∀ k, k ≤ m ↔ Onw g x k rest i := fun k => by
          rw [onw_iff hz]
          constructor
          · intro hk
            rcases List.mem_cons.mp hm with e | hm
            · exact .inl (by omega)
            · obtain ⟨y, hy, e⟩ := List.mem_map.mp hm
              obtain ⟨j, hj⟩ := List.mem_iff_getElem?.mp hy
              have jl : j < i := by
                have := (List.getElem?_eq_some_iff.mp hj).1
                omega
              rw [List.getElem?_take_of_lt jl] at hj
              exact .inr ⟨j, y, jl, hj, (hf j y jl hj k).mp (by omega), by omega⟩
          · rintro (h | ⟨j, y, jl, hj, o, h⟩)
            · have := hle _ List.mem_cons_self
              omega
            · have h1 := (hf j y jl hj k).mpr o
              have := hle (min (f y) (g y z)) (List.mem_cons_of_mem _ (List.mem_map.mpr ⟨y, List.mem_of_getElem? (i := j) (by rw [List.getElem?_take_of_lt jl]; exact hj), rfl⟩))
              omega
        refine ⟨.ref M, rfl, .str z, rfl, .str x, rfl, line_of (show 2 ≤ 1000 by decide), fun u8 nu8 => ?_⟩
        have s8 := same_upd (o := HO.tup [V.str z, V.str x]) nu8
        have et8 : (upd H7 u8 (.tup [V.str z, V.str x])) u8 = some (.tup [V.str z, V.str x]) := upd_same
        generalize upd H7 u8 (.tup [V.str z, V.str x]) = H8 at s8 et8 ⊢
        have s08 := s7.trans s8
        have got8 : DGet H8 D (.str z) (some (.int m)) := by
          have := DGet.k (k := .inr z) (s8 _ _ eD7)
          rw [tab_val, if_pos (by rw [take_more hz]; exact List.mem_append_right _ List.mem_cons_self), if_pos rfl] at this
          exact this
        refine ⟨M, _, rfl, gd (s08 _ _ hM) mz mx xz.symm et8, .ref D, rfl, .str z, rfl, D, _, rfl, got8, _, _, rfl, _, _, rfl, rfl, _, rfl, ?_⟩
        by_cases bad : g z x > (if m > 0 then m else 0)
        · rw [decide_eq_true bad]
          refine iteT (q false H8 s08 ⟨fun e => (by cases e), fun A => ?_⟩)
          have gp : 0 < g z x := by split at bad <;> omega
          have := (hm2 _).mpr (A i z hz gp)
          split at bad <;> omega
        · rw [decide_eq_false bad]
          refine iteF ⟨_, _, _, _, _, rfl, s08, s8 _ _ eD7, fun j y jl hj k => ?_, fun j y jl hj gp => ?_⟩
          · by_cases c : j = i
            · subst c
              rw [hz] at hj
              rw [if_pos (Option.some.inj hj).symm]
              exact hm2 k
            · have ji : j < i := by omega
              have yz : y ≠ z := fun e => by
                rw [e] at hj
                have := (List.getElem?_inj (i := j) (j := i) (by omega) ndr).mp (hj.trans hz.symm)
                omega
              rw [if_neg yz]
              exact hf j y ji hj k
          · by_cases c : j = i
            · subst c
              rw [hz] at hj
              have e := Option.some.inj hj
              subst e
              refine (hm2 _).mp ?_
              split at bad <;> omega
            · exact hb j y (by omega) hj gp
    · rintro σ H1 ⟨x4, x5, x6, x7, f, rfl, s1, e1, hf, hb⟩
      exact q true H1 s1 ⟨fun _ j z hj => hb j z (List.getElem?_eq_some_iff.mp hj).1 hj, fun _ => rfl⟩
/-- told of anything whether it is an order that stands -/
def sp_shows_stands (K : PySem.W.Frag) (C : Addr) : Sp := fun vs H Q _ => ∃ (p o u : Addr) (zs : List Str) (rows : List (Bal × Int)) (v : V) (d : PyData), vs = [.ref p, v] ∧ PollOk C H p o u zs rows ∧ AnyD K H d v ∧ fewL d ∧
  ∀ (b : Bool) (H' : Hp), Same H H' → (b = true ↔ ∃ ws : List Str, d = .tuple (ws.map PyData.str) ∧ ws.Perm zs ∧ StandsP (marg rows) ws) → Q (.bl b) H'
theorem ok_shows_stands (T : Txt K mg) : FnOk P w K mg base CX0 5 T.f_shows_stands T.fd_shows_stands ["poll", "order"] (sp_shows_stands K T.C_Poll) := by
  refine T.F_shows_stands.ok sc_shows_stands (fun vs H Q E h => ?_) (fun cdv A outer s H vs Q E hr h => ?_)
  · obtain ⟨p, o, u, zs, rows, v, d, rfl, _⟩ := h
    rfl
  · obtain ⟨p, o, u, zs, rows, v, d, rfl, pk, hd, few, q⟩ := h
    refine ⟨_, (pss_cons
 (ps_if (pt_not (pt_val (pe_call (ok_is_order T) (hr.mono (by decide)) (by rfl) T.g_is_order T.F_is_order.kp T.b_is_order .nil pass0 (pa_cons (pe_fld (pv 0) rfl) (pa_cons (pv 1) pa_nil)))))
 (pss_one
 (ps_ret pe_bl))
 pss_nil)
 (pss_cons
 (ps_set (i := 2) sc_shows_stands.nd rfl (Or.inr rfl) (pe_call (ok_margins T) (hr.mono (by decide)) (by rfl) T.g_margins T.F_margins.kp T.b_margins .nil pass0 (pa_cons (pv 0) pa_nil)))
 (pss_one
 (ps_ret (pe_callB (cr_all rfl) (by rfl) T.z_all (by decide +kernel) (pa_cons (pe_lc (own := [("at", 3)]) (g := gName 3) (tt := tYes) rfl sc_shows_stands.nd (pi_range1 rfl T.z_range (pa_cons (pe_callB call_len_seq (by rfl) T.z_len (by decide +kernel) (pa_cons (pv 1) pa_nil)) pa_nil)) (blkOk_by (own := [("at", 3)]) (N := ["poll", "order", "held", "at"]) (sc := (defScope s_shows_stands)) (by decide +kernel)) (fun _ _ _ _ _ => pg_name (i := 3) sc_shows_stands.nd rfl (Or.inl rfl)) (fun _ _ _ _ _ => pts_nil) (fun s0 H0 C0 cl0 fp0 => (by have h := ((pe_call (ok_stands_ahead T) (hr.mono (by decide)) (by rfl) T.g_stands_ahead T.F_stands_ahead.kp T.b_stands_ahead .nil pass0 (pa_cons (pe_slice sl_tupA (pv 1) (po_some (pv 3)) po_none) (pa_cons (pv 2) pa_nil))) : PE ((cxOf CX0 P w K mg base ["poll", "order", "held", "at"] "shows_stands" (defScope s_shows_stands) T.f_shows_stands cdv A outer s H E).nox.blk s0 H0 (lcScope (subE (rootE ((defBody s_shows_stands).getD 2 (.Pass ⟨0, 0, 0, 0⟩))) 1)) (compEnvC (lcScope (subE (rootE ((defBody s_shows_stands).getD 2 (.Pass ⟨0, 0, 0, 0⟩))) 1)) cl0 C0 (cxOf CX0 P w K mg base ["poll", "order", "held", "at"] "shows_stands" (defScope s_shows_stands) T.f_shows_stands cdv A outer s H E).nox.env) fp0) (subE (subE (rootE ((defBody s_shows_stands).getD 2 (.Pass ⟨0, 0, 0, 0⟩))) 1) 0) _); dsimp only [Cx.blk, Cx.tr, Cx.suite, Cx.nox, Cx.wish, cxOf] at h; exact h))) pa_nil)))))), ?_⟩
    obtain ⟨⟨dx, hp⟩, ho, hrow, ok, rok⟩ := id pk
    refine ⟨.ref p, rfl, p, T.C_Poll, dx, _, .ref o, rfl, hp, T.cl_Poll, T.n_Poll_options, pollF_options o u, v, rfl, o, zs, v, d, rfl, ho, hd, few, ok.some, fun H1 s1 => ⟨_, rfl, ?_⟩⟩
    cases c : orderD zs d with
    | false =>
      refine iteT (q false H1 s1 ⟨fun e => (by cases e), fun ⟨ws, e, pm, _⟩ => ?_⟩)
      rw [e, order_strs ok.nodup pm] at c
      cases c
    | true =>
      refine iteF ?_
      obtain ⟨ws, rfl, pm⟩ := order_is ok.nodup c
      obtain ⟨w0, rfl, hw⟩ := hd.of_strs fun e => ok.some (by rw [e] at pm; exact (List.Perm.nil_eq pm).symm)
      have nd : ws.Nodup := pm.nodup_iff.mpr ok.nodup
      have l6 : ws.length ≤ 6 := by rw [pm.length_eq]; exact ok.few
      refine ⟨.ref p, rfl, p, o, u, zs, rows, rfl, pk.same s1, fun M H2 s2 nM eM => ?_⟩
      have s02 := s1.trans s2
      refine ⟨.ref w0, rfl, w0, _, rfl, .inr (.of (s02 _ _ hw)), _, rfl, by omega, by rw [List.length_map]; omega, fun B nB => ?_⟩
      rw [List.length_map]
      refine lc_range (n := ws.length) (fun i H' => ∃ bs : List Bool, Same H2 H' ∧ H' B = some (.lst (bs.map V.bl)) ∧ bs.length = i ∧ ∀ j b x, bs[j]? = some b → ws[j]? = some x → (b = true ↔ AheadP (marg rows) x (ws.drop (j + 1)))) ⟨[], same_upd nB, upd_same, rfl, fun j b x h => by cases h⟩ ?_ ?_
      · rintro i H3 hi ⟨bs, s3, e3, lb, hb⟩
        obtain ⟨x, hx⟩ : ∃ x, ws[i]? = some x := ⟨_, List.getElem?_eq_getElem hi⟩
        have ed : ws.drop i = x :: ws.drop (i + 1) := by
          rw [List.drop_eq_getElem_cons hi]
          rw [List.getElem?_eq_getElem hi] at hx
          rw [Option.some.inj hx]
        have s23 := s02.trans s3
        refine ⟨rfl, .ref w0, rfl, .int (0 + (i : Int)), rfl, _, rfl, ?_⟩
        dsimp only [tNoPart]
        refine slX_of (s23 _ _ hw) fun c1 H4 e4 s4 => ?_
        rw [show (0 + (i : Int)) = ((i : Nat) : Int) by omega, cut_from (xs := ws.map V.str) (k := i) (by rw [List.length_map]; omega), ← List.map_drop, ed] at e4
        have s34 := s3.trans s4
        refine ⟨.ref M, rfl, c1, M, zs, ws.drop (i + 1), x, marg rows, rfl, e4, s34 _ _ eM, by rw [← ed]; exact nd.sublist (List.drop_sublist _ _), fun y hy => pm.mem_iff.mp (List.mem_of_mem_drop (i := i) (by rw [ed]; exact hy)), by rw [← ed, List.length_drop]; omega, fun b H5 s5 hbb => ?_⟩
        refine ⟨_, (s4.trans s5) _ _ e3, ?_, bs ++ [b], same_mut (s34.trans s5) nB, by rw [upd_same, List.map_append] <;> rfl, by rw [List.length_append, lb] <;> rfl, fun j b' y hj hy => ?_⟩
        · rw [List.length_map, lb]
          exact small1000 (by omega)
        · by_cases cj : j < i
          · rw [List.getElem?_append_left (by omega)] at hj
            exact hb j b' y hj hy
          · have jl := (List.getElem?_eq_some_iff.mp hj).1
            rw [List.length_append, lb] at jl
            have : j = i := by
              have : j < i + 1 := jl
              omega
            subst this
            rw [List.getElem?_append_right (by omega), lb, Nat.sub_self] at hj
            cases hj
            rw [hx] at hy
            cases hy
            exact hbb
      · rintro H3 ⟨bs, s3, e3, lb, hb⟩
        refine ⟨B, bs, rfl, .of e3, ?_⟩
        refine q _ H3 (s02.trans s3) ?_
        rw [List.all_eq_true]
        constructor
        · intro al
          refine ⟨ws, rfl, pm, fun a x hx => ?_⟩
          have al' : a < bs.length := by rw [lb]; exact (List.getElem?_eq_some_iff.mp hx).1
          exact (hb a bs[a] x (List.getElem?_eq_getElem al') hx).mp (al _ (List.getElem_mem al'))
        · rintro ⟨ws', e, _, st⟩ b hbm
          have e' : ws' = ws := (strs_inj (PyData.tuple.inj e)).symm
          subst e'
          obtain ⟨a, ha⟩ := List.mem_iff_getElem?.mp hbm
          have al' : a < ws'.length := by rw [← lb]; exact (List.getElem?_eq_some_iff.mp ha).1
          exact (hb a b _ ha (List.getElem?_eq_getElem al')).mpr (st a _ (List.getElem?_eq_getElem al'))
end
/-! ### orders that stand, in plain words -/
theorem keepL_grow (ps1 ps2 : List (Str × Str)) : ∀ p ∈ keepL ps1, p ∈ keepL (ps1 ++ ps2) := by
  refine snocI (M := fun ps2 => ∀ p ∈ keepL ps1, p ∈ keepL (ps1 ++ ps2)) (fun p h => by rw [List.append_nil]; exact h) (fun ps2 q ih => ?_) ps2
  intro p h
  rw [← List.append_assoc, keepL_snoc]
  by_cases c : Led (keepL (ps1 ++ ps2)) q.2 q.1
  · rw [keepStep_yes c]
    exact ih p h
  · rw [keepStep_no c]
    exact List.mem_append_left _ (ih p h)
theorem kept_or_led {p : Str × Str} : ∀ {ps : List (Str × Str)}, p ∈ ps → p ∈ keepL ps ∨ ∃ ps1 ps2, ps = ps1 ++ p :: ps2 ∧ Led (keepL ps1) p.2 p.1 := by
  intro ps h
  obtain ⟨ps1, ps2, e⟩ := List.append_of_mem h
  by_cases c : Led (keepL ps1) p.2 p.1
  · exact .inr ⟨ps1, ps2, e, c⟩
  · refine .inl ?_
    rw [e, show ps1 ++ p :: ps2 = (ps1 ++ [p]) ++ ps2 by simp]
    refine keepL_grow _ _ p ?_
    rw [keepL_snoc, keepStep_no c]
    exact List.mem_append_right _ List.mem_cons_self
theorem sortP_pair {g : Str → Str → Int} {ps : List (Str × Str)} : (sortP g ps).Pairwise fun a b => g b.1 b.2 ≤ g a.1 a.2 := by
  have h := List.pairwise_mergeSort (le := fun a b : Str × Str => decide (-(g a.1 a.2) ≤ -(g b.1 b.2))) (fun a b c h1 h2 => by
    have h1 := of_decide_eq_true h1
    have h2 := of_decide_eq_true h2
    exact decide_eq_true (by omega)) (fun a b => by
    rw [Bool.or_eq_true, decide_eq_true_eq, decide_eq_true_eq]
    omega) ps
  exact h.imp fun h => by
    have := of_decide_eq_true h
    omega
theorem sortP_ahead {g : Str → Str → Int} {ps ps1 ps2 : List (Str × Str)} {p : Str × Str} (e : sortP g ps = ps1 ++ p :: ps2) : (∀ q ∈ ps1, g p.1 p.2 ≤ g q.1 q.2) ∧ ∀ q ∈ ps2, g q.1 q.2 ≤ g p.1 p.2 := by
  have h := sortP_pair (g := g) (ps := ps)
  rw [e, List.pairwise_append] at h
  exact ⟨fun q hq => h.2.2 q hq p List.mem_cons_self, fun q hq => (List.pairwise_cons.mp h.2.1).1 q hq⟩
/-! ### the order that pairs leave keeps them -/
theorem peel_keeps {k : List (Str × Str)} (A : Acy k) : ∀ (n : Nat) (left : List Str), left.length = n → left.Nodup → ∀ a b, (a, b) ∈ k → a ∈ left → b ∈ left → (peel k n left).idxOf a < (peel k n left).idxOf b
  | 0, left, h, _, a, _, _, ha, _ => by
    rw [List.length_eq_zero_iff.mp h] at ha
    cases ha
  | n + 1, left, h, nd, a, b, m, ha, hb => by
    obtain ⟨x, fr, e⟩ := free_some A ha
    have fx := List.mem_filter.mp (show x ∈ left.filter (freeIn k left) by rw [e]; exact List.mem_cons_self)
    have bx : x ≠ b := fun eb => (freeIn_iff.mp fx.2) a ha (by rw [eb]; exact m)
    rw [peel_cons e, List.idxOf_cons, List.idxOf_cons]
    rw [show (x == b) = false from beq_eq_false_iff_ne.mpr bx, cond_false]
    by_cases ax : x = a
    · rw [show (x == a) = true from beq_iff_eq.mpr ax, cond_true]
      omega
    · rw [show (x == a) = false from beq_eq_false_iff_ne.mpr ax, cond_false]
      have ih := peel_keeps A n (left.erase x) (by rw [List.length_erase_of_mem fx.1]; omega) (nd.erase _) a b m ((List.mem_erase_of_ne (Ne.symm ax)).mpr ha) ((List.mem_erase_of_ne (Ne.symm bx)).mpr hb)
      omega
theorem idx_at {l : List Str} (nd : l.Nodup) {i : Nat} {a : Str} (h : l[i]? = some a) : l.idxOf a = i := by
  obtain ⟨hi, e⟩ := List.getElem?_eq_some_iff.mp h
  rw [← e]
  exact nd.idxOf_getElem i hi
theorem at_idx {l : List Str} {a : Str} (h : a ∈ l) : l[l.idxOf a]? = some a := by
  have hl := List.idxOf_lt_length_of_mem h
  rw [List.getElem?_eq_getElem hl, List.getElem_idxOf hl]
/-- forward pairs of some weight make a way onward -/
theorem led_onw {g : Str → Str → Int} {k : List (Str × Str)} {P : List Str} {x : Str} {m : Int} {a : Nat} (nd : P.Nodup) (ha : P[a]? = some x) (sub : ∀ p ∈ k, p.2 ∈ P) (fw : ∀ p ∈ k, P.idxOf p.1 < P.idxOf p.2) (wt : ∀ p ∈ k, m ≤ g p.1 p.2) {t : Str} (h : Led k x t) :
    t = x ∨ (a < P.idxOf t ∧ t ∈ P ∧ Onw g x m (P.drop (a + 1)) (P.idxOf t - (a + 1))) := by
  induction h with
  | refl => exact .inl rfl
  | @step b c h1 h2 ih =>
    have f := fw _ h2
    have w := wt _ h2
    have mc := sub _ h2
    have f : P.idxOf b < P.idxOf c := f
    have at_ : (P.drop (a + 1))[P.idxOf c - (a + 1)]? = some c → True := fun _ => trivial
    rcases ih with e | ⟨i1, i2, o⟩
    · rw [e, idx_at nd ha] at f
      refine .inr ⟨f, mc, .first (t := c) ?_ (by rw [← e]; exact w)⟩
      rw [List.getElem?_drop, show a + 1 + (P.idxOf c - (a + 1)) = P.idxOf c by omega]
      exact at_idx mc
    · refine .inr ⟨by omega, mc, .next (s := b) (t := c) o (by omega) ?_ ?_ w⟩
      · rw [List.getElem?_drop, show a + 1 + (P.idxOf b - (a + 1)) = P.idxOf b by omega]
        exact at_idx i2
      · rw [List.getElem?_drop, show a + 1 + (P.idxOf c - (a + 1)) = P.idxOf c by omega]
        exact at_idx mc
theorem pairsO_forward {g : Str → Str → Int} {ord : List Str} (nd : ord.Nodup) {p : Str × Str} (h : p ∈ keptP g ord) : (pairsO g ord).idxOf p.1 < (pairsO g ord).idxOf p.2 :=
  peel_keeps (keepL_acy _) _ _ rfl nd p.1 p.2 h (keptP_mem h).1 (keptP_mem h).2.1
theorem pairsO_stands {g : Str → Str → Int} {ord : List Str} (nd : ord.Nodup) : StandsP g (pairsO g ord) := by
  have pm := pairsO_perm g ord
  have ndP : (pairsO g ord).Nodup := pm.nodup_iff.mpr nd
  intro a x ha j t hj gp
  rw [List.getElem?_drop] at hj
  have mx := pm.mem_iff.mp (List.mem_of_getElem? ha)
  have mt := pm.mem_iff.mp (List.mem_of_getElem? hj)
  have ia := idx_at ndP ha
  have ij := idx_at ndP hj
  have tx : t ≠ x := fun e => by rw [e, ia] at ij; omega
  have mp : (t, x) ∈ sortP g (posPairs g ord ord) := sortP_mem.mpr (mem_pos.mpr ⟨mt, mx, tx, gp⟩)
  rcases kept_or_led mp with h | ⟨ps1, ps2, e, led⟩
  · have := pairsO_forward nd h
    have : (pairsO g ord).idxOf t < (pairsO g ord).idxOf x := this
    omega
  · have up : ∀ p ∈ keepL ps1, p ∈ keptP g ord := fun p hp => by
      show p ∈ keepL (sortP g (posPairs g ord ord))
      rw [e]
      exact keepL_grow _ _ p hp
    rcases led_onw (g := g) (m := g t x) ndP ha (fun p hp => pm.mem_iff.mpr (keptP_mem (up p hp)).2.1) (fun p hp => pairsO_forward nd (up p hp)) (fun p hp => (sortP_ahead e).1 p (keepL_sub _ p hp)) led with e1 | ⟨_, _, o⟩
    · exact absurd e1 tx
    · rw [ij, show a + 1 + j - (a + 1) = j by omega] at o
      exact o
/-! ### twice as great -/
theorem onw_two {g : Str → Str → Int} {x : Str} {m : Int} {rest : List Str} {j : Nat} : Onw (fun a b => 2 * g a b) x (2 * m) rest j ↔ Onw g x m rest j := by
  constructor
  · intro o
    induction o with
    | first h1 h2 => exact .first h1 (by have : 2 * m ≤ 2 * g _ _ := h2; omega)
    | next _ l h1 h2 h3 ih => exact .next ih l h1 h2 (by have : 2 * m ≤ 2 * g _ _ := h3; omega)
  · intro o
    induction o with
    | first h1 h2 => exact .first h1 (by show 2 * m ≤ 2 * g _ _; omega)
    | next _ l h1 h2 h3 ih => exact .next ih l h1 h2 (by show 2 * m ≤ 2 * g _ _; omega)
theorem stands_two {g : Str → Str → Int} {ws : List Str} : StandsP (fun a b => 2 * g a b) ws ↔ StandsP g ws :=
  ⟨fun h a x ha j t hj gp => onw_two.mp (h a x ha j t hj (by show 0 < 2 * g t x; omega)), fun h a x ha j t hj gp => onw_two.mpr (h a x ha j t hj (by have : 0 < 2 * g t x := gp; omega))⟩
theorem pairsO_two (g : Str → Str → Int) (ord : List Str) : pairsO (fun a b => 2 * g a b) ord = pairsO g ord := by
  have e1 : posPairs (fun a b => 2 * g a b) ord ord = posPairs g ord ord := by
    unfold posPairs
    refine congrArg (fun f => ord.flatMap f) ?_
    funext y
    refine congrArg (List.map _) (List.filter_congr fun z _ => ?_)
    refine congrArg _ (decide_eq_decide.mpr ?_)
    show 2 * g y z > 0 ↔ g y z > 0
    omega
  have e2 : sortP (fun a b => 2 * g a b) (posPairs g ord ord) = sortP g (posPairs g ord ord) := by
    unfold sortP
    refine congrArg (fun le : Str × Str → Str × Str → Bool => List.mergeSort (posPairs g ord ord) le) ?_
    funext a b
    refine decide_eq_decide.mpr ?_
    show -(2 * g a.1 a.2) ≤ -(2 * g b.1 b.2) ↔ -(g a.1 a.2) ≤ -(g b.1 b.2)
    omega
  unfold pairsO keptP
  rw [e1, e2]
/-! ### what an order that stands tells -/
section
variable {g : Str → Str → Int} {ws : List Str}
theorem near_ok (anti : ∀ a b, g b a = -(g a b)) (st : StandsP g ws) {i : Nat} {x t : Str} (h1 : ws[i]? = some x) (h2 : ws[i + 1]? = some t) : ¬ 0 < g t x := fun gp => by
  have o := st i x h1 0 t (by rw [List.getElem?_drop]; exact h2) gp
  cases o with
  | first h3 h4 =>
    rw [List.getElem?_drop, h2] at h3
    rw [← Option.some.inj h3] at h4
    have e := anti x t
    omega
  | next _ l => exact absurd l (Nat.not_lt_zero _)
/-- the last step of a way onward -/
theorem onw_last {x : Str} {m : Int} {rest : List Str} {j : Nat} {t : Str} (ht : rest[j]? = some t) (o : Onw g x m rest j) : ∃ s, (s = x ∨ ∃ i, i < j ∧ rest[i]? = some s) ∧ m ≤ g s t := by
  cases o with
  | first h1 h2 =>
    rw [ht] at h1
    exact ⟨x, .inl rfl, by rw [Option.some.inj h1]; exact h2⟩
  | next _ l h1 h2 h3 =>
    rw [ht] at h2
    exact ⟨_, .inr ⟨_, l, h1⟩, by rw [Option.some.inj h2]; exact h3⟩
/-- and its first -/
theorem onw_first {x : Str} {m : Int} {rest : List Str} {j : Nat} (o : Onw g x m rest j) : ∃ i s, i ≤ j ∧ rest[i]? = some s ∧ m ≤ g x s := by
  induction o with
  | @first j t h1 h2 => exact ⟨j, t, Nat.le_refl _, h1, h2⟩
  | next _ l _ _ _ ih =>
    obtain ⟨i, s, h1, h2, h3⟩ := ih
    exact ⟨i, s, by omega, h2, h3⟩
theorem leader_first (anti : ∀ a b, g b a = -(g a b)) (nd : ws.Nodup) (st : StandsP g ws) {i : Nat} {y : Str} (hy : ws[i]? = some y) (ld : ∀ z ∈ ws, z ≠ y → 0 < g y z) : i = 0 := by
  refine Classical.byContradiction fun ni => ?_
  have h0 : 0 < ws.length := by have := (List.getElem?_eq_some_iff.mp hy).1; omega
  obtain ⟨x, hx⟩ : ∃ x, ws[0]? = some x := ⟨_, List.getElem?_eq_getElem h0⟩
  have xy : x ≠ y := fun e => ni ((List.getElem?_inj (i := i) (j := 0) (List.getElem?_eq_some_iff.mp hy).1 nd).mp (by rw [hy, hx, e]))
  have gp := ld x (List.mem_of_getElem? hx) xy
  have hj : (ws.drop (0 + 1))[i - 1]? = some y := by rw [List.getElem?_drop, show 0 + 1 + (i - 1) = i by omega]; exact hy
  obtain ⟨s, hs, hm⟩ := onw_last hj (st 0 x hx (i - 1) y hj gp)
  have : s ∈ ws ∧ s ≠ y := by
    rcases hs with e | ⟨k, hk, h⟩
    · rw [e]
      exact ⟨List.mem_of_getElem? hx, xy⟩
    · rw [List.getElem?_drop] at h
      refine ⟨List.mem_of_getElem? h, fun e => ?_⟩
      rw [e] at h
      have := (List.getElem?_inj (i := 0 + 1 + k) (j := i) (List.getElem?_eq_some_iff.mp h).1 nd).mp (by rw [h, hy])
      omega
  have := ld s this.1 this.2
  have e := anti y s
  omega
theorem trailer_last (anti : ∀ a b, g b a = -(g a b)) (nd : ws.Nodup) (st : StandsP g ws) {i : Nat} {y : Str} (hy : ws[i]? = some y) (tr : ∀ z ∈ ws, z ≠ y → 0 < g z y) : i = ws.length - 1 := by
  refine Classical.byContradiction fun ni => ?_
  have il := (List.getElem?_eq_some_iff.mp hy).1
  obtain ⟨t, ht⟩ : ∃ t, ws[i + 1]? = some t := ⟨_, List.getElem?_eq_getElem (by omega)⟩
  have ne : ∀ {k : Nat} {s : Str}, ws[k]? = some s → k ≠ i → s ≠ y := fun {k s} h n e => n ((List.getElem?_inj (i := k) (j := i) (List.getElem?_eq_some_iff.mp h).1 nd).mp (by rw [h, hy, e]))
  have gp := tr t (List.mem_of_getElem? ht) (ne ht (by omega))
  obtain ⟨k, s, _, hs, hm⟩ := onw_first (st i y hy 0 t (by rw [List.getElem?_drop]; exact ht) gp)
  rw [List.getElem?_drop] at hs
  have := tr s (List.mem_of_getElem? hs) (ne hs (by omega))
  have e := anti y s
  omega
theorem rev_at {l : List Str} {i : Nat} {a : Str} (h : l.reverse[i]? = some a) : i < l.length ∧ l[l.length - 1 - i]? = some a := by
  have hi := (List.getElem?_eq_some_iff.mp h).1
  rw [List.length_reverse] at hi
  rw [List.getElem?_reverse hi] at h
  exact ⟨hi, h⟩
/-- a way onward, told by places in the whole order; each step so much at least -/
inductive Fwd (g : Str → Str → Int) (m : Int) (ws : List Str) : Nat → Nat → Prop
  | one {i j : Nat} {s t : Str} : i < j → ws[i]? = some s → ws[j]? = some t → m ≤ g s t → Fwd g m ws i j
  | more {i j k : Nat} {s t : Str} : Fwd g m ws i j → j < k → ws[j]? = some s → ws[k]? = some t → m ≤ g s t → Fwd g m ws i k
theorem Fwd.cons {m : Int} {i j k : Nat} {s t : Str} (l : i < j) (h1 : ws[i]? = some s) (h2 : ws[j]? = some t) (h3 : m ≤ g s t) (f : Fwd g m ws j k) : Fwd g m ws i k := by
  induction f with
  | one l2 a b c =>
    rw [a] at h2
    exact .more (.one l h1 a (by rw [Option.some.inj h2]; exact h3)) l2 a b c
  | more _ l2 a b c ih => exact .more ih l2 a b c
theorem fwd_of {x : Str} {m : Int} {a j : Nat} (hx : ws[a]? = some x) (o : Onw g x m (ws.drop (a + 1)) j) : Fwd g m ws a (a + 1 + j) := by
  induction o with
  | first h1 h2 =>
    rw [List.getElem?_drop] at h1
    exact .one (by omega) hx h1 h2
  | next _ l h1 h2 h3 ih =>
    rw [List.getElem?_drop] at h1 h2
    exact .more ih (by omega) h1 h2 h3
theorem of_fwd {x : Str} {m : Int} {a j : Nat} (hx : ws[a]? = some x) (f : Fwd g m ws a j) : a < j ∧ Onw g x m (ws.drop (a + 1)) (j - (a + 1)) := by
  induction f with
  | @one j s t l h1 h2 h3 =>
    rw [hx] at h1
    exact ⟨l, .first (t := t) (by rw [List.getElem?_drop, show a + 1 + (j - (a + 1)) = j by omega]; exact h2) (by rw [Option.some.inj h1]; exact h3)⟩
  | @more j k s t _ l h1 h2 h3 ih =>
    obtain ⟨i1, i2⟩ := ih
    exact ⟨by omega, .next (s := s) (t := t) i2 (by omega) (by rw [List.getElem?_drop, show a + 1 + (j - (a + 1)) = j by omega]; exact h1) (by rw [List.getElem?_drop, show a + 1 + (k - (a + 1)) = k by omega]; exact h2) h3⟩
theorem fwd_rev {g' : Str → Str → Int} (anti : ∀ a ∈ ws, ∀ b ∈ ws, g' b a = g a b) {m : Int} {i j : Nat} (f : Fwd g m ws i j) : i < j ∧ j < ws.length ∧ Fwd g' m ws.reverse (ws.length - 1 - j) (ws.length - 1 - i) := by
  have at_ : ∀ {i : Nat} {s : Str}, ws[i]? = some s → ws.reverse[ws.length - 1 - i]? = some s := fun {i s} h => by
    have hi := (List.getElem?_eq_some_iff.mp h).1
    rw [List.getElem?_reverse (by omega), show ws.length - 1 - (ws.length - 1 - i) = i by omega]
    exact h
  induction f with
  | @one j s t l h1 h2 h3 =>
    have := (List.getElem?_eq_some_iff.mp h2).1
    exact ⟨l, this, .one (by omega) (at_ h2) (at_ h1) (by rw [anti _ (List.mem_of_getElem? h1) _ (List.mem_of_getElem? h2)]; exact h3)⟩
  | @more j k s t _ l h1 h2 h3 ih =>
    have := (List.getElem?_eq_some_iff.mp h2).1
    exact ⟨by omega, this, .cons (by omega) (at_ h2) (at_ h1) (by rw [anti _ (List.mem_of_getElem? h1) _ (List.mem_of_getElem? h2)]; exact h3) ih.2.2⟩
/-- turned about it stands by the margins turned about -/
theorem stands_rev {g' : Str → Str → Int} (anti : ∀ a ∈ ws, ∀ b ∈ ws, g' b a = g a b) (st : StandsP g ws) : StandsP g' ws.reverse := by
  intro a x ha j t hj gp
  rw [List.getElem?_drop] at hj
  obtain ⟨l1, ha'⟩ := rev_at ha
  obtain ⟨l2, hj'⟩ := rev_at hj
  have e := anti x (List.mem_of_getElem? ha') t (List.mem_of_getElem? hj')
  have hjj : (ws.drop (ws.length - 1 - (a + 1 + j) + 1))[j]? = some x := by
    rw [List.getElem?_drop, show ws.length - 1 - (a + 1 + j) + 1 + j = ws.length - 1 - a by omega]
    exact ha'
  have o := st _ t hj' j x hjj (by rw [← e]; exact gp)
  have f := fwd_of hj' o
  rw [show ws.length - 1 - (a + 1 + j) + 1 + j = ws.length - 1 - a by omega] at f
  obtain ⟨_, _, r⟩ := fwd_rev anti f
  rw [show ws.length - 1 - (ws.length - 1 - a) = a by omega, show ws.length - 1 - (ws.length - 1 - (a + 1 + j)) = a + 1 + j by omega] at r
  have q := (of_fwd ha r).2
  rw [show a + 1 + j - (a + 1) = j by omega] at q
  rw [e]
  exact q
end
/-! ### where all margins are unlike, one order stands alone -/
theorem led_fw {k : List (Str × Str)} {P : List Str} (fw : ∀ p ∈ k, P.idxOf p.1 < P.idxOf p.2) {a b : Str} (h : Led k a b) : a = b ∨ P.idxOf a < P.idxOf b := by
  induction h with
  | refl => exact .inl rfl
  | step _ m ih =>
    have f := fw _ m
    rcases ih with e | l
    · rw [e]
      exact .inr f
    · exact .inr (Nat.lt_trans l f)
theorem stands_only {g : Str → Str → Int} {ord ws : List Str} (nd : ord.Nodup) (all : ∀ x ∈ ord, ∀ y ∈ ord, x ≠ y → 0 < g x y ∨ 0 < g y x) (diff : ∀ p ∈ posPairs g ord ord, ∀ q ∈ posPairs g ord ord, g p.1 p.2 = g q.1 q.2 → p = q)
    (pm : ws.Perm ord) (st : StandsP g ws) : ws = pairsO g ord := by
  have ndw : ws.Nodup := pm.nodup_iff.mpr nd
  have inw : ∀ {x}, x ∈ ord → x ∈ ws := fun h => pm.mem_iff.mpr h
  have fwA : ∀ ps1, (∃ ps2, sortP g (posPairs g ord ord) = ps1 ++ ps2) → ∀ q ∈ keepL ps1, ws.idxOf q.1 < ws.idxOf q.2 := by
    refine snocI (M := fun ps1 => (∃ ps2, sortP g (posPairs g ord ord) = ps1 ++ ps2) → ∀ q ∈ keepL ps1, ws.idxOf q.1 < ws.idxOf q.2) (fun _ q h => by cases h) fun ps1 p ih => ?_
    rintro ⟨ps2, e⟩ q hq
    have e : sortP g (posPairs g ord ord) = ps1 ++ p :: ps2 := by rw [e]; simp
    have ih := ih ⟨p :: ps2, e⟩
    rw [keepL_snoc] at hq
    by_cases c : Led (keepL ps1) p.2 p.1
    · rw [keepStep_yes c] at hq
      exact ih q hq
    rw [keepStep_no c] at hq
    rcases List.mem_append.mp hq with hq | hq
    · exact ih q hq
    rw [List.mem_singleton.mp hq]
    have mp := sortP_mem.mp (show p ∈ sortP g (posPairs g ord ord) by rw [e]; exact List.mem_append_right _ List.mem_cons_self)
    obtain ⟨m1, m2, ne, gp⟩ := mem_pos.mp mp
    have i1 := at_idx (inw m1)
    have i2 := at_idx (inw m2)
    refine Classical.byContradiction fun nl => c ?_
    have lt : ws.idxOf p.2 < ws.idxOf p.1 := by
      have : ws.idxOf p.2 ≠ ws.idxOf p.1 := fun h => by
        rw [h, i1] at i2
        exact ne (Option.some.inj i2)
      omega
    have stepIn : ∀ {i k : Nat} {s t : Str}, i < k → ws[i]? = some s → ws[k]? = some t → g p.1 p.2 ≤ g s t → (s, t) ∈ keepL ps1 := fun {i k s t} l h1 h2 h3 => by
      have j1 := idx_at ndw h1
      have j2 := idx_at ndw h2
      have sne : s ≠ t := fun e => by rw [e] at j1; omega
      have ms : (s, t) ∈ sortP g (posPairs g ord ord) := sortP_mem.mpr (mem_pos.mpr ⟨pm.mem_iff.mp (List.mem_of_getElem? h1), pm.mem_iff.mp (List.mem_of_getElem? h2), sne, by show 0 < g s t; omega⟩)
      have notp : (s, t) ≠ p := fun e => by
        rw [← e] at lt
        have : ws.idxOf t < ws.idxOf s := lt
        omega
      have ms2 := ms
      rw [e] at ms2
      rcases List.mem_append.mp ms2 with h | h
      · rcases kept_or_led h with k1 | ⟨a, b, e2, ld⟩
        · exact k1
        · rcases led_fw (P := ws) (fun q hq => ih q (by rw [e2]; exact keepL_grow _ _ q hq)) ld with e3 | l3
          · exact absurd e3.symm sne
          · have : ws.idxOf t < ws.idxOf s := l3
            omega
      · rcases List.mem_cons.mp h with e2 | h
        · exact absurd e2 notp
        · have := (sortP_ahead e).2 _ h
          have : g s t ≤ g p.1 p.2 := this
          exact absurd (diff (s, t) (sortP_mem.mp ms) p mp (by show g s t = _; omega)) notp
    have ld : ∀ {i k : Nat}, Fwd g (g p.1 p.2) ws i k → ∀ s t, ws[i]? = some s → ws[k]? = some t → Led (keepL ps1) s t := fun {i k} f => by
      induction f with
      | one l h1 h2 h3 =>
        intro s t hs ht
        rw [h1] at hs
        rw [h2] at ht
        cases hs
        cases ht
        exact .one (stepIn l h1 h2 h3)
      | more _ l h1 h2 h3 ih2 =>
        intro s t hs ht
        rw [h2] at ht
        cases ht
        exact .step (ih2 s _ hs h1) (stepIn l h1 h2 h3)
    have hx : (ws.drop (ws.idxOf p.2 + 1))[ws.idxOf p.1 - (ws.idxOf p.2 + 1)]? = some p.1 := by
      rw [List.getElem?_drop, show ws.idxOf p.2 + 1 + (ws.idxOf p.1 - (ws.idxOf p.2 + 1)) = ws.idxOf p.1 by omega]
      exact i1
    have f := fwd_of i2 (st _ _ i2 _ _ hx gp)
    rw [show ws.idxOf p.2 + 1 + (ws.idxOf p.1 - (ws.idxOf p.2 + 1)) = ws.idxOf p.1 by omega] at f
    exact ld f _ _ i2 i1
  have fwK : ∀ q ∈ keptP g ord, ws.idxOf q.1 < ws.idxOf q.2 := fwA _ ⟨[], (List.append_nil _).symm⟩
  have pmP := pairsO_perm g ord
  have ndP : (pairsO g ord).Nodup := pmP.nodup_iff.mpr nd
  refine List.Perm.eq_of_pairwise (le := fun x y => (pairsO g ord).idxOf x < (pairsO g ord).idxOf y) (fun a b _ _ h1 h2 => absurd h1 (by omega)) ?_ ?_ (pm.trans pmP.symm)
  · refine List.pairwise_iff_getElem.mpr fun i j hi hj l => ?_
    have h1 : ws[i]? = some ws[i] := List.getElem?_eq_getElem hi
    have h2 : ws[j]? = some ws[j] := List.getElem?_eq_getElem hj
    generalize ws[i] = s at h1 ⊢
    generalize ws[j] = t at h2 ⊢
    have j1 := idx_at ndw h1
    have j2 := idx_at ndw h2
    have sne : s ≠ t := fun e => by rw [e] at j1; omega
    have ms := pm.mem_iff.mp (List.mem_of_getElem? h1)
    have mt := pm.mem_iff.mp (List.mem_of_getElem? h2)
    rcases all s ms t mt sne with gp | gp
    · rcases kept_or_led (sortP_mem.mpr (mem_pos.mpr ⟨ms, mt, sne, gp⟩) : (s, t) ∈ sortP g (posPairs g ord ord)) with h | ⟨a, b, e, ld⟩
      · exact pairsO_forward nd (p := (s, t)) h
      · rcases led_fw (P := ws) (fun q hq => fwK q (by show q ∈ keepL (sortP g (posPairs g ord ord)); rw [e]; exact keepL_grow _ _ q hq)) ld with e3 | l3
        · exact absurd e3.symm sne
        · have : ws.idxOf t < ws.idxOf s := l3
          omega
    · rcases kept_or_led (sortP_mem.mpr (mem_pos.mpr ⟨mt, ms, sne.symm, gp⟩) : (t, s) ∈ sortP g (posPairs g ord ord)) with h | ⟨a, b, e, ld⟩
      · have := fwK (t, s) h
        have : ws.idxOf t < ws.idxOf s := this
        omega
      · rcases led_fw (P := pairsO g ord) (fun q hq => pairsO_forward nd (p := q) (by show q ∈ keepL (sortP g (posPairs g ord ord)); rw [e]; exact keepL_grow _ _ q hq)) ld with e3 | l3
        · exact absurd e3 sne
        · exact l3
  · refine List.pairwise_iff_getElem.mpr fun i j hi hj l => ?_
    rw [ndP.idxOf_getElem i hi, ndP.idxOf_getElem j hj]
    exact l
/-- the first one of an order that stands comes to all, unlost -/
theorem stands_top {g : Str → Str → Int} {zs ws : List Str} (anti : ∀ a b, g b a = -(g a b)) (pm : ws.Perm zs) (st : StandsP g ws) {x : Str} (hx : ws[0]? = some x) : topB g zs x = true := by
  have inz : ∀ {y}, y ∈ ws → y ∈ zs := fun h => pm.mem_iff.mp h
  refine topB_iff.mpr fun y hy => ?_
  obtain ⟨j, hj⟩ := List.mem_iff_getElem?.mp (pm.mem_iff.mpr hy)
  by_cases c : j = 0
  · subst c
    rw [hx] at hj
    rw [← Option.some.inj hj]
    exact .refl (inz (List.mem_of_getElem? hx))
  by_cases gp : 0 < g y x
  · have o := st 0 x hx (j - 1) y (by rw [List.getElem?_drop, show 0 + 1 + (j - 1) = j by omega]; exact hj) gp
    have key : ∀ i, Onw g x (g y x) (ws.drop (0 + 1)) i → ∀ t, (ws.drop (0 + 1))[i]? = some t → Reach g zs x t := fun i o => by
      induction o with
      | first h1 h2 =>
        intro t ht
        rw [h1] at ht
        cases ht
        exact Reach.step (.refl (inz (List.mem_of_getElem? hx))) (inz (List.mem_of_mem_drop (List.mem_of_getElem? h1))) (by omega)
      | next _ l h1 h2 h3 ih =>
        intro t ht
        rw [h2] at ht
        cases ht
        exact Reach.step (ih _ h1) (inz (List.mem_of_mem_drop (List.mem_of_getElem? h2))) (by omega)
    exact key _ o y (by rw [List.getElem?_drop, show 0 + 1 + (j - 1) = j by omega]; exact hj)
  · have e := anti x y
    exact Reach.step (.refl (inz (List.mem_of_getElem? hx))) hy (by omega)
/-! ### all ballots turned about -/
theorem place_rev {ts : List (List Str)} {z : Str} (nd : ts.flatten.Nodup) (hz : z ∈ ts.flatten) : place ts.reverse z = ts.length - 1 - place ts z := by
  have l := place_lt hz
  have ht : ts[place ts z]? = some ts[place ts z] := List.getElem?_eq_getElem l
  refine place_at ((List.Perm.flatten (List.reverse_perm ts)).nodup_iff.mpr nd) (t := ts[place ts z]) ?_ (place_mem ht rfl)
  rw [List.getElem?_reverse (by omega), show ts.length - 1 - (ts.length - 1 - place ts z) = place ts z by omega]
  exact ht
theorem sg_iff {a b c d : Int} (h1 : a < b ↔ d < c) (h2 : b < a ↔ c < d) : sg c d = -(sg a b) := by
  unfold sg
  by_cases x : a < b
  · rw [if_pos x, if_neg (by have := h1.mp x; omega), if_pos (h1.mp x)]
  · by_cases y : b < a
    · rw [if_pos (h2.mp y), if_neg x, if_pos y]
      omega
    · have n1 : ¬ d < c := fun k => x (h1.mpr k)
      have n2 : ¬ c < d := fun k => y (h2.mpr k)
      rw [if_neg n2, if_neg n1, if_neg x, if_neg y]
      omega
theorem sg_turned {zs : List Str} {b : Bal} {ls : List Int} (nd : zs.Nodup) (h : Lev zs b.rk ls) {y z : Str} (hy : y ∈ zs) (hz : z ∈ zs) : sg ((Bal.order (cutBy zs b.rk ls).reverse).rk y) ((Bal.order (cutBy zs b.rk ls).reverse).rk z) = -(sg (b.rk y) (b.rk z)) := by
  have n := cut_nodup (f := b.rk) nd h.1
  have py := place_rev n ((cut_mem h y).mpr hy)
  have pz := place_rev n ((cut_mem h z).mpr hz)
  have ly := place_lt ((cut_mem h y).mpr hy)
  have lz := place_lt ((cut_mem h z).mpr hz)
  have c1 := cut_place nd h hy hz
  have c2 := cut_place nd h hz hy
  show sg ((place (cutBy zs b.rk ls).reverse y : Nat) : Int) ((place (cutBy zs b.rk ls).reverse z : Nat) : Int) = _
  rw [py, pz]
  refine sg_iff ?_ ?_
  · rw [c1]
    omega
  · rw [c2]
    omega
theorem turn_ok {zs : List Str} {b : Bal} {ls : List Int} (nd : zs.Nodup) (h : Lev zs b.rk ls) : (Bal.order (cutBy zs b.rk ls).reverse).Ok zs :=
  ⟨(List.Perm.flatten (List.reverse_perm _)).nodup_iff.mpr (cut_nodup nd h.1), fun z hz => (cut_mem h z).mp ((List.Perm.flatten (List.reverse_perm _)).mem_iff.mp hz), fun t ht => cut_ne h t (List.mem_reverse.mp ht)⟩
/-- each ballot of the one is the other's turned about -/
def TurnOf (zs : List Str) : List (Bal × Int) → List (Bal × Int) → Prop
  | [], [] => True
  | r :: rs, q :: qs => (∀ y ∈ zs, ∀ z ∈ zs, sg (q.1.rk y) (q.1.rk z) = -(sg (r.1.rk y) (r.1.rk z))) ∧ q.2 = r.2 ∧ TurnOf zs rs qs
  | _, _ => False
theorem turn_snoc {zs : List Str} : ∀ {rs qs : List (Bal × Int)} {r q : Bal × Int}, TurnOf zs rs qs → (∀ y ∈ zs, ∀ z ∈ zs, sg (q.1.rk y) (q.1.rk z) = -(sg (r.1.rk y) (r.1.rk z))) → q.2 = r.2 → TurnOf zs (rs ++ [r]) (qs ++ [q])
  | [], [], _, _, _, h1, h2 => ⟨h1, h2, trivial⟩
  | [], _ :: _, _, _, h, _, _ => h.elim
  | _ :: _, [], _, _, h, _, _ => h.elim
  | _ :: _, _ :: _, _, _, h, h1, h2 => ⟨h.1, h.2.1, turn_snoc h.2.2 h1 h2⟩
theorem turn_marg {zs : List Str} : ∀ {rs qs : List (Bal × Int)}, TurnOf zs rs qs → ∀ y ∈ zs, ∀ z ∈ zs, marg qs y z = -(marg rs y z)
  | [], [], _, _, _, _, _ => rfl
  | [], _ :: _, h, _, _, _, _ => h.elim
  | _ :: _, [], h, _, _, _, _ => h.elim
  | r :: rs, q :: qs, h, y, hy, z, hz => by
    have ih := turn_marg h.2.2 y hy z hz
    show q.2 * sg (q.1.rk y) (q.1.rk z) + marg qs y z = -(r.2 * sg (r.1.rk y) (r.1.rk z) + marg rs y z)
    rw [h.1 y hy z hz, h.2.1, ih, Int.mul_neg]
    omega
section
variable {P : Program} {w : World} {K : PySem.W.Frag} {mg : Str → Option Value} {base : Heap}
def sp_law_turned (C : Addr) : Sp := fun vs H Q _ => ∃ (p o u : Addr) (zs : List Str) (rows : List (Bal × Int)), vs = [.ref p] ∧ PollOk C H p o u zs rows ∧
  ∀ (pp u' : Addr) (rows' : List (Bal × Int)) (H' : Hp), Same H H' → PollOk C H' pp o u' zs rows' → (∀ y ∈ zs, ∀ z ∈ zs, marg rows' y z = -(marg rows y z)) → Q (.ref pp) H'
theorem ok_law_turned (T : Txt K mg) : FnOk P w K mg base CX0 9 T.f_law_turned T.fd_law_turned ["_law_p"] (sp_law_turned T.C_Poll) := by
  refine T.F_law_turned.ok sc_law_turned (fun vs H Q E h => ?_) (fun cdv A outer s H vs Q E hr h => ?_)
  · obtain ⟨p, o, u, zs, rows, rfl, _⟩ := h
    rfl
  · obtain ⟨p, o, u, zs, rows, rfl, pk, q⟩ := h
    refine ⟨_, (pss_cons
 (ps_setLc (i := 1) (own := [("_law_ballot_here", 2), ("_law_number", 3)]) (tt := tYes) rfl sc_law_turned.nd rfl rfl (sw_true rfl rfl rfl (by decide +kernel)) (pi_tup (pe_fld (pv 0) rfl)) (blkOk_by (own := [("_law_ballot_here", 2), ("_law_number", 3)]) (N := ["_law_p", "_law_rows", "_law_ballot_here", "_law_number"]) (sc := (defScope s_law_turned)) (by decide +kernel)) (fun s0 H0 C0 cl0 fp0 => (by have h := (pg_tup (n := 2) rfl (pgs_cons (pg_name (i := 2) sc_law_turned.nd rfl (Or.inl rfl)) (pgs_cons (pg_name (i := 3) sc_law_turned.nd rfl (Or.inl rfl)) pgs_nil)) : PG ((cxOf CX0 P w K mg base ["_law_p", "_law_rows", "_law_ballot_here", "_law_number"] "_law_turned" (defScope s_law_turned) T.f_law_turned cdv A outer s H E).nox.blk s0 H0 (lcScope (rootE ((defBody s_law_turned).getD 0 (.Pass ⟨0, 0, 0, 0⟩)))) (compEnvC (lcScope (rootE ((defBody s_law_turned).getD 0 (.Pass ⟨0, 0, 0, 0⟩)))) cl0 C0 (cxOf CX0 P w K mg base ["_law_p", "_law_rows", "_law_ballot_here", "_law_number"] "_law_turned" (defScope s_law_turned) T.f_law_turned cdv A outer s H E).nox.env) fp0) (subE (rootE ((defBody s_law_turned).getD 0 (.Pass ⟨0, 0, 0, 0⟩))) 2) _); dsimp only [Cx.blk, Cx.tr, Cx.suite, Cx.nox, Cx.wish, cxOf] at h; exact h)) (fun _ _ _ _ _ => pts_nil) (fun s0 H0 C0 cl0 fp0 => (by have h := ((pe_tup (pa_cons (pe_tup (pa_cons pe_str (pa_cons (pe_revT (pe_call (ok_tiers T) (hr.mono (by decide)) (by rfl) T.g_tiers T.F_tiers.kp T.b_tiers .nil pass0 (pa_cons (pe_fld (pv 0) rfl) (pa_cons (pv 2) pa_nil)))) pa_nil))) (pa_cons (pv 3) pa_nil))) : PE ((cxOf CX0 P w K mg base ["_law_p", "_law_rows", "_law_ballot_here", "_law_number"] "_law_turned" (defScope s_law_turned) T.f_law_turned cdv A outer s H E).nox.blk s0 H0 (lcScope (rootE ((defBody s_law_turned).getD 0 (.Pass ⟨0, 0, 0, 0⟩)))) (compEnvC (lcScope (rootE ((defBody s_law_turned).getD 0 (.Pass ⟨0, 0, 0, 0⟩)))) cl0 C0 (cxOf CX0 P w K mg base ["_law_p", "_law_rows", "_law_ballot_here", "_law_number"] "_law_turned" (defScope s_law_turned) T.f_law_turned cdv A outer s H E).nox.env) fp0) (subE (rootE ((defBody s_law_turned).getD 0 (.Pass ⟨0, 0, 0, 0⟩))) 0) _); dsimp only [Cx.blk, Cx.tr, Cx.suite, Cx.nox, Cx.wish, cxOf] at h; exact h)))
 (pss_one
 (ps_ret (pc_pos T.mk_Poll (ok_Poll_init T) (hr.mono (by decide)) (by rfl) T.k_Poll T.kb_Poll_init_3 (fun σ => atN σ) (pa_cons (pe_fld (pv 0) rfl) (pa_cons (pe_callTy call_tuple_of (by rfl) T.z_tuple (by decide +kernel) (pa_cons (pv 1) pa_nil)) pa_nil)))))), ?_⟩
    obtain ⟨⟨dx, hp⟩, ho, ⟨as, hu, ha, hm⟩, ok, rok⟩ := pk
    have la : as.length = rows.length := by rw [← hm, List.length_map]
    have l30 := rok.1
    refine ⟨.ref p, rfl, p, T.C_Poll, dx, _, .ref u, rfl, hp, T.cl_Poll, T.n_Poll_voices, pollF_voices o u, u, rfl, ⟨_, .of hu⟩, fun D nD => ?_⟩
    refine lc_tup (K := K) (a := u) (xs := as.map fun a => V.ref a.1) (fun i H' => ∃ qs : List (Addr × Addr × (Bal × Int)), Same H H' ∧ RowsL H' D qs ∧ (∀ r ∈ qs.map (·.2.2), r.1.Ok zs ∧ 1 ≤ r.2 ∧ r.2 ≤ 1000000) ∧ qs.length = i ∧ TurnOf zs (rows.take i) (qs.map (·.2.2))) ⟨[], same_upd nD, ⟨upd_same, fun _ h => (by cases h)⟩, fun _ h => (by cases h), rfl, trivial⟩ (fun _ _ _ ⟨_, h, _⟩ => .of (h _ _ hu)) ?_ ?_
    · rintro i x H1 hi ⟨qs, s1, rk, okq, lq, tq⟩
      obtain ⟨a, hai, rfl⟩ := item_map hi
      have il := (List.getElem?_eq_some_iff.mp hai).1
      obtain ⟨h1, h2⟩ := ha a (List.mem_of_getElem? hai)
      have mem : a.2.2 ∈ rows := by rw [← hm]; exact List.mem_map.mpr ⟨a, List.mem_of_getElem? hai, rfl⟩
      have ri : rows[i]? = some a.2.2 := by rw [← hm, List.getElem?_map, hai]; rfl
      obtain ⟨bok, m1, m2⟩ := rok.2 a.2.2 mem
      refine ⟨a.1, _, rfl, .of (s1 _ _ h1), rfl, _, _, rfl, _, _, rfl, rfl, rfl, ?_⟩
      refine ⟨.ref p, rfl, p, T.C_Poll, dx, _, .ref o, rfl, s1 _ _ hp, T.cl_Poll, T.n_Poll_options, pollF_options o u, .ref a.2.1, rfl, o, a.2.1, zs, a.2.2.1, rfl, s1 _ _ ho, h2.same s1, bok, ok.nodup, ok.few, fun tt bs ls H2 lev s2 ett tb2 eb => ?_⟩
      refine ⟨tt, _, rfl, .of ett, fun c nc => ?_⟩
      have s3 := same_upd (o := HO.tup (bs.map fun b => V.ref b.1).reverse) nc
      have ec : (upd H2 c (.tup (bs.map fun b => V.ref b.1).reverse)) c = some (.tup (bs.reverse.map fun b => V.ref b.1)) := by rw [upd_same, List.map_reverse]
      have tb3 := tb2.same s3
      generalize upd H2 c (.tup (bs.map fun b => V.ref b.1).reverse) = H3 at s3 ec tb3 ⊢
      refine ⟨line_of (show 2 ≤ 1000 by decide), fun t nt => ?_⟩
      have s4 := same_upd (o := HO.tup [V.str "order", V.ref c]) nt
      have et : (upd H3 t (.tup [V.str "order", V.ref c])) t = some (.tup [V.str "order", V.ref c]) := upd_same
      have tb4 := tb3.same s4
      have ec4 := s4 _ _ ec
      generalize upd H3 t (.tup [V.str "order", V.ref c]) = H4 at s4 et tb4 ec4 ⊢
      have bal : BalAt H4 t (.order (cutBy zs a.2.2.1.rk ls).reverse) := ⟨c, bs.reverse, et, ec4, fun b hb => tb4 b (List.mem_reverse.mp hb), by rw [List.map_reverse, eb]⟩
      have s14 := s2.trans (s3.trans s4)
      refine ⟨.int a.2.2.2, rfl, line_of (show 2 ≤ 1000 by decide), fun row nrow => ?_⟩
      have eD4 := s14 _ _ rk.1
      have k14 : TK H1 H4 := fun _ _ e => s14 _ _ e
      obtain ⟨nk, _⟩ := rk.push (H2 := H4) (c := row) (u := t) (b := .order (cutBy zs a.2.2.1.rk ls).reverse) (m := a.2.2.2) k14 eD4 bal nrow
      refine ⟨_, (upd_ne (ne_of_none eD4 nrow)).trans eD4, small1000 (by rw [List.length_map]; omega), qs ++ [(row, t, (.order (cutBy zs a.2.2.1.rk ls).reverse, a.2.2.2))], same_mut ((s1.trans s14).trans (same_upd nrow)) nD, nk, fun r hr => ?_, by rw [List.length_append, lq] <;> rfl, ?_⟩
      · rw [List.map_append] at hr
        rcases List.mem_append.mp hr with hr | hr
        · exact okq r hr
        · rw [List.mem_singleton.mp hr]
          exact ⟨turn_ok ok.nodup lev, m1, m2⟩
      · rw [take_more ri, List.map_append]
        exact turn_snoc tq (fun y hy z hz => sg_turned ok.nodup lev hy hz) rfl
    · rintro H1 ⟨qs, s1, rk, okq, lq, tq⟩
      rw [List.length_map, la] at lq tq
      rw [List.take_length] at tq
      refine ⟨.ref p, rfl, p, T.C_Poll, dx, _, .ref o, rfl, s1 _ _ hp, T.cl_Poll, T.n_Poll_options, pollF_options o u, .ref D, rfl, D, _, rfl, .inl ⟨.of rk.1, fun v nv => ?_⟩⟩
      have s2 := same_upd (o := HO.tup (qs.map fun a => V.ref a.1)) nv
      have ev : (upd H1 v (.tup (qs.map fun a => V.ref a.1))) v = some (.tup (qs.map fun a => V.ref a.1)) := upd_same
      generalize upd H1 v (.tup (qs.map fun a => V.ref a.1)) = H2 at s2 ev ⊢
      have rows2 : RowsAt H2 v (qs.map (·.2.2)) := ⟨qs, ev, fun a ha => ⟨s2 _ _ (rk.2 a ha).1, (rk.2 a ha).2.same s2⟩, rfl⟩
      have rok2 : RowsOk zs 30 (qs.map (·.2.2)) := ⟨by rw [List.length_map]; omega, okq⟩
      refine ⟨rfl, rfl, fun pp dx2 n1 n2 n3 => ?_⟩
      have sm : Same H2 (upd (upd H2 dx2 (.own pp)) pp (.ins T.C_Poll dx2 [])) := made_same n1 n2 (But.refl _ _)
      have s02 := s1.trans s2
      refine ⟨pp, dx2, o, v, zs, qs.map (·.2.2), rfl, upd_same, (s02.trans sm) _ _ ho, rows2.same sm, ok, rok2, fun H3 b3 e3 => ?_⟩
      have s3 : Same H2 H3 := made_same n1 n2 b3
      exact ⟨rfl, q pp v (qs.map (·.2.2)) H3 (s02.trans s3) ⟨⟨dx2, e3⟩, (s02.trans s3) _ _ ho, rows2.same s3, ok, rok2⟩ (turn_marg tq)⟩
end
/-! ### all orders, by the law -/
def OrdsAt (H : Hp) (zs : List Str) (as : List (Addr × List Str)) : Prop := ∀ a ∈ as, H a.1 = some (.tup (a.2.map V.str)) ∧ a.2.Perm zs
theorem OrdsAt.keep {H H' : Hp} {zs : List Str} {as : List (Addr × List Str)} (k : ∀ a xs, H a = some (.tup xs) → H' a = some (.tup xs)) (h : OrdsAt H zs as) : OrdsAt H' zs as := fun a ha => ⟨k _ _ (h a ha).1, (h a ha).2⟩
theorem OrdsAt.same {H H' : Hp} {zs : List Str} {as : List (Addr × List Str)} (s : Same H H') (h : OrdsAt H zs as) : OrdsAt H' zs as := h.keep fun _ _ e => s _ _ e
/-- rows of so many of them, none twice -/
def PartAt (H : Hp) (zs : List Str) (n : Nat) (as : List (Addr × List Str)) : Prop := ∀ a ∈ as, H a.1 = some (.tup (a.2.map V.str)) ∧ a.2.Nodup ∧ (∀ x ∈ a.2, x ∈ zs) ∧ a.2.length = n
theorem PartAt.same {H H' : Hp} {zs : List Str} {n : Nat} {as : List (Addr × List Str)} (s : Same H H') (h : PartAt H zs n as) : PartAt H' zs n as := fun a ha => ⟨s _ _ (h a ha).1, (h a ha).2⟩
section
variable {P : Program} {w : World} {K : PySem.W.Frag} {mg : Str → Option Value} {base : Heap}
def sp_law_orders : Sp := fun vs H Q _ => ∃ (t : Addr) (zs : List Str), vs = [.ref t] ∧ H t = some (.tup (zs.map V.str)) ∧ zs.Nodup ∧ zs.length ≤ 6 ∧
  ∀ (L : Addr) (as : List (Addr × List Str)) (H' : Hp), Same H H' → H L = none → H' L = some (.lst (as.map fun a => V.ref a.1)) → OrdsAt H' zs as → as.length ≤ 50000 → Q (.ref L) H'
theorem ok_law_orders (T : Txt K mg) : FnOk P w K mg base CX0 1 T.f_law_orders T.fd_law_orders ["_law_names_here"] sp_law_orders := by
  refine T.F_law_orders.ok sc_law_orders (fun vs H Q E h => ?_) (fun cdv A outer s H vs Q E hr h => ?_)
  · obtain ⟨t, zs, rfl, _⟩ := h
    rfl
  · obtain ⟨t, zs, rfl, ht, nd, l6, q⟩ := h
    refine ⟨_, (pss_cons
 (ps_set (i := 1) sc_law_orders.nd rfl (Or.inl rfl) (pe_lst (pa_cons (pe_tup pa_nil) pa_nil)))
 (pss_cons
 (ps_for PassesOwn.never rfl (pi_tup (pv 0)) (pg_name (i := 2) sc_law_orders.nd rfl (Or.inl rfl))
 (pss_cons
 (ps_set (i := 3) sc_law_orders.nd rfl (Or.inl rfl) (pe_lst pa_nil))
 (pss_cons
 (ps_for PassesOwn.never rfl (pi_list (pv 1)) (pg_name (i := 4) sc_law_orders.nd rfl (Or.inr rfl))
 (pss_one
 (ps_set (i := 3) sc_law_orders.nd rfl (Or.inl rfl) (pe_op op_cat (pv 3) (pe_lc (own := [("_law_one_here", 5)]) (g := gName 5) rfl sc_law_orders.nd (pi_tup (pv 0)) (blkOk_by (own := [("_law_one_here", 5)]) (N := ["_law_names_here", "_law_found", "_law_turn", "_law_longer", "_law_some", "_law_one_here"]) (sc := (defScope s_law_orders)) (by decide +kernel)) (fun _ _ _ _ _ => pg_name (i := 5) sc_law_orders.nd rfl (Or.inl rfl)) (fun s0 H0 C0 cl0 fp0 => (by have h := ((pts_one (pt_cmpR op_notIn_seq (pv 5) (pv 4) rfl)) : PTs ((cxOf CX0 P w K mg base ["_law_names_here", "_law_found", "_law_turn", "_law_longer", "_law_some", "_law_one_here"] "_law_orders" (defScope s_law_orders) T.f_law_orders cdv A outer s H E).nox.blk s0 H0 (lcScope (subE (rootE ((blkOf ((blkOf ((defBody s_law_orders).getD 1 (.Pass ⟨0, 0, 0, 0⟩)) 0).getD 1 (.Pass ⟨0, 0, 0, 0⟩)) 0).getD 0 (.Pass ⟨0, 0, 0, 0⟩))) 1)) (compEnvC (lcScope (subE (rootE ((blkOf ((blkOf ((defBody s_law_orders).getD 1 (.Pass ⟨0, 0, 0, 0⟩)) 0).getD 1 (.Pass ⟨0, 0, 0, 0⟩)) 0).getD 0 (.Pass ⟨0, 0, 0, 0⟩))) 1)) cl0 C0 (cxOf CX0 P w K mg base ["_law_names_here", "_law_found", "_law_turn", "_law_longer", "_law_some", "_law_one_here"] "_law_orders" (defScope s_law_orders) T.f_law_orders cdv A outer s H E).nox.env) fp0) (lcIfs (subE (rootE ((blkOf ((blkOf ((defBody s_law_orders).getD 1 (.Pass ⟨0, 0, 0, 0⟩)) 0).getD 1 (.Pass ⟨0, 0, 0, 0⟩)) 0).getD 0 (.Pass ⟨0, 0, 0, 0⟩))) 1)) _); dsimp only [Cx.blk, Cx.tr, Cx.suite, Cx.nox, Cx.wish, cxOf] at h; exact h)) (fun s0 H0 C0 cl0 fp0 => (by have h := ((pe_op op_catA (pv 4) (pe_tup (pa_cons (pv 5) pa_nil))) : PE ((cxOf CX0 P w K mg base ["_law_names_here", "_law_found", "_law_turn", "_law_longer", "_law_some", "_law_one_here"] "_law_orders" (defScope s_law_orders) T.f_law_orders cdv A outer s H E).nox.blk s0 H0 (lcScope (subE (rootE ((blkOf ((blkOf ((defBody s_law_orders).getD 1 (.Pass ⟨0, 0, 0, 0⟩)) 0).getD 1 (.Pass ⟨0, 0, 0, 0⟩)) 0).getD 0 (.Pass ⟨0, 0, 0, 0⟩))) 1)) (compEnvC (lcScope (subE (rootE ((blkOf ((blkOf ((defBody s_law_orders).getD 1 (.Pass ⟨0, 0, 0, 0⟩)) 0).getD 1 (.Pass ⟨0, 0, 0, 0⟩)) 0).getD 0 (.Pass ⟨0, 0, 0, 0⟩))) 1)) cl0 C0 (cxOf CX0 P w K mg base ["_law_names_here", "_law_found", "_law_turn", "_law_longer", "_law_some", "_law_one_here"] "_law_orders" (defScope s_law_orders) T.f_law_orders cdv A outer s H E).nox.env) fp0) (subE (subE (rootE ((blkOf ((blkOf ((defBody s_law_orders).getD 1 (.Pass ⟨0, 0, 0, 0⟩)) 0).getD 1 (.Pass ⟨0, 0, 0, 0⟩)) 0).getD 0 (.Pass ⟨0, 0, 0, 0⟩))) 1) 0) _); dsimp only [Cx.blk, Cx.tr, Cx.suite, Cx.nox, Cx.wish, cxOf] at h; exact h)))))))
 (pss_one
 (ps_set (i := 1) sc_law_orders.nd rfl (Or.inl rfl) (pv 3))))))
 (pss_one
 (ps_ret (pv 1))))), ?_⟩
    have big : ∀ {n : Nat}, n ≤ 300000 → n ≤ sizeLine := fun h => Nat.le_trans h (by decide)
    have pw : ∀ i, i ≤ 6 → 6 ^ i ≤ 46656 := fun i h => Nat.le_trans (Nat.pow_le_pow_right (by decide) h) (by decide)
    refine ⟨line_of (show 0 ≤ 1000 by decide), fun u nu => ?_⟩
    have s1 := same_upd (o := HO.tup []) nu
    have eu : (upd H u (.tup [])) u = some (.tup []) := upd_same
    generalize upd H u (.tup []) = H1 at s1 eu ⊢
    refine ⟨line_of (show 1 ≤ 1000 by decide), fun F nF => ?_⟩
    have s2 := same_upd (o := HO.lst [V.ref u]) nF
    have eF : (upd H1 F (.lst [V.ref u])) F = some (.lst [V.ref u]) := upd_same
    have eu2 := s2 _ _ eu
    have nFH := s1.free nF
    generalize upd H1 F (.lst [V.ref u]) = H2 at s2 eF eu2 ⊢
    refine ⟨.ref t, rfl, t, rfl, ⟨_, .of ((s1.trans s2) _ _ ht)⟩, for_tup (K := K) (a := t) (xs := zs.map V.str) (fun i σ H' => ∃ (F : Addr) (as : List (Addr × List Str)) (x2 x3 x4 x5 : Option V), σ = [some (.ref t), some (.ref F), x2, x3, x4, x5] ∧ Same H H' ∧ H F = none ∧ H' F = some (.lst (as.map fun a => V.ref a.1)) ∧ PartAt H' zs i as ∧ as.length ≤ 6 ^ i)
      ⟨F, [(u, [])], none, none, none, none, rfl, s1.trans s2, nFH, eF, fun a ha => by rw [List.mem_singleton.mp ha]; exact ⟨eu2, List.nodup_nil, fun _ h => (by cases h), rfl⟩, by show 1 ≤ 6 ^ 0; decide⟩ (fun _ _ _ _ ⟨_, _, _, _, _, _, _, h, _⟩ => .of (h _ _ ht)) ?_ ?_⟩
    · rintro i v σ H3 hv ⟨F, as, x2, x3, x4, x5, rfl, s3, nF3, e3, p3, l3⟩
      obtain ⟨z, hz, rfl⟩ := item_map hv
      have il := (List.getElem?_eq_some_iff.mp hz).1
      have w6 := pw i (by omega)
      refine ⟨line_of (show 0 ≤ 1000 by decide), fun G nG => ?_⟩
      have s4 := same_upd (o := HO.lst []) nG
      have eG : (upd H3 G (.lst [])) G = some (.lst []) := upd_same
      have e4 := s4 _ _ e3
      have p4 := p3.same s4
      generalize upd H3 G (.lst []) = H4 at s4 eG e4 p4 ⊢
      refine ⟨.ref F, rfl, F, rfl, ⟨_, .of e4⟩, for_list (K := K) (a := F) (xs := as.map fun a => V.ref a.1) (fun j σ H' => ∃ (G : Addr) (bs : List (Addr × List Str)) (x4 x5 : Option V), σ = [some (.ref t), some (.ref F), some (.str z), some (.ref G), x4, x5] ∧ Same H4 H' ∧ H G = none ∧ H' G = some (.lst (bs.map fun a => V.ref a.1)) ∧ PartAt H' zs (i + 1) bs ∧ bs.length ≤ j * 6)
        ⟨G, [], _, _, rfl, Same.refl _, s3.free nG, eG, fun _ h => (by cases h), Nat.zero_le _⟩ (fun _ _ _ _ ⟨_, _, _, _, _, h, _⟩ => .of (h _ _ e4)) ?_ ?_⟩
      · rintro j v σ H5 hv5 ⟨G, bs, x4, x5, rfl, s5, nG5, e5, p5, l5⟩
        obtain ⟨a, ha, rfl⟩ := item_map hv5
        have jl := (List.getElem?_eq_some_iff.mp ha).1
        obtain ⟨a1, a2, a3, a4⟩ := p4 a (List.mem_of_getElem? ha)
        have s45 := (s3.trans s4).trans s5
        refine ⟨.ref G, rfl, .ref t, rfl, t, rfl, ⟨_, .of (s45 _ _ ht)⟩, fun B nB => ?_⟩
        refine lc_tup (K := K) (a := t) (xs := zs.map V.str) (fun k H' => ∃ cs : List (Addr × List Str), Same H5 H' ∧ H' B = some (.lst (cs.map fun a => V.ref a.1)) ∧ PartAt H' zs (i + 1) cs ∧ cs.length ≤ k) ⟨[], same_upd nB, upd_same, fun _ h => (by cases h), Nat.le_refl _⟩ (fun _ _ _ ⟨_, h, _⟩ => .of (h _ _ (s45 _ _ ht))) ?_ ?_
        · rintro k v H6 hv6 ⟨cs, s6, e6, p6, l6'⟩
          obtain ⟨y, hy, rfl⟩ := item_map hv6
          have kl := (List.getElem?_eq_some_iff.mp hy).1
          have my := List.mem_of_getElem? hy
          have a1' := (s5.trans s6) _ _ a1
          refine ⟨rfl, .str y, rfl, .ref a.1, rfl, a.1, _, rfl, .inr (.of a1'), rfl, flat_strs _, _, rfl, ?_⟩
          rw [inV_str]
          by_cases c : y ∈ a.2
          · rw [decide_eq_true c]
            exact iteF ⟨cs, s6, e6, p6, by omega⟩
          · rw [decide_eq_false c]
            refine iteT ⟨.ref a.1, rfl, .str y, rfl, line_of (show 1 ≤ 1000 by decide), fun q0 nq => ?_⟩
            have s7 := same_upd (o := HO.tup [V.str y]) nq
            have e7 : (upd H6 q0 (.tup [V.str y])) q0 = some (.tup [V.str y]) := upd_same
            generalize upd H6 q0 (.tup [V.str y]) = H7 at s7 e7 ⊢
            refine catA_of (s7 _ _ a1') e7 (line_of (by rw [List.length_map, a4]; show i + 1 ≤ 1000; omega)) fun r H8 e8 s8 => ?_
            have s68 := s7.trans s8
            have e68 := s68 _ _ e6
            have er : H8 r = some (.tup ((a.2 ++ [y]).map V.str)) := by rw [e8, List.map_append] <;> rfl
            refine ⟨_, e68, small1000 (by rw [List.length_map]; omega), cs ++ [(r, a.2 ++ [y])], same_mut (s6.trans s68) nB, by rw [upd_same, List.map_append] <;> rfl, fun b hb => ?_, by rw [List.length_append]; show _ + 1 ≤ _; omega⟩
            have keep : ∀ {b : Addr} {xs : List V}, H8 b = some (.tup xs) → (upd H8 B (.lst ((cs.map fun a => V.ref a.1) ++ [.ref r]))) b = some (.tup xs) := fun h => by
              rw [upd_ne (fun e => by rw [e, e68] at h; cases h)]
              exact h
            rcases List.mem_append.mp hb with hb | hb
            · exact ⟨keep (s68 _ _ (p6 b hb).1), (p6 b hb).2⟩
            · rw [List.mem_singleton.mp hb]
              exact ⟨keep er, List.nodup_append.mpr ⟨a2, by simp, fun p hp q hq e => c (by rw [← List.mem_singleton.mp hq, ← e]; exact hp)⟩, fun p hp => (List.mem_append.mp hp).elim (a3 p) fun h => by rw [List.mem_singleton.mp h]; exact my, by rw [List.length_append, a4] <;> rfl⟩
        · rintro H6 ⟨cs, s6, e6, p6, l6'⟩
          rw [List.length_map] at l6'
          refine ⟨G, B, _, _, rfl, rfl, s6 _ _ e5, e6, big (by rw [List.length_map, List.length_map]; omega), fun N nN => ?_⟩
          have s7 := same_upd (o := HO.lst ((bs.map fun a => V.ref a.1) ++ cs.map fun a => V.ref a.1)) nN
          refine ⟨N, bs ++ cs, _, _, rfl, s5.trans (s6.trans s7), s45.free (s6.free nN), by rw [upd_same, List.map_append], fun b hb => ?_, ?_⟩
          · rcases List.mem_append.mp hb with hb | hb
            · exact (p5.same (s6.trans s7)) b hb
            · exact (p6.same s7) b hb
          · rw [List.length_append, Nat.add_mul]
            omega
      · rintro σ H5 ⟨G, bs, x4, x5, rfl, s5, nG5, e5, p5, l5⟩
        rw [List.length_map] at l5
        refine ⟨.ref G, rfl, G, bs, _, _, _, _, rfl, (s3.trans s4).trans s5, nG5, e5, p5, ?_⟩
        rw [Nat.pow_succ]
        omega
    · rintro σ H3 ⟨F, as, x2, x3, x4, x5, rfl, s3, nF3, e3, p3, l3⟩
      rw [List.length_map] at p3 l3
      have w6 := pw zs.length l6
      exact ⟨.ref F, rfl, q F as H3 s3 nF3 e3 (fun a ha => ⟨(p3 a ha).1, perm_of_sub (p3 a ha).2.1 (p3 a ha).2.2.1 (by rw [(p3 a ha).2.2.2]; exact Nat.le_refl _)⟩) (by omega)⟩
end
/-! ### what the law asks of an order that stands -/
theorem lead_all {G : Str → Str → Bool} {zs : List Str} {y : Str} (h : lead G zs = some y) : y ∈ zs ∧ ∀ z ∈ zs, z ≠ y → G y z = true := by
  unfold lead at h
  have h1 := List.mem_of_find?_eq_some h
  have h2 := List.find?_some h
  refine ⟨h1, fun z hz ne => ?_⟩
  exact List.all_eq_true.mp h2 z (List.mem_filter.mpr ⟨hz, decide_eq_true ne⟩)
theorem at_end {l : List V} {v : V} (h : l[l.length - 1]? = some v) : atI l (-1) = some v := by
  have pos : 0 < l.length := by have := (List.getElem?_eq_some_iff.mp h).1; omega
  have e : l = l.take (l.length - 1) ++ [v] := by
    have k := take_more h
    rw [show l.length - 1 + 1 = l.length by omega, List.take_length] at k
    exact k
  have k := L2.atI_last (l.take (l.length - 1)) v
  rw [← e] at k
  exact k
def vD (o : Option Str) : PyData := match o with | some y => .str y | none => .none
theorem none_or {o : Option Str} {x : Str} (h : ∀ y, o = some y → y = x) : ([PyData.none, .str x].any fun z => PyData.eqv z (vD o)) = true := by
  cases o with
  | none => rfl
  | some y =>
    have e := h y rfl
    subst e
    show (false || ((y == y) || false)) = true
    rw [beq_self_eq_true] <;> rfl
section
variable {P : Program} {w : World} {K : PySem.W.Frag} {mg : Str → Option Value} {base : Heap}
theorem vO_dp {H : Hp} : ∀ o : Option Str, Dp K H (vO o) (vD o)
  | some y => .str y
  | none => .non
theorem vD_shaped {zs : List Str} (okz : ∀ z ∈ zs, NameOk z) {o : Option Str} (h : ∀ y, o = some y → y ∈ zs) : SeqAt.shaped (vD o) = true := by
  cases o with
  | none => rfl
  | some y => exact (ok_small (okz y (h y rfl))).shaped (by decide)
def sp_law_standing (C : Addr) : Sp := fun vs H Q _ => ∃ (M ab o u fa L s : Addr) (zs ws : List Str) (rows rows' : List (Bal × Int)), vs = [.ref M, .ref ab, .ref fa, .ref s] ∧ H M = some (.dT (tab2 zs (marg rows) zs)) ∧ PollOk C H ab o u zs rows' ∧ (∀ y ∈ zs, ∀ z ∈ zs, marg rows' y z = -(marg rows y z)) ∧
  H fa = some (.tup [.ref L, vO (lead (fun y z => decide (0 < marg rows y z)) zs), vO (lead (fun y z => decide (0 < marg rows z y)) zs)]) ∧ H L = some (.lst ((zs.filter (topB (marg rows) zs)).map V.str)) ∧ H s = some (.tup (ws.map V.str)) ∧ ws.Perm zs ∧ StandsP (marg rows) ws ∧
  ∀ H', Same H H' → Q (.bl true) H'
theorem ok_law_standing_right (T : Txt K mg) : FnOk P w K mg base CX0 6 T.f_law_standing_right T.fd_law_standing_right ["_law_table", "_law_about", "_law_facts", "_law_some"] (sp_law_standing T.C_Poll) := by
  refine T.F_law_standing_right.ok sc_law_standing_right (fun vs H Q E h => ?_) (fun cdv A outer s H vs Q E hr h => ?_)
  · obtain ⟨M, ab, o, u, fa, L, s0, zs, ws, rows, rows', rfl, _⟩ := h
    rfl
  · obtain ⟨M, ab, o, u, fa, L, s0, zs, ws, rows, rows', rfl, hM, pk, tm, hf, hL, hs, pm, st, q⟩ := h
    refine ⟨_, (pss_cons
 (ps_asg (pv 2) (pg_tup rfl (pgs_cons (pg_name (i := 4) sc_law_standing_right.nd rfl (Or.inl rfl)) (pgs_cons (pg_name (i := 5) sc_law_standing_right.nd rfl (Or.inl rfl)) (pgs_cons (pg_name (i := 6) sc_law_standing_right.nd rfl (Or.inl rfl)) pgs_nil)))))
 (pss_cons
 (ps_if (pt_cmpR (op_neD hr.units) (pe_lc (own := [("_law_k", 7)]) (g := gName 7) rfl sc_law_standing_right.nd (pi_range2 rfl T.z_range (pa_cons pe_int (pa_cons (pe_callB call_len_seq (by rfl) T.z_len (by decide +kernel) (pa_cons (pv 3) pa_nil)) pa_nil))) (blkOk_by (own := [("_law_k", 7)]) (N := ["_law_table", "_law_about", "_law_facts", "_law_some", "_law_top", "_law_first", "_law_last", "_law_k"]) (sc := (defScope s_law_standing_right)) (by decide +kernel)) (fun _ _ _ _ _ => pg_name (i := 7) sc_law_standing_right.nd rfl (Or.inl rfl)) (fun s0 H0 C0 cl0 fp0 => (by have h := ((pts_one (pt_cmpR op_gt (pe_dget (hu_of hr) (pv 0) (pe_tup (pa_cons (pe_ix ix_tup (pv 3) (pv 7) (fun _ _ => rfl)) (pa_cons (pe_ix ix_tup (pv 3) (pe_op op_sub (pv 7) pe_int) (fun _ _ => rfl)) pa_nil))) (fun _ _ => rfl)) pe_int (nomark _))) : PTs ((cxOf CX0 P w K mg base ["_law_table", "_law_about", "_law_facts", "_law_some", "_law_top", "_law_first", "_law_last", "_law_k"] "_law_standing_right" (defScope s_law_standing_right) T.f_law_standing_right cdv A outer s H E).nox.blk s0 H0 (lcScope (subE (rootE ((defBody s_law_standing_right).getD 1 (.Pass ⟨0, 0, 0, 0⟩))) 0)) (compEnvC (lcScope (subE (rootE ((defBody s_law_standing_right).getD 1 (.Pass ⟨0, 0, 0, 0⟩))) 0)) cl0 C0 (cxOf CX0 P w K mg base ["_law_table", "_law_about", "_law_facts", "_law_some", "_law_top", "_law_first", "_law_last", "_law_k"] "_law_standing_right" (defScope s_law_standing_right) T.f_law_standing_right cdv A outer s H E).nox.env) fp0) (lcIfs (subE (rootE ((defBody s_law_standing_right).getD 1 (.Pass ⟨0, 0, 0, 0⟩))) 0)) _); dsimp only [Cx.blk, Cx.tr, Cx.suite, Cx.nox, Cx.wish, cxOf] at h; exact h)) (fun _ _ _ _ _ => (pv 7))) (pe_lst pa_nil) (nomark _))
 (pss_one
 (ps_ret pe_bl))
 pss_nil)
 (pss_cons
 (ps_if (PW.pt (pw_or (pt_cmpR op_notIn_seq (pe_ix ix_tup (pv 3) pe_int (fun _ _ => rfl)) (pv 4) rfl) (pw_or (pt_cmpR (op_notInT (room65 hr)) (pv 5) (pe_tup (pa_cons pe_non (pa_cons (pe_ix ix_tup (pv 3) pe_int (fun _ _ => rfl)) pa_nil))) rfl) (pw_or1 (pt_cmpR (op_notInT (room65 hr)) (pv 6) (pe_tup (pa_cons pe_non (pa_cons (pe_ix ix_tup (pv 3) (pe_un un_neg pe_int) (fun _ _ => rfl)) pa_nil))) rfl)))))
 (pss_one
 (ps_ret pe_bl))
 pss_nil)
 (pss_one
 (ps_ret (pe_call (ok_shows_stands T) (hr.mono (by decide)) (by rfl) T.g_shows_stands T.F_shows_stands.kp T.b_shows_stands .nil pass0 (pa_cons (pv 1) (pa_cons (pe_revT (pv 3)) pa_nil)))))))), ?_⟩
    have ok := pk.ok
    have anti : ∀ a b, marg rows b a = -(marg rows a b) := fun a b => marg_turn a b rows
    have nd : ws.Nodup := pm.nodup_iff.mpr ok.nodup
    have lw := pm.length_eq
    have few := ok.few
    have pos : 0 < zs.length := List.length_pos_iff.mpr ok.some
    have inz : ∀ {y}, y ∈ ws → y ∈ zs := fun h => pm.mem_iff.mp h
    obtain ⟨x0, hx0⟩ : ∃ x, ws[0]? = some x := ⟨_, List.getElem?_eq_getElem (by omega)⟩
    obtain ⟨xl, hxl⟩ : ∃ x, ws[ws.length - 1]? = some x := ⟨_, List.getElem?_eq_getElem (by omega)⟩
    refine ⟨.ref fa, rfl, fa, _, rfl, .of hf, rfl, _, _, rfl, _, _, rfl, _, _, rfl, rfl, ?_⟩
    refine ⟨.ref s0, rfl, s0, _, rfl, .inr (.of hs), 1, _, rfl, ⟨by decide, by decide, by omega, by rw [List.length_map]; omega⟩, fun D nD => ?_⟩
    rw [List.length_map, show ((ws.length : Int) - 1).toNat = ws.length - 1 by omega]
    refine lc_range (lo := 1) (n := ws.length - 1) (fun i H' => Same H H' ∧ H' D = some (.lst [])) ⟨same_upd nD, upd_same⟩ ?_ ?_
    · rintro i H1 hi ⟨s1, e1⟩
      obtain ⟨x, hx⟩ : ∃ x, ws[i]? = some x := ⟨_, List.getElem?_eq_getElem (by omega)⟩
      obtain ⟨t, ht⟩ : ∃ t, ws[i + 1]? = some t := ⟨_, List.getElem?_eq_getElem (by omega)⟩
      have ne : t ≠ x := fun e => by
        rw [e] at ht
        have := (List.getElem?_inj (i := i + 1) (j := i) (by omega) nd).mp (ht.trans hx.symm)
        omega
      refine ⟨rfl, .ref M, rfl, .ref s0, rfl, .int (1 + (i : Int)), rfl, s0, _, _, .str t, rfl, rfl, .of (s1 _ _ hs), ?_, .ref s0, rfl, .int (1 + (i : Int)), rfl, _, _, rfl, rfl, s0, _, _, .str x, rfl, rfl, .of (s1 _ _ hs), ?_, line_of (show 2 ≤ 1000 by decide), fun u2 nu2 => ?_⟩
      · rw [show (1 + (i : Int)) = ((i + 1 : Nat) : Int) by omega]
        exact atI_nat (j := i + 1) (by rw [List.getElem?_map, ht] <;> rfl)
      · rw [show (1 + (i : Int) - 1) = ((i : Nat) : Int) by omega]
        exact atI_nat (j := i) (by rw [List.getElem?_map, hx] <;> rfl)
      have s2 := same_upd (o := HO.tup [V.str t, V.str x]) nu2
      have et : (upd H1 u2 (.tup [V.str t, V.str x])) u2 = some (.tup [V.str t, V.str x]) := upd_same
      generalize upd H1 u2 (.tup [V.str t, V.str x]) = H2 at s2 et ⊢
      have s12 := s1.trans s2
      have got : DGet H2 M (.ref u2) (some (.int (marg rows t x))) := by
        have := DGet.t (k := [.inr t, .inr x]) (s12 _ _ hM) et
        rw [tab2_val (inz (List.mem_of_getElem? ht)) (inz (List.mem_of_getElem? hx)) ne] at this
        exact this
      refine ⟨M, _, rfl, got, _, _, rfl, rfl, _, rfl, ?_⟩
      have no := near_ok anti st hx ht
      rw [decide_eq_false (show ¬ marg rows t x > 0 from no)]
      exact iteF ⟨s12, s2 _ _ e1⟩
    rintro H1 ⟨s1, e1⟩
    refine ⟨line_of (show 0 ≤ 1000 by decide), fun l1 nl1 => ?_⟩
    have s2 := same_upd (o := HO.lst []) nl1
    have el1 : (upd H1 l1 (.lst [])) l1 = some (.lst []) := upd_same
    have e2 := s2 _ _ e1
    generalize upd H1 l1 (.lst []) = H2 at s2 el1 e2 ⊢
    have s02 := s1.trans s2
    refine ⟨_, _, DAt.dp (.list []) ⟨D, [], rfl, e2, rfl⟩, DAt.dp (.list []) ⟨l1, [], rfl, el1, rfl⟩, rfl, rfl, _, rfl, iteF ?_⟩
    have at0 : atI (ws.map V.str) 0 = some (.str x0) := atI_nat (j := 0) (by rw [List.getElem?_map, hx0] <;> rfl)
    have atl : atI (ws.map V.str) (-1) = some (.str xl) := at_end (by rw [List.length_map, List.getElem?_map, hxl] <;> rfl)
    refine ⟨.ref s0, rfl, s0, _, 0, .str x0, rfl, rfl, .of (s02 _ _ hs), at0, .ref L, rfl, L, _, rfl, .inl (.of (s02 _ _ hL)), rfl, flat_strs _, _, rfl, ?_⟩
    have top0 : x0 ∈ zs.filter (topB (marg rows) zs) := List.mem_filter.mpr ⟨inz (List.mem_of_getElem? hx0), stands_top anti pm st hx0⟩
    rw [inV_str, decide_eq_true top0]
    refine iteF ?_
    have first : ∀ y, lead (fun y z => decide (0 < marg rows y z)) zs = some y → y = x0 := fun y hy => by
      obtain ⟨m, all⟩ := lead_all hy
      obtain ⟨i, hi⟩ := List.mem_iff_getElem?.mp (pm.mem_iff.mpr m)
      have := leader_first anti nd st hi fun z hz ne => of_decide_eq_true (all z (inz hz) ne)
      rw [this, hx0] at hi
      exact (Option.some.inj hi).symm
    have last : ∀ y, lead (fun y z => decide (0 < marg rows z y)) zs = some y → y = xl := fun y hy => by
      obtain ⟨m, all⟩ := lead_all hy
      obtain ⟨i, hi⟩ := List.mem_iff_getElem?.mp (pm.mem_iff.mpr m)
      have := trailer_last anti nd st hi fun z hz ne => of_decide_eq_true (all z (inz hz) ne)
      rw [this, hxl] at hi
      exact (Option.some.inj hi).symm
    have shp : ∀ {x}, x ∈ ws → SeqAt.shaped (.tuple [.none, .str x]) = true := fun {x} m =>
      ((OkA.cons (n := 0) (m := 8) ok_none (OkA.cons (m := 8) (ok_small (ok.names x (inz m))) (OkA.nil (m := 0)))).tuple).shaped (by decide)
    refine ⟨_, rfl, .ref s0, rfl, s0, _, 0, .str x0, rfl, rfl, .of (s02 _ _ hs), at0, line_of (show 2 ≤ 1000 by decide), fun u3 nu3 => ?_⟩
    have s3 := same_upd (o := HO.tup [V.non, V.str x0]) nu3
    have e3 : (upd H2 u3 (.tup [V.non, V.str x0])) u3 = some (.tup [V.non, V.str x0]) := upd_same
    generalize upd H2 u3 (.tup [V.non, V.str x0]) = H3 at s3 e3 ⊢
    refine ⟨vD (lead (fun y z => decide (0 < marg rows y z)) zs), [.none, .str x0], vO_dp _, DAt.dp (.tuple _) ⟨u3, _, rfl, e3, da1 rfl (da1 rfl da0)⟩, vD_shaped ok.names (fun y h => (lead_all h).1), shp (List.mem_of_getElem? hx0), _, rfl, ?_⟩
    have k1 : ([PyData.none, .str x0].any fun z => PyData.eqv z (vD (lead (fun y z => decide (0 < marg rows y z)) zs))) = true := none_or first
    rw [k1]
    refine iteF ?_
    have s03 := s02.trans s3
    refine ⟨_, rfl, .ref s0, rfl, 1, rfl, s0, _, _, .str xl, rfl, rfl, .of (s03 _ _ hs), atl, line_of (show 2 ≤ 1000 by decide), fun u4 nu4 => ?_⟩
    have s4 := same_upd (o := HO.tup [V.non, V.str xl]) nu4
    have e4 : (upd H3 u4 (.tup [V.non, V.str xl])) u4 = some (.tup [V.non, V.str xl]) := upd_same
    generalize upd H3 u4 (.tup [V.non, V.str xl]) = H4 at s4 e4 ⊢
    refine ⟨vD (lead (fun y z => decide (0 < marg rows z y)) zs), [.none, .str xl], vO_dp _, DAt.dp (.tuple _) ⟨u4, _, rfl, e4, da1 rfl (da1 rfl da0)⟩, vD_shaped ok.names (fun y h => (lead_all h).1), shp (List.mem_of_getElem? hxl), _, rfl, ?_⟩
    have k2 : ([PyData.none, .str xl].any fun z => PyData.eqv z (vD (lead (fun y z => decide (0 < marg rows z y)) zs))) = true := none_or last
    rw [k2]
    refine iteF ?_
    have s04 := s03.trans s4
    refine ⟨.ref ab, rfl, .ref s0, rfl, s0, _, rfl, .of (s04 _ _ hs), fun c nc => ?_⟩
    have s5 := same_upd (o := HO.tup (ws.map V.str).reverse) nc
    have e5 : (upd H4 c (.tup (ws.map V.str).reverse)) c = some (.tup (ws.reverse.map V.str)) := by rw [upd_same, List.map_reverse]
    generalize upd H4 c (.tup (ws.map V.str).reverse) = H5 at s5 e5 ⊢
    have s05 := s04.trans s5
    refine ⟨ab, o, u, zs, rows', .ref c, .tuple (ws.reverse.map PyData.str), rfl, pk.same s05, .inl ⟨c, _, rfl, e5, DAll.strs _⟩, by show (List.map _ _).length ≤ 500; rw [List.length_map, List.length_reverse]; omega, fun b H6 s6 hb => ?_⟩
    have e : b = true := hb.mpr ⟨ws.reverse, rfl, (List.reverse_perm ws).trans pm, stands_rev (fun a ha b' hb' => by
      rw [tm b' (inz hb') a (inz ha), anti b' a]) st⟩
    rw [e]
    exact q H6 (s05.trans s6)
end
/-! ### the law's own table -/
def pairsOf (zs ys : List Str) : List (Str × Str) := ys.flatMap fun y => (zs.filter fun z => decide (y ≠ z)).map fun z => (y, z)
theorem mem_pairs {zs ys : List Str} {q : Str × Str} : q ∈ pairsOf zs ys ↔ q.1 ∈ ys ∧ q.2 ∈ zs ∧ q.1 ≠ q.2 := by
  unfold pairsOf
  rw [List.mem_flatMap]
  constructor
  · rintro ⟨y, hy, h⟩
    obtain ⟨z, hz, rfl⟩ := List.mem_map.mp h
    obtain ⟨h1, h2⟩ := List.mem_filter.mp hz
    exact ⟨hy, h1, of_decide_eq_true h2⟩
  · rintro ⟨h1, h2, h3⟩
    exact ⟨q.1, h1, List.mem_map.mpr ⟨q.2, List.mem_filter.mpr ⟨h2, decide_eq_true h3⟩, rfl⟩⟩
theorem pairs_nodup {zs ys : List Str} (n : zs.Nodup) (m : ys.Nodup) : (pairsOf zs ys).Nodup := by
  unfold pairsOf
  refine List.pairwise_flatMap.mpr ⟨fun y _ => List.pairwise_map.mpr ((n.filter _).imp fun ne e => ne (congrArg Prod.snd e)), m.imp fun ne p hp q hq e => ?_⟩
  obtain ⟨_, _, rfl⟩ := List.mem_map.mp hp
  obtain ⟨_, _, rfl⟩ := List.mem_map.mp hq
  exact ne (congrArg Prod.fst e)
theorem tab2_pairs (zs : List Str) (f : Str → Str → Int) : ∀ ys : List Str, tab2 zs f ys = (pairsOf zs ys).map fun q => ([.inr q.1, .inr q.2], .int (f q.1 q.2))
  | [] => rfl
  | y :: ys => by
    show row2 f y zs ++ tab2 zs f ys = (((zs.filter fun z => decide (y ≠ z)).map fun z => (y, z)) ++ pairsOf zs ys).map _
    rw [List.map_append, tab2_pairs zs f ys]
    refine congrArg (· ++ _) ?_
    unfold row2
    rw [List.map_map]
    rfl
theorem But.stays {p : Addr} {H H1 H2 : Hp} (b : But p H H1) (s : Same H1 H2) : But p H H2 := fun a u n h => s _ _ (b a u n h)
/-! ### all margins unlike -/
def posI (g : Str → Str → Int) (ps : List (Str × Str)) : List Int := (ps.filter fun q => decide (0 < g q.1 q.2)).map fun q => g q.1 q.2
theorem all_strict {g : Str → Str → Int} {zs : List Str} (anti : ∀ a b, g b a = -(g a b)) (nd : zs.Nodup) (h : 2 * (posI g (pairsOf zs zs)).length = (pairsOf zs zs).length) : ∀ x ∈ zs, ∀ y ∈ zs, x ≠ y → 0 < g x y ∨ 0 < g y x := by
  intro x hx y hy ne
  refine Classical.byContradiction fun no => ?_
  have n1 : ¬ 0 < g x y := fun k => no (.inl k)
  have n2 : ¬ 0 < g y x := fun k => no (.inr k)
  have ndP := pairs_nodup nd nd
  generalize hF : (pairsOf zs zs).filter (fun q => decide (0 < g q.1 q.2)) = F at *
  have ndF : F.Nodup := by rw [← hF]; exact ndP.filter _
  have inF : ∀ q ∈ F, q ∈ pairsOf zs zs ∧ 0 < g q.1 q.2 := fun q hq => by
    rw [← hF] at hq
    have := List.mem_filter.mp hq
    exact ⟨this.1, of_decide_eq_true this.2⟩
  have lF : (posI g (pairsOf zs zs)).length = F.length := by
    unfold posI
    rw [List.length_map, hF]
  have key := List.Nodup.length_le_of_subset (l₁ := F ++ (F.map fun q => (q.2, q.1)) ++ [(x, y)]) (l₂ := pairsOf zs zs) ?_ ?_
  · rw [List.length_append, List.length_append, List.length_map] at key
    have e1 : [(x, y)].length = 1 := rfl
    omega
  · refine List.nodup_append.mpr ⟨List.nodup_append.mpr ⟨ndF, List.pairwise_map.mpr (ndF.imp fun ne e => ne (Prod.ext (congrArg Prod.snd e) (congrArg Prod.fst e))), fun a ha b hb e => ?_⟩, by simp, fun a ha b hb e => ?_⟩
    · obtain ⟨c, hc, rfl⟩ := List.mem_map.mp hb
      have h1 := (inF a ha).2
      have h2 := (inF c hc).2
      rw [e] at h1
      have h1 : 0 < g c.2 c.1 := h1
      have := anti c.1 c.2
      omega
    · rw [List.mem_singleton.mp hb] at e
      rcases List.mem_append.mp ha with ha | ha
      · have := (inF a ha).2
        rw [e] at this
        exact n1 this
      · obtain ⟨c, hc, rfl⟩ := List.mem_map.mp ha
        have := (inF c hc).2
        have e1 : c.2 = x := congrArg Prod.fst e
        have e2 : c.1 = y := congrArg Prod.snd e
        rw [e1, e2] at this
        exact n2 this
  · intro q hq
    rcases List.mem_append.mp hq with hq | hq
    · rcases List.mem_append.mp hq with hq | hq
      · exact (inF q hq).1
      · obtain ⟨c, hc, rfl⟩ := List.mem_map.mp hq
        have := mem_pairs.mp (inF c hc).1
        exact mem_pairs.mpr ⟨this.2.1, this.1, this.2.2.symm⟩
    · rw [List.mem_singleton.mp hq]
      exact mem_pairs.mpr ⟨hx, hy, ne⟩
theorem all_unlike {g : Str → Str → Int} {zs : List Str} (h : (posI g (pairsOf zs zs)).Nodup) : ∀ p ∈ posPairs g zs zs, ∀ q ∈ posPairs g zs zs, g p.1 p.2 = g q.1 q.2 → p = q := by
  intro p hp q hq e
  have inF : ∀ {q}, q ∈ posPairs g zs zs → q ∈ (pairsOf zs zs).filter fun q => decide (0 < g q.1 q.2) := fun {q} h => by
    obtain ⟨a, b, c, d⟩ := mem_pos.mp h
    exact List.mem_filter.mpr ⟨mem_pairs.mpr ⟨a, b, c⟩, decide_eq_true d⟩
  have h := List.pairwise_map.mp h
  obtain ⟨i, hi, e1⟩ := List.mem_iff_getElem.mp (inF hp)
  obtain ⟨j, hj, e2⟩ := List.mem_iff_getElem.mp (inF hq)
  have hh := List.pairwise_iff_getElem.mp h
  rcases Nat.lt_trichotomy i j with l | l | l
  · have := hh i j hi hj l
    rw [e1, e2] at this
    exact absurd e this
  · subst l
    rw [← e1, ← e2]
  · have := hh j i hj hi l
    rw [e1, e2] at this
    exact absurd e.symm this
theorem posI_more {g : Str → Str → Int} {ps : List (Str × Str)} {i : Nat} {q : Str × Str} (h : ps[i]? = some q) : posI g (ps.take (i + 1)) = posI g (ps.take i) ++ if 0 < g q.1 q.2 then [g q.1 q.2] else [] := by
  unfold posI
  rw [take_more h, List.filter_append, List.map_append]
  refine congrArg _ ?_
  by_cases c : 0 < g q.1 q.2
  · rw [if_pos c, List.filter_cons_of_pos (p := fun q : Str × Str => decide (0 < g q.1 q.2)) (decide_eq_true c)] <;> rfl
  · rw [if_neg c, List.filter_cons_of_neg (p := fun q : Str × Str => decide (0 < g q.1 q.2)) (by rw [decide_eq_false c]; exact Bool.false_ne_true)] <;> rfl
theorem posI_len (g : Str → Str → Int) (ps : List (Str × Str)) : (posI g ps).length ≤ ps.length := by
  unfold posI
  rw [List.length_map]
  exact List.length_filter_le _ _
theorem pairsOf_len (zs : List Str) : ∀ ys : List Str, (pairsOf zs ys).length ≤ ys.length * zs.length
  | [] => Nat.zero_le _
  | y :: ys => by
    have ih := pairsOf_len zs ys
    have e : pairsOf zs (y :: ys) = ((zs.filter fun z => decide (y ≠ z)).map fun z => (y, z)) ++ pairsOf zs ys := rfl
    rw [e, List.length_append, List.length_map, List.length_cons, Nat.add_mul]
    have := List.length_filter_le (fun z => decide (y ≠ z)) zs
    omega
theorem marg_twice (rows : List (Bal × Int)) : marg (rows ++ rows) = fun x y => 2 * marg rows x y := by
  funext x y
  have app : ∀ a b : List (Bal × Int), marg (a ++ b) x y = marg a x y + marg b x y := by
    intro a b
    induction a with
    | nil => show marg b x y = 0 + marg b x y; omega
    | cons r a ih =>
      show r.2 * sg (r.1.rk x) (r.1.rk y) + marg (a ++ b) x y = r.2 * sg (r.1.rk x) (r.1.rk y) + marg a x y + marg b x y
      rw [ih]
      omega
  rw [app]
  omega
theorem RowsOk.app {zs : List Str} {m n : Nat} {a b : List (Bal × Int)} (h : RowsOk zs m a) (g : RowsOk zs n b) : RowsOk zs (m + n) (a ++ b) := by
  have h1 := h.1
  have g1 := g.1
  exact ⟨by rw [List.length_append]; omega, fun r hr => (List.mem_append.mp hr).elim (h.2 r) (g.2 r)⟩
theorem split_slot {F : L2.St → Hp → Prop} {σ : L2.St} {H : Hp} {c : Bool} {A : Prop} {G : V → Hp → Prop} {v0 : V} (S : V → L2.St) (main : ∀ v H', G v H' → F (S v) H') (hS : S v0 = σ) (h0 : c = false → G v0 H) (h1 : c = true → (∀ v H', G v H' → F (S v) H') → A) : if c = true then A else F σ H := by
  subst hS
  cases c with
  | true => exact h1 rfl main
  | false => exact main _ _ (h0 rfl)
theorem bool_ext {b c : Bool} {A : Prop} (h : b = true ↔ A) (g : c = true ↔ A) : b = c := Bool.eq_iff_iff.mpr (h.trans g.symm)
/-! ### what stays where tables grow: all but the well and the tables -/
def Kp (p : Addr) (H H' : Hp) : Prop := ∀ a o, a ≠ p → (∀ ps, o ≠ HO.tbl ps) → H a = some o → H' a = some o
theorem Kp.refl {p : Addr} {H : Hp} : Kp p H H := fun _ _ _ _ h => h
theorem Kp.trans {p : Addr} {H H1 H2 : Hp} (a : Kp p H H1) (b : Kp p H1 H2) : Kp p H H2 := fun c o n t h => b c o n t (a c o n t h)
theorem Kp.but {p : Addr} {H H' : Hp} (b : But p H H') : Kp p H H' := fun c o n _ h => b c o n h
theorem Kp.same {p : Addr} {H H' : Hp} (b : Same H H') : Kp p H H' := fun c o _ _ h => b c o h
theorem Kp.ext {p : Addr} {H H' : Hp} (b : LamX.ExtN H H') : Kp p H H' := fun c o _ t h => b c o h t
theorem Kp.tup {p a : Addr} {H H' : Hp} {x xs : List V} (k : Kp p H H') (hp : H p = some (.lst x)) (h : H a = some (.tup xs)) : H' a = some (.tup xs) := k a _ (fun e => by rw [e, hp] at h; cases h) (fun _ e => by cases e) h
theorem Kp.ins {p a C d : Addr} {H H' : Hp} {x : List V} {fs : List (Str × V)} (k : Kp p H H') (hp : H p = some (.lst x)) (h : H a = some (.ins C d fs)) : H' a = some (.ins C d fs) := k a _ (fun e => by rw [e, hp] at h; cases h) (fun _ e => by cases e) h
theorem Kp.dT {p a : Addr} {H H' : Hp} {x : List V} {kvs : List (List Key × V)} (k : Kp p H H') (hp : H p = some (.lst x)) (h : H a = some (.dT kvs)) : H' a = some (.dT kvs) := k a _ (fun e => by rw [e, hp] at h; cases h) (fun _ e => by cases e) h
theorem ext_kp {p : Addr} {H1 H2 H' : Hp} (np : H1 p = none) (s : Same H1 H2) (k : Kp p H2 H') : LamX.ExtN H1 H' := fun b o h t => k b o (ne_of_none h np) t (s _ _ h)
def solid (p : Addr) (H : Hp) : Hp := fun a => if a = p then none else match H a with
  | some (.tbl _) => none
  | o => o
theorem solid_at {p a : Addr} {H : Hp} {o : HO} (n : a ≠ p) (t : ∀ ps, o ≠ .tbl ps) (h : H a = some o) : solid p H a = some o := by
  unfold solid
  rw [if_neg n, h]
  cases o with
  | tbl ps => exact absurd rfl (t ps)
  | _ => rfl
theorem solid_of {p a : Addr} {H : Hp} {o : HO} (h : solid p H a = some o) : a ≠ p ∧ (∀ ps, o ≠ .tbl ps) ∧ H a = some o := by
  unfold solid at h
  by_cases e : a = p
  · rw [if_pos e] at h
    cases h
  · rw [if_neg e] at h
    cases g : H a with
    | none => rw [g] at h; cases h
    | some u =>
      rw [g] at h
      cases u with
      | tbl ps => cases h
      | _ =>
        cases h
        exact ⟨e, fun _ z => (by cases z), rfl⟩
theorem Kp.solid {p : Addr} {H H' : Hp} (k : Kp p H H') : Same (solid p H) (solid p H') := fun a o h => by
  obtain ⟨n, t, h⟩ := solid_of h
  exact solid_at n t (k a o n t h)
theorem solid_sub {p : Addr} {H : Hp} : Same (solid p H) H := fun a o h => (solid_of h).2.2
mutual
theorem DAt.lt {H H' : Hp} (k : ∀ a o, (∀ ps, o ≠ HO.tbl ps) → H a = some o → H' a = some o) : ∀ (d : PyData) {v : V}, DAt H d v → DAt H' d v
  | .none, _, h => h
  | .bool _, _, h => h
  | .int _, _, h => h
  | .str _, _, h => h
  | .list ds, _, ⟨p, xs, e, h, g⟩ => ⟨p, xs, e, k _ _ (fun _ z => (by cases z)) h, DAll.lt k ds g⟩
  | .tuple ds, _, ⟨p, xs, e, h, g⟩ => ⟨p, xs, e, k _ _ (fun _ z => (by cases z)) h, DAll.lt k ds g⟩
  | .dict _, _, h => h
theorem DAll.lt {H H' : Hp} (k : ∀ a o, (∀ ps, o ≠ HO.tbl ps) → H a = some o → H' a = some o) : ∀ (ds : List PyData) {xs : List V}, DAll H ds xs → DAll H' ds xs
  | [], _, h => h
  | d :: ds, _, ⟨v, r, e, h, g⟩ => ⟨v, r, e, DAt.lt k d h, DAll.lt k ds g⟩
end
theorem DAt.solid {p : Addr} {H : Hp} {d : PyData} {v : V} (h : DAt (hide p H) d v) : DAt (solid p H) d v := DAt.lt (fun a o t h => by
  have n : a ≠ p := fun e => by rw [e, hide_at] at h; cases h
  rw [hide_ne n] at h
  exact solid_at n t h) d h
theorem DAt.kp {p : Addr} {H H' : Hp} {d : PyData} {v : V} (k : Kp p H H') (h : DAt (Own.solid p H) d v) : DAt (Own.solid p H') d v := DAt.same k.solid _ h
theorem DAt.up {p : Addr} {H : Hp} {d : PyData} {v : V} (h : DAt (Own.solid p H) d v) : DAt H d v := DAt.same solid_sub _ h
theorem PollOk.kp {C q p o u : Addr} {H H' : Hp} {x : List V} {zs : List Str} {rows : List (Bal × Int)} (k : Kp q H H') (hq : H q = some (.lst x)) (h : PollOk C H p o u zs rows) : PollOk C H' p o u zs rows := by
  obtain ⟨⟨dx, hp⟩, ho, hv, ok, rok⟩ := h
  exact ⟨⟨dx, k.ins hq hp⟩, k.tup hq ho, hv.keep fun _ _ e => k.tup hq e, ok, rok⟩
theorem tabs_but {p : Addr} {H H' : Hp} {x : List V} {T : List (Addr × Str)} (b : But p H H') (hp : H p = some (.lst x)) (h : LamX.Tabs T H) : LamX.Tabs T H' := fun t ht => by
  obtain ⟨ps, h1, h2, h3⟩ := h t ht
  refine ⟨ps, b _ _ (fun e => by rw [e, hp] at h1; cases h1) h1, h2, fun pos cv hc => ?_⟩
  obtain ⟨c, e1, e2⟩ := h3 pos cv hc
  refine ⟨c, e1, b _ _ (fun e => ?_) e2⟩
  rw [e, hp] at e2
  unfold LamX.CodeO at e2
  cases e2
theorem tabs_same {H H' : Hp} {T : List (Addr × Str)} (b : Same H H') (h : LamX.Tabs T H) : LamX.Tabs T H' := h.ext b
/-! ### a dict locked while a loop walks it -/
theorem lock_same {H H' : Hp} {d : Addr} {u : HO} (od : Obj) (h : H d = some u) (s : Same (upd H d (.frz od u)) H') : Same H (upd H' d u) := fun b o e => by
  by_cases c : b = d
  · subst c
    rw [h] at e
    rw [upd_same]
    exact e
  · rw [upd_ne c]
    exact s b o (by rw [upd_ne c]; exact e)
/-! ### the law -/
theorem Kp.mut {p D : Addr} {H H' : Hp} {o : HO} (k : Kp p H H') (n : H D = none) : Kp p H (upd H' D o) := fun b u h t e => by
  rw [upd_ne (ne_of_none e n)]
  exact k b u h t e
section
variable {P : Program} {w : World} {K : PySem.W.Frag} {mg : Str → Option Value} {base : Heap}
def FrW (a : Addr) (σ : L2.St) : Prop := ∃ y1 y2 y3 y4 y5 y6 y7 y8 y9 y10 y11 y12 y13 y14 y15 y16 y17 y18 : Option V, σ = [some (.ref a), y1, y2, y3, y4, y5, y6, y7, y8, y9, y10, y11, y12, y13, y14, y15, y16, y17, y18]
def sp_law (K : PySem.W.Frag) (cs : Tabs3) : Sp := fun vs H Q _ => ∃ (a : Addr) (ns : List Int), vs = [.ref a] ∧ SqL K H a (ns.map V.int) ∧ ns.length ≤ 63 ∧ (∀ t ∈ cs, H t.2.2 = some (.tbl #[])) ∧ ∀ H', Q (.bl true) H'
/-- orders that stand, held in a list -/
def ToldAt (H : Hp) (zs : List Str) (g : Str → Str → Int) (as : List (Addr × List Str)) : Prop := ∀ a ∈ as, H a.1 = some (.tup (a.2.map V.str)) ∧ a.2.Perm zs ∧ StandsP g a.2
theorem ToldAt.keep {H H' : Hp} {zs : List Str} {g : Str → Str → Int} {as : List (Addr × List Str)} (k : ∀ a xs, H a = some (.tup xs) → H' a = some (.tup xs)) (h : ToldAt H zs g as) : ToldAt H' zs g as := fun a ha => ⟨k _ _ (h a ha).1, (h a ha).2⟩
theorem ok_law (T : Txt K mg) (tb : ∀ t ∈ T.tabs, LamX.TabB base mg t.2.1 t.2.2) : FnOk P w K mg base CX0 10 T.f_law T.fd_law ["_law_script"] (sp_law K T.tabs) := by
  refine T.F_law.ok sc_law (fun vs H Q E h => ?_) (fun cdv A outer s H vs Q E hr h => ?_)
  · obtain ⟨a, ns, rfl, _⟩ := h
    rfl
  · obtain ⟨a, ns, rfl, hS, hlen, hT, q⟩ := h
    refine ⟨_, (pss_cons
 (ps_for PassesOwn.never rfl (pi_range1 rfl T.z_range (pa_cons (pe_callB (call_max2 rfl) (by rfl) T.z_max (by decide +kernel) (pa_cons pe_int (pa_cons (pe_callB (call_min2 rfl) (by rfl) T.z_min (by decide +kernel) (pa_cons pe_int (pa_cons (pe_callB call_len_seq (by rfl) T.z_len (by decide +kernel) (pa_cons (pv 0) pa_nil)) pa_nil))) pa_nil))) pa_nil)) (pg_name (i := 1) sc_law.nd rfl (Or.inl rfl))
 (pss_cons
 (ps_set (i := 2) sc_law.nd rfl (Or.inr rfl) (pe_call (ok_law_well T) (hr.mono (by decide)) (by rfl) T.g_law_well T.F_law_well.kp T.b_law_well .nil pass0 (pa_cons (pe_call (ok_law_cell_at T) (hr.mono (by decide)) (by rfl) T.g_law_cell_at T.F_law_cell_at.kp T.b_law_cell_at .nil pass0 (pa_cons (pv 0) (pa_cons (pv 1) pa_nil))) pa_nil)))
 (pss_cons
 (ps_asg (pe_call (ok_law_parts T) (hr.mono (by decide)) (by rfl) T.g_law_parts T.F_law_parts.kp T.b_law_parts .nil pass0 (pa_cons (pv 2) (pa_cons (pe_lst (pa_cons pe_int (pa_cons pe_int (pa_cons pe_int (pa_cons pe_int (pa_cons pe_int (pa_cons pe_int (pa_cons pe_int pa_nil)))))))) pa_nil))) (pg_tup rfl (pgs_cons (pg_name (i := 3) sc_law.nd rfl (Or.inr rfl)) (pgs_cons (pg_name (i := 4) sc_law.nd rfl (Or.inl rfl)) pgs_nil))))
 (pss_cons
 (ps_set (i := 5) sc_law.nd rfl (Or.inr rfl) (pc_pos T.mk_Poll (ok_Poll_init T) (hr.mono (by decide)) (by rfl) T.k_Poll T.kb_Poll_init_3 (fun σ => atN σ) (pa_cons (pv 3) (pa_cons (pv 4) pa_nil))))
 (pss_cons
 (ps_set (i := 6) sc_law.nd rfl (Or.inr rfl) (pe_call (ok_margins T) (hr.mono (by decide)) (by rfl) T.g_margins T.F_margins.kp T.b_margins .nil pass0 (pa_cons (pv 5) pa_nil)))
 (pss_cons
 (ps_asg (pe_tup (pa_cons (pe_call (ok_law_turned T) (hr.mono (by decide)) (by rfl) T.g_law_turned T.F_law_turned.kp T.b_law_turned .nil pass0 (pa_cons (pv 5) pa_nil)) (pa_cons (pc_pos T.mk_Poll (ok_Poll_init T) (hr.mono (by decide)) (by rfl) T.k_Poll T.kb_Poll_init_3 (fun σ => atN σ) (pa_cons (pv 3) (pa_cons (pe_op op_catA (pv 4) (pv 4)) pa_nil))) pa_nil))) (pg_tup rfl (pgs_cons (pg_name (i := 7) sc_law.nd rfl (Or.inr rfl)) (pgs_cons (pg_name (i := 8) sc_law.nd rfl (Or.inl rfl)) pgs_nil))))
 (pss_cons
 (ps_set (i := 9) sc_law.nd rfl (Or.inr rfl) (pe_op op_cat (pe_lst (pa_cons (pf_pos (ok_pairs_order T tb) (hr.mono (by decide)) (by rfl) T.g_pairs_order T.F_pairs_order.kp T.kb_pairs_order_1 (fun σ => at0 σ) (pa_cons (pv 5) pa_nil)) pa_nil)) (pe_lc (own := [("_law_turn", 16)]) (g := gName 16) (tt := tYes) rfl sc_law.nd (pi_range1 rfl T.z_range (pa_cons pe_int pa_nil)) (blkOk_by (own := [("_law_turn", 16)]) (N := ["_law_script", "_law_k", "_law_well_here", "_law_names_here", "_law_rows", "_law_p", "_law_table", "_law_about", "_law_twice", "_law_told", "_law_some", "_law_facts", "_law_stand", "_law_one_here", "_law_good", "_law_above", "_law_turn", "_law_pair", "_law_number"]) (sc := (defScope s_law)) (by decide +kernel)) (fun _ _ _ _ _ => pg_name (i := 16) sc_law.nd rfl (Or.inl rfl)) (fun _ _ _ _ _ => pts_nil) (fun _ _ _ _ _ => (pf_both (ok_pairs_order T tb) (hr.mono (by decide)) (by rfl) T.g_pairs_order T.F_pairs_order.kp T.kb_pairs_order_1_ties (fun σ => at0 σ) (pa_cons (pv 5) pa_nil) (pk_cons (pe_call (ok_law_shuffled T) (hr.mono (by decide)) (by rfl) T.g_law_shuffled T.F_law_shuffled.kp T.b_law_shuffled .nil pass0 (pa_cons (pv 2) (pa_cons (pv 3) pa_nil))) pk_nil))))))
 (pss_cons
 (ps_set (i := 10) sc_law.nd rfl (Or.inl rfl) (pe_call (ok_law_orders T) (hr.mono (by decide)) (by rfl) T.g_law_orders T.F_law_orders.kp T.b_law_orders .nil pass0 (pa_cons (pv 3) pa_nil)))
 (pss_cons
 (ps_if (pt_cmpR op_gt (pe_callB call_len_seq (by rfl) T.z_len (by decide +kernel) (pa_cons (pv 3) pa_nil)) pe_int (nomark _))
 (pss_one
 (ps_setLc (i := 10) (own := [("_law_turn", 16)]) (g := gName 16) (tt := tYes) rfl sc_law.nd rfl rfl (sw_true rfl rfl rfl (by decide +kernel)) (pi_range1 rfl T.z_range (pa_cons pe_int pa_nil)) (blkOk_by (own := [("_law_turn", 16)]) (N := ["_law_script", "_law_k", "_law_well_here", "_law_names_here", "_law_rows", "_law_p", "_law_table", "_law_about", "_law_twice", "_law_told", "_law_some", "_law_facts", "_law_stand", "_law_one_here", "_law_good", "_law_above", "_law_turn", "_law_pair", "_law_number"]) (sc := (defScope s_law)) (by decide +kernel)) (fun _ _ _ _ _ => pg_name (i := 16) sc_law.nd rfl (Or.inl rfl)) (fun _ _ _ _ _ => pts_nil) (fun _ _ _ _ _ => (pe_call (ok_law_shuffled T) (hr.mono (by decide)) (by rfl) T.g_law_shuffled T.F_law_shuffled.kp T.b_law_shuffled .nil pass0 (pa_cons (pv 2) (pa_cons (pv 3) pa_nil))))))
 pss_nil)
 (pss_cons
 (ps_if (PW.pt (pw_or (pt_cmpR (op_neD hr.units) (pe_lc (own := [("_law_one_here", 13)]) (g := gName 13) rfl sc_law.nd (pi_list (pv 9)) (blkOk_by (own := [("_law_one_here", 13)]) (N := ["_law_script", "_law_k", "_law_well_here", "_law_names_here", "_law_rows", "_law_p", "_law_table", "_law_about", "_law_twice", "_law_told", "_law_some", "_law_facts", "_law_stand", "_law_one_here", "_law_good", "_law_above", "_law_turn", "_law_pair", "_law_number"]) (sc := (defScope s_law)) (by decide +kernel)) (fun _ _ _ _ _ => pg_name (i := 13) sc_law.nd rfl (Or.inl rfl)) (fun _ _ _ _ _ => (pts_one (pt_not (pt_val (pe_call (ok_shows_stands T) (hr.mono (by decide)) (by rfl) T.g_shows_stands T.F_shows_stands.kp T.b_shows_stands .nil pass0 (pa_cons (pv 5) (pa_cons (pv 13) pa_nil))))))) (fun _ _ _ _ _ => (pv 13))) (pe_lst pa_nil) (nomark _)) (pw_or1 (pt_cmpR (op_neD hr.units) (pf_pos (ok_pairs_order T tb) (hr.mono (by decide)) (by rfl) T.g_pairs_order T.F_pairs_order.kp T.kb_pairs_order_1 (fun σ => at0 σ) (pa_cons (pv 8) pa_nil)) (pe_ix ix_list (pv 9) pe_int (fun _ _ => rfl)) (nomark _)))))
 (pss_one
 (ps_ret pe_bl))
 pss_nil)
 (pss_cons
 (ps_set (i := 11) sc_law.nd rfl (Or.inr rfl) (pe_tup (pa_cons (pe_call (ok_top_lot T) (hr.mono (by decide)) (by rfl) T.g_top_lot T.F_top_lot.kp T.b_top_lot .nil pass0 (pa_cons (pv 5) pa_nil)) (pa_cons (pe_call (ok_leader T) (hr.mono (by decide)) (by rfl) T.g_leader T.F_leader.kp T.b_leader .nil pass0 (pa_cons (pv 5) pa_nil)) (pa_cons (pe_call (ok_trailer T) (hr.mono (by decide)) (by rfl) T.g_trailer T.F_trailer.kp T.b_trailer .nil pass0 (pa_cons (pv 5) pa_nil)) pa_nil)))))
 (pss_cons
 (ps_set (i := 12) sc_law.nd rfl (Or.inl rfl) (pe_callTy call_list_of (by rfl) T.z_list (by decide +kernel) (pa_cons (pv 9) pa_nil)))
 (pss_cons
 (ps_for PassesOwn.never rfl (pi_list (pv 10)) (pg_name (i := 13) sc_law.nd rfl (Or.inl rfl))
 (pss_cons
 (ps_set (i := 14) sc_law.nd rfl (Or.inl rfl) (pe_call (ok_shows_stands T) (hr.mono (by decide)) (by rfl) T.g_shows_stands T.F_shows_stands.kp T.b_shows_stands .nil pass0 (pa_cons (pv 5) (pa_cons (pv 13) pa_nil))))
 (pss_cons
 (ps_if (pt_cmpR op_ne (pe_call (ok_shows_stands T) (hr.mono (by decide)) (by rfl) T.g_shows_stands T.F_shows_stands.kp T.b_shows_stands .nil pass0 (pa_cons (pv 8) (pa_cons (pv 13) pa_nil))) (pv 14) (nomark _))
 (pss_one
 (ps_ret pe_bl))
 pss_nil)
 (pss_one
 (ps_set (i := 12) sc_law.nd rfl (Or.inl rfl) (pe_op op_cat (pv 12) (pe_op op_rep (pe_lst (pa_cons (pv 13) pa_nil)) (pe_callTy call_int1 (by rfl) T.z_int (by decide +kernel) (pa_cons (pv 14) pa_nil)))))))))
 (pss_cons
 (ps_if (pt_cmpR (op_neD hr.units) (pe_lc (own := [("_law_one_here", 13)]) (g := gName 13) rfl sc_law.nd (pi_list (pv 12)) (blkOk_by (own := [("_law_one_here", 13)]) (N := ["_law_script", "_law_k", "_law_well_here", "_law_names_here", "_law_rows", "_law_p", "_law_table", "_law_about", "_law_twice", "_law_told", "_law_some", "_law_facts", "_law_stand", "_law_one_here", "_law_good", "_law_above", "_law_turn", "_law_pair", "_law_number"]) (sc := (defScope s_law)) (by decide +kernel)) (fun _ _ _ _ _ => pg_name (i := 13) sc_law.nd rfl (Or.inl rfl)) (fun _ _ _ _ _ => (pts_one (pt_not (pt_val (pe_call (ok_law_standing_right T) (hr.mono (by decide)) (by rfl) T.g_law_standing_right T.F_law_standing_right.kp T.b_law_standing_right .nil pass0 (pa_cons (pv 6) (pa_cons (pv 7) (pa_cons (pv 11) (pa_cons (pv 13) pa_nil))))))))) (fun _ _ _ _ _ => (pv 13))) (pe_lst pa_nil) (nomark _))
 (pss_one
 (ps_ret pe_bl))
 pss_nil)
 (pss_cons
 (ps_set (i := 15) sc_law.nd rfl (Or.inl rfl) (pe_callB cr_sorted (by rfl) T.z_sorted (by decide +kernel) (pa_cons (pe_lock (pe_lc (own := [("_law_pair", 17), ("_law_number", 18)]) rfl sc_law.nd (pi_itemsT (pv 6)) (blkOk_by (own := [("_law_pair", 17), ("_law_number", 18)]) (N := ["_law_script", "_law_k", "_law_well_here", "_law_names_here", "_law_rows", "_law_p", "_law_table", "_law_about", "_law_twice", "_law_told", "_law_some", "_law_facts", "_law_stand", "_law_one_here", "_law_good", "_law_above", "_law_turn", "_law_pair", "_law_number"]) (sc := (defScope s_law)) (by decide +kernel)) (fun s0 H0 C0 cl0 fp0 => (by have h := (pg_tup (n := 2) rfl (pgs_cons (pg_name (i := 17) sc_law.nd rfl (Or.inl rfl)) (pgs_cons (pg_name (i := 18) sc_law.nd rfl (Or.inl rfl)) pgs_nil)) : PG ((cxOf CX0 P w K mg base ["_law_script", "_law_k", "_law_well_here", "_law_names_here", "_law_rows", "_law_p", "_law_table", "_law_about", "_law_twice", "_law_told", "_law_some", "_law_facts", "_law_stand", "_law_one_here", "_law_good", "_law_above", "_law_turn", "_law_pair", "_law_number"] "law" (defScope s_law) T.f_law cdv A outer s H E).nox.blk s0 H0 (lcScope (subE (rootE ((blkOf ((defBody s_law).getD 0 (.Pass ⟨0, 0, 0, 0⟩)) 0).getD 13 (.Pass ⟨0, 0, 0, 0⟩))) 1)) (compEnvC (lcScope (subE (rootE ((blkOf ((defBody s_law).getD 0 (.Pass ⟨0, 0, 0, 0⟩)) 0).getD 13 (.Pass ⟨0, 0, 0, 0⟩))) 1)) cl0 C0 (cxOf CX0 P w K mg base ["_law_script", "_law_k", "_law_well_here", "_law_names_here", "_law_rows", "_law_p", "_law_table", "_law_about", "_law_twice", "_law_told", "_law_some", "_law_facts", "_law_stand", "_law_one_here", "_law_good", "_law_above", "_law_turn", "_law_pair", "_law_number"] "law" (defScope s_law) T.f_law cdv A outer s H E).nox.env) fp0) (subE (subE (rootE ((blkOf ((defBody s_law).getD 0 (.Pass ⟨0, 0, 0, 0⟩)) 0).getD 13 (.Pass ⟨0, 0, 0, 0⟩))) 1) 2) _); dsimp only [Cx.blk, Cx.tr, Cx.suite, Cx.nox, Cx.wish, cxOf] at h; exact h)) (fun _ _ _ _ _ => (pts_one (pt_cmpR op_gt (pv 18) pe_int (nomark _)))) (fun _ _ _ _ _ => (pv 18)))) pa_nil)))
 (pss_one
 (ps_if (PW.pt (pw_and (pt_cmpR op_eq (pe_op op_mul pe_int (pe_callB call_len_seq (by rfl) T.z_len (by decide +kernel) (pa_cons (pv 15) pa_nil))) (pe_callB call_len_dT (by rfl) T.z_len (by decide +kernel) (pa_cons (pv 6) pa_nil)) (nomark _)) (pw_and1 (pt_cmpR op_eq (pe_unlikeI rfl (by rfl) T.z_len (by rfl) T.z_set (pv 15)) (pe_callB call_len_seq (by rfl) T.z_len (by decide +kernel) (pa_cons (pv 15) pa_nil)) (nomark _)))))
 (pss_one
 (ps_if (pt_cmpR (op_neD hr.units) (pe_lc (own := [("_law_one_here", 13)]) (g := gName 13) rfl sc_law.nd (pi_list (pv 12)) (blkOk_by (own := [("_law_one_here", 13)]) (N := ["_law_script", "_law_k", "_law_well_here", "_law_names_here", "_law_rows", "_law_p", "_law_table", "_law_about", "_law_twice", "_law_told", "_law_some", "_law_facts", "_law_stand", "_law_one_here", "_law_good", "_law_above", "_law_turn", "_law_pair", "_law_number"]) (sc := (defScope s_law)) (by decide +kernel)) (fun _ _ _ _ _ => pg_name (i := 13) sc_law.nd rfl (Or.inl rfl)) (fun s0 H0 C0 cl0 fp0 => (by have h := ((pts_one (pt_cmpR (op_neD hr.units) (pv 13) (pe_ix ix_list (pv 9) pe_int (fun _ _ => rfl)) (nomark _))) : PTs ((cxOf CX0 P w K mg base ["_law_script", "_law_k", "_law_well_here", "_law_names_here", "_law_rows", "_law_p", "_law_table", "_law_about", "_law_twice", "_law_told", "_law_some", "_law_facts", "_law_stand", "_law_one_here", "_law_good", "_law_above", "_law_turn", "_law_pair", "_law_number"] "law" (defScope s_law) T.f_law cdv A outer s H E).nox.blk s0 H0 (lcScope (subE (rootE ((blkOf ((blkOf ((defBody s_law).getD 0 (.Pass ⟨0, 0, 0, 0⟩)) 0).getD 14 (.Pass ⟨0, 0, 0, 0⟩)) 0).getD 0 (.Pass ⟨0, 0, 0, 0⟩))) 0)) (compEnvC (lcScope (subE (rootE ((blkOf ((blkOf ((defBody s_law).getD 0 (.Pass ⟨0, 0, 0, 0⟩)) 0).getD 14 (.Pass ⟨0, 0, 0, 0⟩)) 0).getD 0 (.Pass ⟨0, 0, 0, 0⟩))) 0)) cl0 C0 (cxOf CX0 P w K mg base ["_law_script", "_law_k", "_law_well_here", "_law_names_here", "_law_rows", "_law_p", "_law_table", "_law_about", "_law_twice", "_law_told", "_law_some", "_law_facts", "_law_stand", "_law_one_here", "_law_good", "_law_above", "_law_turn", "_law_pair", "_law_number"] "law" (defScope s_law) T.f_law cdv A outer s H E).nox.env) fp0) (lcIfs (subE (rootE ((blkOf ((blkOf ((defBody s_law).getD 0 (.Pass ⟨0, 0, 0, 0⟩)) 0).getD 14 (.Pass ⟨0, 0, 0, 0⟩)) 0).getD 0 (.Pass ⟨0, 0, 0, 0⟩))) 0)) _); dsimp only [Cx.blk, Cx.tr, Cx.suite, Cx.nox, Cx.wish, cxOf] at h; exact h)) (fun _ _ _ _ _ => (pv 13))) (pe_lst pa_nil) (nomark _))
 (pss_one
 (ps_ret pe_bl))
 pss_nil))
 pss_nil)))))))))))))))))
 (pss_one
 (ps_ret pe_bl))), ?_⟩
    refine ⟨.ref a, rfl, a, _, rfl, .inl hS, _, _, rfl, _, _, rfl, ?_⟩
    generalize hN : (if (if ((ns.map V.int).length : Int) < 2 then ((ns.map V.int).length : Int) else 2) > 1 then (if ((ns.map V.int).length : Int) < 2 then ((ns.map V.int).length : Int) else 2) else 1) = N
    have hN4 : 1 ≤ N ∧ N ≤ 2 := by rw [← hN]; constructor <;> split <;> (try split) <;> omega
    have tt : LamX.Tabs [(T.tp_kept_pairs, lamK)] H := fun t ht => by
      rw [List.mem_singleton.mp ht]
      exact LamX.TabS.nil (hT ("kept_pairs", T.tc_kept_pairs, T.tp_kept_pairs) (by simp [Txt.tabs]))
    refine ⟨N, rfl, by omega, by omega, for_range (fun i σ H' => FrW a σ ∧ LamX.ExtN H H' ∧ LamX.Tabs [(T.tp_kept_pairs, lamK)] H') ⟨⟨none, none, none, none, none, none, none, none, none, none, none, none, none, none, none, none, none, none, rfl⟩, LamX.ExtN.refl _, tt⟩ ?_ ?_⟩
    · rintro n0 σ H1 hi ⟨⟨y1, y2, y3, y4, y5, y6, y7, y8, y9, y10, y11, y12, y13, y14, y15, y16, y17, y18, rfl⟩, x1, tt1⟩
      refine ⟨.ref a, rfl, (.int (0 + (n0 : Nat))), rfl, a, ns, n0, by rw [Int.zero_add]; rfl, Own.SqL.extN x1 hS, hlen, fun z => ⟨z, rfl, fun p x np wx => ?_⟩⟩
      have s2 : Same H1 (upd H1 p (.lst x)) := same_upd np
      have hp2 : (upd H1 p (.lst x)) p = some (.lst x) := upd_same
      generalize upd H1 p (HO.lst x) = H2 at s2 hp2 ⊢
      refine ⟨.ref p, rfl, line_of (show 7 ≤ 1000 by decide), fun l nl => ?_⟩
      have pl : l ≠ p := fun e => by rw [e, hp2] at nl; cases nl
      have s3 : Same H2 (upd H2 l (.lst [V.int 3, V.int 4, V.int 3, V.int 5, V.int 4, V.int 2, V.int 1])) := same_upd nl
      refine ⟨p, l, [3, 4, 3, 5, 4, 2, 1], x, 0, rfl, s3 _ _ hp2, upd_same, pl, by decide, by decide, by decide, wx, by decide, fun u t r zs rows y H3 hu ht z0 z6 zn nd okz hrow rok but nu hp3 wy => ?_⟩
      have b3 : But p H2 H3 := fun c o n h => but c o n (s3 _ _ h)
      have ok : OptsOk zs := ⟨fun e => by rw [e] at z0; exact absurd z0 (by decide), z6, nd, okz⟩
      have rok30 := rok.more (show 6 ≤ 30 by decide)
      have anti : ∀ a b, marg rows b a = -(marg rows a b) := fun a b => marg_turn a b rows
      have k23 : Kp p H2 H3 := .but b3
      have tt3 := tabs_but b3 hp2 (tabs_same s2 tt1)
      refine ⟨u, _, rfl, .of hu, rfl, _, _, rfl, _, _, rfl, rfl, ?_⟩
      refine ⟨.ref t, rfl, .ref r, rfl, rfl, rfl, fun pp dx n1 n2 n3 => ?_⟩
      have s6m : Same H3 (upd (upd H3 dx (.own pp)) pp (.ins T.C_Poll dx [])) := made_same n1 n2 (But.refl _ _)
      refine ⟨pp, dx, t, r, zs, rows, rfl, upd_same, s6m _ _ ht, hrow.same s6m, ok, rok30, fun H4 b4 e4 => ?_⟩
      have s4 : Same H3 H4 := made_same n1 n2 b4
      have pk4 : PollOk T.C_Poll H4 pp t r zs rows := ⟨⟨dx, e4⟩, s4 _ _ ht, hrow.same s4, ok, rok30⟩
      refine ⟨rfl, .ref pp, rfl, pp, t, r, zs, rows, rfl, pk4, fun M H5 s5 nM eM => ?_⟩
      have pk5 := pk4.same s5
      refine ⟨.ref pp, rfl, pp, t, r, zs, rows, rfl, pk5, fun ab u' rows' H6 s6 ka tm => ?_⟩
      have pk6 := pk5.same s6
      obtain ⟨as2, hr2', ha2, hm2⟩ := id pk6.votes
      refine ⟨.ref t, rfl, .ref r, rfl, .ref r, rfl, ?_⟩
      refine catA_of hr2' hr2' (by
        have := rok.1
        rw [← hm2, List.length_map] at this
        rw [List.length_map]
        exact line_of (show as2.length + as2.length ≤ 1000 by omega)) fun rr HB err sB => ?_
      have twice : RowsAt HB rr (rows ++ rows) := ⟨as2 ++ as2, by rw [err, List.map_append], fun a' ha' => by
        have : a' ∈ as2 := (List.mem_append.mp ha').elim id id
        exact ⟨sB _ _ (ha2 a' this).1, (ha2 a' this).2.same sB⟩, by rw [List.map_append, hm2]⟩
      refine ⟨rfl, rfl, fun pp2 dx2 n1 n2 n3 => ?_⟩
      have sm : Same HB (upd (upd HB dx2 (.own pp2)) pp2 (.ins T.C_Poll dx2 [])) := made_same n1 n2 (But.refl _ _)
      refine ⟨pp2, dx2, t, rr, zs, rows ++ rows, rfl, upd_same, (sB.trans sm) _ _ pk6.opts, twice.same sm, ok, (rok.app rok).more (by decide), fun HC bC eC => ?_⟩
      have sC : Same HB HC := made_same n1 n2 bC
      have sAC := sB.trans sC
      have pkt : PollOk T.C_Poll HC pp2 t rr zs (rows ++ rows) := ⟨⟨dx2, eC⟩, sAC _ _ pk6.opts, twice.same sC, ok, (rok.app rok).more (by decide)⟩
      refine ⟨rfl, line_of (show 2 ≤ 1000 by decide), fun u2 nu2 => ?_⟩
      have sD := same_upd (o := HO.tup [V.ref ab, V.ref pp2]) nu2
      have eu2 : (upd HC u2 (.tup [V.ref ab, V.ref pp2])) u2 = some (.tup [V.ref ab, V.ref pp2]) := upd_same
      generalize upd HC u2 (.tup [V.ref ab, V.ref pp2]) = H7 at sD eu2 ⊢
      have s67 := sAC.trans sD
      have s37 : Same H3 H7 := s4.trans (s5.trans (s6.trans s67))
      refine ⟨u2, _, rfl, .of eu2, rfl, _, _, rfl, _, _, rfl, rfl, ?_⟩
      have pk7 := pk6.same s67
      have ka7 := ka.same s67
      have pkt7 := pkt.same sD
      have eM7 := (s6.trans s67) _ _ eM
      have hp7 := s37 _ _ hp3
      have t7 := tabs_same s37 tt3
      have k27 : Kp p H2 H7 := k23.trans (.same s37)
      clear s37 s67 sD sAC sC twice err sB pk6 pk5 pk4 s6m s4 s5 s6 bC b4 e4 hr2' ha2 hm2 eC ka pkt eM tt3 k23 b3 but hrow ht sm hp3
      -- the orders told
      refine ⟨.ref pp, rfl, rfl, rfl, pp, t, r, zs, rows, .ref T.e_pairs_order, .tuple [], zs, rfl, pk7, .inr (.inr ⟨_, rfl, T.es_pairs_order, T.et_pairs_order, rfl⟩), Nat.zero_le _, .inl ⟨rfl, rfl⟩, t7, fun R H8 x8 t8 fR eR => ?_⟩
      have hp8 := x8 _ _ hp7 (fun _ e => by cases e)
      have k28 : Kp p H2 H8 := k27.trans (.ext x8)
      have kx : ∀ {b : Addr} {o : HO}, H7 b = some o → (∀ ps, o ≠ HO.tbl ps) → H8 b = some o := fun {b o} e h => x8 _ _ e h
      have pk8 := pk7.kp (.ext x8) hp7
      have ka8 := ka7.kp (.ext x8) hp7
      have pkt8 := pkt7.kp (.ext x8) hp7
      have eM8 := kx eM7 (fun _ e => by cases e)
      have told0 : ToldAt H8 zs (marg rows) [(R, pairsO (marg rows) zs)] := fun a ha => by
        rw [List.mem_singleton.mp ha]
        exact ⟨eR, pairsO_perm _ _, pairsO_stands nd⟩
      clear x8 k27 t7 hp7 eM7 pkt7 ka7 pk7 eR fR kx
      refine ⟨line_of (show 1 ≤ 1000 by decide), fun l1 nl1 => ?_⟩
      have s9 := same_upd (o := HO.lst [V.ref R]) nl1
      have el1 : (upd H8 l1 (.lst [V.ref R])) l1 = some (.lst [V.ref R]) := upd_same
      generalize upd H8 l1 (.lst [V.ref R]) = H9 at s9 el1 ⊢
      have hp9 := s9 _ _ hp8
      have t9 := tabs_same s9 t8
      have pk9 := pk8.same s9
      refine ⟨3, rfl, by decide, by decide, fun D nD => ?_⟩
      have Dp : D ≠ p := (ne_of_none hp9 nD).symm
      refine lc_range (n := 3) (fun i H' => ∃ (as : List (Addr × List Str)) (y' : List V), Kp p H9 H' ∧ LamX.Tabs [(T.tp_kept_pairs, lamK)] H' ∧ H' D = some (.lst (as.map fun a => V.ref a.1)) ∧ ToldAt H' zs (marg rows) as ∧ as.length = i ∧ H' p = some (.lst y') ∧ WellL y' (400 + 6 * i)) ⟨[], y, Kp.refl.mut nD, tabs_same (same_upd nD) t9, upd_same, fun _ h => (by cases h), rfl, by rw [upd_ne Dp.symm]; exact hp9, wy⟩ ?_ ?_
      · rintro i HA hiA ⟨as, y', kA, tA, eA, oA, la, hpA, wA⟩
        have pkA := pk9.kp kA hp9
        refine ⟨rfl, .ref pp, rfl, .ref p, rfl, .ref t, rfl, p, t, zs, y', _, rfl, hpA, pkA.opts, z6, okz, wA, by omega, fun uu ws y3 HB pm bB nuB eB hpB wB => ?_⟩
        have pkB := pkA.kp (.but bB) hpA
        have tB := tabs_but bB hpA tA
        refine ⟨rfl, rfl, pp, t, r, zs, rows, .ref uu, .tuple (ws.map PyData.str), ws, rfl, pkB, .inl ⟨uu, _, rfl, eB, DAll.strs _⟩, by show (List.map _ _).length ≤ 500; rw [List.length_map, pm.length_eq]; omega, .inr ⟨?_, rfl, pm⟩, tB, fun R2 HC xC tC fR2 eR2 => ?_⟩
        · obtain ⟨w0, wr, e⟩ : ∃ w0 wr, ws = w0 :: wr := by
            cases ws with
            | nil =>
              have h0 : 0 = zs.length := pm.length_eq
              omega
            | cons a b => exact ⟨a, b, rfl⟩
          rw [e]
          rfl
        have eDC := xC _ _ (bB _ _ Dp eA) (fun _ e => by cases e)
        have kC := kA.trans ((Kp.but bB).trans (.ext xC))
        have hpC := xC _ _ hpB (fun _ e => by cases e)
        have keep : ∀ {a : Addr} {xs : List V}, HC a = some (.tup xs) → (upd HC D (.lst ((as.map fun a => V.ref a.1) ++ [.ref R2]))) a = some (.tup xs) := fun {a xs} h => by
          rw [upd_ne (fun e => by rw [e, eDC] at h; cases h)]
          exact h
        refine ⟨_, eDC, small1000 (by rw [List.length_map]; omega), as ++ [(R2, pairsO (marg rows) ws)], y3, kC.mut nD, tabs_upd eDC (fun _ e => by cases e) (fun _ e => by cases e) tC, by rw [upd_same, List.map_append]; rfl, fun a ha => ?_, by rw [List.length_append, la]; rfl, by rw [upd_ne Dp.symm]; exact hpC, wB.mono (by omega)⟩
        rcases List.mem_append.mp ha with ha | ha
        · obtain ⟨o1, o2⟩ := oA a ha
          exact ⟨keep (xC _ _ (bB _ _ (fun e => by rw [e, hpA] at o1; cases o1) o1) (fun _ e => by cases e)), o2⟩
        · rw [List.mem_singleton.mp ha]
          exact ⟨keep eR2, (pairsO_perm _ _).trans pm, pairsO_stands (pm.nodup_iff.mpr nd)⟩
      rintro HA ⟨as, y3, kA, tA, eA, oA, la, hpA, wA⟩
      have el1A := kA _ _ (ne_of_none hp8 nl1).symm (fun _ e => by cases e) el1
      refine ⟨l1, D, _, _, rfl, rfl, el1A, eA, line_of (show 1 + (as.map fun a => V.ref a.1).length ≤ 1000 by rw [List.length_map]; omega), fun N nN => ?_⟩
      have Np : N ≠ p := (ne_of_none hpA nN).symm
      have sN := same_upd (o := HO.lst ([V.ref R] ++ as.map fun a => V.ref a.1)) nN
      have eN : (upd HA N (.lst ([V.ref R] ++ as.map fun a => V.ref a.1))) N = some (.lst (((R, pairsO (marg rows) zs) :: as).map fun a => V.ref a.1)) := upd_same
      generalize upd HA N (.lst ([V.ref R] ++ as.map fun a => V.ref a.1)) = HB at sN eN ⊢
      have kB : Kp p H9 HB := kA.trans (.same sN)
      have toldB : ToldAt HB zs (marg rows) ((R, pairsO (marg rows) zs) :: as) := fun a ha => by
        rcases List.mem_cons.mp ha with e | ha
        · rw [e]
          have := told0 _ (List.mem_singleton.mpr rfl)
          exact ⟨kB.tup hp9 (s9 _ _ this.1), this.2⟩
        · exact ⟨sN _ _ (oA a ha).1, (oA a ha).2⟩
      have hpB := sN _ _ hpA
      have tB := tabs_same sN tA
      have pkB := pk9.kp kB hp9
      have kaB := (ka8.same s9).kp kB hp9
      have pktB := (pkt8.same s9).kp kB hp9
      have eMB := kB.dT hp9 (s9 _ _ eM8)
      have k2B : Kp p H2 HB := (k28.trans (.same s9)).trans kB
      have lts : ((R, pairsO (marg rows) zs) :: as).length = 4 := by rw [List.length_cons, la]
      have hd0 : ((R, pairsO (marg rows) zs) :: as)[0]? = some (R, pairsO (marg rows) zs) := rfl
      generalize (R, pairsO (marg rows) zs) :: as = ts at eN toldB lts hd0
      clear sN kB el1A eA kA oA hpA tA k28 s9 eM8 pkt8 ka8 told0 el1 hp9 t9 pk9 pk8 hp8 t8
      -- all orders, or five drawn
      refine ⟨.ref t, rfl, t, zs, rfl, pkB.opts, nd, z6, fun L os HC sC nL eL oC lo => ?_⟩
      refine ⟨.ref t, rfl, t, _, rfl, .inr (.of (sC _ _ pkB.opts)), _, _, rfl, rfl, _, rfl, ?_⟩
      refine split_slot (S := fun v => [some (.ref a), some (.int (0 + (n0 : Nat))), some (.ref p), some (.ref t), some (.ref r), some (.ref pp), some (.ref M), some (.ref ab), some (.ref pp2), some (.ref N), some v, y11, y12, y13, y14, y15, y16, y17, y18]) (v0 := .ref L)
        (G := fun v H' => ∃ (L : Addr) (os : List (Addr × List Str)) (y' : List V), v = .ref L ∧ But p HB H' ∧ H' L = some (.lst (os.map fun a => V.ref a.1)) ∧ OrdsAt H' zs os ∧ os.length ≤ 50000 ∧ H' p = some (.lst y')) ?_ ?_ ?_ ?_
      rotate_left
      · rfl
      · intro _
        exact ⟨L, os, y3, rfl, (But.refl p HB).same sC, eL, oC, lo, sC _ _ hpB⟩
      · intro _ main
        refine ⟨5, rfl, by decide, by decide, fun D nD => ?_⟩
        have hpC := sC _ _ hpB
        have Dp : D ≠ p := (ne_of_none hpC nD).symm
        have pkC := pkB.same sC
        refine lc_range (n := 5) (fun i H' => ∃ (as : List (Addr × List Str)) (y' : List V), But p HC H' ∧ H' D = some (.lst (as.map fun a => V.ref a.1)) ∧ OrdsAt H' zs as ∧ as.length = i ∧ H' p = some (.lst y') ∧ WellL y' (418 + 6 * i)) ⟨[], y3, (But.refl p HC).mut nD, upd_same, fun _ h => (by cases h), rfl, by rw [upd_ne Dp.symm]; exact hpC, wA⟩ ?_ ?_
        · rintro i HD hiD ⟨as, y', bD, eD, oD, la, hpD, wD⟩
          have pkD := pkC.kp (.but bD) hpC
          refine ⟨rfl, .ref p, rfl, .ref t, rfl, p, t, zs, y', _, rfl, hpD, pkD.opts, z6, okz, wD, by omega, fun uu ws y4 HE pm bE nuE eE hpE wE => ?_⟩
          have eDE := bE _ _ Dp eD
          have keep : ∀ a xs, HD a = some (.tup xs) → (upd HE D (.lst ((as.map fun a => V.ref a.1) ++ [.ref uu]))) a = some (.tup xs) := fun a xs h => by
            rw [upd_ne (fun e => by rw [e, eD] at h; cases h)]
            exact bE _ _ (fun e => by rw [e, hpD] at h; cases h) h
          refine ⟨_, eDE, small1000 (by rw [List.length_map]; omega), as ++ [(uu, ws)], y4, (bD.trans bE).mut nD, by rw [upd_same, List.map_append]; rfl, fun a ha => ?_, by rw [List.length_append, la]; rfl, by rw [upd_ne Dp.symm]; exact hpE, wE.mono (by omega)⟩
          rcases List.mem_append.mp ha with ha | ha
          · exact oD.keep keep a ha
          · rw [List.mem_singleton.mp ha]
            exact ⟨by rw [upd_ne (show uu ≠ D from fun e => by rw [e, eDE] at eE; cases eE)]; exact eE, pm⟩
        rintro HD ⟨as, y4, bD, eD, oD, la, hpD, wD⟩
        dsimp only [gName]
        exact main _ _ ⟨D, as, y4, rfl, ((But.refl p HB).same sC).trans bD, eD, oD, by omega, hpD⟩
      clear eL oC lo sC nL L os HC
      rintro _ HC ⟨L, os, y4, rfl, bC, eL, oC, lo, hpC⟩
      have pkC := pkB.kp (.but bC) hpB
      have kaC := kaB.kp (.but bC) hpB
      have pktC := pktB.kp (.but bC) hpB
      have eMC := bC _ _ (fun e => by rw [e, hpB] at eMB; cases eMB) eMB
      have eNC := bC _ _ Np eN
      have tC := tabs_but bC hpB tB
      have k2C : Kp p H2 HC := k2B.trans (.but bC)
      have toldC := toldB.keep fun a xs h => bC a _ (fun e => by rw [e, hpB] at h; cases h) h
      clear bC hpB k2B toldB eN tB eMB pktB kaB pkB
      have datT : ∀ {Hc : Hp} {c : Addr} {ws : List Str}, Hc c = some (.tup (ws.map V.str)) → DAt Hc (.tuple (ws.map PyData.str)) (.ref c) := fun h => ⟨_, _, rfl, h, DAll.strs _⟩
      -- the told ones stand
      refine ⟨.ref N, rfl, N, rfl, ⟨_, .of eNC⟩, fun D nD => ?_⟩
      refine lc_list (K := K) (a := N) (xs := ts.map fun a => V.ref a.1) (fun i H' => Same HC H' ∧ H' D = some (.lst [])) ⟨same_upd nD, upd_same⟩ (fun _ _ _ h => .of (h.1 _ _ eNC)) ?_ ?_
      · rintro i v HD hv ⟨sD, eD⟩
        obtain ⟨c, hc, rfl⟩ := item_map hv
        obtain ⟨c1, c2, c3⟩ := toldC c (List.mem_of_getElem? hc)
        refine ⟨rfl, .ref pp, rfl, .ref c.1, rfl, pp, t, r, zs, rows, .ref c.1, .tuple (c.2.map PyData.str), rfl, pkC.same sD, .inl (datT (sD _ _ c1)), by show (List.map _ _).length ≤ 500; rw [List.length_map, c2.length_eq]; omega, fun b HE sE hb => ?_⟩
        have e : b = true := hb.mpr ⟨c.2, rfl, c2, c3⟩
        subst e
        refine ⟨_, rfl, iteF ?_⟩
        exact ⟨sD.trans sE, sE _ _ eD⟩
      rintro HD ⟨sD, eD⟩
      refine ⟨line_of (show 0 ≤ 1000 by decide), fun l2 nl2 => ?_⟩
      have sE := same_upd (o := HO.lst []) nl2
      have el2 : (upd HD l2 (.lst [])) l2 = some (.lst []) := upd_same
      have eDE := sE _ _ eD
      generalize upd HD l2 (.lst []) = HE at sE el2 eDE ⊢
      have sCE := sD.trans sE
      refine ⟨_, _, DAt.dp (.list []) ⟨D, [], rfl, eDE, rfl⟩, DAt.dp (.list []) ⟨l2, [], rfl, el2, rfl⟩, rfl, rfl, _, rfl, iteF ?_⟩
      -- the order of the poll with each row twice
      refine ⟨.ref pp2, rfl, rfl, rfl, pp2, t, rr, zs, rows ++ rows, .ref T.e_pairs_order, .tuple [], zs, rfl, pktC.same sCE, .inr (.inr ⟨_, rfl, T.es_pairs_order, T.et_pairs_order, rfl⟩), Nat.zero_le _, .inl ⟨rfl, rfl⟩, tabs_same sCE tC, fun R2 HF xF tF fR2 eR2 => ?_⟩
      rw [marg_twice, pairsO_two] at eR2
      have xCF : LamX.ExtN HC HF := (LamX.ExtN.of sCE).trans xF
      have eNF := xCF _ _ eNC (fun _ e => by cases e)
      have at0 : atI (ts.map fun a => V.ref a.1) 0 = some (.ref R) := atI_nat (j := 0) (by rw [List.getElem?_map, hd0] <;> rfl)
      have shO : ∀ {ws : List Str}, ws.Perm zs → SeqAt.shaped (.tuple (ws.map PyData.str)) = true := fun {ws} pm => ((OkA.of (l := ws.map PyData.str) fun d hd => by
        obtain ⟨z, hz, rfl⟩ := List.mem_map.mp hd
        exact ok_small (okz z (pm.mem_iff.mp hz))).tuple).shaped (by decide)
      have told0 := (toldC (R, pairsO (marg rows) zs) (List.mem_of_getElem? hd0)).1
      refine ⟨.ref N, rfl, N, _, 0, .ref R, rfl, rfl, .of eNF, at0, _, _, DAt.dp _ (datT eR2), DAt.dp _ (datT (xCF _ _ told0 (fun _ e => by cases e))), shO (pairsO_perm _ _), shO (pairsO_perm _ _), _, rfl, ?_⟩
      rw [eqv_same _ (shO (pairsO_perm _ _))]
      refine iteF ?_
      have kCF : ∀ {b : Addr} {o : HO}, HC b = some o → (∀ ps, o ≠ HO.tbl ps) → HF b = some o := fun {b o} e h => xCF _ _ e h
      have pkF := pkC.kp (.ext xCF) hpC
      have kaF := kaC.kp (.ext xCF) hpC
      have pktF := pktC.kp (.ext xCF) hpC
      have eMF := kCF eMC (fun _ e => by cases e)
      have eLF := kCF eL (fun _ e => by cases e)
      have hpF := kCF hpC (fun _ e => by cases e)
      have k2F : Kp p H2 HF := k2C.trans (.ext xCF)
      have toldF := toldC.keep fun a xs h => kCF h (fun _ e => by cases e)
      have oF := oC.keep fun a xs h => kCF h (fun _ e => by cases e)
      clear kCF told0
      -- what is known of the poll
      refine ⟨.ref pp, rfl, pp, t, r, zs, rows, rfl, pkF, fun TL HG sG nTL eTL => ?_⟩
      refine ⟨.ref pp, rfl, pp, t, r, zs, rows, rfl, pkF.same sG, fun HI sI => ?_⟩
      refine ⟨.ref pp, rfl, pp, t, r, zs, rows, rfl, pkF.same (sG.trans sI), fun HJ sJ => ?_⟩
      refine ⟨line_of (show 3 ≤ 1000 by decide), fun fa nfa => ?_⟩
      have sK := same_upd (o := HO.tup [V.ref TL, vO (lead (fun y z => decide (0 < marg rows y z)) zs), vO (lead (fun y z => decide (0 < marg rows z y)) zs)]) nfa
      have eFA : (upd HJ fa (.tup [V.ref TL, vO (lead (fun y z => decide (0 < marg rows y z)) zs), vO (lead (fun y z => decide (0 < marg rows z y)) zs)])) fa = some (.tup [V.ref TL, vO (lead (fun y z => decide (0 < marg rows y z)) zs), vO (lead (fun y z => decide (0 < marg rows z y)) zs)]) := upd_same
      have sFK := ((sG.trans sI).trans sJ).trans sK
      have eTLK := ((sI.trans sJ).trans sK) _ _ eTL
      generalize upd HJ fa (.tup [V.ref TL, vO (lead (fun y z => decide (0 < marg rows y z)) zs), vO (lead (fun y z => decide (0 < marg rows z y)) zs)]) = HK at eFA sFK eTLK sK ⊢
      refine ⟨.ref N, rfl, N, _, rfl, .inl (.of (sFK _ _ eNF)), fun S nS => ?_⟩
      have sM := same_upd (o := HO.lst (ts.map fun a => V.ref a.1)) nS
      have eS : (upd HK S (.lst (ts.map fun a => V.ref a.1))) S = some (.lst (ts.map fun a => V.ref a.1)) := upd_same
      generalize upd HK S (.lst (ts.map fun a => V.ref a.1)) = HM at sM eS ⊢
      have sFM := sFK.trans sM
      have eNM := sFM _ _ eNF
      have eFAM := sM _ _ eFA
      have eTLM := sM _ _ eTLK
      have pkM := pkF.same sFM
      have kaM := kaF.same sFM
      have pktM := pktF.same sFM
      have eMM := sFM _ _ eMF
      have eLM := sFM _ _ eLF
      have tM := tabs_same sFM tF
      have hpM := sFM _ _ hpF
      have k2M : Kp p H2 HM := k2F.trans (.same sFM)
      have toldM := toldF.keep fun a xs h => sFM _ _ h
      have oM := oF.same sFM
      refine ⟨.ref L, rfl, L, rfl, ⟨_, .of eLM⟩, for_list (K := K) (a := L) (xs := os.map fun a => V.ref a.1) (fun i σ H' => ∃ (S : Addr) (ss : List (Addr × List Str)) (z13 z14 : Option V), σ = [some (.ref a), some (.int (0 + (n0 : Nat))), some (.ref p), some (.ref t), some (.ref r), some (.ref pp), some (.ref M), some (.ref ab), some (.ref pp2), some (.ref N), some (.ref L), some (.ref fa), some (.ref S), z13, z14, y15, y16, y17, y18] ∧ Same HM H' ∧ H' S = some (.lst (ss.map fun a => V.ref a.1)) ∧ ToldAt H' zs (marg rows) ss ∧ ss.length ≤ 4 + i)
        ⟨S, ts, _, _, rfl, Same.refl _, eS, toldM, by omega⟩ (fun _ _ _ _ ⟨_, _, _, _, _, s, _⟩ => .of (s _ _ eLM)) ?_ ?_⟩
      · rintro i v σ H' hv ⟨S, ss, z13, z14, rfl, sH, eS, tS, lS⟩
        obtain ⟨b, hb, rfl⟩ := item_map hv
        have il := (List.getElem?_eq_some_iff.mp hb).1
        obtain ⟨eb, pmb⟩ := oM b (List.mem_of_getElem? hb)
        have few : (PyData.tuple (b.2.map PyData.str)) = .tuple (b.2.map PyData.str) := rfl
        refine ⟨.ref pp, rfl, .ref b.1, rfl, pp, t, r, zs, rows, .ref b.1, .tuple (b.2.map PyData.str), rfl, pkM.same sH, .inl (datT (sH _ _ eb)), by show (List.map _ _).length ≤ 500; rw [List.length_map, pmb.length_eq]; omega, fun b1 HE sE hb1 => ?_⟩
        have sHE := sH.trans sE
        refine ⟨.ref pp2, rfl, .ref b.1, rfl, pp2, t, rr, zs, rows ++ rows, .ref b.1, .tuple (b.2.map PyData.str), rfl, pktM.same sHE, .inl (datT (sHE _ _ eb)), by show (List.map _ _).length ≤ 500; rw [List.length_map, pmb.length_eq]; omega, fun b2 HF sF hb2 => ?_⟩
        have e : b2 = b1 := bool_ext hb2 ⟨fun h => by
          obtain ⟨ws, e1, e2, e3⟩ := hb1.mp h
          exact ⟨ws, e1, e2, by rw [marg_twice]; exact stands_two.mpr e3⟩, fun ⟨ws, e1, e2, e3⟩ => hb1.mpr ⟨ws, e1, e2, by rw [marg_twice] at e3; exact stands_two.mp e3⟩⟩
        subst e
        refine ⟨.bl b2, rfl, rfl, _, rfl, ?_⟩
        show if (!decide (V.bl b2 = V.bl b2)) = true then _ else _
        rw [decide_eq_true rfl]
        refine iteF ?_
        have sHF := sHE.trans sF
        refine ⟨.ref S, rfl, .ref b.1, rfl, line_of (show 1 ≤ 1000 by decide), fun l3 nl3 => ?_⟩
        have s3 := same_upd (o := HO.lst [V.ref b.1]) nl3
        have el3 : (upd HF l3 (.lst [V.ref b.1])) l3 = some (.lst [V.ref b.1]) := upd_same
        generalize upd HF l3 (.lst [V.ref b.1]) = HG at s3 el3 ⊢
        refine ⟨.bl b2, rfl, .inr ⟨b2, rfl, ?_⟩⟩
        refine ⟨l3, _, _, rfl, rfl, el3, by cases b2 <;> decide, by cases b2 <;> decide, by cases b2 <;> exact line_of (Nat.le_of_ble_eq_true rfl), fun l4 nl4 => ?_⟩
        have er : (List.replicate (if b2 = true then (1 : Int) else 0).toNat [V.ref b.1]).flatten = (if b2 = true then [b] else []).map fun a => V.ref a.1 := by cases b2 <;> rfl
        rw [er]
        have s4 := same_upd (o := HO.lst ((if b2 = true then [b] else []).map fun a => V.ref a.1)) nl4
        have el4 : (upd HG l4 (.lst ((if b2 = true then [b] else []).map fun a => V.ref a.1))) l4 = some (.lst ((if b2 = true then [b] else []).map fun a => V.ref a.1)) := upd_same
        generalize upd HG l4 (.lst ((if b2 = true then [b] else []).map fun a => V.ref a.1)) = HI at s4 el4 ⊢
        have sHI := s3.trans s4
        have sI := (sE.trans sF).trans sHI
        have ll : (if b2 = true then [b] else []).length ≤ 1 := by cases b2 <;> exact Nat.le_of_ble_eq_true rfl
        refine ⟨S, l4, _, _, rfl, rfl, sI _ _ eS, el4, Nat.le_trans (by rw [List.length_map, List.length_map]; omega) (show 300000 ≤ sizeLine by decide), fun S2 nS2 => ?_⟩
        have s5 := same_upd (o := HO.lst ((ss.map fun a => V.ref a.1) ++ (if b2 = true then [b] else []).map fun a => V.ref a.1)) nS2
        refine ⟨S2, ss ++ (if b2 = true then [b] else []), _, _, rfl, sH.trans (sI.trans s5), by rw [upd_same, List.map_append], fun c hc => ?_, by rw [List.length_append]; omega⟩
        rcases List.mem_append.mp hc with hc | hc
        · exact ⟨(sI.trans s5) _ _ (tS c hc).1, (tS c hc).2⟩
        · cases b2 with
          | false => cases hc
          | true =>
            rw [List.mem_singleton.mp hc]
            obtain ⟨ws, e1, e2, e3⟩ := hb1.mp rfl
            rw [← strs_inj (PyData.tuple.inj e1)] at e3
            exact ⟨(sHE.trans (sF.trans (sHI.trans s5))) _ _ eb, pmb, e3⟩
      rintro σ HN ⟨S, ss, z13, z14, rfl, sN, eSN, toldN, lS⟩
      rw [List.length_map] at lS
      have pkN := pkM.same sN
      have kaN := kaM.same sN
      have eMN := sN _ _ eMM
      have eFAN := sN _ _ eFAM
      have eTLN := sN _ _ eTLM
      -- each that stands looks right
      refine ⟨.ref S, rfl, S, rfl, ⟨_, .of eSN⟩, fun D nD => ?_⟩
      refine lc_list (K := K) (a := S) (xs := ss.map fun a => V.ref a.1) (fun i H' => Same HN H' ∧ H' D = some (.lst [])) ⟨same_upd nD, upd_same⟩ (fun _ _ _ h => .of (h.1 _ _ eSN)) ?_ ?_
      · rintro i v HD hv ⟨sD, eD⟩
        obtain ⟨c, hc, rfl⟩ := item_map hv
        obtain ⟨c1, c2, c3⟩ := toldN c (List.mem_of_getElem? hc)
        refine ⟨rfl, .ref M, rfl, .ref ab, rfl, .ref fa, rfl, .ref c.1, rfl, M, ab, t, u', fa, TL, c.1, zs, c.2, rows, rows', rfl, sD _ _ eMN, kaN.same sD, tm, sD _ _ eFAN, sD _ _ eTLN, sD _ _ c1, c2, c3, fun HE sE => ?_⟩
        refine ⟨_, rfl, iteF ?_⟩
        exact ⟨sD.trans sE, sE _ _ eD⟩
      rintro HD ⟨sD, eD⟩
      refine ⟨line_of (show 0 ≤ 1000 by decide), fun l2 nl2 => ?_⟩
      have sE := same_upd (o := HO.lst []) nl2
      have el2 : (upd HD l2 (.lst [])) l2 = some (.lst []) := upd_same
      have eDE := sE _ _ eD
      generalize upd HD l2 (.lst []) = HE at sE el2 eDE ⊢
      have sNE := sD.trans sE
      refine ⟨_, _, DAt.dp (.list []) ⟨D, [], rfl, eDE, rfl⟩, DAt.dp (.list []) ⟨l2, [], rfl, el2, rfl⟩, rfl, rfl, _, rfl, iteF ?_⟩
      have eME := sNE _ _ eMN
      -- the margins above nothing
      refine ⟨M, _, eME, trivial, fun od => ?_⟩
      refine ⟨.ref M, rfl, M, od, tab2 zs (marg rows) zs, rfl, upd_same, fun D2 nD2 => ?_⟩
      have DM : D2 ≠ M := fun e => by rw [e, upd_same] at nD2; cases nD2
      have lenP : (tab2 zs (marg rows) zs).length = (pairsOf zs zs).length := by rw [tab2_pairs, List.length_map]
      have p36 : (pairsOf zs zs).length ≤ 36 := Nat.le_trans (pairsOf_len zs zs) (Nat.mul_le_mul z6 z6)
      refine lc_it walk_itemsT (fun i H' => Same (upd HE M (.frz od (.dT (tab2 zs (marg rows) zs)))) H' ∧ H' D2 = some (.lst ((posI (marg rows) ((pairsOf zs zs).take i)).map V.int))) ⟨same_upd nD2, upd_same⟩ (fun _ _ _ h => h.1 _ _ upd_same) ?_ ?_
      · rintro i x HF HG hi ⟨sF, eF⟩ ⟨Tt, kq, kk, kv, hk, rfl, nT, hkq, rfl⟩
        rw [tab2_pairs, List.getElem?_map] at hk
        obtain ⟨q2, hq2⟩ : ∃ q2, (pairsOf zs zs)[i]? = some q2 := ⟨_, List.getElem?_eq_getElem (by rw [← lenP]; exact hi)⟩
        rw [hq2] at hk
        cases hk
        have sT := same_upd (o := HO.tup [V.ref kq, V.int (marg rows q2.1 q2.2)]) nT
        have eF2 := sT _ _ eF
        refine ⟨Tt, _, rfl, .of upd_same, rfl, _, _, rfl, _, _, rfl, rfl, rfl, ?_⟩
        refine ⟨.int (marg rows q2.1 q2.2), rfl, _, _, rfl, rfl, _, rfl, ?_⟩
        have pm := posI_more (g := marg rows) hq2
        have pl := posI_len (marg rows) ((pairsOf zs zs).take i)
        rw [List.length_take] at pl
        by_cases c : 0 < marg rows q2.1 q2.2
        · rw [if_pos c] at pm
          rw [decide_eq_true (show marg rows q2.1 q2.2 > 0 from c)]
          refine iteT ⟨.int (marg rows q2.1 q2.2), rfl, _, eF2, small1000 (by rw [List.length_map]; omega), same_mut (sF.trans sT) nD2, ?_⟩
          rw [upd_same, pm, List.map_append]
          rfl
        · rw [if_neg c, List.append_nil] at pm
          rw [decide_eq_false (show ¬ marg rows q2.1 q2.2 > 0 from c)]
          refine iteF ⟨sF.trans sT, ?_⟩
          rw [pm]
          exact eF2
      rintro HF ⟨sF, eF⟩
      rw [lenP, List.take_length] at eF
      refine ⟨sF _ _ upd_same, ?_⟩
      have sG := lock_same od eME sF
      have eG : (upd HF M (.dT (tab2 zs (marg rows) zs))) D2 = some (.lst ((posI (marg rows) (pairsOf zs zs)).map V.int)) := by rw [upd_ne DM]; exact eF
      generalize upd HF M (.dT (tab2 zs (marg rows) zs)) = HG at sG eG ⊢
      have pl := posI_len (marg rows) (pairsOf zs zs)
      refine ⟨D2, _, rfl, .of eG, by omega, fun nums An pn srt nAn => ?_⟩
      have sI := same_upd (o := HO.lst (nums.map V.int)) nAn
      have eI : (upd HG An (.lst (nums.map V.int))) An = some (.lst (nums.map V.int)) := upd_same
      generalize upd HG An (.lst (nums.map V.int)) = HI at sI eI ⊢
      have sEI := sG.trans sI
      have sNI := sNE.trans sEI
      have sMI := sN.trans sNI
      have fin : ∀ (H' : Hp) (σ : L2.St), Same HI H' → FrW a σ → FrW a σ ∧ LamX.ExtN H H' ∧ LamX.Tabs [(T.tp_kept_pairs, lamK)] H' := fun H' σ s f => ⟨f, x1.trans (ext_kp np s2 (k2M.trans (.same (sMI.trans s)))), tabs_same (sMI.trans s) tM⟩
      have ln := pn.length_eq
      -- where no two margins are alike, one order stands
      refine ⟨.ref An, rfl, An, _, rfl, .inl (.of eI), _, _, rfl, rfl, .inl ⟨by decide, by decide⟩, ?_⟩
      refine ⟨.ref M, rfl, M, _, rfl, sEI _ _ eME, rfl, _, rfl, ?_⟩
      by_cases c1 : 2 * (posI (marg rows) (pairsOf zs zs)).length = (pairsOf zs zs).length
      rotate_left
      · rw [decide_eq_false (fun e => c1 (by
          have e := V.int.inj e
          rw [List.length_map, ln, lenP] at e
          omega))]
        exact iteF (iteF (fin _ _ (Same.refl _) ⟨_, _, _, _, _, _, _, _, _, _, _, _, _, _, _, _, _, _, rfl⟩))
      rw [decide_eq_true (congrArg V.int (by rw [List.length_map, ln, lenP]; omega))]
      refine iteT ⟨.ref An, rfl, An, nums, rfl, .of eI, by omega, fun m hm => ?_⟩
      refine ⟨.ref An, rfl, An, _, rfl, .inl (.of eI), rfl, _, rfl, ?_⟩
      by_cases c2 : nums.Nodup
      rotate_left
      · rw [decide_eq_false (fun e => c2 (hm.mp (by
          have e := V.int.inj e
          rw [List.length_map] at e
          omega)))]
        exact iteF (fin _ _ (Same.refl _) ⟨_, _, _, _, _, _, _, _, _, _, _, _, _, _, _, _, _, _, rfl⟩)
      rw [decide_eq_true (congrArg V.int (by rw [List.length_map, hm.mpr c2]))]
      refine iteT ?_
      have all := all_strict anti nd c1
      have diff := all_unlike (pn.nodup_iff.mp c2)
      have eSI := sNI _ _ eSN
      refine ⟨.ref S, rfl, S, rfl, ⟨_, .of eSI⟩, fun D3 nD3 => ?_⟩
      refine lc_list (K := K) (a := S) (xs := ss.map fun a => V.ref a.1) (fun i H' => Same HI H' ∧ H' D3 = some (.lst [])) ⟨same_upd nD3, upd_same⟩ (fun _ _ _ h => .of (h.1 _ _ eSI)) ?_ ?_
      · rintro i v HJ hv ⟨sJ, eJ⟩
        obtain ⟨c, hc, rfl⟩ := item_map hv
        obtain ⟨c1, c2, c3⟩ := toldN c (List.mem_of_getElem? hc)
        have ec : c.2 = pairsO (marg rows) zs := stands_only nd all diff c2 c3
        have e0 := (sMI.trans sJ) _ _ (toldM (R, pairsO (marg rows) zs) (List.mem_of_getElem? hd0)).1
        rw [ec] at c1
        refine ⟨rfl, .ref c.1, rfl, .ref N, rfl, N, _, 0, .ref R, rfl, rfl, .of ((sMI.trans sJ) _ _ eNM), at0, _, _, DAt.dp _ (datT ((sNI.trans sJ) _ _ c1)), DAt.dp _ (datT e0), shO (pairsO_perm _ _), shO (pairsO_perm _ _), _, rfl, ?_⟩
        rw [eqv_same _ (shO (pairsO_perm _ _))]
        exact iteF ⟨sJ, eJ⟩
      rintro HJ ⟨sJ, eJ⟩
      refine ⟨line_of (show 0 ≤ 1000 by decide), fun l4 nl4 => ?_⟩
      have sK := same_upd (o := HO.lst []) nl4
      have el4 : (upd HJ l4 (.lst [])) l4 = some (.lst []) := upd_same
      have eJK := sK _ _ eJ
      generalize upd HJ l4 (.lst []) = HK2 at sK el4 eJK ⊢
      refine ⟨_, _, DAt.dp (.list []) ⟨D3, [], rfl, eJK, rfl⟩, DAt.dp (.list []) ⟨l4, [], rfl, el4, rfl⟩, rfl, rfl, _, rfl, iteF ?_⟩
      exact fin _ _ (sJ.trans sK) ⟨_, _, _, _, _, _, _, _, _, _, _, _, _, _, _, _, _, _, rfl⟩
    · rintro σ H1 ⟨_, _⟩
      exact q _
end
theorem len1 {us : List Value} (h : us.length = 1) : ∃ a0, us = [a0] := match us, h with | [a0], _ => ⟨a0, rfl⟩
theorem len2 {us : List Value} (h : us.length = 2) : ∃ a0 a1, us = [a0, a1] := match us, h with | [a0, a1], _ => ⟨a0, a1, rfl⟩
theorem len3 {us : List Value} (h : us.length = 3) : ∃ a0 a1 a2, us = [a0, a1, a2] := match us, h with | [a0, a1, a2], _ => ⟨a0, a1, a2, rfl⟩
theorem len4 {us : List Value} (h : us.length = 4) : ∃ a0 a1 a2 a3, us = [a0, a1, a2, a3] := match us, h with | [a0, a1, a2, a3], _ => ⟨a0, a1, a2, a3, rfl⟩
theorem all_mk {prg : Program} {l : PySem.W.OpenLaw} {w : World} {K : PySem.W.Frag} {h : Heap} {mg : Str → Option Value} {fa : Addr} (X : K.In h) (G : h.Ns mainGlobals mg) (hfa : mg "law" = some (.ref fa))
    {f_PollError_init : Addr} {od_PollError_init an_PollError_init : Option Addr} {sl_PollError_init : Array (Option Value)} {oc_PollError_init kV_PollError_init dc_PollError_init pm_PollError_init cd_PollError_init ct_PollError_init : Value}
    {T_PollError_init : Addr} {to_PollError_init : Value} {td_PollError_init : Option Addr} {tn_PollError_init : Nat} {tsl_PollError_init : Array (Option Value)} {tk0_PollError_init : Tok}
    (lt_PollError_init : K.lookup T_PollError_init = some ⟨to_PollError_init, td_PollError_init, .seq #[.str "" tk0_PollError_init] tn_PollError_init, tsl_PollError_init⟩)
    (l_PollError_init : K.lookup f_PollError_init = some ⟨oc_PollError_init, od_PollError_init, .func (PySem.W.fnOf "__init__" "PollError.__init__" (defArgs s_PollError_init) (defBody s_PollError_init) (defScope s_PollError_init) (.ref T_PollError_init) kV_PollError_init dc_PollError_init pm_PollError_init an_PollError_init cd_PollError_init ct_PollError_init), sl_PollError_init⟩)
    (c_PollError_init : PySem.W.codeIn K cd_PollError_init "PollError.__init__" = true) (k_PollError_init : PySem.W.keepIn K (.ref f_PollError_init) = true)
    {f_is_whole : Addr} {od_is_whole an_is_whole : Option Addr} {sl_is_whole : Array (Option Value)} {oc_is_whole kV_is_whole dc_is_whole pm_is_whole cd_is_whole ct_is_whole : Value}
    (a_is_whole : PySem.W.nsIn K mainGlobals "is_whole" = some (some (.ref f_is_whole)))
    (l_is_whole : K.lookup f_is_whole = some ⟨oc_is_whole, od_is_whole, .func (PySem.W.fnOf "is_whole" "is_whole" (defArgs s_is_whole) (defBody s_is_whole) (defScope s_is_whole) .none kV_is_whole dc_is_whole pm_is_whole an_is_whole cd_is_whole ct_is_whole), sl_is_whole⟩)
    (c_is_whole : PySem.W.codeIn K cd_is_whole "is_whole" = true) (k_is_whole : PySem.W.keepIn K (.ref f_is_whole) = true)
    {f_is_name : Addr} {od_is_name an_is_name : Option Addr} {sl_is_name : Array (Option Value)} {oc_is_name kV_is_name dc_is_name pm_is_name cd_is_name ct_is_name : Value}
    (a_is_name : PySem.W.nsIn K mainGlobals "is_name" = some (some (.ref f_is_name)))
    (l_is_name : K.lookup f_is_name = some ⟨oc_is_name, od_is_name, .func (PySem.W.fnOf "is_name" "is_name" (defArgs s_is_name) (defBody s_is_name) (defScope s_is_name) .none kV_is_name dc_is_name pm_is_name an_is_name cd_is_name ct_is_name), sl_is_name⟩)
    (c_is_name : PySem.W.codeIn K cd_is_name "is_name" = true) (k_is_name : PySem.W.keepIn K (.ref f_is_name) = true)
    {f_is_tuple_of : Addr} {od_is_tuple_of an_is_tuple_of : Option Addr} {sl_is_tuple_of : Array (Option Value)} {oc_is_tuple_of kV_is_tuple_of dc_is_tuple_of pm_is_tuple_of cd_is_tuple_of ct_is_tuple_of : Value}
    (a_is_tuple_of : PySem.W.nsIn K mainGlobals "is_tuple_of" = some (some (.ref f_is_tuple_of)))
    (l_is_tuple_of : K.lookup f_is_tuple_of = some ⟨oc_is_tuple_of, od_is_tuple_of, .func (PySem.W.fnOf "is_tuple_of" "is_tuple_of" (defArgs s_is_tuple_of) (defBody s_is_tuple_of) (defScope s_is_tuple_of) .none kV_is_tuple_of dc_is_tuple_of pm_is_tuple_of an_is_tuple_of cd_is_tuple_of ct_is_tuple_of), sl_is_tuple_of⟩)
    (c_is_tuple_of : PySem.W.codeIn K cd_is_tuple_of "is_tuple_of" = true) (k_is_tuple_of : PySem.W.keepIn K (.ref f_is_tuple_of) = true)
    {f_are_names : Addr} {od_are_names an_are_names : Option Addr} {sl_are_names : Array (Option Value)} {oc_are_names kV_are_names dc_are_names pm_are_names cd_are_names ct_are_names : Value}
    (a_are_names : PySem.W.nsIn K mainGlobals "are_names" = some (some (.ref f_are_names)))
    (l_are_names : K.lookup f_are_names = some ⟨oc_are_names, od_are_names, .func (PySem.W.fnOf "are_names" "are_names" (defArgs s_are_names) (defBody s_are_names) (defScope s_are_names) .none kV_are_names dc_are_names pm_are_names an_are_names cd_are_names ct_are_names), sl_are_names⟩)
    (c_are_names : PySem.W.codeIn K cd_are_names "are_names" = true) (k_are_names : PySem.W.keepIn K (.ref f_are_names) = true)
    {f_are_options : Addr} {od_are_options an_are_options : Option Addr} {sl_are_options : Array (Option Value)} {oc_are_options kV_are_options dc_are_options pm_are_options cd_are_options ct_are_options : Value}
    (a_are_options : PySem.W.nsIn K mainGlobals "are_options" = some (some (.ref f_are_options)))
    (l_are_options : K.lookup f_are_options = some ⟨oc_are_options, od_are_options, .func (PySem.W.fnOf "are_options" "are_options" (defArgs s_are_options) (defBody s_are_options) (defScope s_are_options) .none kV_are_options dc_are_options pm_are_options an_are_options cd_are_options ct_are_options), sl_are_options⟩)
    (c_are_options : PySem.W.codeIn K cd_are_options "are_options" = true) (k_are_options : PySem.W.keepIn K (.ref f_are_options) = true)
    {f_is_option : Addr} {od_is_option an_is_option : Option Addr} {sl_is_option : Array (Option Value)} {oc_is_option kV_is_option dc_is_option pm_is_option cd_is_option ct_is_option : Value}
    (a_is_option : PySem.W.nsIn K mainGlobals "is_option" = some (some (.ref f_is_option)))
    (l_is_option : K.lookup f_is_option = some ⟨oc_is_option, od_is_option, .func (PySem.W.fnOf "is_option" "is_option" (defArgs s_is_option) (defBody s_is_option) (defScope s_is_option) .none kV_is_option dc_is_option pm_is_option an_is_option cd_is_option ct_is_option), sl_is_option⟩)
    (c_is_option : PySem.W.codeIn K cd_is_option "is_option" = true) (k_is_option : PySem.W.keepIn K (.ref f_is_option) = true)
    {f_are_unlike_options : Addr} {od_are_unlike_options an_are_unlike_options : Option Addr} {sl_are_unlike_options : Array (Option Value)} {oc_are_unlike_options kV_are_unlike_options dc_are_unlike_options pm_are_unlike_options cd_are_unlike_options ct_are_unlike_options : Value}
    (a_are_unlike_options : PySem.W.nsIn K mainGlobals "are_unlike_options" = some (some (.ref f_are_unlike_options)))
    (l_are_unlike_options : K.lookup f_are_unlike_options = some ⟨oc_are_unlike_options, od_are_unlike_options, .func (PySem.W.fnOf "are_unlike_options" "are_unlike_options" (defArgs s_are_unlike_options) (defBody s_are_unlike_options) (defScope s_are_unlike_options) .none kV_are_unlike_options dc_are_unlike_options pm_are_unlike_options an_are_unlike_options cd_are_unlike_options ct_are_unlike_options), sl_are_unlike_options⟩)
    (c_are_unlike_options : PySem.W.codeIn K cd_are_unlike_options "are_unlike_options" = true) (k_are_unlike_options : PySem.W.keepIn K (.ref f_are_unlike_options) = true)
    {f_is_mark : Addr} {od_is_mark an_is_mark : Option Addr} {sl_is_mark : Array (Option Value)} {oc_is_mark kV_is_mark dc_is_mark pm_is_mark cd_is_mark ct_is_mark : Value}
    (a_is_mark : PySem.W.nsIn K mainGlobals "is_mark" = some (some (.ref f_is_mark)))
    (l_is_mark : K.lookup f_is_mark = some ⟨oc_is_mark, od_is_mark, .func (PySem.W.fnOf "is_mark" "is_mark" (defArgs s_is_mark) (defBody s_is_mark) (defScope s_is_mark) .none kV_is_mark dc_is_mark pm_is_mark an_is_mark cd_is_mark ct_is_mark), sl_is_mark⟩)
    (c_is_mark : PySem.W.codeIn K cd_is_mark "is_mark" = true) (k_is_mark : PySem.W.keepIn K (.ref f_is_mark) = true)
    {f_are_tiers : Addr} {od_are_tiers an_are_tiers : Option Addr} {sl_are_tiers : Array (Option Value)} {oc_are_tiers kV_are_tiers dc_are_tiers pm_are_tiers cd_are_tiers ct_are_tiers : Value}
    (a_are_tiers : PySem.W.nsIn K mainGlobals "are_tiers" = some (some (.ref f_are_tiers)))
    (l_are_tiers : K.lookup f_are_tiers = some ⟨oc_are_tiers, od_are_tiers, .func (PySem.W.fnOf "are_tiers" "are_tiers" (defArgs s_are_tiers) (defBody s_are_tiers) (defScope s_are_tiers) .none kV_are_tiers dc_are_tiers pm_are_tiers an_are_tiers cd_are_tiers ct_are_tiers), sl_are_tiers⟩)
    (c_are_tiers : PySem.W.codeIn K cd_are_tiers "are_tiers" = true) (k_are_tiers : PySem.W.keepIn K (.ref f_are_tiers) = true)
    {f_are_marks : Addr} {od_are_marks an_are_marks : Option Addr} {sl_are_marks : Array (Option Value)} {oc_are_marks kV_are_marks dc_are_marks pm_are_marks cd_are_marks ct_are_marks : Value}
    (a_are_marks : PySem.W.nsIn K mainGlobals "are_marks" = some (some (.ref f_are_marks)))
    (l_are_marks : K.lookup f_are_marks = some ⟨oc_are_marks, od_are_marks, .func (PySem.W.fnOf "are_marks" "are_marks" (defArgs s_are_marks) (defBody s_are_marks) (defScope s_are_marks) .none kV_are_marks dc_are_marks pm_are_marks an_are_marks cd_are_marks ct_are_marks), sl_are_marks⟩)
    (c_are_marks : PySem.W.codeIn K cd_are_marks "are_marks" = true) (k_are_marks : PySem.W.keepIn K (.ref f_are_marks) = true)
    {f_is_ballot : Addr} {od_is_ballot an_is_ballot : Option Addr} {sl_is_ballot : Array (Option Value)} {oc_is_ballot kV_is_ballot dc_is_ballot pm_is_ballot cd_is_ballot ct_is_ballot : Value}
    (a_is_ballot : PySem.W.nsIn K mainGlobals "is_ballot" = some (some (.ref f_is_ballot)))
    (l_is_ballot : K.lookup f_is_ballot = some ⟨oc_is_ballot, od_is_ballot, .func (PySem.W.fnOf "is_ballot" "is_ballot" (defArgs s_is_ballot) (defBody s_is_ballot) (defScope s_is_ballot) .none kV_is_ballot dc_is_ballot pm_is_ballot an_is_ballot cd_is_ballot ct_is_ballot), sl_is_ballot⟩)
    (c_is_ballot : PySem.W.codeIn K cd_is_ballot "is_ballot" = true) (k_is_ballot : PySem.W.keepIn K (.ref f_is_ballot) = true)
    {f_is_row : Addr} {od_is_row an_is_row : Option Addr} {sl_is_row : Array (Option Value)} {oc_is_row kV_is_row dc_is_row pm_is_row cd_is_row ct_is_row : Value}
    (a_is_row : PySem.W.nsIn K mainGlobals "is_row" = some (some (.ref f_is_row)))
    (l_is_row : K.lookup f_is_row = some ⟨oc_is_row, od_is_row, .func (PySem.W.fnOf "is_row" "is_row" (defArgs s_is_row) (defBody s_is_row) (defScope s_is_row) .none kV_is_row dc_is_row pm_is_row an_is_row cd_is_row ct_is_row), sl_is_row⟩)
    (c_is_row : PySem.W.codeIn K cd_is_row "is_row" = true) (k_is_row : PySem.W.keepIn K (.ref f_is_row) = true)
    {f_check_poll : Addr} {od_check_poll an_check_poll : Option Addr} {sl_check_poll : Array (Option Value)} {oc_check_poll kV_check_poll dc_check_poll pm_check_poll cd_check_poll ct_check_poll : Value}
    (a_check_poll : PySem.W.nsIn K mainGlobals "check_poll" = some (some (.ref f_check_poll)))
    (l_check_poll : K.lookup f_check_poll = some ⟨oc_check_poll, od_check_poll, .func (PySem.W.fnOf "check_poll" "check_poll" (defArgs s_check_poll) (defBody s_check_poll) (defScope s_check_poll) .none kV_check_poll dc_check_poll pm_check_poll an_check_poll cd_check_poll ct_check_poll), sl_check_poll⟩)
    (c_check_poll : PySem.W.codeIn K cd_check_poll "check_poll" = true) (k_check_poll : PySem.W.keepIn K (.ref f_check_poll) = true)
    {f_Poll_init : Addr} {od_Poll_init an_Poll_init : Option Addr} {sl_Poll_init : Array (Option Value)} {oc_Poll_init kV_Poll_init dc_Poll_init pm_Poll_init cd_Poll_init ct_Poll_init : Value}
    {e_Poll_init : Addr}
    {T_Poll_init : Addr} {to_Poll_init : Value} {td_Poll_init : Option Addr} {tn_Poll_init : Nat} {tsl_Poll_init : Array (Option Value)} 
    (lt_Poll_init : K.lookup T_Poll_init = some ⟨to_Poll_init, td_Poll_init, .seq #[.ref e_Poll_init] tn_Poll_init, tsl_Poll_init⟩)
    (l_Poll_init : K.lookup f_Poll_init = some ⟨oc_Poll_init, od_Poll_init, .func (PySem.W.fnOf "__init__" "Poll.__init__" (defArgs s_Poll_init) (defBody s_Poll_init) (defScope s_Poll_init) (.ref T_Poll_init) kV_Poll_init dc_Poll_init pm_Poll_init an_Poll_init cd_Poll_init ct_Poll_init), sl_Poll_init⟩)
    (c_Poll_init : PySem.W.codeIn K cd_Poll_init "Poll.__init__" = true) (k_Poll_init : PySem.W.keepIn K (.ref f_Poll_init) = true)
    {f_order_ranks : Addr} {od_order_ranks an_order_ranks : Option Addr} {sl_order_ranks : Array (Option Value)} {oc_order_ranks kV_order_ranks dc_order_ranks pm_order_ranks cd_order_ranks ct_order_ranks : Value}
    (a_order_ranks : PySem.W.nsIn K mainGlobals "order_ranks" = some (some (.ref f_order_ranks)))
    (l_order_ranks : K.lookup f_order_ranks = some ⟨oc_order_ranks, od_order_ranks, .func (PySem.W.fnOf "order_ranks" "order_ranks" (defArgs s_order_ranks) (defBody s_order_ranks) (defScope s_order_ranks) .none kV_order_ranks dc_order_ranks pm_order_ranks an_order_ranks cd_order_ranks ct_order_ranks), sl_order_ranks⟩)
    (c_order_ranks : PySem.W.codeIn K cd_order_ranks "order_ranks" = true) (k_order_ranks : PySem.W.keepIn K (.ref f_order_ranks) = true)
    {f_ranks : Addr} {od_ranks an_ranks : Option Addr} {sl_ranks : Array (Option Value)} {oc_ranks kV_ranks dc_ranks pm_ranks cd_ranks ct_ranks : Value}
    (a_ranks : PySem.W.nsIn K mainGlobals "ranks" = some (some (.ref f_ranks)))
    (l_ranks : K.lookup f_ranks = some ⟨oc_ranks, od_ranks, .func (PySem.W.fnOf "ranks" "ranks" (defArgs s_ranks) (defBody s_ranks) (defScope s_ranks) .none kV_ranks dc_ranks pm_ranks an_ranks cd_ranks ct_ranks), sl_ranks⟩)
    (c_ranks : PySem.W.codeIn K cd_ranks "ranks" = true) (k_ranks : PySem.W.keepIn K (.ref f_ranks) = true)
    {f_tiers : Addr} {od_tiers an_tiers : Option Addr} {sl_tiers : Array (Option Value)} {oc_tiers kV_tiers dc_tiers pm_tiers cd_tiers ct_tiers : Value}
    (a_tiers : PySem.W.nsIn K mainGlobals "tiers" = some (some (.ref f_tiers)))
    (l_tiers : K.lookup f_tiers = some ⟨oc_tiers, od_tiers, .func (PySem.W.fnOf "tiers" "tiers" (defArgs s_tiers) (defBody s_tiers) (defScope s_tiers) .none kV_tiers dc_tiers pm_tiers an_tiers cd_tiers ct_tiers), sl_tiers⟩)
    (c_tiers : PySem.W.codeIn K cd_tiers "tiers" = true) (k_tiers : PySem.W.keepIn K (.ref f_tiers) = true)
    {f_ranked : Addr} {od_ranked an_ranked : Option Addr} {sl_ranked : Array (Option Value)} {oc_ranked kV_ranked dc_ranked pm_ranked cd_ranked ct_ranked : Value}
    (a_ranked : PySem.W.nsIn K mainGlobals "ranked" = some (some (.ref f_ranked)))
    (l_ranked : K.lookup f_ranked = some ⟨oc_ranked, od_ranked, .func (PySem.W.fnOf "ranked" "ranked" (defArgs s_ranked) (defBody s_ranked) (defScope s_ranked) .none kV_ranked dc_ranked pm_ranked an_ranked cd_ranked ct_ranked), sl_ranked⟩)
    (c_ranked : PySem.W.codeIn K cd_ranked "ranked" = true) (k_ranked : PySem.W.keepIn K (.ref f_ranked) = true)
    {f_margin_by : Addr} {od_margin_by an_margin_by : Option Addr} {sl_margin_by : Array (Option Value)} {oc_margin_by kV_margin_by dc_margin_by pm_margin_by cd_margin_by ct_margin_by : Value}
    (a_margin_by : PySem.W.nsIn K mainGlobals "margin_by" = some (some (.ref f_margin_by)))
    (l_margin_by : K.lookup f_margin_by = some ⟨oc_margin_by, od_margin_by, .func (PySem.W.fnOf "margin_by" "margin_by" (defArgs s_margin_by) (defBody s_margin_by) (defScope s_margin_by) .none kV_margin_by dc_margin_by pm_margin_by an_margin_by cd_margin_by ct_margin_by), sl_margin_by⟩)
    (c_margin_by : PySem.W.codeIn K cd_margin_by "margin_by" = true) (k_margin_by : PySem.W.keepIn K (.ref f_margin_by) = true)
    {f_margins : Addr} {od_margins an_margins : Option Addr} {sl_margins : Array (Option Value)} {oc_margins kV_margins dc_margins pm_margins cd_margins ct_margins : Value}
    (a_margins : PySem.W.nsIn K mainGlobals "margins" = some (some (.ref f_margins)))
    (l_margins : K.lookup f_margins = some ⟨oc_margins, od_margins, .func (PySem.W.fnOf "margins" "margins" (defArgs s_margins) (defBody s_margins) (defScope s_margins) .none kV_margins dc_margins pm_margins an_margins cd_margins ct_margins), sl_margins⟩)
    (c_margins : PySem.W.codeIn K cd_margins "margins" = true) (k_margins : PySem.W.keepIn K (.ref f_margins) = true)
    {f_others_than : Addr} {od_others_than an_others_than : Option Addr} {sl_others_than : Array (Option Value)} {oc_others_than kV_others_than dc_others_than pm_others_than cd_others_than ct_others_than : Value}
    (a_others_than : PySem.W.nsIn K mainGlobals "others_than" = some (some (.ref f_others_than)))
    (l_others_than : K.lookup f_others_than = some ⟨oc_others_than, od_others_than, .func (PySem.W.fnOf "others_than" "others_than" (defArgs s_others_than) (defBody s_others_than) (defScope s_others_than) .none kV_others_than dc_others_than pm_others_than an_others_than cd_others_than ct_others_than), sl_others_than⟩)
    (c_others_than : PySem.W.codeIn K cd_others_than "others_than" = true) (k_others_than : PySem.W.keepIn K (.ref f_others_than) = true)
    {f_leader : Addr} {od_leader an_leader : Option Addr} {sl_leader : Array (Option Value)} {oc_leader kV_leader dc_leader pm_leader cd_leader ct_leader : Value}
    (a_leader : PySem.W.nsIn K mainGlobals "leader" = some (some (.ref f_leader)))
    (l_leader : K.lookup f_leader = some ⟨oc_leader, od_leader, .func (PySem.W.fnOf "leader" "leader" (defArgs s_leader) (defBody s_leader) (defScope s_leader) .none kV_leader dc_leader pm_leader an_leader cd_leader ct_leader), sl_leader⟩)
    (c_leader : PySem.W.codeIn K cd_leader "leader" = true) (k_leader : PySem.W.keepIn K (.ref f_leader) = true)
    {f_trailer : Addr} {od_trailer an_trailer : Option Addr} {sl_trailer : Array (Option Value)} {oc_trailer kV_trailer dc_trailer pm_trailer cd_trailer ct_trailer : Value}
    (a_trailer : PySem.W.nsIn K mainGlobals "trailer" = some (some (.ref f_trailer)))
    (l_trailer : K.lookup f_trailer = some ⟨oc_trailer, od_trailer, .func (PySem.W.fnOf "trailer" "trailer" (defArgs s_trailer) (defBody s_trailer) (defScope s_trailer) .none kV_trailer dc_trailer pm_trailer an_trailer cd_trailer ct_trailer), sl_trailer⟩)
    (c_trailer : PySem.W.codeIn K cd_trailer "trailer" = true) (k_trailer : PySem.W.keepIn K (.ref f_trailer) = true)
    {f_unlost_ways : Addr} {od_unlost_ways an_unlost_ways : Option Addr} {sl_unlost_ways : Array (Option Value)} {oc_unlost_ways kV_unlost_ways dc_unlost_ways pm_unlost_ways cd_unlost_ways ct_unlost_ways : Value}
    (a_unlost_ways : PySem.W.nsIn K mainGlobals "unlost_ways" = some (some (.ref f_unlost_ways)))
    (l_unlost_ways : K.lookup f_unlost_ways = some ⟨oc_unlost_ways, od_unlost_ways, .func (PySem.W.fnOf "unlost_ways" "unlost_ways" (defArgs s_unlost_ways) (defBody s_unlost_ways) (defScope s_unlost_ways) .none kV_unlost_ways dc_unlost_ways pm_unlost_ways an_unlost_ways cd_unlost_ways ct_unlost_ways), sl_unlost_ways⟩)
    (c_unlost_ways : PySem.W.codeIn K cd_unlost_ways "unlost_ways" = true) (k_unlost_ways : PySem.W.keepIn K (.ref f_unlost_ways) = true)
    {f_top_lot : Addr} {od_top_lot an_top_lot : Option Addr} {sl_top_lot : Array (Option Value)} {oc_top_lot kV_top_lot dc_top_lot pm_top_lot cd_top_lot ct_top_lot : Value}
    (a_top_lot : PySem.W.nsIn K mainGlobals "top_lot" = some (some (.ref f_top_lot)))
    (l_top_lot : K.lookup f_top_lot = some ⟨oc_top_lot, od_top_lot, .func (PySem.W.fnOf "top_lot" "top_lot" (defArgs s_top_lot) (defBody s_top_lot) (defScope s_top_lot) .none kV_top_lot dc_top_lot pm_top_lot an_top_lot cd_top_lot ct_top_lot), sl_top_lot⟩)
    (c_top_lot : PySem.W.codeIn K cd_top_lot "top_lot" = true) (k_top_lot : PySem.W.keepIn K (.ref f_top_lot) = true)
    {f_is_order : Addr} {od_is_order an_is_order : Option Addr} {sl_is_order : Array (Option Value)} {oc_is_order kV_is_order dc_is_order pm_is_order cd_is_order ct_is_order : Value}
    (a_is_order : PySem.W.nsIn K mainGlobals "is_order" = some (some (.ref f_is_order)))
    (l_is_order : K.lookup f_is_order = some ⟨oc_is_order, od_is_order, .func (PySem.W.fnOf "is_order" "is_order" (defArgs s_is_order) (defBody s_is_order) (defScope s_is_order) .none kV_is_order dc_is_order pm_is_order an_is_order cd_is_order ct_is_order), sl_is_order⟩)
    (c_is_order : PySem.W.codeIn K cd_is_order "is_order" = true) (k_is_order : PySem.W.keepIn K (.ref f_is_order) = true)
    {f_check_order : Addr} {od_check_order an_check_order : Option Addr} {sl_check_order : Array (Option Value)} {oc_check_order kV_check_order dc_check_order pm_check_order cd_check_order ct_check_order : Value}
    (a_check_order : PySem.W.nsIn K mainGlobals "check_order" = some (some (.ref f_check_order)))
    (l_check_order : K.lookup f_check_order = some ⟨oc_check_order, od_check_order, .func (PySem.W.fnOf "check_order" "check_order" (defArgs s_check_order) (defBody s_check_order) (defScope s_check_order) .none kV_check_order dc_check_order pm_check_order an_check_order cd_check_order ct_check_order), sl_check_order⟩)
    (c_check_order : PySem.W.codeIn K cd_check_order "check_order" = true) (k_check_order : PySem.W.keepIn K (.ref f_check_order) = true)
    {f_order_of_ties : Addr} {od_order_of_ties an_order_of_ties : Option Addr} {sl_order_of_ties : Array (Option Value)} {oc_order_of_ties kV_order_of_ties dc_order_of_ties pm_order_of_ties cd_order_of_ties ct_order_of_ties : Value}
    (a_order_of_ties : PySem.W.nsIn K mainGlobals "order_of_ties" = some (some (.ref f_order_of_ties)))
    (l_order_of_ties : K.lookup f_order_of_ties = some ⟨oc_order_of_ties, od_order_of_ties, .func (PySem.W.fnOf "order_of_ties" "order_of_ties" (defArgs s_order_of_ties) (defBody s_order_of_ties) (defScope s_order_of_ties) .none kV_order_of_ties dc_order_of_ties pm_order_of_ties an_order_of_ties cd_order_of_ties ct_order_of_ties), sl_order_of_ties⟩)
    (c_order_of_ties : PySem.W.codeIn K cd_order_of_ties "order_of_ties" = true) (k_order_of_ties : PySem.W.keepIn K (.ref f_order_of_ties) = true)
    {f_led_to : Addr} {od_led_to an_led_to : Option Addr} {sl_led_to : Array (Option Value)} {oc_led_to kV_led_to dc_led_to pm_led_to cd_led_to ct_led_to : Value}
    (a_led_to : PySem.W.nsIn K mainGlobals "led_to" = some (some (.ref f_led_to)))
    (l_led_to : K.lookup f_led_to = some ⟨oc_led_to, od_led_to, .func (PySem.W.fnOf "led_to" "led_to" (defArgs s_led_to) (defBody s_led_to) (defScope s_led_to) .none kV_led_to dc_led_to pm_led_to an_led_to cd_led_to ct_led_to), sl_led_to⟩)
    (c_led_to : PySem.W.codeIn K cd_led_to "led_to" = true) (k_led_to : PySem.W.keepIn K (.ref f_led_to) = true)
    {f_kept_pairs : Addr} {od_kept_pairs an_kept_pairs : Option Addr} {sl_kept_pairs : Array (Option Value)} {oc_kept_pairs kV_kept_pairs dc_kept_pairs pm_kept_pairs cd_kept_pairs ct_kept_pairs : Value}
    (a_kept_pairs : PySem.W.nsIn K mainGlobals "kept_pairs" = some (some (.ref f_kept_pairs)))
    (l_kept_pairs : K.lookup f_kept_pairs = some ⟨oc_kept_pairs, od_kept_pairs, .func (PySem.W.fnOf "kept_pairs" "kept_pairs" (defArgs s_kept_pairs) (defBody s_kept_pairs) (defScope s_kept_pairs) .none kV_kept_pairs dc_kept_pairs pm_kept_pairs an_kept_pairs cd_kept_pairs ct_kept_pairs), sl_kept_pairs⟩)
    (c_kept_pairs : PySem.W.codeIn K cd_kept_pairs "kept_pairs" = true) (k_kept_pairs : PySem.W.keepIn K (.ref f_kept_pairs) = true)
    {f_pairs_order : Addr} {od_pairs_order an_pairs_order : Option Addr} {sl_pairs_order : Array (Option Value)} {oc_pairs_order dc_pairs_order pm_pairs_order cd_pairs_order ct_pairs_order : Value}
    (a_pairs_order : PySem.W.nsIn K mainGlobals "pairs_order" = some (some (.ref f_pairs_order)))
    {D_pairs_order : Addr} 
    {e_pairs_order : Addr} {de_pairs_order : Option Addr} {nn_pairs_order : Nat} {sle_pairs_order : Array (Option Value)}
    (l_pairs_order : K.lookup f_pairs_order = some ⟨oc_pairs_order, od_pairs_order, .func (PySem.W.fnOf "pairs_order" "pairs_order" (defArgs s_pairs_order) (defBody s_pairs_order) (defScope s_pairs_order) .none (.ref D_pairs_order) dc_pairs_order pm_pairs_order an_pairs_order cd_pairs_order ct_pairs_order), sl_pairs_order⟩)
    (nk_pairs_order_ties : PySem.W.nsIn K D_pairs_order "ties" = some (some (.ref e_pairs_order)))
    (le_pairs_order : K.lookup e_pairs_order = some ⟨.type "tuple", de_pairs_order, .seq #[] nn_pairs_order, sle_pairs_order⟩)
    (c_pairs_order : PySem.W.codeIn K cd_pairs_order "pairs_order" = true) (k_pairs_order : PySem.W.keepIn K (.ref f_pairs_order) = true)
    {f_stands_ahead : Addr} {od_stands_ahead an_stands_ahead : Option Addr} {sl_stands_ahead : Array (Option Value)} {oc_stands_ahead kV_stands_ahead dc_stands_ahead pm_stands_ahead cd_stands_ahead ct_stands_ahead : Value}
    (a_stands_ahead : PySem.W.nsIn K mainGlobals "stands_ahead" = some (some (.ref f_stands_ahead)))
    (l_stands_ahead : K.lookup f_stands_ahead = some ⟨oc_stands_ahead, od_stands_ahead, .func (PySem.W.fnOf "stands_ahead" "stands_ahead" (defArgs s_stands_ahead) (defBody s_stands_ahead) (defScope s_stands_ahead) .none kV_stands_ahead dc_stands_ahead pm_stands_ahead an_stands_ahead cd_stands_ahead ct_stands_ahead), sl_stands_ahead⟩)
    (c_stands_ahead : PySem.W.codeIn K cd_stands_ahead "stands_ahead" = true) (k_stands_ahead : PySem.W.keepIn K (.ref f_stands_ahead) = true)
    {f_shows_stands : Addr} {od_shows_stands an_shows_stands : Option Addr} {sl_shows_stands : Array (Option Value)} {oc_shows_stands kV_shows_stands dc_shows_stands pm_shows_stands cd_shows_stands ct_shows_stands : Value}
    (a_shows_stands : PySem.W.nsIn K mainGlobals "shows_stands" = some (some (.ref f_shows_stands)))
    (l_shows_stands : K.lookup f_shows_stands = some ⟨oc_shows_stands, od_shows_stands, .func (PySem.W.fnOf "shows_stands" "shows_stands" (defArgs s_shows_stands) (defBody s_shows_stands) (defScope s_shows_stands) .none kV_shows_stands dc_shows_stands pm_shows_stands an_shows_stands cd_shows_stands ct_shows_stands), sl_shows_stands⟩)
    (c_shows_stands : PySem.W.codeIn K cd_shows_stands "shows_stands" = true) (k_shows_stands : PySem.W.keepIn K (.ref f_shows_stands) = true)
    {f_law_cell_at : Addr} {od_law_cell_at an_law_cell_at : Option Addr} {sl_law_cell_at : Array (Option Value)} {oc_law_cell_at kV_law_cell_at dc_law_cell_at pm_law_cell_at cd_law_cell_at ct_law_cell_at : Value}
    (a_law_cell_at : PySem.W.nsIn K mainGlobals "_law_cell_at" = some (some (.ref f_law_cell_at)))
    (l_law_cell_at : K.lookup f_law_cell_at = some ⟨oc_law_cell_at, od_law_cell_at, .func (PySem.W.fnOf "_law_cell_at" "_law_cell_at" (defArgs s_law_cell_at) (defBody s_law_cell_at) (defScope s_law_cell_at) .none kV_law_cell_at dc_law_cell_at pm_law_cell_at an_law_cell_at cd_law_cell_at ct_law_cell_at), sl_law_cell_at⟩)
    (c_law_cell_at : PySem.W.codeIn K cd_law_cell_at "_law_cell_at" = true) (k_law_cell_at : PySem.W.keepIn K (.ref f_law_cell_at) = true)
    {f_law_well : Addr} {od_law_well an_law_well : Option Addr} {sl_law_well : Array (Option Value)} {oc_law_well kV_law_well dc_law_well pm_law_well cd_law_well ct_law_well : Value}
    (a_law_well : PySem.W.nsIn K mainGlobals "_law_well" = some (some (.ref f_law_well)))
    (l_law_well : K.lookup f_law_well = some ⟨oc_law_well, od_law_well, .func (PySem.W.fnOf "_law_well" "_law_well" (defArgs s_law_well) (defBody s_law_well) (defScope s_law_well) .none kV_law_well dc_law_well pm_law_well an_law_well cd_law_well ct_law_well), sl_law_well⟩)
    (c_law_well : PySem.W.codeIn K cd_law_well "_law_well" = true) (k_law_well : PySem.W.keepIn K (.ref f_law_well) = true)
    {f_law_draw : Addr} {od_law_draw an_law_draw : Option Addr} {sl_law_draw : Array (Option Value)} {oc_law_draw kV_law_draw dc_law_draw pm_law_draw cd_law_draw ct_law_draw : Value}
    (a_law_draw : PySem.W.nsIn K mainGlobals "_law_draw" = some (some (.ref f_law_draw)))
    (l_law_draw : K.lookup f_law_draw = some ⟨oc_law_draw, od_law_draw, .func (PySem.W.fnOf "_law_draw" "_law_draw" (defArgs s_law_draw) (defBody s_law_draw) (defScope s_law_draw) .none kV_law_draw dc_law_draw pm_law_draw an_law_draw cd_law_draw ct_law_draw), sl_law_draw⟩)
    (c_law_draw : PySem.W.codeIn K cd_law_draw "_law_draw" = true) (k_law_draw : PySem.W.keepIn K (.ref f_law_draw) = true)
    {f_law_one : Addr} {od_law_one an_law_one : Option Addr} {sl_law_one : Array (Option Value)} {oc_law_one kV_law_one dc_law_one pm_law_one cd_law_one ct_law_one : Value}
    (a_law_one : PySem.W.nsIn K mainGlobals "_law_one" = some (some (.ref f_law_one)))
    (l_law_one : K.lookup f_law_one = some ⟨oc_law_one, od_law_one, .func (PySem.W.fnOf "_law_one" "_law_one" (defArgs s_law_one) (defBody s_law_one) (defScope s_law_one) .none kV_law_one dc_law_one pm_law_one an_law_one cd_law_one ct_law_one), sl_law_one⟩)
    (c_law_one : PySem.W.codeIn K cd_law_one "_law_one" = true) (k_law_one : PySem.W.keepIn K (.ref f_law_one) = true)
    {f_law_shuffled : Addr} {od_law_shuffled an_law_shuffled : Option Addr} {sl_law_shuffled : Array (Option Value)} {oc_law_shuffled kV_law_shuffled dc_law_shuffled pm_law_shuffled cd_law_shuffled ct_law_shuffled : Value}
    (a_law_shuffled : PySem.W.nsIn K mainGlobals "_law_shuffled" = some (some (.ref f_law_shuffled)))
    (l_law_shuffled : K.lookup f_law_shuffled = some ⟨oc_law_shuffled, od_law_shuffled, .func (PySem.W.fnOf "_law_shuffled" "_law_shuffled" (defArgs s_law_shuffled) (defBody s_law_shuffled) (defScope s_law_shuffled) .none kV_law_shuffled dc_law_shuffled pm_law_shuffled an_law_shuffled cd_law_shuffled ct_law_shuffled), sl_law_shuffled⟩)
    (c_law_shuffled : PySem.W.codeIn K cd_law_shuffled "_law_shuffled" = true) (k_law_shuffled : PySem.W.keepIn K (.ref f_law_shuffled) = true)
    {f_law_names : Addr} {od_law_names an_law_names : Option Addr} {sl_law_names : Array (Option Value)} {oc_law_names kV_law_names dc_law_names pm_law_names cd_law_names ct_law_names : Value}
    (a_law_names : PySem.W.nsIn K mainGlobals "_law_names" = some (some (.ref f_law_names)))
    (l_law_names : K.lookup f_law_names = some ⟨oc_law_names, od_law_names, .func (PySem.W.fnOf "_law_names" "_law_names" (defArgs s_law_names) (defBody s_law_names) (defScope s_law_names) .none kV_law_names dc_law_names pm_law_names an_law_names cd_law_names ct_law_names), sl_law_names⟩)
    (c_law_names : PySem.W.codeIn K cd_law_names "_law_names" = true) (k_law_names : PySem.W.keepIn K (.ref f_law_names) = true)
    {f_law_ballot : Addr} {od_law_ballot an_law_ballot : Option Addr} {sl_law_ballot : Array (Option Value)} {oc_law_ballot kV_law_ballot dc_law_ballot pm_law_ballot cd_law_ballot ct_law_ballot : Value}
    (a_law_ballot : PySem.W.nsIn K mainGlobals "_law_ballot" = some (some (.ref f_law_ballot)))
    (l_law_ballot : K.lookup f_law_ballot = some ⟨oc_law_ballot, od_law_ballot, .func (PySem.W.fnOf "_law_ballot" "_law_ballot" (defArgs s_law_ballot) (defBody s_law_ballot) (defScope s_law_ballot) .none kV_law_ballot dc_law_ballot pm_law_ballot an_law_ballot cd_law_ballot ct_law_ballot), sl_law_ballot⟩)
    (c_law_ballot : PySem.W.codeIn K cd_law_ballot "_law_ballot" = true) (k_law_ballot : PySem.W.keepIn K (.ref f_law_ballot) = true)
    {f_law_parts : Addr} {od_law_parts an_law_parts : Option Addr} {sl_law_parts : Array (Option Value)} {oc_law_parts kV_law_parts dc_law_parts pm_law_parts cd_law_parts ct_law_parts : Value}
    (a_law_parts : PySem.W.nsIn K mainGlobals "_law_parts" = some (some (.ref f_law_parts)))
    (l_law_parts : K.lookup f_law_parts = some ⟨oc_law_parts, od_law_parts, .func (PySem.W.fnOf "_law_parts" "_law_parts" (defArgs s_law_parts) (defBody s_law_parts) (defScope s_law_parts) .none kV_law_parts dc_law_parts pm_law_parts an_law_parts cd_law_parts ct_law_parts), sl_law_parts⟩)
    (c_law_parts : PySem.W.codeIn K cd_law_parts "_law_parts" = true) (k_law_parts : PySem.W.keepIn K (.ref f_law_parts) = true)
    {f_law_orders : Addr} {od_law_orders an_law_orders : Option Addr} {sl_law_orders : Array (Option Value)} {oc_law_orders kV_law_orders dc_law_orders pm_law_orders cd_law_orders ct_law_orders : Value}
    (a_law_orders : PySem.W.nsIn K mainGlobals "_law_orders" = some (some (.ref f_law_orders)))
    (l_law_orders : K.lookup f_law_orders = some ⟨oc_law_orders, od_law_orders, .func (PySem.W.fnOf "_law_orders" "_law_orders" (defArgs s_law_orders) (defBody s_law_orders) (defScope s_law_orders) .none kV_law_orders dc_law_orders pm_law_orders an_law_orders cd_law_orders ct_law_orders), sl_law_orders⟩)
    (c_law_orders : PySem.W.codeIn K cd_law_orders "_law_orders" = true) (k_law_orders : PySem.W.keepIn K (.ref f_law_orders) = true)
    {f_law_turned : Addr} {od_law_turned an_law_turned : Option Addr} {sl_law_turned : Array (Option Value)} {oc_law_turned kV_law_turned dc_law_turned pm_law_turned cd_law_turned ct_law_turned : Value}
    (a_law_turned : PySem.W.nsIn K mainGlobals "_law_turned" = some (some (.ref f_law_turned)))
    (l_law_turned : K.lookup f_law_turned = some ⟨oc_law_turned, od_law_turned, .func (PySem.W.fnOf "_law_turned" "_law_turned" (defArgs s_law_turned) (defBody s_law_turned) (defScope s_law_turned) .none kV_law_turned dc_law_turned pm_law_turned an_law_turned cd_law_turned ct_law_turned), sl_law_turned⟩)
    (c_law_turned : PySem.W.codeIn K cd_law_turned "_law_turned" = true) (k_law_turned : PySem.W.keepIn K (.ref f_law_turned) = true)
    {f_law_standing_right : Addr} {od_law_standing_right an_law_standing_right : Option Addr} {sl_law_standing_right : Array (Option Value)} {oc_law_standing_right kV_law_standing_right dc_law_standing_right pm_law_standing_right cd_law_standing_right ct_law_standing_right : Value}
    (a_law_standing_right : PySem.W.nsIn K mainGlobals "_law_standing_right" = some (some (.ref f_law_standing_right)))
    (l_law_standing_right : K.lookup f_law_standing_right = some ⟨oc_law_standing_right, od_law_standing_right, .func (PySem.W.fnOf "_law_standing_right" "_law_standing_right" (defArgs s_law_standing_right) (defBody s_law_standing_right) (defScope s_law_standing_right) .none kV_law_standing_right dc_law_standing_right pm_law_standing_right an_law_standing_right cd_law_standing_right ct_law_standing_right), sl_law_standing_right⟩)
    (c_law_standing_right : PySem.W.codeIn K cd_law_standing_right "_law_standing_right" = true) (k_law_standing_right : PySem.W.keepIn K (.ref f_law_standing_right) = true)
    {f_law : Addr} {od_law an_law : Option Addr} {sl_law : Array (Option Value)} {oc_law kV_law dc_law pm_law cd_law ct_law : Value}
    (a_law : PySem.W.nsIn K mainGlobals "law" = some (some (.ref f_law)))
    (l_law : K.lookup f_law = some ⟨oc_law, od_law, .func (PySem.W.fnOf "law" "law" (defArgs s_law) (defBody s_law) (defScope s_law) .none kV_law dc_law pm_law an_law cd_law ct_law), sl_law⟩)
    (c_law : PySem.W.codeIn K cd_law "law" = true) (k_law : PySem.W.keepIn K (.ref f_law) = true)
    {C_PollError : Addr}
    (aC_PollError : PySem.W.nsIn K mainGlobals "PollError" = some (some (.ref C_PollError)))
    {nm_PollError q_PollError : Str} {N_PollError : Addr} {bs_PollError : List Value} {sn_PollError : List Str} {sub_PollError : List Value} {ab_PollError : Bool} {col_PollError : Option Bool} {dd_PollError : Option Addr} {m0_PollError m1_PollError m2_PollError m3_PollError m5_PollError : Option Value}
    (xL_PollError : K.lookup C_PollError = some (excClassObj nm_PollError q_PollError C_PollError N_PollError bs_PollError [.type "ValueError", .type "Exception", .type "BaseException", .type "object"] true sn_PollError sub_PollError ab_PollError col_PollError dd_PollError m0_PollError m1_PollError m2_PollError m3_PollError m5_PollError "ValueError.__new__"))
    (sa_PollError : PySem.W.findIn K (.ref C_PollError) "__setattr__" = some (some (.builtin "object.__setattr__")))
    (gt_PollError : PySem.W.findIn K (.ref C_PollError) "__getattribute__" = some (some (.builtin "BaseException.__getattribute__")))
    (gg_PollError : PySem.W.findIn K (.ref C_PollError) "__getattr__" = some none)
    (ai_PollError : PySem.W.findIn K (.ref C_PollError) "__init__" = some (some (.ref f_PollError_init)))
    (ti_PollError : PySem.W.typeIn K (.ref f_PollError_init) = some (.type "function"))
    (kC_PollError : PySem.W.keepIn K (.ref C_PollError) = true)
    (eC_PollError : PySem.W.subIn K (.ref C_PollError) (.type "BaseException") = some true)
    (tC_PollError : PySem.W.typeIn K (.ref C_PollError) = some (.type "type"))
    (hC_PollError : PySem.W.hasDictIn K C_PollError = true)
    (nf_PollError_why : PySem.W.findIn K (.ref C_PollError) "why" = some none)
    (rd_PollError : PySem.W.readsIn K C_PollError (.type "type") = true)
    (ga_PollError : PySem.W.specialIn K (.ref C_PollError) "__getattribute__" = some (some (.builtin "type.__getattribute__")))
    (fc_PollError_init : PySem.W.findCls K (.ref C_PollError) (.type "type") "__init__" = some (.val (.ref f_PollError_init)))
    {C_BadPoll : Addr}
    (aC_BadPoll : PySem.W.nsIn K mainGlobals "BadPoll" = some (some (.ref C_BadPoll)))
    {nm_BadPoll q_BadPoll : Str} {N_BadPoll : Addr} {bs_BadPoll : List Value} {sn_BadPoll : List Str} {sub_BadPoll : List Value} {ab_BadPoll : Bool} {col_BadPoll : Option Bool} {dd_BadPoll : Option Addr} {m0_BadPoll m1_BadPoll m2_BadPoll m3_BadPoll m5_BadPoll : Option Value}
    (xL_BadPoll : K.lookup C_BadPoll = some (excClassObj nm_BadPoll q_BadPoll C_BadPoll N_BadPoll bs_BadPoll [.ref C_PollError, .type "ValueError", .type "Exception", .type "BaseException", .type "object"] true sn_BadPoll sub_BadPoll ab_BadPoll col_BadPoll dd_BadPoll m0_BadPoll m1_BadPoll m2_BadPoll m3_BadPoll m5_BadPoll "ValueError.__new__"))
    (sa_BadPoll : PySem.W.findIn K (.ref C_BadPoll) "__setattr__" = some (some (.builtin "object.__setattr__")))
    (gt_BadPoll : PySem.W.findIn K (.ref C_BadPoll) "__getattribute__" = some (some (.builtin "BaseException.__getattribute__")))
    (gg_BadPoll : PySem.W.findIn K (.ref C_BadPoll) "__getattr__" = some none)
    (ai_BadPoll : PySem.W.findIn K (.ref C_BadPoll) "__init__" = some (some (.ref f_PollError_init)))
    (ti_BadPoll : PySem.W.typeIn K (.ref f_PollError_init) = some (.type "function"))
    (kC_BadPoll : PySem.W.keepIn K (.ref C_BadPoll) = true)
    (eC_BadPoll : PySem.W.subIn K (.ref C_BadPoll) (.type "BaseException") = some true)
    (tC_BadPoll : PySem.W.typeIn K (.ref C_BadPoll) = some (.type "type"))
    (hC_BadPoll : PySem.W.hasDictIn K C_BadPoll = true)
    (nf_BadPoll_why : PySem.W.findIn K (.ref C_BadPoll) "why" = some none)
    {C_Poll : Addr}
    (aC_Poll : PySem.W.nsIn K mainGlobals "Poll" = some (some (.ref C_Poll)))
    (pg_Poll : PySem.W.plainGet K C_Poll Str.empty = true)
    (hd_Poll : PySem.W.hasDictIn K C_Poll = true)
    (po_Poll : PySem.W.plainOver K C_Poll = true)
    (sa_Poll : PySem.W.findIn K (.ref C_Poll) "__setattr__" = some (some (.builtin "object.__setattr__")))
    (mk_Poll : PySem.W.makesIn K C_Poll = true)
    (kc_Poll : PySem.W.keepIn K (.ref C_Poll) = true)
    (ai_Poll : PySem.W.findIn K (.ref C_Poll) "__init__" = some (some (.ref f_Poll_init)))
    (ii_Poll : PySem.W.isFn K (.ref f_Poll_init) = true)
    (n_Poll_options : PySem.W.findIn K (.ref C_Poll) "options" = some none)
    (n_Poll_voices : PySem.W.findIn K (.ref C_Poll) "voices" = some none)
    {tc_kept_pairs tp_kept_pairs : Addr} {occ_kept_pairs : Value} {odc_kept_pairs : Option Addr} {slc_kept_pairs : Array (Option Value)} {vs_kept_pairs : Array Value} (kd_kept_pairs : cd_kept_pairs = .ref tc_kept_pairs) (lc_kept_pairs : K.lookup tc_kept_pairs = some ⟨occ_kept_pairs, odc_kept_pairs, .fields vs_kept_pairs, slc_kept_pairs⟩) (vp_kept_pairs : (vs_kept_pairs[11]? : Option Value) = some (.ref tp_kept_pairs)) (np_kept_pairs : K.lookup tp_kept_pairs = none) (rc_kept_pairs : ∃ r, (recsOf prg).find? (fun e => e.name == ("kept_pairs" : Str)) = some r)
    (vV : PySem.W.findCls K (.type "ValueError") (.type "type") "__init__" = some (.val (.builtin "ValueError.__init__")))
    (z_ValueError : PySem.W.nsIn K mainGlobals "ValueError" = some none)
    (z_isinstance : PySem.W.nsIn K mainGlobals "isinstance" = some none)
    (z_bool : PySem.W.nsIn K mainGlobals "bool" = some none)
    (z_int : PySem.W.nsIn K mainGlobals "int" = some none)
    (z_str : PySem.W.nsIn K mainGlobals "str" = some none)
    (z_len : PySem.W.nsIn K mainGlobals "len" = some none)
    (z_all : PySem.W.nsIn K mainGlobals "all" = some none)
    (z_tuple : PySem.W.nsIn K mainGlobals "tuple" = some none)
    (z_enumerate : PySem.W.nsIn K mainGlobals "enumerate" = some none)
    (z_sorted : PySem.W.nsIn K mainGlobals "sorted" = some none)
    (z_set : PySem.W.nsIn K mainGlobals "set" = some none)
    (z_list : PySem.W.nsIn K mainGlobals "list" = some none)
    (z_any : PySem.W.nsIn K mainGlobals "any" = some none)
    (z_range : PySem.W.nsIn K mainGlobals "range" = some none)
    (z_min : PySem.W.nsIn K mainGlobals "min" = some none)
    (z_max : PySem.W.nsIn K mainGlobals "max" = some none)
    {t_LONGEST_NAME : Tok} (cc_LONGEST_NAME : PySem.W.nsIn K mainGlobals "LONGEST_NAME" = some (some (.int 8 t_LONGEST_NAME)))
    {t_MOST_OPTIONS : Tok} (cc_MOST_OPTIONS : PySem.W.nsIn K mainGlobals "MOST_OPTIONS" = some (some (.int 6 t_MOST_OPTIONS)))
    {t_GREATEST_MARK : Tok} (cc_GREATEST_MARK : PySem.W.nsIn K mainGlobals "GREATEST_MARK" = some (some (.int 9 t_GREATEST_MARK)))
    {t_MOST_VOICES : Tok} (cc_MOST_VOICES : PySem.W.nsIn K mainGlobals "MOST_VOICES" = some (some (.int 1000000 t_MOST_VOICES)))
    {t_MOST_ROWS : Tok} (cc_MOST_ROWS : PySem.W.nsIn K mainGlobals "MOST_ROWS" = some (some (.int 30 t_MOST_ROWS)))
    : ∃ (fd : FuncData) (cs : Tabs3), (∀ t ∈ cs, (∃ r, (recsOf prg).find? (fun e => e.name == t.1) = some r) ∧ PySem.W.tabIn K t.1 = some t.2 ∧ K.lookup t.2.2 = none) ∧ (∀ (s : Shared) (v : Value), BindsTo s fd ⟨[v], []⟩ [("_law_script", v)]) ∧ ∀ base : Heap, K.In base → base.Ns mainGlobals mg → (∀ t ∈ cs, LamX.TabB base mg t.2.1 t.2.2) → FnOk l.prog w K mg base CX0 10 fa fd ["_law_script"] (sp_law K cs) := by
  have tt_kept_pairs : PySem.W.tabIn K "kept_pairs" = some (tc_kept_pairs, tp_kept_pairs) := tab_by a_kept_pairs l_kept_pairs kd_kept_pairs lc_kept_pairs vp_kept_pairs
  have e := hfa.symm.trans (PySem.W.mg_of X G a_law)
  cases e
  have F_PollError_init : FunD K "__init__" "PollError.__init__" (defArgs s_PollError_init) (defBody s_PollError_init) (defScope s_PollError_init) [V.str ""] [] f_PollError_init _ := ⟨⟨_, _, _, _, _, _, _, _, _, _, rfl, l_PollError_init, c_PollError_init, .inr ⟨by simp, _, _, [.str "" tk0_PollError_init], _, rfl, lt_PollError_init, rfl, (.cons ⟨_, rfl⟩ Paired.nil)⟩, .inl rfl⟩, k_PollError_init⟩
  obtain ⟨ikb_PollError_init_2, kb_PollError_init_2⟩ := F_PollError_init.kbindsD (ps := ["self", "why"]) 2 [] (fun us its ws => us) (by simp) (fun r1 r2 r3 => r1) (fun _ _ _ _ _ _ _ us its ws l1 l2 l3 => match us, its, ws, l1, l2, l3 with | [_, _], [_], [], _, _, _ => ⟨_, rfl, rfl⟩)
  have F_is_whole := fun_mk (st := s_is_whole) l_is_whole c_is_whole k_is_whole
  have b_is_whole := F_is_whole.binds (ps := ["thing"]) fun _ _ _ _ _ _ us hl => by obtain ⟨_, rfl⟩ := len1 hl; rfl
  have F_is_name := fun_mk (st := s_is_name) l_is_name c_is_name k_is_name
  have b_is_name := F_is_name.binds (ps := ["thing"]) fun _ _ _ _ _ _ us hl => by obtain ⟨_, rfl⟩ := len1 hl; rfl
  have F_is_tuple_of := fun_mk (st := s_is_tuple_of) l_is_tuple_of c_is_tuple_of k_is_tuple_of
  have b_is_tuple_of := F_is_tuple_of.binds (ps := ["thing", "many"]) fun _ _ _ _ _ _ us hl => by obtain ⟨_, _, rfl⟩ := len2 hl; rfl
  have F_are_names := fun_mk (st := s_are_names) l_are_names c_are_names k_are_names
  have b_are_names := F_are_names.binds (ps := ["thing"]) fun _ _ _ _ _ _ us hl => by obtain ⟨_, rfl⟩ := len1 hl; rfl
  have F_are_options := fun_mk (st := s_are_options) l_are_options c_are_options k_are_options
  have b_are_options := F_are_options.binds (ps := ["thing"]) fun _ _ _ _ _ _ us hl => by obtain ⟨_, rfl⟩ := len1 hl; rfl
  have F_is_option := fun_mk (st := s_is_option) l_is_option c_is_option k_is_option
  have b_is_option := F_is_option.binds (ps := ["options", "thing"]) fun _ _ _ _ _ _ us hl => by obtain ⟨_, _, rfl⟩ := len2 hl; rfl
  have F_are_unlike_options := fun_mk (st := s_are_unlike_options) l_are_unlike_options c_are_unlike_options k_are_unlike_options
  have b_are_unlike_options := F_are_unlike_options.binds (ps := ["options", "names"]) fun _ _ _ _ _ _ us hl => by obtain ⟨_, _, rfl⟩ := len2 hl; rfl
  have F_is_mark := fun_mk (st := s_is_mark) l_is_mark c_is_mark k_is_mark
  have b_is_mark := F_is_mark.binds (ps := ["thing"]) fun _ _ _ _ _ _ us hl => by obtain ⟨_, rfl⟩ := len1 hl; rfl
  have F_are_tiers := fun_mk (st := s_are_tiers) l_are_tiers c_are_tiers k_are_tiers
  have b_are_tiers := F_are_tiers.binds (ps := ["options", "told"]) fun _ _ _ _ _ _ us hl => by obtain ⟨_, _, rfl⟩ := len2 hl; rfl
  have F_are_marks := fun_mk (st := s_are_marks) l_are_marks c_are_marks k_are_marks
  have b_are_marks := F_are_marks.binds (ps := ["options", "told"]) fun _ _ _ _ _ _ us hl => by obtain ⟨_, _, rfl⟩ := len2 hl; rfl
  have F_is_ballot := fun_mk (st := s_is_ballot) l_is_ballot c_is_ballot k_is_ballot
  have b_is_ballot := F_is_ballot.binds (ps := ["options", "thing"]) fun _ _ _ _ _ _ us hl => by obtain ⟨_, _, rfl⟩ := len2 hl; rfl
  have F_is_row := fun_mk (st := s_is_row) l_is_row c_is_row k_is_row
  have b_is_row := F_is_row.binds (ps := ["options", "thing"]) fun _ _ _ _ _ _ us hl => by obtain ⟨_, _, rfl⟩ := len2 hl; rfl
  have F_check_poll := fun_mk (st := s_check_poll) l_check_poll c_check_poll k_check_poll
  have b_check_poll := F_check_poll.binds (ps := ["options", "voices"]) fun _ _ _ _ _ _ us hl => by obtain ⟨_, _, rfl⟩ := len2 hl; rfl
  have kb_check_poll_2 : KBn K (PySem.W.fnOf "check_poll" "check_poll" (defArgs s_check_poll) (defBody s_check_poll) (defScope s_check_poll) .none kV_check_poll dc_check_poll pm_check_poll an_check_poll cd_check_poll ct_check_poll) ["options", "voices"] 2 [] (fun us ws => us) (fun vs zs => vs) := ⟨fun s us ws _ l1 l2 => .of_eq (match us, ws, l1, l2 with | [_, _], [], _, _ => rfl), fun r1 r3 => r1⟩
  have F_Poll_init : FunD K "__init__" "Poll.__init__" (defArgs s_Poll_init) (defBody s_Poll_init) (defScope s_Poll_init) [V.ref e_Poll_init] [] f_Poll_init _ := ⟨⟨_, _, _, _, _, _, _, _, _, _, rfl, l_Poll_init, c_Poll_init, .inr ⟨by simp, _, _, [.ref e_Poll_init], _, rfl, lt_Poll_init, rfl, (.cons rfl Paired.nil)⟩, .inl rfl⟩, k_Poll_init⟩
  obtain ⟨ikb_Poll_init_3, kb_Poll_init_3⟩ := F_Poll_init.kbindsD (ps := ["self", "options", "voices"]) 3 [] (fun us its ws => us) (by simp) (fun r1 r2 r3 => r1) (fun _ _ _ _ _ _ _ us its ws l1 l2 l3 => match us, its, ws, l1, l2, l3 with | [_, _, _], [_], [], _, _, _ => ⟨_, rfl, rfl⟩)
  have F_order_ranks := fun_mk (st := s_order_ranks) l_order_ranks c_order_ranks k_order_ranks
  have b_order_ranks := F_order_ranks.binds (ps := ["options", "told"]) fun _ _ _ _ _ _ us hl => by obtain ⟨_, _, rfl⟩ := len2 hl; rfl
  have F_ranks := fun_mk (st := s_ranks) l_ranks c_ranks k_ranks
  have b_ranks := F_ranks.binds (ps := ["options", "ballot"]) fun _ _ _ _ _ _ us hl => by obtain ⟨_, _, rfl⟩ := len2 hl; rfl
  have F_tiers := fun_mk (st := s_tiers) l_tiers c_tiers k_tiers
  have b_tiers := F_tiers.binds (ps := ["options", "ballot"]) fun _ _ _ _ _ _ us hl => by obtain ⟨_, _, rfl⟩ := len2 hl; rfl
  have F_ranked := fun_mk (st := s_ranked) l_ranked c_ranked k_ranked
  have b_ranked := F_ranked.binds (ps := ["poll"]) fun _ _ _ _ _ _ us hl => by obtain ⟨_, rfl⟩ := len1 hl; rfl
  have F_margin_by := fun_mk (st := s_margin_by) l_margin_by c_margin_by k_margin_by
  have b_margin_by := F_margin_by.binds (ps := ["rows", "one", "other"]) fun _ _ _ _ _ _ us hl => by obtain ⟨_, _, _, rfl⟩ := len3 hl; rfl
  have F_margins := fun_mk (st := s_margins) l_margins c_margins k_margins
  have b_margins := F_margins.binds (ps := ["poll"]) fun _ _ _ _ _ _ us hl => by obtain ⟨_, rfl⟩ := len1 hl; rfl
  have F_others_than := fun_mk (st := s_others_than) l_others_than c_others_than k_others_than
  have b_others_than := F_others_than.binds (ps := ["poll", "one"]) fun _ _ _ _ _ _ us hl => by obtain ⟨_, _, rfl⟩ := len2 hl; rfl
  have F_leader := fun_mk (st := s_leader) l_leader c_leader k_leader
  have b_leader := F_leader.binds (ps := ["poll"]) fun _ _ _ _ _ _ us hl => by obtain ⟨_, rfl⟩ := len1 hl; rfl
  have F_trailer := fun_mk (st := s_trailer) l_trailer c_trailer k_trailer
  have b_trailer := F_trailer.binds (ps := ["poll"]) fun _ _ _ _ _ _ us hl => by obtain ⟨_, rfl⟩ := len1 hl; rfl
  have F_unlost_ways := fun_mk (st := s_unlost_ways) l_unlost_ways c_unlost_ways k_unlost_ways
  have b_unlost_ways := F_unlost_ways.binds (ps := ["poll", "held", "start"]) fun _ _ _ _ _ _ us hl => by obtain ⟨_, _, _, rfl⟩ := len3 hl; rfl
  have F_top_lot := fun_mk (st := s_top_lot) l_top_lot c_top_lot k_top_lot
  have b_top_lot := F_top_lot.binds (ps := ["poll"]) fun _ _ _ _ _ _ us hl => by obtain ⟨_, rfl⟩ := len1 hl; rfl
  have F_is_order := fun_mk (st := s_is_order) l_is_order c_is_order k_is_order
  have b_is_order := F_is_order.binds (ps := ["options", "thing"]) fun _ _ _ _ _ _ us hl => by obtain ⟨_, _, rfl⟩ := len2 hl; rfl
  have F_check_order := fun_mk (st := s_check_order) l_check_order c_check_order k_check_order
  have b_check_order := F_check_order.binds (ps := ["options", "order"]) fun _ _ _ _ _ _ us hl => by obtain ⟨_, _, rfl⟩ := len2 hl; rfl
  have F_order_of_ties := fun_mk (st := s_order_of_ties) l_order_of_ties c_order_of_ties k_order_of_ties
  have b_order_of_ties := F_order_of_ties.binds (ps := ["options", "ties"]) fun _ _ _ _ _ _ us hl => by obtain ⟨_, _, rfl⟩ := len2 hl; rfl
  have F_led_to := fun_mk (st := s_led_to) l_led_to c_led_to k_led_to
  have b_led_to := F_led_to.binds (ps := ["kept", "start"]) fun _ _ _ _ _ _ us hl => by obtain ⟨_, _, rfl⟩ := len2 hl; rfl
  have F_kept_pairs := fun_mk (st := s_kept_pairs) l_kept_pairs c_kept_pairs k_kept_pairs
  have b_kept_pairs := F_kept_pairs.binds (ps := ["order", "held"]) fun _ _ _ _ _ _ us hl => by obtain ⟨_, _, rfl⟩ := len2 hl; rfl
  have F_pairs_order : FunD K "pairs_order" "pairs_order" (defArgs s_pairs_order) (defBody s_pairs_order) (defScope s_pairs_order) [] [("ties", V.ref e_pairs_order)] f_pairs_order _ := ⟨⟨_, _, _, _, _, _, _, _, _, _, rfl, l_pairs_order, c_pairs_order, .inl ⟨rfl, rfl⟩, .inr ⟨D_pairs_order, rfl, (List.forall_mem_cons.mpr ⟨⟨_, nk_pairs_order_ties, rfl⟩, fun _ h => (nomatch h)⟩)⟩⟩, k_pairs_order⟩
  obtain ⟨ikb_pairs_order_1, kb_pairs_order_1⟩ := F_pairs_order.kbinds0 (ps := ["poll", "ties"]) 1 [] [("ties", V.ref e_pairs_order)] (fun us mv ws => us ++ ((mv.drop 0).take 1)) (by simp) (by simp) (fun r1 r2 r3 => r1.append (((r2.drop 0).take 1))) (fun _ _ _ _ _ _ us mv ws l1 l2 l3 => match us, mv, ws, l1, l2, l3 with | [_], [_], [], _, _, _ => ⟨_, _, _, _, _, _, rfl, rfl, rfl⟩)
  obtain ⟨ikb_pairs_order_1_ties, kb_pairs_order_1_ties⟩ := F_pairs_order.kbinds0 (ps := ["poll", "ties"]) 1 ["ties"] [] (fun us mv ws => us ++ ((ws.drop 0).take 1)) (by simp) (by simp) (fun r1 r2 r3 => r1.append (((r3.drop 0).take 1))) (fun _ _ _ _ _ _ us mv ws l1 l2 l3 => match us, mv, ws, l1, l2, l3 with | [_], [], [_], _, _, _ => rfl)
  have F_stands_ahead := fun_mk (st := s_stands_ahead) l_stands_ahead c_stands_ahead k_stands_ahead
  have b_stands_ahead := F_stands_ahead.binds (ps := ["order", "held"]) fun _ _ _ _ _ _ us hl => by obtain ⟨_, _, rfl⟩ := len2 hl; rfl
  have F_shows_stands := fun_mk (st := s_shows_stands) l_shows_stands c_shows_stands k_shows_stands
  have b_shows_stands := F_shows_stands.binds (ps := ["poll", "order"]) fun _ _ _ _ _ _ us hl => by obtain ⟨_, _, rfl⟩ := len2 hl; rfl
  have F_law_cell_at := fun_mk (st := s_law_cell_at) l_law_cell_at c_law_cell_at k_law_cell_at
  have b_law_cell_at := F_law_cell_at.binds (ps := ["_law_script", "_law_k"]) fun _ _ _ _ _ _ us hl => by obtain ⟨_, _, rfl⟩ := len2 hl; rfl
  have F_law_well := fun_mk (st := s_law_well) l_law_well c_law_well k_law_well
  have b_law_well := F_law_well.binds (ps := ["_law_cell"]) fun _ _ _ _ _ _ us hl => by obtain ⟨_, rfl⟩ := len1 hl; rfl
  have F_law_draw := fun_mk (st := s_law_draw) l_law_draw c_law_draw k_law_draw
  have b_law_draw := F_law_draw.binds (ps := ["_law_well_here", "_law_size"]) fun _ _ _ _ _ _ us hl => by obtain ⟨_, _, rfl⟩ := len2 hl; rfl
  have F_law_one := fun_mk (st := s_law_one) l_law_one c_law_one k_law_one
  have b_law_one := F_law_one.binds (ps := ["_law_well_here", "_law_some"]) fun _ _ _ _ _ _ us hl => by obtain ⟨_, _, rfl⟩ := len2 hl; rfl
  have F_law_shuffled := fun_mk (st := s_law_shuffled) l_law_shuffled c_law_shuffled k_law_shuffled
  have b_law_shuffled := F_law_shuffled.binds (ps := ["_law_well_here", "_law_some"]) fun _ _ _ _ _ _ us hl => by obtain ⟨_, _, rfl⟩ := len2 hl; rfl
  have F_law_names := fun_mk (st := s_law_names) l_law_names c_law_names k_law_names
  have b_law_names := F_law_names.binds (ps := ["_law_well_here", "_law_size"]) fun _ _ _ _ _ _ us hl => by obtain ⟨_, _, rfl⟩ := len2 hl; rfl
  have F_law_ballot := fun_mk (st := s_law_ballot) l_law_ballot c_law_ballot k_law_ballot
  have b_law_ballot := F_law_ballot.binds (ps := ["_law_well_here", "_law_names_here"]) fun _ _ _ _ _ _ us hl => by obtain ⟨_, _, rfl⟩ := len2 hl; rfl
  have F_law_parts := fun_mk (st := s_law_parts) l_law_parts c_law_parts k_law_parts
  have b_law_parts := F_law_parts.binds (ps := ["_law_well_here", "_law_sizes"]) fun _ _ _ _ _ _ us hl => by obtain ⟨_, _, rfl⟩ := len2 hl; rfl
  have F_law_orders := fun_mk (st := s_law_orders) l_law_orders c_law_orders k_law_orders
  have b_law_orders := F_law_orders.binds (ps := ["_law_names_here"]) fun _ _ _ _ _ _ us hl => by obtain ⟨_, rfl⟩ := len1 hl; rfl
  have F_law_turned := fun_mk (st := s_law_turned) l_law_turned c_law_turned k_law_turned
  have b_law_turned := F_law_turned.binds (ps := ["_law_p"]) fun _ _ _ _ _ _ us hl => by obtain ⟨_, rfl⟩ := len1 hl; rfl
  have F_law_standing_right := fun_mk (st := s_law_standing_right) l_law_standing_right c_law_standing_right k_law_standing_right
  have b_law_standing_right := F_law_standing_right.binds (ps := ["_law_table", "_law_about", "_law_facts", "_law_some"]) fun _ _ _ _ _ _ us hl => by obtain ⟨_, _, _, _, rfl⟩ := len4 hl; rfl
  have F_law := fun_mk (st := s_law) l_law c_law k_law
  have b_law := F_law.binds (ps := ["_law_script"]) fun _ _ _ _ _ _ us hl => by obtain ⟨_, rfl⟩ := len1 hl; rfl
  have ox_PollError : OexC K C_PollError := ⟨⟨_, _, _, _, _, _, _, _, _, _, _, _, _, _, _, xL_PollError, rfl⟩, sa_PollError, eC_PollError, tC_PollError, kC_PollError⟩
  have ox_BadPoll : OexC K C_BadPoll := ⟨⟨_, _, _, _, _, _, _, _, _, _, _, _, _, _, _, xL_BadPoll, rfl⟩, sa_BadPoll, eC_BadPoll, tC_BadPoll, kC_BadPoll⟩
  let T : Txt K mg := {
    f_PollError_init := _, fd_PollError_init := _, F_PollError_init := F_PollError_init, gkb_PollError_init_2 := _, kb_PollError_init_2 := kb_PollError_init_2,
    f_is_whole := _, fd_is_whole := _, F_is_whole := F_is_whole, b_is_whole := b_is_whole, g_is_whole := PySem.W.mg_of X G a_is_whole,
    f_is_name := _, fd_is_name := _, F_is_name := F_is_name, b_is_name := b_is_name, g_is_name := PySem.W.mg_of X G a_is_name,
    f_is_tuple_of := _, fd_is_tuple_of := _, F_is_tuple_of := F_is_tuple_of, b_is_tuple_of := b_is_tuple_of, g_is_tuple_of := PySem.W.mg_of X G a_is_tuple_of,
    f_are_names := _, fd_are_names := _, F_are_names := F_are_names, b_are_names := b_are_names, g_are_names := PySem.W.mg_of X G a_are_names,
    f_are_options := _, fd_are_options := _, F_are_options := F_are_options, b_are_options := b_are_options, g_are_options := PySem.W.mg_of X G a_are_options,
    f_is_option := _, fd_is_option := _, F_is_option := F_is_option, b_is_option := b_is_option, g_is_option := PySem.W.mg_of X G a_is_option,
    f_are_unlike_options := _, fd_are_unlike_options := _, F_are_unlike_options := F_are_unlike_options, b_are_unlike_options := b_are_unlike_options, g_are_unlike_options := PySem.W.mg_of X G a_are_unlike_options,
    f_is_mark := _, fd_is_mark := _, F_is_mark := F_is_mark, b_is_mark := b_is_mark, g_is_mark := PySem.W.mg_of X G a_is_mark,
    f_are_tiers := _, fd_are_tiers := _, F_are_tiers := F_are_tiers, b_are_tiers := b_are_tiers, g_are_tiers := PySem.W.mg_of X G a_are_tiers,
    f_are_marks := _, fd_are_marks := _, F_are_marks := F_are_marks, b_are_marks := b_are_marks, g_are_marks := PySem.W.mg_of X G a_are_marks,
    f_is_ballot := _, fd_is_ballot := _, F_is_ballot := F_is_ballot, b_is_ballot := b_is_ballot, g_is_ballot := PySem.W.mg_of X G a_is_ballot,
    f_is_row := _, fd_is_row := _, F_is_row := F_is_row, b_is_row := b_is_row, g_is_row := PySem.W.mg_of X G a_is_row,
    f_check_poll := _, fd_check_poll := _, F_check_poll := F_check_poll, b_check_poll := b_check_poll, gkb_check_poll_2 := _, kb_check_poll_2 := kb_check_poll_2, g_check_poll := PySem.W.mg_of X G a_check_poll,
    f_Poll_init := _, fd_Poll_init := _, e_Poll_init := _, F_Poll_init := F_Poll_init, gkb_Poll_init_3 := _, kb_Poll_init_3 := kb_Poll_init_3,
    f_order_ranks := _, fd_order_ranks := _, F_order_ranks := F_order_ranks, b_order_ranks := b_order_ranks, g_order_ranks := PySem.W.mg_of X G a_order_ranks,
    f_ranks := _, fd_ranks := _, F_ranks := F_ranks, b_ranks := b_ranks, g_ranks := PySem.W.mg_of X G a_ranks,
    f_tiers := _, fd_tiers := _, F_tiers := F_tiers, b_tiers := b_tiers, g_tiers := PySem.W.mg_of X G a_tiers,
    f_ranked := _, fd_ranked := _, F_ranked := F_ranked, b_ranked := b_ranked, g_ranked := PySem.W.mg_of X G a_ranked,
    f_margin_by := _, fd_margin_by := _, F_margin_by := F_margin_by, b_margin_by := b_margin_by, g_margin_by := PySem.W.mg_of X G a_margin_by,
    f_margins := _, fd_margins := _, F_margins := F_margins, b_margins := b_margins, g_margins := PySem.W.mg_of X G a_margins,
    f_others_than := _, fd_others_than := _, F_others_than := F_others_than, b_others_than := b_others_than, g_others_than := PySem.W.mg_of X G a_others_than,
    f_leader := _, fd_leader := _, F_leader := F_leader, b_leader := b_leader, g_leader := PySem.W.mg_of X G a_leader,
    f_trailer := _, fd_trailer := _, F_trailer := F_trailer, b_trailer := b_trailer, g_trailer := PySem.W.mg_of X G a_trailer,
    f_unlost_ways := _, fd_unlost_ways := _, F_unlost_ways := F_unlost_ways, b_unlost_ways := b_unlost_ways, g_unlost_ways := PySem.W.mg_of X G a_unlost_ways,
    f_top_lot := _, fd_top_lot := _, F_top_lot := F_top_lot, b_top_lot := b_top_lot, g_top_lot := PySem.W.mg_of X G a_top_lot,
    f_is_order := _, fd_is_order := _, F_is_order := F_is_order, b_is_order := b_is_order, g_is_order := PySem.W.mg_of X G a_is_order,
    f_check_order := _, fd_check_order := _, F_check_order := F_check_order, b_check_order := b_check_order, g_check_order := PySem.W.mg_of X G a_check_order,
    f_order_of_ties := _, fd_order_of_ties := _, F_order_of_ties := F_order_of_ties, b_order_of_ties := b_order_of_ties, g_order_of_ties := PySem.W.mg_of X G a_order_of_ties,
    f_led_to := _, fd_led_to := _, F_led_to := F_led_to, b_led_to := b_led_to, g_led_to := PySem.W.mg_of X G a_led_to,
    f_kept_pairs := _, fd_kept_pairs := _, F_kept_pairs := F_kept_pairs, b_kept_pairs := b_kept_pairs, g_kept_pairs := PySem.W.mg_of X G a_kept_pairs,
    f_pairs_order := _, fd_pairs_order := _, e_pairs_order := _, es_pairs_order := fun _ => .inr ⟨_, _, _, le_pairs_order, rfl, rfl, (by decide), .nil⟩, et_pairs_order := fun _ => .kTuple le_pairs_order rfl, F_pairs_order := F_pairs_order, gkb_pairs_order_1 := _, kb_pairs_order_1 := kb_pairs_order_1, gkb_pairs_order_1_ties := _, kb_pairs_order_1_ties := kb_pairs_order_1_ties, g_pairs_order := PySem.W.mg_of X G a_pairs_order,
    f_stands_ahead := _, fd_stands_ahead := _, F_stands_ahead := F_stands_ahead, b_stands_ahead := b_stands_ahead, g_stands_ahead := PySem.W.mg_of X G a_stands_ahead,
    f_shows_stands := _, fd_shows_stands := _, F_shows_stands := F_shows_stands, b_shows_stands := b_shows_stands, g_shows_stands := PySem.W.mg_of X G a_shows_stands,
    f_law_cell_at := _, fd_law_cell_at := _, F_law_cell_at := F_law_cell_at, b_law_cell_at := b_law_cell_at, g_law_cell_at := PySem.W.mg_of X G a_law_cell_at,
    f_law_well := _, fd_law_well := _, F_law_well := F_law_well, b_law_well := b_law_well, g_law_well := PySem.W.mg_of X G a_law_well,
    f_law_draw := _, fd_law_draw := _, F_law_draw := F_law_draw, b_law_draw := b_law_draw, g_law_draw := PySem.W.mg_of X G a_law_draw,
    f_law_one := _, fd_law_one := _, F_law_one := F_law_one, b_law_one := b_law_one, g_law_one := PySem.W.mg_of X G a_law_one,
    f_law_shuffled := _, fd_law_shuffled := _, F_law_shuffled := F_law_shuffled, b_law_shuffled := b_law_shuffled, g_law_shuffled := PySem.W.mg_of X G a_law_shuffled,
    f_law_names := _, fd_law_names := _, F_law_names := F_law_names, b_law_names := b_law_names, g_law_names := PySem.W.mg_of X G a_law_names,
    f_law_ballot := _, fd_law_ballot := _, F_law_ballot := F_law_ballot, b_law_ballot := b_law_ballot, g_law_ballot := PySem.W.mg_of X G a_law_ballot,
    f_law_parts := _, fd_law_parts := _, F_law_parts := F_law_parts, b_law_parts := b_law_parts, g_law_parts := PySem.W.mg_of X G a_law_parts,
    f_law_orders := _, fd_law_orders := _, F_law_orders := F_law_orders, b_law_orders := b_law_orders, g_law_orders := PySem.W.mg_of X G a_law_orders,
    f_law_turned := _, fd_law_turned := _, F_law_turned := F_law_turned, b_law_turned := b_law_turned, g_law_turned := PySem.W.mg_of X G a_law_turned,
    f_law_standing_right := _, fd_law_standing_right := _, F_law_standing_right := F_law_standing_right, b_law_standing_right := b_law_standing_right, g_law_standing_right := PySem.W.mg_of X G a_law_standing_right,
    f_law := _, fd_law := _, F_law := F_law, b_law := b_law, g_law := PySem.W.mg_of X G a_law,
    C_PollError := _, k_PollError := PySem.W.mg_of X G aC_PollError,
    ox_PollError := ox_PollError, ex_PollError := exK_ve ox_PollError ai_PollError ti_PollError,
    xf_PollError := ⟨gt_PollError, gg_PollError, eC_PollError, hC_PollError⟩,
    nf_PollError_why := nf_PollError_why,
    rd_PollError := rd_PollError, ga_PollError := ga_PollError, fc_PollError_init := fc_PollError_init,
    C_BadPoll := _, k_BadPoll := PySem.W.mg_of X G aC_BadPoll,
    ox_BadPoll := ox_BadPoll, ex_BadPoll := exK_ve ox_BadPoll ai_BadPoll ti_BadPoll,
    xf_BadPoll := ⟨gt_BadPoll, gg_BadPoll, eC_BadPoll, hC_BadPoll⟩,
    nf_BadPoll_why := nf_BadPoll_why,
    C_Poll := _, k_Poll := PySem.W.mg_of X G aC_Poll,
    cl_Poll := ⟨pg_Poll, hd_Poll, po_Poll, sa_Poll⟩, mk_Poll := ⟨mk_Poll, ai_Poll, ii_Poll, kc_Poll⟩,
    n_Poll_options := n_Poll_options,
    n_Poll_voices := n_Poll_voices,
    tc_kept_pairs := _, tp_kept_pairs := _, co_kept_pairs := kd_kept_pairs, tt_kept_pairs := tt_kept_pairs, np_kept_pairs := np_kept_pairs,
    vV := vV,
    z_ValueError := PySem.W.mg_none_of X G z_ValueError,
    z_isinstance := PySem.W.mg_none_of X G z_isinstance,
    z_bool := PySem.W.mg_none_of X G z_bool,
    z_int := PySem.W.mg_none_of X G z_int,
    z_str := PySem.W.mg_none_of X G z_str,
    z_len := PySem.W.mg_none_of X G z_len,
    z_all := PySem.W.mg_none_of X G z_all,
    z_tuple := PySem.W.mg_none_of X G z_tuple,
    z_enumerate := PySem.W.mg_none_of X G z_enumerate,
    z_sorted := PySem.W.mg_none_of X G z_sorted,
    z_set := PySem.W.mg_none_of X G z_set,
    z_list := PySem.W.mg_none_of X G z_list,
    z_any := PySem.W.mg_none_of X G z_any,
    z_range := PySem.W.mg_none_of X G z_range,
    z_min := PySem.W.mg_none_of X G z_min,
    z_max := PySem.W.mg_none_of X G z_max,
    t_LONGEST_NAME := t_LONGEST_NAME, c_LONGEST_NAME := PySem.W.mg_of X G cc_LONGEST_NAME,
    t_MOST_OPTIONS := t_MOST_OPTIONS, c_MOST_OPTIONS := PySem.W.mg_of X G cc_MOST_OPTIONS,
    t_GREATEST_MARK := t_GREATEST_MARK, c_GREATEST_MARK := PySem.W.mg_of X G cc_GREATEST_MARK,
    t_MOST_VOICES := t_MOST_VOICES, c_MOST_VOICES := PySem.W.mg_of X G cc_MOST_VOICES,
    t_MOST_ROWS := t_MOST_ROWS, c_MOST_ROWS := PySem.W.mg_of X G cc_MOST_ROWS }
  refine ⟨PySem.W.fnOf "law" "law" (defArgs s_law) (defBody s_law) (defScope s_law) .none kV_law dc_law pm_law an_law cd_law ct_law, T.tabs, fun t ht => ?_, fun s v => .of_eq rfl, fun base _ _ tb => ok_law T tb⟩
  have ht : t ∈ [(("kept_pairs" : Str), tc_kept_pairs, tp_kept_pairs)] := ht
  simp only [List.mem_cons, List.not_mem_nil, or_false] at ht
  rcases ht with rfl
  · exact ⟨rc_kept_pairs, tt_kept_pairs, np_kept_pairs⟩
end Own
open PySem PySem.W PyProof.Rows
set_option maxHeartbeats 0 in
theorem PySem.Challenge.cw_voicefold_k46_whole_orders_that_stand_ha_holds : PySem.Challenge.rw_voicefold_k46_whole_orders_that_stand_ha.Holds := by
  w_on; o_law; k_head; (case hw => w_witness2)
  k_fill
  refine Own.lam_walk (l := PySem.Challenge.rw_voicefold_k46_whole_orders_that_stand_ha) (n := 63) (k := 10) (x := "_law_script") (sp := Own.sp_law) rfl (by decide) rfl ⟨rfl, by decide, by decide⟩ (fun w h Y => PySem.W.km_in_of Y) ?F (fun _ cs _ a ns hl hT hS => ⟨a, ns, rfl, hS, hl, hT, fun _ => rfl⟩)
  case F =>
    intro w mg fa h KX G hmg
    refine' Own.all_mk KX G hmg ?lt_PollError_init ?l_PollError_init ?c_PollError_init ?k_PollError_init ?a_is_whole ?l_is_whole ?c_is_whole ?k_is_whole ?a_is_name ?l_is_name ?c_is_name ?k_is_name ?a_is_tuple_of ?l_is_tuple_of ?c_is_tuple_of ?k_is_tuple_of ?a_are_names ?l_are_names ?c_are_names ?k_are_names ?a_are_options ?l_are_options ?c_are_options ?k_are_options ?a_is_option ?l_is_option ?c_is_option ?k_is_option ?a_are_unlike_options ?l_are_unlike_options ?c_are_unlike_options ?k_are_unlike_options ?a_is_mark ?l_is_mark ?c_is_mark ?k_is_mark ?a_are_tiers ?l_are_tiers ?c_are_tiers ?k_are_tiers ?a_are_marks ?l_are_marks ?c_are_marks ?k_are_marks ?a_is_ballot ?l_is_ballot ?c_is_ballot ?k_is_ballot ?a_is_row ?l_is_row ?c_is_row ?k_is_row ?a_check_poll ?l_check_poll ?c_check_poll ?k_check_poll ?lt_Poll_init ?l_Poll_init ?c_Poll_init ?k_Poll_init ?a_order_ranks ?l_order_ranks ?c_order_ranks ?k_order_ranks ?a_ranks ?l_ranks ?c_ranks ?k_ranks ?a_tiers ?l_tiers ?c_tiers ?k_tiers ?a_ranked ?l_ranked ?c_ranked ?k_ranked ?a_margin_by ?l_margin_by ?c_margin_by ?k_margin_by ?a_margins ?l_margins ?c_margins ?k_margins ?a_others_than ?l_others_than ?c_others_than ?k_others_than ?a_leader ?l_leader ?c_leader ?k_leader ?a_trailer ?l_trailer ?c_trailer ?k_trailer ?a_unlost_ways ?l_unlost_ways ?c_unlost_ways ?k_unlost_ways ?a_top_lot ?l_top_lot ?c_top_lot ?k_top_lot ?a_is_order ?l_is_order ?c_is_order ?k_is_order ?a_check_order ?l_check_order ?c_check_order ?k_check_order ?a_order_of_ties ?l_order_of_ties ?c_order_of_ties ?k_order_of_ties ?a_led_to ?l_led_to ?c_led_to ?k_led_to ?a_kept_pairs ?l_kept_pairs ?c_kept_pairs ?k_kept_pairs ?a_pairs_order ?l_pairs_order ?nk_pairs_order_ties ?le_pairs_order ?c_pairs_order ?k_pairs_order ?a_stands_ahead ?l_stands_ahead ?c_stands_ahead ?k_stands_ahead ?a_shows_stands ?l_shows_stands ?c_shows_stands ?k_shows_stands ?a_law_cell_at ?l_law_cell_at ?c_law_cell_at ?k_law_cell_at ?a_law_well ?l_law_well ?c_law_well ?k_law_well ?a_law_draw ?l_law_draw ?c_law_draw ?k_law_draw ?a_law_one ?l_law_one ?c_law_one ?k_law_one ?a_law_shuffled ?l_law_shuffled ?c_law_shuffled ?k_law_shuffled ?a_law_names ?l_law_names ?c_law_names ?k_law_names ?a_law_ballot ?l_law_ballot ?c_law_ballot ?k_law_ballot ?a_law_parts ?l_law_parts ?c_law_parts ?k_law_parts ?a_law_orders ?l_law_orders ?c_law_orders ?k_law_orders ?a_law_turned ?l_law_turned ?c_law_turned ?k_law_turned ?a_law_standing_right ?l_law_standing_right ?c_law_standing_right ?k_law_standing_right ?a_law ?l_law ?c_law ?k_law ?aC_PollError ?xL_PollError ?sa_PollError ?gt_PollError ?gg_PollError ?ai_PollError ?ti_PollError ?kC_PollError ?eC_PollError ?tC_PollError ?hC_PollError ?nf_PollError_why ?rd_PollError ?ga_PollError ?fc_PollError_init ?aC_BadPoll ?xL_BadPoll ?sa_BadPoll ?gt_BadPoll ?gg_BadPoll ?ai_BadPoll ?ti_BadPoll ?kC_BadPoll ?eC_BadPoll ?tC_BadPoll ?hC_BadPoll ?nf_BadPoll_why ?aC_Poll ?pg_Poll ?hd_Poll ?po_Poll ?sa_Poll ?mk_Poll ?kc_Poll ?ai_Poll ?ii_Poll ?n_Poll_options ?n_Poll_voices ?kd_kept_pairs ?lc_kept_pairs ?vp_kept_pairs ?np_kept_pairs ?rc_kept_pairs ?vV ?z_ValueError ?z_isinstance ?z_bool ?z_int ?z_str ?z_len ?z_all ?z_tuple ?z_enumerate ?z_sorted ?z_set ?z_list ?z_any ?z_range ?z_min ?z_max ?cc_LONGEST_NAME ?cc_MOST_OPTIONS ?cc_GREATEST_MARK ?cc_MOST_VOICES ?cc_MOST_ROWS
    (case a_is_whole => k_is); (case a_is_name => k_is); (case a_is_tuple_of => k_is); (case a_are_names => k_is); (case a_are_options => k_is); (case a_is_option => k_is); (case a_are_unlike_options => k_is); (case a_is_mark => k_is); (case a_are_tiers => k_is); (case a_are_marks => k_is); (case a_is_ballot => k_is); (case a_is_row => k_is); (case a_check_poll => k_is); (case a_order_ranks => k_is); (case a_ranks => k_is); (case a_tiers => k_is); (case a_ranked => k_is); (case a_margin_by => k_is); (case a_margins => k_is); (case a_others_than => k_is); (case a_leader => k_is); (case a_trailer => k_is); (case a_unlost_ways => k_is); (case a_top_lot => k_is); (case a_is_order => k_is); (case a_check_order => k_is); (case a_order_of_ties => k_is); (case a_led_to => k_is); (case a_kept_pairs => k_is); (case a_pairs_order => k_is); (case a_stands_ahead => k_is); (case a_shows_stands => k_is); (case a_law_cell_at => k_is); (case a_law_well => k_is); (case a_law_draw => k_is); (case a_law_one => k_is); (case a_law_shuffled => k_is); (case a_law_names => k_is); (case a_law_ballot => k_is); (case a_law_parts => k_is); (case a_law_orders => k_is); (case a_law_turned => k_is); (case a_law_standing_right => k_is); (case a_law => k_is); (case aC_PollError => k_is); (case aC_BadPoll => k_is); (case aC_Poll => k_is); (case cc_LONGEST_NAME => k_is); (case cc_MOST_OPTIONS => k_is); (case cc_GREATEST_MARK => k_is); (case cc_MOST_VOICES => k_is); (case cc_MOST_ROWS => k_is); (case ai_PollError => k_is); (case ai_BadPoll => k_is); (case ai_Poll => k_is); (case l_PollError_init => k_is); (case l_is_whole => k_is); (case l_is_name => k_is); (case l_is_tuple_of => k_is); (case l_are_names => k_is); (case l_are_options => k_is); (case l_is_option => k_is); (case l_are_unlike_options => k_is); (case l_is_mark => k_is); (case l_are_tiers => k_is); (case l_are_marks => k_is); (case l_is_ballot => k_is); (case l_is_row => k_is); (case l_check_poll => k_is); (case l_Poll_init => k_is); (case l_order_ranks => k_is); (case l_ranks => k_is); (case l_tiers => k_is); (case l_ranked => k_is); (case l_margin_by => k_is); (case l_margins => k_is); (case l_others_than => k_is); (case l_leader => k_is); (case l_trailer => k_is); (case l_unlost_ways => k_is); (case l_top_lot => k_is); (case l_is_order => k_is); (case l_check_order => k_is); (case l_order_of_ties => k_is); (case l_led_to => k_is); (case l_kept_pairs => k_is); (case l_pairs_order => k_is); (case l_stands_ahead => k_is); (case l_shows_stands => k_is); (case l_law_cell_at => k_is); (case l_law_well => k_is); (case l_law_draw => k_is); (case l_law_one => k_is); (case l_law_shuffled => k_is); (case l_law_names => k_is); (case l_law_ballot => k_is); (case l_law_parts => k_is); (case l_law_orders => k_is); (case l_law_turned => k_is); (case l_law_standing_right => k_is); (case l_law => k_is); (case xL_PollError => k_is); (case xL_BadPoll => k_is); (case lt_PollError_init => k_is); (case lt_Poll_init => k_is); (case c_PollError_init => k_is); (case k_PollError_init => k_is); (case c_is_whole => k_is); (case k_is_whole => k_is); (case c_is_name => k_is); (case k_is_name => k_is); (case c_is_tuple_of => k_is); (case k_is_tuple_of => k_is); (case c_are_names => k_is); (case k_are_names => k_is); (case c_are_options => k_is); (case k_are_options => k_is); (case c_is_option => k_is); (case k_is_option => k_is); (case c_are_unlike_options => k_is); (case k_are_unlike_options => k_is); (case c_is_mark => k_is); (case k_is_mark => k_is); (case c_are_tiers => k_is); (case k_are_tiers => k_is); (case c_are_marks => k_is); (case k_are_marks => k_is); (case c_is_ballot => k_is); (case k_is_ballot => k_is); (case c_is_row => k_is); (case k_is_row => k_is); (case c_check_poll => k_is); (case k_check_poll => k_is); (case c_Poll_init => k_is); (case k_Poll_init => k_is); (case c_order_ranks => k_is); (case k_order_ranks => k_is); (case c_ranks => k_is); (case k_ranks => k_is); (case c_tiers => k_is); (case k_tiers => k_is); (case c_ranked => k_is); (case k_ranked => k_is); (case c_margin_by => k_is); (case k_margin_by => k_is); (case c_margins => k_is); (case k_margins => k_is); (case c_others_than => k_is); (case k_others_than => k_is); (case c_leader => k_is); (case k_leader => k_is); (case c_trailer => k_is); (case k_trailer => k_is); (case c_unlost_ways => k_is); (case k_unlost_ways => k_is); (case c_top_lot => k_is); (case k_top_lot => k_is); (case c_is_order => k_is); (case k_is_order => k_is); (case c_check_order => k_is); (case k_check_order => k_is); (case c_order_of_ties => k_is); (case k_order_of_ties => k_is); (case c_led_to => k_is); (case k_led_to => k_is); (case c_kept_pairs => k_is); (case k_kept_pairs => k_is); (case nk_pairs_order_ties => k_is); (case le_pairs_order => k_is); (case c_pairs_order => k_is); (case k_pairs_order => k_is); (case c_stands_ahead => k_is); (case k_stands_ahead => k_is); (case c_shows_stands => k_is); (case k_shows_stands => k_is); (case c_law_cell_at => k_is); (case k_law_cell_at => k_is); (case c_law_well => k_is); (case k_law_well => k_is); (case c_law_draw => k_is); (case k_law_draw => k_is); (case c_law_one => k_is); (case k_law_one => k_is); (case c_law_shuffled => k_is); (case k_law_shuffled => k_is); (case c_law_names => k_is); (case k_law_names => k_is); (case c_law_ballot => k_is); (case k_law_ballot => k_is); (case c_law_parts => k_is); (case k_law_parts => k_is); (case c_law_orders => k_is); (case k_law_orders => k_is); (case c_law_turned => k_is); (case k_law_turned => k_is); (case c_law_standing_right => k_is); (case k_law_standing_right => k_is); (case c_law => k_is); (case k_law => k_is); (case sa_PollError => k_is); (case gt_PollError => k_is); (case gg_PollError => k_is); (case ti_PollError => k_is); (case kC_PollError => k_is); (case eC_PollError => k_is); (case tC_PollError => k_is); (case hC_PollError => k_is); (case nf_PollError_why => first | k_is | rfl | decide +kernel); (case rd_PollError => k_is); (case ga_PollError => k_is); (case fc_PollError_init => first | k_is | rfl | decide +kernel); (case sa_BadPoll => k_is); (case gt_BadPoll => k_is); (case gg_BadPoll => k_is); (case ti_BadPoll => k_is); (case kC_BadPoll => k_is); (case eC_BadPoll => k_is); (case tC_BadPoll => k_is); (case hC_BadPoll => k_is); (case nf_BadPoll_why => first | k_is | rfl | decide +kernel); (case pg_Poll => k_is); (case hd_Poll => k_is); (case po_Poll => k_is); (case sa_Poll => k_is); (case mk_Poll => k_is); (case kc_Poll => k_is); (case ii_Poll => k_is); (case n_Poll_options => k_is); (case n_Poll_voices => k_is); (case kd_kept_pairs => first | rfl | k_is); (case lc_kept_pairs => k_is); (case vp_kept_pairs => first | rfl | k_is); (case np_kept_pairs => first | k_is | rfl | decide +kernel); (case rc_kept_pairs => exact ⟨_, rfl⟩); (case vV => first | k_is | rfl | decide +kernel); (case z_ValueError => k_is); (case z_isinstance => k_is); (case z_bool => k_is); (case z_int => k_is); (case z_str => k_is); (case z_len => k_is); (case z_all => k_is); (case z_tuple => k_is); (case z_enumerate => k_is); (case z_sorted => k_is); (case z_set => k_is); (case z_list => k_is); (case z_any => k_is); (case z_range => k_is); (case z_min => k_is); (case z_max => k_is)
