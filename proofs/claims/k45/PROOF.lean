import PyProof.Rows.All
import Wide.All
import OpenK.AllK
import Wide.FinOn
import HandS.ForMost
import HandS.Wide
import HandS.IsInst
import HandS.Style
import HandS.Walk
import HandS.LawCells
import HandS.TupAny
import HandS.Deep
import HandS.Strs
import HandS.DictComp
import HandS.More
import HandS.CallLocal
import HandS.TryOnly
import HandS.Lambda
import HandS.EndBits
import HandS.EndTab
import HandS.ForExc
import HandS.Defaults
import HandS.ExcInit
import HandS.CallSlots
import HandS.ExcIs
import HandS.ExcField
import HandS.MakeKw
import HandS.Base
import HandS.Dict
import HandS.Zip
import HandS.ListItems
import HandS.OwnEq
import HandS.SetFor
import HandS.Conv
import KE.KDictPairs
import KE.KDictZip
import PyProof.WalksS
import KE.DataMinKey
import PyProof.SeqRoads2
import KE.KSortTupG
import PySem.Challenge.RW_voicefold_k45_whole_ways_hang_together
set_option Elab.async false
set_option linter.all false
set_option maxRecDepth 100000
set_option maxHeartbeats 4000000
/-! Own rules: exceptions of own classes made with keywords, in any place; calls with keywords that may raise. -/
namespace PySem
set_option genInjectivity false
set_option genSizeOf false
namespace OwnK
open PySem.W PySem.Calls PyProof.Rows PySem.HandSPX
section
variable {M : Model} {A : Around} {E : Value → Shared → Prop} {h : Heap} {g : Array GenState} {d : Drawn} {t : Nat} {os : OsState}
variable {nm q : Str} {C N : Addr} {bs bm bmB : List Value} {hd : Bool} {sn : List Str} {sub : List Value} {ab : Bool} {col : Option Bool} {dd : Option Addr} {k0 k1 k2 k3 k5 : Option Value} {B newId initId : String}
/-- the look ahead of the base's __new__, keywords or none -/
theorem newLook (F : ExcBaseFacts B newId initId bmB) (hT : bm.contains (.type B) = true ∧ bm.contains (.type "AttributeError") = false ∧ bm.contains (.type "NameError") = false) {rest : List Value} {kw : List (Str × Value)} {Q : Unit → Shared → Prop}
    (hC : h.get? C = some (excClassObj nm q C N bs bm hd sn sub ab col dd k0 k1 k2 k3 k5 newId)) (z : Q () ⟨h, g, d, t, os⟩) : wpAny M A (checkBuiltinCall newId ⟨.ref C :: rest, kw⟩) Q E ⟨h, g, d, t, os⟩ := by
  have hB : (Value.ref C :: bm).contains (.type B) = true := by
    rw [List.contains_cons, hT.1]
    exact Bool.or_true _
  have st := F.noStar
  simp only [checkBuiltinCall, F.newKind, F.newSplit, F.newRow]
  repeat (first
    | refine wpAny_loadPart_at hC ?_
    | (refine wpAny_isSubtype_exc hC ?_; rw [hB])
    | refine wpAny_staticBase_exc hC ?_
    | refine wpAny_madeBy_exc hC ?_
    | simp only [bne_self_eq_false, Bool.false_eq_true, if_false]
    | wp_step)
  exact z
end
section
variable {prog : Program} {w : World} {A : Around} {E : Value → Shared → Prop} {R : Result → Shared → Prop} {h : Heap} {g : Array GenState} {d : Drawn} {t : Nat} {os : OsState}
variable {nm q : Str} {C N : Addr} {bs bm bmB : List Value} {hd : Bool} {sn : List Str} {sub : List Value} {ab : Bool} {col : Option Bool} {dd : Option Addr} {k0 k1 k2 k3 k5 : Option Value} {B newId initId : String}
theorem newRun (F : ExcBaseFacts B newId initId bmB) (hT : bm.contains (.type B) = true ∧ bm.contains (.type "AttributeError") = false ∧ bm.contains (.type "NameError") = false) {rest : List Value} {kw : List (Str × Value)}
    (hC : h.get? C = some (excClassObj nm q C N bs bm hd sn sub ab col dd k0 k1 k2 k3 k5 newId))
    (z : R (.ok (.ret (.ref (h.objs.size + 1)))) ⟨(h.push (kdv_tup rest)).push (excO C h.objs.size), g, d, t, os⟩) (hr : rest.length ≤ sizeLine) :
    codeAny (model prog w) A (.builtin newId ⟨.ref C :: rest, kw⟩) R ⟨h, g, d, t, os⟩ := by
  have en := F.ends
  have hB : (Value.ref C :: bm).contains (.type B) = true := by
    rw [List.contains_cons, hT.1]
    exact Bool.or_true _
  have hA : (Value.ref C :: bm).contains (.type "AttributeError") = false := by
    rw [List.contains_cons, hT.2.1] <;> rfl
  have hN : (Value.ref C :: bm).contains (.type "NameError") = false := by
    rw [List.contains_cons, hT.2.2] <;> rfl
  refine codeAny_builtinAt F.entry ?_
  unfold Builtin.«BaseException.__new__»
  refine wpAt_bind ?_
  show wpAt _ _ _ (stack >>= _) _ _ _
  refine wpAt_bind (wpAt_stack fun p below => wpAt_of_wpAny ?_)
  wp_walk
  refine wpAt_of_wpAny ?_
  rw [F.owner]
  repeat (first
    | with_reducible refine wpAny_madeHere_exc F.canon hC ?_
    | with_reducible refine wpAny_loadPart_at hC ?_
    | (with_reducible refine wpAny_isSubtype_exc hC ?_; first | rw [hB] | rw [hA] | rw [hN])
    | wp_step)
  show R _ _
  rw [Heap.size_push]
  exact z
/-- the base's type.__call__, then the own __init__ -/
theorem typeCallRun (F : ExcBaseFacts B newId initId bmB) (hT : bm.contains (.type B) = true ∧ bm.contains (.type "AttributeError") = false ∧ bm.contains (.type "NameError") = false) {rest : List Value} {kw : List (Str × Value)} {fI : Addr} {Q : Fin → Shared → Prop}
    (hC : h.get? C = some (excClassObj nm q C N bs bm hd sn sub ab col dd k0 k1 k2 k3 k5 newId))
    (hi : Looks (model prog w) h (typeLookup (.ref C) "__init__") (some (.ref fI))) (hb : ∀ self, Looks (model prog w) h (bindSpecial (.ref fI) self) (.ref fI, [self])) (hr : rest.length ≤ sizeLine)
    (z : codeAny (model prog w) A (.call (.ref fI) ⟨.ref (h.objs.size + 1) :: rest, kw⟩)
      (fun r s' => match r with | .ok (.ret v) => v = .none ∧ Q (.done (.ret (.ref (h.objs.size + 1)))) s' | .ok _ => False | .error e => E e s')
      ⟨(h.push (kdv_tup rest)).push (excO C h.objs.size), g, d, t, os⟩) :
    wpAny (model prog w) A (Builtin.«type.__call__» ⟨.ref C :: rest, kw⟩) Q E ⟨h, g, d, t, os⟩ := by
  repeat (first
    | with_reducible refine wpAny_loadPart_at hC ?_
    | with_reducible refine wpAny_madeBy_exc hC ?_
    | wp_step)
  refine codeAny_call_builtin_code (Code.quiet_builtin _ F.quiet) (newLook F hT hC ?_)
  refine newRun F hT hC ?_ hr
  show wpAny _ _ _ _ _ _
  have kk : ∀ b o, h.get? b = some o → ((h.push (kdv_tup rest)).push (excO C h.objs.size)).get? b = some o := fun b o e => Heap.get?_push_of_some _ (Heap.get?_push_of_some _ e)
  have hC1 := kk _ _ hC
  have hx : ((h.push (kdv_tup rest)).push (excO C h.objs.size)).get? (h.objs.size + 1) = some (excO C h.objs.size) := by heap_get
  have hs : (Value.ref C :: bm).contains (.ref C) = true := by simp
  have i1 := hi.keeps kk
  have b1 := (hb (.ref (h.objs.size + 1))).keeps kk
  unfold isInstance
  repeat (first
    | with_reducible refine wpAny_loadPart_at hx ?_
    | (with_reducible refine wpAny_isSubtype_exc hC1 ?_; rw [hs])
    | wp_step)
  show wpAny _ _ (typeLookup (.ref C) _) _ _ _
  refine i1.at (wpAny_holding (wpAny_bind (b1.at ?_)))
  refine wpAny_bind (wpAny_call (codeAny_mono z fun r s' y => ?_))
  rcases r with e | fl
  · exact y
  cases fl with
  | ret v =>
    obtain ⟨rfl, y⟩ := y
    first
    | exact wpAny_pure (wpAny_pure y)
    | (wp_walk; exact y)
  | next => exact y.elim
  | brk => exact y.elim
  | cont => exact y.elim
theorem excCall (F : ExcBaseFacts B newId initId bmB) (hT : bm.contains (.type B) = true ∧ bm.contains (.type "AttributeError") = false ∧ bm.contains (.type "NameError") = false) {rest : List Value} {kw : List (Str × Value)} {fI : Addr}
    (hC : h.get? C = some (excClassObj nm q C N bs bm hd sn sub ab col dd k0 k1 k2 k3 k5 newId))
    (hi : Looks (model prog w) h (typeLookup (.ref C) "__init__") (some (.ref fI))) (hb : ∀ self, Looks (model prog w) h (bindSpecial (.ref fI) self) (.ref fI, [self])) (hr : rest.length ≤ sizeLine)
    (z : codeAny (model prog w) (A.under (.builtin "type.__call__" ⟨.ref C :: rest, kw⟩)) (.call (.ref fI) ⟨.ref (h.objs.size + 1) :: rest, kw⟩) (InitBack (h.objs.size + 1) R)
      ⟨(h.push (kdv_tup rest)).push (excO C h.objs.size), g, d, t, os⟩) :
    codeAny (model prog w) A (.call (.ref C) ⟨rest, kw⟩) R ⟨h, g, d, t, os⟩ := by
  have f1 := tc_lookup
  have f2 := tc_bind (.ref C)
  have ty : (⟨h, g, d, t, os⟩ : Shared).TypeIs (.ref C) "type" := ⟨_, hC, rfl⟩
  refine codeAny_of_tree ?_
  show wpAny _ _ (callAny (.ref C) _) _ _ _
  repeat (any_goals (first
    | assumption
    | with_reducible refine wpAny_loadPart_at hC ?_
    | wp_step))
  refine ⟨rfl, ?_⟩
  have look : ∀ {Q : Unit → Shared → Prop} {E : Value → Shared → Prop} {A : Around}, Q () ⟨h, g, d, t, os⟩ → wpAny (model prog w) A (checkBuiltinCall "type.__call__" ⟨.ref C :: rest, kw⟩) Q E ⟨h, g, d, t, os⟩ := by
    intro Q E A hq
    have f3 := tc_sub
    simp only [checkBuiltinCall, tc_kind, tc_split]
    repeat (any_goals (first
      | assumption
      | with_reducible refine wpAny_loadPart_at hC ?_
      | with_reducible refine wpAny_onRaise ?_
      | with_reducible refine wpAny_map ?_
      | wp_step))
  refine codeAny_call_builtin_at (Code.quiet_builtin _ (by decide +kernel)) entry_typeCall (look (typeCallRun F hT hC hi hb hr ?_))
  refine codeAny_mono z fun r s' y => ?_
  rcases r with e | (v | _ | _ | _) <;> exact y
end
end OwnK
end PySem

namespace Own
open PySem PySem.Spec PyProof.Rows L2
/-! ### calls of any form: positional values and keywords bound by KBn; what is raised is wished for at the caller's slots -/
theorem at0 {X : Cx} (σ : L2.St) : PassesAt CX0 X σ E0 := fun _ _ _ _ _ _ z => z.elim
theorem atE {X : Cx} {W : WX} (tk : Takes X W) (σ : L2.St) : PassesAt (L2.CX X.prog X.w) X σ (WE W σ) := passAt tk σ
theorem atN {X : Cx} (σ : L2.St) : PassesAt (L2.CX X.prog X.w) X σ E0 := fun _ _ _ _ _ _ z => by
  obtain ⟨_, _, _, _, _, _, _, _, _, _, _, _, y⟩ := z
  exact y.elim
section
variable {X : Cx} {CX : CXT} {k n : Nat} {f C : Addr} {fd : FuncData} {ps ks : List Str} {sp : Sp} {E : L2.St → XK} {E1 : XK} {x m : Str} {p pos apos : Pos} {e o : Expr} {es : List Expr} {kws : List Keyword} {t tk : TA} {to : TE}
variable {g : List Value → List Value → List Value} {gV : List V → List V → List V} {pins : List (Addr × Obj)} {σ : L2.St} {H : Hp} {s : Shared} {Q : VK} {us ws : List Value} {vs zs : List V}
theorem runF (F : FnOk X.prog X.w X.K X.mg X.base CX k f fd ps sp) (hr : Room k X.A) (hb : KBn X.K fd ps n ks g gV) (hx : PassesAt CX X σ E1) (I : Inv X pins σ H s) (r : Vals vs us) (rz : Vals zs ws) (l1 : vs.length = n) (l2 : zs.length = ks.length)
    (h : sp (gV vs zs) H Q E1) : wpAny (model X.prog X.w) X.A (call (.ref f) us (ks.zip ws)) (EP X pins σ Q) X.xe s := by
  have b := hb.to s us ws I.kIn (r.length.symm.trans l1) (rz.length.symm.trans l2)
  refine wpAny_call (codeAny_mono (F.run X.A X.stack s H _ (g us ws) (gV vs zs) Q E1 hr I.env0 b (hb.rel r rz) h) fun r s' y => ?_)
  cases r with
  | error e => exact hx pins H s e s' I y
  | ok fl =>
    cases fl with
    | ret u => exact I.after y
    | next => exact y.elim
    | brk => exact y.elim
    | cont => exact y.elim
theorem runM (M : Mk X.K C f) (F : FnOk X.prog X.w X.K X.mg X.base CX k f fd ps sp) (hr : Room (k + 1) X.A) (hb : KBn X.K fd ps (n + 1) ks g gV) (hx : PassesAt CX X σ E1) (I : Inv X pins σ H s) (r : Vals vs us) (rz : Vals zs ws) (l1 : vs.length = n) (l2 : zs.length = ks.length)
    (h : ∀ a dx, H a = none → H dx = none → dx ≠ a → sp (gV (.ref a :: vs) zs) (upd (upd H dx (.own a)) a (.ins C dx [])) (fun v H2 => v = .non ∧ Q (.ref a) H2) E1) :
    wpAny (model X.prog X.w) X.A (call (.ref C) us (ks.zip ws)) (EP X pins σ Q) X.xe s := by
  have hq := h (s.heap.objs.size + 1) s.heap.objs.size (I.hok.fresh (Nat.le_succ _)) (I.hok.fresh (Nat.le_refl _)) (Nat.ne_of_lt (Nat.lt_succ_self _))
  have J := Inv.made (C := C) I
  have r1 : Vals (V.ref (s.heap.objs.size + 1) :: vs) (Value.ref (s.heap.objs.size + 1) :: us) := .cons rfl r
  have n1 : (Value.ref (s.heap.objs.size + 1) :: us).length = n + 1 := r1.length.symm.trans (congrArg Nat.succ l1)
  have b := hb.to _ (Value.ref (s.heap.objs.size + 1) :: us) ws J.kIn n1 (rz.length.symm.trans l2)
  refine wpAny_call (make_map (f := f) I.kIn M.makes M.init (beq_iff_eq.mp M.fn) (codeAny_mono (F.run _ X.stack _ _ _ _ _ _ E1 (hr.make C us (ks.zip ws)) (J.env0.make C us (ks.zip ws)) b (hb.rel r1 rz) hq) fun r s' y => ?_))
  cases r with
  | error e => exact hx pins _ _ e s' J y
  | ok fl =>
    cases fl with
    | ret u =>
      obtain ⟨v, H', I3, rv, ev, q3⟩ := J.after y
      subst ev
      exact ⟨rv, ⟨V.ref (s.heap.objs.size + 1), H', I3, rfl, q3⟩⟩
    | next => exact y.elim
    | brk => exact y.elim
    | cont => exact y.elim
/-- f(e, .., k = v, ..) -/
def tFn (n m : Nat) (sp : Sp) (gV : List V → List V → List V) (E : L2.St → XK) (t tk : TA) : TE := fun σ H Q => t σ H fun vs H1 => tk σ H1 fun zs H2 => vs.length = n ∧ zs.length = m ∧ sp (gV vs zs) H2 Q (E σ)
theorem pf_pos (F : FnOk X.prog X.w X.K X.mg X.base CX k f fd ps sp) (hr : Room k X.A) (hg : Gl X x) (hm : X.mg x = some (.ref f)) (hk : PySem.W.keepIn X.K (.ref f) = true) (hb : KBn X.K fd ps n [] g gV) (hx : ∀ σ, PassesAt CX X σ (E σ)) (ha : PA X (e :: es) t)
    (hdb : (x == ("__debug__" : Str)) = false := by decide) (he : starEach (e :: es) X.env = (false, eval e X.env) :: starEach es X.env := by rfl) (hpl : (backTo pos (starEach es X.env)).any (·.1) = false := by rfl) :
    PE X (.Call (.Name x p) (e :: es) [] pos) (tFn n 0 sp gV E t tNil) := by
  refine ⟨fun pins s σ H Q I h => wpAny_Call_Name_kw (ld_glob I hg hm ?_ hdb)⟩
  exact PySem.W.callWith_K (h₀ := X.base) I.ok.mod.kin hk (thn (ha.run pos pins s σ H _ I h) fun us s1 ⟨vs, H1, I1, r, l1, l2, q⟩ => ⟨I1.kIn, runF (ks := []) F hr hb (hx σ) I1 r (.nil : Vals [] []) l1 rfl q⟩) he hpl
/-- o.m(e, .., k = v, ..) -/
def tMt (C : Addr) (m : Str) (n j : Nat) (sp : Sp) (gV : List V → List V → List V) (E : L2.St → XK) (to : TE) (t tk : TA) : TE := fun σ H Q => to σ H fun x H0 => ∃ a dx fs, x = .ref a ∧ H0 a = some (.ins C dx fs) ∧ fs.lookup m = none ∧
  t σ H0 fun vs H1 => tk σ H1 fun zs H2 => vs.length = n ∧ zs.length = j ∧ sp (gV (.ref a :: vs) zs) H2 Q (E σ)
/-- C(e, .., k = v, ..) -/
def tMk (C : Addr) (n m : Nat) (sp : Sp) (gV : List V → List V → List V) (E : L2.St → XK) (t tk : TA) : TE := fun σ H Q => t σ H fun vs H1 => tk σ H1 fun zs H2 => vs.length = n ∧ zs.length = m ∧ ∀ a dx, H2 a = none → H2 dx = none → dx ≠ a →
  sp (gV (.ref a :: vs) zs) (upd (upd H2 dx (.own a)) a (.ins C dx [])) (fun v H3 => v = .non ∧ Q (.ref a) H3) (E σ)
theorem pc_pos (M : Mk X.K C f) (F : FnOk X.prog X.w X.K X.mg X.base CX k f fd ps sp) (hr : Room (k + 1) X.A) (hg : Gl X x) (hm : X.mg x = some (.ref C)) (hb : KBn X.K fd ps (n + 1) [] g gV) (hx : ∀ σ, PassesAt CX X σ (E σ)) (ha : PA X (e :: es) t)
    (hdb : (x == ("__debug__" : Str)) = false := by decide) (he : starEach (e :: es) X.env = (false, eval e X.env) :: starEach es X.env := by rfl) (hpl : (backTo pos (starEach es X.env)).any (·.1) = false := by rfl) :
    PE X (.Call (.Name x p) (e :: es) [] pos) (tMk C n 0 sp gV E t tNil) := by
  refine ⟨fun pins s σ H Q I h => wpAny_Call_Name_kw (ld_glob I hg hm ?_ hdb)⟩
  exact PySem.W.callWith_K (h₀ := X.base) I.ok.mod.kin M.kp (thn (ha.run pos pins s σ H _ I h) fun us s1 ⟨vs, H1, I1, r, l1, l2, q⟩ =>
    ⟨I1.kIn, runM (ks := []) M F hr hb (hx σ) I1 r (.nil : Vals [] []) l1 rfl q⟩) he hpl
end

/-! ### raise C(..) of an own class over ValueError: positional values, keywords, none -/
section
variable {X : Cx} {CX : CXT} {k n : Nat} {fI C : Addr} {fd : FuncData} {ps ks : List Str} {sp : Sp} {x : Str} {p pos : Pos} {e : Expr} {es : List Expr} {kws : List Keyword} {t tk : TA}
variable {g : List Value → List Value → List Value} {gV : List V → List V → List V} {pins : List (Addr × Obj)} {σ : L2.St} {H : Hp} {s : Shared} {Q : XK} {us ws : List Value} {vs zs : List V}
abbrev NoE : XK := fun _ _ _ => False
/-- what the written part says of C and its __init__ -/
structure ExK (K : PySem.W.Frag) (C fI : Addr) : Prop where
  made : ∃ (B newId initId : String) (bmB : List Value) (nm q : Str) (N : Addr) (bs bm : List Value) (sn : List Str) (sub : List Value) (ab : Bool) (col : Option Bool) (dd : Option Addr) (k0 k1 k2 k3 k5 : Option Value),
    ExcBaseFacts B newId initId bmB ∧ K.lookup C = some (excClassObj nm q C N bs bm true sn sub ab col dd k0 k1 k2 k3 k5 newId) ∧
    (bm.contains (.type B) = true ∧ bm.contains (.type "AttributeError") = false ∧ bm.contains (.type "NameError") = false)
  exC : PySem.W.subIn K (.ref C) (.type "BaseException") = some true
  tyC : PySem.W.typeIn K (.ref C) = some (.type "type")
  kC : PySem.W.keepIn K (.ref C) = true
  init : PySem.W.findIn K (.ref C) "__init__" = some (some (.ref fI))
  fn : PySem.W.typeIn K (.ref fI) = some (.type "function")
theorem exK_ve {K : PySem.W.Frag} {C fI : Addr} (T : OexC K C) (i : PySem.W.findIn K (.ref C) "__init__" = some (some (.ref fI))) (f : PySem.W.typeIn K (.ref fI) = some (.type "function")) : ExK K C fI := by
  obtain ⟨nm, q, N, bs, bm, sn, sub, ab, col, dd, k0, k1, k2, k3, k5, hC, hbm⟩ := T.cls
  have F := PySem.F.excBase_ValueError
  have c := fun Y => PySem.HandSPX.refsVE_contains Y bm hbm
  exact ⟨⟨_, _, _, _, _, _, _, _, _, _, _, _, _, _, _, _, _, _, _, F, hC, (c _).trans F.hasB, (c _).trans F.noAttr, (c _).trans F.noName⟩, T.exC, T.tyC, T.kC, i, f⟩
def BackX (a C : Addr) (H2 : Hp) (Q : XK) : VK := fun v H3 => v = .non ∧ ∃ (d : Addr) (fs : List (Str × V)), H3 a = some (exo a C (some d)) ∧ H3 d = some (exd d fs) ∧ H2 d = none ∧ Q (.ref C) (some d) (upd (del H3 a) d (.xd fs))
theorem runX (T : ExK X.K C fI) (F : FnOk X.prog X.w X.K X.mg X.base CX k fI fd ps sp) (hr : Room (k + 1) X.A) (hb : KBn X.K fd ps (n + 1) ks g gV) (hx : PassesAt CX X σ NoE) (I : Inv X pins σ H s) (r : Vals vs us) (rz : Vals zs ws) (l1 : vs.length = n) (l2 : zs.length = ks.length) (hn : n ≤ 1000)
    (h : ∀ a, H a = none → sp (gV (.ref a :: vs) zs) (upd H a (exo a C none)) (BackX a C H Q) NoE) : wpAny (model X.prog X.w) X.A (call (.ref C) us (ks.zip ws)) (MkP X pins σ Q) X.xe s := by
  obtain ⟨B, newId, initId, bmB, nm, q, N, bs, bm, sn, sub, ab, col, dd, k0, k1, k2, k3, k5, F0, hC, hbm⟩ := T.made
  obtain ⟨hp, gs, dr, tk, os⟩ := s
  have sz : hp.objs.size ≤ hp.objs.size + 1 := Nat.le_succ _
  have hq := h (hp.objs.size + 1) (I.hok.fresh sz)
  have kk : ∀ b o, hp.get? b = some o → ((hp.push (PySem.W.kdv_tup us)).push (PySem.HandSPX.excO C hp.objs.size)).get? b = some o := fun b o e => Heap.get?_push_of_some _ (Heap.get?_push_of_some _ e)
  have hat : ((hp.push (PySem.W.kdv_tup us)).push (PySem.HandSPX.excO C hp.objs.size)).get? (hp.objs.size + 1) = some (PySem.HandSPX.excO C hp.objs.size) := by heap_get
  have J : Inv X pins σ (upd H (hp.objs.size + 1) (exo (hp.objs.size + 1) C none)) ⟨(hp.push (PySem.W.kdv_tup us)).push (PySem.HandSPX.excO C hp.objs.size), gs, dr, tk, os⟩ :=
    I.laid (t' := tk) (a := hp.objs.size + 1) (o := exo (hp.objs.size + 1) C none) kk sz (exo_ok hat)
  have r1 : Vals (V.ref (hp.objs.size + 1) :: vs) (Value.ref (hp.objs.size + 1) :: us) := .cons rfl r
  have b := hb.to _ (Value.ref (hp.objs.size + 1) :: us) ws J.kIn (r1.length.symm.trans (congrArg Nat.succ l1)) (rz.length.symm.trans l2)
  have hus : us.length ≤ sizeLine := by
    rw [← r.length, l1, sizeLine_eq]
    omega
  refine wpAny_call (PySem.OwnK.excCall F0 hbm (I.kIn _ _ hC) (PySem.W.looks_findIn I.kIn T.init) (fun self => PySem.W.bind_fn I.kIn self T.fn) hus
    (codeAny_mono (F.run _ X.stack _ _ _ _ _ _ NoE (hr.make C us (ks.zip ws)) (J.env0.make C us (ks.zip ws)) b (hb.rel r1 rz) hq) fun r s' y => ?_))
  cases r with
  | error er => exact hx pins _ _ er s' J y
  | ok fl =>
    cases fl with
    | ret u =>
      obtain ⟨v, H2, os2, bare2, un2, hok2, rv, ev, d, fs, ea, ed, hd1, q2⟩ := y
      subst ev
      obtain ⟨h2, g2, d2, t2, os'⟩ := s'
      exact ⟨rv, mk_end (raises_own T.exC T.tyC) I sz kk un2 hok2 os2 bare2 ea ed hd1 q2⟩
    | next => exact y.elim
    | brk => exact y.elim
    | cont => exact y.elim
def tRz (C : Addr) (n m : Nat) (sp : Sp) (gV : List V → List V → List V) (t tk : TA) : L2.St → Hp → XK → Prop := fun σ H Q => t σ H fun vs H1 => tk σ H1 fun zs H2 => vs.length = n ∧ zs.length = m ∧ n ≤ 1000 ∧
  ∀ a, H2 a = none → sp (gV (.ref a :: vs) zs) (upd H2 a (exo a C none)) (BackX a C H2 Q) NoE
theorem px_pos (T : ExK X.K C fI) (F : FnOk X.prog X.w X.K X.mg X.base CX k fI fd ps sp) (hr : Room (k + 1) X.A) (hg : Gl X x) (hm : X.mg x = some (.ref C)) (hb : KBn X.K fd ps (n + 1) [] g gV) (hx : ∀ σ, PassesAt CX X σ NoE) (ha : PA X (e :: es) t)
    (hdb : (x == ("__debug__" : Str)) = false := by decide) (he : starEach (e :: es) X.env = (false, eval e X.env) :: starEach es X.env := by rfl) (hpl : (backTo pos (starEach es X.env)).any (·.1) = false := by rfl) :
    PMk X (.Call (.Name x p) (e :: es) [] pos) (tRz C n 0 sp gV t tNil) := by
  intro pins s σ H Q I h
  refine wpAny_Call_Name_kw (ld_glob I hg hm ?_ hdb)
  exact PySem.W.callWith_K (h₀ := X.base) I.ok.mod.kin T.kC (thn (ha.run pos pins s σ H _ I h) fun us s1 ⟨vs, H1, I1, r, l1, l2, l3, q⟩ => ⟨I1.kIn, runX (ks := []) T F hr hb (hx σ) I1 r (.nil : Vals [] []) l1 rfl l3 q⟩) he hpl
end
end Own

/-! Own rules: an own exception straight under KeyError, whose __init__ stores one field and calls no base. -/
namespace PySem
namespace OwnKy
open PySem.W PyProof.Rows Builtin Builtin.ObjectAttr HandSPX
abbrev kyTail : List Value := [.type "KeyError", .type "LookupError", .type "Exception", .type "BaseException", .type "object"]
theorem ky_pass (C : Addr) (self : Value) : refuseLoop self "__setattr__" (.ref C :: kyTail) = pure () := by
  rw [refuseLoop_ref]
  kernel_rfl
section
variable {prog : Program} {w : World} {A : Around} {R : Result → Shared → Prop} {h0 : Heap} {g : Array GenState} {d : Drawn} {t : Nat} {os : OsState} {K : Frag} {f : Str} {tk : Tok} {y : Value} {a C : Addr} {fv : Array Value} {cd : ClassData}
/-- the first field of an exception without a dict, whatever built-in classes stand above its own one -/
theorem first_field (X : K.In h0) (ea : h0.get? a = some { cls := .ref C, data := .fields fv }) (ec : clsIn K C = some cd) (pass : ∀ self, refuseLoop self "__setattr__" cd.mro = pure ()) (ob : cd.mro.contains (.type "object") = true) (ne : cd.mro.isEmpty = false)
    (dict : cd.hasDict = true) (no : findIn K (.ref C) f = some none)
    (k : ∀ h1 tk1 dx, (∀ b o, b ≠ a → h0.get? b = some o → h1.get? b = some o) → h0.objs.size ≤ dx → dx ≠ a → h1.get? a = some { cls := .ref C, dict := some dx, data := .fields fv } →
      h1.Ns1 dx (fun z => if z = f then some y else none) → R (.ok (.ret .none)) ⟨h1, g, d, tk1, os⟩) :
    codeAny (model prog w) A (.call (.builtin "object.__setattr__") ⟨[.ref a, .str f tk, y], []⟩) R ⟨h0, g, d, t, os⟩ := by
  have J : InstAt h0 a { cls := .ref C, data := .fields fv } C none := ⟨ea, rfl, rfl, trivial⟩
  have nea : h0.objs.size ≠ a := (Nat.ne_of_lt (Heap.lt_size ea)).symm
  have G := F.store_object
  have isO : Looks (model prog w) h0 (isInstance (.ref a) (.type "object")) true := J.type.andThen (looks_mroIn X (by unfold mroIn; rw [ec, Option.bind_some, if_neg (by rw [ne]; exact Bool.false_ne_true), ob]))
  have order : Looks (model prog w) h0 (mroOf (.ref C)) cd.mro := (looks_clsIn X ec).andThen .now
  have data : Looks (model prog w) h0 (classData C) cd := looks_clsIn X ec
  have nobody : Looks (model prog w) h0 (storeTaker? none) none := .now
  refine codeAny_call_builtin G.slot.plain G.entry (@check_slot (model prog w) _ _ ⟨h0, g, d, t, os⟩ "object.__setattr__" "object" "__setattr__" (.ref a) [.str f tk, y] [] _ G.kind G.split isO (G.args _ _ _) ?_)
  rw [osa_eq, refuse_eq]
  refine wpAny_bind (wpAny_bind (J.type.at (wpAny_bind (order.at ?_))))
  rw [pass]
  refine wpAny_pure (wpAny_bind (J.type.at (wpAny_bind ((looks_findIn X no).at (wpAny_bind (nobody.at ?_))))))
  show wpAny _ _ (storeInOwnDict (.ref a) (.ref C) (.str f tk) f y false) _ _ _
  obtain ⟨cnm, cbs, cmro, cns, cqn, chd, csn, csb, cab, ccol, cdel⟩ := cd
  obtain rfl : chd = true := dict
  unfold storeInOwnDict ownDictForStores
  repeat (first | with_reducible refine store_in_new ?_ ?_ | with_reducible refine wpAny_loadPart_at ea ?_ | with_reducible refine data.at ?_ | wp_step)
  · exact ⟨_, #[], _, (Heap.get?_update_ne _ _ _ _ nea).trans (Heap.get?_push_at rfl rfl), rfl, fun e he => absurd he (by simp), fun _ => rfl⟩
  · intro h1 tk1 hn sb
    have ea1 : (h0.push { cls := .type "dict", data := .dict #[] }).get? a = some { cls := .ref C, data := .fields fv } := Heap.get?_push_of_some _ ea
    exact k h1 tk1 h0.objs.size (fun b o hb ho => (sb.2 b (Nat.ne_of_lt (Heap.lt_size ho))).trans ((Heap.get?_update_ne _ _ _ _ hb).trans (Heap.get?_push_of_some _ ho))) (Nat.le_refl _) nea
      ((sb.2 a nea.symm).trans (Heap.get?_update_self _ ea1 rfl)) hn
end
end OwnKy
end PySem
namespace Own
open PySem PySem.Spec PyProof.Rows L2
/-- what the written part says of a class straight under KeyError -/
structure OkyC (K : PySem.W.Frag) (C : Addr) : Prop where
  cls : ∃ (nm q : Str) (N : Addr) (bs : List Value) (sn : List Str) (sub : List Value) (ab : Bool) (col : Option Bool) (dd : Option Addr) (k0 k1 k2 k3 k5 : Option Value),
    K.lookup C = some (excClassObj nm q C N bs PySem.OwnKy.kyTail true sn sub ab col dd k0 k1 k2 k3 k5 "LookupError.__new__")
  sa : PySem.W.findIn K (.ref C) "__setattr__" = some (some (.builtin "object.__setattr__"))
  exC : PySem.W.subIn K (.ref C) (.type "BaseException") = some true
  tyC : PySem.W.typeIn K (.ref C) = some (.type "type")
  kC : PySem.W.keepIn K (.ref C) = true
theorem exK_ky {K : PySem.W.Frag} {C fI : Addr} (T : OkyC K C) (i : PySem.W.findIn K (.ref C) "__init__" = some (some (.ref fI))) (f : PySem.W.typeIn K (.ref fI) = some (.type "function")) : ExK K C fI := by
  obtain ⟨nm, q, N, bs, sn, sub, ab, col, dd, k0, k1, k2, k3, k5, hC⟩ := T.cls
  exact ⟨⟨_, _, _, _, _, _, _, _, _, _, _, _, _, _, _, _, _, _, _, PySem.F.excBase_LookupError, hC, by decide +kernel, by decide +kernel, by decide +kernel⟩, T.exC, T.tyC, T.kC, i, f⟩
section
variable {X : Cx} {pins : List (Addr × Obj)} {σ : L2.St} {H : Hp} {s : Shared} {a C : Addr} {f : Str} {y : V} {u : Value} {Q : Unit → Shared → Prop} {E : Value → Shared → Prop} {A : Around}
theorem ky_first (T : OkyC X.K C) (I : Inv X pins σ H s) (e : H a = some (exo a C none)) (no : PySem.W.findIn X.K (.ref C) f = some none) (ry : RelV y u)
    (z : ∀ dx s', H dx = none → dx ≠ a → Inv X pins σ (upd (upd H dx (exd dx [(f, y)])) a (exo a C (some dx))) s' → Q () s') : wpAny (model X.prog X.w) A (setAttr (.ref a) f u) Q E s := by
  obtain ⟨nm, q, N, bs, sn, sub, ab, col, dd, k0, k1, k2, k3, k5, hC⟩ := T.cls
  have cl : PySem.W.clsIn X.K C = some { name := nm, bases := bs, mro := .ref C :: PySem.OwnKy.kyTail, ns := N, qualname := q, hasDict := true, slotNames := sn, subclasses := sub, abstract := ab, collection := col, hasDel := false } := by
    unfold PySem.W.clsIn
    rw [hC] <;> rfl
  obtain ⟨t1, ea⟩ := exo_at I.hok e
  obtain ⟨h0, g0, d0, t0, os0⟩ := s
  refine PySem.W.set_plain I.kIn (ox := ⟨.ref C, none, .fields #[.ref t1, .none, .none, .none, .bool false, .none], _⟩) (od := none) ⟨ea, rfl, rfl, trivial⟩ T.sa ?_
  refine PySem.OwnKy.first_field I.kIn ea cl (fun self => PySem.OwnKy.ky_pass C self) rfl rfl rfl no fun h1 tk1 dx k dn dne hx hn => ?_
  have fresh : H dx = none := I.hok.fresh dn
  have older : ∀ {b : Addr} {o : Obj}, h0.get? b = some o → b ≠ dx := fun ho => Nat.ne_of_lt (Nat.lt_of_lt_of_le (Heap.lt_size ho) dn)
  have other : ∀ {b : Addr}, H b = none → b ≠ a := fun hb z => by rw [z, e] at hb; cases hb
  have two : ∀ {b : Addr} {o : HO}, H b = some o → exo a C none ≠ o → (upd (upd H dx (exd dx [(f, y)])) a (exo a C (some dx))) b = some o := fun hb ne => by
    rw [upd_ne (at_ne e hb ne), upd_ne (ne_of_none hb fresh)]
    exact hb
  refine z dx ⟨h1, g0, d0, tk1, os0⟩ fresh dne (I.un (t' := tk1) ?_ fun b o hb => ?_)
  · exact ⟨fun b o ho hb _ _ => k b o (other hb) ho, fun b o ho hb _ _ => ⟨o.slots, k b o (other hb) ho⟩, fun b o ho hb _ => by rw [upd_ne (other hb), upd_ne (older ho)]; exact hb,
      fun b o ho _ => if h : b = a then ⟨_, (congrArg h1.get? h).trans hx⟩ else ⟨o, k b o h ho⟩, fun b xs hb => two hb exo_tup, fun b o v hb => two hb exo_frz, fun b ps hb => ⟨#[], by rw [two hb exo_tbl]; simp⟩⟩
  · by_cases ha : b = a
    · rw [ha, upd_same] at hb
      cases hb
      rw [ha]
      exact exo_ok hx
    · rw [upd_ne ha] at hb
      by_cases hd : b = dx
      · rw [hd, upd_same] at hb
        cases hb
        rw [hd]
        exact exd_ok hn (relO_put (fs := []) ry fun _ => True.intro)
      · rw [upd_ne hd] at hb
        exact (I.hok b o hb).stay (fun c v hc w => k c v (hc.elim (fun q => by rw [q]; exact ha) fun q => at_ne e q exo_own) w) (fun c hc => two hc exo_own) (fun c xs hc => two hc exo_tup)
end
/-- self.f = e, the first field of an exception straight under KeyError -/
def tKst (K : PySem.W.Frag) (f : Str) (to te : TE) : TS := fun D σ H => te σ H fun y H1 => to σ H1 fun x H2 => ∃ a C : Addr, x = .ref a ∧ OkyC K C ∧ PySem.W.findIn K (.ref C) f = some none ∧ H2 a = some (exo a C none) ∧
  ∀ dx, H2 dx = none → dx ≠ a → D.nx σ (upd (upd H2 dx (exd dx [(f, y)])) a (exo a C (some dx)))
theorem ps_kst {X : Cx} {o e : Expr} {to te : TE} {f : Str} {p' pos : Pos} (ho : PE X o to) (he : PE X e te) (hs : swapsWith e (some (.Attribute o f p')) pos.line X.env = pure false := by rfl) : PS X (.Assign [.Attribute o f p'] e pos) (tKst X.K f to te) := by
  refine ⟨fun pins s σ H D I h => plainObj_wpAny_Assign_Attribute (thn (he.run pins s σ H _ I h) fun v s1 ⟨y, H1, I1, r1, q1⟩ => thn (ho.run pins s1 σ H1 _ I1 q1) fun u s2 ⟨x, H2, I2, r2, q2⟩ => ?_) hs⟩
  obtain ⟨a, C, rfl, T, no, ea, q⟩ := q2
  cases r2
  exact ky_first T I2 ea no r1 fun dx s' n ne J => ⟨σ, _, J, q dx n ne⟩
end Own

/-! Own rules: one reading for things of several kinds. -/
namespace Own
open PySem PySem.Spec PyProof.Rows L2
section
variable {X : Cx}
def orR (r1 r2 : R2) : R2 := fun x y H Q => r1 x y H Q ∨ r2 x y H Q
theorem ix_or {r1 r2 : R2} (h1 : IxR X r1) (h2 : IxR X r2) : IxR X (orR r1 r2) := by
  intro value slice pins s σ H x y v u Q I rx ry h hs
  rcases h with h | h
  · exact h1 _ _ _ _ _ _ _ _ _ _ _ I rx ry h hs
  · exact h2 _ _ _ _ _ _ _ _ _ _ _ I rx ry h hs
theorem call_or {f : Value} {r1 r2 : List V → Hp → VK → Prop} (h1 : CallR X f r1) (h2 : CallR X f r2) : CallR X f (fun xs H Q => r1 xs H Q ∨ r2 xs H Q) := by
  intro pins s σ H xs us Q I r h
  rcases h with h | h
  · exact h1 _ _ _ _ _ _ _ I r h
  · exact h2 _ _ _ _ _ _ _ I r h
end
end Own

/-! set(names) and len(set(names)), names a list or a tuple of texts, however many. -/
namespace Own
open PySem PySem.Spec PyProof.Rows L2
/-- one more text is met -/
def meet (acc : List Str) (x : Str) : List Str := if acc.contains x then acc else acc ++ [x]
/-- the unlike ones, each where it is met first -/
def met (xs : List Str) : List Str := xs.foldl meet []
theorem met_more (xs : List Str) (x : Str) : met (xs ++ [x]) = meet (met xs) x := by
  unfold met
  rw [List.foldl_append]
  rfl
theorem meet_mem (acc : List Str) (x k : Str) : k ∈ meet acc x ↔ k ∈ acc ∨ k = x := by
  unfold meet
  by_cases h : acc.contains x = true
  · rw [if_pos h]
    exact ⟨.inl, fun q => q.elim id fun e => by rw [e]; exact List.contains_iff_mem.mp h⟩
  · rw [if_neg h, List.mem_append, List.mem_singleton]
theorem meet_len (acc : List Str) (x : Str) : (meet acc x).length = if acc.contains x = true then acc.length else acc.length + 1 := by
  unfold meet
  split
  · rfl
  · rw [List.length_append] <;> rfl
theorem foldl_meet_nodup : ∀ (xs acc : List Str), acc.Nodup → (xs.foldl meet acc).Nodup
  | [], _, h => h
  | x :: xs, acc, h => by
    refine foldl_meet_nodup xs _ ?_
    unfold meet
    by_cases c : acc.contains x = true
    · rw [if_pos c]
      exact h
    · rw [if_neg c]
      refine List.nodup_append.mpr ⟨h, by simp, fun a ha b hb e => ?_⟩
      rw [List.mem_singleton.mp hb] at e
      exact c (List.contains_iff_mem.mpr (e ▸ ha))
theorem foldl_meet_le : ∀ (xs acc : List Str), (xs.foldl meet acc).length ≤ acc.length + xs.length
  | [], _ => Nat.le_refl _
  | x :: xs, acc => by
    have h := foldl_meet_le xs (meet acc x)
    have g := meet_len acc x
    rw [List.foldl_cons, List.length_cons]
    split at g <;> omega
theorem met_le (xs : List Str) : (met xs).length ≤ xs.length := by
  have := foldl_meet_le xs []
  rw [List.length_nil, Nat.zero_add] at this
  exact this
theorem foldl_meet_all : ∀ (xs acc : List Str), (acc ++ xs).Nodup → xs.foldl meet acc = acc ++ xs
  | [], acc, _ => by simp
  | x :: xs, acc, h => by
    have hx : ¬ acc.contains x = true := fun c => by
      have := (List.nodup_append.mp h).2.2 x (List.contains_iff_mem.mp c) x List.mem_cons_self
      exact this rfl
    have e : meet acc x = acc ++ [x] := if_neg hx
    have e2 : acc ++ [x] ++ xs = acc ++ x :: xs := by rw [List.append_assoc] <;> rfl
    rw [List.foldl_cons, e, foldl_meet_all xs (acc ++ [x]) (by rw [e2]; exact h), e2]
theorem met_all {xs : List Str} (h : xs.Nodup) : met xs = xs := foldl_meet_all xs [] h
theorem foldl_meet_full : ∀ (xs acc : List Str), acc.Nodup → (xs.foldl meet acc).length = acc.length + xs.length → (acc ++ xs).Nodup
  | [], acc, h, _ => by rw [List.append_nil]; exact h
  | x :: xs, acc, h, e => by
    have g := foldl_meet_le xs (meet acc x)
    have l := meet_len acc x
    rw [List.foldl_cons, List.length_cons] at e
    by_cases c : acc.contains x = true
    · rw [if_pos c] at l
      omega
    · rw [if_neg c] at l
      have e1 : meet acc x = acc ++ [x] := if_neg c
      have n : (meet acc x).Nodup := foldl_meet_nodup [x] acc h
      have := foldl_meet_full xs (meet acc x) n (by omega)
      rw [e1, List.append_assoc] at this
      exact this
theorem met_full {xs : List Str} (h : (met xs).length = xs.length) : xs.Nodup := foldl_meet_full xs [] List.nodup_nil (by rw [List.length_nil, Nat.zero_add]; exact h)
theorem met_iff (xs : List Str) : decide ((met xs).length = xs.length) = decide xs.Nodup := decide_eq_decide.mpr ⟨met_full, fun h => by rw [met_all h]⟩
section
variable {prog : Program} {w : World} {A : Around} {R : Result → Shared → Prop} {it S : Addr} {fp wr : List Addr} {G : Array GenState → Array GenState → Prop} {n : Nat} {P : Nat → Value → Prop} {St : Nat → Shared → Prop} {xs : List Str}
/-- what the set holds behind i texts -/
abbrev Holds (prog : Program) (w : World) (S : Addr) (l : List Str) (h : Heap) : Prop := h.SetOf (PySem.strKind prog w) S (fun k => decide (k ∈ met l)) (met l).length
theorem Holds.moved {l : List Str} {s s' : Shared} (h : Holds prog w S l s.heap) (m : ∀ o, s.heap.get? S = some o → s'.heap.get? S = some o) : Holds prog w S l s'.heap := by
  obtain ⟨o, es, ep, t, ho, r⟩ := h
  exact ⟨o, es, ep, t, m _ ho, r⟩
theorem fill (W : WalksS prog w A.in1 it fp wr G n P St) (out : S ∉ fp) (hn : xs.length = n) (small : n < 1000) (val : ∀ i v, P i v → ∃ t, v = .str (xs.getD i Str.empty) t) :
    ∀ (k i : Nat) (s : Shared), n - i = k → i ≤ n → St i s → Holds prog w S (xs.take i) s.heap →
      (∀ s', Moved (S :: wr) G s s' → Holds prog w S xs s'.heap → R (.ok (.ret .none)) s') → codeAny (model prog w) A (.builtin "set.update.loop" ⟨[.ref S, .ref it], []⟩) R s := by
  have nw : S ∉ wr := fun h => out (W.sub _ h)
  have more : ∀ b ∈ wr, b ∈ S :: wr := fun b hb => List.mem_cons_of_mem _ hb
  intro k
  induction k with
  | zero =>
    intro i s hk hi st hS hR
    obtain rfl : i = n := by omega
    refine codeAny_builtin PyProof.Rows.F.entry_set_update_loop ?_
    rw [Around.under_plainId PyProof.Rows.F.plain_set_update_loop _]
    refine wpAny_bind (m := pyNext (.ref it)) (W.done s _ _ st fun s' m => ?_)
    have hS' := hS.moved (s' := s') fun o e => m.heap S o nw e
    rw [← hn, List.take_length] at hS'
    exact wpAny_pure (hR s' (m.mono more) hS')
  | succ k ih =>
    intro i s hk hi st hS hR
    have lt : i < n := by omega
    refine codeAny_builtin PyProof.Rows.F.entry_set_update_loop ?_
    rw [Around.under_plainId PyProof.Rows.F.plain_set_update_loop _]
    refine wpAny_bind (m := pyNext (.ref it)) (W.item i s _ _ lt st fun v s' pv st' m => ?_)
    obtain ⟨t, rfl⟩ := val i v pv
    have hS' := hS.moved (s' := s') fun o e => m.heap S o nw e
    generalize hx : xs.getD i Str.empty = x at *
    have gx : xs[i]? = some x := by
      have l : i < xs.length := by omega
      rw [← hx, List.getD_eq_getElem?_getD, List.getElem?_eq_getElem l] <;> rfl
    have tk : xs.take (i + 1) = xs.take i ++ [x] := by rw [List.take_add_one, gx] <;> rfl
    refine wpAny_bind (m := holding [Value.str x t] (setAdd S (.str x t))) (wpAny_holding ?_)
    unfold setAdd
    refine wpAny_holding (wpAny_bind ((PySem.strKind prog w).pyHash (k := x) (strKind_is _ _ _ _) ?_))
    have room : (met (xs.take i)).length + 1 < scanBound := by
      have := met_le (xs.take i)
      rw [List.length_take] at this
      show _ < 4096
      omega
    refine wpAny_setAddHashed_of (knd := PySem.strKind prog w) (s := { s' with toks := s'.toks + 1 }) (strKind_is _ _ _ _) rfl hS' room fun h' sb hS2 => ?_
    have next : Holds prog w S (xs.take (i + 1)) h' := by
      refine PyProof.Rows.SetOf_congr hS2 (fun j => ?_) ?_
      · rw [tk, met_more, ← Bool.decide_or]
        exact decide_eq_decide.mpr (meet_mem _ x j).symm
      · rw [tk, met_more, meet_len]
        by_cases a : x ∈ met (xs.take i)
        · rw [if_pos (decide_eq_true a), if_pos (List.contains_iff_mem.mpr a)]
        · rw [if_neg (fun z => a (of_decide_eq_true z)), if_neg (fun z => a (List.contains_iff_mem.mp z))]
    refine wpAny_pure ⟨plainId_quiet PyProof.Rows.F.plain_set_update_loop _, ih (i + 1) _ (by omega) lt (W.frame _ s' _ _ st' (Nat.le_succ _) fun b hb o e => ?_) next fun s2 m2 hS3 => ?_⟩
    · exact (sb.2 b (fun z => out (z ▸ hb))).trans e
    · exact hR s2 (Moved.trans W.gtrans ((m.mono more).then_heap (Nat.le_succ _) fun b o hb e => (sb.2 b fun z => hb (z ▸ List.mem_cons_self)).trans e) m2) hS3
end
section
variable {prog : Program} {w : World} {A : Around} {E : Value → Shared → Prop} {s : Shared}
set_option maxHeartbeats 3200000 in
theorem set_of_list {l : Addr} {its : Array Value} {xs : List Str} {Q : Value → Shared → Prop} (hh : A.handled = none) (hl : s.heap.IsList l its) (hi : PyProof.Rows.StrsAre its.toList xs) (small : xs.length < 1000)
    (h : ∀ (h' : Heap) (tk : Nat), Holds prog w s.heap.objs.size xs h' → (∀ b o, b < s.heap.objs.size → s.heap.get? b = some o → h'.get? b = some o) → Q (.ref s.heap.objs.size) { s with heap := h', toks := tk }) :
    wpAny (model prog w) A (call (.type "set") [.ref l]) Q E s := by
  obtain ⟨c, tl, hmro⟩ := PySem.F.called_set.mro
  have hmade := PySem.F.called_set.made
  have hsub := PySem.F.called_set.sub
  refine wpAny_call (codeAny_of_tree (wpAny_pure ⟨Code.quiet_builtin _ (by decide +kernel), codeAny_builtin PySem.F.entry_type_call ?_⟩))
  rw [Around.under_plain (weight_type_call_type "set" [.ref l] []) rfl]
  have g1 := PySem.F.called_set.notType
  have g2 := PySem.F.called_set.canCreate
  have g3 := PySem.F.typeCall_set_1 (.ref l)
  repeat (any_goals (first | assumption | wp_step))
  -- the empty set is made
  refine codeAny_mono (code_set_new_1 (.ref l) (E := E) (Q₁ := fun v s₁ => ∃ led : Bool, v = .ref s.heap.objs.size ∧ s₁ = { s with heap := s.heap.push { cls := .type "set", dict := none, data := .set #[] 0 (.fresh 0 0 led) } }) fun led => ⟨led, rfl, rfl⟩) ?_
  rintro (e | _ | _ | _ | v) s₁ z
  · exact z
  · exact z.elim
  · exact z.elim
  · exact z.elim
  · obtain ⟨led, rfl, rfl⟩ := z
    have at0 : (s.heap.push { cls := .type "set", dict := none, data := .set #[] 0 (.fresh 0 0 led) }).get? s.heap.objs.size = some { cls := .type "set", dict := none, data := .set #[] 0 (.fresh 0 0 led) } := Heap.get?_push_size _ rfl
    have ty : Shared.TypeIs { s with heap := s.heap.push { cls := .type "set", dict := none, data := .set #[] 0 (.fresh 0 0 led) } } (.ref s.heap.objs.size) "set" := ⟨_, at0, rfl⟩
    have g4 := PySem.F.called_set.init.lookup
    have g5 := PySem.F.called_set.init.bind (.ref s.heap.objs.size)
    repeat (any_goals (first | assumption | wp_step))
    -- and filled
    refine codeAny_mono (codeAny_call_builtin (R := wants (fun r s₂ => r = .none ∧ ∃ h' tk, s₂ = { s with heap := h', toks := tk } ∧ Holds prog w s.heap.objs.size xs h' ∧ (∀ b o, b < s.heap.objs.size → s.heap.get? b = some o → h'.get? b = some o)) E)
      PySem.F.called_set.init.plain PySem.F.entry_set_init (check_set_init_1 ty ?_)) ?_
    · obtain ⟨⟨cls, dd, dat, sl⟩, hol, hc, nl, hd⟩ := hl
      simp only at hc hd
      subst hc hd
      have old := Heap.lt_size hol
      have hol2 : (s.heap.push { cls := .type "set", dict := none, data := .set #[] 0 (.fresh 0 0 led) }).get? l = some { cls := .type "list", dict := dd, data := .seq its nl, slots := sl } := Heap.get?_push_of_some _ hol
      have hl2 : (s.heap.push { cls := .type "set", dict := none, data := .set #[] 0 (.fresh 0 0 led) }).IsList l its := ⟨_, hol2, rfl, nl, rfl⟩
      have f1 := PySem.F.sub_list_set
      have f2 := PySem.F.sub_list_frozenset
      have f3 : (Value.type "list" == Value.type "dict") = false := by decide
      unfold Builtin.«set.__init__» noKeywords Builtin.Frozenset.updateFrom
      generalize hit : pyIter = itf
      wp_walk
      subst hit
      refine wpAny_pyIter_list hl2 ?_
      refine wpAny_bind (wpAny_runValue ?_)
      have top : (s.heap.push { cls := .type "set", dict := none, data := .set #[] 0 (.fresh 0 0 led) }).objs.size = s.heap.objs.size + 1 := Heap.size_push ..
      have ne1 : l ≠ (s.heap.push { cls := .type "set", dict := none, data := .set #[] 0 (.fresh 0 0 led) }).objs.size := by rw [top]; exact Nat.ne_of_lt (Nat.lt_succ_of_lt old)
      have out : s.heap.objs.size ∉ [(s.heap.push { cls := .type "set", dict := none, data := .set #[] 0 (.fresh 0 0 led) }).objs.size, l] := by
        rw [top]
        intro m
        rcases List.mem_cons.mp m with e | m
        · exact absurd e (Nat.ne_of_lt (Nat.lt_succ_self _))
        · exact absurd (List.mem_singleton.mp m) (Nat.ne_of_gt old)
      have len : xs.length = its.size := by rw [← StrsAre.len_eq hi, Array.length_toList]
      have val : ∀ (i : Nat) (v : Value), its[i]? = some v → ∃ t, v = .str (xs.getD i Str.empty) t := fun i v hv => SS.strs_at hi i v (by rw [Array.getElem?_toList]; exact hv)
      refine fill ((Walks.list (show A.in1.in1.in1.handled = none by simp [hh]) _ l ne1 its).toS) out len (by rw [← len]; exact small) val (its.size - 0) 0 _ (by omega) (Nat.zero_le _) ⟨⟨_, Heap.get?_push_size _ rfl, rfl, rfl⟩, hl2.push _⟩ ?_ ?_
      · have z : ((s.heap.push { cls := .type "set", dict := none, data := .set #[] 0 (.fresh 0 0 led) }).push { cls := .type "list_iterator", data := .fields #[.ref l, .int 0 0] }).get? s.heap.objs.size = some { cls := .type "set", dict := none, data := .set #[] 0 (.fresh 0 0 led) } := Heap.get?_push_of_some _ at0
        exact PyProof.Rows.SetOf_congr ((PyProof.Rows.setObjOf_fresh (knd := PySem.strKind prog w) led).setOf z (by unfold scanBound; omega)) (fun k => rfl) rfl
      · rintro ⟨h', g', d', tk', os'⟩ m hS'
        obtain rfl : g' = s.gens := m.gens
        obtain rfl : d' = s.drawn := m.drawn
        obtain rfl : os' = s.os := m.os
        refine wpAny_pure (wpAny_pure ⟨rfl, h', tk', rfl, hS', fun b o hb e => ?_⟩)
        refine m.heap b o (fun mm => ?_) (Heap.get?_push_of_some _ (Heap.get?_push_of_some _ e))
        rcases List.mem_cons.mp mm with e1 | mm
        · exact absurd e1 (Nat.ne_of_lt hb)
        · have e2 : b = (s.heap.push { cls := .type "set", dict := none, data := .set #[] 0 (.fresh 0 0 led) }).objs.size := List.mem_singleton.mp mm
          rw [top] at e2
          omega
    · rintro (e | _ | _ | _ | v) s₂ z
      · exact z
      · exact z.elim
      · exact z.elim
      · exact z.elim
      · obtain ⟨rfl, h', tk, rfl, hS', kp⟩ := z
        repeat (any_goals (first | assumption | wp_step))
        exact h _ _ hS' kp
end
section
variable {prog : Program} {w : World} {A : Around} {E : Value → Shared → Prop} {s : Shared}
set_option maxHeartbeats 3200000 in
theorem set_of_tuple {l : Addr} {its : Array Value} {xs : List Str} {Q : Value → Shared → Prop} (hh : A.handled = none) (hl : s.heap.IsTuple l its) (hi : PyProof.Rows.StrsAre its.toList xs) (small : xs.length < 1000)
    (h : ∀ (h' : Heap) (tk : Nat), Holds prog w s.heap.objs.size xs h' → (∀ b o, b < s.heap.objs.size → s.heap.get? b = some o → h'.get? b = some o) → Q (.ref s.heap.objs.size) { s with heap := h', toks := tk }) :
    wpAny (model prog w) A (call (.type "set") [.ref l]) Q E s := by
  obtain ⟨c, tl, hmro⟩ := PySem.F.called_set.mro
  have hmade := PySem.F.called_set.made
  have hsub := PySem.F.called_set.sub
  refine wpAny_call (codeAny_of_tree (wpAny_pure ⟨Code.quiet_builtin _ (by decide +kernel), codeAny_builtin PySem.F.entry_type_call ?_⟩))
  rw [Around.under_plain (weight_type_call_type "set" [.ref l] []) rfl]
  have g1 := PySem.F.called_set.notType
  have g2 := PySem.F.called_set.canCreate
  have g3 := PySem.F.typeCall_set_1 (.ref l)
  repeat (any_goals (first | assumption | wp_step))
  -- the empty set is made
  refine codeAny_mono (code_set_new_1 (.ref l) (E := E) (Q₁ := fun v s₁ => ∃ led : Bool, v = .ref s.heap.objs.size ∧ s₁ = { s with heap := s.heap.push { cls := .type "set", dict := none, data := .set #[] 0 (.fresh 0 0 led) } }) fun led => ⟨led, rfl, rfl⟩) ?_
  rintro (e | _ | _ | _ | v) s₁ z
  · exact z
  · exact z.elim
  · exact z.elim
  · exact z.elim
  · obtain ⟨led, rfl, rfl⟩ := z
    have at0 : (s.heap.push { cls := .type "set", dict := none, data := .set #[] 0 (.fresh 0 0 led) }).get? s.heap.objs.size = some { cls := .type "set", dict := none, data := .set #[] 0 (.fresh 0 0 led) } := Heap.get?_push_size _ rfl
    have ty : Shared.TypeIs { s with heap := s.heap.push { cls := .type "set", dict := none, data := .set #[] 0 (.fresh 0 0 led) } } (.ref s.heap.objs.size) "set" := ⟨_, at0, rfl⟩
    have g4 := PySem.F.called_set.init.lookup
    have g5 := PySem.F.called_set.init.bind (.ref s.heap.objs.size)
    repeat (any_goals (first | assumption | wp_step))
    -- and filled
    refine codeAny_mono (codeAny_call_builtin (R := wants (fun r s₂ => r = .none ∧ ∃ h' tk, s₂ = { s with heap := h', toks := tk } ∧ Holds prog w s.heap.objs.size xs h' ∧ (∀ b o, b < s.heap.objs.size → s.heap.get? b = some o → h'.get? b = some o)) E)
      PySem.F.called_set.init.plain PySem.F.entry_set_init (check_set_init_1 ty ?_)) ?_
    · obtain ⟨⟨cls, dd, dat, sl⟩, hol, hc, nl, hd⟩ := hl
      simp only at hc hd
      subst hc hd
      have old := Heap.lt_size hol
      have hol2 : (s.heap.push { cls := .type "set", dict := none, data := .set #[] 0 (.fresh 0 0 led) }).get? l = some { cls := .type "tuple", dict := dd, data := .seq its nl, slots := sl } := Heap.get?_push_of_some _ hol
      have hl2 : (s.heap.push { cls := .type "set", dict := none, data := .set #[] 0 (.fresh 0 0 led) }).IsTuple l its := ⟨_, hol2, rfl, nl, rfl⟩
      have f1 := PySem.F.sub_tuple_set
      have f2 := PySem.F.sub_tuple_frozenset
      have f3 : (Value.type "tuple" == Value.type "dict") = false := by decide
      unfold Builtin.«set.__init__» noKeywords Builtin.Frozenset.updateFrom
      generalize hit : pyIter = itf
      wp_walk
      subst hit
      refine wpAny_pyIter_tuple hl2 ?_
      refine wpAny_bind (wpAny_runValue ?_)
      have top : (s.heap.push { cls := .type "set", dict := none, data := .set #[] 0 (.fresh 0 0 led) }).objs.size = s.heap.objs.size + 1 := Heap.size_push ..
      have ne1 : l ≠ (s.heap.push { cls := .type "set", dict := none, data := .set #[] 0 (.fresh 0 0 led) }).objs.size := by rw [top]; exact Nat.ne_of_lt (Nat.lt_succ_of_lt old)
      have out : s.heap.objs.size ∉ [(s.heap.push { cls := .type "set", dict := none, data := .set #[] 0 (.fresh 0 0 led) }).objs.size, l] := by
        rw [top]
        intro m
        rcases List.mem_cons.mp m with e | m
        · exact absurd e (Nat.ne_of_lt (Nat.lt_succ_self _))
        · exact absurd (List.mem_singleton.mp m) (Nat.ne_of_gt old)
      have len : xs.length = its.size := by rw [← StrsAre.len_eq hi, Array.length_toList]
      have val : ∀ (i : Nat) (v : Value), its[i]? = some v → ∃ t, v = .str (xs.getD i Str.empty) t := fun i v hv => SS.strs_at hi i v (by rw [Array.getElem?_toList]; exact hv)
      refine fill ((Walks.tuple (show A.in1.in1.in1.handled = none by simp [hh]) _ l ne1 its).toS) out len (by rw [← len]; exact small) val (its.size - 0) 0 _ (by omega) (Nat.zero_le _) ⟨⟨_, Heap.get?_push_size _ rfl, rfl, rfl⟩, hl2.push _⟩ ?_ ?_
      · have z : ((s.heap.push { cls := .type "set", dict := none, data := .set #[] 0 (.fresh 0 0 led) }).push { cls := .type "tuple_iterator", data := .fields #[.ref l, .int 0 0] }).get? s.heap.objs.size = some { cls := .type "set", dict := none, data := .set #[] 0 (.fresh 0 0 led) } := Heap.get?_push_of_some _ at0
        exact PyProof.Rows.SetOf_congr ((PyProof.Rows.setObjOf_fresh (knd := PySem.strKind prog w) led).setOf z (by unfold scanBound; omega)) (fun k => rfl) rfl
      · rintro ⟨h', g', d', tk', os'⟩ m hS'
        obtain rfl : g' = s.gens := m.gens
        obtain rfl : d' = s.drawn := m.drawn
        obtain rfl : os' = s.os := m.os
        refine wpAny_pure (wpAny_pure ⟨rfl, h', tk', rfl, hS', fun b o hb e => ?_⟩)
        refine m.heap b o (fun mm => ?_) (Heap.get?_push_of_some _ (Heap.get?_push_of_some _ e))
        rcases List.mem_cons.mp mm with e1 | mm
        · exact absurd e1 (Nat.ne_of_lt hb)
        · have e2 : b = (s.heap.push { cls := .type "set", dict := none, data := .set #[] 0 (.fresh 0 0 led) }).objs.size := List.mem_singleton.mp mm
          rw [top] at e2
          omega
    · rintro (e | _ | _ | _ | v) s₂ z
      · exact z
      · exact z.elim
      · exact z.elim
      · exact z.elim
      · obtain ⟨rfl, h', tk, rfl, hS', kp⟩ := z
        repeat (any_goals (first | assumption | wp_step))
        exact h _ _ hS' kp
end
end Own

/-! len(set(names)) as a rule; a loop over a list or a tuple. -/
namespace Own
open PySem PySem.Spec PyProof.Rows L2
section
variable {X : Cx}
def tUnlike (K : PySem.W.Frag) (ta : TE) : TE := fun σ H Q => ta σ H fun x H1 => ∃ (l : Addr) (xs : List Str), x = .ref l ∧ (SqL K H1 l (xs.map V.str) ∨ SqT K H1 l (xs.map V.str)) ∧ xs.length < 1000 ∧ Q (.int (met xs).length) H1
theorem pe_unlike {a : Expr} {ta : TE} {p p2 q pos : Pos} (hc : X.calm = true) (hg : Gl X "len") (hm : X.mg "len" = none) (hg2 : Gl X "set") (hm2 : X.mg "set" = none) (ha : PE X a ta)
    (na : starEach [a] X.env = (false, eval a X.env) :: starEach [] X.env := by rfl) : PE X (.Call (.Name "len" p) [.Call (.Name "set" p2) [a] [] q] [] pos) (tUnlike X.K ta) := by
  refine ⟨fun pins s σ H Q I h => ?_⟩
  refine Call_ (ld_blt I hg hm boot_len (PyProof.Rows.callWith_builtin1 (PyProof.Rows.args_cons ?_ rfl) rfl rfl))
  refine Call_ (ld_blt I hg2 hm2 boot_set (PyProof.Rows.callWith_type1 (PyProof.Rows.args_cons (thn (ha.run pins s σ H _ I h) fun v s1 ⟨x, H1, J, rx, z⟩ => PyProof.Rows.args_nil ?_) na) na rfl))
  obtain ⟨l, xs, rfl, seq, small, q⟩ := z
  cases rx
  have done : ∀ (h' : Heap) (tk : Nat), Holds X.prog X.w s1.heap.objs.size xs h' → (∀ b o, b < s1.heap.objs.size → s1.heap.get? b = some o → h'.get? b = some o) →
      wpAny (model X.prog X.w) X.A (spliced (backTo pos (starEach [] X.env))) (fun vs s₂ => wpAny (model X.prog X.w) X.A (call (.builtin "len") (Value.ref s1.heap.objs.size :: vs)) (EP X pins σ Q) X.xe s₂) X.xe { s1 with heap := h', toks := tk } := fun h' tk hS kp => by
    obtain ⟨o, es, ep, t, ho, ex, hd, _, _, _, fits, hn⟩ := hS
    have J2 : Inv X pins σ H1 { s1 with heap := h', toks := tk } := J.kept fun b o e => kp b o (Heap.lt_size e) e
    have le := met_le xs
    exact PyProof.Rows.args_nil (call_len_set ho ex hd fits (by rw [hn]; omega) ⟨.int (met xs).length, H1, J2.tok _, ⟨_, by rw [hn]⟩, q⟩)
  rcases seq with hq | hq
  · obtain ⟨its, r, pl, _⟩ := J.list hq
    exact set_of_list (J.ok.hd hc) pl.isList (by simpa using strsAre_of r) small done
  · obtain ⟨its, r, pl, _⟩ := J.tuple hq
    exact set_of_tuple (J.ok.hd hc) pl (by simpa using strsAre_of r) small done
/-- what is walked may be of two kinds -/
theorem pi_or {tg e : Expr} {w1 w2 : TI} (h1 : PI X tg e w1) (h2 : PI X tg e w2) : PI X tg e (fun σ H R => w1 σ H R ∨ w2 σ H R) := ⟨fun pins s σ H R I h => h.elim (h1.run pins s σ H R I) (h2.run pins s σ H R I)⟩
end
end Own

/-! enumerate over a tuple: its making, its turns, the rule for a loop or a comprehension (pi_enumT). -/
namespace L2
open PySem PySem.Spec PyProof.Rows
theorem enum_newT (l : Addr) (items : Array Value) :
    Meets (Builtin.«enumerate.__new__» ⟨[.type "enumerate", .ref l], []⟩) (fun _ R s => s.heap.IsTuple l items ∧ R (.ok (.ret (.ref (s.heap.push { cls := .type "tuple_iterator", data := .fields #[.ref l, .int 0 0] }).objs.size)))
      { s with heap := (s.heap.push { cls := .type "tuple_iterator", data := .fields #[.ref l, .int 0 0] }).push { cls := .type "enumerate", data := .fields #[.none, .bool false, .ref s.heap.objs.size, rawInt 0, .none, .none] } }) :=
  .of_wp fun prog w A R s h => by
    obtain ⟨hp, g, d, tk, os⟩ := s
    obtain ⟨ht, h⟩ := h
    have f1 := sub_enumerate
    wp_walk using wpAny_pyIter_tuple ht
    refine wpAny_stack_any fun st => ?_
    wp_walk
    split
    · wp_walk
      split
      · wp_walk using wpAny_pyIter_tuple ht
        exact ⟨_, rfl, h⟩
      · wp_walk using wpAny_pyIter_tuple ht
        exact ⟨_, rfl, h⟩
    · wp_walk using wpAny_pyIter_tuple ht
      exact ⟨_, rfl, h⟩
theorem call_enumT {prog : Program} {w : World} {A : Around} {E : Value → Shared → Prop} {s : Shared} {l : Addr} {items : Array Value} {Q : Value → Shared → Prop} (ht : s.heap.IsTuple l items)
    (k : ∀ h' : Heap, IsEnum h' (s.heap.objs.size + 1) s.heap.objs.size 0 .none → h'.IsTupleIter s.heap.objs.size l 0 → h'.objs.size = s.heap.objs.size + 2 → (∀ (b : Addr) (o : Obj), s.heap.get? b = some o → h'.get? b = some o) →
      Q (.ref (s.heap.objs.size + 1)) { s with heap := h' }) : wpAny (model prog w) A (call (.type "enumerate") [.ref l]) Q E s := by
  have sz : ∀ (h : Heap) (o : Obj), (h.push o).objs.size = h.objs.size + 1 := fun h o => by unfold Heap.push; exact Array.size_push _
  refine callType_new F.called_enumerate (by decide) (F.typeCall_enumerate_1 _) (F.newCall_enumerate_1 _) (fun obj => F.args_object_init_2 _ _) F.entry_enumerate_new (enum_newT l items) ⟨ht, ?_⟩
  generalize ho1 : ({ cls := .type "tuple_iterator", data := .fields #[.ref l, .int 0 0] } : Obj) = o1
  generalize ho2 : ({ cls := .type "enumerate", data := .fields #[.none, .bool false, .ref s.heap.objs.size, rawInt 0, .none, .none] } : Obj) = o2
  have f1 : o1.isFreed = false := by rw [← ho1]; rfl
  have f2 : o2.isFreed = false := by rw [← ho2]; rfl
  have g2 : ((s.heap.push o1).push o2).get? (s.heap.push o1).objs.size = some o2 := Heap.get?_push_size _ f2
  have g1 : ((s.heap.push o1).push o2).get? s.heap.objs.size = some o1 := Heap.get?_push_of_some _ (Heap.get?_push_size _ f1)
  refine ⟨⟨o2, g2, by rw [← ho2]⟩, ?_⟩
  rw [sz] at g2 ⊢
  exact k _ (g2.trans (by rw [← ho2])) ⟨o1, g1, by rw [← ho1], by rw [← ho1]; rfl⟩ (by rw [sz, sz]) (fun b o e => Heap.get?_push_of_some _ (Heap.get?_push_of_some _ e))
theorem tup_next_item (it t : Addr) (i : Nat) (items : Array Value) (x : Value) :
    Meets (Builtin.«tuple_iterator.__next__» ⟨[.ref it], []⟩) (fun _ R s => s.heap.IsTupleIter it t i ∧ s.heap.IsTuple t items ∧ items[i]? = some x ∧ ∀ h' : Heap, h'.IsTupleIter it t (i + 1) → Heap.SameBut it s.heap h' → R (.ok (.ret x)) { s with heap := h' }) :=
  .of_wp fun prog w A R s h => by
    obtain ⟨hp, g, d, tk, os⟩ := s
    obtain ⟨hi, ht, hx, h⟩ := h
    obtain ⟨⟨cls, dd, data, sl⟩, ho, hc, hd⟩ := hi
    obtain ⟨⟨cls2, dd2, data2, sl2⟩, ho2, hc2, n2, hd2⟩ := ht
    simp only at hc hd hc2 hd2
    subst hc hd hc2 hd2
    have q2 : (#[Value.ref t, Value.int (↑i) 0] : Array Value)[1]? = some (Value.int (↑i) 0) := rfl
    wp_walk using wpAny_load' ho
    rw [Int.toNat_natCast, hx]
    refine wpAny_bind (wpAny_setField ho rfl (by show 1 < 2; decide) ?_)
    wp_walk
    exact ⟨_, rfl, h _ ⟨_, Heap.get?_update_self _ ho rfl, rfl, rfl⟩ (Heap.SameBut.update _ _ _)⟩
theorem tup_next_end (it t : Addr) (i : Nat) (items : Array Value) :
    Meets (Builtin.«tuple_iterator.__next__» ⟨[.ref it], []⟩) (fun A R s => A.handled = none ∧ s.heap.IsTupleIter it t i ∧ s.heap.IsTuple t items ∧ items[i]? = none ∧ ∀ (h' : Heap) (e : Addr), Heap.ExtBut it s.heap h' → (∃ o, h'.get? e = some o ∧ o.cls = .type "StopIteration") → R (.error (.ref e)) { s with heap := h' }) :=
  .of_wp fun prog w A R s h => by
    obtain ⟨hp, g, d, tk, os⟩ := s
    obtain ⟨hh, hi, ht, hx, h⟩ := h
    obtain ⟨⟨cls, dd, data, sl⟩, ho, hc, hd⟩ := hi
    obtain ⟨⟨cls2, dd2, data2, sl2⟩, ho2, hc2, n2, hd2⟩ := ht
    simp only at hc hd hc2 hd2
    subst hc hd hc2 hd2
    have q2 : (#[Value.ref t, Value.int (↑i) 0] : Array Value)[1]? = some (Value.int (↑i) 0) := rfl
    wp_walk using wpAny_load' ho
    rw [Int.toNat_natCast, hx]
    have hh1 : A.in1.handled = none := hh
    wp_walk using wpAny_raiseNew_none hh1
    refine h _ _ ?_ ?_
    · exact fun b o nb e => Heap.get?_push_of_some _ (Heap.get?_push_of_some _ ((Heap.get?_update_other _ _ (Ne.symm nb)).trans e))
    · exact ⟨_, Heap.get?_push_size _ rfl, rfl⟩
theorem nextOf_tup_item {prog : Program} {w : World} {A : Around} {E : Value → Shared → Prop} {s : Shared} {it t : Addr} {i : Nat} {items : Array Value} {x : Value} {Q : Value → Shared → Prop} (hi : s.heap.IsTupleIter it t i) (ht : s.heap.IsTuple t items) (hx : items[i]? = some x)
    (k : ∀ h' : Heap, h'.IsTupleIter it t (i + 1) → Heap.SameBut it s.heap h' → Q x { s with heap := h' }) : wpAny (model prog w) A (Builtin.SmallTypes.nextOf (.ref it)) Q E s := by
  unfold Builtin.SmallTypes.nextOf
  refine wpAny_bind (wpAny_callSpecial?_slot hi.typeIs F.slot_tuple_iterator_next (call_meets F.slot_tuple_iterator_next hi.typeIs F.entry_tuple_iterator_next (F.args_tuple_iterator_next_1 _) (tup_next_item it t i items x) ⟨hi, ht, hx, fun h' a b => ?_⟩))
  exact wpAny_pure (k h' a b)
theorem nextOf_tup_end {prog : Program} {w : World} {A : Around} {E : Value → Shared → Prop} {s : Shared} {it t : Addr} {i : Nat} {items : Array Value} {Q : Value → Shared → Prop} (hh : A.handled = none) (hi : s.heap.IsTupleIter it t i) (ht : s.heap.IsTuple t items) (hx : items[i]? = none)
    (k : ∀ (h' : Heap) (e : Addr), Heap.ExtBut it s.heap h' → (∃ o, h'.get? e = some o ∧ o.cls = .type "StopIteration") → E (.ref e) { s with heap := h' }) : wpAny (model prog w) A (Builtin.SmallTypes.nextOf (.ref it)) Q E s := by
  unfold Builtin.SmallTypes.nextOf
  exact wpAny_bind (wpAny_callSpecial?_slot hi.typeIs F.slot_tuple_iterator_next (call_meets F.slot_tuple_iterator_next hi.typeIs F.entry_tuple_iterator_next (F.args_tuple_iterator_next_1 _) (tup_next_end it t i items) ⟨hh, hi, ht, hx, k⟩))
theorem drawsTup {prog : Program} {w : World} {A : Around} (hh : A.handled = none) (it t : Addr) (ne : t ≠ it) (items : Array Value) :
    Draws prog w A it [it, t] items.size (fun i v => items[i]? = some v) (fun i h => h.IsTupleIter it t i ∧ h.IsTuple t items) where
  live := fun i h z => z.1.imp fun o y => y.1
  frame := fun i h h' z k => ⟨z.1.at fun o e => k it List.mem_cons_self o e, z.2.imp fun o y => ⟨k t (List.mem_cons_of_mem _ List.mem_cons_self) o y.1, y.2⟩⟩
  item := fun i s Q E hi z k => nextOf_tup_item z.1 z.2 (Array.getElem?_eq_getElem hi) fun h' a b => k _ h' s.toks (Array.getElem?_eq_getElem hi) ⟨a, z.2.imp fun o y => ⟨(b.2 t ne).trans y.1, y.2⟩⟩ b
  done := fun s Q E z k => nextOf_tup_end hh z.1 z.2 (Array.getElem?_eq_none (Nat.le_refl _)) k
def IteT (K : PySem.W.Frag) (a : Addr) : It where
  go := fun i H => ∃ xs x, SqT K H a xs ∧ xs[i]? = some x
  yld := fun i H v H' => ∃ T x, v = .ref T ∧ H T = none ∧ H' = upd H T (.tup [.int i, x]) ∧ ∀ xs, SqT K H a xs → xs[i]? = some x
  stop := fun i H => ∃ xs, SqT K H a xs ∧ xs.length ≤ i
theorem turn_enumT {P : Program} {w : World} {K : PySem.W.Frag} {elts : List Expr} {kk : Nat} {tpos : Pos} (a e it : Addr) :
    Turn P w K (.Tuple elts kk tpos) (IteT K a) [e, it] e (fun i h => (∃ old, IsEnum h e it (i : Int) old) ∧ h.IsTupleIter it a i ∧ e ≠ it) where
  mem := List.mem_cons_self
  obj := fun i h ⟨⟨old, h1⟩, ⟨o, h2, _, h4⟩, _⟩ b hb => by
    rcases List.mem_cons.mp hb with rfl | hb
    · exact ⟨_, h1, fun v z => by cases z⟩
    · rw [List.mem_singleton.mp hb]
      exact ⟨o, h2, fun v z => by rw [h4] at z; cases z⟩
  keep := fun i h h' ⟨⟨old, h1⟩, h2, ne⟩ k => ⟨⟨old, k e List.mem_cons_self _ h1⟩, h2.at fun o z => k it (List.mem_cons_of_mem _ List.mem_cons_self) o z, ne⟩
  item := fun X hP hw hK hc i pins s σ H E I hf ⟨⟨old, h1⟩, h2, ne⟩ ⟨xs, x, hx, hi⟩ => by
    subst hP hw hK
    obtain ⟨its, rv, ht, hl⟩ := I.tuple hx
    obtain ⟨u, hu, ru⟩ := Vals.get rv hi
    have hu' : its.toArray[i]? = some u := by rw [List.getElem?_toArray]; exact hu
    have hlt : i < its.toArray.size := by
      rcases Nat.lt_or_ge i its.toArray.size with z | z
      · exact z
      · rw [Array.getElem?_eq_none z] at hu'; cases hu'
    obtain ⟨oi, gi, ci, di⟩ := h2
    obtain ⟨ot, gt, ct, nt, dt⟩ := ht
    have ae : a ≠ e := fun z => by rw [z, h1] at gt; cases gt; exact absurd (Value.type.inj ct) (by decide)
    have ai : a ≠ it := fun z => by rw [z, gi] at gt; cases gt; rw [ci] at ct; exact absurd (Value.type.inj ct) (by decide)
    refine wpAny_pyNext_enum_itemD (drawsTup (A := X.A.in1) (I.ok.hd hc) it a ai its.toArray) h1 ⟨⟨oi, gi, ci, di⟩, ⟨ot, gt, ct, nt, dt⟩⟩ hlt ne (by simp [ne, ae.symm]) fun y h' tk hy out st gT sz keep => ?_
    rw [hu'] at hy
    cases hy
    have eT : e ≠ s.heap.objs.size := fun z => by rw [← z, out] at gT; exact absurd (Value.type.inj (congrArg Obj.cls (Option.some.inj gT))) (by decide)
    have iT : it ≠ s.heap.objs.size := fun z => by obtain ⟨o, g, c, _⟩ := st.1; rw [z, gT] at g; cases g; exact absurd (Value.type.inj c) (by decide)
    refine ⟨_, rfl, wpAny_letOwnedTupleGo_enum out fun h2 hE same => ⟨.ref s.heap.objs.size, upd H s.heap.objs.size (.tup [.int i, x]), ?_, rfl, ⟨_, x, rfl, I.fresh, rfl, fun ys hy => ?_⟩, ⟨⟨_, hE⟩, ?_, ne⟩, fun b hb => ?_⟩⟩
    · refine I.turnedNew (ch := [e, it]) (fun b o nb g => ?_) hf (Nat.le_refl _) ?_
      · have b1 : b ≠ e := fun z => nb (by rw [z]; exact List.mem_cons_self)
        have b2 : b ≠ it := fun z => nb (by rw [z]; exact List.mem_cons_of_mem _ List.mem_cons_self)
        exact (same.2 b b1).trans (keep b o b1 b2 g)
      · have g2 : h2.get? s.heap.objs.size = _ := (same.2 _ (Ne.symm eT)).trans gT
        exact ⟨by show 2 ≤ 16777216; decide, [.int i tk, u], .cons ⟨tk, rfl⟩ (.cons ru .nil), ⟨_, g2, rfl, _, rfl⟩⟩
    · rw [I.tuple_inj hy hx]
      exact hi
    · exact st.1.at fun o g => (same.2 it ne.symm).trans g
    · rcases List.mem_cons.mp hb with rfl | hb
      · rw [upd_ne eT]
        exact (hf _ List.mem_cons_self).1
      · rw [List.mem_singleton.mp hb, upd_ne iT]
        exact (hf it (List.mem_cons_of_mem _ List.mem_cons_self)).1
  done := fun X hP hw hK hc i pins s σ H E I hf ⟨⟨old, h1⟩, h2, ne⟩ ⟨xs, hx, hi⟩ => by
    subst hP hw hK
    obtain ⟨its, rv, ht, hl⟩ := I.tuple hx
    have hn : its.toArray[i]? = none := Array.getElem?_eq_none (by have := rv.length; simp; omega)
    have D : Draws X.prog X.w X.A.in1 it [it, a] i (fun _ _ => True) (fun j h => j = i ∧ h.IsTupleIter it a i ∧ h.IsTuple a its.toArray) :=
      { live := fun j h z => z.2.1.imp fun o y => y.1
        frame := fun j h h' z k => ⟨z.1, z.2.1.at fun o g => k it List.mem_cons_self o g, z.2.2.imp fun o y => ⟨k a (List.mem_cons_of_mem _ List.mem_cons_self) o y.1, y.2⟩⟩
        item := fun j s Q E hj z _ => absurd z.1 (Nat.ne_of_lt hj)
        done := fun s Q E z k => nextOf_tup_end (I.ok.hd hc) z.2.1 z.2.2 hn k }
    refine wpAny_pyNext_enum_endD D h1 ⟨rfl, h2, ht⟩ fun h' ext => ⟨rfl, I.turnedL (ch := [e, it]) (fun b o nb g => ext b o (fun z => nb (by rw [z]; exact List.mem_cons_of_mem _ List.mem_cons_self)) g) hf⟩
  self := fun A i s Q E ⟨⟨old, h1⟩, h2, ne⟩ q => wpAny_pyIter_enum h1 q
def iEnumT (K : PySem.W.Frag) (ta : TE) : TI := fun σ H R => ta σ H fun x H1 => ∃ (a : Addr) (xs : List V), x = .ref a ∧ SqT K H1 a xs ∧ R (IteT K a) H1
theorem pi_enumT {X : Cx} {e : Expr} {ta : TE} {p pos tpos : Pos} {elts : List Expr} {kk : Nat} (hg : Gl X "enumerate") (hm : X.mg "enumerate" = none) (ha : PE X e ta)
    (na : starEach [e] X.env = (false, eval e X.env) :: starEach [] X.env := by rfl) : PI X (.Tuple elts kk tpos) (.Call (.Name "enumerate" p) [e] [] pos) (iEnumT X.K ta) := by
  refine ⟨fun pins s σ H R I h => ?_⟩
  refine Call_ (ld_blt I hg hm PyProof.Rows.boot_enumerate (PyProof.Rows.callWith_type1 (PyProof.Rows.args_cons (thn (ha.run pins s σ H _ I h) fun v s1 ⟨x, H1, J, rx, z⟩ => PyProof.Rows.args_nil ?_) na) na rfl))
  obtain ⟨a, xs, rfl, hx, q⟩ := z
  cases rx
  obtain ⟨its, rv, ht, hl⟩ := J.tuple hx
  refine call_enumT ht fun h' hE hI sz kp => wpAny_pyIter_enum hE ?_
  have J2 : Inv X pins σ H1 { s1 with heap := h' } := J.kept fun b o e => kp b o e
  have f1 : H1 s1.heap.objs.size = none := J.fresh
  have J1 : Inv X pins σ H1 { s1 with heap := s1.heap.push { cls := .type "tuple", data := .seq #[] } } := J.kept fun b o e => Heap.get?_push_of_some _ e
  have f2 : H1 (s1.heap.objs.size + 1) = none := by
    have := J1.fresh
    rw [show (s1.heap.push { cls := .type "tuple", data := .seq #[] }).objs.size = s1.heap.objs.size + 1 from Array.size_push _] at this
    exact this
  refine ⟨_, [s1.heap.objs.size + 1, s1.heap.objs.size], _, IteT X.K a, H1, rfl, J2, turn_enumT a _ _, ⟨⟨.none, hE⟩, hI, Nat.succ_ne_self _⟩, fun b hb => ?_, q⟩
  rcases List.mem_cons.mp hb with rfl | hb
  · exact J.fpOk (Nat.le_succ _) f2
  · rw [List.mem_singleton.mp hb]
    exact J.fpOk (Nat.le_refl _) f1
/-- enumerate of a tuple, for for_it and lc_it -/
theorem walk_enumT {K : PySem.W.Frag} {a : Addr} {xs : List V} : Walk (IteT K a) xs.length (fun H => SqT K H a xs) (YPair (fun i => some (V.int i)) fun i => xs[i]?) where
  goes := fun i H hi h => ⟨xs, xs[i], h, List.getElem?_eq_getElem hi⟩
  stops := fun H h => ⟨xs, h, Nat.le_refl _⟩
  yields := fun i H x H' hi h ⟨T, y, e, n, u, k⟩ => ⟨T, _, y, e, n, u, rfl, k xs h⟩
end L2

namespace Own
open PySem PySem.Spec PyProof.Rows L2
/-! ### levels: the numbers that some things have, and the things cut by them -/
section
variable {α : Type} [DecidableEq α]
def Lev (zs : List α) (f : α → Int) (ls : List Int) : Prop := ls.Pairwise (· < ·) ∧ ∀ k, k ∈ ls ↔ ∃ z ∈ zs, f z = k
def cutBy (zs : List α) (f : α → Int) (ls : List Int) : List (List α) := ls.map fun k => zs.filter fun z => decide (f z = k)
def pick (zs : List α) (f : α → Int) (g : α → Int) (k : Int) : Int := match zs.find? fun z => decide (f z = k) with
  | some z => g z
  | none => 0
/-- the place of the first part that has it -/
def place : List (List α) → α → Nat
  | [], _ => 0
  | t :: ts, z => if z ∈ t then 0 else place ts z + 1
theorem place_out {z : α} : ∀ {ts : List (List α)}, z ∉ ts.flatten → place ts z = ts.length
  | [], _ => rfl
  | t :: ts, h => by
    have h : z ∉ t ++ ts.flatten := h
    unfold place
    rw [if_neg (fun e => h (List.mem_append_left _ e)), place_out (ts := ts) fun e => h (List.mem_append_right _ e)] <;> rfl
theorem place_at {z : α} : ∀ {ts : List (List α)} {i : Nat} {t : List α}, ts.flatten.Nodup → ts[i]? = some t → z ∈ t → place ts z = i
  | [], i, t, _, h, _ => by cases h
  | s :: ts, 0, t, _, h, hz => by
    cases h
    unfold place
    rw [if_pos hz]
  | s :: ts, i + 1, t, n, h, hz => by
    have n : (s ++ ts.flatten).Nodup := n
    have n2 := List.nodup_append.mp n
    have ht : ts[i]? = some t := h
    have hf : z ∈ ts.flatten := List.mem_flatten.mpr ⟨t, List.mem_of_getElem? ht, hz⟩
    unfold place
    rw [if_neg (fun e => n2.2.2 z e z hf rfl), place_at n2.2.1 ht hz]
end
theorem nodup_out {α : Type} : ∀ {l : List α}, l.Nodup → ∀ {i : Nat} {z : α}, l[i]? = some z → z ∉ l.take i
  | [], _, i, z, h => by cases h
  | a :: l, n, 0, z, h => by rw [List.take_zero]; exact fun q => nomatch q
  | a :: l, n, i + 1, z, h => by
    have n2 := List.nodup_cons.mp n
    have h : l[i]? = some z := h
    rw [List.take_succ_cons]
    intro q
    rcases List.mem_cons.mp q with e | q
    · exact n2.1 (e ▸ List.mem_of_getElem? h)
    · exact nodup_out n2.2 h q
/-! ### a dict of names, each with its number -/
def tab (zs : List Str) (f : Str → Int) : List (Key × V) := zs.map fun z => (.inr z, .int (f z))
theorem tab_val (f : Str → Int) (z : Str) : ∀ zs : List Str, valV (tab zs f) (.inr z) = if z ∈ zs then some (.int (f z)) else none
  | [] => rfl
  | a :: zs => by
    by_cases e : a = z
    · subst e
      rw [if_pos List.mem_cons_self]
      exact valV_pos (p := (Sum.inr a, V.int (f a))) (r := tab zs f) rfl
    · have h : valV (tab (a :: zs) f) (.inr z) = valV (tab zs f) (.inr z) := valV_neg (p := (Sum.inr a, V.int (f a))) (r := tab zs f) (fun q => e (Sum.inr.inj q))
      rw [h, tab_val f z zs]
      by_cases m : z ∈ zs
      · rw [if_pos m, if_pos (List.mem_cons_of_mem _ m)]
      · rw [if_neg m, if_neg (fun q => (List.mem_cons.mp q).elim (fun q => e q.symm) m)]
theorem tab_len (zs : List Str) (f : Str → Int) : (tab zs f).length = zs.length := List.length_map ..
theorem tab_congr {zs : List Str} {f g : Str → Int} (h : ∀ z ∈ zs, f z = g z) : tab zs f = tab zs g := List.map_congr_left fun z hz => by rw [h z hz]
theorem tab_new {zs : List Str} {f : Str → Int} {z : Str} {n : Int} (h : z ∉ zs) (e : n = f z) : putK (tab zs f) (.inr z) (.int n) = tab (zs ++ [z]) f := by
  rw [putK_new _ (by rw [tab_val, if_neg h]), e]
  unfold tab
  rw [List.map_append]
  rfl
theorem tab_put {zs : List Str} {f : Str → Int} {z : Str} {n : Int} (h : z ∈ zs) : putK (tab zs f) (.inr z) (.int n) = tab zs (fun y => if y = z then n else f y) := by
  have a : ((tab zs f).any fun kv => decide (kv.1 = (.inr z : Key))) = true := by rw [valV_any, tab_val, if_pos h]; rfl
  unfold putK
  rw [if_pos a]
  unfold tab
  rw [List.map_map]
  refine List.map_congr_left fun y _ => ?_
  show (if (Sum.inr y : Key) = .inr z then ((Sum.inr y : Key), V.int n) else (.inr y, .int (f y))) = (.inr y, .int (if y = z then n else f y))
  by_cases e : y = z
  · rw [if_pos (congrArg Sum.inr e), if_pos e]
  · rw [if_neg (fun q => e (Sum.inr.inj q)), if_neg e]
end Own

/-! name = {k: v for ..} on one line, the name a local. -/
namespace Own
open PySem PySem.Spec PyProof.Rows L2
theorem swD_true {kx vx : Expr} {gs : List Comprehension} {scope : Scope} {pos py : Pos} {y : Str} {l : Nat} {env : Env} (fn : env.scope.kind = .function) (loc : env.scope.names.lookup y = some .local) (row : (py.line == pos.line) = true)
    (out : (scope.names.any fun (n, k) => n == y && (k == .local || k == .cell)) = false) : swapsWith (.DictComp kx vx gs scope pos) (some (.Name y py)) l env = pure true := by
  have kind : env.kindOf y = some .local := loc
  have block : env.blockKind = .function := by rw [Env.blockKind, fn] <;> rfl
  unfold swapsWith
  simp only [block, kind, out, Expr.pos, row]
  rfl
section
variable {X : Cx} {i : Nat} {y : Str} {py : Pos} {kx vx tg iter : Expr} {ifs : List Expr} {scope : Scope} {own : List (Str × Nat)} {pos spos : Pos} {wi : TI} {g : TG} {tt : TT} {tk tv : TE}
theorem ps_setDc (hc : X.calm = true) (hN : X.N.Nodup) (hy : X.N[i]? = some y) (hyl : X.env.scope.names.lookup y = some .local) (hsw : swapsWith (.DictComp kx vx [⟨tg, iter, ifs, 0⟩] scope pos) (some (.Name y py)) spos.line X.env = pure true)
    (hi : PI X tg iter wi) (ok : BlkOk X.N X.env.scope scope own)
    (hg : ∀ (s : Shared) (H : Hp) (C : Addr) (cl : List (Str × Addr)) (fp : List Addr), PG (X.blk s H scope (compEnvC scope cl C X.env) fp) tg g)
    (ht : ∀ (s : Shared) (H : Hp) (C : Addr) (cl : List (Str × Addr)) (fp : List Addr), PTs (X.blk s H scope (compEnvC scope cl C X.env) fp) ifs tt)
    (hk : ∀ (s : Shared) (H : Hp) (C : Addr) (cl : List (Str × Addr)) (fp : List Addr), PE (X.blk s H scope (compEnvC scope cl C X.env) fp) kx tk)
    (he : ∀ (s : Shared) (H : Hp) (C : Addr) (cl : List (Str × Addr)) (fp : List Addr), PE (X.blk s H scope (compEnvC scope cl C X.env) fp) vx tv) (hs : ∀ x, foldedSetIterable iter X.env x = pure x := by intro _; rfl) :
    PS X (.Assign [.Name y py] (.DictComp kx vx [⟨tg, iter, ifs, 0⟩] scope pos) spos) (tAsg (tDc wi g tt tk tv (own.map (·.2))) (gName i)) := by
  refine ⟨fun pins s σ H D I given => ?_⟩
  rw [exec_Assign_Name_used _ _ _ _ hsw]
  refine wpAny_bind (wpAny_standAt (wpAny_bind (wpAny_bind ?_)))
  have given : tDc wi g tt tk tv (own.map (·.2)) σ H (fun x H1 => gName i x σ H1 D.nx) := given
  refine thn (dc_core (use := some (assign (.Name y py) X.env)) (Qf := fun _ s' => SP X pins D .next s') hc hN I hi ok hg ht hk he hs given ?_) fun _ s' done => wpAny_pure (wpAny_pure done)
  intro L C s' m H' J next held ⟨c0, c1, c2, c3, c4, c5⟩
  refine wpAny_assign_Name (store_ok2 (v := V.ref L) J hN hy (.inl hyl) rfl (fun s2 J2 ⟨a, same, which⟩ => ?_) (.inr hyl))
  have apart : C ≠ a := which.elim (fun z => by rw [z]; exact c1) fun z e => c4 y a z e.symm
  exact ⟨m, held.sameBut same apart, fun h3 sb => ⟨_, H', J2.turned (t' := s2.toks) (fun b o hb e => (sb.2 b hb).trans e) c0 c1 c3 c4 c5, next⟩⟩
end
end Own

/-! {k: v for a in xs if .. for b in ys if ..}, whatever the keys are. -/
namespace Own
open PySem PySem.Spec PyProof.Rows L2
section
variable {X : Cx} {pins : List (Addr × Obj)} {σ : L2.St} {H H' : Hp} {s : Shared} {E : Value → Shared → Prop} {D : Addr} {y v : V} {u r : Value} {Q : Unit → Shared → Prop}
/-- d[y] = v by a comprehension -/
theorem put_dict (room : X.A.units + 1 < cLine) (I : Inv X pins σ H s) (g : DPut H D y v H') (ry : RelV y u) (rv : RelV v r) (k : ∀ s', Inv X pins σ H' s' → Q () s') : wpAny (model X.prog X.w) X.A (dictSet D u r) Q E s := by
  rcases g with ⟨kvs, key, here, rfl, len, rfl⟩ | ⟨kvs, key, b, here, rfl, tup, len, rfl⟩
  · exact d_dictSet I here len ry rv k
  · cases ry
    obtain ⟨_, notMods, xs, rel, isDict⟩ := dt_of I.hok here
    have le := Paired.length rel
    have grow := length_putK kvs key v
    refine wpAny_dictSet_heap (hsz := by omega) (show X.A.units < cLine by omega) (key_of I.hok tup) isDict fun h' dd sb => k _ ?_
    obtain ⟨o, es, ep, ho, z2, z3, z4, _, z5⟩ := dd
    refine d_write I (by rw [here]; exact True.intro) sb ⟨o, ho⟩ ⟨by omega, notMods, _, (rel.put key tup rv).keeps fun c ys e => ?_, o, es, ep, ho, z2, z3, z4, z5⟩
    rw [upd_ne (fun z => by rw [z, here] at e; cases e)]
    exact e
end
section
variable {kx vx t0 i0 t1 i1 : Expr} {ifs0 ifs1 : List Expr} {scope : Scope} {pos : Pos} {it acc : Value} {env : Env} {D : Addr}
theorem turn_out : compTurn (.DictComp kx vx [⟨t0, i0, ifs0, 0⟩, ⟨t1, i1, ifs1, 0⟩] scope pos) 0 it acc env = (do
    standAt i0.pos
    match ← pyNext it with
    | none => pure (.done .next)
    | some item =>
      letOwnedTupleGo t0 it item
      assign t0 env item
      let mut go := true
      for t in ifs0 do
        if go then go ← isTrue t env (eval t env)
      if go then
        let xs ← eval i1 env
        standAt i1.pos
        let xs ← foldedSetIterable i1 env xs
        let _ ← runOwn (.compStart (.DictComp kx vx [⟨t0, i0, ifs0, 0⟩, ⟨t1, i1, ifs1, 0⟩] scope pos) 1 (← holding [xs] (pyIter xs)) acc env) env
      again (.compLoop (.DictComp kx vx [⟨t0, i0, ifs0, 0⟩, ⟨t1, i1, ifs1, 0⟩] scope pos) 0 it acc env)) := by rfl
theorem turn_in : compTurn (.DictComp kx vx [⟨t0, i0, ifs0, 0⟩, ⟨t1, i1, ifs1, 0⟩] scope pos) 1 it (.ref D) env = (do
    standAt i1.pos
    match ← pyNext it with
    | none => pure (.done .next)
    | some item =>
      letOwnedTupleGo t1 it item
      assign t1 env item
      let mut go := true
      for t in ifs1 do
        if go then go ← isTrue t env (eval t env)
      if go then
        (do
          let key ← eval kx env
          let val ← holding [key] (eval vx env)
          standAt { kx.pos with endLine := vx.pos.endLine, endCol := vx.pos.endCol }
          holding [key, val] (dictSet D key val))
      again (.compLoop (.DictComp kx vx [⟨t0, i0, ifs0, 0⟩, ⟨t1, i1, ifs1, 0⟩] scope pos) 1 it (.ref D) env)) := by rfl
end
section
variable {prog : Program} {w : World} {A : Around} {R : Result → Shared → Prop} {s : Shared} {kx vx t0 i0 t1 i1 : Expr} {ifs0 ifs1 : List Expr} {scope : Scope} {pos : Pos} {it acc : Value} {env : Env} {D : Addr}
/-- what an error within the comprehension comes to -/
abbrev Fell (prog : Program) (w : World) (A : Around) (env : Env) (R : Result → Shared → Prop) : Value → Shared → Prop := notedBy (model prog w) A env fun e s' => R (.error e) s'
/-- the tests of a clause -/
abbrev tests (ts : List Expr) (env : Env) : Sem Bool := forIn ts true fun t go => if go = true then do let ok ← isTrue t env (eval t env); pure (ForInStep.yield ok) else pure (ForInStep.yield go)
theorem loop_out (noFold : ∀ x, foldedSetIterable i1 env x = pure x) (Inn : Nat → Shared → Prop)
    (step : ∀ n s, Inn n s → wpAny (model prog w) A (pyNext it) (fun got s₁ => match got with
      | none => R (.ok .next) s₁
      | some x => wpAny (model prog w) A (letOwnedTupleGo t0 it x) (fun _ s₂ => wpAny (model prog w) A (assign t0 env x) (fun _ s₃ => wpAny (model prog w) A (tests ifs0 env) (fun go s₄ =>
          if go = true then wpAny (model prog w) A (eval i1 env) (fun xs s₅ => wpAny (model prog w) A (pyIter xs) (fun inner s₆ =>
            codeAny (model prog w) A (.compStart (.DictComp kx vx [⟨t0, i0, ifs0, 0⟩, ⟨t1, i1, ifs1, 0⟩] scope pos) 1 inner acc env) (fun res s' => match res with
              | .ok _ => ∃ m, m < n ∧ Inn m s'
              | .error _ => False) s₆) (Fell prog w A env R) s₅) (Fell prog w A env R) s₄
          else ∃ m, m < n ∧ Inn m s₄) (Fell prog w A env R) s₃) (Fell prog w A env R) s₂) (Fell prog w A env R) s₁) (Fell prog w A env R) s)
    (n : Nat) (start : Inn n s) : codeAny (model prog w) A (.compLoop (.DictComp kx vx [⟨t0, i0, ifs0, 0⟩, ⟨t1, i1, ifs1, 0⟩] scope pos) 0 it acc env) R s := by
  refine codeAny_loop rfl Inn (fun n s now => ?_) n start
  show wpAny _ A ((compTurn (.DictComp kx vx [⟨t0, i0, ifs0, 0⟩, ⟨t1, i1, ifs1, 0⟩] scope pos) 0 it acc env).onRaise (fun e => do noteFrame e env; theTreesLotGoes e)) _ _ s
  refine wpAny_noted ?_
  rw [turn_out]
  refine wpAny_bind (wpAny_standAt (wpAny_bind (wpAny_mono (step n s now) ?_ fun _ _ z => z)))
  rintro (_ | x) s₁ z₁
  · exact wpAny_pure z₁
  · refine wpAny_bind (wpAny_mono z₁ (fun _ s₂ z₂ => wpAny_bind (wpAny_mono z₂ (fun _ s₃ z₃ => wpAny_bind (wpAny_mono z₃ ?_ fun _ _ z => z)) fun _ _ z => z)) fun _ _ z => z)
    rintro (_ | _) s₄ z₄
    · exact wpAny_pure ⟨rfl, z₄⟩
    · refine wpAny_bind (wpAny_mono z₄ (fun xs s₅ z₅ => ?_) fun _ _ z => z)
      refine wpAny_bind (wpAny_standAt (wpAny_bind (wpAny_of_eq (noFold xs) (wpAny_bind (wpAny_holding (wpAny_mono z₅ (fun inner s₆ z₆ => ?_) fun _ _ z => z))))))
      refine wpAny_bind (wpAny_runOwn ?_)
      rw [Around.mark_none]
      refine codeAny_mono z₆ ?_
      rintro (e | f) s' done
      · exact done.elim
      · first
          | exact wpAny_pure ⟨rfl, done⟩
          | exact wpAny_bind (wpAny_pure (wpAny_pure ⟨rfl, done⟩))
theorem loop_in (Inn : Nat → Shared → Prop)
    (step : ∀ n s, Inn n s → wpAny (model prog w) A (pyNext it) (fun got s₁ => match got with
      | none => R (.ok .next) s₁
      | some x => wpAny (model prog w) A (letOwnedTupleGo t1 it x) (fun _ s₂ => wpAny (model prog w) A (assign t1 env x) (fun _ s₃ => wpAny (model prog w) A (tests ifs1 env) (fun go s₄ =>
          if go = true then wpAny (model prog w) A (eval kx env) (fun key s₅ => wpAny (model prog w) A (eval vx env) (fun val s₆ =>
            wpAny (model prog w) A (dictSet D key val) (fun _ s₇ => ∃ m, m < n ∧ Inn m s₇) (Fell prog w A env R) s₆) (Fell prog w A env R) s₅) (Fell prog w A env R) s₄
          else ∃ m, m < n ∧ Inn m s₄) (Fell prog w A env R) s₃) (Fell prog w A env R) s₂) (Fell prog w A env R) s₁) (Fell prog w A env R) s)
    (n : Nat) (start : Inn n s) : codeAny (model prog w) A (.compLoop (.DictComp kx vx [⟨t0, i0, ifs0, 0⟩, ⟨t1, i1, ifs1, 0⟩] scope pos) 1 it (.ref D) env) R s := by
  refine codeAny_loop rfl Inn (fun n s now => ?_) n start
  show wpAny _ A ((compTurn (.DictComp kx vx [⟨t0, i0, ifs0, 0⟩, ⟨t1, i1, ifs1, 0⟩] scope pos) 1 it (.ref D) env).onRaise (fun e => do noteFrame e env; theTreesLotGoes e)) _ _ s
  refine wpAny_noted ?_
  rw [turn_in]
  refine wpAny_bind (wpAny_standAt (wpAny_bind (wpAny_mono (step n s now) ?_ fun _ _ z => z)))
  rintro (_ | x) s₁ z₁
  · exact wpAny_pure z₁
  · refine wpAny_bind (wpAny_mono z₁ (fun _ s₂ z₂ => wpAny_bind (wpAny_mono z₂ (fun _ s₃ z₃ => wpAny_bind (wpAny_mono z₃ ?_ fun _ _ z => z)) fun _ _ z => z)) fun _ _ z => z)
    rintro (_ | _) s₄ z₄
    · exact wpAny_pure ⟨rfl, z₄⟩
    · exact wpAny_bind (wpAny_bind (wpAny_mono z₄ (fun key s₅ z₅ => wpAny_bind (wpAny_holding (wpAny_mono z₅ (fun val s₆ z₆ => wpAny_bind (wpAny_standAt (wpAny_holding (wpAny_mono z₆ (fun _ s₇ z₇ => wpAny_pure ⟨rfl, z₇⟩) fun _ _ z => z)))) fun _ _ z => z))) fun _ _ z => z))
theorem start_in (self : codeAny (model prog w) A (.compLoop (.DictComp kx vx [⟨t0, i0, ifs0, 0⟩, ⟨t1, i1, ifs1, 0⟩] scope pos) 1 it acc env) R s)
    (anew : wpAny (model prog w) A (pyIter it) (fun it' s' => codeAny (model prog w) A (.compLoop (.DictComp kx vx [⟨t0, i0, ifs0, 0⟩, ⟨t1, i1, ifs1, 0⟩] scope pos) 1 it' acc env) R s') (Fell prog w A env R) s) :
    codeAny (model prog w) A (.compStart (.DictComp kx vx [⟨t0, i0, ifs0, 0⟩, ⟨t1, i1, ifs1, 0⟩] scope pos) 1 it acc env) R s := by
  refine codeAny_of_tree ?_
  show wpAny _ _ ((compStart (.DictComp kx vx [⟨t0, i0, ifs0, 0⟩, ⟨t1, i1, ifs1, 0⟩] scope pos) 1 it acc env).onRaise (fun e => do noteFrame e env; standAt theWindowsPlace)) _ _ s
  refine wpAny_notedAt ?_
  unfold compStart
  show wpAny _ _ (ask >>= _) _ _ s
  refine wpAny_bind (wpAny_askSetting (wpAny_ite ?_))
  split
  · first
      | exact wpAny_bind (wpAny_pure (wpAny_pure (And.intro rfl self)))
      | exact wpAny_pure (And.intro rfl self)
  · first
      | exact wpAny_bind (wpAny_rule (wpAny_bind (wpAny_standAt (wpAny_bind (wpAny_mono anew (fun it' s' z => wpAny_pure (And.intro rfl z)) fun _ _ z => z)))))
      | (refine wpAny_bind (wpAny_rule ?_); show wpAny _ _ (standAt i1.pos >>= _) _ _ s; exact wpAny_bind (wpAny_standAt (wpAny_bind (wpAny_mono anew (fun it' s' z => wpAny_pure (And.intro rfl z)) fun _ _ z => z))))
end
/-- within the comprehension's block -/
abbrev InBlk (X : Cx) (scope : Scope) (J : Cx → Prop) : Prop := ∀ (s : Shared) (H : Hp) (C : Addr) (cl : List (Str × Addr)) (fp : List Addr), J (X.blk s H scope (compEnvC scope cl C X.env) fp)
/-- {k: v for tg in iter if .. for tg1 in iter1 if ..}: D the new dict, of keys of the one sort or of the other -/
def tDc2 (e0 : HO) (wi : TI) (g : TG) (tt : TT) (wi1 : TI) (g1 : TG) (tt1 : TT) (tk tv : TE) (vs vs1 : List Nat) : TE := fun σ H Q => wi σ H fun J H1 => ∀ D, H1 D = none → ∃ W : Nat → Nat → Hp → Prop, (∃ m, W 0 m (upd H1 D e0)) ∧ ∀ i m H, W i m H →
  (J.stop i H ∧ Q (.ref D) H) ∨ (J.go i H ∧ ∃ Nx : Hp → Prop, (∀ H', Nx H' → ∃ m', m' < m ∧ W (i + 1) m' H') ∧ ∀ x H', J.yld i H x H' → g x (wipe σ vs) H' fun σ2 H2 => wipe σ2 vs = wipe σ vs ∧ tt σ2 H2 fun b H3 =>
    if b = true then wi1 σ2 H3 fun J1 H4 => ∃ W1 : Nat → Nat → Hp → Prop, (∃ m, W1 0 m H4) ∧ ∀ j k H, W1 j k H →
      (J1.stop j H ∧ Nx H) ∨ (J1.go j H ∧ ∃ Nx1 : Hp → Prop, (∀ H', Nx1 H' → ∃ k', k' < k ∧ W1 (j + 1) k' H') ∧ ∀ x H', J1.yld j H x H' → g1 x (wipe σ2 vs1) H' fun σ3 H5 => wipe σ3 vs1 = wipe σ2 vs1 ∧ tt1 σ3 H5 fun b H6 =>
        if b = true then tk σ3 H6 fun y H7 => tv σ3 H7 fun z H8 => ∃ H9, DPut H8 D y z H9 ∧ Nx1 H9 else Nx1 H6)
    else Nx H3)
section
variable {X : Cx} {pins : List (Addr × Obj)} {s : Shared} {σ : L2.St} {H : Hp} {Q : VK} {kx vx tg iter tg1 iter1 : Expr} {ifs ifs1 : List Expr} {scope : Scope} {own : List (Str × Nat)} {vs1 : List Nat} {pos pos' : Pos} {wi wi1 : TI} {g g1 : TG} {tt tt1 : TT} {tk tv : TE} {e0 : HO}
  {use : Option (Value → Sem Unit)} {Qf : Value → Shared → Prop}
theorem dc2_core (he0 : e0 = .dK [] ∨ e0 = .dT []) (room : X.A.units + 1 < cLine) (calm : X.calm = true) (nd : X.N.Nodup) (I : Inv X pins σ H s) (src : PI X tg iter wi) (ok : BlkOk X.N X.env.scope scope own) (sub : ∀ i ∈ vs1, i ∈ own.map (·.2))
    (hg : InBlk X scope fun B => PG B tg g) (ht : InBlk X scope fun B => PTs B ifs tt) (src1 : InBlk X scope fun B => PI B tg1 iter1 wi1) (hg1 : InBlk X scope fun B => PG B tg1 g1) (ht1 : InBlk X scope fun B => PTs B ifs1 tt1)
    (hk : InBlk X scope fun B => PE B kx tk) (hv : InBlk X scope fun B => PE B vx tv) (noFold : ∀ x, foldedSetIterable iter X.env x = pure x) (noFold1 : ∀ env x, foldedSetIterable iter1 env x = pure x)
    (given : tDc2 e0 wi g tt wi1 g1 tt1 tk tv (own.map (·.2)) vs1 σ H Q)
    (after : ∀ D C s' m H', Inv X pins σ H' s' → Q (.ref D) H' → s'.heap.Ns C m → FpOk X pins H' C → compPost (model X.prog X.w) X.A X.xe use Qf (.ref D) C (.ok .next) s') :
    wpAny (model X.prog X.w) X.A (comprehension (.DictComp kx vx [⟨tg, iter, ifs, 0⟩, ⟨tg1, iter1, ifs1, 0⟩] scope pos) scope X.env pos' newDict false (eval iter X.env) use) Qf X.xe s := by
  have caught : ∀ y ∈ scope.names, y.2 = .free → ∃ c, X.env.cells.lookup y.1 = some c := fun y hy e => (ok.free y hy e).elim (fun k => I.ok.has _ (.inl k)) fun k => I.ok.has _ (.inr k)
  refine wpAny_comprehension_free (use := use) rfl noFold (closure_ok caught) ok.kind (fun y hy e => by rw [ok.uniq y hy, e]) (thn (src.run pins s σ H _ I given) fun xv s1 z1 => thn z1 fun itv s2 z2 => ?_)
  obtain ⟨it, fp, tn, J, H2, rfl, I2, T, st2, f2, q⟩ := z2
  refine wpAny_newObj_type (newEnv_comp ?_)
  generalize hD : s2.heap.objs.size = D
  obtain ⟨W, ⟨m0, w0⟩, turn⟩ := q D (I2.hok.fresh (Nat.le_of_eq hD))
  generalize hs3 : ({ s2 with heap := s2.heap.push { cls := .type "dict", data := .dict #[] } } : Shared) = s3
  have I3 : Inv X pins σ (upd H2 D e0) s3 := by
    rw [← hs3]
    refine I2.laid (t' := s2.toks) (fun b o e => Heap.get?_push_of_some _ e) (Nat.le_of_eq hD) ?_
    rw [← hD]
    rcases he0 with rfl | rfl
    · exact dk_empty s2.heap I2.big
    · exact dt_empty s2.heap I2.big
  have grown : s3.heap = s2.heap.push { cls := .type "dict", data := .dict #[] } := by rw [← hs3]
  have f3 : ∀ b ∈ fp, FpOk X pins (upd H2 D e0) b ∧ b < s3.heap.objs.size := fun b hb => by
    obtain ⟨o, e, _⟩ := T.obj _ _ st2 b hb
    have lt := Heap.lt_size e
    refine ⟨⟨?_, (f2 b hb).2⟩, by rw [grown, Heap.size_push]; exact Nat.lt_succ_of_lt lt⟩
    rw [upd_ne (by rw [← hD]; exact Nat.ne_of_lt lt)]
    exact (f2 b hb).1
  have st3 : tn 0 s3.heap := T.keep _ _ _ st2 fun b _ o e => by rw [grown]; exact Heap.get?_push_of_some _ e
  have I4 := block_start I3 ok nd f3
  generalize hcl : cellsFrom (s3.heap.objs.size + 1) scope.names (cloFrom X.env.cells scope.names []) = cl at I4 ⊢
  have pg := hg s3 (upd H2 D e0) s3.heap.objs.size cl fp
  have pt := ht s3 (upd H2 D e0) s3.heap.objs.size cl fp
  have ps1 := src1 s3 (upd H2 D e0) s3.heap.objs.size cl fp
  have pg1 := hg1 s3 (upd H2 D e0) s3.heap.objs.size cl fp
  have pt1 := ht1 s3 (upd H2 D e0) s3.heap.objs.size cl fp
  have pk := hk s3 (upd H2 D e0) s3.heap.objs.size cl fp
  have pv' := hv s3 (upd H2 D e0) s3.heap.objs.size cl fp
  show codeAny _ _ (.compStart (.DictComp kx vx [⟨tg, iter, ifs, 0⟩, ⟨tg1, iter1, ifs1, 0⟩] scope pos) 0 (.ref it) (.ref D) (compEnvC scope cl s3.heap.objs.size X.env)) (compPost (model X.prog X.w) X.A X.xe use Qf (.ref D) s3.heap.objs.size) { s3 with heap := pushCells (s3.heap.push { cls := .type "dict", data := .dict #[] }) scope.names }
  have nfp : ∀ b ∈ fp, (upd H2 D e0) b = none := fun b hb => (f3 b hb).1.1
  generalize hce : compEnvC scope cl s3.heap.objs.size X.env = ce at I4 pg pt ps1 pg1 pt1 pk pv' ⊢
  have cL : ce.locals = s3.heap.objs.size := by rw [← hce] <;> rfl
  generalize hH3 : upd H2 D e0 = H3 at I3 I4 pg pt ps1 pg1 pt1 pk pv' w0 nfp f3
  generalize hs4 : ({ s3 with heap := pushCells (s3.heap.push { cls := .type "dict", data := .dict #[] }) scope.names } : Shared) = s4 at I4 ⊢
  have st4 : tn 0 s4.heap := T.keep _ _ _ st3 fun b _ o e => by rw [← hs4]; exact pushCells_keeps _ _ _ _ (Heap.get?_push_of_some _ e)
  have still : ∀ {σ' : L2.St} {H' : Hp} {s' : Shared}, Inv (X.blk s3 H3 scope ce fp) [] σ' H' s' → (∀ b ∈ fp, H' b = none) → ∀ b ∈ fp, FpOk (X.blk s3 H3 scope ce fp) [] H' b := fun {σ' H' s'} I' out b hb =>
    ⟨out b hb, (I'.ok.exf b hb).1, I'.ok.exfs b hb, .inl hb, fun x c e => (I'.ok.exf b hb).2 x c e, fun p hp => absurd (show p ∈ ([] : List (Addr × Obj)) ++ [] from hp) (by simp)⟩
  have loop : codeAny (model X.prog X.w) X.A (.compLoop (.DictComp kx vx [⟨tg, iter, ifs, 0⟩, ⟨tg1, iter1, ifs1, 0⟩] scope pos) 0 (.ref it) (.ref D) ce) (compPost (model X.prog X.w) X.A X.xe use Qf (.ref D) s3.heap.objs.size) s4 := by
    refine loop_out (noFold1 ce) (fun n s' => ∃ i H', Inv (X.blk s3 H3 scope ce fp) [] (wipe σ (own.map (·.2))) H' s' ∧ tn i s'.heap ∧ (∀ b ∈ fp, H' b = none) ∧ W i n H') ?_ m0 ⟨0, H3, I4, st4, nfp, w0⟩
    rintro n s5 ⟨i, H5, I5, st5, n5, w5⟩
    rcases turn i n H5 w5 with ⟨stop, told⟩ | ⟨go, Nx, less, step⟩
    · refine thnF (T.done (X.blk s3 H3 scope ce fp) rfl rfl rfl calm i [] s5 _ H5 (fun _ _ => False) I5 (still I5 n5) st5 stop) fun r s6 ⟨hr, I6⟩ => ?_
      subst hr
      have I7 : Inv X pins σ H5 s6 := I3.call' (ch := fp) I6.os I6.base I6.hok I6.bare fun b hb => ⟨(f3 b hb).1.2.2.2.1, (f3 b hb).1.2.1, (f3 b hb).1.2.2.2.2.1, (f3 b hb).1.2.2.2.2.2⟩
      have nC : H5 s3.heap.objs.size = none := by
        rw [← cL]
        exact I6.free
      obtain ⟨m, held, _⟩ := I6.loc
      have held : s6.heap.Ns ce.locals m := held
      rw [cL] at held
      exact after D s3.heap.objs.size s6 m H5 I7 told held (I3.fpOk (Nat.le_refl _) nC)
    · refine thnF (T.item (X.blk s3 H3 scope ce fp) rfl rfl rfl calm i [] s5 _ H5 (fun _ _ => False) I5 (still I5 n5) st5 go) fun r s6 ⟨u, hr, z6⟩ => ?_
      subst hr
      refine thnF z6 fun _ s7 ⟨x, H7, I7, r7, y7, st7, n7⟩ => ?_
      have I7' := I7.pinned (still I7 n7) (T.obj _ _ st7)
      refine thnF (pg.run _ s7 _ H7 x u _ I7' r7 (step x H7 y7)) fun _ s8 ⟨σ8, H8, I8, as8, q8⟩ => ?_
      refine thnF (pt.run _ s8 σ8 H8 _ I8 q8) fun b s9 ⟨H9, I9, q9⟩ => ?_
      -- back at the loop's head, from whatever slots
      have head : ∀ {σ9 : L2.St} {s' : Shared} {H' : Hp}, Inv (X.blk s3 H3 scope ce fp) ([] ++ pinsAt fp s7.heap) σ9 H' s' → (wipe σ (own.map (·.2))).length = σ9.length → (∀ (j : Nat) v, (wipe σ (own.map (·.2)))[j]? = some (some v) → σ9[j]? = some (some v)) → Nx H' →
          ∃ m, m < n ∧ ∃ i H', Inv (X.blk s3 H3 scope ce fp) [] (wipe σ (own.map (·.2))) H' s' ∧ tn i s'.heap ∧ (∀ b ∈ fp, H' b = none) ∧ W i m H' := fun {σ9 s' H'} I' len keep nx => by
        obtain ⟨m', lt, w'⟩ := less H' nx
        have there : ∀ b ∈ fp, ∀ o, s7.heap.get? b = some o → s'.heap.get? b = some o ∧ H' b = none := fun b hb o e =>
          have z := I'.pin (b, o) (List.mem_append_right _ (List.mem_append_right _ (mem_pinsAt hb e)))
          ⟨z.1, z.2.1⟩
        refine ⟨m', lt, i + 1, H', (I'.unpinned (pins := [])).weak len keep, T.keep _ _ _ st7 fun b hb o e => (there b hb o e).1, fun b hb => ?_, w'⟩
        obtain ⟨o, e, _⟩ := T.obj _ _ st7 b hb
        exact (there b hb o e).2
      have len8 : (wipe σ (own.map (·.2))).length = σ8.length := by rw [← as8, wipe_length]
      have keep8 : ∀ (j : Nat) v, (wipe σ (own.map (·.2)))[j]? = some (some v) → σ8[j]? = some (some v) := fun j v e => (wipe_some (by rw [as8]; exact e)).1
      have keep9 : ∀ (j : Nat) v, (wipe σ (own.map (·.2)))[j]? = some (some v) → (wipe σ8 vs1)[j]? = some (some v) := fun j v e => by
        obtain ⟨z1, z2⟩ := wipe_some (by rw [as8]; exact e)
        exact (wipe_out fun z => z2 (sub j z)).trans z1
      cases b with
      | false =>
        simp only [Bool.false_eq_true, if_false] at q9 ⊢
        exact head I9 len8 keep8 q9
      | true =>
        simp only [if_true] at q9 ⊢
        refine thnF (ps1.run _ s9 σ8 H9 _ I9 q9) fun xv s10 z10 => thnF z10 fun itv s11 z11 => ?_
        obtain ⟨it1, fp1, tn1, J1, H11, rfl, I11, T1, st11, f11, W1, ⟨m1, w1⟩, turn1⟩ := z11
        have still1 : ∀ {H' : Hp}, (∀ b ∈ fp1, H' b = none) → ∀ b ∈ fp1, FpOk (X.blk s3 H3 scope ce fp) ([] ++ pinsAt fp s7.heap) H' b := fun out b hb => ⟨out b hb, (f11 b hb).2⟩
        have inner : codeAny (model X.prog X.w) X.A (.compLoop (.DictComp kx vx [⟨tg, iter, ifs, 0⟩, ⟨tg1, iter1, ifs1, 0⟩] scope pos) 1 (.ref it1) (.ref D) ce)
            (fun res s' => match res with
              | .ok _ => ∃ m, m < n ∧ ∃ i H', Inv (X.blk s3 H3 scope ce fp) [] (wipe σ (own.map (·.2))) H' s' ∧ tn i s'.heap ∧ (∀ b ∈ fp, H' b = none) ∧ W i m H'
              | .error _ => False) s11 := by
          refine loop_in (fun k s' => ∃ j H', Inv (X.blk s3 H3 scope ce fp) ([] ++ pinsAt fp s7.heap) (wipe σ8 vs1) H' s' ∧ tn1 j s'.heap ∧ (∀ b ∈ fp1, H' b = none) ∧ W1 j k H') ?_ m1 ⟨0, H11, I11.weak (wipe_length _ _) (fun j v e => (wipe_some e).1), st11, fun b hb => (f11 b hb).1, w1⟩
          rintro k s12 ⟨j, H12, I12, st12, n12, w12⟩
          rcases turn1 j k H12 w12 with ⟨stop1, nx1⟩ | ⟨go1, Nx1, less1, step1⟩
          · refine thnF (T1.done (X.blk s3 H3 scope ce fp) rfl rfl rfl calm j _ s12 (wipe σ8 vs1) H12 (fun _ _ => False) I12 (still1 n12) st12 stop1) fun r s13 ⟨hr, I13⟩ => ?_
            subst hr
            exact head I13 (len8.trans (wipe_length σ8 vs1).symm) keep9 nx1
          · refine thnF (T1.item (X.blk s3 H3 scope ce fp) rfl rfl rfl calm j _ s12 (wipe σ8 vs1) H12 (fun _ _ => False) I12 (still1 n12) st12 go1) fun r s13 ⟨u1, hr, z13⟩ => ?_
            subst hr
            refine thnF z13 fun _ s14 ⟨x1, H14, I14, r14, y14, st14, n14⟩ => ?_
            have I14' := I14.pinned (still1 n14) (T1.obj _ _ st14)
            refine thnF (pg1.run _ s14 (wipe σ8 vs1) H14 x1 u1 _ I14' r14 (step1 x1 H14 y14)) fun _ s15 ⟨σ15, H15, I15, as15, q15⟩ => ?_
            refine thnF (pt1.run _ s15 σ15 H15 _ I15 q15) fun b1 s16 ⟨H16, I16, q16⟩ => ?_
            have head1 : ∀ {s' : Shared} {H' : Hp}, Inv (X.blk s3 H3 scope ce fp) (([] ++ pinsAt fp s7.heap) ++ pinsAt fp1 s14.heap) σ15 H' s' → Nx1 H' →
                ∃ m, m < k ∧ ∃ j H', Inv (X.blk s3 H3 scope ce fp) ([] ++ pinsAt fp s7.heap) (wipe σ8 vs1) H' s' ∧ tn1 j s'.heap ∧ (∀ b ∈ fp1, H' b = none) ∧ W1 j m H' := fun {s' H'} I' nx => by
              obtain ⟨m', lt, w'⟩ := less1 H' nx
              have there : ∀ b ∈ fp1, ∀ o, s14.heap.get? b = some o → s'.heap.get? b = some o ∧ H' b = none := fun b hb o e =>
                have z := I'.pin (b, o) (List.mem_append_right _ (List.mem_append_right _ (mem_pinsAt hb e)))
                ⟨z.1, z.2.1⟩
              refine ⟨m', lt, j + 1, H', I'.unpinned.weak (by rw [← as15, wipe_length]) (fun j v e => (wipe_some (by rw [as15]; exact e)).1), T1.keep _ _ _ st14 fun b hb o e => (there b hb o e).1, fun b hb => ?_, w'⟩
              obtain ⟨o, e, _⟩ := T1.obj _ _ st14 b hb
              exact (there b hb o e).2
            cases b1 with
            | false =>
              simp only [Bool.false_eq_true, if_false] at q16 ⊢
              exact head1 I16 q16
            | true =>
              simp only [if_true] at q16 ⊢
              refine thnF (pk.run _ s16 σ15 H16 _ I16 q16) fun key s17 ⟨yk, H17, I17, r17, q17⟩ => ?_
              refine thnF (pv'.run _ s17 σ15 H17 _ I17 q17) fun val s18 ⟨yv, H18, I18, r18, H19, put, nx⟩ => ?_
              exact put_dict (X := X.blk s3 H3 scope ce fp) room I18 put r17 r18 fun s19 I19 => head1 I19 nx
        exact start_in inner (T1.self X.A 0 _ _ _ st11 inner)
  exact codeAny_compStart_dict loop (T.self X.A 0 _ _ _ st4 loop)
theorem pe_dc2 {pos : Pos} (he0 : e0 = .dK [] ∨ e0 = .dT []) (room : X.A.units + 1 < cLine) (calm : X.calm = true) (nd : X.N.Nodup) (src : PI X tg iter wi) (ok : BlkOk X.N X.env.scope scope own) (sub : ∀ i ∈ vs1, i ∈ own.map (·.2))
    (hg : InBlk X scope fun B => PG B tg g) (ht : InBlk X scope fun B => PTs B ifs tt) (src1 : InBlk X scope fun B => PI B tg1 iter1 wi1) (hg1 : InBlk X scope fun B => PG B tg1 g1) (ht1 : InBlk X scope fun B => PTs B ifs1 tt1)
    (hk : InBlk X scope fun B => PE B kx tk) (hv : InBlk X scope fun B => PE B vx tv) (noFold : ∀ x, foldedSetIterable iter X.env x = pure x := by intro _; rfl) (noFold1 : ∀ env x, foldedSetIterable iter1 env x = pure x := by intro _ _; rfl) :
    PE X (.DictComp kx vx [⟨tg, iter, ifs, 0⟩, ⟨tg1, iter1, ifs1, 0⟩] scope pos) (tDc2 e0 wi g tt wi1 g1 tt1 tk tv (own.map (·.2)) vs1) := by
  refine ⟨fun pins s σ H Q I given => ?_⟩
  rw [arm_eval_DictComp]
  refine dc2_core he0 room calm nd I src ok sub hg ht src1 hg1 ht1 hk hv noFold noFold1 given ?_
  intro D C s' m H' J told held ⟨c0, c1, c2, c3, c4, c5⟩
  exact ⟨m, held, fun h'' sb => ⟨.ref D, H', J.turned (t' := s'.toks) (fun b o hb e => (sb.2 b hb).trans e) c0 c1 c3 c4 c5, rfl, told⟩⟩
end
/-! both sources tuples -/
section
variable {K : PySem.W.Frag} {σ : L2.St} {D : Addr} {vs vs1 : List Nat}
/-- the second for, over a tuple that stays -/
theorem dIn_tup {b : Addr} {ys : List V} {g1 : TG} {tt1 : TT} {tk tv : TE} {H4 : Hp} {Nx : Hp → Prop} (Pw : Nat → Hp → Prop) (h0 : Pw 0 H4) (hl : ∀ j H, Pw j H → SqT K H b ys)
    (hs : ∀ j y H, ys[j]? = some y → Pw j H → g1 y (wipe σ vs1) H fun σ3 H5 => wipe σ3 vs1 = wipe σ vs1 ∧ tt1 σ3 H5 fun c H6 => if c = true then tk σ3 H6 fun y H7 => tv σ3 H7 fun z H8 => ∃ H9, DPut H8 D y z H9 ∧ Pw (j + 1) H9 else Pw (j + 1) H6)
    (hd : ∀ H, Pw ys.length H → Nx H) :
    ∃ W1 : Nat → Nat → Hp → Prop, (∃ m, W1 0 m H4) ∧ ∀ j k H, W1 j k H → ((Itt K b).stop j H ∧ Nx H) ∨ ((Itt K b).go j H ∧ ∃ Nx1 : Hp → Prop, (∀ H', Nx1 H' → ∃ k', k' < k ∧ W1 (j + 1) k' H') ∧
      ∀ x H', (Itt K b).yld j H x H' → g1 x (wipe σ vs1) H' fun σ3 H5 => wipe σ3 vs1 = wipe σ vs1 ∧ tt1 σ3 H5 fun c H6 => if c = true then tk σ3 H6 fun y H7 => tv σ3 H7 fun z H8 => ∃ H9, DPut H8 D y z H9 ∧ Nx1 H9 else Nx1 H6) := by
  refine ⟨fun j k H => k + j = ys.length ∧ Pw j H, ⟨ys.length, rfl, h0⟩, ?_⟩
  rintro j k H ⟨hk, p⟩
  cases k with
  | zero =>
    have e : j = ys.length := by omega
    rw [e] at p ⊢
    exact .inl ⟨⟨ys, hl _ _ p, Nat.le_refl _⟩, hd H p⟩
  | succ k =>
    have lt : j < ys.length := by omega
    refine .inr ⟨⟨ys, ys[j], hl _ _ p, List.getElem?_eq_getElem lt⟩, Pw (j + 1), fun H' p' => ⟨k, Nat.lt_succ_self _, by omega, p'⟩, ?_⟩
    rintro x H' ⟨rfl, y⟩
    exact hs j x _ (y ys (hl _ _ p)) p
/-- the first for -/
theorem dOut_tup {a : Addr} {xs : List V} {g g1 : TG} {tt tt1 : TT} {wi1 : TI} {e0 : HO} {tk tv : TE} {H1 : Hp} {Qd : Hp → Prop} (Pv : Nat → Hp → Prop) (h0 : Pv 0 (upd H1 D e0)) (hl : ∀ i H, Pv i H → SqT K H a xs)
    (hs : ∀ i x H, xs[i]? = some x → Pv i H → g x (wipe σ vs) H fun σ2 H2 => wipe σ2 vs = wipe σ vs ∧ tt σ2 H2 fun c H3 => if c = true then wi1 σ2 H3 fun J1 H4 => ∃ W1 : Nat → Nat → Hp → Prop, (∃ m, W1 0 m H4) ∧ ∀ j k H, W1 j k H → (J1.stop j H ∧ Pv (i + 1) H) ∨ (J1.go j H ∧ ∃ Nx1 : Hp → Prop, (∀ H', Nx1 H' → ∃ k', k' < k ∧ W1 (j + 1) k' H') ∧
      ∀ x H', J1.yld j H x H' → g1 x (wipe σ2 vs1) H' fun σ3 H5 => wipe σ3 vs1 = wipe σ2 vs1 ∧ tt1 σ3 H5 fun c H6 => if c = true then tk σ3 H6 fun y H7 => tv σ3 H7 fun z H8 => ∃ H9, DPut H8 D y z H9 ∧ Nx1 H9 else Nx1 H6) else Pv (i + 1) H3)
    (hd : ∀ H, Pv xs.length H → Qd H) :
    ∃ W : Nat → Nat → Hp → Prop, (∃ m, W 0 m (upd H1 D e0)) ∧ ∀ i m H, W i m H → ((Itt K a).stop i H ∧ Qd H) ∨ ((Itt K a).go i H ∧ ∃ Nx : Hp → Prop, (∀ H', Nx H' → ∃ m', m' < m ∧ W (i + 1) m' H') ∧
      ∀ x H', (Itt K a).yld i H x H' → g x (wipe σ vs) H' fun σ2 H2 => wipe σ2 vs = wipe σ vs ∧ tt σ2 H2 fun c H3 => if c = true then wi1 σ2 H3 fun J1 H4 => ∃ W1 : Nat → Nat → Hp → Prop, (∃ m, W1 0 m H4) ∧ ∀ j k H, W1 j k H → (J1.stop j H ∧ Nx H) ∨ (J1.go j H ∧ ∃ Nx1 : Hp → Prop, (∀ H', Nx1 H' → ∃ k', k' < k ∧ W1 (j + 1) k' H') ∧
        ∀ x H', J1.yld j H x H' → g1 x (wipe σ2 vs1) H' fun σ3 H5 => wipe σ3 vs1 = wipe σ2 vs1 ∧ tt1 σ3 H5 fun c H6 => if c = true then tk σ3 H6 fun y H7 => tv σ3 H7 fun z H8 => ∃ H9, DPut H8 D y z H9 ∧ Nx1 H9 else Nx1 H6) else Nx H3) := by
  refine ⟨fun i k H => k + i = xs.length ∧ Pv i H, ⟨xs.length, rfl, h0⟩, ?_⟩
  rintro i k H ⟨hk, p⟩
  cases k with
  | zero =>
    have e : i = xs.length := by omega
    rw [e] at p ⊢
    exact .inl ⟨⟨xs, hl _ _ p, Nat.le_refl _⟩, hd H p⟩
  | succ k =>
    have lt : i < xs.length := by omega
    refine .inr ⟨⟨xs, xs[i], hl _ _ p, List.getElem?_eq_getElem lt⟩, Pv (i + 1), fun H' p' => ⟨k, Nat.lt_succ_self _, by omega, p'⟩, ?_⟩
    rintro x H' ⟨rfl, y⟩
    exact hs i x _ (y xs (hl _ _ p)) p
end
end Own

/-! dict(xs) of a list of pairs whose keys are tuples. -/
namespace Own
open PySem PySem.Spec PyProof.Rows L2
theorem paired_at {α β : Type} {F : α → β → Prop} : ∀ {xs : List α} {ys : List β}, Paired F xs ys → ∀ {i : Nat} {y : β}, ys[i]? = some y → ∃ x, xs[i]? = some x ∧ F x y
  | _, _, .nil, i, y, h => by cases h
  | _, _, .cons r t, 0, y, h => by
    cases h
    exact ⟨_, rfl, r⟩
  | _, _, .cons r t, i + 1, y, h => paired_at t h
/-- a pair's tuple, its key's tuple, the key and the value -/
abbrev Trip := Addr × Addr × (List Key × V)
def mergeT (kvs more : List (List Key × V)) : List (List Key × V) := more.foldl (fun acc kv => putK acc kv.1 kv.2) kvs
theorem length_mergeT : ∀ (more kvs : List (List Key × V)), (mergeT kvs more).length ≤ kvs.length + more.length
  | [], _ => Nat.le_refl _
  | a :: more, kvs => by
    have h := length_mergeT more (putK kvs a.1 a.2)
    have g := length_putK kvs a.1 a.2
    show (mergeT (putK kvs a.1 a.2) more).length ≤ _
    rw [List.length_cons]
    omega
section
variable {X : Cx} {pins : List (Addr × Obj)} {σ : L2.St} {H : Hp} {s : Shared}
theorem trips_of (I : Inv X pins σ H s) : ∀ {ts : List Trip}, (∀ t ∈ ts, H t.1 = some (.tup [.ref t.2.1, t.2.2.2]) ∧ H t.2.1 = some (.tup (t.2.2.1.map kV))) →
    ∃ ps : List (List Key × Addr × Value), Paired (fun (t : Trip) q => t.2.2.1 = q.1 ∧ t.2.1 = q.2.1 ∧ RelV t.2.2.2 q.2.2 ∧ s.heap.IsTuple t.1 #[.ref q.2.1, q.2.2]) ts ps
  | [], _ => ⟨[], .nil⟩
  | t :: ts, h => by
    obtain ⟨ps, r⟩ := trips_of I fun t ht => h t (List.mem_cons_of_mem _ ht)
    obtain ⟨its, rv, isT, _⟩ := I.tuple (.of (h t List.mem_cons_self).1)
    obtain ⟨u, y, rfl, ru, ry⟩ := vals2 rv
    cases ru
    exact ⟨(t.2.2.1, t.2.1, y) :: ps, .cons ⟨rfl, rfl, ry, isT⟩ r⟩
theorem KT.all : ∀ {ts : List Trip} {ps : List (List Key × Addr × Value)} {kvs : List (List Key × V)} {xs : List (List Key × Addr × Value)},
    Paired (fun (t : Trip) q => t.2.2.1 = q.1 ∧ t.2.1 = q.2.1 ∧ RelV t.2.2.2 q.2.2 ∧ s.heap.IsTuple t.1 #[.ref q.2.1, q.2.2]) ts ps → (∀ t ∈ ts, H t.2.1 = some (.tup (t.2.2.1.map kV))) → KT H kvs xs → KT H (mergeT kvs (ts.map (·.2.2))) (storedAllH xs ps)
  | _, _, _, _, .nil, _, r => r
  | _, _, kvs, xs, .cons (a := t) (b := q) ⟨e1, e2, e3, _⟩ tl, h, r => by
    have h1 := h t List.mem_cons_self
    have step := r.put t.2.2.1 (b := q.2.1) (y := t.2.2.2) (u := q.2.2) (by rw [← e2]; exact h1) e3
    have rest := KT.all tl (fun t ht => h t (List.mem_cons_of_mem _ ht)) step
    rw [e1] at rest
    show KT H (mergeT (putK kvs t.2.2.1 t.2.2.2) _) (storedAllH (storedH xs q.1 q.2.1 q.2.2) _)
    rw [e1]
    exact rest
theorem call_dictT (calm : X.calm = true) (room : X.A.units + 3 < cLine) : CallR X (.type "dict") (fun xs H Q => ∃ (a : Addr) (ts : List Trip), xs = [.ref a] ∧ SqL X.K H a (ts.map fun t => V.ref t.1) ∧ (∀ t ∈ ts, H t.1 = some (.tup [.ref t.2.1, t.2.2.2]) ∧ H t.2.1 = some (.tup (t.2.2.1.map kV))) ∧
    ∀ p, H p = none → Q (.ref p) (upd H p (.dT (mergeT [] (ts.map (·.2.2)))))) := by
  rintro pins s σ H xs us Q I r ⟨a, ts, rfl, seq, pairs, q⟩
  obtain ⟨u, rfl, rx⟩ := vals1 r
  cases rx
  obtain ⟨its, rv, plain, len⟩ := I.list seq
  obtain ⟨ps, all⟩ := trips_of I pairs
  have lp := Paired.length all
  have refs : its = ts.map fun t => Value.ref t.1 := by
    have : ∀ {l : List Trip} {us : List Value}, Vals (l.map fun t => V.ref t.1) us → us = l.map fun t => Value.ref t.1 := by
      intro l
      induction l with
      | nil => intro us r; cases r; rfl
      | cons t l ih =>
        intro us r
        cases r with
        | cons h tl =>
          cases h
          rw [List.map_cons, ← ih tl]
    exact this rv
  rw [List.length_map] at len
  have arg := PairArg.list (prog := X.prog) (w := X.w) a its.toArray (fun j => (ts.map (·.1)).getD j 0) (ps.map fun q => (Value.ref q.2.1, q.2.2))
  have keys : ∀ x ∈ ps, (tupleKind (mixKind X.prog X.w)).is s.heap x.1 x.2.1 := fun x hx => by
    obtain ⟨j, hj⟩ := List.mem_iff_getElem?.mp hx
    obtain ⟨t, ht, e1, e2, _⟩ := paired_at all hj
    rw [← e1, ← e2]
    exact key_of I.hok (pairs t (List.mem_of_getElem? ht)).2
  refine call_dict_pairsH (knd := tupleKind (mixKind X.prog X.w)) (ps := ps) arg (I.ok.hd calm) (show X.A.in1.in1.units < cLine by show X.A.units + 1 + 1 < cLine; omega) ⟨?_, ?_, ?_⟩ ⟨by rw [List.length_map], ?_⟩ ?_ (by rw [List.length_map]; omega) ?_
  · exact plain
  · rw [refs]
    simp [lp]
  · intro j k v e
    rw [List.getElem?_map] at e
    cases hj : ps[j]? with
    | none => rw [hj] at e; cases e
    | some y =>
      rw [hj] at e
      cases e
      obtain ⟨t, ht, e1, e2, e3, e4⟩ := paired_at all hj
      have gd : (ts.map (·.1)).getD j 0 = t.1 := by rw [List.getD_eq_getElem?_getD, List.getElem?_map, ht] <;> rfl
      refine ⟨?_, .inl ?_⟩
      · dsimp only
        rw [List.getElem?_toArray, refs, List.getElem?_map, ht, gd] <;> rfl
      · dsimp only
        rw [gd]
        exact e4
  · intro i key v rel
    have rel : (ps.map fun q => (Value.ref q.2.1, q.2.2))[i]? = some (key, v) := rel
    rw [List.getElem?_map] at rel
    cases hj : ps[i]? with
    | none => rw [hj] at rel; cases rel
    | some y =>
      rw [hj] at rel
      cases rel
      exact ⟨y.1, y.2.1, rfl, rfl⟩
  · intro h' kp x hx
    obtain ⟨o, items, n, z1, z2, z3, z4⟩ := keys x hx
    exact ⟨o, items, n, kp _ _ (Nat.ne_of_lt (Heap.lt_size z1)) (by simp) z1, z2, z3, z4⟩
  · intro h' tk dd kp
    obtain ⟨o, es, ep, ho, z2, z3, z4, _, z5⟩ := dd
    have notMods : (s.heap.objs.size == sysModules) = false := beq_eq_false_iff_ne.mpr (Nat.ne_of_gt I.big)
    have fresh : H s.heap.objs.size = none := I.hok.fresh (Nat.le_refl _)
    have len2 : (mergeT [] (ts.map (·.2.2))).length ≤ sizeLine := by
      have := length_mergeT (ts.map (·.2.2)) []
      rw [List.length_map, List.length_nil] at this
      omega
    have rel := KT.all (H := H) (kvs := []) (xs := []) all (fun t ht => (pairs t ht).2) .nil
    refine ⟨.ref s.heap.objs.size, upd H s.heap.objs.size (.dT (mergeT [] (ts.map (·.2.2)))), I.laid (t' := tk) (fun b u e => kp b u (by simp) e) (Nat.le_refl _) ⟨len2, notMods, _, rel.keeps fun c ys e => ?_, o, es, ep, ho, z2, z3, z4, z5⟩, rfl, q _ fresh⟩
    rw [upd_ne (fun z => by rw [z, fresh] at e; cases e)]
    exact e
end
theorem room3 {A : Around} {k : Nat} (hr : Room k A) : A.units + 3 < cLine := by
  have := hr.units
  omega
end Own

namespace Own
/-! ### ways of which no step loses, and the top lot -/
section
variable {α : Type} [DecidableEq α]
inductive WayTo (f : α → α → Int) (zs : List α) (s : α) : α → List α → Prop
  | start : s ∈ zs → WayTo f zs s s [s]
  | step {x y : α} {w : List α} : WayTo f zs s x w → y ∈ zs → y ∉ w → 0 ≤ f x y → WayTo f zs s y (w ++ [y])
def Reach (f : α → α → Int) (zs : List α) (s y : α) : Prop := ∃ w, WayTo f zs s y w
variable {f : α → α → Int} {zs : List α}
theorem WayTo.in {s x : α} {w : List α} (h : WayTo f zs s x w) : x ∈ zs := by
  cases h with
  | start h => exact h
  | step _ h _ _ => exact h
theorem WayTo.within {s x : α} {w : List α} (h : WayTo f zs s x w) : ∀ y ∈ w, Reach f zs s y := by
  induction h with
  | start h =>
    intro y hy
    rw [List.mem_singleton.mp hy]
    exact ⟨_, .start h⟩
  | step h m n e ih =>
    intro y hy
    rcases List.mem_append.mp hy with hy | hy
    · exact ih y hy
    · rw [List.mem_singleton.mp hy]
      exact ⟨_, .step h m n e⟩
theorem Reach.step {s x y : α} (h : Reach f zs s x) (m : y ∈ zs) (e : 0 ≤ f x y) : Reach f zs s y := by
  obtain ⟨w, h⟩ := h
  by_cases c : y ∈ w
  · exact h.within y c
  · exact ⟨_, .step h m c e⟩
theorem Reach.closed {s y : α} {S : α → Prop} (h : Reach f zs s y) (h0 : S s) (hs : ∀ x y, S x → y ∈ zs → 0 ≤ f x y → S y) : S y := by
  obtain ⟨w, h⟩ := h
  induction h with
  | start _ => exact h0
  | step _ m _ e ih => exact hs _ _ ih m e
theorem Reach.refl {s : α} (h : s ∈ zs) : Reach f zs s s := ⟨_, .start h⟩
theorem Reach.trans {s x y : α} (h : Reach f zs s x) (g : Reach f zs x y) : Reach f zs s y := g.closed h fun _ _ a m e => a.step m e
theorem Reach.in {s y : α} (h : Reach f zs s y) : y ∈ zs := h.elim fun _ w => w.in
theorem WayTo.nodup {s x : α} {w : List α} (h : WayTo f zs s x w) : w.Nodup := by
  induction h with
  | start _ => simp
  | step _ _ n _ ih => exact List.nodup_append.mpr ⟨ih, by simp, fun a ha b hb e => by rw [List.mem_singleton.mp hb] at e; exact n (e ▸ ha)⟩
theorem WayTo.all {s x : α} {w : List α} (h : WayTo f zs s x w) : ∀ y ∈ w, y ∈ zs := fun y hy => (h.within y hy).in
theorem nodup_le {a b : List α} (n : a.Nodup) (s : ∀ x ∈ a, x ∈ b) : a.length ≤ b.length := by
  induction a generalizing b with
  | nil => exact Nat.zero_le _
  | cons x a ih =>
    have n2 := List.nodup_cons.mp n
    have mx := s x List.mem_cons_self
    have := ih (b := b.erase x) n2.2 fun y hy => (List.mem_erase_of_ne (fun e => n2.1 (by rw [← e]; exact hy))).mpr (s y (List.mem_cons_of_mem _ hy))
    rw [List.length_erase_of_mem mx] at this
    have pos := List.length_pos_of_mem mx
    rw [List.length_cons]
    omega
theorem WayTo.len {s x : α} {w : List α} (h : WayTo f zs s x w) : w.length ≤ zs.length := nodup_le h.nodup h.all
theorem pairwise_two {R : α → α → Prop} : ∀ {l : List α}, l.Pairwise R → ∀ {a b : α}, a ∈ l → b ∈ l → a ≠ b → R a b ∨ R b a
  | [], _, _, _, h, _, _ => by cases h
  | c :: l, p, a, b, ha, hb, n => by
    have p2 := List.pairwise_cons.mp p
    rcases List.mem_cons.mp ha with e1 | h1
    · rcases List.mem_cons.mp hb with e2 | h2
      · exact absurd (e1.trans e2.symm) n
      · rw [e1]
        exact .inl (p2.1 b h2)
    · rcases List.mem_cons.mp hb with e2 | h2
      · rw [e2]
        exact .inr (p2.1 a h1)
      · exact pairwise_two p2.2 h1 h2 n
def Tops (f : α → α → Int) (zs : List α) (s : α) : Prop := ∀ y ∈ zs, Reach f zs s y
/-- each of these beats each one that is not among them -/
def Dom (f : α → α → Int) (zs S : List α) : Prop := ∀ x ∈ S, ∀ y ∈ zs, y ∉ S → 0 < f x y
open Classical in
noncomputable def topB (f : α → α → Int) (zs : List α) (s : α) : Bool := decide (Tops f zs s)
open Classical in
theorem topB_iff {s : α} : topB f zs s = true ↔ Tops f zs s := by
  unfold topB
  exact decide_eq_true_iff
/-- the lots of some names, as they are gone through -/
def lotsOf (zs : List α) : List (List α) := zs.foldl (fun acc z => acc ++ acc.map fun t => t ++ [z]) [[]]
end
end Own

/-! list(zip(t, u)), t and u tuples: each pair stays out, in the list. -/
namespace Own
open PySem PySem.Spec PyProof.Rows L2
section
variable {prog : Program} {w : World} {A : Around} {E : Value → Shared → Prop} {s : Shared}
/-- the next pair of a zip over two tuples whose pair T of before is still out -/
theorem zipT_more {z TI TO T p q a b : Addr} {f : Bool} {oT : Obj} {m n : Nat} {us vs : Array Value} {x y : Value} {Q : Value → Shared → Prop} (D : ZipApart z TI TO p q a b) (gz : PySem.IsZipHeld s.heap z TI TO T f) (gT : s.heap.get? T = some oT) (gI : IsPair s.heap TI (.ref p) (.ref q))
    (gp : s.heap.IsTupleIter p a m) (gq : s.heap.IsTupleIter q b n) (ga : s.heap.IsTuple a us) (gb : s.heap.IsTuple b vs) (ex : us[m]? = some x) (ey : vs[n]? = some y)
    (go : ∀ k, PySem.IsZipHeld k z TI TO T true → k.IsTupleIter p a (m + 1) → k.IsTupleIter q b (n + 1) → IsPair k s.heap.objs.size x y → k.objs.size = s.heap.objs.size + 1 → (∀ c o, c ≠ z → c ≠ p → c ≠ q → s.heap.get? c = some o → k.get? c = some o) → Q (.ref s.heap.objs.size) { s with heap := k }) :
    wpAny (model prog w) A (Builtin.«zip.__next__» ⟨[.ref z], []⟩) (fun r t => ∃ v, r = .done (.ret v) ∧ Q v t) E s := by
  show wpAny _ _ (field (.ref z) 2 >>= _) _ _ _
  refine wpAny_bind (wpAny_field gz rfl (x := .bool false) rfl ?_)
  show wpAny _ _ (field (.ref z) 3 >>= _) _ _ _
  refine wpAny_bind (wpAny_field gz rfl (x := .ref TI) rfl ?_)
  refine wpAny_bind (wpAny_seqItems gI rfl ?_)
  show wpAny _ _ (Builtin.SmallTypes.ownedTupleIsFree (.ref z) >>= _) _ _ _
  refine wpAny_bind (PySem.wpAny_tupleHeld_zip gz gT fun k1 z1 e1 => ?_)
  simp only [Bool.false_eq_true, if_false]
  refine wpAny_bind ?_
  rw [← Array.forIn_toList]
  simp only [List.forIn_cons, List.forIn_nil]
  refine wpAny_bind (wpAny_bind (wpAny_holding ?_))
  show wpAny _ _ (Builtin.SmallTypes.nextOf (.ref p) >>= _) _ _ _
  refine wpAny_bind (RZ.nextOf_tuple_item (s := { s with heap := k1 }) (gp.extBut e1.extBut D.i1z) (ga.extBut e1.extBut D.l1z) ex fun k2 p2 e2 => wpAny_pure ?_)
  refine wpAny_pure ?_
  refine wpAny_bind (wpAny_bind (wpAny_holding ?_))
  show wpAny _ _ (Builtin.SmallTypes.nextOf (.ref q) >>= _) _ _ _
  refine wpAny_bind (RZ.nextOf_tuple_item (s := { s with heap := k2 }) ((gq.extBut e1.extBut D.i2z).extBut e2.extBut D.i12.symm) ((gb.extBut e1.extBut D.l2z).extBut e2.extBut D.l2i1) ey fun k3 q3 e3 => wpAny_pure ?_)
  refine wpAny_pure (wpAny_pure ?_)
  show wpAny _ _ (newTuple [x, y] >>= _) _ _ _
  refine wpAny_bind (wpAny_newTuple ?_)
  have size3 : k3.objs.size = s.heap.objs.size := by rw [e3.1, e2.1, e1.1]
  have z3 : PySem.IsZipHeld k3 z TI TO T true := e3.extBut _ _ D.i2z.symm (e2.extBut _ _ D.i1z.symm z1)
  have rest : ∀ c o, c ≠ z → c ≠ p → c ≠ q → s.heap.get? c = some o → k3.get? c = some o := fun c o n1 n2 n3 e => e3.extBut _ _ n3 (e2.extBut _ _ n2 (e1.extBut _ _ n1 e))
  have p3 : k3.IsTupleIter p a (m + 1) := p2.extBut e3.extBut D.i12
  refine wpAny_pure ⟨_, rfl, ?_⟩
  show Q (.ref k3.objs.size) _
  have new : IsPair (k3.push { cls := .type "tuple", data := .seq #[x, y] }) k3.objs.size x y := Heap.get?_push_size _ rfl
  have more : (k3.push { cls := .type "tuple", data := .seq #[x, y] }).objs.size = k3.objs.size + 1 := Heap.size_push ..
  rw [size3] at new more ⊢
  exact go _ (Heap.get?_push_of_some _ z3) (p3.at fun o e => Heap.get?_push_of_some _ e) (q3.at fun o e => Heap.get?_push_of_some _ e) new more fun c o n1 n2 n3 e => Heap.get?_push_of_some _ (rest c o n1 n2 n3 e)
theorem zipT_over {z TI TO T p q a b : Addr} {f : Bool} {oT : Obj} {m n : Nat} {us vs : Array Value} {Q : Fin → Shared → Prop} (calm : A.handled = none) (D : ZipApart z TI TO p q a b) (gz : PySem.IsZipHeld s.heap z TI TO T f) (gT : s.heap.get? T = some oT) (gI : IsPair s.heap TI (.ref p) (.ref q))
    (gp : s.heap.IsTupleIter p a m) (gq : s.heap.IsTupleIter q b n) (ga : s.heap.IsTuple a us) (gb : s.heap.IsTuple b vs) (out : us[m]? = none ∨ vs[n]? = none)
    (go : ∀ k e, (∀ c o, c ≠ z → c ≠ p → c ≠ q → s.heap.get? c = some o → k.get? c = some o) → (∃ o, k.get? e = some o ∧ o.cls = .type "StopIteration") → E (.ref e) { s with heap := k }) :
    wpAny (model prog w) A (Builtin.«zip.__next__» ⟨[.ref z], []⟩) Q E s := by
  show wpAny _ _ (field (.ref z) 2 >>= _) _ _ _
  refine wpAny_bind (wpAny_field gz rfl (x := .bool false) rfl ?_)
  show wpAny _ _ (field (.ref z) 3 >>= _) _ _ _
  refine wpAny_bind (wpAny_field gz rfl (x := .ref TI) rfl ?_)
  refine wpAny_bind (wpAny_seqItems gI rfl ?_)
  show wpAny _ _ (Builtin.SmallTypes.ownedTupleIsFree (.ref z) >>= _) _ _ _
  refine wpAny_bind (PySem.wpAny_tupleHeld_zip gz gT fun k1 z1 e1 => ?_)
  simp only [Bool.false_eq_true, if_false]
  refine wpAny_bind ?_
  rw [← Array.forIn_toList]
  simp only [List.forIn_cons, List.forIn_nil]
  refine wpAny_bind (wpAny_bind (wpAny_holding ?_))
  show wpAny _ _ (Builtin.SmallTypes.nextOf (.ref p) >>= _) _ _ _
  cases ex : us[m]? with
  | none =>
    refine wpAny_bind (RZ.nextOf_tuple_end (s := { s with heap := k1 }) calm (gp.extBut e1.extBut D.i1z) (ga.extBut e1.extBut D.l1z) ex fun k2 e e2 he => ?_)
    exact go k2 e (fun c o n1 n2 _ h => e2 _ _ n2 (e1.extBut _ _ n1 h)) he
  | some x =>
    have ey : vs[n]? = none := out.resolve_left fun h => by rw [ex] at h; cases h
    refine wpAny_bind (RZ.nextOf_tuple_item (s := { s with heap := k1 }) (gp.extBut e1.extBut D.i1z) (ga.extBut e1.extBut D.l1z) ex fun k2 p2 e2 => wpAny_pure ?_)
    refine wpAny_pure ?_
    refine wpAny_bind (wpAny_bind (wpAny_holding ?_))
    show wpAny _ _ (Builtin.SmallTypes.nextOf (.ref q) >>= _) _ _ _
    refine wpAny_bind (RZ.nextOf_tuple_end (s := { s with heap := k2 }) calm ((gq.extBut e1.extBut D.i2z).extBut e2.extBut D.i12.symm) ((gb.extBut e1.extBut D.l2z).extBut e2.extBut D.l2i1) ey fun k3 e e3 he => ?_)
    exact go k3 e (fun c o n1 n2 n3 h => e3 _ _ n3 (e2.extBut _ _ n2 (e1.extBut _ _ n1 h))) he
theorem nextT_more {z TI TO T p q a b : Addr} {f : Bool} {oT : Obj} {m n : Nat} {us vs : Array Value} {x y : Value} {Q : Option Value → Shared → Prop} (D : ZipApart z TI TO p q a b) (gz : PySem.IsZipHeld s.heap z TI TO T f) (gT : s.heap.get? T = some oT) (gI : IsPair s.heap TI (.ref p) (.ref q))
    (gp : s.heap.IsTupleIter p a m) (gq : s.heap.IsTupleIter q b n) (ga : s.heap.IsTuple a us) (gb : s.heap.IsTuple b vs) (ex : us[m]? = some x) (ey : vs[n]? = some y)
    (go : ∀ k, PySem.IsZipHeld k z TI TO T true → k.IsTupleIter p a (m + 1) → k.IsTupleIter q b (n + 1) → IsPair k s.heap.objs.size x y → k.objs.size = s.heap.objs.size + 1 → (∀ c o, c ≠ z → c ≠ p → c ≠ q → s.heap.get? c = some o → k.get? c = some o) → Q (some (.ref s.heap.objs.size)) { s with heap := k }) :
    wpAny (model prog w) A (pyNext (.ref z)) Q E s := by
  have ty : s.TypeIs (.ref z) "zip" := ⟨_, gz, rfl⟩
  unfold pyNext
  refine wpAny_bind (wpAny_attempt (wpAny_callSpecial?_slot (name := Str.ofString "__next__") ty PySem.F.slot_zip_next (wpAny_call_entry PySem.F.slot_zip_next ty PySem.F.entry_zip_next ?_ (PySem.F.args_zip_next_1 _))))
  exact zipT_more D gz gT gI gp gq ga gb ex ey fun k b1 b2 b3 b4 b5 b6 => wpAny_pure (go k b1 b2 b3 b4 b5 b6)
theorem nextT_over {z TI TO T p q a b : Addr} {f : Bool} {oT : Obj} {m n : Nat} {us vs : Array Value} {Q : Option Value → Shared → Prop} (calm : A.handled = none) (D : ZipApart z TI TO p q a b) (gz : PySem.IsZipHeld s.heap z TI TO T f) (gT : s.heap.get? T = some oT) (gI : IsPair s.heap TI (.ref p) (.ref q))
    (gp : s.heap.IsTupleIter p a m) (gq : s.heap.IsTupleIter q b n) (ga : s.heap.IsTuple a us) (gb : s.heap.IsTuple b vs) (out : us[m]? = none ∨ vs[n]? = none)
    (go : ∀ k, (∀ c o, c ≠ z → c ≠ p → c ≠ q → s.heap.get? c = some o → k.get? c = some o) → Q none { s with heap := k }) : wpAny (model prog w) A (pyNext (.ref z)) Q E s := by
  have ty : s.TypeIs (.ref z) "zip" := ⟨_, gz, rfl⟩
  unfold pyNext
  refine wpAny_bind (wpAny_attempt (wpAny_callSpecial?_slot (name := Str.ofString "__next__") ty PySem.F.slot_zip_next (wpAny_call_entry PySem.F.slot_zip_next ty PySem.F.entry_zip_next (zipT_over calm D gz gT gI gp gq ga gb out fun k e hk he => ?_) (PySem.F.args_zip_next_1 _))))
  obtain ⟨o, ho, hc⟩ := he
  refine wpAny_bind (wpAny_isInstance (T := "StopIteration") (b := true) ⟨o, ho, hc⟩ isSubtype_stop ?_)
  exact wpAny_pure (go _ hk)
end
/-- where a zip over the tuples a and b stands, i pairs told -/
structure ZAt (h : Heap) (H : Hp) (z TI TO p q a b : Addr) (i : Nat) : Prop where
  both : IsPair h TI (.ref p) (.ref q)
  last : ∃ x y, IsPair h TO x y
  itA : h.IsTupleIter p a i
  itB : h.IsTupleIter q b i
  zip : IsZip h z TI TO .none ∨ ∃ T f ts, PySem.IsZipHeld h z TI TO T f ∧ H T = some (.tup ts)
theorem ZAt.move {h k : Heap} {H H2 : Hp} {z TI TO p q a b : Addr} {i : Nat} (g : ZAt h H z TI TO p q a b i) (e : ∀ c ∈ [z, TI, TO, p, q], ∀ o, h.get? c = some o → k.get? c = some o) (t : ∀ T ts, H T = some (.tup ts) → H2 T = some (.tup ts)) : ZAt k H2 z TI TO p q a b i := by
  obtain ⟨x, y, l⟩ := g.last
  refine ⟨e TI (by simp) _ g.both, ⟨x, y, e TO (by simp) _ l⟩, g.itA.at fun o u => e p (by simp) o u, g.itB.at fun o u => e q (by simp) o u, ?_⟩
  rcases g.zip with u | ⟨T, f, ts, u, v⟩
  · exact .inl (e z (by simp) _ u)
  · exact .inr ⟨T, f, ts, e z (by simp) _ u, t _ _ v⟩
/-- the pairs told so far -/
def Pairs (H : Hp) (xs ys : List V) (ts : List Addr) : Prop := ∀ (j : Nat) (t : Addr) (x y : V), ts[j]? = some t → xs[j]? = some x → ys[j]? = some y → H t = some (.tup [x, y])
section
variable {X : Cx} {pins : List (Addr × Obj)} {σ : L2.St}
theorem fp_upd {H : Hp} {c d : Addr} {o : HO} (n : c ≠ d) (f : FpOk X pins H c) : FpOk X pins (upd H d o) c := by
  obtain ⟨f0, f1⟩ := f
  exact ⟨by rw [upd_ne n]; exact f0, f1⟩
/-- one more pair -/
theorem z_item {B : Around} {E : Value → Shared → Prop} {s : Shared} {H : Hp} {z TI TO p q a b : Addr} {i : Nat} {xs ys : List V} {x y : V} {Q : Option Value → Shared → Prop} (calm : B.handled = none) (D : ZipApart z TI TO p q a b) (I : Inv X pins σ H s) (fp : ∀ c ∈ [z, TI, TO, p, q], FpOk X pins H c)
    (at0 : ZAt s.heap H z TI TO p q a b i) (ha : SqT X.K H a xs) (hb : SqT X.K H b ys) (ex : xs[i]? = some x) (ey : ys[i]? = some y)
    (go : ∀ (T : Addr) (s' : Shared), H T = none → T ∉ [z, TI, TO, p, q] → Inv X pins σ (upd H T (.tup [x, y])) s' → ZAt s'.heap (upd H T (.tup [x, y])) z TI TO p q a b (i + 1) → Q (some (.ref T)) s') : wpAny (model X.prog X.w) B (pyNext (.ref z)) Q E s := by
  obtain ⟨its, rv, ga, _⟩ := I.tuple ha
  obtain ⟨its2, rv2, gb, _⟩ := I.tuple hb
  obtain ⟨u, hu, ru⟩ := rv.get ex
  obtain ⟨u2, hu2, ru2⟩ := rv2.get ey
  obtain ⟨x0, y0, out⟩ := at0.last
  have low : ∀ c ∈ [z, TI, TO, p, q], c < s.heap.objs.size := fun c hc => by
    have e' : c = z ∨ c = TI ∨ c = TO ∨ c = p ∨ c = q := by simpa using hc
    rcases e' with e | e | e | e | e
    · rw [e]
      rcases at0.zip with g | ⟨_, _, _, g, _⟩ <;> exact Heap.lt_size g
    · rw [e]; exact Heap.lt_size at0.both
    · rw [e]; exact Heap.lt_size out
    · rw [e]; obtain ⟨_, g, _⟩ := at0.itA; exact Heap.lt_size g
    · rw [e]; obtain ⟨_, g, _⟩ := at0.itB; exact Heap.lt_size g
  have nT : s.heap.objs.size ∉ [z, TI, TO, p, q] := fun hc => Nat.lt_irrefl _ (low _ hc)
  have freeT : H s.heap.objs.size = none := I.hok.fresh (Nat.le_refl _)
  have obj : ∀ {k : Heap}, IsPair k s.heap.objs.size u u2 → ObjOk X.prog X.w (upd H s.heap.objs.size (.tup [x, y])) k s.heap.objs.size (.tup [x, y]) := fun g => ⟨by show 2 ≤ sizeLine; decide, [u, u2], .cons ru (.cons ru2 .nil), ⟨_, g, rfl, _, rfl⟩⟩
  have keep : ∀ {k : Heap}, (∀ c o, c ≠ z → c ≠ TO → c ≠ p → c ≠ q → s.heap.get? c = some o → k.get? c = some o) → ∀ c o, c ∉ [z, TI, TO, p, q] → s.heap.get? c = some o → k.get? c = some o := fun g c o n e =>
    g c o (fun h => n (by simp [h])) (fun h => n (by simp [h])) (fun h => n (by simp [h])) (fun h => n (by simp [h])) e
  have pa : s.heap.IsTuple a its.toArray := ga
  have pb : s.heap.IsTuple b its2.toArray := gb
  rcases at0.zip with g | ⟨T0, f, ts, g, hT0⟩
  · refine RZ.pyNext_zipT_item D g at0.both out at0.itA at0.itB pa pb (x := u) (y := u2) (by simpa using hu) (by simpa using hu2) fun k z' TO' k1 k2 kT ksz kk => ?_
    refine go _ _ freeT nT (I.turnedNew (t' := s.toks) (ch := [z, TI, TO, p, q]) (keep kk) fp (Nat.le_refl _) (obj kT)) ⟨kk _ _ D.TIz D.TITO D.TIi1 D.TIi2 at0.both, ⟨_, _, TO'⟩, k1, k2, .inr ⟨_, false, [x, y], z', upd_same⟩⟩
  · obtain ⟨_, _, _, ⟨oT, gT, _⟩⟩ := I.hok T0 _ hT0
    have n0 : ∀ c ∈ [z, TI, TO, p, q], T0 ≠ c := fun c hc e => by
      have := (fp c hc).1
      rw [← e, hT0] at this
      cases this
    refine nextT_more D g gT at0.both at0.itA at0.itB pa pb (x := u) (y := u2) (by simpa using hu) (by simpa using hu2) fun k z' k1 k2 kT ksz kk => ?_
    have kk' := keep (k := k) fun c o n1 _ n3 n4 e => kk c o n1 n3 n4 e
    refine go _ _ freeT nT (I.turnedNew (t' := s.toks) (ch := [z, TI, TO, p, q]) kk' fp (Nat.le_refl _) (obj kT)) ⟨kk _ _ D.TIz D.TIi1 D.TIi2 at0.both, ⟨_, _, kk _ _ D.TOz D.TOi1 D.TOi2 out⟩, k1, k2, .inr ⟨T0, true, ts, z', by rw [upd_ne (ne_of_none hT0 freeT)]; exact hT0⟩⟩
theorem z_done {B : Around} {E : Value → Shared → Prop} {s : Shared} {H : Hp} {z TI TO p q a b : Addr} {i : Nat} {xs ys : List V} {Q : Option Value → Shared → Prop} (calm : B.handled = none) (D : ZipApart z TI TO p q a b) (I : Inv X pins σ H s) (fp : ∀ c ∈ [z, TI, TO, p, q], FpOk X pins H c)
    (at0 : ZAt s.heap H z TI TO p q a b i) (ha : SqT X.K H a xs) (hb : SqT X.K H b ys) (e : xs[i]? = none ∨ ys[i]? = none)
    (go : ∀ (s' : Shared), Inv X pins σ H s' → Q none s') : wpAny (model X.prog X.w) B (pyNext (.ref z)) Q E s := by
  obtain ⟨its, rv, ga, _⟩ := I.tuple ha
  obtain ⟨its2, rv2, gb, _⟩ := I.tuple hb
  obtain ⟨x0, y0, out⟩ := at0.last
  have l1 := rv.length
  have l2 := rv2.length
  have he : its.toArray[i]? = none ∨ its2.toArray[i]? = none := by
    rcases e with h | h
    · have := List.getElem?_eq_none_iff.mp h
      exact .inl (by simp; omega)
    · have := List.getElem?_eq_none_iff.mp h
      exact .inr (by simp; omega)
  have pa : s.heap.IsTuple a its.toArray := ga
  have pb : s.heap.IsTuple b its2.toArray := gb
  have keep : ∀ {k : Heap}, (∀ c o, c ≠ z → c ≠ TO → c ≠ p → c ≠ q → s.heap.get? c = some o → k.get? c = some o) → ∀ c o, c ∉ [z, TI, TO, p, q] → s.heap.get? c = some o → k.get? c = some o := fun g c o n e =>
    g c o (fun h => n (by simp [h])) (fun h => n (by simp [h])) (fun h => n (by simp [h])) (fun h => n (by simp [h])) e
  rcases at0.zip with g | ⟨T0, f, ts, g, hT0⟩
  · exact RZ.pyNext_zipT_end calm D g at0.both out at0.itA at0.itB pa pb he fun k kk => go _ (I.turnedL (t' := s.toks) (ch := [z, TI, TO, p, q]) (keep kk) fp)
  · obtain ⟨_, _, _, ⟨oT, gT, _⟩⟩ := I.hok T0 _ hT0
    exact nextT_over calm D g gT at0.both at0.itA at0.itB pa pb he fun k kk => go _ (I.turnedL (t' := s.toks) (ch := [z, TI, TO, p, q]) (keep fun c o n1 _ n3 n4 e => kk c o n1 n3 n4 e) fp)
/-- the loop that fills the list S -/
theorem z_loop {B : Around} {H0 : Hp} {S z TI TO p q a b : Addr} {xs ys : List V} {R : Result → Shared → Prop} {res : Value} (calm : B.handled = none) (D : ZipApart z TI TO p q a b) (few : xs.length ≤ 1000) (eq : ys.length + 1 = xs.length ∨ ys.length = xs.length)
    (fin : ∀ (ts : List Addr) (H' : Hp) (s' : Shared), Inv X pins σ H' s' → (∀ c o, c ≠ S → H0 c = some o → H' c = some o) → H' S = some (.lst (ts.map V.ref)) → ts.length = ys.length → Pairs H' xs ys ts → R (.ok (.ret res)) s') :
    ∀ (k i : Nat) (ts : List Addr) (H : Hp) (s : Shared), ys.length - i = k → i ≤ ys.length → Inv X pins σ H s → (∀ c o, c ≠ S → H0 c = some o → H c = some o) → H S = some (.lst (ts.map V.ref)) → ts.length = i → Pairs H xs ys ts → (∀ c ∈ [z, TI, TO, p, q], FpOk X pins H c) → ZAt s.heap H z TI TO p q a b i → SqT X.K H a xs → SqT X.K H b ys →
      codeAny (model X.prog X.w) B (.builtin "list.extend.loop" ⟨[.ref S, .ref z, res], []⟩) R s := by
  intro k
  induction k with
  | zero =>
    intro i ts H s hk hi I sm hS lt pr fp at0 ha hb
    refine codeAny_builtin PySem.F.entry_extend_loop ?_
    rw [Around.under_plainId PySem.F.plain_extend_loop _]
    show wpAny _ B.in1 (pyNext (.ref z) >>= _) _ _ s
    refine wpAny_bind (z_done (B := B.in1) calm D I fp at0 ha hb (.inr (List.getElem?_eq_none (by omega))) fun s' I' => ?_)
    exact wpAny_pure (fin ts H s' I' sm hS (by omega) pr)
  | succ k ih =>
    intro i ts H s hk hi I sm hS lt pr fp at0 ha hb
    have il : i < ys.length := by omega
    have il2 : i < xs.length := by omega
    refine codeAny_builtin PySem.F.entry_extend_loop ?_
    rw [Around.under_plainId PySem.F.plain_extend_loop _]
    show wpAny _ B.in1 (pyNext (.ref z) >>= _) _ _ s
    refine wpAny_bind (z_item (B := B.in1) calm D I fp at0 ha hb (List.getElem?_eq_getElem il2) (List.getElem?_eq_getElem il) fun T s' nT fT I1 at1 => ?_)
    have ST : S ≠ T := ne_of_none hS nT
    have hS1 : (upd H T (.tup [xs[i], ys[i]])) S = some (.lst (ts.map V.ref)) := by rw [upd_ne ST]; exact hS
    have nS : S ∉ [z, TI, TO, p, q] := fun hc => by
      have := (fp S hc).1
      rw [hS] at this
      cases this
    obtain ⟨zz, its, n, r, hl, e⟩ := I1.lstM hS1
    have lts : its.length = i := by rw [← hl, List.length_map, lt]
    show wpAny _ B.in1 (updateSeq S (·.push (Value.ref T)) >>= _) _ _ _
    refine wpAny_bind ?_
    have I2 := I1.lset (t' := s'.toks) (f := (·.push (Value.ref T))) (its' := its ++ [.ref T]) (ys := (ts.map V.ref) ++ [V.ref T]) hS1 e (by simp) (r.append (.cons (show L2.RelV (V.ref T) (Value.ref T) from rfl) .nil)) (by rw [List.length_append, List.length_map, List.length_singleton]; exact Nat.le_of_lt (small1000 (by omega)))
    have other : ∀ c o, c ≠ S → (upd H T (.tup [xs[i], ys[i]])) c = some o → (upd (upd H T (.tup [xs[i], ys[i]])) S (.lst (ts.map V.ref ++ [V.ref T]))) c = some o := fun c o n h => by rw [upd_ne n]; exact h
    have tupS : ∀ c u, (upd H T (.tup [xs[i], ys[i]])) c = some (.tup u) → c ≠ S := fun c u h n => by rw [n, hS1] at h; cases h
    have sq : ∀ {c : Addr} {us : List V}, SqT X.K H c us → SqT X.K (upd (upd H T (.tup [xs[i], ys[i]])) S (.lst (ts.map V.ref ++ [V.ref T]))) c us := fun {c us} h => by
      rcases h with (h | ⟨ob, h⟩) | h
      · have h1 : (upd H T (.tup [xs[i], ys[i]])) c = some (.tup us) := by rw [upd_ne (ne_of_none h nT)]; exact h
        exact .inl (.inl (other _ _ (tupS _ _ h1) h1))
      · have h1 : (upd H T (.tup [xs[i], ys[i]])) c = some (.frz ob (.tup us)) := by rw [upd_ne (ne_of_none h nT)]; exact h
        exact .inl (.inr ⟨ob, other _ _ (fun n => by rw [n, hS1] at h1; cases h1) h1⟩)
      · exact .inr h
    refine wpAny_updateSeq e rfl (wpAny_pure ⟨plainId_quiet PySem.F.plain_extend_loop _, ih (i + 1) (ts ++ [T]) _ _ (by omega) il I2 (fun c o n h => ?_) ?_ (by rw [List.length_append, lt]; rfl) (fun j t x y et ex ey => ?_) (fun c hc => ?_) ?_ (sq ha) (sq hb)⟩) (by rw [List.size_toArray]; exact Nat.le_of_lt (small1000 (by omega))) (by show (its.toArray.push (Value.ref T)).size ≤ sizeLine + 1; rw [Array.size_push, List.size_toArray]; have := small1000 (n := its.length) (by omega); omega)
    · have h1 := sm c o n h
      rw [upd_ne n, upd_ne (ne_of_none h1 nT)]
      exact h1
    · rw [upd_same, List.map_append]
      rfl
    · rcases Nat.lt_or_ge j ts.length with h | h
      · rw [List.getElem?_append_left h] at et
        have h1 := pr j t x y et ex ey
        have h2 : (upd H T (.tup [xs[i], ys[i]])) t = some (.tup [x, y]) := by rw [upd_ne (ne_of_none h1 nT)]; exact h1
        exact other _ _ (tupS _ _ h2) h2
      · have jl : j < (ts ++ [T]).length := (List.getElem?_eq_some_iff.mp et).1
        rw [List.length_append, List.length_singleton] at jl
        have ej : j = ts.length := by omega
        subst ej
        have e1 : T = t := by simpa using et
        subst e1
        subst lt
        rw [List.getElem?_eq_getElem il2] at ex
        rw [List.getElem?_eq_getElem il] at ey
        cases ex
        cases ey
        exact other _ _ (Ne.symm ST) upd_same
    · exact fp_upd (fun h => nS (h ▸ hc)) (fp_upd (fun h => fT (h ▸ hc)) (fp c hc))
    · refine at1.move (fun c hc o h => ?_) fun t us h => other _ _ (tupS _ _ h) h
      exact (Heap.get?_update_other _ _ (fun h2 : S = c => nS (h2 ▸ hc))).trans h
theorem nolen_zip : typeLookup (.type "zip") "__len__" = pure none := by rw [typeLookup_type, builtinLookup_eq_fast]; kernel_rfl
theorem nohint_zip : typeLookup (.type "zip") "__length_hint__" = pure none := by rw [typeLookup_type, builtinLookup_eq_fast]; kernel_rfl
/-- list(z), z a zip over two tuples of which nothing was told yet -/
theorem z_call {B : Around} {E : Value → Shared → Prop} {s : Shared} {H : Hp} {z TI TO p q a b : Addr} {xs ys : List V} {Q : Value → Shared → Prop} (calm : B.handled = none) (D : ZipApart z TI TO p q a b) (few : xs.length ≤ 1000) (eq : ys.length + 1 = xs.length ∨ ys.length = xs.length)
    (I : Inv X pins σ H s) (fp : ∀ c ∈ [z, TI, TO, p, q], FpOk X pins H c) (low : ∀ c ∈ [z, TI, TO, p, q], c < s.heap.objs.size) (gz : IsZip s.heap z TI TO .none) (at0 : ZAt s.heap H z TI TO p q a b 0) (ha : SqT X.K H a xs) (hb : SqT X.K H b ys)
    (go : ∀ (S : Addr) (ts : List Addr) (H' : Hp) (s' : Shared), Inv X pins σ H' s' → Same H H' → H S = none → H' S = some (.lst (ts.map V.ref)) → ts.length = ys.length → Pairs H' xs ys ts → Q (.ref S) s') :
    wpAny (model X.prog X.w) B (call (.type "list") [.ref z]) Q E s := by
  refine callType_codes (Q₁ := fun obj s₁ => obj = .ref s.heap.objs.size ∧ s₁ = { s with heap := s.heap.push { cls := .type "list", data := .seq #[] } }) PySem.F.called_list (PySem.F.typeCall_list_1 _) PySem.F.entry_list_init (code_list_new _ ⟨rfl, rfl⟩) fun obj s₁ h₁ => ?_
  obtain ⟨rfl, rfl⟩ := h₁
  have nS : s.heap.objs.size ∉ [z, TI, TO, p, q] := fun hc => Nat.lt_irrefl _ (low _ hc)
  have freeS : H s.heap.objs.size = none := I.hok.fresh (Nat.le_refl _)
  have zS : s.heap.objs.size ≠ z := fun e => nS (by simp [e])
  have gS : (s.heap.push { cls := .type "list", data := .seq #[] }).get? s.heap.objs.size = some { cls := .type "list", data := .seq #[] } := Heap.get?_push_size _ rfl
  have I1 : Inv X pins σ (upd H s.heap.objs.size (.lst [])) { s with heap := s.heap.push { cls := .type "list", data := .seq #[] } } := I.lnew (t' := s.toks) (its := []) .nil (Nat.zero_le _)
  refine ⟨⟨_, gS, rfl⟩, PySem.F.args_list_init_2 _ _, ?_⟩
  generalize hS : s.heap.objs.size = S at nS freeS zS gS I1 ⊢
  have mv : ∀ {h k : Heap}, (∀ c o, c ≠ S → h.get? c = some o → k.get? c = some o) → ∀ c ∈ [z, TI, TO, p, q], ∀ o, h.get? c = some o → k.get? c = some o := fun g c hc o e => g c o (fun n => nS (n ▸ hc)) e
  have at1 : ZAt (s.heap.push { cls := .type "list", data := .seq #[] }) (upd H S (.lst [])) z TI TO p q a b 0 := at0.move (fun c hc o e => Heap.get?_push_of_some _ e) fun T us h => by rw [upd_ne (ne_of_none h freeS)]; exact h
  have gz1 : IsZip (s.heap.push { cls := .type "list", data := .seq #[] }) z TI TO .none := Heap.get?_push_of_some _ gz
  have upS : ∀ {h : Heap} {f : Array Value → Array Value} (c : Addr) (o : Obj), c ≠ S → h.get? c = some o → (h.update S (Obj.mapSeq f)).get? c = some o := fun c o n e => (Heap.get?_update_other _ _ (Ne.symm n)).trans e
  have tk : ∀ {H1 H2 : Hp} {ws : List V}, (∀ c, c ≠ S → H1 c = H2 c) → H1 S = some (.lst ws) → ∀ T us, H1 T = some (.tup us) → H2 T = some (.tup us) := fun e h T us g => by
    rw [← e T (fun n => by rw [n, h] at g; cases g)]
    exact g
  have e12 : ∀ {o o2 : HO} (c : Addr), c ≠ S → upd H S o c = upd H S o2 c := fun c n => by rw [upd_ne n, upd_ne n]
  have uu : ∀ {o o2 : HO}, upd (upd H S o) S o2 = upd H S o2 := fun {o o2} => by
    funext c
    by_cases n : c = S
    · rw [n, upd_same, upd_same]
    · rw [upd_ne n, upd_ne n, upd_ne n]
  show wpAny _ _ (do let old ← Builtin.List.listItems (.ref S); Builtin.List.listUpdate (.ref S) (fun _ => #[]); letGo old.toList.reverse; Builtin.List.listExtendWith (.ref S) (.ref z) .none) _ _ _
  refine wpAny_bind ?_
  unfold Builtin.List.listItems
  refine wpAny_bind (wpAny_seqItems gS rfl (wpAny_pure ?_))
  show wpAny _ _ (updateSeq S (fun _ => #[]) >>= fun _ => letGo (#[] : Array Value).toList.reverse >>= fun _ => Builtin.List.listExtendWith (.ref S) (.ref z) .none) _ _ _
  refine wpAny_bind (wpAny_updateSeq gS rfl ?_)
  have gS2 := Heap.get?_update_self (Obj.mapSeq (fun _ => (#[] : Array Value))) gS rfl
  have I2 := I1.lset (t' := s.toks) (f := fun _ => (#[] : Array Value)) (its := []) (its' := []) (ys := []) upd_same gS rfl .nil (Nat.zero_le _)
  rw [uu] at I2
  have at2 := at1.move (k := (s.heap.push { cls := .type "list", data := .seq #[] }).update S (Obj.mapSeq (fun _ => (#[] : Array Value)))) (mv (fun c o n e => upS c o n e)) fun T us h => h
  have gz2 : IsZip ((s.heap.push { cls := .type "list", data := .seq #[] }).update S (Obj.mapSeq (fun _ => (#[] : Array Value)))) z TI TO .none := upS z _ zS.symm gz1
  generalize (s.heap.push { cls := .type "list", data := .seq #[] }).update S (Obj.mapSeq (fun _ => (#[] : Array Value))) = h2 at gS2 I2 at2 gz2 ⊢
  refine wpAny_bind (wpAny_letGo ?_)
  unfold Builtin.List.listExtendWith
  have ty : ∀ {h : Heap} {t : Nat}, IsZip h z TI TO .none → ({ s with heap := h, toks := t } : Shared).TypeIs (.ref z) "zip" := fun g => ⟨_, g, rfl⟩
  refine wpAny_bind (wpAny_typeOf (T := "zip") (ty gz2) ?_)
  have f1 : Builtin.List.listSameRef (.ref S) (.ref z) = false := by simp [Builtin.List.listSameRef, zS]
  have f2 : (Value.type "zip" == Value.type "list") = false := by decide
  have f3 : (Value.type "zip" == Value.type "tuple") = false := by decide
  simp only [f1, f2, f3, Bool.or_false, Bool.false_eq_true, if_false]
  refine wpAny_bind (wpAny_pyIter_zip gz2 ?_)
  refine wpAny_bind (wpAny_holding ?_)
  unfold Builtin.List.listLengthHint
  refine wpAny_bind (wpAny_specialOf (ty gz2) nolen_zip ?_)
  show wpAny _ _ (specialOf (Value.ref z) (Str.ofString "__length_hint__") >>= _) _ _ _
  refine wpAny_bind (wpAny_specialOf (ty gz2) nohint_zip ?_)
  refine wpAny_pure ?_
  show wpAny _ _ (rule "list.extend.makes-room" >>= fun _ => Builtin.List.listTouch (.ref S) >>= fun _ => again (.builtin "list.extend.loop" ⟨[.ref S, .ref z, .none], []⟩)) _ _ _
  refine wpAny_bind (wpAny_rule ?_)
  refine wpAny_bind ?_
  show wpAny _ _ (updateSeq S (·.push .none) >>= fun _ => updateSeq S (·.pop)) _ _ _
  refine wpAny_bind (wpAny_updateSeq gS2 rfl ?_)
  have gS3 := Heap.get?_update_self (Obj.mapSeq (·.push Value.none)) gS2 rfl
  have I3 := I2.lset (t' := s.toks) (f := (·.push Value.none)) (its := []) (its' := [.none]) (ys := [V.non]) upd_same gS2 rfl (.cons rfl .nil) (by show 1 ≤ sizeLine; exact Nat.le_of_lt (small1000 (by decide)))
  rw [uu] at I3
  have at3 := at2.move (k := h2.update S (Obj.mapSeq (·.push Value.none))) (H2 := upd H S (.lst [V.non])) (mv (fun c o n e => upS c o n e)) (tk (fun c n => e12 c n) upd_same)
  generalize h2.update S (Obj.mapSeq (·.push Value.none)) = h3 at gS3 I3 at3 ⊢
  refine wpAny_updateSeq (hz := by seq_fits) gS3 rfl ?_
  have gS4 := Heap.get?_update_self (Obj.mapSeq (·.pop)) gS3 rfl
  have I4 := I3.lset (t' := s.toks) (f := (·.pop)) (its := [.none]) (its' := []) (ys := []) upd_same gS3 rfl .nil (Nat.zero_le _)
  rw [uu] at I4
  have at4 := at3.move (k := h3.update S (Obj.mapSeq (·.pop))) (H2 := upd H S (.lst [])) (mv (fun c o n e => upS c o n e)) (tk (fun c n => e12 c n) upd_same)
  have sq : ∀ {c : Addr} {us : List V}, SqT X.K H c us → SqT X.K (upd H S (.lst [])) c us := fun {c us} h => by
    rcases h with (h | ⟨ob, h⟩) | h
    · exact .inl (.inl (by rw [upd_ne (ne_of_none h freeS)]; exact h))
    · exact .inl (.inr ⟨ob, by rw [upd_ne (ne_of_none h freeS)]; exact h⟩)
    · exact .inr h
  refine wpAny_pure ⟨plainId_quiet PySem.F.plain_extend_loop _, ?_⟩
  refine z_loop (B := B.in1) (H0 := H) (S := S) (res := .none) (show B.in1.handled = none from calm) D few eq (fun ts H' s' J sm hSl lt pr => ?_) ys.length 0 [] (upd H S (.lst [])) _ rfl (Nat.zero_le _) I4 (fun c o n h => by rw [upd_ne n]; exact h) upd_same rfl (fun j t x y h => by cases h) (fun c hc => fp_upd (fun n => nS (n ▸ hc)) (fp c hc)) at4 (sq ha) (sq hb)
  exact ⟨rfl, go S ts H' s' J (fun c o h => sm c o (fun n => by rw [n, freeS] at h; cases h) h) freeS hSl lt pr⟩
end
def tListZip (K : PySem.W.Frag) (ta : TA) : TE := fun σ H Q => ta σ H fun ws H1 => ∃ a b xs ys, ws = [.ref a, .ref b] ∧ SqT K H1 a xs ∧ SqT K H1 b ys ∧ xs.length ≤ 1000 ∧ (ys.length + 1 = xs.length ∨ ys.length = xs.length) ∧ ∀ (S : Addr) (ts : List Addr) (H' : Hp), Same H1 H' → H1 S = none → H' S = some (.lst (ts.map V.ref)) → ts.length = ys.length → Pairs H' xs ys ts → Q (.ref S) H'
theorem pe_listZip {X : Cx} {e e2 : Expr} {ta : TA} {p pz pos posz : Pos} (hc : X.calm = true) (gl : Gl X "list") (ml : X.mg "list" = none) (gz : Gl X "zip") (mz : X.mg "zip" = none) (ha : PA X [e, e2] ta)
    (st : starEach [.Call (.Name "zip" pz) [e, e2] [] posz] X.env = (false, eval (.Call (.Name "zip" pz) [e, e2] [] posz) X.env) :: starEach [] X.env := by rfl) (st2 : starEach [e, e2] X.env = (false, eval e X.env) :: starEach [e2] X.env := by rfl) (pl : (backTo posz (starEach [e2] X.env)).any (·.1) = false := by rfl) :
    PE X (.Call (.Name "list" p) [.Call (.Name "zip" pz) [e, e2] [] posz] [] pos) (tListZip X.K ta) := by
  refine ⟨fun pins s σ H Q I h => ?_⟩
  refine wpAny_Call_Name_kw (ld_blt I gl ml (show bootBuiltins "list" = some (.type "list") by decide +kernel) ?_)
  refine PyProof.Rows.callWith_type1 ?_ st rfl
  rw [st]
  show wpAny _ _ (spliced ((false, eval (.Call (.Name "zip" pz) [e, e2] [] posz) X.env) :: backTo pos (starEach [] X.env))) _ _ s
  refine Calls.spliced_cons ?_
  refine Call_ (ld_blt I gz mz PyProof.Rows.boot_zip (PyProof.Rows.callWith_type1 (thn (ha.run posz pins s σ H _ I h) fun us s1 ⟨ws, H1, I1, r1, q1⟩ => ?_) st2 pl))
  obtain ⟨a, b, xs, ys, ex, ta, tb, few, eq, go⟩ := q1
  subst ex
  cases r1 with
  | cons r rr =>
    cases rr with
    | cons r' rr =>
      cases rr
      cases r
      cases r'
      obtain ⟨its, rv, ga, _⟩ := I1.tuple ta
      obtain ⟨its2, rv2, gb, _⟩ := I1.tuple tb
      obtain ⟨o1, ho1, _⟩ := id ga
      obtain ⟨o2, ho2, _⟩ := id gb
      refine RZ.call_zipT (show s1.heap.IsTuple a its.toArray from ga) (show s1.heap.IsTuple b its2.toArray from gb) fun k kz kTI kTO k1 k2 ksz kk => ?_
      have I2 : Inv X pins σ H1 { s1 with heap := k } := I1.kept (t' := s1.toks) kk
      refine Calls.spliced_nil ?_
      have mem : ∀ c, c ∈ [s1.heap.objs.size + 4, s1.heap.objs.size + 2, s1.heap.objs.size + 3, s1.heap.objs.size, s1.heap.objs.size + 1] → s1.heap.objs.size ≤ c ∧ c < s1.heap.objs.size + 5 := fun c hm => by
        have e' : c = s1.heap.objs.size + 4 ∨ c = s1.heap.objs.size + 2 ∨ c = s1.heap.objs.size + 3 ∨ c = s1.heap.objs.size ∨ c = s1.heap.objs.size + 1 := by simpa using hm
        omega
      refine z_call (I1.ok.hd hc) (PySem.W.ktu_apart s1.heap.objs.size a b (Heap.lt_size ho1) (Heap.lt_size ho2)) few eq I2 (fun c hm => I1.fpOk (mem c hm).1 (I1.hok.fresh (mem c hm).1)) (fun c hm => by show c < k.objs.size; rw [ksz]; exact (mem c hm).2) kz ⟨kTI, ⟨_, _, kTO⟩, k1, k2, .inl kz⟩ ta tb fun S ts H' s' J sm nS hS lt pr => ?_
      exact ⟨.ref S, H', J, rfl, go S ts H' sm nS hS lt pr⟩
end Own

/-! A list comprehension of two fors, over whatever can be walked. -/
namespace Own
open PySem PySem.Spec PyProof.Rows L2
section
variable {J J1 : It} {n n1 : Nat} {G G1 : Hp → Prop} {Y Y1 : Nat → Hp → V → Hp → Prop} {σ : L2.St} {D : Addr} {vs vs1 : List Nat}
/-- the inner for -/
theorem in_it (w : Walk J1 n1 G1 Y1) {g1 : TG} {tt1 : TT} {te : TE} {H4 : Hp} {Nx : Hp → Prop} (Pw : Nat → Hp → Prop) (h0 : Pw 0 H4) (hG : ∀ j H, j ≤ n1 → Pw j H → G1 H)
    (hs : ∀ j y H H', j < n1 → Pw j H → Y1 j H y H' → g1 y (wipe σ vs1) H' fun σ3 H5 => wipe σ3 vs1 = wipe σ vs1 ∧ tt1 σ3 H5 fun c H6 => if c = true then te σ3 H6 fun z H7 => ∃ acc, H7 D = some (.lst acc) ∧ acc.length < sizeLine ∧ Pw (j + 1) (upd H7 D (.lst (acc ++ [z]))) else Pw (j + 1) H6)
    (hd : ∀ H, Pw n1 H → Nx H) :
    ∃ W1 : Nat → Nat → Hp → Prop, (∃ m, W1 0 m H4) ∧ ∀ j k H, W1 j k H → (J1.stop j H ∧ Nx H) ∨ (J1.go j H ∧ ∃ Nx1 : Hp → Prop, (∀ H', Nx1 H' → ∃ k', k' < k ∧ W1 (j + 1) k' H') ∧
      ∀ x H', J1.yld j H x H' → g1 x (wipe σ vs1) H' fun σ3 H5 => wipe σ3 vs1 = wipe σ vs1 ∧ tt1 σ3 H5 fun c H6 => if c = true then te σ3 H6 fun z H7 => ∃ acc, H7 D = some (.lst acc) ∧ acc.length < sizeLine ∧ Nx1 (upd H7 D (.lst (acc ++ [z]))) else Nx1 H6) := by
  refine ⟨fun j k H => k = n1 - j ∧ j ≤ n1 ∧ Pw j H, ⟨n1, by simp, Nat.zero_le _, h0⟩, ?_⟩
  rintro j k H ⟨rfl, hj, p⟩
  have q := hG j H hj p
  rcases Nat.lt_or_ge j n1 with lt | ge
  · exact .inr ⟨w.goes j H lt q, Pw (j + 1), fun H' p' => ⟨n1 - (j + 1), by omega, rfl, lt, p'⟩, fun x H' y => hs j x H H' lt p (w.yields j H x H' lt q y)⟩
  · have e : j = n1 := by omega
    subst e
    exact .inl ⟨w.stops H q, hd H p⟩
/-- the outer for -/
theorem out_it (w : Walk J n G Y) {g g1 : TG} {tt tt1 : TT} {wi1 : TI} {te : TE} {H1 : Hp} {Qd : Hp → Prop} (Pv : Nat → Hp → Prop) (h0 : Pv 0 (upd H1 D (.lst []))) (hG : ∀ i H, i ≤ n → Pv i H → G H)
    (hs : ∀ i x H H0, i < n → Pv i H → Y i H x H0 → g x (wipe σ vs) H0 fun σ2 H2 => wipe σ2 vs = wipe σ vs ∧ tt σ2 H2 fun c H3 => if c = true then wi1 σ2 H3 fun J1 H4 => ∃ W1 : Nat → Nat → Hp → Prop, (∃ m, W1 0 m H4) ∧ ∀ j k H, W1 j k H → (J1.stop j H ∧ Pv (i + 1) H) ∨ (J1.go j H ∧ ∃ Nx1 : Hp → Prop, (∀ H', Nx1 H' → ∃ k', k' < k ∧ W1 (j + 1) k' H') ∧
      ∀ x H', J1.yld j H x H' → g1 x (wipe σ2 vs1) H' fun σ3 H5 => wipe σ3 vs1 = wipe σ2 vs1 ∧ tt1 σ3 H5 fun c H6 => if c = true then te σ3 H6 fun z H7 => ∃ acc, H7 D = some (.lst acc) ∧ acc.length < sizeLine ∧ Nx1 (upd H7 D (.lst (acc ++ [z]))) else Nx1 H6) else Pv (i + 1) H3)
    (hd : ∀ H, Pv n H → Qd H) :
    ∃ W : Nat → Nat → Hp → Prop, (∃ m, W 0 m (upd H1 D (.lst []))) ∧ ∀ i m H, W i m H → (J.stop i H ∧ Qd H) ∨ (J.go i H ∧ ∃ Nx : Hp → Prop, (∀ H', Nx H' → ∃ m', m' < m ∧ W (i + 1) m' H') ∧
      ∀ x H', J.yld i H x H' → g x (wipe σ vs) H' fun σ2 H2 => wipe σ2 vs = wipe σ vs ∧ tt σ2 H2 fun c H3 => if c = true then wi1 σ2 H3 fun J1 H4 => ∃ W1 : Nat → Nat → Hp → Prop, (∃ m, W1 0 m H4) ∧ ∀ j k H, W1 j k H → (J1.stop j H ∧ Nx H) ∨ (J1.go j H ∧ ∃ Nx1 : Hp → Prop, (∀ H', Nx1 H' → ∃ k', k' < k ∧ W1 (j + 1) k' H') ∧
        ∀ x H', J1.yld j H x H' → g1 x (wipe σ2 vs1) H' fun σ3 H5 => wipe σ3 vs1 = wipe σ2 vs1 ∧ tt1 σ3 H5 fun c H6 => if c = true then te σ3 H6 fun z H7 => ∃ acc, H7 D = some (.lst acc) ∧ acc.length < sizeLine ∧ Nx1 (upd H7 D (.lst (acc ++ [z]))) else Nx1 H6) else Nx H3) := by
  refine ⟨fun i m H => m = n - i ∧ i ≤ n ∧ Pv i H, ⟨n, by simp, Nat.zero_le _, h0⟩, ?_⟩
  rintro i m H ⟨rfl, hi, p⟩
  have q := hG i H hi p
  rcases Nat.lt_or_ge i n with lt | ge
  · exact .inr ⟨w.goes i H lt q, Pv (i + 1), fun H' p' => ⟨n - (i + 1), by omega, rfl, lt, p'⟩, fun x H' y => hs i x H H' lt p (w.yields i H x H' lt q y)⟩
  · have e : i = n := by omega
    subst e
    exact .inl ⟨w.stops H q, hd H p⟩
end
end Own

/-! repr of any data where nothing is being shown; a tuple turned round. -/
namespace Own
open PySem PySem.Spec PyProof.Rows L2
section
variable {X : Cx}
end
/-! ### t[::-1] of a tuple -/
theorem adjust_rev (n : Nat) : Builtin.Slice.sliceAdjust none none (-1) (n : Int) = ((n : Int) - 1, -1) := by
  unfold Builtin.Slice.sliceAdjust
  simp
theorem places_rev (n : Nat) : Builtin.Slice.slicePlaces ((n : Int) - 1) (-1) (-1) = n := by
  unfold Builtin.Slice.slicePlaces
  rw [if_neg (by decide), show (- -1 : Int) = 1 by decide, Int.ediv_one]
  split <;> omega
theorem fm_congr {α β : Type} {f g : α → Option β} : ∀ {l : List α}, (∀ x ∈ l, f x = g x) → l.filterMap f = l.filterMap g
  | [], _ => rfl
  | a :: l, h => by
    rw [List.filterMap_cons, List.filterMap_cons, h a List.mem_cons_self, fm_congr fun x hx => h x (List.mem_cons_of_mem _ hx)]
theorem pick_rev (xs : Array Value) : ((List.range xs.size).filterMap fun (m : Nat) => xs[(((xs.size : Int) - 1) + (m : Int) * (-1)).toNat]?) = xs.toList.reverse := by
  have e : ((List.range xs.size).map fun k => xs.size - 1 - k).filterMap (xs[·]?) = xs.toList.reverse := by
    rw [PySem.W.krv_range, List.filterMap_reverse, PySem.W.krv_all]
  rw [← e, List.filterMap_map]
  refine fm_congr fun m hm => ?_
  have := List.mem_range.mp hm
  have e2 : (((xs.size : Int) - 1) + (m : Int) * (-1)).toNat = xs.size - 1 - m := by omega
  rw [e2]
  rfl
section
variable {prog : Program} {w : World} {A : Around} {E : Value → Shared → Prop} {s : Shared}
theorem sliceApplied_rev {sl : Addr} {vl vu vs : Value} {n : Nat} {Q : Int × Int × Nat → Shared → Prop} (hs : s.heap.IsSliceOf sl vl vu vs) (pl : IsPart vl none) (pu : IsPart vu none) (ps : IsPart vs (some (-1)))
    (h : Q ((n : Int) - 1, -1, n) s) : wpAny (model prog w) A (Builtin.Slice.sliceApplied (.ref sl) (pure (n : Int))) Q E s := by
  obtain ⟨os, hos, hcs, hds⟩ := id hs
  unfold Builtin.Slice.sliceApplied Builtin.Slice.sliceFields
  refine wpAny_bind (wpAny_bind (wpAny_field hos hds (x := vl) rfl (wpAny_bind (wpAny_field hos hds (x := vu) rfl (wpAny_bind (wpAny_field hos hds (x := vs) rfl (wpAny_pure ?_)))))))
  refine wpAny_bind (HT.slicePart_ ps ?_)
  show wpAny _ _ (if ((-1 : Int) == 0) = true then _ else _) _ _ s
  rw [if_neg (by decide)]
  refine wpAny_bind (HT.slicePart_ pl (wpAny_bind (HT.slicePart_ pu (wpAny_bind (wpAny_pure ?_)))))
  show wpAny _ _ (match Builtin.Slice.sliceAdjust none none (-1) (n : Int) with | (lo, hi) => pure (lo, (-1 : Int), Builtin.Slice.slicePlaces lo hi (-1))) _ _ s
  rw [adjust_rev n]
  show wpAny _ _ (pure ((n : Int) - 1, (-1 : Int), Builtin.Slice.slicePlaces ((n : Int) - 1) (-1) (-1))) _ _ s
  rw [places_rev]
  exact wpAny_pure h
theorem getItem_tuple_rev {t sl : Addr} {items : Array Value} {vl vu vs : Value} {Q : Value → Shared → Prop} (ht : IsTup s.heap t items) (hs : s.heap.IsSliceOf sl vl vu vs) (pl : IsPart vl none) (pu : IsPart vu none) (ps : IsPart vs (some (-1)))
    (h : Q (.ref s.heap.objs.size) { s with heap := s.heap.push { cls := .type "tuple", data := .seq items.toList.reverse.toArray } })
    (hsz : items.size ≤ sizeLine) : wpAny (model prog w) A (getItem (.ref t) (.ref sl)) Q E s := by
  have htake : sizeOk (.seq items.toList.reverse.toArray) := by
    show items.toList.reverse.toArray.size ≤ sizeLine
    rw [List.size_toArray, List.length_reverse, Array.length_toList]
    exact hsz
  obtain ⟨os, hos, hcs, hds⟩ := id hs
  have hTs : s.TypeIs (.ref sl) "slice" := ⟨os, hos, hcs⟩
  unfold getItem
  try with_reducible refine wpAny_holding ?_
  first | refine wpAny_bind (wpAny_pure ?_) | skip
  refine wpAny_bind (wpAny_sequenceKey ht.typeIs (by decide) ?_)
  refine wpAny_bind (wpAny_callSpecial?_slot (name := Str.ofString "__getitem__") ht.typeIs PyProof.Rows.slot_tuple_getitem
    (wpAny_call_entry PyProof.Rows.slot_tuple_getitem ht.typeIs entry_tuple_getitem ?_ (args_tuple_getitem _ _)))
  show wpAny _ _ (Builtin.Tuple.tupleItemsOf (.ref t) >>= _) _ _ s
  refine wpAny_bind (tupleItemsOf_ ht ?_)
  refine wpAny_bind (wpAny_typeOf hTs ?_)
  rw [if_pos (by decide)]
  refine wpAny_bind (sliceApplied_rev hs pl pu ps ?_)
  have hno : ¬ ((((items.size : Int) - 1) == 0 && (-1 : Int) == 1 && items.size == items.size) = true) := by
    rw [show ((-1 : Int) == 1) = false by decide, Bool.and_false, Bool.false_and]
    exact Bool.false_ne_true
  show wpAny _ _ (if (((items.size : Int) - 1) == 0 && (-1 : Int) == 1 && items.size == items.size) = true then _ else _) _ _ s
  rw [if_neg hno, pick_rev]
  first
    | exact wpAny_bind (m := Builtin.Tuple.tupleExact _) (wpAny_newObj_type (wpAny_pure ⟨_, rfl, wpAny_pure h⟩) htake)
    | exact wpAny_bind (m := Builtin.Tuple.tupleExact _) (wpAny_newObj_type (wpAny_bind (wpAny_pure (wpAny_pure ⟨_, rfl, wpAny_pure h⟩))) htake)
    | exact wpAny_bind (wpAny_bind (m := Builtin.Tuple.tupleExact _) (wpAny_newObj_type (wpAny_pure (wpAny_pure ⟨_, rfl, wpAny_pure h⟩)) htake))
    | exact wpAny_bind (wpAny_bind (m := Builtin.Tuple.tupleExact _) (wpAny_newObj_type (wpAny_pure ⟨_, rfl, wpAny_pure h⟩) htake))
end
section
variable {X : Cx} {te : TE}
def tRevT (K : PySem.W.Frag) (te : TE) : TE := fun σ H Q => te σ H fun x H1 => ∃ a xs, x = .ref a ∧ SqT K H1 a xs ∧ ∀ p, H1 p = none → Q (.ref p) (upd H1 p (.tup xs.reverse))
theorem pe_revT {e : Expr} {k : Nat} {p1 p2 p3 pos : Pos} (he : PE X e te) : PE X (.Subscript e (.Slice none none (some (.UnaryOp .USub (.Constant (.int 1) k p1) p2)) p3) pos) (tRevT X.K te) := by
  refine ⟨fun pins s σ H Q I h => ?_⟩
  refine Subscript_ (thn (he.run pins s σ H _ I h) fun v s1 ⟨x, H1, I1, r1, q1⟩ => ?_)
  obtain ⟨a, xs, ex, hx, q⟩ := q1
  subst ex
  cases r1
  have hst : PO X (some (.UnaryOp .USub (.Constant (.int 1) k p1) p2)) (tPart (tUn (rU fun i => .int (-i)) (tC (.int 1)))) := po_some (pe_un un_neg pe_int)
  refine wpAny_Slice (thn (po_none.run pins s1 σ H1 (fun o H2 => o = none ∧ H2 = H1) I1 ⟨rfl, rfl⟩) fun vl s2 ⟨l, H2, I2, pl, el, e2⟩ => ?_)
  subst el e2
  refine thn (po_none.run pins s2 σ H2 (fun o H3 => o = none ∧ H3 = H2) I2 ⟨rfl, rfl⟩) fun vu s3 ⟨u, H3, I3, pu, eu, e3⟩ => ?_
  subst eu e3
  refine thn (hst.run pins s3 σ H3 (fun o H4 => o = some (-1) ∧ H4 = H3) I3 ⟨1, rfl, -1, rfl, rfl, rfl⟩) fun vs s4 ⟨o, H4, I4, ps, eo, e4⟩ => ?_
  subst eo e4
  have I5 : Inv X pins σ H4 { s4 with heap := s4.heap.push { cls := .type "slice", data := .fields #[vl, vu, vs] } } := I4.kept (t' := s4.toks) fun b ob q => Heap.get?_push_of_some _ q
  obtain ⟨its, r, ht, hz⟩ := I5.tuple hx
  have hlen := r.length
  show wpAny (model X.prog X.w) X.A (subscriptTail e (.Slice none none (some (.UnaryOp .USub (.Constant (.int 1) k p1) p2)) p3) (.ref a) (.ref s4.heap.objs.size)) (EP X pins σ Q) X.xe { s4 with heap := s4.heap.push { cls := .type "slice", data := .fields #[vl, vu, vs] } }
  refine tail_any (ops := [.ref a, .ref s4.heap.objs.size]) ht.typeIs (PyProof.Rows.slot_tuple_getitem.lookup) ?_ (by with_unfolding_all rfl)
  refine getItem_tuple_rev ht (Heap.IsSliceOf.new _ vl vu vs) pl pu ps ?_ (by rw [List.size_toArray]; omega)
  refine ⟨.ref _, _, I5.laid (t' := s4.toks) (o := .tup xs.reverse) (fun b ob q => Heap.get?_push_of_some _ q) (Nat.le_refl _) ?_, rfl, q _ (I5.hok.fresh (Nat.le_refl _))⟩
  exact ⟨by rw [List.length_reverse]; exact hz, _, r.reverse, IsTup.new _ _⟩
end
end Own

/-! Lambdas handed to an own def: the end of a law with the tables of code objects; a def whose code object is known. -/
namespace Own
open PySem PySem.Spec PyProof.Rows L2
/-- the ones that a lambda stands in: name, code object, its table -/
abbrev Tabs3 := List (Str × Addr × Addr)
/-- the law's end, with tables -/
theorem lam_walk {l : PySem.W.OpenLaw} {n k : Nat} {q : Program} {loose : List Str} {XP : (Str → Option Value) → Heap → Prop} {YP : World → Heap → Prop} {d : DefRec} {K : Params → PySem.W.Frag} {sp : PySem.W.Frag → Tabs3 → Sp} {x : Str}
    (hn : l.most = some n) (hn2 : n ≤ sizeLine) (hdf : d.params.defaults = []) (hr : Room k callerA) (hY : ∀ (w : World) (h : Heap), YP w h → (K w.params).In h)
    (F : ∀ (w : World) (mg : Str → Option Value) (fa : Addr) (h : Heap), (K w.params).In h → h.Ns mainGlobals mg → mg d.name = some (.ref fa) →
      ∃ (fd : FuncData) (cs : Tabs3), (∀ t ∈ cs, (∃ r, (recsOf q).find? (fun e => e.name == t.1) = some r) ∧ PySem.W.tabIn (K w.params) t.1 = some t.2 ∧ (K w.params).lookup t.2.2 = none) ∧ (∀ (s : Shared) (u : Value), BindsTo s fd ⟨[u], []⟩ [(x, u)]) ∧
        ∀ base : Heap, (K w.params).In base → base.Ns mainGlobals mg → (∀ t ∈ cs, LamX.TabB base mg t.2.1 t.2.2) → FnOk l.prog w (K w.params) mg base CX0 k fa fd [x] (sp (K w.params) cs))
    (hsp : ∀ (K : PySem.W.Frag) (cs : Tabs3) (H : Hp) (a : Addr) (ns : List Int), ns.length ≤ n → (∀ t ∈ cs, H t.2.2 = some (.tbl #[])) → SqL K H a (ns.map V.int) → sp K cs [.ref a] H (fun v _ => v = .bl true) E0) :
    PySem.W.WalkO q loose XP YP l.row.toRowW d [] (fun f vs => PySem.call f vs) := by
  refine Att.attach_callB hn hdf fun w s₀ s₁ mg mb fa o pm cd doc a vs ns G Y ho hd hcd hmg hobj hints hlen hbits hg => ?_
  have KX := hY w _ Y
  obtain ⟨fd, cs, facts, hb, hF⟩ := F w mg fa _ KX G.T.g hmg
  have both : ∀ t ∈ cs, PySem.W.CodeHd s₁.heap t.2.1 t.2.2 ∧ s₁.heap.get? t.2.2 = some { cls := .none, data := .fields #[] } := fun t ht => by
    obtain ⟨⟨r, hrec⟩, htab, _⟩ := facts t ht
    exact PySem.W.tab_of (x := t.1) (c := t.2.1) (P := t.2.2) G.T KX hrec htab
  have pull : ∀ {Z : Addr × Addr → Prop}, (∀ t ∈ cs, Z t.2) → ∀ p ∈ cs.map (·.2), Z p := fun {Z} h p hp => by
    obtain ⟨t, ht, rfl⟩ := List.mem_map.mp hp
    exact h t ht
  have back : ∀ {Z : Addr × Addr → Prop}, (∀ p ∈ cs.map (·.2), Z p) → ∀ t ∈ cs, Z t.2 := fun h t ht => h t.2 (List.mem_map.mpr ⟨t, ht, rfl⟩)
  refine LamX.law_callTs (cs := cs.map (·.2)) (CX := CX0) KX G.T.g G.T.b G.T.builtins G.T.nolimit hg (pull (Z := fun p => s₁.heap.get? p.2 = _) fun t ht => (both t ht).2) (pull (Z := fun p => (K w.params).lookup p.2 = none) fun t ht => (facts t ht).2.2) (pull (Z := fun p => PySem.W.CodeHd s₁.heap p.1 p.2) fun t ht => (both t ht).1)
    G.T.bmain hobj hints (Nat.le_trans hlen hn2) hr (fun base h1 h2 h3 => hF base h1 h2 (back (Z := fun p => LamX.TabB base mg p.1 p.2) h3)) hb (fun H hH hS => hsp _ cs H a ns hlen (back (Z := fun p => H p.2 = some (.tbl #[])) hH) hS) fun H e s' h => h
/-- a def by its body, its code object known -/
theorem ok_code {P : Program} {w : World} {K : PySem.W.Frag} {mg : Str → Option Value} {base : Heap} {x qual : Str} {st : Stmt} {f c : Addr} {fd : FuncData} {N ps : List Str} {k : Nat} {sp : Sp} (F : Fun K x qual st f fd) (hc : fd.code = .ref c) (S : FnScope N ps (defScope st)) (len : ∀ vs H Q E, sp vs H Q E → vs.length = ps.length)
    (hbody : ∀ (A : Around) (outer : List Env) (s : Shared) (H : Hp) (vs : List V) (Q : VK) (E : XK), Room k (A.deeper (envOfC qual (defScope st) s.heap.objs.size f (.ref c))) → sp vs H Q E →
      ∃ t, PSs (cxOf CX0 P w K mg base N qual (defScope st) f (.ref c) A outer s H E).nox (defBody st) t ∧ t { nx := fun _ H' => Q .non H', rt := Q } (L2.start N vs) H) : FnOk P w K mg base CX0 (k + 1) f fd ps sp := by
  obtain ⟨oc, od, kV, doc, pm, an, cdv, ct, osl, rfl, lk, hcd⟩ := F.ex
  have e : cdv = .ref c := hc
  subst e
  refine fn_of lk hcd S len fun A outer s H vs Q E hr hsp => ?_
  obtain ⟨t, h, q⟩ := hbody A outer s H vs Q E hr hsp
  exact ⟨t, h.nox, q⟩
/-- where a def's code object and its table stand, by what is written -/
theorem tab_by {K : PySem.W.Frag} {x : Str} {f c P : Addr} {oc o2 : Value} {od d2 : Option Addr} {sl s2 : Array (Option Value)} {fd : FuncData} {vs : Array Value} (a : PySem.W.nsIn K mainGlobals x = some (some (.ref f))) (l : K.lookup f = some ⟨oc, od, .func fd, sl⟩) (kd : fd.code = .ref c)
    (lc : K.lookup c = some ⟨o2, d2, .fields vs, s2⟩) (vp : (vs[11]? : Option Value) = some (.ref P)) : PySem.W.tabIn K x = some (c, P) := by
  unfold PySem.W.tabIn
  rw [a]
  dsimp only
  rw [l]
  dsimp only
  rw [kd]
  dsimp only
  rw [lc]
  dsimp only
  rw [vp]
end Own

/-! A lambda of one parameter handed to max as key=: it reads captured names and its parameter, and changes nothing. -/
namespace Own
open PySem PySem.Spec PyProof.Rows L2 LamX
/-! ### the lambda's names -/
structure LamP (sc scope : Scope) (a : Str) : Prop where
  kind : scope.kind = .function
  co : scope.isCoroutine = false
  gen : scope.isGenerator = false
  own : ∀ y ∈ scope.names, y.2 ≠ .cell ∧ (y.2 = .local → y.1 = a)
  par : scope.names.lookup a = some .local
  free : ∀ y ∈ scope.names, y.2 = .free → sc.names.lookup y.1 = some .cell ∨ sc.names.lookup y.1 = some .free
def lamPB (sc scope : Scope) (a : Str) : Bool :=
  decide (scope.kind = .function) && !scope.isCoroutine && !scope.isGenerator && decide (scope.names.lookup a = some .local) && scope.names.all fun y => !decide (y.2 = .cell) && (!decide (y.2 = .local) || decide (y.1 = a)) && (!decide (y.2 = .free) || decide (sc.names.lookup y.1 = some .cell) || decide (sc.names.lookup y.1 = some .free))
theorem lamP_by {sc scope : Scope} {a : Str} (h : lamPB sc scope a = true) : LamP sc scope a := by
  unfold lamPB at h
  simp only [Bool.and_eq_true, Bool.or_eq_true, Bool.not_eq_true', decide_eq_true_eq, decide_eq_false_iff_not, List.all_eq_true] at h
  obtain ⟨⟨⟨⟨h1, h2⟩, h3⟩, h5⟩, h4⟩ := h
  refine ⟨h1, h2, h3, fun y hy => ⟨(h4 y hy).1.1, fun e => ?_⟩, h5, fun y hy e => ?_⟩
  · rcases (h4 y hy).1.2 with z | z
    · exact absurd e z
    · exact z
  · rcases (h4 y hy).2 with (z | z) | z
    · exact absurd e z
    · exact .inl z
    · exact .inr z
theorem LamP.has {X : Cx} {scope : Scope} {a : Str} (L : LamP X.env.scope scope a) (ok : X.Ok) : ∀ y ∈ scope.names, y.2 = .free → ∃ c, X.env.cells.lookup y.1 = some c := fun y hy e => by
  rcases L.free y hy e with k | k
  · exact ok.has _ (.inl k)
  · exact ok.has _ (.inr k)
/-- the context of the lambda's body, its parameter behind the maker's names -/
abbrev lamCxP (X : Cx) (A : Around) (s : Shared) (H : Hp) (scope : Scope) (f c' : Addr) (a : Str) : Cx := { lamCx X A X.stack s H E0 scope f c' with N := X.N ++ [a] }
section
variable {X : Cx} {pins : List (Addr × Obj)} {σ : L2.St} {H HZ : Hp} {s s1 : Shared}
theorem lamP_start {A : Around} {scope : Scope} {f c' : Addr} {a : Str} {v : V} {u : Value} {h₁ : Heap} {tk : Nat} (I : Inv X pins σ H s) (L : LamP X.env.scope scope a) (ha : a ∉ X.N) (rv : RelV v u) (e0 : Env0 X.prog X.w X.K X.mg X.base A X.stack s H) (hd : A.handled = none)
    (hns : h₁.Ns s.heap.objs.size fun y => ([(a, u)] : List (Str × Value)).reverse.lookup y) (kp : ∀ b o, s.heap.get? b = some o → h₁.get? b = some o) :
    Inv (lamCxP X A s H scope f c' a) [] (σ ++ [some v]) H { s with heap := h₁, toks := tk } := by
  have hfree := L.has I.ok
  have cm : ∀ {y c}, (cloFrom X.env.cells scope.names []).lookup y = some c → X.env.cells.lookup y = some c := fun {y c} e => by
    rcases cloFrom_mem (PySem.mem_of_lookup e) with hm | ⟨h1, h2⟩
    · cases hm
    · obtain ⟨c1, hc⟩ := hfree _ h1 rfl
      have hc : X.env.cells.lookup y = some c1 := hc
      have e2 : c = c1 := by
        rw [h2, hc] <;> rfl
      rw [e2]
      exact hc
  have look : ∀ {y}, scope.names.lookup y = some .free → ∃ c, (cloFrom X.env.cells scope.names []).lookup y = some c := fun {y} hl => by
    have hy : (y, NameKind.free) ∈ scope.names := PySem.mem_of_lookup hl
    exact mem_lookup (cloFrom_has (cells := X.env.cells) (acc := []) hy)
  have cellK : ∀ {c : Addr} {v : Option Value}, s.heap.IsCell c v → h₁.IsCell c v := fun {c v} ⟨o, ho, hd⟩ => ⟨_, kp _ _ ho, hd⟩
  have noA : ∀ b : Addr, b ∉ (lamCxP X A s H scope f c' a).ex := fun b z => absurd (show b ∈ ([] : List Addr) from z) (by simp)
  have len := I.len
  refine ⟨⟨e0.mod, L.kind, rfl, rfl, Nat.le_refl _, fun y z c e1 e2 => I.ok.inj y z c (cm e1) (cm e2), fun y hy => ?_, fun y c z _ => ?_, fun _ => hd, Around.frames_deeper e0.frames, .inr ⟨rfl, rfl⟩, fun b z => absurd z (noA b), e0.bs, e0.bsz, fun b _ _ => noA b,
      fun b z => absurd z (noA b), e0.funs, e0.frf⟩,
    rfl, e0.bare, Un.kept kp, ⟨_, hns, fun i y w e1 e2 e3 => ?_⟩, fun y c e => ?_, e0.hok.fresh (Nat.le_refl _), fun y c e => ?_, fun q hq => absurd (show q ∈ ([] : List (Addr × Obj)) ++ [] from hq) (by simp), e0.hok.kept kp, ?_⟩
  · have hy : scope.names.lookup y = some .cell ∨ scope.names.lookup y = some .free := hy
    rcases hy with hy | hy
    · exact absurd rfl (L.own _ (PySem.mem_of_lookup hy)).1
    · exact look hy
  · have z : false = true := z
    cases z
  · have e3 : Vis scope y := e3
    have e1 : (X.N ++ [a])[i]? = some y := e1
    have e2 : (σ ++ [some v])[i]? = some (some w) := e2
    by_cases il : i < X.N.length
    · rw [List.getElem?_append_left il] at e1
      rw [List.getElem?_append_left (by omega)] at e2
      have ya : y ≠ a := fun e => ha (by rw [← e]; exact List.mem_of_getElem? e1)
      rcases e3 with k | k | k
      · exact absurd ((L.own _ (PySem.mem_of_lookup k)).2 rfl) ya
      · exact absurd rfl (L.own _ (PySem.mem_of_lookup k)).1
      · obtain ⟨m, hn, hl⟩ := I.loc
        have hvis : Vis X.env.scope y := (L.free _ (PySem.mem_of_lookup k) rfl).elim (fun k => .inr (.inl k)) (fun k => .inr (.inr k))
        obtain ⟨w', r, q⟩ := hl i y w e1 e2 hvis
        obtain ⟨c2, h2⟩ := look k
        refine ⟨w', r, .inr ⟨.inr k, c2, h2, ?_⟩⟩
        have c1 := cm h2
        rcases q with ⟨k', _⟩ | ⟨_, c3, e', z⟩
        · have k' : X.env.scope.names.lookup y = some .local := k'
          rcases L.free _ (PySem.mem_of_lookup k) rfl with k2 | k2 <;> rw [show X.env.scope.names.lookup y = _ from k2] at k' <;> cases k'
        · rw [c1] at e'
          cases e'
          exact cellK z
    · rw [List.getElem?_append_right (by omega)] at e1 e2
      have i0 : i - X.N.length = 0 := by
        have := (List.getElem?_eq_some_iff.mp e1).1
        have : i - X.N.length < 1 := this
        omega
      rw [i0] at e1
      rw [len, i0] at e2
      have ey : a = y := Option.some.inj e1
      have ew : v = w := Option.some.inj (Option.some.inj e2)
      subst ey
      subst ew
      refine ⟨u, rv, .inl ⟨L.par, ?_⟩⟩
      show (([(a, u)] : List (Str × Value)).reverse).lookup a = some u
      simp
  · obtain ⟨w', z⟩ := I.cell y c (cm e)
    exact ⟨w', cellK z⟩
  · exact I.freeC y c (cm e)
  · show (σ ++ [some v]).length = (X.N ++ [a]).length
    rw [List.length_append, List.length_append, len]
    rfl
/-- the lambda at f, called with one value: what its body reads -/
theorem lamP_call {A1 : Around} {k : Nat} {f c' : Addr} {pm ctv : Value} {params : Arguments} {body : Expr} {scope : Scope} {a : Str} {v : V} {u : Value} {tb : TE} {Q : Value → Shared → Prop} {E : Value → Shared → Prop}
    (sb : Sub X (k + 1) A1) (I : Inv X pins σ H s) (L : LamP X.env.scope scope a) (ha : a ∉ X.N) (hf : s.heap.get? f = some (PySem.W.kla_obj "<lambda>" (X.env.qual ++ "<lambda>") params body scope (cloFrom X.env.cells scope.names []) pm c' ctv)) (hco : H c' = some (CodeO c' (X.env.qual ++ "<lambda>")))
    (hbind : ∀ (s : Shared), bindArgs (PySem.W.kla_fn "<lambda>" (X.env.qual ++ "<lambda>") params body scope (cloFrom X.env.cells scope.names []) pm (.ref c') ctv) ⟨[u], []⟩ = pure [(a, u)])
    (rv : RelV v u) (hbody : Room k (A1.deeper (lamEnv X scope s.heap.objs.size f c')) → PE (lamCxP X A1 s H scope f c' a) body tb) (W : VK) (h : tb (σ ++ [some v]) H W)
    (go : ∀ (x : V) (y : Value) (H' : Hp) (s' : Shared), Inv X pins σ H' s' → RelV x y → W x H' → (∀ b o, s.heap.get? b = some o → H b = none → b ∉ frs X.stack → s'.heap.get? b = some o) → (∀ b o z, H b = some (.frz o z) → H' b = some (.frz o z)) → Q y s') :
    wpAny (model X.prog X.w) A1 (call (.ref f) [u]) Q E s := by
  have e0 : Env0 X.prog X.w X.K X.mg X.base A1 X.stack s H := by
    have e := I.env0
    exact ⟨by rw [sb.fr]; exact e.frames, e.mod, e.bs, e.bsz, e.funs, e.frf, e.hok, e.bare⟩
  obtain ⟨⟨oc, vs, t, hoc, hdc, hvc⟩, _, _⟩ := I.hok c' _ hco
  have rc : codeAny (model X.prog X.w) A1 (.call (.ref f) ⟨[u], []⟩) (CR (L2.CX X.prog X.w) X.stack X.prog X.w H s W E0) s := by
    refine PySem.W.kla_callFunE sb.room.depth hf rfl L.co L.gen rfl ⟨c', oc, vs, t, rfl, hoc, hdc, hvc⟩ ?_
    rw [hbind s]
    refine wpAny_pure (wpAny_newFunctionEnv (fun y hy => (L.own y hy).1) (fun y hy => ?_) (fun h₁ hns hsb => ⟨I.nolimit.fresh _ hsb, ?_⟩) L.kind)
    · rw [List.mem_singleton.mp hy]
      exact L.par
    show codeAny _ _ (.expr body (lamEnv X scope s.heap.objs.size f c')) _ _
    have kp : ∀ b o, s.heap.get? b = some o → h₁.get? b = some o := fun b o e => hsb.extBut b o (Nat.ne_of_lt (Heap.lt_size e)) (Heap.get?_push_of_some _ e)
    have J := lamP_start (f := f) (c' := c') (tk := s.toks + ([(a, u)] : List (Str × Value)).length) I L ha rv e0 sb.room.hd hns kp
    refine PySem.W.kla_codeExpr (wpAny_mono ((hbody (sb.room.deeper _)).run [] _ _ H W J h) (fun y s' hq => ?_) fun e s' hq => hq)
    obtain ⟨w', H', J', r, q⟩ := hq
    exact ⟨w', H', J'.os, J'.bare, J'.base, J'.hok, r, q⟩
  refine wpAny_call (codeAny_mono rc fun r s' hq => ?_)
  cases r with
  | error e =>
    obtain ⟨_, _, _, _, _, _, _, _, _, _, _, _, z⟩ := (show L2.CX X.prog X.w X.stack H s E0 e s' from hq)
    exact z.elim
  | ok fl =>
    cases fl with
    | ret y =>
      have hq : CE X.stack X.prog X.w H s W y s' := hq
      have un : ∃ H', Un (frs X.stack) [] H H' s.heap s'.heap := by
        obtain ⟨_, H', _, _, un, _⟩ := hq
        exact ⟨H', un⟩
      obtain ⟨x, H', os, bare, un, hok, rx, q⟩ := hq
      have I2 : Inv X pins σ H' s' := by
        obtain ⟨hh, g, d, t, os'⟩ := s'
        obtain rfl : os' = s.os := os
        exact I.call (h' := hh) (g' := g) (d' := d) (t' := t) (ch := []) un hok bare (fun b z => absurd z (by simp))
      exact go x y H' s' I2 rx q (fun b o e n nf => un.keep b o e n nf (by simp)) un.frzs
    | next => exact False.elim hq
    | brk => exact False.elim hq
    | cont => exact False.elim hq
end
/-! ### max(e, key=lambda a: body) -/
theorem best_first (kk : Nat → Int) : ∀ m j, j < argBest (fun i j => decide (kk i > kk j)) m → kk j < kk (argBest (fun i j => decide (kk i > kk j)) m)
  | 0, j, h => absurd h (Nat.not_lt_zero _)
  | m + 1, j, h => by
    have e : argBest (fun i j => decide (kk i > kk j)) (m + 1) = if decide (kk (m + 1) > kk (argBest (fun i j => decide (kk i > kk j)) m)) = true then m + 1 else argBest (fun i j => decide (kk i > kk j)) m := rfl
    rw [e] at h ⊢
    obtain ⟨h1, h2⟩ := argBest_gt kk m
    by_cases c : kk (m + 1) > kk (argBest (fun i j => decide (kk i > kk j)) m)
    · rw [if_pos (decide_eq_true c)] at h ⊢
      have := h2 j (by omega)
      omega
    · rw [if_neg (by simpa using c)] at h ⊢
      exact best_first kk m j h
/-- the list is locked; kk: what the lambda tells of the i-th item; the first one of the greatest is told -/
def tMaxKey (T : List (Addr × Str)) (to tb : TE) : TE := fun σ H Q => to σ H fun x H1 => Tabs T H1 ∧ ∀ H2, ExtN H1 H2 → Tabs T H2 → ∃ (l : Addr) (od : Obj) (xs : List V) (kk : Nat → Int), x = .ref l ∧ H2 l = some (.frz od (.lst xs)) ∧ xs ≠ [] ∧
  (∀ i v, xs[i]? = some v → tb (σ ++ [some v]) H2 fun k H3 => H3 = H2 ∧ k = .int (kk i)) ∧ ∀ i v, xs[i]? = some v → (∀ j, j < xs.length → kk j ≤ kk i) → (∀ j, j < i → kk j < kk i) → Q v H2
section
variable {X : Cx}
theorem nofr_at {pins : List (Addr × Obj)} {σ : L2.St} {H : Hp} {s : Shared} (I : Inv X pins σ H s) {f : Addr} (hf : s.heap.objs.size ≤ f) : f ∉ frs X.stack := fun z => by
  rcases List.mem_cons.mp (I.stkSub _ z) with e | e
  · have h1 := I.lt
    rw [← e] at h1
    exact Nat.lt_irrefl _ (Nat.lt_of_lt_of_le h1 hf)
  · exact I.nofs hf e
theorem pe_maxKey {T : List (Addr × Str)} {c P : Addr} {k : Nat} {e : Expr} {params : Arguments} {body : Expr} {scope : Scope} {a : Str} {to tb : TE} {p kpos lpos pos : Pos} (hc : X.calm = true) (hg : Gl X "max") (hm : X.mg "max" = none) (he : PE X e to)
    (TB : TabB X.base X.mg c P) (hcode : X.env.code = .ref c) (hmT : (P, X.env.qual ++ "<lambda>") ∈ T) (hu : ∀ p ∈ T, p.1 = P → p.2 = X.env.qual ++ "<lambda>") (hr : Room (k + 2) X.A) (L : LamP X.env.scope scope a) (ha : a ∉ X.N) (hdef : defaultsOf params X.env = ([], []))
    (hbind : ∀ (q : Str) (cl : List (Str × Addr)) (pm cv ctv u : Value), bindArgs (PySem.W.kla_fn "<lambda>" q params body scope cl pm cv ctv) ⟨[u], []⟩ = pure [(a, u)])
    (hbody : ∀ (s : Shared) (H : Hp) (f c' : Addr), Room k (X.A.in1.deeper (lamEnv X scope s.heap.objs.size f c')) → PE (lamCxP X X.A.in1 s H scope f c' a) body tb)
    (h1 : backTo pos (starEach [e] X.env) = (false, eval e X.env) :: backTo pos (starEach [] X.env) := by rfl) (h2 : (backTo pos (starEach [e] X.env)).any (·.1) = false := by rfl) :
    PE X (.Call (.Name "max" p) [e] [⟨some "key", .Lambda params body scope lpos, kpos⟩] pos) (tMaxKey T to tb) := by
  refine ⟨fun pins s σ H Q I h => ?_⟩
  refine wpAny_Call_Name_kw (ld_blt I hg hm (show bootBuiltins "max" = some (.builtin "max") by decide +kernel) ?_)
  refine PyProof.Rows.callWith_kw ?_ h1 h2 rfl rfl
  rw [h1]
  refine Calls.spliced_cons (thn (he.run pins s σ H _ I h) fun u s1 ⟨x, H1, I1, r1, q1⟩ => ?_)
  refine Calls.spliced_nil ?_
  obtain ⟨hT, h⟩ := q1
  show wpAny _ _ (evalAll [do let v ← eval (.Lambda params body scope lpos) X.env; standAt pos; pure v]) _ _ s1
  refine wpAny_evalAll_cons (wpAny_bind (lam_make2 I1 TB hcode hmT hu hT hdef (L.has I1.ok) fun f c' pm ctv H2 s2 I2 eN T2 hf hfn hfr hco => wpAny_bind (wpAny_standAt (wpAny_pure ?_))))
  refine wpAny_evalAll_nil ?_
  show wpAny _ X.A (call (.builtin "max") [u] [(Str.ofString "key", .ref f)]) _ _ s2
  obtain ⟨l, od, xs, kk, rfl, hl, hne, hbd, fin⟩ := h H2 eN T2
  obtain rfl : u = Value.ref l := r1
  obtain ⟨its, rv, hL, _⟩ := I2.list (.inl (.inr ⟨od, hl⟩))
  have lo : s2.heap.get? l = some od := (I2.hok l _ hl).1
  have hn : its.length = xs.length := rv.length.symm
  have hpos : 0 < its.toArray.size := by
    have := List.length_pos_iff.mpr hne
    simp only [List.size_toArray]
    omega
  have isL : s2.heap.IsList l its.toArray := hL.isList
  refine call_max_walkK (wpAny_pyIter_list isL ?_)
  have ll : l < s2.heap.objs.size := Heap.lt_size lo
  have sz2 : (s2.heap.push { cls := .type "list_iterator", data := .fields #[.ref l, .int 0 0] }).objs.size = s2.heap.objs.size + 1 := Heap.size_push _ _
  have nI : H2 s2.heap.objs.size = none := I2.hok.fresh (Nat.le_refl _)
  have nS : H2 (s2.heap.objs.size + 1) = none := I2.hok.fresh (Nat.le_succ _)
  have fpI : FpOk X pins H2 s2.heap.objs.size := I2.fpOk (Nat.le_refl _) nI
  have fpS : FpOk X pins H2 (s2.heap.objs.size + 1) := I2.fpOk (Nat.le_succ _) nS
  have frI := nofr_at I2 (Nat.le_refl _)
  have frS := nofr_at I2 (Nat.le_succ _)
  have fI : f ≠ s2.heap.objs.size := Nat.ne_of_lt (Heap.lt_size hf)
  have fS : f ≠ s2.heap.objs.size + 1 := Nat.ne_of_lt (Nat.lt_succ_of_lt (Heap.lt_size hf))
  have pk : ∀ b o, s2.heap.get? b = some o → (s2.heap.push { cls := .type "list_iterator", data := .fields #[.ref l, .int 0 0] }).get? b = some o := fun b o e => Heap.get?_push_of_some _ e
  have sb : Sub X (k + 1) X.A.in1 := ⟨hr.in1, rfl⟩
  refine ⟨s2.heap.objs.size, [s2.heap.objs.size, l], [s2.heap.objs.size], _, its.toArray.size, _, _, fun s' => Inv X pins σ H2 s' ∧ s'.heap.get? f = some (PySem.W.kla_obj "<lambda>" (X.env.qual ++ "<lambda>") params body scope (cloFrom X.env.cells scope.names []) pm c' ctv),
    fun i y _ => ∃ t, y = .int (kk i) t, fun i j => decide (kk i > kk j), rfl, (Walks.list (prog := X.prog) (w := X.w) (A := X.A.in1) (I2.ok.hd hc) s2.heap.objs.size l (Nat.ne_of_lt ll) its.toArray).toS,
    ⟨⟨_, Heap.get?_push_size _ rfl, rfl, rfl⟩, isL.at fun o e => pk _ _ e⟩, fun b hb => ?_, hpos, ?_, ⟨I2.kept (t' := s2.toks) pk, pk _ _ hf⟩, fun v s' hP hJ => ?_⟩
  · show b < (s2.heap.push _).objs.size
    rw [sz2]
    rcases List.mem_cons.mp hb with e | hb
    · rw [e]
      exact Nat.lt_succ_self _
    · rw [List.mem_singleton.mp hb]
      exact Nat.lt_succ_of_lt ll
  · show KeyRun X.prog X.w X.A.in1 (.ref f) .Gt (s2.heap.push _).objs.size _ _ _ _ _ _ _ _
    rw [sz2]
    refine ⟨fun s' s'' hJ hm => ?_, fun i y s' s'' hV _ => hV, fun i v s' o Q' E' hi hP hJ hst hS go => ?_, fun i j ki kj s' Q' E' _ hi hj hq => ?_⟩
    · obtain ⟨hh, g, d, t, os⟩ := s''
      have hd : d = s'.drawn := hm.drawn
      have hos : os = s'.os := hm.os
      have hgs : g = s'.gens := hm.gens
      subst hd
      subst hos
      subst hgs
      refine ⟨hJ.1.turnedL (h' := hh) (t' := t) (ch := [s2.heap.objs.size + 1, s2.heap.objs.size]) hm.heap fun b hb => ?_, hm.heap _ _ (by simp [fI, fS]) hJ.2⟩
      rcases List.mem_cons.mp hb with e | hb
      · rw [e]
        exact fpS
      · rw [List.mem_singleton.mp hb]
        exact fpI
    · have hx : ∃ x, xs[i]? = some x ∧ RelV x v := by
        have hi' : its[i]? = some v := by simpa using hP
        have il : i < xs.length := by
          have := (List.getElem?_eq_some_iff.mp hi').1
          omega
        obtain ⟨u', hu', ru'⟩ := rv.get (List.getElem?_eq_getElem il)
        rw [hi'] at hu'
        cases hu'
        exact ⟨_, List.getElem?_eq_getElem il, ru'⟩
      obtain ⟨x, hx, rx⟩ := hx
      have hl' : s'.heap.get? l = some od := (hJ.1.hok l _ hl).1
      refine lamP_call sb hJ.1 L ha hJ.2 hco (fun _ => hbind _ _ _ _ _ _) rx (fun hr' => hbody _ _ _ _ hr') _ (hbd i x hx) fun y yv H' s'' I'' ry q kp fz => ?_
      obtain ⟨e1, e2⟩ := q
      subst e1
      subst e2
      obtain ⟨t, rfl⟩ := ry
      refine go _ s'' ⟨I'', kp _ _ hJ.2 hfn hfr⟩ ?_ (kp _ _ hS nS frS) ⟨t, rfl⟩ fun _ _ h => h
      exact ⟨hst.1.at fun o e => kp _ _ e nI frI, hst.2.at fun o e => by rw [hl'] at e; rw [← e]; exact (I''.hok l _ hl).1⟩
    · obtain ⟨t, rfl⟩ := hi
      obtain ⟨t', rfl⟩ := hj
      exact CmpOf.ints_gt (P := fun i v => ∃ t, v = .int (kk i) t) kk (fun _ _ h => h) i j _ _ s' Q' E' ⟨t, rfl⟩ ⟨t', rfl⟩ hq
  · obtain ⟨b1, b2⟩ := argBest_gt kk (its.toArray.size - 1)
    have hP' : its[argBest (fun i j => decide (kk i > kk j)) (its.toArray.size - 1)]? = some v := by simpa using hP
    have il : argBest (fun i j => decide (kk i > kk j)) (its.toArray.size - 1) < xs.length := by
      have := (List.getElem?_eq_some_iff.mp hP').1
      omega
    obtain ⟨u', hu', ru'⟩ := rv.get (List.getElem?_eq_getElem il)
    rw [hP'] at hu'
    cases hu'
    have szn : its.toArray.size = xs.length := by simp only [List.size_toArray]; exact hn
    exact ⟨_, H2, hJ.1, ru', fin _ _ (List.getElem?_eq_getElem il) (fun j hj => b2 j (by omega)) fun j hj => best_first kk _ j hj⟩
end
end Own

/-! list.remove of a text, which stands in the list. -/
namespace Own
open PySem PySem.Spec PyProof.Rows L2
def eqz (z : Str) (v : Value) : Bool := match v with
  | .str x _ => x.cps.toList == z.cps.toList
  | _ => false
theorem erase_mapS : ∀ (l : List Str) (j : Nat), (l.map V.str).eraseIdx j = (l.eraseIdx j).map V.str
  | [], j => by simp
  | a :: r, 0 => by simp
  | a :: r, j + 1 => by
    have ih := erase_mapS r j
    simp [ih]
section
variable {X : Cx}
def rRemS : V → List V → Hp → VK → Prop := fun x xs H Q => ∃ (l : Addr) (zs : List Str) (z : Str) (j : Nat), x = .ref l ∧ xs = [.str z] ∧ H l = some (.lst (zs.map V.str)) ∧ zs[j]? = some z ∧ (∀ m : Nat, m < j → zs[m]? ≠ some z) ∧ Q .non (upd H l (.lst ((zs.eraseIdx j).map V.str)))
theorem mt_removeS : MtM X "list.remove" rRemS := by
  intro pins s σ H x xs v us Q I rx rxs h
  obtain ⟨l, zs, z, j, rfl, rfl, hH, hj, hno, q⟩ := h
  cases rx
  obtain ⟨u, rfl, ru⟩ := rxs.one
  obtain ⟨t, rfl⟩ := ru
  obtain ⟨zz, its, n, r, hl, e⟩ := I.lstM hH
  rw [List.length_map] at hl zz
  have at_ : ∀ (m : Nat) (h : m < its.length), ∃ tm, its[m]'h = .str (zs[m]'(by omega)) tm := fun m h => by
    obtain ⟨u', hu', ru'⟩ := r.get (i := m) (x := .str (zs[m]'(by omega))) (by rw [List.getElem?_map, List.getElem?_eq_getElem (by omega)] <;> rfl)
    obtain ⟨tm, rfl⟩ := ru'
    rw [List.getElem?_eq_getElem h] at hu'
    exact ⟨tm, Option.some.inj hu'⟩
  have hjn : j < zs.length := (List.getElem?_eq_some_iff.mp hj).1
  have hjl : j < its.toArray.size := by rw [List.size_toArray]; omega
  refine call_meets PySem.F.slot_list_remove ⟨_, e, rfl⟩ PySem.F.entry_list_remove (PySem.F.args_list_remove_2 _ _)
    (MeetsSeq.list_remove l its.toArray n (.str z t) (eqz z) (fun y hy => ?_) j hjl ?_ ?_ (by rw [List.size_toArray]; omega)) ⟨e, ?_⟩
  · have hy' : y ∈ its := by simpa using hy
    obtain ⟨m, hm, rfl⟩ := List.mem_iff_getElem.mp hy'
    obtain ⟨tm, em⟩ := at_ m hm
    rw [em]
    exact PySem.SeqRoads2.EqGives.str _ z tm t
  · obtain ⟨tj, ej⟩ := at_ j (by omega)
    have e1 : its.toArray[j] = .str zs[j] tj := by simpa using ej
    rw [e1]
    have e2 : zs[j] = z := (List.getElem?_eq_some_iff.mp hj).2
    rw [e2]
    show (z.cps.toList == z.cps.toList) = true
    exact beq_self_eq_true _
  · intro m hm hmj
    obtain ⟨tm, em⟩ := at_ m (by rw [List.size_toArray] at hm; exact hm)
    have e1 : its.toArray[m] = .str (zs[m]'(by omega)) tm := by simpa using em
    rw [e1]
    refine beq_eq_false_iff_ne.mpr fun e2 => hno m hmj ?_
    rw [List.getElem?_eq_getElem (show m < zs.length by omega)]
    have e3 := Array.toList_inj.mp e2
    cases hz : zs[m]'(by omega)
    cases z
    rw [hz] at e3
    exact congrArg some (congrArg Str.mk e3)
  · have rr := r.eraseIdx j
    rw [erase_mapS] at rr
    refine ⟨.non, _, I.lset (its' := its.eraseIdx j) (t' := s.toks) hH e ?_ rr ?_, rfl, q⟩
    · show its.toArray.eraseIdxIfInBounds j = (its.eraseIdx j).toArray
      rw [List.eraseIdxIfInBounds_toArray]
    · rw [List.length_map]
      have := List.length_eraseIdx_le zs j
      omega
end
end Own

/-! sorted(d) of a dict whose keys are pairs of texts. -/
namespace Own
open PySem PySem.Spec PyProof.Rows L2
theorem call_sortedT {X : Cx} (hc : X.calm = true) : CallR X (.builtin "sorted") (fun xs H Q => ∃ (d : Addr) (kvs : List (List Key × V)), xs = [.ref d] ∧ Rd H d (.dT kvs) ∧ (∀ e ∈ kvs, ∃ x y : Str, e.1 = [.inr x, .inr y]) ∧ ∀ (p : Addr) (bs cs : List Addr), H p = none → IsKeys H kvs bs → cs.Perm bs → Q (.ref p) (upd H p (.lst (cs.map V.ref)))) := by
  intro pins s σ H xs us Q I hv h
  obtain ⟨d, kvs, rfl, rd, sh, q⟩ := h
  have ok := rd.ok I.hok
  unfold ObjOk at ok
  obtain ⟨l0, sys, ks, kt, o, es, ep, ho, ex, hd, he, nd⟩ := ok
  obtain ⟨u, rfl, r⟩ := hv.one
  obtain rfl : u = Value.ref d := r
  have n0 := size_of_entries he
  have lk := kt.length
  refine Calls.call_function_entry kind_sorted plain_sorted entry_sorted (args_sorted1 _) ?_
  unfold Builtin.sorted
  refine wpAny_bind (wpAny_pure ?_)
  refine wpAny_bind (W.kdu_collect (kdl_raw sys ex hd) (I.ok.hd hc) ho (by omega) fun h' tk acc keep items => ?_)
  have eacc : acc.toList = (ks.map (·.2.1)).map Value.ref := by
    obtain ⟨an, ai⟩ := items
    refine List.ext_getElem? fun j => ?_
    rw [Array.getElem?_toList, List.getElem?_map, List.getElem?_map]
    by_cases hj : j < acc.size
    · obtain ⟨v, hv⟩ : ∃ v, acc[j]? = some v := ⟨_, Array.getElem?_eq_getElem hj⟩
      obtain ⟨en, h1, h2⟩ := ai j v hv
      rw [entry_at he j] at h1
      rw [hv, h2]
      cases e : ks[j]? with
      | none => rw [e] at h1; cases h1
      | some x =>
        rw [e] at h1
        cases h1
        rfl
    · have : ks[j]? = none := List.getElem?_eq_none (by omega)
      rw [this, Array.getElem?_eq_none (by omega)] <;> rfl
  refine wpAny_bind (wpAny_newList ?_ (by rw [eacc, List.length_map, List.length_map]; omega))
  rw [eacc]
  have I2 := I.kept (t' := tk) keep
  generalize eL : (ks.map (·.2.1)).map Value.ref = vs
  refine wpAny_bind (wpAny_holding (wpAny_call_entry slot_list_sort ⟨_, Heap.get?_push_size _ rfl, rfl⟩ entry_list_sort ?_ (args_list_sort _)))
  have tups : ∀ x ∈ ks, ∃ (y z : Str) (ty tz : Tok) (n : Nat) (oo : Obj), h'.get? x.2.1 = some oo ∧ oo.cls = Value.type "tuple" ∧ oo.data = Data.seq #[.str y ty, .str z tz] n := fun x hx => by
    obtain ⟨e, me, _, hH⟩ : ∃ e ∈ kvs, e.1 = x.1 ∧ H x.2.1 = some (HO.tup (e.1.map kV)) := by
      have aux : ∀ {a : List (List Key × V)} {b : List (List Key × Addr × Value)}, Paired (fun p q => p.fst = q.fst ∧ H q.snd.fst = some (HO.tup (List.map kV p.fst)) ∧ L2.RelV p.snd q.snd.snd) a b → ∀ x ∈ b, ∃ e ∈ a, e.1 = x.1 ∧ H x.2.1 = some (HO.tup (e.1.map kV)) := by
        intro a b h
        induction h with
        | nil => exact fun x hx => by cases hx
        | @cons a b l m h _ ih =>
          intro x hx
          rcases List.mem_cons.mp hx with rfl | hx
          · exact ⟨a, List.mem_cons_self, h.1, h.2.1⟩
          · obtain ⟨e, h1, h2⟩ := ih x hx
            exact ⟨e, List.mem_cons_of_mem _ h1, h2⟩
      exact aux kt x hx
    obtain ⟨y, z, ee⟩ := sh e me
    rw [ee] at hH
    have oo := I2.hok _ _ hH
    unfold ObjOk at oo
    obtain ⟨_, its, vv, o1, h1, h2, n, h3⟩ := oo
    cases vv with
    | cons r1 vv =>
      cases vv with
      | cons r2 vv =>
        cases vv
        obtain ⟨t1, rfl⟩ := (show ∃ t, _ = Value.str y t from r1)
        obtain ⟨t2, rfl⟩ := (show ∃ t, _ = Value.str z t from r2)
        exact ⟨y, z, t1, t2, n, o1, h1, h2, h3⟩
  generalize hh2 : h'.push { cls := Value.type "list", data := Data.seq vs.toArray } = h2
  have tups2 : ∀ x ∈ ks, ∃ (y z : Str) (ty tz : Tok) (n : Nat) (oo : Obj), h2.get? x.2.1 = some oo ∧ oo.cls = Value.type "tuple" ∧ oo.data = Data.seq #[.str y ty, .str z tz] n := fun x hx => by
    obtain ⟨y, z, ty, tz, n, oo, h1, h3⟩ := tups x hx
    exact ⟨y, z, ty, tz, n, oo, by rw [← hh2]; exact Heap.get?_push_of_some _ h1, h3⟩
  have fs : ∃ fs, TupsOf h2 (fun _ => true) vs fs := by
    rw [← eL]
    clear eacc kt he nd n0 lk tups eL items
    induction ks with
    | nil => exact ⟨[], .nil⟩
    | cons x ks ih =>
      obtain ⟨fs, h⟩ := ih fun x hx => tups2 x (List.mem_cons_of_mem _ hx)
      obtain ⟨y, z, ty, tz, n, oo, h1, h3, h4⟩ := tups2 x List.mem_cons_self
      exact ⟨.str y ty :: fs, .cons ⟨x.2.1, oo, _, n, rfl, h1, h3, h4, rfl, fun h => (by cases h), fun _ => ⟨y, ty, rfl⟩⟩ h⟩
  obtain ⟨fs, hfs⟩ := fs
  have hat : h2.get? h'.objs.size = some (seqObj "list" vs.toArray 0) := by rw [← hh2]; exact Heap.get?_push_size _ rfl
  refine G.list_sort_tups (shape := fun _ => true) (n := 0) hat hfs (fun v hv => ?_) (by rw [← eL, List.length_map, List.length_map]; omega) fun st' pm _ _ => ?_
  · rw [← eL, List.map_map] at hv
    obtain ⟨x, hx, rfl⟩ := List.mem_map.mp hv
    obtain ⟨y, z, ty, tz, n, oo, h1, h3, h4⟩ := tups2 x hx
    refine ⟨[.inr y.cps.toList, .inr z.cps.toList], ?_⟩
    show G.tupKeyC h2 (fun _ => true) (Value.ref x.2.1) = _
    have e1 : G.isTupObj h2 (Value.ref x.2.1) = true := by
      simp only [G.isTupObj, h1, h3]
      rfl
    have e2 : tupKey h2 (fun _ => true) (Value.ref x.2.1) = some [.inr y.cps.toList, .inr z.cps.toList] := by
      simp only [tupKey, h1, h4]
      rfl
    unfold G.tupKeyC
    rw [if_pos e1, e2]
  refine ⟨_, rfl, wpAny_pure ⟨_, rfl, ?_⟩⟩
  -- the sorted list
  obtain ⟨cs, ecs, pcs⟩ : ∃ cs : List Addr, (Array.map (fun x : Keyed => x.snd) (arrOf st')).toList = cs.map Value.ref ∧ cs.Perm (ks.map (·.2.1)) := by
    have pm1 : (Array.map (fun x : Keyed => x.snd) (arrOf st')).toList.Perm vs := by
      have p1 : (arrOf st').toList.Perm (pairsOf vs).toList := Array.perm_iff_toList_perm.mp pm
      have p2 := p1.map (fun x : Keyed => x.snd)
      rw [Array.toList_map]
      refine p2.trans ?_
      have : ((pairsOf vs).toList.map fun x : Keyed => x.snd) = vs := by
        unfold pairsOf
        rw [Array.toList_zip]
        exact List.map_snd_zip (Nat.le_refl _)
      rw [this]
    rw [← eL] at pm1
    generalize (Array.map (fun x : Keyed => x.snd) (arrOf st')).toList = ys at pm1
    have un : ∀ {bs : List Addr} {ys : List Value}, ys.Perm (bs.map Value.ref) → ∃ cs : List Addr, ys = cs.map Value.ref ∧ cs.Perm bs := by
      intro bs ys h
      let g : Value → Addr := fun v => match v with | .ref a => a | _ => 0
      refine ⟨ys.map g, ?_, ?_⟩
      · rw [List.map_map]
        refine Eq.symm ?_
        conv => rhs; rw [← List.map_id ys]
        refine List.map_congr_left fun v hv => ?_
        obtain ⟨b, _, rfl⟩ := List.mem_map.mp (h.mem_iff.mp hv)
        rfl
      · have := h.map g
        rw [List.map_map] at this
        refine this.trans ?_
        rw [show (g ∘ Value.ref) = id from rfl, List.map_id]
    exact un pm1
  obtain ⟨e2, at2⟩ := sortedHeap_at (out := Array.map (fun x : Keyed => x.snd) (arrOf st')) hat
  have hfree : H h'.objs.size = none := I2.hok.fresh (Nat.le_refl _)
  refine ⟨.ref h'.objs.size, upd H h'.objs.size (.lst (cs.map V.ref)), ?_, rfl, q _ _ cs hfree (isKeys_of kt) pcs⟩
  refine I2.laid (fun b u hb => ?_) (Nat.le_refl _) ?_
  · have lt : b < h'.objs.size := Heap.lt_size hb
    show (sortedHeap h2 h'.objs.size vs _).get? b = some u
    rw [sortedHeap_old (Nat.ne_of_lt lt) (Nat.lt_trans lt (Heap.lt_size hat)), ← hh2]
    exact Heap.get?_push_of_some _ hb
  · unfold ObjOk
    have lcs := pcs.length_eq
    refine ⟨by rw [List.length_map, lcs, List.length_map]; omega, cs.map Value.ref, e2, vals_refs cs, ?_⟩
    show (sortedHeap h2 h'.objs.size vs _).get? h'.objs.size = _
    rw [at2, ← ecs]
end Own

/-! Law k45 over the landed papers: by hand, over the layer. -/
namespace Own
open PySem PySem.Spec PyProof.Rows L2
/-! ### the text -/
/-- the k-th block of a statement -/
def blkOf (s : Stmt) (k : Nat) : List Stmt := match s with
  | .If _ a b _ => if k = 0 then a else b
  | .For _ _ a _ _ => a
  | .While _ a _ _ => a
  | .Try a hs _ _ _ => match k, hs with
    | 0, _ => a
    | j + 1, hs => match hs[j]? with
      | some (.ExceptHandler _ _ b _) => b
      | none => []
  | _ => []
abbrev noE : Expr := .Constant .none 0 ⟨0, 0, 0, 0⟩
/-- a statement's own expression; the k-th part of an expression -/
def rootE (s : Stmt) : Expr := match s with
  | .Assign _ v _ => v
  | .Return (some v) _ => v
  | .Expr v _ => v
  | .AugAssign _ _ v _ => v
  | .If t _ _ _ => t
  | .While t _ _ _ => t
  | .For _ i _ _ _ => i
  | _ => noE
def subE (e : Expr) (k : Nat) : Expr := match e with
  | .BinOp a _ b _ => if k = 0 then a else b
  | .BoolOp _ vs _ => vs.getD k noE
  | .UnaryOp _ a _ => a
  | .Compare a _ cs _ => (a :: cs).getD k noE
  | .Call f as kws _ => (f :: (as ++ kws.map (·.value))).getD k noE
  | .Attribute a _ _ => a
  | .Subscript a b _ => if k = 0 then a else b
  | .Tuple es _ _ => es.getD k noE
  | .List es _ => es.getD k noE
  | .IfExp c a b _ => [c, a, b].getD k noE
  | .Slice a b c _ => ([a, b, c].getD k none).getD noE
  | .ListComp a gs _ _ => match gs with
    | g :: _ => ([a, g.iter, g.target] ++ g.ifs).getD k noE
    | [] => noE
  | .DictComp a b gs _ _ => match gs with
    | g :: _ => ([a, b, g.iter, g.target] ++ g.ifs).getD k noE
    | [] => noE
  | _ => noE
def lcScope (e : Expr) : Scope := match e with
  | .ListComp _ _ sc _ => sc
  | .DictComp _ _ _ sc _ => sc
  | _ => { kind := .function, names := [], isGenerator := false, isCoroutine := false }
def lcG (e : Expr) (k : Nat) : Comprehension := match e with
  | .ListComp _ gs _ _ => gs.getD k ⟨noE, noE, [], 0⟩
  | .DictComp _ _ gs _ _ => gs.getD k ⟨noE, noE, [], 0⟩
  | _ => ⟨noE, noE, [], 0⟩
def lcIfs (e : Expr) : List Expr := match e with
  | .ListComp _ (g :: _) _ _ => g.ifs
  | .DictComp _ _ (g :: _) _ _ => g.ifs
  | _ => []
def topS (i : Nat) : Stmt := PySem.Challenge.pw_voicefold_k45_whole_ways_hang_together.main.body.getD i (.Pass ⟨0, 0, 0, 0⟩)
abbrev s_PollError_init : Stmt := inClass (topS 4) 0
theorem sc_PollError_init : FnScope ["self", "why"] ["self", "why"] (defScope s_PollError_init) := ⟨rfl, rfl, rfl, by decide +kernel, rfl, by decide +kernel, by decide +kernel⟩
abbrev s_NoOption_init : Stmt := inClass (topS 8) 0
theorem sc_NoOption_init : FnScope ["self", "name"] ["self", "name"] (defScope s_NoOption_init) := ⟨rfl, rfl, rfl, by decide +kernel, rfl, by decide +kernel, by decide +kernel⟩
abbrev s_is_whole : Stmt := topS 11
theorem sc_is_whole : FnScope ["thing"] ["thing"] (defScope s_is_whole) := ⟨rfl, rfl, rfl, by decide +kernel, rfl, by decide +kernel, by decide +kernel⟩
abbrev s_is_name : Stmt := topS 12
theorem sc_is_name : FnScope ["thing", "sign"] ["thing"] (defScope s_is_name) := ⟨rfl, rfl, rfl, by decide +kernel, rfl, by decide +kernel, by decide +kernel⟩
abbrev s_is_tuple_of : Stmt := topS 13
theorem sc_is_tuple_of : FnScope ["thing", "many"] ["thing", "many"] (defScope s_is_tuple_of) := ⟨rfl, rfl, rfl, by decide +kernel, rfl, by decide +kernel, by decide +kernel⟩
abbrev s_are_names : Stmt := topS 17
theorem sc_are_names : FnScope ["thing", "name"] ["thing"] (defScope s_are_names) := ⟨rfl, rfl, rfl, by decide +kernel, rfl, by decide +kernel, by decide +kernel⟩
abbrev s_are_options : Stmt := topS 18
theorem sc_are_options : FnScope ["thing"] ["thing"] (defScope s_are_options) := ⟨rfl, rfl, rfl, by decide +kernel, rfl, by decide +kernel, by decide +kernel⟩
abbrev s_is_option : Stmt := topS 19
theorem sc_is_option : FnScope ["options", "thing"] ["options", "thing"] (defScope s_is_option) := ⟨rfl, rfl, rfl, by decide +kernel, rfl, by decide +kernel, by decide +kernel⟩
abbrev s_check_option : Stmt := topS 20
theorem sc_check_option : FnScope ["options", "name"] ["options", "name"] (defScope s_check_option) := ⟨rfl, rfl, rfl, by decide +kernel, rfl, by decide +kernel, by decide +kernel⟩
abbrev s_are_unlike_options : Stmt := topS 21
theorem sc_are_unlike_options : FnScope ["options", "names", "name"] ["options", "names"] (defScope s_are_unlike_options) := ⟨rfl, rfl, rfl, by decide +kernel, rfl, by decide +kernel, by decide +kernel⟩
abbrev s_is_mark : Stmt := topS 25
theorem sc_is_mark : FnScope ["thing"] ["thing"] (defScope s_is_mark) := ⟨rfl, rfl, rfl, by decide +kernel, rfl, by decide +kernel, by decide +kernel⟩
abbrev s_are_tiers : Stmt := topS 23
theorem sc_are_tiers : FnScope ["options", "told", "tier", "name"] ["options", "told"] (defScope s_are_tiers) := ⟨rfl, rfl, rfl, by decide +kernel, rfl, by decide +kernel, by decide +kernel⟩
abbrev s_are_marks : Stmt := topS 24
theorem sc_are_marks : FnScope ["options", "told", "pair"] ["options", "told"] (defScope s_are_marks) := ⟨rfl, rfl, rfl, by decide +kernel, rfl, by decide +kernel, by decide +kernel⟩
abbrev s_is_ballot : Stmt := topS 22
theorem sc_is_ballot : FnScope ["options", "thing", "form", "told"] ["options", "thing"] (defScope s_is_ballot) := ⟨rfl, rfl, rfl, by decide +kernel, rfl, by decide +kernel, by decide +kernel⟩
abbrev s_is_row : Stmt := topS 70
theorem sc_is_row : FnScope ["options", "thing"] ["options", "thing"] (defScope s_is_row) := ⟨rfl, rfl, rfl, by decide +kernel, rfl, by decide +kernel, by decide +kernel⟩
abbrev s_check_poll : Stmt := topS 69
theorem sc_check_poll : FnScope ["options", "voices", "row"] ["options", "voices"] (defScope s_check_poll) := ⟨rfl, rfl, rfl, by decide +kernel, rfl, by decide +kernel, by decide +kernel⟩
abbrev s_Poll_init : Stmt := inClass (topS 68) 0
theorem sc_Poll_init : FnScope ["self", "options", "voices"] ["self", "options", "voices"] (defScope s_Poll_init) := ⟨rfl, rfl, rfl, by decide +kernel, rfl, by decide +kernel, by decide +kernel⟩
abbrev s_order_ranks : Stmt := topS 27
theorem sc_order_ranks : FnScope ["options", "told", "found", "at", "tier", "name"] ["options", "told"] (defScope s_order_ranks) := ⟨rfl, rfl, rfl, by decide +kernel, rfl, by decide +kernel, by decide +kernel⟩
abbrev s_ranks : Stmt := topS 26
theorem sc_ranks : FnScope ["options", "ballot", "form", "told", "marks", "name", "mark"] ["options", "ballot"] (defScope s_ranks) := ⟨rfl, rfl, rfl, by decide +kernel, rfl, by decide +kernel, by decide +kernel⟩
abbrev s_ranked : Stmt := topS 34
theorem sc_ranked : FnScope ["poll", "ballot", "many"] ["poll"] (defScope s_ranked) := ⟨rfl, rfl, rfl, by decide +kernel, rfl, by decide +kernel, by decide +kernel⟩
abbrev s_margin_by : Stmt := topS 35
theorem sc_margin_by : FnScope ["rows", "one", "other", "found", "rank", "many"] ["rows", "one", "other"] (defScope s_margin_by) := ⟨rfl, rfl, rfl, by decide +kernel, rfl, by decide +kernel, by decide +kernel⟩
abbrev s_margins : Stmt := topS 33
theorem sc_margins : FnScope ["poll", "rows", "one", "other"] ["poll"] (defScope s_margins) := ⟨rfl, rfl, rfl, by decide +kernel, rfl, by decide +kernel, by decide +kernel⟩
abbrev s_is_way : Stmt := topS 44
theorem sc_is_way : FnScope ["options", "thing", "one", "other"] ["options", "thing", "one", "other"] (defScope s_is_way) := ⟨rfl, rfl, rfl, by decide +kernel, rfl, by decide +kernel, by decide +kernel⟩
abbrev s_is_lot : Stmt := topS 45
theorem sc_is_lot : FnScope ["options", "thing"] ["options", "thing"] (defScope s_is_lot) := ⟨rfl, rfl, rfl, by decide +kernel, rfl, by decide +kernel, by decide +kernel⟩
abbrev s_steps_of : Stmt := topS 46
theorem sc_steps_of : FnScope ["way"] ["way"] (defScope s_steps_of) := ⟨rfl, rfl, rfl, by decide +kernel, rfl, by decide +kernel, by decide +kernel⟩
abbrev s_steps_out : Stmt := topS 47
theorem sc_steps_out : FnScope ["options", "lot", "inner", "outer"] ["options", "lot"] (defScope s_steps_out) := ⟨rfl, rfl, rfl, by decide +kernel, rfl, by decide +kernel, by decide +kernel⟩
abbrev s_weakest : Stmt := topS 51
theorem sc_weakest : FnScope ["held", "way", "step"] ["held", "way"] (defScope s_weakest) := ⟨rfl, rfl, rfl, by decide +kernel, rfl, by decide +kernel, by decide +kernel⟩
abbrev s_strongest_ways : Stmt := topS 50
theorem sc_strongest_ways : FnScope ["options", "held", "start", "found", "ways", "left", "steps", "here", "there", "option", "one", "other"] ["options", "held", "start"] (defScope s_strongest_ways) := ⟨rfl, rfl, rfl, by decide +kernel, rfl, by decide +kernel, by decide +kernel⟩
abbrev s_strength : Stmt := topS 49
theorem sc_strength : FnScope ["poll", "one", "other", "found", "_"] ["poll", "one", "other"] (defScope s_strength) := ⟨rfl, rfl, rfl, by decide +kernel, rfl, by decide +kernel, by decide +kernel⟩
abbrev s_strength_paper : Stmt := topS 52
theorem sc_strength_paper : FnScope ["poll", "one", "other", "found", "most", "way", "option"] ["poll", "one", "other"] (defScope s_strength_paper) := ⟨rfl, rfl, rfl, by decide +kernel, rfl, by decide +kernel, by decide +kernel⟩
abbrev s_shows_strength : Stmt := topS 53
theorem sc_shows_strength : FnScope ["poll", "one", "other", "number", "paper", "way", "lot", "held", "step"] ["poll", "one", "other", "number", "paper"] (defScope s_shows_strength) := ⟨rfl, rfl, rfl, by decide +kernel, rfl, by decide +kernel, by decide +kernel⟩
abbrev s_is_no_weaker : Stmt := topS 55
theorem sc_is_no_weaker : FnScope ["found", "one", "other", "there", "_"] ["found", "one"] (defScope s_is_no_weaker) := ⟨rfl, rfl, rfl, by decide +kernel, rfl, by decide +kernel, by decide +kernel⟩
abbrev s_ways_lot : Stmt := topS 54
theorem sc_ways_lot : FnScope ["poll", "held", "found", "one"] ["poll"] (defScope s_ways_lot) := ⟨rfl, rfl, rfl, by decide +kernel, rfl, by decide +kernel, by decide +kernel⟩
abbrev s_by_ways : Stmt := topS 95
theorem sc_by_ways : FnScope ["poll"] ["poll"] (defScope s_by_ways) := ⟨rfl, rfl, rfl, by decide +kernel, rfl, by decide +kernel, by decide +kernel⟩
abbrev s_others_than : Stmt := topS 58
theorem sc_others_than : FnScope ["poll", "one", "other"] ["poll", "one"] (defScope s_others_than) := ⟨rfl, rfl, rfl, by decide +kernel, rfl, by decide +kernel, by decide +kernel⟩
abbrev s_unlost_ways : Stmt := topS 60
theorem sc_unlost_ways : FnScope ["poll", "held", "start", "found", "fresh", "here", "there"] ["poll", "held", "start"] (defScope s_unlost_ways) := ⟨rfl, rfl, rfl, by decide +kernel, rfl, by decide +kernel, by decide +kernel⟩
abbrev s_top_lot : Stmt := topS 59
theorem sc_top_lot : FnScope ["poll", "held", "one"] ["poll"] (defScope s_top_lot) := ⟨rfl, rfl, rfl, by decide +kernel, rfl, by decide +kernel, by decide +kernel⟩
abbrev s_leader : Stmt := topS 57
theorem sc_leader : FnScope ["poll", "held", "one", "other"] ["poll"] (defScope s_leader) := ⟨rfl, rfl, rfl, by decide +kernel, rfl, by decide +kernel, by decide +kernel⟩
abbrev s_is_rule : Stmt := topS 101
theorem sc_is_rule : FnScope ["options", "thing"] ["options", "thing"] (defScope s_is_rule) := ⟨rfl, rfl, rfl, by decide +kernel, rfl, by decide +kernel, by decide +kernel⟩
abbrev s_check_rule : Stmt := topS 102
theorem sc_check_rule : FnScope ["options", "rule"] ["options", "rule"] (defScope s_check_rule) := ⟨rfl, rfl, rfl, by decide +kernel, rfl, by decide +kernel, by decide +kernel⟩
abbrev s_lot : Stmt := topS 103
theorem sc_lot : FnScope ["poll", "rule", "asked"] ["poll", "rule"] (defScope s_lot) := ⟨rfl, rfl, rfl, by decide +kernel, rfl, by decide +kernel, by decide +kernel⟩
abbrev s_law_cell_at : Stmt := topS 105
theorem sc_law_cell_at : FnScope ["_law_script", "_law_k"] ["_law_script", "_law_k"] (defScope s_law_cell_at) := ⟨rfl, rfl, rfl, by decide +kernel, rfl, by decide +kernel, by decide +kernel⟩
abbrev s_law_well : Stmt := topS 106
theorem sc_law_well : FnScope ["_law_cell"] ["_law_cell"] (defScope s_law_well) := ⟨rfl, rfl, rfl, by decide +kernel, rfl, by decide +kernel, by decide +kernel⟩
abbrev s_law_draw : Stmt := topS 107
theorem sc_law_draw : FnScope ["_law_well_here", "_law_size", "_law_found", "_law_mixed"] ["_law_well_here", "_law_size"] (defScope s_law_draw) := ⟨rfl, rfl, rfl, by decide +kernel, rfl, by decide +kernel, by decide +kernel⟩
abbrev s_law_one : Stmt := topS 108
theorem sc_law_one : FnScope ["_law_well_here", "_law_some"] ["_law_well_here", "_law_some"] (defScope s_law_one) := ⟨rfl, rfl, rfl, by decide +kernel, rfl, by decide +kernel, by decide +kernel⟩
abbrev s_law_shuffled : Stmt := topS 110
theorem sc_law_shuffled : FnScope ["_law_well_here", "_law_some", "_law_left", "_law_found"] ["_law_well_here", "_law_some"] (defScope s_law_shuffled) := ⟨rfl, rfl, rfl, by decide +kernel, rfl, by decide +kernel, by decide +kernel⟩
abbrev s_law_names : Stmt := topS 109
theorem sc_law_names : FnScope ["_law_well_here", "_law_size", "_law_letters", "_law_first", "_law_stem", "_law_turn", "_law_found", "_law_k", "_law_sign"] ["_law_well_here", "_law_size"] (defScope s_law_names) := ⟨rfl, rfl, rfl, by decide +kernel, rfl, by decide +kernel, by decide +kernel⟩
abbrev s_law_ballot : Stmt := topS 111
theorem sc_law_ballot : FnScope ["_law_well_here", "_law_names_here", "_law_kind", "_law_some", "_law_steps", "_law_one_here"] ["_law_well_here", "_law_names_here"] (defScope s_law_ballot) := ⟨rfl, rfl, rfl, by decide +kernel, rfl, by decide +kernel, by decide +kernel⟩
abbrev s_law_parts : Stmt := topS 112
theorem sc_law_parts : FnScope ["_law_well_here", "_law_sizes", "_law_names_here", "_law_rows", "_law_k", "_law_some", "_law_turned", "_law_one_here"] ["_law_well_here", "_law_sizes"] (defScope s_law_parts) := ⟨rfl, rfl, rfl, by decide +kernel, rfl, by decide +kernel, by decide +kernel⟩
abbrev s_law_threes_right : Stmt := topS 114
theorem sc_law_threes_right : FnScope ["_law_names_here", "_law_force", "_law_one_here", "_law_other", "_law_third"] ["_law_names_here", "_law_force"] (defScope s_law_threes_right) := ⟨rfl, rfl, rfl, by decide +kernel, rfl, by decide +kernel, by decide +kernel⟩
abbrev s_law_drawn_right : Stmt := topS 113
theorem sc_law_drawn_right : FnScope ["_law_well_here", "_law_p", "_law_table", "_law_force", "_law_one_here", "_law_other", "_law_names_here", "_law_rest", "_law_path", "_law_some", "_law_low", "_law_high", "_law_number", "_law_third", "_law_k", "_law_pair"] ["_law_well_here", "_law_p", "_law_table", "_law_force", "_law_one_here", "_law_other"] (defScope s_law_drawn_right) := ⟨rfl, rfl, rfl, by decide +kernel, rfl, by decide +kernel, by decide +kernel⟩
abbrev s_law : Stmt := topS 115
theorem sc_law : FnScope ["_law_script", "_law_k", "_law_well_here", "_law_names_here", "_law_rows", "_law_p", "_law_table", "_law_force", "_law_one_here", "_law_other", "_law_number", "_law_paper", "_law_first", "_law_pair"] ["_law_script"] (defScope s_law) := ⟨rfl, rfl, rfl, by decide +kernel, rfl, by decide +kernel, by decide +kernel⟩
set_option genInjectivity false in
set_option genSizeOf false in
structure Txt (K : PySem.W.Frag) (mg : Str → Option Value) where
  par : Params
  f_PollError_init : Addr
  fd_PollError_init : FuncData
  F_PollError_init : FunD K "__init__" "PollError.__init__" (defArgs s_PollError_init) (defBody s_PollError_init) (defScope s_PollError_init) [.str ""] [] f_PollError_init fd_PollError_init
  gkb_PollError_init_2 : List Value → List Value → List Value
  kb_PollError_init_2 : KBn K fd_PollError_init ["self", "why"] 2 [] gkb_PollError_init_2 (fun vs zs => vs)
  f_NoOption_init : Addr
  fd_NoOption_init : FuncData
  F_NoOption_init : Fun K "__init__" "NoOption.__init__" s_NoOption_init f_NoOption_init fd_NoOption_init
  b_NoOption_init : Binds K fd_NoOption_init ["self", "name"] []
  gkb_NoOption_init_2 : List Value → List Value → List Value
  kb_NoOption_init_2 : KBn K fd_NoOption_init ["self", "name"] 2 [] gkb_NoOption_init_2 (fun vs zs => vs)
  f_is_whole : Addr
  fd_is_whole : FuncData
  F_is_whole : Fun K "is_whole" "is_whole" s_is_whole f_is_whole fd_is_whole
  b_is_whole : Binds K fd_is_whole ["thing"] []
  g_is_whole : mg "is_whole" = some (.ref f_is_whole)
  f_is_name : Addr
  fd_is_name : FuncData
  F_is_name : Fun K "is_name" "is_name" s_is_name f_is_name fd_is_name
  b_is_name : Binds K fd_is_name ["thing"] []
  g_is_name : mg "is_name" = some (.ref f_is_name)
  f_is_tuple_of : Addr
  fd_is_tuple_of : FuncData
  F_is_tuple_of : Fun K "is_tuple_of" "is_tuple_of" s_is_tuple_of f_is_tuple_of fd_is_tuple_of
  b_is_tuple_of : Binds K fd_is_tuple_of ["thing", "many"] []
  g_is_tuple_of : mg "is_tuple_of" = some (.ref f_is_tuple_of)
  f_are_names : Addr
  fd_are_names : FuncData
  F_are_names : Fun K "are_names" "are_names" s_are_names f_are_names fd_are_names
  b_are_names : Binds K fd_are_names ["thing"] []
  g_are_names : mg "are_names" = some (.ref f_are_names)
  f_are_options : Addr
  fd_are_options : FuncData
  F_are_options : Fun K "are_options" "are_options" s_are_options f_are_options fd_are_options
  b_are_options : Binds K fd_are_options ["thing"] []
  g_are_options : mg "are_options" = some (.ref f_are_options)
  f_is_option : Addr
  fd_is_option : FuncData
  F_is_option : Fun K "is_option" "is_option" s_is_option f_is_option fd_is_option
  b_is_option : Binds K fd_is_option ["options", "thing"] []
  g_is_option : mg "is_option" = some (.ref f_is_option)
  f_check_option : Addr
  fd_check_option : FuncData
  F_check_option : Fun K "check_option" "check_option" s_check_option f_check_option fd_check_option
  b_check_option : Binds K fd_check_option ["options", "name"] []
  g_check_option : mg "check_option" = some (.ref f_check_option)
  gkb_check_option_2 : List Value → List Value → List Value
  kb_check_option_2 : KBn K fd_check_option ["options", "name"] 2 [] gkb_check_option_2 (fun vs zs => vs)
  f_are_unlike_options : Addr
  fd_are_unlike_options : FuncData
  F_are_unlike_options : Fun K "are_unlike_options" "are_unlike_options" s_are_unlike_options f_are_unlike_options fd_are_unlike_options
  b_are_unlike_options : Binds K fd_are_unlike_options ["options", "names"] []
  g_are_unlike_options : mg "are_unlike_options" = some (.ref f_are_unlike_options)
  f_is_mark : Addr
  fd_is_mark : FuncData
  F_is_mark : Fun K "is_mark" "is_mark" s_is_mark f_is_mark fd_is_mark
  b_is_mark : Binds K fd_is_mark ["thing"] []
  g_is_mark : mg "is_mark" = some (.ref f_is_mark)
  f_are_tiers : Addr
  fd_are_tiers : FuncData
  F_are_tiers : Fun K "are_tiers" "are_tiers" s_are_tiers f_are_tiers fd_are_tiers
  b_are_tiers : Binds K fd_are_tiers ["options", "told"] []
  g_are_tiers : mg "are_tiers" = some (.ref f_are_tiers)
  f_are_marks : Addr
  fd_are_marks : FuncData
  F_are_marks : Fun K "are_marks" "are_marks" s_are_marks f_are_marks fd_are_marks
  b_are_marks : Binds K fd_are_marks ["options", "told"] []
  g_are_marks : mg "are_marks" = some (.ref f_are_marks)
  f_is_ballot : Addr
  fd_is_ballot : FuncData
  F_is_ballot : Fun K "is_ballot" "is_ballot" s_is_ballot f_is_ballot fd_is_ballot
  b_is_ballot : Binds K fd_is_ballot ["options", "thing"] []
  g_is_ballot : mg "is_ballot" = some (.ref f_is_ballot)
  f_is_row : Addr
  fd_is_row : FuncData
  F_is_row : Fun K "is_row" "is_row" s_is_row f_is_row fd_is_row
  b_is_row : Binds K fd_is_row ["options", "thing"] []
  g_is_row : mg "is_row" = some (.ref f_is_row)
  f_check_poll : Addr
  fd_check_poll : FuncData
  F_check_poll : Fun K "check_poll" "check_poll" s_check_poll f_check_poll fd_check_poll
  b_check_poll : Binds K fd_check_poll ["options", "voices"] []
  g_check_poll : mg "check_poll" = some (.ref f_check_poll)
  gkb_check_poll_2 : List Value → List Value → List Value
  kb_check_poll_2 : KBn K fd_check_poll ["options", "voices"] 2 [] gkb_check_poll_2 (fun vs zs => vs)
  f_Poll_init : Addr
  fd_Poll_init : FuncData
  e_Poll_init : Addr
  F_Poll_init : FunD K "__init__" "Poll.__init__" (defArgs s_Poll_init) (defBody s_Poll_init) (defScope s_Poll_init) [.ref e_Poll_init] [] f_Poll_init fd_Poll_init
  gkb_Poll_init_3 : List Value → List Value → List Value
  kb_Poll_init_3 : KBn K fd_Poll_init ["self", "options", "voices"] 3 [] gkb_Poll_init_3 (fun vs zs => vs)
  f_order_ranks : Addr
  fd_order_ranks : FuncData
  F_order_ranks : Fun K "order_ranks" "order_ranks" s_order_ranks f_order_ranks fd_order_ranks
  b_order_ranks : Binds K fd_order_ranks ["options", "told"] []
  g_order_ranks : mg "order_ranks" = some (.ref f_order_ranks)
  f_ranks : Addr
  fd_ranks : FuncData
  F_ranks : Fun K "ranks" "ranks" s_ranks f_ranks fd_ranks
  b_ranks : Binds K fd_ranks ["options", "ballot"] []
  g_ranks : mg "ranks" = some (.ref f_ranks)
  f_ranked : Addr
  fd_ranked : FuncData
  F_ranked : Fun K "ranked" "ranked" s_ranked f_ranked fd_ranked
  b_ranked : Binds K fd_ranked ["poll"] []
  g_ranked : mg "ranked" = some (.ref f_ranked)
  f_margin_by : Addr
  fd_margin_by : FuncData
  F_margin_by : Fun K "margin_by" "margin_by" s_margin_by f_margin_by fd_margin_by
  b_margin_by : Binds K fd_margin_by ["rows", "one", "other"] []
  g_margin_by : mg "margin_by" = some (.ref f_margin_by)
  f_margins : Addr
  fd_margins : FuncData
  F_margins : Fun K "margins" "margins" s_margins f_margins fd_margins
  b_margins : Binds K fd_margins ["poll"] []
  g_margins : mg "margins" = some (.ref f_margins)
  f_is_way : Addr
  fd_is_way : FuncData
  F_is_way : Fun K "is_way" "is_way" s_is_way f_is_way fd_is_way
  b_is_way : Binds K fd_is_way ["options", "thing", "one", "other"] []
  g_is_way : mg "is_way" = some (.ref f_is_way)
  f_is_lot : Addr
  fd_is_lot : FuncData
  F_is_lot : Fun K "is_lot" "is_lot" s_is_lot f_is_lot fd_is_lot
  b_is_lot : Binds K fd_is_lot ["options", "thing"] []
  g_is_lot : mg "is_lot" = some (.ref f_is_lot)
  f_steps_of : Addr
  fd_steps_of : FuncData
  F_steps_of : Fun K "steps_of" "steps_of" s_steps_of f_steps_of fd_steps_of
  b_steps_of : Binds K fd_steps_of ["way"] []
  g_steps_of : mg "steps_of" = some (.ref f_steps_of)
  f_steps_out : Addr
  fd_steps_out : FuncData
  F_steps_out : Fun K "steps_out" "steps_out" s_steps_out f_steps_out fd_steps_out
  b_steps_out : Binds K fd_steps_out ["options", "lot"] []
  g_steps_out : mg "steps_out" = some (.ref f_steps_out)
  f_weakest : Addr
  fd_weakest : FuncData
  F_weakest : Fun K "weakest" "weakest" s_weakest f_weakest fd_weakest
  b_weakest : Binds K fd_weakest ["held", "way"] []
  g_weakest : mg "weakest" = some (.ref f_weakest)
  f_strongest_ways : Addr
  fd_strongest_ways : FuncData
  F_strongest_ways : Fun K "strongest_ways" "strongest_ways" s_strongest_ways f_strongest_ways fd_strongest_ways
  b_strongest_ways : Binds K fd_strongest_ways ["options", "held", "start"] []
  g_strongest_ways : mg "strongest_ways" = some (.ref f_strongest_ways)
  f_strength : Addr
  fd_strength : FuncData
  F_strength : Fun K "strength" "strength" s_strength f_strength fd_strength
  b_strength : Binds K fd_strength ["poll", "one", "other"] []
  g_strength : mg "strength" = some (.ref f_strength)
  gkb_strength_3 : List Value → List Value → List Value
  kb_strength_3 : KBn K fd_strength ["poll", "one", "other"] 3 [] gkb_strength_3 (fun vs zs => vs)
  f_strength_paper : Addr
  fd_strength_paper : FuncData
  F_strength_paper : Fun K "strength_paper" "strength_paper" s_strength_paper f_strength_paper fd_strength_paper
  b_strength_paper : Binds K fd_strength_paper ["poll", "one", "other"] []
  g_strength_paper : mg "strength_paper" = some (.ref f_strength_paper)
  gkb_strength_paper_3 : List Value → List Value → List Value
  kb_strength_paper_3 : KBn K fd_strength_paper ["poll", "one", "other"] 3 [] gkb_strength_paper_3 (fun vs zs => vs)
  f_shows_strength : Addr
  fd_shows_strength : FuncData
  F_shows_strength : Fun K "shows_strength" "shows_strength" s_shows_strength f_shows_strength fd_shows_strength
  b_shows_strength : Binds K fd_shows_strength ["poll", "one", "other", "number", "paper"] []
  g_shows_strength : mg "shows_strength" = some (.ref f_shows_strength)
  gkb_shows_strength_5 : List Value → List Value → List Value
  kb_shows_strength_5 : KBn K fd_shows_strength ["poll", "one", "other", "number", "paper"] 5 [] gkb_shows_strength_5 (fun vs zs => vs)
  f_is_no_weaker : Addr
  fd_is_no_weaker : FuncData
  F_is_no_weaker : Fun K "is_no_weaker" "is_no_weaker" s_is_no_weaker f_is_no_weaker fd_is_no_weaker
  b_is_no_weaker : Binds K fd_is_no_weaker ["found", "one"] []
  g_is_no_weaker : mg "is_no_weaker" = some (.ref f_is_no_weaker)
  f_ways_lot : Addr
  fd_ways_lot : FuncData
  F_ways_lot : Fun K "ways_lot" "ways_lot" s_ways_lot f_ways_lot fd_ways_lot
  b_ways_lot : Binds K fd_ways_lot ["poll"] []
  g_ways_lot : mg "ways_lot" = some (.ref f_ways_lot)
  f_by_ways : Addr
  fd_by_ways : FuncData
  F_by_ways : Fun K "by_ways" "by_ways" s_by_ways f_by_ways fd_by_ways
  b_by_ways : Binds K fd_by_ways ["poll"] []
  g_by_ways : mg "by_ways" = some (.ref f_by_ways)
  f_others_than : Addr
  fd_others_than : FuncData
  F_others_than : Fun K "others_than" "others_than" s_others_than f_others_than fd_others_than
  b_others_than : Binds K fd_others_than ["poll", "one"] []
  g_others_than : mg "others_than" = some (.ref f_others_than)
  f_unlost_ways : Addr
  fd_unlost_ways : FuncData
  F_unlost_ways : Fun K "unlost_ways" "unlost_ways" s_unlost_ways f_unlost_ways fd_unlost_ways
  b_unlost_ways : Binds K fd_unlost_ways ["poll", "held", "start"] []
  g_unlost_ways : mg "unlost_ways" = some (.ref f_unlost_ways)
  f_top_lot : Addr
  fd_top_lot : FuncData
  F_top_lot : Fun K "top_lot" "top_lot" s_top_lot f_top_lot fd_top_lot
  b_top_lot : Binds K fd_top_lot ["poll"] []
  g_top_lot : mg "top_lot" = some (.ref f_top_lot)
  f_leader : Addr
  fd_leader : FuncData
  F_leader : Fun K "leader" "leader" s_leader f_leader fd_leader
  b_leader : Binds K fd_leader ["poll"] []
  g_leader : mg "leader" = some (.ref f_leader)
  f_is_rule : Addr
  fd_is_rule : FuncData
  F_is_rule : Fun K "is_rule" "is_rule" s_is_rule f_is_rule fd_is_rule
  b_is_rule : Binds K fd_is_rule ["options", "thing"] []
  g_is_rule : mg "is_rule" = some (.ref f_is_rule)
  f_check_rule : Addr
  fd_check_rule : FuncData
  F_check_rule : Fun K "check_rule" "check_rule" s_check_rule f_check_rule fd_check_rule
  b_check_rule : Binds K fd_check_rule ["options", "rule"] []
  g_check_rule : mg "check_rule" = some (.ref f_check_rule)
  f_lot : Addr
  fd_lot : FuncData
  F_lot : Fun K "lot" "lot" s_lot f_lot fd_lot
  b_lot : Binds K fd_lot ["poll", "rule"] []
  g_lot : mg "lot" = some (.ref f_lot)
  f_law_cell_at : Addr
  fd_law_cell_at : FuncData
  F_law_cell_at : Fun K "_law_cell_at" "_law_cell_at" s_law_cell_at f_law_cell_at fd_law_cell_at
  b_law_cell_at : Binds K fd_law_cell_at ["_law_script", "_law_k"] []
  g_law_cell_at : mg "_law_cell_at" = some (.ref f_law_cell_at)
  f_law_well : Addr
  fd_law_well : FuncData
  F_law_well : Fun K "_law_well" "_law_well" s_law_well f_law_well fd_law_well
  b_law_well : Binds K fd_law_well ["_law_cell"] []
  g_law_well : mg "_law_well" = some (.ref f_law_well)
  f_law_draw : Addr
  fd_law_draw : FuncData
  F_law_draw : Fun K "_law_draw" "_law_draw" s_law_draw f_law_draw fd_law_draw
  b_law_draw : Binds K fd_law_draw ["_law_well_here", "_law_size"] []
  g_law_draw : mg "_law_draw" = some (.ref f_law_draw)
  f_law_one : Addr
  fd_law_one : FuncData
  F_law_one : Fun K "_law_one" "_law_one" s_law_one f_law_one fd_law_one
  b_law_one : Binds K fd_law_one ["_law_well_here", "_law_some"] []
  g_law_one : mg "_law_one" = some (.ref f_law_one)
  f_law_shuffled : Addr
  fd_law_shuffled : FuncData
  F_law_shuffled : Fun K "_law_shuffled" "_law_shuffled" s_law_shuffled f_law_shuffled fd_law_shuffled
  b_law_shuffled : Binds K fd_law_shuffled ["_law_well_here", "_law_some"] []
  g_law_shuffled : mg "_law_shuffled" = some (.ref f_law_shuffled)
  f_law_names : Addr
  fd_law_names : FuncData
  F_law_names : Fun K "_law_names" "_law_names" s_law_names f_law_names fd_law_names
  b_law_names : Binds K fd_law_names ["_law_well_here", "_law_size"] []
  g_law_names : mg "_law_names" = some (.ref f_law_names)
  f_law_ballot : Addr
  fd_law_ballot : FuncData
  F_law_ballot : Fun K "_law_ballot" "_law_ballot" s_law_ballot f_law_ballot fd_law_ballot
  b_law_ballot : Binds K fd_law_ballot ["_law_well_here", "_law_names_here"] []
  g_law_ballot : mg "_law_ballot" = some (.ref f_law_ballot)
  f_law_parts : Addr
  fd_law_parts : FuncData
  F_law_parts : Fun K "_law_parts" "_law_parts" s_law_parts f_law_parts fd_law_parts
  b_law_parts : Binds K fd_law_parts ["_law_well_here", "_law_sizes"] []
  g_law_parts : mg "_law_parts" = some (.ref f_law_parts)
  f_law_threes_right : Addr
  fd_law_threes_right : FuncData
  F_law_threes_right : Fun K "_law_threes_right" "_law_threes_right" s_law_threes_right f_law_threes_right fd_law_threes_right
  b_law_threes_right : Binds K fd_law_threes_right ["_law_names_here", "_law_force"] []
  g_law_threes_right : mg "_law_threes_right" = some (.ref f_law_threes_right)
  f_law_drawn_right : Addr
  fd_law_drawn_right : FuncData
  F_law_drawn_right : Fun K "_law_drawn_right" "_law_drawn_right" s_law_drawn_right f_law_drawn_right fd_law_drawn_right
  b_law_drawn_right : Binds K fd_law_drawn_right ["_law_well_here", "_law_p", "_law_table", "_law_force", "_law_one_here", "_law_other"] []
  g_law_drawn_right : mg "_law_drawn_right" = some (.ref f_law_drawn_right)
  f_law : Addr
  fd_law : FuncData
  F_law : Fun K "law" "law" s_law f_law fd_law
  b_law : Binds K fd_law ["_law_script"] []
  g_law : mg "law" = some (.ref f_law)
  C_NoOption : Addr
  k_NoOption : mg "NoOption" = some (.ref C_NoOption)
  ex_NoOption : ExK K C_NoOption f_NoOption_init
  ok_NoOption : OkyC K C_NoOption
  xf_NoOption : XfC K C_NoOption
  nf_NoOption_name : PySem.W.findIn K (.ref C_NoOption) "name" = some none
  ic_NoOption : ExcC K C_NoOption
  C_PollError : Addr
  k_PollError : mg "PollError" = some (.ref C_PollError)
  ex_PollError : ExK K C_PollError f_PollError_init
  ox_PollError : OexC K C_PollError
  xf_PollError : XfC K C_PollError
  nf_PollError_why : PySem.W.findIn K (.ref C_PollError) "why" = some none
  rd_PollError : PySem.W.readsIn K C_PollError (.type "type") = true
  ga_PollError : PySem.W.specialIn K (.ref C_PollError) "__getattribute__" = some (some (.builtin "type.__getattribute__"))
  fc_PollError_init : PySem.W.findCls K (.ref C_PollError) (.type "type") "__init__" = some (.val (.ref f_PollError_init))
  C_BadPoll : Addr
  k_BadPoll : mg "BadPoll" = some (.ref C_BadPoll)
  ex_BadPoll : ExK K C_BadPoll f_PollError_init
  ox_BadPoll : OexC K C_BadPoll
  xf_BadPoll : XfC K C_BadPoll
  nf_BadPoll_why : PySem.W.findIn K (.ref C_BadPoll) "why" = some none
  C_Poll : Addr
  k_Poll : mg "Poll" = some (.ref C_Poll)
  cl_Poll : Cls K C_Poll
  n_Poll_options : NoAttr K C_Poll "options"
  n_Poll_voices : NoAttr K C_Poll "voices"
  mk_Poll : Mk K C_Poll f_Poll_init
  tc_strongest_ways : Addr
  tp_strongest_ways : Addr
  co_strongest_ways : fd_strongest_ways.code = .ref tc_strongest_ways
  tt_strongest_ways : PySem.W.tabIn K "strongest_ways" = some (tc_strongest_ways, tp_strongest_ways)
  np_strongest_ways : K.lookup tp_strongest_ways = none
  vV : PySem.W.findCls K (.type "ValueError") (.type "type") "__init__" = some (.val (.builtin "ValueError.__init__"))
  z_ValueError : mg "ValueError" = none
  z_isinstance : mg "isinstance" = none
  z_bool : mg "bool" = none
  z_int : mg "int" = none
  z_str : mg "str" = none
  z_len : mg "len" = none
  z_all : mg "all" = none
  z_tuple : mg "tuple" = none
  z_enumerate : mg "enumerate" = none
  z_list : mg "list" = none
  z_zip : mg "zip" = none
  z_min : mg "min" = none
  z_max : mg "max" = none
  z_range : mg "range" = none
  z_dict : mg "dict" = none
  z_sorted : mg "sorted" = none
  z_set : mg "set" = none
  t_LONGEST_NAME : Tok
  c_LONGEST_NAME : mg "LONGEST_NAME" = some (.int 8 t_LONGEST_NAME)
  t_MOST_OPTIONS : Tok
  c_MOST_OPTIONS : mg "MOST_OPTIONS" = some (.int 6 t_MOST_OPTIONS)
  t_GREATEST_MARK : Tok
  c_GREATEST_MARK : mg "GREATEST_MARK" = some (.int 9 t_GREATEST_MARK)
  t_MOST_VOICES : Tok
  c_MOST_VOICES : mg "MOST_VOICES" = some (.int 1000000 t_MOST_VOICES)
  t_MOST_ROWS : Tok
  c_MOST_ROWS : mg "MOST_ROWS" = some (.int 30 t_MOST_ROWS)
  a_RULES : Addr
  c_RULES : mg "RULES" = some (.ref a_RULES)
  sq_RULES : ∀ H, SqT K H a_RULES [.str "firsts", .str "lasts", .str "points", .str "lets", .str "wins", .str "losses", .str "ways", .str "best", .str "top", .str "uncovered", .str "rounds"]
  a_BY_WORD : Addr
  es_BY_WORD : Array DictEntry
  n_BY_WORD : Nat
  c_BY_WORD : mg "BY_WORD" = some (.ref a_BY_WORD)
  ld_BY_WORD : K.lookup a_BY_WORD = some ⟨.type "dict", none, .dict es_BY_WORD n_BY_WORD, #[]⟩
  kd_BY_WORD : PySem.W.KeysLit par es_BY_WORD.toList
  ed_BY_WORD_ways : PySem.W.nsIn K a_BY_WORD "ways" = some (some (.ref f_by_ways))
class WP {K : PySem.W.Frag} {mg : Str → Option Value} (T : Txt K mg) (w : World) : Prop where
  eq : T.par = w.params
def Txt.tabs {K : PySem.W.Frag} {mg : Str → Option Value} (T : Txt K mg) : Tabs3 := [("strongest_ways", T.tc_strongest_ways, T.tp_strongest_ways)]
def Txt.tabl {K : PySem.W.Frag} {mg : Str → Option Value} (T : Txt K mg) : List (Addr × Str) := [(T.tp_strongest_ways, ("strongest_ways.<locals>." : Str) ++ "<lambda>")]
theorem Txt.tabl_strongest_ways {K : PySem.W.Frag} {mg : Str → Option Value} (T : Txt K mg) : (T.tp_strongest_ways, ("strongest_ways.<locals>." : Str) ++ "<lambda>") ∈ T.tabl := by
  show _ ∈ [(T.tp_strongest_ways, ("strongest_ways.<locals>." : Str) ++ "<lambda>")]
  simp
theorem Txt.tabu_strongest_ways {K : PySem.W.Frag} {mg : Str → Option Value} (T : Txt K mg) : ∀ p ∈ T.tabl, p.1 = T.tp_strongest_ways → p.2 = ("strongest_ways.<locals>." : Str) ++ "<lambda>" := by
  intro p hp e
  unfold Txt.tabl at hp
  simp only [List.mem_cons, List.not_mem_nil, or_false] at hp
  rcases hp with rfl
  · rfl
/-! ### wells -/
/-- a well's three numbers, k a bound of how often it was drawn from -/
def WellL (w : List V) (k : Nat) : Prop := ∃ a b c : Int, w = [.int a, .int b, .int c] ∧ 0 ≤ a ∧ 0 ≤ b ∧ b < 2147483629 ∧ 0 ≤ c ∧ c ≤ k
theorem WellL.mono {w : List V} {j k : Nat} (h : WellL w j) (hk : j ≤ k) : WellL w k := by
  obtain ⟨a, b, c, e, h1, h2, h3, h4, h5⟩ := h
  exact ⟨a, b, c, e, h1, h2, h3, h4, by omega⟩
theorem mix_mod (x m : Int) (h : 0 < m) : 0 ≤ x % m ∧ x % m < m := ⟨Int.emod_nonneg x (by omega), Int.emod_lt_of_pos x h⟩
theorem div_nn {a n : Int} (h : 0 ≤ a) (hn : 0 < n) : 0 ≤ a / n := Int.ediv_nonneg h (by omega)
theorem same_upd {H : Hp} {p : Addr} {o : HO} (h : H p = none) : Same H (upd H p o) := fun b x e => by
  rw [upd_ne (ne_of_none e h)]
  exact e
theorem same_mut {H H' : Hp} {p : Addr} {o : HO} (e : Same H H') (h : H p = none) : Same H (upd H' p o) := fun b x q => by
  rw [upd_ne (ne_of_none q h)]
  exact e b x q
theorem mulOk {a b : Int} {n m : Nat} (ha : a.natAbs < 2 ^ n) (hb : b.natAbs < 2 ^ m) (h : n + m + 1 ≤ 8000) : CMulW a b :=
  wide_mul (a := n + 1) (b := m + 1) (Nat.lt_of_lt_of_le ha (Nat.pow_le_pow_right (by decide) (by omega))) (Nat.lt_of_lt_of_le hb (Nat.pow_le_pow_right (by decide) (by omega))) (by omega) (by omega) (by omega)
theorem line_of {n : Nat} (h : n ≤ 1000) : n ≤ sizeLine := Nat.le_of_lt (small1000 h)
/-- what was tracked besides p stays -/
def But (p : Addr) (H H' : Hp) : Prop := ∀ b o, b ≠ p → H b = some o → H' b = some o
theorem But.refl (p : Addr) (H : Hp) : But p H H := fun _ _ _ h => h
theorem But.upd {p : Addr} {H H' : Hp} (e : But p H H') (o : HO) : But p H (upd H' p o) := fun b u hb q => by
  rw [upd_ne hb]
  exact e b u hb q
theorem But.same {p : Addr} {H H1 H2 : Hp} (e : But p H H1) (s : Same H1 H2) : But p H H2 := fun b u hb h => s b u (e b u hb h)
theorem But.trans {p : Addr} {H H1 H2 : Hp} (e : But p H H1) (f : But p H1 H2) : But p H H2 := fun b u hb h => f b u hb (e b u hb h)
/-- p new to H0 -/
theorem size_ok {n : Int} (h0 : 0 ≤ n) (h : n ≤ 1000) : n.natAbs < 2 ^ 8000 := Nat.lt_of_le_of_lt (show n.natAbs ≤ 1000 by omega) (by decide +kernel)
theorem take_more {α : Type} : ∀ {l : List α} {i : Nat} {x : α}, l[i]? = some x → l.take (i + 1) = l.take i ++ [x]
  | [], i, x, h => by simp at h
  | a :: l, 0, x, h => by
    have e : a = x := Option.some.inj h
    subst e
    rfl
  | a :: l, i + 1, x, h => by
    have ih := take_more (l := l) (i := i) (x := x) h
    show a :: l.take (i + 1) = a :: l.take i ++ [x]
    rw [ih]
    rfl
section
variable {P : Program} {w : World} {K : PySem.W.Frag} {mg : Str → Option Value} {base : Heap}
/-! ### the law's own small defs -/
def sp_law_cell_at (K : PySem.W.Frag) : Sp := fun vs H Q _ => ∃ (a : Addr) (ns : List Int) (j : Nat), vs = [.ref a, .int j] ∧ SqL K H a (ns.map V.int) ∧ ns.length ≤ 63 ∧ ∀ z : Int, Q (.int z) H
theorem ok_law_cell_at (T : Txt K mg) : FnOk P w K mg base CX0 1 T.f_law_cell_at T.fd_law_cell_at ["_law_script", "_law_k"] (sp_law_cell_at K) := by
  refine T.F_law_cell_at.ok sc_law_cell_at (fun vs H Q E h => ?_) (fun cdv A outer s H vs Q E hr h => ?_)
  · obtain ⟨a, ns, j, rfl, _⟩ := h
    rfl
  · obtain ⟨a, ns, j, rfl, hS, hlen, q⟩ := h
    refine ⟨_, (pss_cons
 (ps_if (pt_cmpR op_lt (pv 1) (pe_callB call_len_seq (by rfl) T.z_len (by decide +kernel) (pa_cons (pv 0) pa_nil)) (nomark _))
 (pss_one
 (ps_ret (pe_ix ix_list (pv 0) (pv 1) (fun _ _ => rfl))))
 pss_nil)
 (pss_one
 (ps_ret (pe_op op_add (pe_op op_mul pe_int (pv 1)) pe_int)))), ?_⟩
    refine ⟨.int j, rfl, .ref a, rfl, a, ns.map V.int, rfl, .inl hS, j, _, rfl, rfl, _, rfl, ite2 (fun e => ?_) (fun e => ?_)⟩
    · have e0 := of_decide_eq_true e
      rw [List.length_map] at e0
      have hj : j < ns.length := by omega
      exact ⟨.ref a, rfl, .int j, rfl, a, _, j, .int ns[j], rfl, rfl, hS, atI_nat (by rw [List.getElem?_map, List.getElem?_eq_getElem hj]; rfl), q _⟩
    · exact ⟨.int j, rfl, _, _, rfl, rfl, .inl ⟨by decide, by decide⟩, _, _, rfl, rfl, q _⟩
def sp_law_well : Sp := fun vs H Q _ => ∃ z : Int, vs = [.int z] ∧ ∀ (p : Addr) (x : List V), H p = none → WellL x 0 → Q (.ref p) (upd H p (.lst x))
theorem ok_law_well (T : Txt K mg) : FnOk P w K mg base CX0 1 T.f_law_well T.fd_law_well ["_law_cell"] sp_law_well := by
  refine T.F_law_well.ok sc_law_well (fun vs H Q E h => ?_) (fun cdv A outer s H vs Q E hr h => ?_)
  · obtain ⟨z, rfl, _⟩ := h
    rfl
  · obtain ⟨z, rfl, q⟩ := h
    refine ⟨_, (pss_one
 (ps_ret (pe_lst (pa_cons (pe_op op_mul (pv 0) (pe_callTy call_int1 (by rfl) T.z_int (by decide +kernel) (pa_cons (pe_cmpR op_ge (pv 0) (pe_op op_pow pe_int pe_int) (nomark _)) pa_nil))) (pa_cons (pe_op op_mod (pv 0) pe_int) (pa_cons pe_int pa_nil)))))), ?_⟩
    have hb := mix_mod z 2147483629 (by decide)
    refine ⟨.int z, rfl, .int z, rfl, 10, 18, rfl, rfl, ⟨by decide, by decide, by decide⟩, z, _, rfl, rfl, .inr ⟨_, rfl, ?_⟩⟩
    by_cases hz : (10 : Int) ^ (18 : Int).toNat ≤ z
    · have hp : (0 : Int) < (10 : Int) ^ (18 : Int).toNat := by decide
      rw [show decide ((10 : Int) ^ (18 : Int).toNat ≤ z) = true from decide_eq_true hz]
      exact ⟨z, 1, rfl, rfl, .inr ⟨by decide, by decide⟩, .int z, rfl, z, _, rfl, rfl, (by show (0 : Int) < 2147483629; decide), line_of (show 3 ≤ 1000 by decide), fun p np => q p _ np ⟨z * 1, _, 0, rfl, by omega, hb.1, hb.2, by decide, by decide⟩⟩
    · rw [show decide ((10 : Int) ^ (18 : Int).toNat ≤ z) = false from decide_eq_false hz]
      exact ⟨z, 0, rfl, rfl, .inr ⟨by decide, by decide⟩, .int z, rfl, z, _, rfl, rfl, (by show (0 : Int) < 2147483629; decide), line_of (show 3 ≤ 1000 by decide), fun p np => q p _ np ⟨z * 0, _, 0, rfl, by omega, hb.1, hb.2, by decide, by decide⟩⟩
/-- drawing: a number below the size; the well holds three numbers again -/
def sp_law_draw : Sp := fun vs H Q _ => ∃ (p : Addr) (n : Int) (x : List V) (k : Nat), vs = [.ref p, .int n] ∧ H p = some (.lst x) ∧ WellL x k ∧ k ≤ 1000000 ∧ 0 < n ∧ n.natAbs < 2 ^ 8000 ∧
  ∀ (d : Int) (y : List V), 0 ≤ d → d < n → WellL y (k + 1) → Q (.int d) (upd H p (.lst y))
theorem ok_law_draw (T : Txt K mg) : FnOk P w K mg base CX0 1 T.f_law_draw T.fd_law_draw ["_law_well_here", "_law_size"] sp_law_draw := by
  refine T.F_law_draw.ok sc_law_draw (fun vs H Q E h => ?_) (fun cdv A outer s H vs Q E hr h => ?_)
  · obtain ⟨p, n, x, k, rfl, _⟩ := h
    rfl
  · obtain ⟨p, n, x, k, rfl, hp, ⟨a, b, c, rfl, ha, hb, hb2, hc, hck⟩, hk, hn, hn2, q⟩ := h
    refine ⟨_, (pss_cons
 (ps_if (pt_cmpR op_gt (pe_ix ix_list (pv 0) pe_int (fun _ _ => rfl)) pe_int (nomark _))
 (pss_cons
 (ps_set (i := 2) sc_law_draw.nd rfl (Or.inl rfl) (pe_op op_mod (pe_ix ix_list (pv 0) pe_int (fun _ _ => rfl)) (pv 1)))
 (pss_cons
 (ps_asg (pe_op op_fdivW (pe_ix ix_list (pv 0) pe_int (fun _ _ => rfl)) (pv 1)) (pg_sub (pv 0) pe_int set_list))
 (pss_one
 (ps_ret (pv 2)))))
 pss_nil)
 (pss_cons
 (ps_asg (pe_op op_add (pe_ix ix_list (pv 0) pe_int (fun _ _ => rfl)) pe_int) (pg_sub (pv 0) pe_int set_list))
 (pss_cons
 (ps_set (i := 3) sc_law_draw.nd rfl (Or.inl rfl) (pe_op op_mod (pe_op op_mul (pe_op op_add (pe_op op_add (pe_ix ix_list (pv 0) pe_int (fun _ _ => rfl)) (pe_op op_mul pe_int (pe_ix ix_list (pv 0) pe_int (fun _ _ => rfl)))) pe_int) pe_int) pe_int))
 (pss_cons
 (ps_set (i := 3) sc_law_draw.nd rfl (Or.inl rfl) (pe_op op_mod (pe_op op_mul (pv 3) (pe_op op_add (pe_op op_fdiv (pv 3) pe_int) pe_int)) pe_int))
 (pss_one
 (ps_ret (pe_op op_mod (pe_op op_fdiv (pe_op op_mod (pe_op op_mul (pv 3) (pe_op op_add (pe_op op_fdiv (pv 3) pe_int) pe_int)) pe_int) pe_int) (pv 1)))))))), ?_⟩
    refine ⟨.ref p, rfl, p, _, 0, .int a, rfl, rfl, .of hp, rfl, a, 0, rfl, rfl, _, rfl, ite2 (fun e => ?_) (fun e => ?_)⟩
    · have hd := mix_mod a n hn
      have ha2 := div_nn ha hn
      refine ⟨.ref p, rfl, p, _, 0, .int a, rfl, rfl, .of hp, rfl, .int n, rfl, a, n, rfl, rfl, hn, ?_⟩
      refine ⟨.ref p, rfl, p, _, 0, .int a, rfl, rfl, .of hp, rfl, .int n, rfl, a, n, rfl, rfl, wide_div hn hn2 (by decide) (by decide), .ref p, rfl, p, _, 0, 0, rfl, rfl, hp, rfl, ?_⟩
      exact ⟨_, rfl, q (a % n) _ hd.1 hd.2 ⟨a / n, b, c, rfl, ha2, hb, hb2, hc, by omega⟩⟩
    · refine ⟨.ref p, rfl, p, _, 2, .int c, rfl, rfl, .of hp, rfl, c, 1, rfl, rfl, .ref p, rfl, p, _, 2, 2, rfl, rfl, hp, rfl, ?_⟩
      have h1 : (upd H p (.lst [V.int a, V.int b, V.int (c + 1)])) p = some (.lst [V.int a, V.int b, V.int (c + 1)]) := upd_same
      refine ⟨.ref p, rfl, p, _, 1, .int b, rfl, rfl, .of h1, rfl, .ref p, rfl, p, _, 2, .int (c + 1), rfl, rfl, .of h1, rfl, 7919, c + 1, rfl, rfl, .inl ⟨by decide, by decide⟩, b, _, rfl, rfl, _, 1, rfl, rfl, _, 48271, rfl, rfl, .inr ⟨by decide, by decide⟩, _, 2147483647, rfl, rfl, (by show (0 : Int) < 2147483647; decide), ?_⟩
      dsimp only
      generalize hg : (_ : Int) % 2147483647 = m
      have hm : 0 ≤ m ∧ m < 2147483647 := hg ▸ mix_mod _ _ (by decide)
      refine ⟨.int m, rfl, .int m, rfl, m, 1009, rfl, rfl, ⟨by decide, by decide⟩, _, 69621, rfl, rfl, m, _, rfl, rfl, .inl ⟨by omega, by omega⟩, _, 2147483629, rfl, rfl, (by show (0 : Int) < 2147483629; decide), ?_⟩
      dsimp only
      generalize hg2 : (_ : Int) % 2147483629 = m2
      have hm2 : 0 ≤ m2 ∧ m2 < 2147483629 := hg2 ▸ mix_mod _ _ (by decide)
      refine ⟨.int m2, rfl, .int m2, rfl, m2, 2003, rfl, rfl, ⟨by decide, by decide⟩, _, 40692, rfl, rfl, m2, _, rfl, rfl, .inl ⟨by omega, by omega⟩, _, 2147483587, rfl, rfl, (by show (0 : Int) < 2147483587; decide), _, 5, rfl, rfl, ⟨by decide, by decide⟩, .int n, rfl, _, n, rfl, rfl, hn, ?_⟩
      have hd := mix_mod (m2 * (m2 / 2003 + 40692) % 2147483587 / 5) n hn
      exact q _ _ hd.1 hd.2 ⟨a, b, c + 1, rfl, ha, hb, hb2, by omega, by omega⟩
end
theorem But.mut {p q : Addr} {H H' : Hp} {o : HO} (e : But p H H') (n : H q = none) : But p H (L2.upd H' q o) := fun b u hb h => by
  have hq : b ≠ q := fun z => by rw [z, n] at h; cases h
  rw [upd_ne hq]
  exact e b u hb h
theorem But.free {p q : Addr} {H H' : Hp} {o : HO} (e : But p H H') (hp : H' p = some o) (n : H' q = none) : H q = none := by
  have hq : q ≠ p := fun z => by rw [z, hp] at n; cases n
  cases h : H q with
  | none => rfl
  | some u => rw [e q u hq h] at n; cases n
theorem pick_perm {α : Type} : ∀ (l : List α) (n : Nat) (h : n < l.length), (l[n] :: l.eraseIdx n).Perm l
  | [], _, h => absurd h (Nat.not_lt_zero _)
  | a :: l, 0, _ => List.Perm.refl _
  | a :: l, n + 1, h => (List.Perm.swap a (l[n]'(Nat.lt_of_succ_lt_succ h)) (l.eraseIdx n)).trans ((pick_perm l n (Nat.lt_of_succ_lt_succ h)).cons a)
abbrev abc : Str := "abcdefghijklmnopqrstuvwxyz"
theorem abc_len : abc.length = 26 := by decide +kernel
theorem abc_all : ∀ j : Fin 26, abc.cps.toList[j.val]? = some (97 + j.val) := by decide +kernel
theorem abc_at {d : Int} (h0 : 0 ≤ d) (h1 : d < 26) : atI abc.cps.toList d = some (97 + d.toNat) := by
  obtain ⟨j, rfl⟩ := Int.eq_ofNat_of_zero_le h0
  exact atI_nat (abc_all ⟨j, by omega⟩)
def Small (z : Str) : Prop := ∀ c ∈ z.cps.toList, 97 ≤ c ∧ c ≤ 122
def NameOk (z : Str) : Prop := 1 ≤ z.length ∧ z.length ≤ 8 ∧ Small z
def lastc (z : Str) : Nat := z.cps.toList.getLastD 0
theorem cps_more (z : Str) (c : Nat) : (z ++ ⟨#[c]⟩ : Str).cps.toList = z.cps.toList ++ [c] := by
  rw [Str.cps_append, Array.toList_append]
def tyD (t : List Str) : PyData := .tuple (t.map PyData.str)
theorem lay_strs : ∀ t : List Str, (∀ z ∈ t, PyData.strOk z = true) → PyData.canLayAll0 (t.map PyData.str) = true ∧ PyData.depthAll (t.map PyData.str) ≤ 0
  | [], _ => ⟨rfl, by decide⟩
  | a :: l, h => by
    obtain ⟨h1, h2⟩ := lay_strs l fun z hz => h z (List.mem_cons_of_mem _ hz)
    constructor
    · rw [List.map_cons, PyData.canLayAll0, h1]
      simp [PyData.canLay0, h a List.mem_cons_self]
    · rw [List.map_cons, PyData.depthAll]
      have : PyData.depth (.str a) = 0 := rfl
      omega
theorem lay_tiers : ∀ ts : List (List Str), (∀ t ∈ ts, ∀ z ∈ t, PyData.strOk z = true) → PyData.canLayAll0 (ts.map tyD) = true ∧ PyData.depthAll (ts.map tyD) ≤ 1
  | [], _ => ⟨rfl, by decide⟩
  | a :: l, h => by
    obtain ⟨h1, h2⟩ := lay_tiers l fun t ht => h t (List.mem_cons_of_mem _ ht)
    obtain ⟨g1, g2⟩ := lay_strs a (h a List.mem_cons_self)
    constructor
    · rw [List.map_cons, PyData.canLayAll0, h1]
      simp [tyD, PyData.canLay0, g1]
    · rw [List.map_cons, PyData.depthAll]
      have : PyData.depth (tyD a) ≤ 1 := by
        show PyData.depth (.tuple (a.map PyData.str)) ≤ 1
        rw [PyData.depth]
        omega
      omega
theorem shaped_tiers {ts : List (List Str)} (h : ∀ t ∈ ts, ∀ z ∈ t, PyData.strOk z = true) : SeqAt.shaped (.list (ts.map tyD)) = true := by
  obtain ⟨h1, h2⟩ := lay_tiers ts h
  unfold SeqAt.shaped
  rw [PyData.canLay0, h1, PyData.depth]
  simp only [Bool.true_and, decide_eq_true_eq]
  omega
theorem dp_strs {K : PySem.W.Frag} {H : Hp} : ∀ t : List Str, DpAll K H (t.map V.str) (t.map PyData.str)
  | [] => .nil
  | a :: l => .cons (.str a) (dp_strs l)
def Tiers (H : Hp) (bs : List (Addr × List Str)) : Prop := ∀ b ∈ bs, H b.1 = some (.tup (b.2.map V.str)) ∧ b.2 ≠ []
theorem dp_tiers {K : PySem.W.Frag} {H : Hp} : ∀ bs : List (Addr × List Str), Tiers H bs → DpAll K H (bs.map fun b => V.ref b.1) ((bs.map (·.2)).map tyD)
  | [], _ => .nil
  | b :: l, h => .cons (.tup (.of (h b List.mem_cons_self).1) (dp_strs b.2)) (dp_tiers l fun c hc => h c (List.mem_cons_of_mem _ hc))
theorem small_ok {z : Str} (h : Small z) : PyData.strOk z = true := by
  unfold PyData.strOk
  rw [← Array.all_toList, List.all_eq_true]
  exact fun c hc => decide_eq_true (by have := (h c hc).2; omega)
theorem cut_strs (ws : List Str) (lo hi : Option Int) : ∃ ms : List Str, cutV (ws.map V.str) lo hi = ms.map V.str ∧ ms.Sublist ws := by
  refine ⟨(ws.drop (HT.sIx (ws.map V.str).length 0 lo)).take (HT.sIx (ws.map V.str).length (ws.map V.str).length hi - HT.sIx (ws.map V.str).length 0 lo), ?_, (List.take_sublist _ _).trans (List.drop_sublist _ _)⟩
  unfold cutV
  rw [← List.map_drop, ← List.map_take]
theorem ix_last (n : Nat) : ixN (n + 1) (-1) = some n := by
  unfold ixN
  rw [if_neg (by decide)]
  simp
  omega
theorem set_last {α : Type} : ∀ (l : List α) (a b : α), (l ++ [a]).set l.length b = l ++ [b]
  | [], _, _ => rfl
  | c :: l, a, b => congrArg (c :: ·) (set_last l a b)
theorem at_last {α : Type} (l : List α) (a : α) : atI (l ++ [a]) (-1) = some a := by
  unfold atI
  rw [List.length_append, List.length_singleton, ix_last]
  show (l ++ [a])[l.length]? = some a
  rw [List.getElem?_append_right (Nat.le_refl _), Nat.sub_self]
  rfl
/-- a ballot, as the document tells them -/
inductive Bal where
  | order (ts : List (List Str))
  | lets (ns : List Str)
  | marks (ms : List (Str × Int))
def Bal.Ok (zs : List Str) : Bal → Prop
  | .order ts => ts.flatten.Nodup ∧ (∀ z ∈ ts.flatten, z ∈ zs) ∧ ∀ t ∈ ts, t ≠ []
  | .lets ns => ns.Nodup ∧ ∀ z ∈ ns, z ∈ zs
  | .marks ms => (ms.map (·.1)).Nodup ∧ (∀ m ∈ ms, m.1 ∈ zs) ∧ ∀ m ∈ ms, 0 ≤ m.2 ∧ m.2 ≤ 9
def BalAt (H : Hp) (t : Addr) : Bal → Prop
  | .order ts => ∃ (u : Addr) (bs : List (Addr × List Str)), H t = some (.tup [.str "order", .ref u]) ∧ H u = some (.tup (bs.map fun b => V.ref b.1)) ∧ Tiers H bs ∧ bs.map (·.2) = ts
  | .lets ns => ∃ u : Addr, H t = some (.tup [.str "lets", .ref u]) ∧ H u = some (.tup (ns.map V.str))
  | .marks ms => ∃ (u : Addr) (bs : List (Addr × (Str × Int))), H t = some (.tup [.str "marks", .ref u]) ∧ H u = some (.tup (bs.map fun b => V.ref b.1)) ∧ (∀ b ∈ bs, H b.1 = some (.tup [.str b.2.1, .int b.2.2])) ∧ bs.map (·.2) = ms
theorem BalAt.keep {H H' : Hp} {t : Addr} : ∀ {b : Bal}, (∀ a xs, H a = some (.tup xs) → H' a = some (.tup xs)) → BalAt H t b → BalAt H' t b
  | .order _, k, ⟨u, bs, h1, h2, h3, h4⟩ => ⟨u, bs, k _ _ h1, k _ _ h2, fun b hb => ⟨k _ _ (h3 b hb).1, (h3 b hb).2⟩, h4⟩
  | .lets _, k, ⟨u, h1, h2⟩ => ⟨u, k _ _ h1, k _ _ h2⟩
  | .marks _, k, ⟨u, bs, h1, h2, h3, h4⟩ => ⟨u, bs, k _ _ h1, k _ _ h2, fun b hb => k _ _ (h3 b hb), h4⟩
theorem But.tups {p : Addr} {H H' : Hp} {x : List V} (b : But p H H') (hp : H p = some (.lst x)) : ∀ a xs, H a = some (.tup xs) → H' a = some (.tup xs) := fun a xs h => b a _ (fun e => by rw [e, hp] at h; cases h) h
/-- tuples stay -/
def TK (H H' : Hp) : Prop := ∀ a xs, H a = some (.tup xs) → H' a = some (.tup xs)
theorem TK.trans {H H1 H2 : Hp} (a : TK H H1) (b : TK H1 H2) : TK H H2 := fun c xs h => b c xs (a c xs h)
theorem TK.new {H : Hp} {q : Addr} {o : HO} (n : H q = none) : TK H (upd H q o) := fun c xs h => (upd_ne (ne_of_none h n)).trans h
theorem TK.lst {H : Hp} {q : Addr} {x : List V} {o : HO} (n : H q = some (.lst x)) : TK H (upd H q o) := fun c xs h => (upd_ne (fun e => by rw [e, n] at h; cases h)).trans h
def RowsAt (H : Hp) (u : Addr) (rows : List (Bal × Int)) : Prop := ∃ as : List (Addr × Addr × (Bal × Int)), H u = some (.tup (as.map fun a => V.ref a.1)) ∧ (∀ a ∈ as, H a.1 = some (.tup [.ref a.2.1, .int a.2.2.2]) ∧ BalAt H a.2.1 a.2.2.1) ∧ as.map (·.2.2) = rows
theorem RowsAt.keep {H H' : Hp} {u : Addr} {rows : List (Bal × Int)} (k : TK H H') (h : RowsAt H u rows) : RowsAt H' u rows := by
  obtain ⟨as, h1, h2, h3⟩ := h
  exact ⟨as, k _ _ h1, fun a ha => ⟨k _ _ (h2 a ha).1, (h2 a ha).2.keep k⟩, h3⟩
def RowsOk (zs : List Str) (n : Nat) (rows : List (Bal × Int)) : Prop := rows.length ≤ n ∧ ∀ r ∈ rows, r.1.Ok zs ∧ 1 ≤ r.2 ∧ r.2 ≤ 1000000
section
variable {P : Program} {w : World} {K : PySem.W.Frag} {mg : Str → Option Value} {base : Heap}
/-! ### one of several -/
def sp_law_one : Sp := fun vs H Q _ => ∃ (p : Addr) (sv : V) (x : List V) (k : Nat), vs = [.ref p, sv] ∧ H p = some (.lst x) ∧ WellL x k ∧ k ≤ 1000000 ∧
  ((∃ z : Str, sv = .str z ∧ 0 < z.length ∧ z.length ≤ 1000 ∧ ∀ (c : Nat) (y : List V), c ∈ z.cps.toList → WellL y (k + 1) → Q (.str ⟨#[c]⟩) (upd H p (.lst y))) ∨
    (∃ (l : Addr) (xs : List V), sv = .ref l ∧ H l = some (.lst xs) ∧ l ≠ p ∧ 0 < xs.length ∧ xs.length ≤ 1000 ∧ ∀ (v : V) (y : List V), v ∈ xs → WellL y (k + 1) → Q v (upd H p (.lst y))) ∨
    ∃ (l : Addr) (xs : List V), sv = .ref l ∧ H l = some (.tup xs) ∧ 0 < xs.length ∧ xs.length ≤ 1000 ∧ ∀ (v : V) (y : List V), v ∈ xs → WellL y (k + 1) → Q v (upd H p (.lst y)))
theorem at_mem {α : Type} {xs : List α} {d : Int} (h0 : 0 ≤ d) (h1 : d < xs.length) : ∃ v, atI xs d = some v ∧ v ∈ xs := by
  obtain ⟨j, rfl⟩ := Int.eq_ofNat_of_zero_le h0
  have hj : j < xs.length := by omega
  exact ⟨xs[j], atI_nat (List.getElem?_eq_getElem hj), List.getElem_mem hj⟩
theorem ok_law_one (T : Txt K mg) : FnOk P w K mg base CX0 2 T.f_law_one T.fd_law_one ["_law_well_here", "_law_some"] sp_law_one := by
  refine T.F_law_one.ok sc_law_one (fun vs H Q E h => ?_) (fun cdv A outer s H vs Q E hr h => ?_)
  · obtain ⟨p, sv, x, k, rfl, _⟩ := h
    rfl
  · obtain ⟨p, sv, x, k, rfl, hp, hx, hk, h⟩ := h
    refine ⟨_, (pss_one
 (ps_ret (pe_ix (ix_or ix_str (ix_or ix_list ix_tup)) (pv 1) (pe_call (ok_law_draw T) (hr.mono (by decide)) (by rfl) T.g_law_draw T.F_law_draw.kp T.b_law_draw .nil pass0 (pa_cons (pv 0) (pa_cons (pe_callB (call_or call_len_str call_len_seq) (by rfl) T.z_len (by decide +kernel) (pa_cons (pv 1) pa_nil)) pa_nil))) (fun _ _ => rfl)))), ?_⟩
    rcases h with ⟨z, rfl, z0, z1, q⟩ | ⟨l, xs, rfl, hl, hlp, l0, l1, q⟩ | ⟨l, xs, rfl, hl, l0, l1, q⟩
    · refine ⟨.str z, rfl, .ref p, rfl, .str z, rfl, .inl ⟨z, rfl, line_of z1, p, _, x, k, rfl, hp, hx, hk, by omega, size_ok (by omega) (by omega), fun d y h0 h1 hy => ?_⟩⟩
      have e : z.length = z.cps.toList.length := by unfold Str.length; rw [Array.length_toList]
      rw [e] at h1
      obtain ⟨c, hc, hm⟩ := at_mem h0 h1
      exact .inl ⟨z, d, c, rfl, rfl, line_of z1, hc, q c y hm hy⟩
    · refine ⟨.ref l, rfl, .ref p, rfl, .ref l, rfl, .inr ⟨l, _, rfl, .inl (.of hl), p, _, x, k, rfl, hp, hx, hk, by omega, size_ok (by omega) (by omega), fun d y h0 h1 hy => ?_⟩⟩
      obtain ⟨v, hv, hm⟩ := at_mem h0 h1
      exact .inr (.inl ⟨l, xs, d, v, rfl, rfl, .of (by rw [upd_ne hlp]; exact hl), hv, q v y hm hy⟩)
    · have hlp : l ≠ p := fun e => by rw [e, hp] at hl; cases hl
      refine ⟨.ref l, rfl, .ref p, rfl, .ref l, rfl, .inr ⟨l, _, rfl, .inr (.of hl), p, _, x, k, rfl, hp, hx, hk, by omega, size_ok (by omega) (by omega), fun d y h0 h1 hy => ?_⟩⟩
      obtain ⟨v, hv, hm⟩ := at_mem h0 h1
      exact .inr (.inr ⟨l, xs, d, v, rfl, rfl, .of (by rw [upd_ne hlp]; exact hl), hv, q v y hm hy⟩)
end
section
variable {P : Program} {w : World} {K : PySem.W.Frag} {mg : Str → Option Value} {base : Heap}
/-! ### any order -/
theorem shaped_strs {t : List Str} (h : ∀ z ∈ t, PyData.strOk z = true) : SeqAt.shaped (.list (t.map PyData.str)) = true := by
  obtain ⟨h1, h2⟩ := lay_strs t h
  unfold SeqAt.shaped
  rw [PyData.canLay0, h1, PyData.depth]
  simp only [Bool.true_and, decide_eq_true_eq]
  omega
def sp_law_shuffled : Sp := fun vs H Q _ => ∃ (p t : Addr) (zs : List Str) (x : List V) (k : Nat), vs = [.ref p, .ref t] ∧ H p = some (.lst x) ∧ H t = some (.tup (zs.map V.str)) ∧ zs.length ≤ 6 ∧ (∀ z ∈ zs, NameOk z) ∧ WellL x k ∧ k ≤ 900000 ∧
  ∀ (u : Addr) (ws : List Str) (y : List V) (H' : Hp), ws.Perm zs → But p H H' → H u = none → H' u = some (.tup (ws.map V.str)) → H' p = some (.lst y) → WellL y (k + 6) → Q (.ref u) H'
theorem erase_map {α β : Type} (f : α → β) : ∀ (l : List α) (n : Nat), (l.map f).eraseIdx n = (l.eraseIdx n).map f
  | [], _ => rfl
  | _ :: _, 0 => rfl
  | a :: l, n + 1 => congrArg (f a :: ·) (erase_map f l n)
def leftOf (l : Addr) (_ : L2.St) (H : Hp) : Nat := match H l with
  | some (.lst xs) => xs.length
  | _ => 0
theorem ok_law_shuffled (T : Txt K mg) : FnOk P w K mg base CX0 2 T.f_law_shuffled T.fd_law_shuffled ["_law_well_here", "_law_some"] sp_law_shuffled := by
  refine T.F_law_shuffled.ok sc_law_shuffled (fun vs H Q E h => ?_) (fun cdv A outer s H vs Q E hr h => ?_)
  · obtain ⟨p, t, zs, x, k, rfl, _⟩ := h
    rfl
  · obtain ⟨p, t, zs, x, k, rfl, hp, ht, hn, ok, hx, hk, q⟩ := h
    refine ⟨_, (pss_cons
 (ps_set (i := 2) sc_law_shuffled.nd rfl (Or.inl rfl) (pe_callTy call_list_of (by rfl) T.z_list (by decide +kernel) (pa_cons (pv 1) pa_nil)))
 (pss_cons
 (ps_set (i := 3) sc_law_shuffled.nd rfl (Or.inl rfl) (pe_lst pa_nil))
 (pss_cons
 (ps_while PassesOwn.never (pt_cmpR (op_neD hr.units) (pv 2) (pe_lst pa_nil) (nomark _))
 (pss_one
 (ps_expr (pe_bm PySem.F.plainAttrs_list PySem.F.slot_list_append PySem.F.type_list_append mt_append (pv 3) (pa_cons (pe_bm PySem.F.plainAttrs_list PySem.F.slot_list_pop PySem.F.type_list_pop mt_popAt (pv 2) (pa_cons (pe_call (ok_law_draw T) (hr.mono (by decide)) (by rfl) T.g_law_draw T.F_law_draw.kp T.b_law_draw .nil pass0 (pa_cons (pv 0) (pa_cons (pe_callB call_len_seq (by rfl) T.z_len (by decide +kernel) (pa_cons (pv 2) pa_nil)) pa_nil))) pa_nil)) pa_nil)))))
 (pss_one
 (ps_ret (pe_callTy call_tuple_of (by rfl) T.z_tuple (by decide +kernel) (pa_cons (pv 3) pa_nil))))))), ?_⟩
    refine ⟨.ref t, rfl, t, _, rfl, .inr (.of ht), fun l nl => ?_⟩
    have hpl := ne_of_none hp nl
    refine ⟨line_of (show 0 ≤ 1000 by decide), fun g ng => ?_⟩
    have hlg : l ≠ g := fun e => by rw [← e, upd_same] at ng; cases ng
    have ngH : H g = none := by rw [upd_ne hlg.symm] at ng; exact ng
    have hpg := ne_of_none hp ngH
    refine while_by (fun σ H' => σ = [some (.ref p), some (.ref t), some (.ref l), some (.ref g)] ∧ ∃ (left done : List Str) (y : List V) (i : Nat), H' l = some (.lst (left.map V.str)) ∧ H' g = some (.lst (done.map V.str)) ∧ (done ++ left).Perm zs ∧ done.length = i ∧
        But p H H' ∧ H' p = some (.lst y) ∧ WellL y (k + i)) (leftOf l)
      ⟨rfl, zs, [], x, 0, by rw [upd_ne hlg, upd_same], upd_same, List.Perm.refl _, rfl, ((But.refl p H).mut nl).mut ngH, by rw [upd_ne hpg, upd_ne hpl]; exact hp, hx⟩ ?_
      (fun σ H Q Q' imp h => by
        obtain ⟨x, h1, h2, h3⟩ := h
        refine ⟨x, h1, h2, fun le nle => ?_⟩
        obtain ⟨d, e, a, b, c, f, kk, gg, hh⟩ := h3 le nle
        exact ⟨d, e, a, b, c, f, kk, gg, imp _ _ hh⟩)
    rintro σ H1 ⟨rfl, left, done, y, i, hl, hg, pm, ld, hb, hp1, hw⟩
    have len := pm.length_eq
    rw [List.length_append] at len
    have sok : ∀ z ∈ left, PyData.strOk z = true := fun z hz => small_ok (ok z (pm.mem_iff.mp (List.mem_append_right _ hz))).2.2
    refine ⟨.ref l, rfl, line_of (show 0 ≤ 1000 by decide), fun le nle => ?_⟩
    have lle := ne_of_none hl nle
    have gle := ne_of_none hg nle
    have ple := ne_of_none hp1 nle
    have hl' : (upd H1 le (.lst [])) l = some (.lst (left.map V.str)) := by rw [upd_ne lle]; exact hl
    have hg' : (upd H1 le (.lst [])) g = some (.lst (done.map V.str)) := by rw [upd_ne gle]; exact hg
    have hp' : (upd H1 le (.lst [])) p = some (.lst y) := by rw [upd_ne ple]; exact hp1
    have hb' := hb.mut (o := HO.lst []) (hb.free hp1 nle)
    refine ⟨.list (left.map PyData.str), .list [], .lst (.of hl') (dp_strs left), .lst (.of upd_same) .nil, shaped_strs sok, rfl, ?_⟩
    have eL : leftOf l [some (.ref p), some (.ref t), some (.ref l), some (.ref g)] H1 = left.length := by
      unfold leftOf
      rw [hl]
      exact List.length_map _
    generalize upd H1 le (.lst []) = H2 at hl' hg' hp' hb'
    by_cases h0 : left = []
    · subst h0
      refine ⟨_, rfl, iteF ?_⟩
      rw [List.append_nil] at pm
      refine ⟨.ref g, rfl, g, _, rfl, .inl ⟨.of hg', fun u nu => ?_⟩⟩
      refine q u done y _ pm (hb'.mut (hb'.free hp' nu)) (hb'.free hp' nu) upd_same (by rw [upd_ne (ne_of_none hp' nu)]; exact hp') (hw.mono ?_)
      have : ([] : List Str).length = 0 := rfl
      omega
    · have hc : (!PyData.eqv (.list (left.map PyData.str)) (.list [])) = true := by
        cases left with
        | nil => exact absurd rfl h0
        | cons a r => rfl
      rw [hc]
      have hpos := List.length_pos_iff.mpr h0
      refine ⟨_, rfl, iteT ?_⟩
      refine ⟨.ref g, rfl, .inl ⟨rfl, _, .of hg'⟩, .ref l, rfl, .inl ⟨rfl, _, .of hl'⟩, .ref p, rfl, .ref l, rfl, l, _, rfl, .inl (.of hl'), p, _, y, _, rfl, hp', hw, by omega, by rw [List.length_map]; omega, size_ok (by rw [List.length_map]; omega) (by rw [List.length_map]; omega), fun d y2 d0 d1 hw2 => ?_⟩
      rw [List.length_map] at d1
      have hd : d.toNat < left.length := by omega
      refine ⟨l, _, d, d.toNat, .str left[d.toNat], rfl, rfl, by rw [upd_ne hpl.symm]; exact hl', by omega, by omega, by rw [List.length_map]; exact seqIndex_of d0 d1, by rw [List.getElem?_map, List.getElem?_eq_getElem hd]; rfl, ?_⟩
      have hg2 : (upd (upd H2 p (.lst y2)) l (.lst ((left.map V.str).eraseIdx d.toNat))) g = some (.lst (done.map V.str)) := by rw [upd_ne hlg.symm, upd_ne hpg.symm]; exact hg'
      refine ⟨g, _, _, rfl, rfl, hg2, small1000 (by rw [List.length_map]; omega), ⟨rfl, left.eraseIdx d.toNat, done ++ [left[d.toNat]], y2, i + 1, ?_, ?_, ?_, by rw [List.length_append, ld]; rfl, ((hb'.upd _).mut nl).mut ngH, by rw [upd_ne hpg, upd_ne hpl, upd_same], hw2⟩, ?_⟩
      · rw [upd_ne hlg, upd_same, erase_map]
      · rw [upd_same, List.map_append]
        rfl
      · rw [List.append_assoc]
        exact ((pick_perm left d.toNat hd).append_left done).trans pm
      · rw [eL]
        unfold leftOf
        rw [upd_ne hlg, upd_same]
        show ((left.map V.str).eraseIdx d.toNat).length < left.length
        rw [erase_map, List.length_map, List.length_eraseIdx]
        split <;> omega
end
theorem abc_small : ∀ c ∈ abc.cps.toList, 97 ≤ c ∧ c ≤ 122 := by decide +kernel
theorem sum_ones : ∀ ys : List Str, (∀ z ∈ ys, z.length = 1) → (ys.map (·.length)).sum ≤ ys.length
  | [], _ => Nat.le_refl _
  | a :: l, h => by
    have := sum_ones l fun z hz => h z (List.mem_cons_of_mem _ hz)
    have := h a List.mem_cons_self
    rw [List.map_cons, List.sum_cons, List.length_cons]
    omega
theorem stem_ok (ys : List Str) (h : ∀ z ∈ ys, Small z ∧ z.length = 1) : Small (Txt.join Str.empty ys) ∧ (Txt.join Str.empty ys).length ≤ ys.length := by
  have e : Txt.join Str.empty ys = Str.join Str.empty ys := StrLaws.glued_eq_join _ _
  rw [e]
  constructor
  · intro c hc
    rcases (PyProof.Rows.mem_join Str.empty c ys).mp hc with ⟨t, ht, hct⟩ | ⟨_, hn⟩
    · exact (h t ht).1 c hct
    · cases hn
  · have h1 := StrLaws.join_length_le Str.empty ys
    have h2 := sum_ones ys fun z hz => (h z hz).2
    have : Str.empty.length = 0 := rfl
    rw [this] at h1
    omega
def nmOf (tn : Int) (c : Nat) (st : Str) : Str := if tn = 0 then ⟨#[c]⟩ ++ st else if tn = 1 then st ++ ⟨#[c]⟩ else ⟨#[c]⟩
def keyOf (tn : Int) (z : Str) : Nat := if tn = 1 then z.cps.toList.getLastD 0 else z.cps.toList.headD 0
theorem key_nm (tn : Int) (c : Nat) (st : Str) : keyOf tn (nmOf tn c st) = c := by
  unfold keyOf nmOf
  by_cases h0 : tn = 0
  · rw [if_pos h0, if_neg (by omega), Str.cps_append, Array.toList_append]
    rfl
  · rw [if_neg h0]
    by_cases h1 : tn = 1
    · rw [if_pos h1, if_pos h1, cps_more, List.getLastD_concat]
    · rw [if_neg h1, if_neg h1]
      rfl
theorem nm_ok {tn : Int} {c : Nat} {st : Str} (hs : Small st) (hl : st.length ≤ 7) (h0 : 97 ≤ c) (h1 : c ≤ 122) : NameOk (nmOf tn c st) := by
  have one : (⟨#[c]⟩ : Str).length = 1 := rfl
  have sm : Small (⟨#[c]⟩ : Str) := fun d hd => by
    have : d = c := by simpa using hd
    omega
  have cat : ∀ {a b : Str}, Small a → Small b → Small (a ++ b) := fun ha hb d hd => by
    rw [Str.cps_append, Array.toList_append] at hd
    rcases List.mem_append.mp hd with hd | hd
    · exact ha d hd
    · exact hb d hd
  unfold nmOf
  split
  · exact ⟨by rw [Str.length_append]; omega, by rw [Str.length_append]; omega, cat sm hs⟩
  · split
    · exact ⟨by rw [Str.length_append]; omega, by rw [Str.length_append]; omega, cat hs sm⟩
    · exact ⟨by omega, by omega, sm⟩
theorem nm_at (st : Str) (c : Nat) {tn : Int} (t0 : 0 ≤ tn) (t1 : tn < 3) : atI [V.str (⟨#[c]⟩ ++ st), V.str (st ++ ⟨#[c]⟩), V.str ⟨#[c]⟩] tn = some (.str (nmOf tn c st)) := by
  rcases (show tn = 0 ∨ tn = 1 ∨ tn = 2 by omega) with rfl | rfl | rfl
  · exact atI_nat (j := 0) rfl
  · exact atI_nat (j := 1) rfl
  · exact atI_nat (j := 2) rfl
theorem steps5_nodup (a : Int) {n : Nat} (hn : n ≤ 6) : ((List.range n).map fun j : Nat => 97 + ((a + 5 * (j : Int)) % 26).toNat).Nodup := by
  refine List.pairwise_map.mpr (List.Pairwise.imp_of_mem (fun {i j} hi hj h => ?_) (List.pairwise_lt_range (n := n)))
  have h1 := List.mem_range.mp hi
  have h2 := List.mem_range.mp hj
  intro e
  omega
section
variable {P : Program} {w : World} {K : PySem.W.Frag} {mg : Str → Option Value} {base : Heap}
/-! ### drawn names -/
def sp_law_names : Sp := fun vs H Q _ => ∃ (p : Addr) (n : Int) (x : List V) (k : Nat), vs = [.ref p, .int n] ∧ H p = some (.lst x) ∧ WellL x k ∧ k ≤ 900000 ∧ 0 ≤ n ∧ n ≤ 6 ∧
  ∀ (t : Addr) (zs : List Str) (y : List V) (H' : Hp), zs.length = n.toNat → zs.Nodup → (∀ z ∈ zs, NameOk z) → But p H H' → H t = none → H' t = some (.tup (zs.map V.str)) → H' p = some (.lst y) → WellL y (k + 20) → Q (.ref t) H'
theorem ok_law_names (T : Txt K mg) : FnOk P w K mg base CX0 3 T.f_law_names T.fd_law_names ["_law_well_here", "_law_size"] sp_law_names := by
  refine T.F_law_names.ok sc_law_names (fun vs H Q E h => ?_) (fun cdv A outer s H vs Q E hr h => ?_)
  · obtain ⟨p, n, x, k, rfl, _⟩ := h
    rfl
  · obtain ⟨p, n, x, k, rfl, hp, hx, hk, n0, n6, q⟩ := h
    refine ⟨_, (pss_cons
 (ps_set (i := 2) sc_law_names.nd rfl (Or.inr rfl) pe_str)
 (pss_cons
 (ps_set (i := 3) sc_law_names.nd rfl (Or.inl rfl) (pe_call (ok_law_draw T) (hr.mono (by decide)) (by rfl) T.g_law_draw T.F_law_draw.kp T.b_law_draw .nil pass0 (pa_cons (pv 0) (pa_cons pe_int pa_nil))))
 (pss_cons
 (ps_set (i := 4) sc_law_names.nd rfl (Or.inl rfl) (pe_join pe_str (pe_lc (own := [("_law_k", 7)]) (g := gName 7) (tt := tYes) rfl sc_law_names.nd (pi_range1 rfl T.z_range (pa_cons (pe_call (ok_law_draw T) (hr.mono (by decide)) (by rfl) T.g_law_draw T.F_law_draw.kp T.b_law_draw .nil pass0 (pa_cons (pv 0) (pa_cons pe_int pa_nil))) pa_nil)) (blkOk_by (own := [("_law_k", 7)]) (N := ["_law_well_here", "_law_size", "_law_letters", "_law_first", "_law_stem", "_law_turn", "_law_found", "_law_k", "_law_sign"]) (sc := (defScope s_law_names)) (by decide +kernel)) (fun _ _ _ _ _ => pg_name (i := 7) sc_law_names.nd rfl (Or.inl rfl)) (fun _ _ _ _ _ => pts_nil) (fun _ _ _ _ _ => (pe_call (ok_law_one T) (hr.mono (by decide)) (by rfl) T.g_law_one T.F_law_one.kp T.b_law_one .nil pass0 (pa_cons (pv 0) (pa_cons (pv 2) pa_nil)))))))
 (pss_cons
 (ps_set (i := 5) sc_law_names.nd rfl (Or.inl rfl) (pe_call (ok_law_draw T) (hr.mono (by decide)) (by rfl) T.g_law_draw T.F_law_draw.kp T.b_law_draw .nil pass0 (pa_cons (pv 0) (pa_cons pe_int pa_nil))))
 (pss_cons
 (ps_set (i := 6) sc_law_names.nd rfl (Or.inl rfl) (pe_lst pa_nil))
 (pss_cons
 (ps_for PassesOwn.never rfl (pi_range1 rfl T.z_range (pa_cons (pv 1) pa_nil)) (pg_name (i := 7) sc_law_names.nd rfl (Or.inl rfl))
 (pss_cons
 (ps_set (i := 8) sc_law_names.nd rfl (Or.inl rfl) (pe_ix ix_str (pv 2) (pe_op op_mod (pe_op op_add (pv 3) (pe_op op_mulW pe_int (pv 7))) pe_int) (fun _ _ => rfl)))
 (pss_one
 (ps_expr (pe_bm PySem.F.plainAttrs_list PySem.F.slot_list_append PySem.F.type_list_append mt_append (pv 6) (pa_cons (pe_ix ix_list (pe_lst (pa_cons (pe_op op_add_str (pv 8) (pv 4)) (pa_cons (pe_op op_add_str (pv 4) (pv 8)) (pa_cons (pv 8) pa_nil)))) (pv 5) (fun _ _ => rfl)) pa_nil))))))
 (pss_one
 (ps_ret (pe_callTy call_tuple_of (by rfl) T.z_tuple (by decide +kernel) (pa_cons (pv 6) pa_nil)))))))))), ?_⟩
    have lenL : abc.length ≤ sizeLine := line_of (by rw [abc_len]; decide)
    refine ⟨.ref p, rfl, p, 26, x, k, rfl, hp, hx, by omega, by decide, size_ok (by decide) (by decide), fun a x1 a0 a1 w1 => ?_⟩
    refine ⟨⟨_, rfl⟩, .ref p, rfl, p, 8, x1, _, rfl, upd_same, w1, by omega, by decide, size_ok (by decide) (by decide), fun m x2 m0 m1 w2 => ?_⟩
    rw [upd_upd]
    refine ⟨m, rfl, by omega, by omega, fun D nD => ?_⟩
    have hpm : (upd H p (.lst x2)) p = some (.lst x2) := upd_same
    have pD := ne_of_none hpm nD
    have nDH : H D = none := by rw [upd_ne pD.symm] at nD; exact nD
    refine lc_range (fun i H' => ∃ (ys : List Str) (y : List V), H' D = some (.lst (ys.map V.str)) ∧ ys.length = i ∧ (∀ z ∈ ys, Small z ∧ z.length = 1) ∧ But p H H' ∧ H' p = some (.lst y) ∧ WellL y (k + 2 + i))
      ⟨[], x2, upd_same, rfl, fun _ h => (by cases h), ((But.refl p H).upd _).mut nDH, by rw [upd_ne pD]; exact hpm, w2⟩ ?_ ?_
    · rintro i H1 hi ⟨ys, y, hD, ly, hys, hb, hp1, hw⟩
      refine ⟨rfl, .ref p, rfl, .str abc, rfl, p, .str abc, y, _, rfl, hp1, hw, by omega, .inl ⟨abc, rfl, by rw [abc_len]; decide, by rw [abc_len]; decide, fun c y2 hc hw2 => ?_⟩⟩
      refine ⟨ys.map V.str, by rw [upd_ne pD.symm]; exact hD, small1000 (by rw [List.length_map]; omega), ys ++ [⟨#[c]⟩], y2, ?_, by rw [List.length_append, ly]; rfl, ?_, (hb.upd _).mut nDH, by rw [upd_ne pD, upd_same], hw2.mono (by omega)⟩
      · rw [upd_same, List.map_append]
        rfl
      · intro z hz
        rcases List.mem_append.mp hz with hz | hz
        · exact hys z hz
        · rw [List.mem_singleton.mp hz]
          exact ⟨fun d hd => by
            have : d = c := by simpa using hd
            rw [this]
            exact abc_small c hc, rfl⟩
    · rintro H1 ⟨ys, y, hD, ly, hys, hb, hp1, hw⟩
      obtain ⟨st1, st2⟩ := stem_ok ys hys
      refine ⟨Str.empty, D, ys, rfl, rfl, .inl (.of hD), ?_, ?_⟩
      · have e : (ys.map (·.length)).sum ≤ ys.length := sum_ones ys fun z hz => (hys z hz).2
        have : Str.empty.length = 0 := rfl
        rw [this]
        omega
      rw [ly] at st2
      have st3 : (Txt.join Str.empty ys).length ≤ 7 := by omega
      show _
      generalize Txt.join Str.empty ys = st at st1 st3
      refine ⟨.ref p, rfl, p, 3, y, _, rfl, hp1, hw, by omega, by decide, size_ok (by decide) (by decide), fun tn y3 t0 t1 w3 => ?_⟩
      refine ⟨line_of (show 0 ≤ 1000 by decide), fun l nl => ?_⟩
      have hpm3 : (upd H1 p (.lst y3)) p = some (.lst y3) := upd_same
      have pl := ne_of_none hpm3 nl
      have nlH : H l = none := (hb.upd (.lst y3)).free hpm3 nl
      refine ⟨.int n, rfl, n, rfl, by omega, by omega, for_range (fun i σ H' => ∃ (x7 x8 : Option V) (zs : List Str), σ = [some (.ref p), some (.int n), some (.str abc), some (.int a), some (.str st), some (.int tn), some (.ref l), x7, x8] ∧ H' l = some (.lst (zs.map V.str)) ∧
          zs.map (keyOf tn) = ((List.range i).map fun j : Nat => 97 + ((a + 5 * (j : Int)) % 26).toNat) ∧ (∀ z ∈ zs, NameOk z) ∧ But p H H' ∧ H' p = some (.lst y3))
        ⟨_, none, [], rfl, upd_same, rfl, fun _ h => (by cases h), (hb.upd _).mut nlH, by rw [upd_ne pl]; exact hpm3⟩ ?_ ?_⟩
      · rintro i σ H2 hi ⟨x7, x8, zs, rfl, hl, hm, hz, hb2, hp2⟩
        have lz : zs.length = i := by
          have := congrArg List.length hm
          rw [List.length_map, List.length_map, List.length_range] at this
          exact this
        have m0 : 0 ≤ (a + 5 * (0 + (i : Int))) % 26 ∧ (a + 5 * (0 + (i : Int))) % 26 < 26 := mix_mod _ _ (by decide)
        refine ⟨.str abc, rfl, .int a, rfl, .int (0 + (i : Int)), rfl, _, _, rfl, rfl, mulOk (n := 3) (m := 3) (by decide) (by omega) (by decide), _, _, rfl, rfl, _, _, rfl, rfl, (by show (0 : Int) < 26; decide), ?_⟩
        refine ⟨abc, _, _, rfl, rfl, lenL, abc_at m0.1 m0.2, ?_⟩
        have hc : 97 ≤ 97 + ((a + 5 * (0 + (i : Int))) % 26).toNat ∧ 97 + ((a + 5 * (0 + (i : Int))) % 26).toNat ≤ 122 := by omega
        have ec : 97 + ((a + 5 * (0 + (i : Int))) % 26).toNat = 97 + ((a + 5 * (i : Int)) % 26).toNat := by rw [Int.zero_add]
        generalize 97 + ((a + 5 * (0 + (i : Int))) % 26).toNat = c at hc ec
        have l1 : (⟨#[c]⟩ : Str).length = 1 := rfl
        refine ⟨.ref l, rfl, .inl ⟨rfl, _, .of hl⟩, .str ⟨#[c]⟩, rfl, .str st, rfl, _, _, rfl, rfl, line_of (by omega), .str st, rfl, .str ⟨#[c]⟩, rfl, _, _, rfl, rfl, line_of (by omega), .str ⟨#[c]⟩, rfl, line_of (show 3 ≤ 1000 by decide), fun l3 n3 => ?_⟩
        have ll3 := ne_of_none hl n3
        refine ⟨.int tn, rfl, l3, _, tn, _, rfl, rfl, .of upd_same, nm_at st c t0 t1, ?_⟩
        refine ⟨l, _, _, rfl, rfl, by rw [upd_ne ll3]; exact hl, small1000 (by rw [List.length_map]; omega), _, _, zs ++ [nmOf tn c st], rfl, ?_, ?_, ?_, (hb2.mut (hb2.free hp2 n3)).mut nlH, by rw [upd_ne pl, upd_ne (ne_of_none hp2 n3)]; exact hp2⟩
        · rw [upd_same, List.map_append]
          rfl
        · rw [List.map_append, hm, List.range_succ, List.map_append]
          refine congrArg _ ?_
          show [keyOf tn (nmOf tn c st)] = [_]
          rw [key_nm, ec]
        · intro z hz'
          rcases List.mem_append.mp hz' with h | h
          · exact hz z h
          · rw [List.mem_singleton.mp h]
            exact nm_ok st1 st3 hc.1 hc.2
      · rintro σ H2 ⟨x7, x8, zs, rfl, hl, hm, hz, hb2, hp2⟩
        refine ⟨.ref l, rfl, l, _, rfl, .inl ⟨.of hl, fun t nt => ?_⟩⟩
        have lz : zs.length = n.toNat := by
          have := congrArg List.length hm
          rw [List.length_map, List.length_map, List.length_range] at this
          exact this
        refine q t zs y3 _ lz ?_ hz (hb2.mut (hb2.free hp2 nt)) (hb2.free hp2 nt) upd_same (by rw [upd_ne (ne_of_none hp2 nt)]; exact hp2) (w3.mono (by omega))
        have nd := steps5_nodup a (n := n.toNat) (by omega)
        rw [← hm] at nd
        exact (List.pairwise_map.mp nd).imp fun h e => h (congrArg (keyOf tn) e)
end
theorem slA_of {K : PySem.W.Frag} {H : Hp} {a : Addr} {ws : List Str} {lo hi : Option Int} {Q : VK} (h : H a = some (.tup (ws.map V.str))) (c : ∀ (s : Addr) (ms : List Str) (H' : Hp), H' s = some (.tup (ms.map V.str)) → ms.Sublist ws → Same H H' → Q (.ref s) H') : rSlA K (.ref a) lo hi H Q := by
  refine ⟨a, _, rfl, .of h, fun _ => c a ws H h (List.Sublist.refl _) (Same.refl _), fun _ s ns => ?_⟩
  obtain ⟨ms, em, sub⟩ := cut_strs ws lo hi
  rw [em]
  exact c s ms _ upd_same sub (same_upd ns)
theorem Tiers.keep {H H' : Hp} {bs : List (Addr × List Str)} (k : TK H H') (h : Tiers H bs) : Tiers H' bs := fun b hb => ⟨k _ _ (h b hb).1, (h b hb).2⟩
theorem TK.same {H H' : Hp} (s : Same H H') : TK H H' := fun a xs h => s a _ h
theorem strs_at {ms : List Str} {i : Nat} {v : V} (h : (ms.map V.str)[i]? = some v) : ∃ wd, ms[i]? = some wd ∧ v = V.str wd := by
  rw [List.getElem?_map] at h
  cases e : ms[i]? with
  | none => rw [e] at h; cases h
  | some b => rw [e] at h; exact ⟨b, rfl, (Option.some.inj h).symm⟩
theorem tiers_len {fb : List (Addr × List Str)} {ms : List Str} {i : Nat} (hne : ∀ b ∈ fb, b.2 ≠ []) (hf : (fb.map (·.2)).flatten = ms.take i) : fb.length ≤ i := by
  have h1 : ∀ l : List (Addr × List Str), (∀ b ∈ l, b.2 ≠ []) → l.length ≤ (l.map (·.2)).flatten.length := fun l => by
    induction l with
    | nil => intro _; exact Nat.le_refl _
    | cons b r ih =>
      intro hne
      have := ih fun c hc => hne c (List.mem_cons_of_mem _ hc)
      have := List.length_pos_iff.mpr (hne b List.mem_cons_self)
      rw [List.map_cons, List.flatten_cons, List.length_append, List.length_cons]
      omega
  have := h1 fb hne
  rw [hf, List.length_take] at this
  omega
section
variable {P : Program} {w : World} {K : PySem.W.Frag} {mg : Str → Option Value} {base : Heap}
/-! ### a ballot drawn -/
def sp_law_ballot : Sp := fun vs H Q _ => ∃ (p t : Addr) (zs : List Str) (x : List V) (k : Nat), vs = [.ref p, .ref t] ∧ H p = some (.lst x) ∧ H t = some (.tup (zs.map V.str)) ∧ 0 < zs.length ∧ zs.length ≤ 6 ∧ zs.Nodup ∧ (∀ z ∈ zs, NameOk z) ∧ WellL x k ∧ k ≤ 700000 ∧
  ∀ (u : Addr) (b : Bal) (y : List V) (H' : Hp), BalAt H' u b → b.Ok zs → But p H H' → H u = none → H' p = some (.lst y) → WellL y (k + 40) → Q (.ref u) H'
theorem ok_law_ballot (T : Txt K mg) : FnOk P w K mg base CX0 3 T.f_law_ballot T.fd_law_ballot ["_law_well_here", "_law_names_here"] (sp_law_ballot) := by
  refine T.F_law_ballot.ok sc_law_ballot (fun vs H Q E h => ?_) (fun cdv A outer s H vs Q E hr h => ?_)
  · obtain ⟨p, t, zs, x, k, rfl, _⟩ := h
    rfl
  · obtain ⟨p, t, zs, x, k, rfl, hp, ht, hn0, hn, nd, ok, hx, hk, q⟩ := h
    refine ⟨_, (pss_cons
 (ps_set (i := 2) sc_law_ballot.nd rfl (Or.inl rfl) (pe_call (ok_law_draw T) (hr.mono (by decide)) (by rfl) T.g_law_draw T.F_law_draw.kp T.b_law_draw .nil pass0 (pa_cons (pv 0) (pa_cons pe_int pa_nil))))
 (pss_cons
 (ps_set (i := 3) sc_law_ballot.nd rfl (Or.inl rfl) (pe_call (ok_law_shuffled T) (hr.mono (by decide)) (by rfl) T.g_law_shuffled T.F_law_shuffled.kp T.b_law_shuffled .nil pass0 (pa_cons (pv 0) (pa_cons (pv 1) pa_nil))))
 (pss_cons
 (ps_if (pt_cmpR op_eq (pv 2) pe_int (nomark _))
 (pss_one
 (ps_ret (pe_tup (pa_cons pe_str (pa_cons (pe_slice sl_tupA (pv 3) po_none (po_some (pe_call (ok_law_draw T) (hr.mono (by decide)) (by rfl) T.g_law_draw T.F_law_draw.kp T.b_law_draw .nil pass0 (pa_cons (pv 0) (pa_cons (pe_op op_add (pe_callB call_len_seq (by rfl) T.z_len (by decide +kernel) (pa_cons (pv 1) pa_nil)) pe_int) pa_nil))))) pa_nil)))))
 pss_nil)
 (pss_cons
 (ps_if (pt_cmpR op_eq (pv 2) pe_int (nomark _))
 (pss_one
 (ps_ret (pe_tup (pa_cons pe_str (pa_cons (pe_callTy call_tuple_of (by rfl) T.z_tuple (by decide +kernel) (pa_cons (pe_lc (own := [("_law_one_here", 5)]) (g := gName 5) (tt := tYes) rfl sc_law_ballot.nd (pi_tup (pe_slice sl_tupA (pv 3) (po_some pe_int) po_none)) (blkOk_by (own := [("_law_one_here", 5)]) (N := ["_law_well_here", "_law_names_here", "_law_kind", "_law_some", "_law_steps", "_law_one_here"]) (sc := (defScope s_law_ballot)) (by decide +kernel)) (fun _ _ _ _ _ => pg_name (i := 5) sc_law_ballot.nd rfl (Or.inl rfl)) (fun _ _ _ _ _ => pts_nil) (fun _ _ _ _ _ => (pe_tup (pa_cons (pv 5) (pa_cons (pe_call (ok_law_one T) (hr.mono (by decide)) (by rfl) T.g_law_one T.F_law_one.kp T.b_law_one .nil pass0 (pa_cons (pv 0) (pa_cons (pe_lst (pa_cons pe_int (pa_cons pe_int (pa_cons pe_int (pa_cons (pe_call (ok_law_draw T) (hr.mono (by decide)) (by rfl) T.g_law_draw T.F_law_draw.kp T.b_law_draw .nil pass0 (pa_cons (pv 0) (pa_cons pe_int pa_nil))) pa_nil))))) pa_nil))) pa_nil))))) pa_nil)) pa_nil)))))
 pss_nil)
 (pss_cons
 (ps_if (pt_cmpR op_gt (pv 2) pe_int (nomark _))
 (pss_one
 (ps_ret (pe_tup (pa_cons pe_str (pa_cons (pe_callTy call_tuple_of (by rfl) T.z_tuple (by decide +kernel) (pa_cons (pe_lc (own := [("_law_one_here", 5)]) (g := gName 5) (tt := tYes) rfl sc_law_ballot.nd (pi_tup (pv 3)) (blkOk_by (own := [("_law_one_here", 5)]) (N := ["_law_well_here", "_law_names_here", "_law_kind", "_law_some", "_law_steps", "_law_one_here"]) (sc := (defScope s_law_ballot)) (by decide +kernel)) (fun _ _ _ _ _ => pg_name (i := 5) sc_law_ballot.nd rfl (Or.inl rfl)) (fun _ _ _ _ _ => pts_nil) (fun _ _ _ _ _ => (pe_tup (pa_cons (pv 5) pa_nil)))) pa_nil)) pa_nil)))))
 pss_nil)
 (pss_cons
 (ps_set (i := 4) sc_law_ballot.nd rfl (Or.inl rfl) (pe_lst pa_nil))
 (pss_cons
 (ps_for PassesOwn.never rfl (pi_tup (pe_slice sl_tupA (pv 3) po_none (po_some (pe_op op_add pe_int (pe_call (ok_law_draw T) (hr.mono (by decide)) (by rfl) T.g_law_draw T.F_law_draw.kp T.b_law_draw .nil pass0 (pa_cons (pv 0) (pa_cons (pe_callB call_len_seq (by rfl) T.z_len (by decide +kernel) (pa_cons (pv 1) pa_nil)) pa_nil))))))) (pg_name (i := 5) sc_law_ballot.nd rfl (Or.inl rfl))
 (pss_one
 (ps_if (PW.pt (pw_and (pt_cmpR (op_neD hr.units) (pv 4) (pe_lst pa_nil) (nomark _)) (pw_and1 (pt_cmpR op_eq (pe_call (ok_law_draw T) (hr.mono (by decide)) (by rfl) T.g_law_draw T.F_law_draw.kp T.b_law_draw .nil pass0 (pa_cons (pv 0) (pa_cons pe_int pa_nil))) pe_int (nomark _)))))
 (pss_one
 (ps_asg (pe_op op_catT (pe_ix ix_list (pv 4) (pe_un un_neg pe_int) (fun _ _ => rfl)) (pe_tup (pa_cons (pv 5) pa_nil))) (pg_sub (pv 4) (pe_un un_neg pe_int) set_list)))
 (pss_one
 (ps_expr (pe_bm PySem.F.plainAttrs_list PySem.F.slot_list_append PySem.F.type_list_append mt_append (pv 4) (pa_cons (pe_tup (pa_cons (pv 5) pa_nil)) pa_nil)))))))
 (pss_one
 (ps_ret (pe_tup (pa_cons pe_str (pa_cons (pe_callTy call_tuple_of (by rfl) T.z_tuple (by decide +kernel) (pa_cons (pv 4) pa_nil)) pa_nil)))))))))))), ?_⟩
    have htp : t ≠ p := fun e => by rw [e, hp] at ht; cases ht
    refine ⟨.ref p, rfl, p, 8, x, k, rfl, hp, hx, by omega, by decide, size_ok (by decide) (by decide), fun kd x1 k0 k1 w1 => ?_⟩
    refine ⟨.ref p, rfl, .ref t, rfl, p, t, zs, x1, _, rfl, upd_same, by rw [upd_ne htp]; exact ht, hn, ok, w1, by omega, fun u ws y1 H1 pw b1 nu hu hp1 w2 => ?_⟩
    have ht1 : H1 t = some (.tup (zs.map V.str)) := b1 t _ htp (by rw [upd_ne htp]; exact ht)
    have bH1 : But p H H1 := ((But.refl p H).upd _).trans b1
    have wnd : ws.Nodup := (pw.nodup_iff).mpr nd
    have wsub : ∀ z ∈ ws, z ∈ zs := fun z hz => pw.mem_iff.mp hz
    have wl := pw.length_eq
    refine ⟨.int kd, rfl, rfl, _, rfl, ?_⟩
    cases decide (V.int kd = V.int 0) with
    | true =>
      refine iteT ⟨.ref u, rfl, .ref p, rfl, .ref t, rfl, t, _, rfl, .inr (.of ht1), _, _, rfl, rfl, p, _, y1, _, rfl, hp1, w2, by omega, by rw [List.length_map]; omega, size_ok (by rw [List.length_map]; omega) (by rw [List.length_map]; omega), fun e y2 e0 e1 w3 => ⟨e, rfl, ?_⟩⟩
      have kp : TK H1 (upd H1 p (.lst y2)) := TK.lst hp1
      refine slA_of (kp _ _ hu) fun s ms H2 hs sub sm => ⟨line_of (show 2 ≤ 1000 by decide), fun v nv => ?_⟩
      have b2 := (bH1.upd (.lst y2)).same sm
      have hp2 : H2 p = some (.lst y2) := sm _ _ upd_same
      exact q v (.lets ms) y2 _ ⟨s, upd_same, by rw [upd_ne (ne_of_none hs nv)]; exact hs⟩ ⟨wnd.sublist sub, fun z hz => wsub z (sub.subset hz)⟩ (b2.mut (b2.free hp2 nv)) (b2.free hp2 nv) (by rw [upd_ne (ne_of_none hp2 nv)]; exact hp2) (w3.mono (by omega))
    | false =>
      refine iteF ⟨.int kd, rfl, rfl, _, rfl, ?_⟩
      cases decide (V.int kd = V.int 1) with
      | true =>
        refine iteT ⟨.ref u, rfl, 1, rfl, ?_⟩
        dsimp only [tNoPart]
        refine slA_of hu fun s ms H2 hs sub sm => ?_
        refine ⟨s, rfl, ⟨_, .of hs⟩, fun D nD => ?_⟩
        have b2 := bH1.same sm
        have hp2 := sm _ _ hp1
        have pD := ne_of_none hp2 nD
        have nDH := b2.free hp2 nD
        have lms : ms.length ≤ 6 := by have := sub.length_le; omega
        refine lc_tup (K := K) (a := s) (xs := ms.map V.str) (fun i H' => ∃ (bs : List (Addr × (Str × Int))) (y : List V), H' D = some (.lst (bs.map fun b => V.ref b.1)) ∧ (∀ b ∈ bs, H' b.1 = some (.tup [.str b.2.1, .int b.2.2])) ∧
            bs.map (·.2.1) = ms.take i ∧ (∀ b ∈ bs, 0 ≤ b.2.2 ∧ b.2.2 ≤ 9) ∧ But p H H' ∧ H' p = some (.lst y) ∧ WellL y (k + 10 + 2 * i) ∧ H' s = some (.tup (ms.map V.str)))
          ⟨[], y1, upd_same, fun _ h => (by cases h), rfl, fun _ h => (by cases h), b2.mut nDH, by rw [upd_ne pD]; exact hp2, w2.mono (by omega), TK.new nD _ _ hs⟩ (fun _ _ _ h => by obtain ⟨_, _, _, _, _, _, _, _, _, z⟩ := h; exact .of z) ?_ ?_
        · rintro i v9 H3 hi ⟨bs, y, hD, hbs, hm, hr9, hb, hp3, hw, hs3⟩
          obtain ⟨wd, hwd, rfl⟩ := strs_at hi
          have il : i < ms.length := (List.getElem?_eq_some_iff.mp hwd).1
          have lbs : bs.length ≤ i := by
            have := congrArg List.length hm
            rw [List.length_map, List.length_take] at this
            omega
          refine ⟨rfl, .str wd, rfl, .ref p, rfl, .ref p, rfl, p, 10, y, _, rfl, hp3, hw, by omega, by decide, size_ok (by decide) (by decide), fun d y4 d0 d1 hw4 => ⟨line_of (show 4 ≤ 1000 by decide), fun l4 n4 => ?_⟩⟩
          have k4 : TK H3 (upd (upd H3 p (.lst y4)) l4 (.lst [V.int 0, V.int 9, V.int 5, V.int d])) := (TK.lst hp3).trans (TK.new n4)
          have hp4' : (upd H3 p (.lst y4)) p = some (.lst y4) := upd_same
          have pl4 := ne_of_none hp4' n4
          have hD4' : (upd H3 p (.lst y4)) D = some (.lst (bs.map fun b => V.ref b.1)) := by rw [upd_ne pD.symm]; exact hD
          have hb4 := (hb.upd (.lst y4)).mut (o := HO.lst [V.int 0, V.int 9, V.int 5, V.int d]) ((hb.upd (.lst y4)).free hp4' n4)
          have hp4 : (upd (upd H3 p (.lst y4)) l4 (.lst [V.int 0, V.int 9, V.int 5, V.int d])) p = some (.lst y4) := by rw [upd_ne pl4]; exact hp4'
          have hD4 : (upd (upd H3 p (.lst y4)) l4 (.lst [V.int 0, V.int 9, V.int 5, V.int d])) D = some (.lst (bs.map fun b => V.ref b.1)) := by rw [upd_ne (ne_of_none hD4' n4)]; exact hD4'
          have hl4 : (upd (upd H3 p (.lst y4)) l4 (.lst [V.int 0, V.int 9, V.int 5, V.int d])) l4 = some (.lst [V.int 0, V.int 9, V.int 5, V.int d]) := upd_same
          generalize upd (upd H3 p (.lst y4)) l4 (.lst [V.int 0, V.int 9, V.int 5, V.int d]) = H4 at k4 hb4 hp4 hD4 hl4
          refine ⟨p, .ref l4, y4, _, rfl, hp4, hw4, by omega, .inr (.inl ⟨l4, _, rfl, hl4, pl4.symm, (show 0 < 4 by decide), (show 4 ≤ 1000 by decide), fun v y5 hv hw5 => ?_⟩)⟩
          obtain ⟨mk, rfl, mk0, mk9⟩ : ∃ mk : Int, v = V.int mk ∧ 0 ≤ mk ∧ mk ≤ 9 := by
            have : v = V.int 0 ∨ v = V.int 9 ∨ v = V.int 5 ∨ v = V.int d := by simpa using hv
            rcases this with rfl | rfl | rfl | rfl
            · exact ⟨_, rfl, by decide, by decide⟩
            · exact ⟨_, rfl, by decide, by decide⟩
            · exact ⟨_, rfl, by decide, by decide⟩
            · exact ⟨_, rfl, d0, by omega⟩
          refine ⟨line_of (show 2 ≤ 1000 by decide), fun b nb => ?_⟩
          have k5 : TK H3 (upd (upd H4 p (.lst y5)) b (.tup [V.str wd, V.int mk])) := (k4.trans (TK.lst hp4)).trans (TK.new nb)
          have hD5' : (upd H4 p (.lst y5)) D = some (.lst (bs.map fun b => V.ref b.1)) := by rw [upd_ne pD.symm]; exact hD4
          have hp5' : (upd H4 p (.lst y5)) p = some (.lst y5) := upd_same
          have hD5 : (upd (upd H4 p (.lst y5)) b (.tup [V.str wd, V.int mk])) D = some (.lst (bs.map fun b => V.ref b.1)) := by rw [upd_ne (ne_of_none hD5' nb)]; exact hD5'
          have hb5 := (hb4.upd (.lst y5)).mut (o := HO.tup [V.str wd, V.int mk]) ((hb4.upd (.lst y5)).free hp5' nb)
          have hp5 : (upd (upd H4 p (.lst y5)) b (.tup [V.str wd, V.int mk])) p = some (.lst y5) := by rw [upd_ne (ne_of_none hp5' nb)]; exact hp5'
          have hq5 : (upd (upd H4 p (.lst y5)) b (.tup [V.str wd, V.int mk])) b = some (.tup [V.str wd, V.int mk]) := upd_same
          generalize upd (upd H4 p (.lst y5)) b (.tup [V.str wd, V.int mk]) = H5 at k5 hD5 hb5 hp5 hq5
          have kD := TK.lst (o := HO.lst ((bs.map fun b => V.ref b.1) ++ [V.ref b])) hD5
          refine ⟨bs.map fun b => V.ref b.1, hD5, small1000 (by rw [List.length_map]; omega), bs ++ [(b, (wd, mk))], y5, ?_, ?_, ?_, ?_, hb5.mut nDH, by rw [upd_ne pD]; exact hp5, hw5.mono (by omega), (k5.trans kD) _ _ hs3⟩
          · rw [upd_same, List.map_append]
            rfl
          · intro c hc
            rcases List.mem_append.mp hc with hc | hc
            · exact (k5.trans kD) _ _ (hbs c hc)
            · rw [List.mem_singleton.mp hc]
              exact kD _ _ hq5
          · rw [List.map_append, hm, take_more hwd]
            rfl
          · intro c hc
            rcases List.mem_append.mp hc with hc | hc
            · exact hr9 c hc
            · rw [List.mem_singleton.mp hc]
              exact ⟨mk0, mk9⟩
        · rintro H3 ⟨bs, y, hD, hbs, hm, hr9, hb, hp3, hw, hs3⟩
          rw [List.length_map, List.take_length] at hm
          refine ⟨D, _, rfl, .inl ⟨.of hD, fun u2 nu2 => ⟨line_of (show 2 ≤ 1000 by decide), fun v nv => ?_⟩⟩⟩
          have bu := hb.mut (o := HO.tup (bs.map fun b => V.ref b.1)) (hb.free hp3 nu2)
          have hpu := (upd_ne (o := HO.tup (bs.map fun b => V.ref b.1)) (ne_of_none hp3 nu2)).trans hp3
          have kk := (TK.new (o := HO.tup (bs.map fun b => V.ref b.1)) nu2).trans (TK.new (o := HO.tup [V.str "marks", V.ref u2]) nv)
          have hm2 : (bs.map (·.2)).map (·.1) = ms := by rw [List.map_map]; exact hm
          refine q v (.marks (bs.map (·.2))) y _ ⟨u2, bs, upd_same, TK.new nv _ _ upd_same, fun c hc => kk _ _ (hbs c hc), rfl⟩ ⟨by rw [hm2]; exact wnd.sublist sub, ?_, ?_⟩ (bu.mut (bu.free hpu nv)) (bu.free hpu nv) (by rw [upd_ne (ne_of_none hpu nv)]; exact hpu) (hw.mono (by rw [List.length_map]; omega))
          · intro m hm'
            exact wsub _ (sub.subset (by rw [← hm2]; exact List.mem_map.mpr ⟨m, hm', rfl⟩))
          · intro m hm'
            obtain ⟨c, hc, rfl⟩ := List.mem_map.mp hm'
            exact hr9 c hc
      | false =>
        refine iteF ⟨.int kd, rfl, _, _, rfl, rfl, _, rfl, ?_⟩
        have close : ∀ (bs : List (Addr × List Str)) (y : List V) (H3 : Hp) (l0 : Addr), H3 l0 = some (.lst (bs.map fun b => V.ref b.1)) → Tiers H3 bs → (bs.map (·.2)).flatten.Sublist ws → But p H H3 → H3 p = some (.lst y) → WellL y (k + 30) →
            ∀ (u2 : Addr), H3 u2 = none → ∀ v : Addr, (upd H3 u2 (.tup (bs.map fun b => V.ref b.1))) v = none → Q (.ref v) (upd (upd H3 u2 (.tup (bs.map fun b => V.ref b.1))) v (.tup [V.str "order", V.ref u2])) := fun bs y H3 l0 hl0 htb hsb hb hp3 hw u2 nu2 v nv => by
          have bu := hb.mut (o := HO.tup (bs.map fun b => V.ref b.1)) (hb.free hp3 nu2)
          have hpu := (upd_ne (o := HO.tup (bs.map fun b => V.ref b.1)) (ne_of_none hp3 nu2)).trans hp3
          refine q v (.order (bs.map (·.2))) y _ ⟨u2, bs, upd_same, TK.new nv _ _ upd_same, htb.keep ((TK.new nu2).trans (TK.new nv)), rfl⟩ ⟨wnd.sublist hsb, fun z hz => wsub z (hsb.subset hz), ?_⟩ (bu.mut (bu.free hpu nv)) (bu.free hpu nv) (by rw [upd_ne (ne_of_none hpu nv)]; exact hpu) (hw.mono (by omega))
          intro tr htr
          obtain ⟨c, hc, rfl⟩ := List.mem_map.mp htr
          exact (htb c hc).2
        cases decide (3 < kd) with
        | true =>
          refine iteT ⟨.ref u, rfl, u, rfl, ⟨_, .of hu⟩, fun D nD => ?_⟩
          have pD := ne_of_none hp1 nD
          have nDH := bH1.free hp1 nD
          refine lc_tup (K := K) (a := u) (xs := ws.map V.str) (fun i H' => ∃ bs : List (Addr × List Str), H' D = some (.lst (bs.map fun b => V.ref b.1)) ∧ Tiers H' bs ∧ (bs.map (·.2)).flatten = ws.take i ∧ But p H H' ∧ H' p = some (.lst y1) ∧ H' u = some (.tup (ws.map V.str)))
            ⟨[], upd_same, fun _ h => (by cases h), rfl, bH1.mut nDH, by rw [upd_ne pD]; exact hp1, TK.new nD _ _ hu⟩ (fun _ _ _ h => by obtain ⟨_, _, _, _, _, _, z⟩ := h; exact .of z) ?_ ?_
          · rintro i v9 H3 hi ⟨bs, hD, htb, hflat, hb, hp3, hu3⟩
            obtain ⟨wd, hwd, rfl⟩ := strs_at hi
            have il : i < ws.length := (List.getElem?_eq_some_iff.mp hwd).1
            have lbs := tiers_len (fun b hb => (htb b hb).2) hflat
            refine ⟨rfl, .str wd, rfl, line_of (show 1 ≤ 1000 by decide), fun b nb => ?_⟩
            have kb := TK.new (o := HO.tup [V.str wd]) nb
            have hDb := (upd_ne (o := HO.tup [V.str wd]) (ne_of_none hD nb)).trans hD
            have kD := TK.lst (o := HO.lst ((bs.map fun b => V.ref b.1) ++ [V.ref b])) hDb
            refine ⟨bs.map fun b => V.ref b.1, hDb, small1000 (by rw [List.length_map]; omega), bs ++ [(b, [wd])], ?_, ?_, ?_, (hb.mut (hb.free hp3 nb)).mut nDH, by rw [upd_ne pD, upd_ne (ne_of_none hp3 nb)]; exact hp3, (kb.trans kD) _ _ hu3⟩
            · rw [upd_same, List.map_append]
              rfl
            · intro c hc
              rcases List.mem_append.mp hc with hc | hc
              · exact (htb.keep (kb.trans kD)) c hc
              · rw [List.mem_singleton.mp hc]
                exact ⟨kD _ _ upd_same, List.cons_ne_nil _ _⟩
            · rw [take_more hwd, ← hflat, List.map_append, List.flatten_append]
              rfl
          · rintro H3 ⟨bs, hD, htb, hflat, hb, hp3, hu3⟩
            rw [List.length_map, List.take_length] at hflat
            exact ⟨D, _, rfl, .inl ⟨.of hD, fun u2 nu2 => ⟨line_of (show 2 ≤ 1000 by decide), fun v nv => close bs y1 H3 D hD htb (by rw [hflat]; exact List.Sublist.refl _) hb hp3 (w2.mono (by omega)) u2 nu2 v nv⟩⟩⟩
        | false =>
          refine iteF ⟨line_of (show 0 ≤ 1000 by decide), fun l nl => ?_⟩
          have hpl := ne_of_none hp1 nl
          have nlH := bH1.free hp1 nl
          have kl0 := TK.new (o := HO.lst []) nl
          refine ⟨.ref u, rfl, .ref p, rfl, .ref t, rfl, t, _, rfl, .inr (.of (kl0 _ _ ht1)), p, _, y1, _, rfl, by rw [upd_ne hpl]; exact hp1, w2, by omega, by rw [List.length_map]; omega, size_ok (by rw [List.length_map]; omega) (by rw [List.length_map]; omega), fun e y2 e0 e1 w3 => ⟨_, _, rfl, rfl, _, rfl, ?_⟩⟩
          have hp1l : (upd H1 l (.lst [])) p = some (.lst y1) := by rw [upd_ne hpl]; exact hp1
          have k2 := kl0.trans (TK.lst (o := HO.lst y2) hp1l)
          refine slA_of (k2 _ _ hu) fun s ms H2 hs sub sm => ?_
          have b2 := ((bH1.mut (o := HO.lst []) nlH).upd (.lst y2)).same sm
          have hp2 : H2 p = some (.lst y2) := sm _ _ upd_same
          have hl2 : H2 l = some (.lst []) := sm _ _ (by rw [upd_ne hpl.symm, upd_same])
          have lms : ms.length ≤ 6 := by have := sub.length_le; omega
          have hms : ∀ z ∈ ms, NameOk z := fun z hz => ok z (wsub z (sub.subset hz))
          refine ⟨s, rfl, ⟨_, .of hs⟩, for_tup (K := K) (a := s) (xs := ms.map V.str)
            (fun i σ H' => ∃ (x5 : Option V) (fb : List (Addr × List Str)) (y : List V), σ = [some (.ref p), some (.ref t), some (.int kd), some (.ref u), some (.ref l), x5] ∧ H' l = some (.lst (fb.map fun b => V.ref b.1)) ∧ Tiers H' fb ∧ (fb.map (·.2)).flatten = ms.take i ∧
              TK H2 H' ∧ But p H H' ∧ H' p = some (.lst y) ∧ WellL y (k + 10 + i))
            ⟨_, [], y2, rfl, hl2, fun _ h => (by cases h), rfl, fun _ _ h => h, b2, hp2, w3.mono (by omega)⟩ (fun _ _ _ _ h => by obtain ⟨_, _, _, _, _, _, _, z, _⟩ := h; exact .of (z _ _ hs)) ?_ ?_⟩
          · rintro i v9 σ H3 hi ⟨x5, fb, y, rfl, hl, hfb, hflat, hk3, hb, hp3, hw⟩
            obtain ⟨wd, hwd, rfl⟩ := strs_at hi
            have il : i < ms.length := (List.getElem?_eq_some_iff.mp hwd).1
            have lfb := tiers_len (fun b hb => (hfb b hb).2) hflat
            have sok : ∀ tr ∈ fb.map (·.2), ∀ z ∈ tr, PyData.strOk z = true := fun tr htr z hz => by
              have : z ∈ ms.take i := by
                rw [← hflat]
                exact List.mem_flatten.mpr ⟨tr, htr, hz⟩
              exact small_ok (hms z (List.mem_of_mem_take this)).2.2
            refine ⟨.ref l, rfl, line_of (show 0 ≤ 1000 by decide), fun le nle => ?_⟩
            have ke := TK.new (o := HO.lst []) nle
            have hle := (upd_ne (o := HO.lst []) (ne_of_none hl nle)).trans hl
            have hpe := (upd_ne (o := HO.lst []) (ne_of_none hp3 nle)).trans hp3
            have hbe := hb.mut (o := HO.lst []) (hb.free hp3 nle)
            have hfe := hfb.keep ke
            have hke := hk3.trans ke
            refine ⟨.list ((fb.map (·.2)).map tyD), .list [], .lst (.of hle) (dp_tiers fb hfe), .lst (.of upd_same) .nil, shaped_tiers sok, rfl, ?_⟩
            generalize upd H3 le (.lst []) = H4 at hle hpe hbe hfe hke
            by_cases hfb0 : fb = []
            · have hc : (!PyData.eqv (.list ((fb.map (·.2)).map tyD)) (.list [])) = false := by rw [hfb0]; rfl
              rw [hc]
              refine ⟨_, rfl, iteF (iteF ?_)⟩
              refine ⟨.ref l, rfl, .inl ⟨rfl, _, .of hle⟩, .str wd, rfl, line_of (show 1 ≤ 1000 by decide), fun b nb => ?_⟩
              have kb := TK.new (o := HO.tup [V.str wd]) nb
              have hlb := (upd_ne (o := HO.tup [V.str wd]) (ne_of_none hle nb)).trans hle
              have kl := TK.lst (o := HO.lst ((fb.map fun b => V.ref b.1) ++ [V.ref b])) hlb
              refine ⟨l, _, _, rfl, rfl, hlb, small1000 (by rw [List.length_map]; omega), _, fb ++ [(b, [wd])], _, rfl, ?_, ?_, ?_, (hke.trans kb).trans kl, (hbe.mut (hbe.free hpe nb)).mut nlH, by rw [upd_ne hpl, upd_ne (ne_of_none hpe nb)]; exact hpe, hw.mono (by omega)⟩
              · rw [upd_same]
                simp
              · intro c hc
                rcases List.mem_append.mp hc with hc | hc
                · exact (hfe.keep (kb.trans kl)) c hc
                · rw [List.mem_singleton.mp hc]
                  exact ⟨kl _ _ upd_same, List.cons_ne_nil _ _⟩
              · rw [take_more hwd, ← hflat, List.map_append, List.flatten_append]
                rfl
            · obtain ⟨fi, bl, rfl⟩ : ∃ fi bl, fb = fi ++ [bl] := ⟨fb.dropLast, fb.getLast hfb0, (List.dropLast_concat_getLast hfb0).symm⟩
              have hc : (!PyData.eqv (.list (((fi ++ [bl]).map (·.2)).map tyD)) (.list [])) = true := by
                cases fi with
                | nil => rfl
                | cons a r => rfl
              rw [hc]
              refine ⟨_, rfl, iteT ?_⟩
              refine ⟨.ref p, rfl, p, 2, y, _, rfl, hpe, hw, by omega, by decide, size_ok (by decide) (by decide), fun dd yy dd0 dd1 ww => ?_⟩
              have kp := TK.lst (o := HO.lst yy) hpe
              have hlp : (upd H4 p (.lst yy)) l = some (.lst ((fi ++ [bl]).map fun b => V.ref b.1)) := by rw [upd_ne hpl.symm]; exact hle
              have hpp : (upd H4 p (.lst yy)) p = some (.lst yy) := upd_same
              have hbp := hbe.upd (.lst yy)
              have hfp := hfe.keep kp
              have hkp := hke.trans kp
              generalize upd H4 p (.lst yy) = H5 at hlp hpp hbp hfp hkp
              refine ⟨rfl, _, rfl, ?_⟩
              cases decide (V.int dd = V.int 0) with
              | false =>
                refine iteF ?_
                refine ⟨.ref l, rfl, .inl ⟨rfl, _, .of hlp⟩, .str wd, rfl, line_of (show 1 ≤ 1000 by decide), fun b nb => ?_⟩
                have kb := TK.new (o := HO.tup [V.str wd]) nb
                have hlb := (upd_ne (o := HO.tup [V.str wd]) (ne_of_none hlp nb)).trans hlp
                have kl := TK.lst (o := HO.lst (((fi ++ [bl]).map fun b => V.ref b.1) ++ [V.ref b])) hlb
                refine ⟨l, _, _, rfl, rfl, hlb, small1000 (by rw [List.length_map]; omega), _, (fi ++ [bl]) ++ [(b, [wd])], _, rfl, ?_, ?_, ?_, (hkp.trans kb).trans kl, (hbp.mut (hbp.free hpp nb)).mut nlH, by rw [upd_ne hpl, upd_ne (ne_of_none hpp nb)]; exact hpp, ww.mono (by omega)⟩
                · rw [upd_same]
                  simp
                · intro c hc
                  rcases List.mem_append.mp hc with hc | hc
                  · exact (hfp.keep (kb.trans kl)) c hc
                  · rw [List.mem_singleton.mp hc]
                    exact ⟨kl _ _ upd_same, List.cons_ne_nil _ _⟩
                · rw [take_more hwd, ← hflat, List.map_append, List.flatten_append]
                  rfl
              | true =>
                rw [List.map_append] at hlp
                refine iteT ⟨.ref l, rfl, 1, rfl, l, _, _, .ref bl.1, rfl, rfl, .of hlp, at_last _ _, .str wd, rfl, line_of (show 1 ≤ 1000 by decide), fun b nb => ?_⟩
                obtain ⟨gb, nbe⟩ := hfp bl (List.mem_append_right _ List.mem_cons_self)
                have sb := same_upd (o := HO.tup [V.str wd]) nb
                have lb2 : bl.2.length ≤ 6 := by
                  have h1 : ((fi ++ [bl]).map (·.2)).flatten.length = (ms.take i).length := congrArg List.length hflat
                  rw [List.map_append, List.flatten_append, List.length_append, List.length_take] at h1
                  have h2 : (([bl].map (·.2)).flatten).length = bl.2.length := by simp
                  omega
                refine ⟨bl.1, b, bl.2.map V.str, [V.str wd], rfl, rfl, .of (sb _ _ gb), .of upd_same, by simpa using nbe, line_of (by rw [List.length_map]; show bl.2.length + 1 ≤ 1000; omega), fun h => absurd h (List.cons_ne_nil _ _), fun _ b2' nb2 => ?_⟩
                have sb2 := sb.trans (same_upd (o := HO.tup (bl.2.map V.str ++ [V.str wd])) nb2)
                have hq2 : (upd (upd H5 b (.tup [V.str wd])) b2' (.tup (bl.2.map V.str ++ [V.str wd]))) b2' = some (.tup (bl.2.map V.str ++ [V.str wd])) := upd_same
                have hbb := hbp.same sb2
                have hl5 := sb2 _ _ hlp
                have hp5 := sb2 _ _ hpp
                have hf5 := hfp.keep (TK.same sb2)
                have hk5 := hkp.trans (TK.same sb2)
                generalize upd (upd H5 b (.tup [V.str wd])) b2' (.tup (bl.2.map V.str ++ [V.str wd])) = H6 at hq2 hbb hl5 hp5 hf5 hk5
                refine ⟨.ref l, rfl, 1, rfl, l, _, _, fi.length, rfl, rfl, hl5, by rw [List.length_append, List.length_map]; exact ix_last _, ?_⟩
                have kz := TK.lst (o := HO.lst (((fi.map fun b => V.ref b.1) ++ [V.ref bl.1]).set fi.length (V.ref b2'))) hl5
                refine ⟨_, fi ++ [(b2', bl.2 ++ [wd])], yy, rfl, ?_, ?_, ?_, hk5.trans kz, hbb.mut nlH, by rw [upd_ne hpl]; exact hp5, ww.mono (by omega)⟩
                · rw [upd_same, List.map_append]
                  have e := set_last (fi.map fun b => V.ref b.1) (V.ref bl.1) (V.ref b2')
                  rw [List.length_map] at e
                  exact congrArg (fun l => some (HO.lst l)) e
                · intro c hc
                  rcases List.mem_append.mp hc with hc | hc
                  · exact (hf5.keep kz) c (List.mem_append_left _ hc)
                  · rw [List.mem_singleton.mp hc]
                    refine ⟨?_, by simp⟩
                    rw [List.map_append]
                    exact kz _ _ hq2
                · rw [take_more hwd, ← hflat, List.map_append, List.map_append, List.flatten_append, List.flatten_append]
                  simp
          · rintro σ H3 ⟨x5, fb, y, rfl, hl, hfb, hflat, hk3, hb, hp3, hw⟩
            rw [List.length_map, List.take_length] at hflat
            exact ⟨.ref l, rfl, l, _, rfl, .inl ⟨.of hl, fun u2 nu2 => ⟨line_of (show 2 ≤ 1000 by decide), fun v nv => close fb y H3 l hl hfb (by rw [hflat]; exact sub) hb hp3 (hw.mono (by rw [List.length_map]; omega)) u2 nu2 v nv⟩⟩⟩
end
theorem slX_of {K : PySem.W.Frag} {H : Hp} {a : Addr} {xs : List V} {lo hi : Option Int} {Q : VK} (h : H a = some (.tup xs)) (c : ∀ (s : Addr) (H' : Hp), H' s = some (.tup (cutV xs lo hi)) → Same H H' → Q (.ref s) H') : rSlA K (.ref a) lo hi H Q := by
  refine ⟨a, xs, rfl, .of h, fun e => c a H ?_ (Same.refl _), fun _ s ns => c s _ upd_same (same_upd ns)⟩
  have e2 : cutV xs lo hi = xs := by
    unfold cutV
    rw [e.1, e.2, List.drop_zero, Nat.sub_zero, List.take_length]
  rw [e2]
  exact h
theorem catA_of {K : PySem.W.Frag} {H : Hp} {a b : Addr} {xs ys : List V} {Q : VK} (ha : H a = some (.tup xs)) (hb : H b = some (.tup ys)) (hz : xs.length + ys.length ≤ sizeLine) (c : ∀ (s : Addr) (H' : Hp), H' s = some (.tup (xs ++ ys)) → Same H H' → Q (.ref s) H') : rCatA K (.ref a) (.ref b) H Q := by
  refine ⟨a, b, xs, ys, rfl, rfl, .of ha, .of hb, hz, fun e => ?_, fun _ e => ?_, fun _ _ s ns => c s _ upd_same (same_upd ns)⟩
  · refine c b H ?_ (Same.refl _)
    rw [e]
    exact hb
  · refine c a H ?_ (Same.refl _)
    rw [e, List.append_nil]
    exact ha
theorem turn_perm {α : Type} (l : List α) (k : Nat) : (l.drop k ++ l.take k).Perm l := List.perm_append_comm.trans (by rw [List.take_append_drop])
theorem cut_from {xs : List V} {k : Nat} (h : k ≤ xs.length) : cutV xs (some (k : Int)) none = xs.drop k := by
  unfold cutV
  rw [HT.sIx_nat, HT.sIx_none, Nat.min_eq_left h, List.take_of_length_le (by rw [List.length_drop]; exact Nat.le_refl _)]
theorem cut_to {xs : List V} {k : Nat} (h : k ≤ xs.length) : cutV xs none (some (k : Int)) = xs.take k := by
  unfold cutV
  rw [HT.sIx_nat, HT.sIx_none, Nat.min_eq_left h, List.drop_zero, Nat.sub_zero]
/-- the list of rows, not yet a tuple -/
def RowsL (H : Hp) (g : Addr) (as : List (Addr × Addr × (Bal × Int))) : Prop := H g = some (.lst (as.map fun a => V.ref a.1)) ∧ ∀ a ∈ as, H a.1 = some (.tup [.ref a.2.1, .int a.2.2.2]) ∧ BalAt H a.2.1 a.2.2.1
theorem RowsL.push {H1 H2 : Hp} {g u c : Addr} {as : List (Addr × Addr × (Bal × Int))} {b : Bal} {m : Int} (h : RowsL H1 g as) (k : TK H1 H2) (hg : H2 g = some (.lst (as.map fun a => V.ref a.1))) (hb : BalAt H2 u b) (nc : H2 c = none) :
    RowsL (upd (upd H2 c (.tup [.ref u, .int m])) g (.lst ((as.map fun a => V.ref a.1) ++ [V.ref c]))) g (as ++ [(c, u, (b, m))]) ∧ TK H1 (upd (upd H2 c (.tup [.ref u, .int m])) g (.lst ((as.map fun a => V.ref a.1) ++ [V.ref c]))) := by
  have kc := TK.new (o := HO.tup [V.ref u, V.int m]) nc
  have hgc := (upd_ne (o := HO.tup [V.ref u, V.int m]) (ne_of_none hg nc)).trans hg
  have kg := TK.lst (o := HO.lst ((as.map fun a => V.ref a.1) ++ [V.ref c])) hgc
  refine ⟨⟨by rw [upd_same]; simp, fun a ha => ?_⟩, (k.trans kc).trans kg⟩
  rcases List.mem_append.mp ha with ha | ha
  · exact ⟨((k.trans kc).trans kg) _ _ (h.2 a ha).1, (h.2 a ha).2.keep ((k.trans kc).trans kg)⟩
  · rw [List.mem_singleton.mp ha]
    exact ⟨kg _ _ upd_same, (hb.keep kc).keep kg⟩
def RowOk (zs : List Str) (a : Addr × Addr × (Bal × Int)) : Prop := a.2.2.1.Ok zs ∧ 1 ≤ a.2.2.2 ∧ a.2.2.2 ≤ 1000000
theorem rowOk_push {zs : List Str} {as : List (Addr × Addr × (Bal × Int))} {a : Addr × Addr × (Bal × Int)} (h : ∀ a ∈ as, RowOk zs a) (ha : RowOk zs a) : ∀ b ∈ as ++ [a], RowOk zs b := fun b hb => by
  rcases List.mem_append.mp hb with hb | hb
  · exact h b hb
  · rw [List.mem_singleton.mp hb]
    exact ha
section
variable {P : Program} {w : World} {K : PySem.W.Frag} {mg : Str → Option Value} {base : Heap}
/-! ### a poll's parts drawn -/
def sp_law_parts : Sp := fun vs H Q _ => ∃ (p l : Addr) (ns : List Int) (x : List V) (k : Nat), vs = [.ref p, .ref l] ∧ H p = some (.lst x) ∧ H l = some (.lst (ns.map V.int)) ∧ l ≠ p ∧ (∀ n ∈ ns, 1 ≤ n ∧ n ≤ 6) ∧ 0 < ns.length ∧ ns.length ≤ 1000 ∧ WellL x k ∧ k ≤ 600000 ∧
  ∀ (u t r : Addr) (zs : List Str) (rows : List (Bal × Int)) (y : List V) (H' : Hp), H' u = some (.tup [.ref t, .ref r]) → H' t = some (.tup (zs.map V.str)) → 0 < zs.length → zs.length ≤ 6 → (zs.length : Int) ∈ ns → zs.Nodup → (∀ z ∈ zs, NameOk z) → RowsAt H' r rows → RowsOk zs 6 rows →
    But p H H' → H u = none → H' p = some (.lst y) → WellL y (k + 400) → Q (.ref u) H'
theorem ok_law_parts (T : Txt K mg) : FnOk P w K mg base CX0 4 T.f_law_parts T.fd_law_parts ["_law_well_here", "_law_sizes"] (sp_law_parts) := by
  refine T.F_law_parts.ok sc_law_parts (fun vs H Q E h => ?_) (fun cdv A outer s H vs Q E hr h => ?_)
  · obtain ⟨p, l, ns, x, k, rfl, _⟩ := h
    rfl
  · obtain ⟨p, l, ns, x, k, rfl, hp, hl, hlp, hns, n0, n1, hx, hk, q⟩ := h
    refine ⟨_, (pss_cons
 (ps_set (i := 2) sc_law_parts.nd rfl (Or.inl rfl) (pe_call (ok_law_names T) (hr.mono (by decide)) (by rfl) T.g_law_names T.F_law_names.kp T.b_law_names .nil pass0 (pa_cons (pv 0) (pa_cons (pe_call (ok_law_one T) (hr.mono (by decide)) (by rfl) T.g_law_one T.F_law_one.kp T.b_law_one .nil pass0 (pa_cons (pv 0) (pa_cons (pv 1) pa_nil))) pa_nil))))
 (pss_cons
 (ps_set (i := 3) sc_law_parts.nd rfl (Or.inl rfl) (pe_lst pa_nil))
 (pss_cons
 (ps_for PassesOwn.never rfl (pi_range1 rfl T.z_range (pa_cons (pe_call (ok_law_draw T) (hr.mono (by decide)) (by rfl) T.g_law_draw T.F_law_draw.kp T.b_law_draw .nil pass0 (pa_cons (pv 0) (pa_cons pe_int pa_nil))) pa_nil)) (pg_name (i := 4) sc_law_parts.nd rfl (Or.inl rfl))
 (pss_one
 (ps_expr (pe_bm PySem.F.plainAttrs_list PySem.F.slot_list_append PySem.F.type_list_append mt_append (pv 3) (pa_cons (pe_tup (pa_cons (pe_call (ok_law_ballot T) (hr.mono (by decide)) (by rfl) T.g_law_ballot T.F_law_ballot.kp T.b_law_ballot .nil pass0 (pa_cons (pv 0) (pa_cons (pv 2) pa_nil))) (pa_cons (pe_call (ok_law_one T) (hr.mono (by decide)) (by rfl) T.g_law_one T.F_law_one.kp T.b_law_one .nil pass0 (pa_cons (pv 0) (pa_cons (pe_lst (pa_cons pe_int (pa_cons pe_int (pa_cons pe_int (pa_cons pe_int (pa_cons (pe_op op_add pe_int (pe_call (ok_law_draw T) (hr.mono (by decide)) (by rfl) T.g_law_draw T.F_law_draw.kp T.b_law_draw .nil pass0 (pa_cons (pv 0) (pa_cons pe_int pa_nil)))) pa_nil)))))) pa_nil))) pa_nil))) pa_nil)))))
 (pss_cons
 (ps_if (pt_cmpR op_eq (pe_call (ok_law_draw T) (hr.mono (by decide)) (by rfl) T.g_law_draw T.F_law_draw.kp T.b_law_draw .nil pass0 (pa_cons (pv 0) (pa_cons pe_int pa_nil))) pe_int (nomark _))
 (pss_cons
 (ps_set (i := 5) sc_law_parts.nd rfl (Or.inl rfl) (pe_call (ok_law_shuffled T) (hr.mono (by decide)) (by rfl) T.g_law_shuffled T.F_law_shuffled.kp T.b_law_shuffled .nil pass0 (pa_cons (pv 0) (pa_cons (pv 2) pa_nil))))
 (pss_one
 (ps_for PassesOwn.never rfl (pi_range1 rfl T.z_range (pa_cons (pe_callB (call_min2 rfl) (by rfl) T.z_min (by decide +kernel) (pa_cons pe_int (pa_cons (pe_callB call_len_seq (by rfl) T.z_len (by decide +kernel) (pa_cons (pv 2) pa_nil)) pa_nil))) pa_nil)) (pg_name (i := 4) sc_law_parts.nd rfl (Or.inl rfl))
 (pss_cons
 (ps_set (i := 6) sc_law_parts.nd rfl (Or.inl rfl) (pe_op op_catA (pe_slice sl_tupA (pv 5) (po_some (pv 4)) po_none) (pe_slice sl_tupA (pv 5) po_none (po_some (pv 4)))))
 (pss_one
 (ps_expr (pe_bm PySem.F.plainAttrs_list PySem.F.slot_list_append PySem.F.type_list_append mt_append (pv 3) (pa_cons (pe_tup (pa_cons (pe_tup (pa_cons pe_str (pa_cons (pe_callTy call_tuple_of (by rfl) T.z_tuple (by decide +kernel) (pa_cons (pe_lc (own := [("_law_one_here", 7)]) (g := gName 7) (tt := tYes) rfl sc_law_parts.nd (pi_tup (pv 6)) (blkOk_by (own := [("_law_one_here", 7)]) (N := ["_law_well_here", "_law_sizes", "_law_names_here", "_law_rows", "_law_k", "_law_some", "_law_turned", "_law_one_here"]) (sc := (defScope s_law_parts)) (by decide +kernel)) (fun _ _ _ _ _ => pg_name (i := 7) sc_law_parts.nd rfl (Or.inl rfl)) (fun _ _ _ _ _ => pts_nil) (fun _ _ _ _ _ => (pe_tup (pa_cons (pv 7) pa_nil)))) pa_nil)) pa_nil))) (pa_cons (pe_op op_add pe_int (pe_call (ok_law_draw T) (hr.mono (by decide)) (by rfl) T.g_law_draw T.F_law_draw.kp T.b_law_draw .nil pass0 (pa_cons (pv 0) (pa_cons pe_int pa_nil)))) pa_nil))) pa_nil))))))))
 pss_nil)
 (pss_one
 (ps_ret (pe_tup (pa_cons (pv 2) (pa_cons (pe_callTy call_tuple_of (by rfl) T.z_tuple (by decide +kernel) (pa_cons (pv 3) pa_nil)) pa_nil))))))))), ?_⟩
    refine ⟨.ref p, rfl, .ref p, rfl, .ref l, rfl, p, .ref l, x, k, rfl, hp, hx, by omega, .inr (.inl ⟨l, _, rfl, hl, hlp, by rw [List.length_map]; exact n0, by rw [List.length_map]; exact n1, fun v x1 hv w1 => ?_⟩)⟩
    obtain ⟨n, hn, rfl⟩ := List.mem_map.mp hv
    obtain ⟨nl, nh⟩ := hns n hn
    refine ⟨p, n, x1, _, rfl, upd_same, w1, by omega, by omega, nh, fun t zs y1 H1 lz nd ok b1 nt ht hp1 w2 => ?_⟩
    have b1' : But p H H1 := ((But.refl p H).upd _).trans b1
    have z0 : 0 < zs.length := by omega
    have z6 : zs.length ≤ 6 := by omega
    refine ⟨line_of (show 0 ≤ 1000 by decide), fun g ng => ?_⟩
    have pg := ne_of_none hp1 ng
    have ngH := b1'.free hp1 ng
    have fin : ∀ (as : List (Addr × Addr × (Bal × Int))) (y : List V) (H' : Hp), RowsL H' g as → (∀ a ∈ as, RowOk zs a) → as.length ≤ 6 → But p H H' → H' p = some (.lst y) → WellL y (k + 390) → H' t = some (.tup (zs.map V.str)) →
        ∀ u2 : Addr, H' u2 = none → ∀ v : Addr, (upd H' u2 (.tup (as.map fun a => V.ref a.1))) v = none → Q (.ref v) (upd (upd H' u2 (.tup (as.map fun a => V.ref a.1))) v (.tup [V.ref t, V.ref u2])) := fun as y H' hr' ho hl' hb hp' hw ht' u2 nu2 v nv => by
      have ku := TK.new (o := HO.tup (as.map fun a => V.ref a.1)) nu2
      have kv := TK.new (o := HO.tup [V.ref t, V.ref u2]) nv
      have bu := hb.mut (o := HO.tup (as.map fun a => V.ref a.1)) (hb.free hp' nu2)
      have hpu := (upd_ne (o := HO.tup (as.map fun a => V.ref a.1)) (ne_of_none hp' nu2)).trans hp'
      refine q v t u2 zs (as.map (·.2.2)) y _ upd_same ((ku.trans kv) _ _ ht') z0 z6 (by rw [lz, Int.toNat_of_nonneg (by omega)]; exact hn) nd ok ⟨as, kv _ _ upd_same, fun a ha => ⟨(ku.trans kv) _ _ (hr'.2 a ha).1, (hr'.2 a ha).2.keep (ku.trans kv)⟩, rfl⟩ ⟨by rw [List.length_map]; exact hl', ?_⟩ (bu.mut (bu.free hpu nv)) (bu.free hpu nv) (by rw [upd_ne (ne_of_none hpu nv)]; exact hpu) (hw.mono (by omega))
      intro r hr2
      obtain ⟨a, ha, rfl⟩ := List.mem_map.mp hr2
      exact ho a ha
    refine ⟨.ref p, rfl, p, 4, y1, _, rfl, by rw [upd_ne pg]; exact hp1, w2, by omega, by decide, size_ok (by decide) (by decide), fun m y2 m0 m1 w3 => ?_⟩
    have hpg : (upd H1 g (.lst [])) p = some (.lst y1) := by rw [upd_ne pg]; exact hp1
    have k0 := (TK.new (o := HO.lst []) ng).trans (TK.lst (o := HO.lst y2) hpg)
    refine ⟨m, rfl, by omega, by omega, for_range (fun i σ H' => ∃ (x4 x5 x6 x7 : Option V) (as : List (Addr × Addr × (Bal × Int))) (y : List V), σ = [some (.ref p), some (.ref l), some (.ref t), some (.ref g), x4, x5, x6, x7] ∧ RowsL H' g as ∧ (∀ a ∈ as, RowOk zs a) ∧ as.length = i ∧ But p H H' ∧
        H' p = some (.lst y) ∧ WellL y (k + 40 + 50 * i) ∧ H' t = some (.tup (zs.map V.str)))
      ⟨_, _, _, _, [], y2, rfl, ⟨by rw [upd_ne pg.symm, upd_same]; rfl, fun _ h => (by cases h)⟩, fun _ h => (by cases h), rfl, (b1'.mut ngH).upd _, upd_same, w3.mono (by omega), k0 _ _ ht⟩ ?_ ?_⟩
    · rintro i σ H2 hi ⟨x4, x5, x6, x7, as, y, rfl, hrl, hok, la, hb, hp2, hw, ht2⟩
      refine ⟨.ref g, rfl, .inl ⟨rfl, _, .of hrl.1⟩, .ref p, rfl, .ref t, rfl, p, t, zs, y, _, rfl, hp2, ht2, z0, z6, nd, ok, hw, by omega, fun u b y5 H5 hbal hbok b5 nu hp5 w5 => ?_⟩
      refine ⟨.ref p, rfl, .ref p, rfl, p, 9, y5, _, rfl, hp5, w5, by omega, by decide, size_ok (by decide) (by decide), fun d y6 d0 d1 w6 => ?_⟩
      refine ⟨1, d, rfl, rfl, line_of (show 5 ≤ 1000 by decide), fun l5 n5 => ?_⟩
      have hp5' : (upd H5 p (.lst y6)) p = some (.lst y6) := upd_same
      have pl5 := ne_of_none hp5' n5
      refine ⟨p, .ref l5, y6, _, rfl, by rw [upd_ne pl5]; exact hp5', w6, by omega, .inr (.inl ⟨l5, _, rfl, upd_same, pl5.symm, (show 0 < 5 by decide), (show 5 ≤ 1000 by decide), fun v y7 hv w7 => ?_⟩)⟩
      obtain ⟨mk, rfl, mk1, mk9⟩ : ∃ mk : Int, v = V.int mk ∧ 1 ≤ mk ∧ mk ≤ 1000000 := by
        have : v = V.int 1 ∨ v = V.int 1 ∨ v = V.int 2 ∨ v = V.int 3 ∨ v = V.int (1 + d) := by simpa using hv
        rcases this with rfl | rfl | rfl | rfl | rfl
        · exact ⟨_, rfl, by decide, by decide⟩
        · exact ⟨_, rfl, by decide, by decide⟩
        · exact ⟨_, rfl, by decide, by decide⟩
        · exact ⟨_, rfl, by decide, by decide⟩
        · exact ⟨_, rfl, by omega, by omega⟩
      refine ⟨line_of (show 2 ≤ 1000 by decide), fun c nc => ?_⟩
      have hg5 : H5 g = some (.lst (as.map fun a => V.ref a.1)) := b5 g _ pg.symm hrl.1
      have kk : TK H2 (upd (upd (upd H5 p (.lst y6)) l5 (.lst [V.int 1, V.int 1, V.int 2, V.int 3, V.int (1 + d)])) p (.lst y7)) :=
        (((show TK H2 H5 from b5.tups hp2).trans (TK.lst hp5)).trans (TK.new n5)).trans (TK.lst (by rw [upd_ne pl5]; exact hp5'))
      have k5 : TK H5 (upd (upd (upd H5 p (.lst y6)) l5 (.lst [V.int 1, V.int 1, V.int 2, V.int 3, V.int (1 + d)])) p (.lst y7)) := ((TK.lst hp5).trans (TK.new n5)).trans (TK.lst (by rw [upd_ne pl5]; exact hp5'))
      have hbb : But p H (upd (upd (upd H5 p (.lst y6)) l5 (.lst [V.int 1, V.int 1, V.int 2, V.int 3, V.int (1 + d)])) p (.lst y7)) := (((hb.trans b5).upd _).mut (((hb.trans b5).upd _).free hp5' n5)).upd _
      have hpp : (upd (upd (upd H5 p (.lst y6)) l5 (.lst [V.int 1, V.int 1, V.int 2, V.int 3, V.int (1 + d)])) p (.lst y7)) p = some (.lst y7) := upd_same
      have hgg : (upd (upd (upd H5 p (.lst y6)) l5 (.lst [V.int 1, V.int 1, V.int 2, V.int 3, V.int (1 + d)])) p (.lst y7)) g = some (.lst (as.map fun a => V.ref a.1)) := by
        have h1 : (upd H5 p (.lst y6)) g = some (.lst (as.map fun a => V.ref a.1)) := by rw [upd_ne pg.symm]; exact hg5
        rw [upd_ne pg.symm, upd_ne (ne_of_none h1 n5)]
        exact h1
      have hbal' := hbal.keep k5
      generalize upd (upd (upd H5 p (.lst y6)) l5 (.lst [V.int 1, V.int 1, V.int 2, V.int 3, V.int (1 + d)])) p (.lst y7) = H6 at nc kk hbb hpp hgg hbal'
      obtain ⟨r1, r2⟩ := hrl.push (m := mk) kk hgg hbal' nc
      refine ⟨g, _, _, rfl, rfl, (upd_ne (ne_of_none hgg nc)).trans hgg, small1000 (by rw [List.length_map]; omega), _, _, _, _, _, y7, rfl, r1, rowOk_push hok ⟨hbok, mk1, mk9⟩, by rw [List.length_append, la]; rfl, (hbb.mut (hbb.free hpp nc)).mut ngH, by rw [upd_ne pg, upd_ne (ne_of_none hpp nc)]; exact hpp, w7.mono (by omega), r2 _ _ ht2⟩
    · rintro σ H2 ⟨x4, x5, x6, x7, as, y, rfl, hrl, hok, la, hb, hp2, hw, ht2⟩
      have la3 : as.length ≤ 3 := by omega
      have hw2 : WellL y (k + 190) := hw.mono (by omega)
      refine ⟨.ref p, rfl, p, 2, y, _, rfl, hp2, hw2, by omega, by decide, size_ok (by decide) (by decide), fun d y3 d0 d1 w4 => ⟨rfl, _, rfl, ?_⟩⟩
      have kp := TK.lst (o := HO.lst y3) hp2
      have hrl3 : RowsL (upd H2 p (.lst y3)) g as := ⟨by rw [upd_ne pg.symm]; exact hrl.1, fun a ha => ⟨kp _ _ (hrl.2 a ha).1, (hrl.2 a ha).2.keep kp⟩⟩
      have ht3 := kp _ _ ht2
      have hb3 := hb.upd (.lst y3)
      have hp3 : (upd H2 p (.lst y3)) p = some (.lst y3) := upd_same
      generalize upd H2 p (.lst y3) = H3 at hrl3 ht3 hb3 hp3
      cases decide (V.int d = V.int 0) with
      | false =>
        exact iteF ⟨.ref t, rfl, .ref g, rfl, g, _, rfl, .inl ⟨.of hrl3.1, fun u2 nu2 => ⟨line_of (show 2 ≤ 1000 by decide), fun v nv => fin as y3 H3 hrl3 hok (by omega) hb3 hp3 (w4.mono (by omega)) ht3 u2 nu2 v nv⟩⟩⟩
      | true =>
        refine iteT ⟨.ref p, rfl, .ref t, rfl, p, t, zs, y3, _, rfl, hp3, ht3, z6, ok, w4, by omega, fun sm ws y4 H4 pw b4 nsm hsm hp4 w5 => ?_⟩
        have k4 : TK H3 H4 := b4.tups hp3
        have hg4 : H4 g = some (.lst (as.map fun a => V.ref a.1)) := b4 g _ pg.symm hrl3.1
        have hrl4 : RowsL H4 g as := ⟨hg4, fun a ha => ⟨k4 _ _ (hrl3.2 a ha).1, (hrl3.2 a ha).2.keep k4⟩⟩
        have wl := pw.length_eq
        have wnd : ws.Nodup := (pw.nodup_iff).mpr nd
        refine ⟨.ref t, rfl, t, _, rfl, .inr (.of (k4 _ _ ht3)), 3, _, rfl, _, rfl, ?_⟩
        obtain ⟨rng, hr1, hr2, hr3⟩ : ∃ rng : Int, (if (((zs.map V.str).length : Nat) : Int) < 3 then (((zs.map V.str).length : Nat) : Int) else 3) = rng ∧ 0 ≤ rng ∧ rng ≤ 3 ∧ rng ≤ zs.length := by
          rw [List.length_map]
          split
          · exact ⟨_, rfl, by omega, by omega, by omega⟩
          · exact ⟨_, rfl, by omega, by omega, by omega⟩
        rw [hr1]
        refine ⟨by omega, by omega, for_range (fun i σ H' => ∃ (x4 x6 x7 : Option V) (as : List (Addr × Addr × (Bal × Int))) (y : List V), σ = [some (.ref p), some (.ref l), some (.ref t), some (.ref g), x4, some (.ref sm), x6, x7] ∧ RowsL H' g as ∧ (∀ a ∈ as, RowOk zs a) ∧ as.length ≤ 3 + i ∧ But p H H' ∧
            H' p = some (.lst y) ∧ WellL y (k + 210 + i) ∧ H' t = some (.tup (zs.map V.str)) ∧ H' sm = some (.tup (ws.map V.str)))
          ⟨_, _, _, as, y4, rfl, hrl4, hok, by omega, hb3.trans b4, hp4, w5.mono (by omega), k4 _ _ ht3, hsm⟩ ?_ ?_⟩
        · rintro i σ H5 hi ⟨x4, x6, x7, as, y, rfl, hrl, hok, la, hb, hp5, hw, ht5, hsm5⟩
          have i3 : i < 3 := by omega
          have iw : i ≤ (ws.map V.str).length := by rw [List.length_map]; omega
          rw [Int.zero_add]
          refine ⟨.ref sm, rfl, .int i, rfl, _, rfl, ?_⟩
          dsimp only [tNoPart]
          refine slX_of hsm5 fun s1 H6 hs1 m1 => ?_
          refine ⟨.ref sm, rfl, .int i, rfl, _, rfl, ?_⟩
          refine slX_of (m1 _ _ hsm5) fun s2 H7 hs2 m2 => ?_
          rw [cut_from iw] at hs1
          rw [cut_to iw] at hs2
          refine catA_of (m2 _ _ hs1) hs2 (line_of (by rw [List.length_drop, List.length_take, List.length_map]; omega)) fun s3 H8 hs3 m3 => ?_
          rw [← List.map_drop, ← List.map_take, ← List.map_append] at hs3
          have tp := turn_perm ws i
          generalize ws.drop i ++ ws.take i = tw at hs3 tp
          have tl := tp.length_eq
          have sm8 := (m1.trans m2).trans m3
          have k8 := TK.same sm8
          have hrl8 : RowsL H8 g as := ⟨sm8 _ _ hrl.1, fun a ha => ⟨k8 _ _ (hrl.2 a ha).1, (hrl.2 a ha).2.keep k8⟩⟩
          have hb8 := hb.same sm8
          have hp8 := sm8 _ _ hp5
          have ht8 := sm8 _ _ ht5
          have hsm8 := sm8 _ _ hsm5
          refine ⟨.ref g, rfl, .inl ⟨rfl, _, .of hrl8.1⟩, .ref s3, rfl, s3, rfl, ⟨_, .of hs3⟩, fun D nD => ?_⟩
          have pD := ne_of_none hp8 nD
          have gD := ne_of_none hrl8.1 nD
          have nDH := hb8.free hp8 nD
          refine lc_tup (K := K) (a := s3) (xs := tw.map V.str) (fun i H' => ∃ bs : List (Addr × List Str), H' D = some (.lst (bs.map fun b => V.ref b.1)) ∧ Tiers H' bs ∧ (bs.map (·.2)).flatten = tw.take i ∧ But p H H' ∧ H' p = some (.lst y) ∧ TK H8 H' ∧ H' g = some (.lst (as.map fun a => V.ref a.1)))
            ⟨[], upd_same, fun _ h => (by cases h), rfl, hb8.mut nDH, by rw [upd_ne pD]; exact hp8, TK.new nD, by rw [upd_ne gD]; exact hrl8.1⟩ (fun _ _ _ h => by obtain ⟨_, _, _, _, _, _, z, _⟩ := h; exact .of (z _ _ hs3)) ?_ ?_
          · rintro j v9 H9 hj ⟨bs, hD, htb, hflat, hb9, hp9, k9, hg9⟩
            obtain ⟨wd, hwd, rfl⟩ := strs_at hj
            have jl : j < tw.length := (List.getElem?_eq_some_iff.mp hwd).1
            have lbs := tiers_len (fun b hb => (htb b hb).2) hflat
            refine ⟨rfl, .str wd, rfl, line_of (show 1 ≤ 1000 by decide), fun b nb => ?_⟩
            have kb := TK.new (o := HO.tup [V.str wd]) nb
            have hDb := (upd_ne (o := HO.tup [V.str wd]) (ne_of_none hD nb)).trans hD
            have kD := TK.lst (o := HO.lst ((bs.map fun b => V.ref b.1) ++ [V.ref b])) hDb
            refine ⟨bs.map fun b => V.ref b.1, hDb, small1000 (by rw [List.length_map]; omega), bs ++ [(b, [wd])], ?_, ?_, ?_, (hb9.mut (hb9.free hp9 nb)).mut nDH, by rw [upd_ne pD, upd_ne (ne_of_none hp9 nb)]; exact hp9, (k9.trans kb).trans kD, by rw [upd_ne gD, upd_ne (ne_of_none hg9 nb)]; exact hg9⟩
            · rw [upd_same, List.map_append]
              rfl
            · intro c hc
              rcases List.mem_append.mp hc with hc | hc
              · exact (htb.keep (kb.trans kD)) c hc
              · rw [List.mem_singleton.mp hc]
                exact ⟨kD _ _ upd_same, List.cons_ne_nil _ _⟩
            · rw [take_more hwd, ← hflat, List.map_append, List.flatten_append]
              rfl
          · rintro H9 ⟨bs, hD, htb, hflat, hb9, hp9, k9, hg9⟩
            rw [List.length_map, List.take_length] at hflat
            refine ⟨D, _, rfl, .inl ⟨.of hD, fun u2 nu2 => ⟨line_of (show 2 ≤ 1000 by decide), fun v nv => ?_⟩⟩⟩
            have ku := TK.new (o := HO.tup (bs.map fun b => V.ref b.1)) nu2
            have kv := TK.new (o := HO.tup [V.str "order", V.ref u2]) nv
            have hbal : BalAt (upd (upd H9 u2 (.tup (bs.map fun b => V.ref b.1))) v (.tup [V.str "order", V.ref u2])) v (.order (bs.map (·.2))) := ⟨u2, bs, upd_same, kv _ _ upd_same, htb.keep (ku.trans kv), rfl⟩
            have bu := hb9.mut (o := HO.tup (bs.map fun b => V.ref b.1)) (hb9.free hp9 nu2)
            have hpu := (upd_ne (o := HO.tup (bs.map fun b => V.ref b.1)) (ne_of_none hp9 nu2)).trans hp9
            have hgu := (upd_ne (o := HO.tup (bs.map fun b => V.ref b.1)) (ne_of_none hg9 nu2)).trans hg9
            have bv := bu.mut (o := HO.tup [V.str "order", V.ref u2]) (bu.free hpu nv)
            have hpv := (upd_ne (o := HO.tup [V.str "order", V.ref u2]) (ne_of_none hpu nv)).trans hpu
            have hgv := (upd_ne (o := HO.tup [V.str "order", V.ref u2]) (ne_of_none hgu nv)).trans hgu
            have kk := (k9.trans ku).trans kv
            generalize upd (upd H9 u2 (.tup (bs.map fun b => V.ref b.1))) v (.tup [V.str "order", V.ref u2]) = HA at hbal bv hpv hgv kk
            refine ⟨.ref p, rfl, p, 4, y, _, rfl, hpv, hw, by omega, by decide, size_ok (by decide) (by decide), fun d2 y5 e0 e1 w6 => ⟨2, d2, rfl, rfl, line_of (show 2 ≤ 1000 by decide), fun c nc => ?_⟩⟩
            have kp := TK.lst (o := HO.lst y5) hpv
            have hpp : (upd HA p (.lst y5)) p = some (.lst y5) := upd_same
            have hgp : (upd HA p (.lst y5)) g = some (.lst (as.map fun a => V.ref a.1)) := by rw [upd_ne pg.symm]; exact hgv
            have bp := bv.upd (.lst y5)
            have hbal2 := hbal.keep kp
            have kz := kk.trans kp
            generalize upd HA p (.lst y5) = HB at nc hpp hgp bp hbal2 kz
            obtain ⟨r1, r2⟩ := hrl8.push (m := 2 + d2) kz hgp hbal2 nc
            refine ⟨g, _, _, rfl, rfl, (upd_ne (ne_of_none hgp nc)).trans hgp, small1000 (by rw [List.length_map]; omega), _, _, _, _, y5, rfl, r1, rowOk_push hok ⟨⟨?_, ?_, ?_⟩, by show 1 ≤ 2 + d2; omega, by show 2 + d2 ≤ 1000000; omega⟩, by rw [List.length_append]; show as.length + 1 ≤ _; omega, (bp.mut (bp.free hpp nc)).mut ngH, by rw [upd_ne pg, upd_ne (ne_of_none hpp nc)]; exact hpp, w6.mono (by omega), r2 _ _ ht8, r2 _ _ hsm8⟩
            · show ((bs.map (·.2)).flatten).Nodup
              rw [hflat]
              exact (tp.nodup_iff).mpr wnd
            · intro z hz
              rw [hflat] at hz
              exact pw.mem_iff.mp (tp.mem_iff.mp hz)
            · intro tr htr
              obtain ⟨c2, hc2, rfl⟩ := List.mem_map.mp htr
              exact (htb c2 hc2).2
        · rintro σ H5 ⟨x4, x6, x7, as, y, rfl, hrl, hok, la, hb, hp5, hw, ht5, hsm5⟩
          exact ⟨.ref t, rfl, .ref g, rfl, g, _, rfl, .inl ⟨.of hrl.1, fun u2 nu2 => ⟨line_of (show 2 ≤ 1000 by decide), fun v nv => fin as y H5 hrl hok (by omega) hb hp5 (hw.mono (by omega)) ht5 u2 nu2 v nv⟩⟩⟩
end
/-! ### what stands apart from the well -/
/-- all that is tracked, but p -/
def hide (p : Addr) (H : Hp) : Hp := fun a => if a = p then none else H a
/-- as H stood, but for the well p, which holds y -/
def On (p : Addr) (H : Hp) (y : List V) (Hc : Hp) : Prop := Same (hide p H) (hide p Hc) ∧ Hc p = some (.lst y)
theorem item_map {α : Type} {f : α → V} {l : List α} {i : Nat} {v : V} (h : (l.map f)[i]? = some v) : ∃ a, l[i]? = some a ∧ v = f a := by
  rw [List.getElem?_map] at h
  cases e : l[i]? with
  | none => rw [e] at h; cases h
  | some a => rw [e] at h; exact ⟨a, rfl, (Option.some.inj h).symm⟩
/-! ### [e for a in t for b in a], both tuples -/
section
variable {K : PySem.W.Frag} {σ : L2.St} {D : Addr} {vs vs1 : List Nat}
/-- the second for, over a tuple that stays -/
theorem inner_tup {b : Addr} {ys : List V} {g1 : TG} {tt1 : TT} {te : TE} {H4 : Hp} {Nx : Hp → Prop} (Pw : Nat → Hp → Prop) (h0 : Pw 0 H4) (hl : ∀ j H, Pw j H → SqT K H b ys)
    (hs : ∀ j y H, ys[j]? = some y → Pw j H → g1 y (wipe σ vs1) H fun σ3 H5 => wipe σ3 vs1 = wipe σ vs1 ∧ tt1 σ3 H5 fun c H6 => if c = true then te σ3 H6 fun z H7 => ∃ acc, H7 D = some (.lst acc) ∧ acc.length < sizeLine ∧ Pw (j + 1) (upd H7 D (.lst (acc ++ [z]))) else Pw (j + 1) H6)
    (hd : ∀ H, Pw ys.length H → Nx H) :
    ∃ W1 : Nat → Nat → Hp → Prop, (∃ m, W1 0 m H4) ∧ ∀ j k H, W1 j k H → ((Itt K b).stop j H ∧ Nx H) ∨ ((Itt K b).go j H ∧ ∃ Nx1 : Hp → Prop, (∀ H', Nx1 H' → ∃ k', k' < k ∧ W1 (j + 1) k' H') ∧
      ∀ x H', (Itt K b).yld j H x H' → g1 x (wipe σ vs1) H' fun σ3 H5 => wipe σ3 vs1 = wipe σ vs1 ∧ tt1 σ3 H5 fun c H6 => if c = true then te σ3 H6 fun z H7 => ∃ acc, H7 D = some (.lst acc) ∧ acc.length < sizeLine ∧ Nx1 (upd H7 D (.lst (acc ++ [z]))) else Nx1 H6) := by
  refine ⟨fun j k H => k + j = ys.length ∧ Pw j H, ⟨ys.length, rfl, h0⟩, ?_⟩
  rintro j k H ⟨hk, p⟩
  cases k with
  | zero =>
    have e : j = ys.length := by omega
    rw [e] at p ⊢
    exact .inl ⟨⟨ys, hl _ _ p, Nat.le_refl _⟩, hd H p⟩
  | succ k =>
    have lt : j < ys.length := by omega
    refine .inr ⟨⟨ys, ys[j], hl _ _ p, List.getElem?_eq_getElem lt⟩, Pw (j + 1), fun H' p' => ⟨k, Nat.lt_succ_self _, by omega, p'⟩, ?_⟩
    rintro x H' ⟨rfl, y⟩
    exact hs j x _ (y ys (hl _ _ p)) p
/-- the first for -/
theorem outer_tup {a : Addr} {xs : List V} {g g1 : TG} {tt tt1 : TT} {wi1 : TI} {te : TE} {H1 : Hp} {Qd : Hp → Prop} (Pv : Nat → Hp → Prop) (h0 : Pv 0 (upd H1 D (.lst []))) (hl : ∀ i H, Pv i H → SqT K H a xs)
    (hs : ∀ i x H, xs[i]? = some x → Pv i H → g x (wipe σ vs) H fun σ2 H2 => wipe σ2 vs = wipe σ vs ∧ tt σ2 H2 fun c H3 => if c = true then wi1 σ2 H3 fun J1 H4 => ∃ W1 : Nat → Nat → Hp → Prop, (∃ m, W1 0 m H4) ∧ ∀ j k H, W1 j k H → (J1.stop j H ∧ Pv (i + 1) H) ∨ (J1.go j H ∧ ∃ Nx1 : Hp → Prop, (∀ H', Nx1 H' → ∃ k', k' < k ∧ W1 (j + 1) k' H') ∧
      ∀ x H', J1.yld j H x H' → g1 x (wipe σ2 vs1) H' fun σ3 H5 => wipe σ3 vs1 = wipe σ2 vs1 ∧ tt1 σ3 H5 fun c H6 => if c = true then te σ3 H6 fun z H7 => ∃ acc, H7 D = some (.lst acc) ∧ acc.length < sizeLine ∧ Nx1 (upd H7 D (.lst (acc ++ [z]))) else Nx1 H6) else Pv (i + 1) H3)
    (hd : ∀ H, Pv xs.length H → Qd H) :
    ∃ W : Nat → Nat → Hp → Prop, (∃ m, W 0 m (upd H1 D (.lst []))) ∧ ∀ i m H, W i m H → ((Itt K a).stop i H ∧ Qd H) ∨ ((Itt K a).go i H ∧ ∃ Nx : Hp → Prop, (∀ H', Nx H' → ∃ m', m' < m ∧ W (i + 1) m' H') ∧
      ∀ x H', (Itt K a).yld i H x H' → g x (wipe σ vs) H' fun σ2 H2 => wipe σ2 vs = wipe σ vs ∧ tt σ2 H2 fun c H3 => if c = true then wi1 σ2 H3 fun J1 H4 => ∃ W1 : Nat → Nat → Hp → Prop, (∃ m, W1 0 m H4) ∧ ∀ j k H, W1 j k H → (J1.stop j H ∧ Nx H) ∨ (J1.go j H ∧ ∃ Nx1 : Hp → Prop, (∀ H', Nx1 H' → ∃ k', k' < k ∧ W1 (j + 1) k' H') ∧
        ∀ x H', J1.yld j H x H' → g1 x (wipe σ2 vs1) H' fun σ3 H5 => wipe σ3 vs1 = wipe σ2 vs1 ∧ tt1 σ3 H5 fun c H6 => if c = true then te σ3 H6 fun z H7 => ∃ acc, H7 D = some (.lst acc) ∧ acc.length < sizeLine ∧ Nx1 (upd H7 D (.lst (acc ++ [z]))) else Nx1 H6) else Nx H3) := by
  refine ⟨fun i k H => k + i = xs.length ∧ Pv i H, ⟨xs.length, rfl, h0⟩, ?_⟩
  rintro i k H ⟨hk, p⟩
  cases k with
  | zero =>
    have e : i = xs.length := by omega
    rw [e] at p ⊢
    exact .inl ⟨⟨xs, hl _ _ p, Nat.le_refl _⟩, hd H p⟩
  | succ k =>
    have lt : i < xs.length := by omega
    refine .inr ⟨⟨xs, xs[i], hl _ _ p, List.getElem?_eq_getElem lt⟩, Pv (i + 1), fun H' p' => ⟨k, Nat.lt_succ_self _, by omega, p'⟩, ?_⟩
    rintro x H' ⟨rfl, y⟩
    exact hs i x _ (y xs (hl _ _ p)) p
end
/-! ### data: None, truths, numbers, texts, lists and tuples of such -/
mutual
def DAt (H : Hp) : PyData → V → Prop
  | .none, v => v = .non
  | .bool b, v => v = .bl b
  | .int i, v => v = .int i
  | .str z, v => v = .str z
  | .list ds, v => ∃ p xs, v = .ref p ∧ H p = some (.lst xs) ∧ DAll H ds xs
  | .tuple ds, v => ∃ p xs, v = .ref p ∧ H p = some (.tup xs) ∧ DAll H ds xs
  | .dict _, _ => False
def DAll (H : Hp) : List PyData → List V → Prop
  | [], xs => xs = []
  | d :: ds, xs => ∃ v r, xs = v :: r ∧ DAt H d v ∧ DAll H ds r
end
mutual
theorem DAt.same {H H' : Hp} (s : Same H H') : ∀ (d : PyData) {v : V}, DAt H d v → DAt H' d v
  | .none, _, h => h
  | .bool _, _, h => h
  | .int _, _, h => h
  | .str _, _, h => h
  | .list ds, _, ⟨p, xs, e, h, g⟩ => ⟨p, xs, e, s _ _ h, DAll.same s ds g⟩
  | .tuple ds, _, ⟨p, xs, e, h, g⟩ => ⟨p, xs, e, s _ _ h, DAll.same s ds g⟩
  | .dict _, _, h => h
theorem DAll.same {H H' : Hp} (s : Same H H') : ∀ (ds : List PyData) {xs : List V}, DAll H ds xs → DAll H' ds xs
  | [], _, h => h
  | d :: ds, _, ⟨v, r, e, h, g⟩ => ⟨v, r, e, DAt.same s d h, DAll.same s ds g⟩
end
mutual
theorem DAt.dp {K : PySem.W.Frag} {H : Hp} : ∀ (d : PyData) {v : V}, DAt H d v → Dp K H v d
  | .none, _, h => by rw [show _ = V.non from h]; exact .non
  | .bool b, _, h => by rw [show _ = V.bl b from h]; exact .bl b
  | .int i, _, h => by rw [show _ = V.int i from h]; exact .int i
  | .str z, _, h => by rw [show _ = V.str z from h]; exact .str z
  | .list ds, _, ⟨p, xs, e, h, g⟩ => by rw [e]; exact .lst (.of h) (DAll.dp ds g)
  | .tuple ds, _, ⟨p, xs, e, h, g⟩ => by rw [e]; exact .tup (.of h) (DAll.dp ds g)
  | .dict _, _, h => h.elim
theorem DAll.dp {K : PySem.W.Frag} {H : Hp} : ∀ (ds : List PyData) {xs : List V}, DAll H ds xs → DpAll K H xs ds
  | [], _, h => by rw [show _ = ([] : List V) from h]; exact .nil
  | d :: ds, _, ⟨v, r, e, h, g⟩ => by rw [e]; exact .cons (DAt.dp d h) (DAll.dp ds g)
end
theorem DAll.len {H : Hp} : ∀ {l : List PyData} {xs : List V}, DAll H l xs → xs.length = l.length
  | [], _, h => by rw [show _ = [] from h]; rfl
  | k :: l, _, ⟨v, r, e, h, g⟩ => by rw [e]; exact congrArg Nat.succ (DAll.len g)
theorem DAll.get {H : Hp} : ∀ {l : List PyData} {xs : List V}, DAll H l xs → ∀ {i : Nat} {v : V}, xs[i]? = some v → ∃ k, l[i]? = some k ∧ DAt H k v
  | [], _, h, i, v, e => by
    rw [show _ = [] from h] at e
    simp at e
  | k :: l, _, ⟨v, r, e, h, g⟩, 0, u, q => by
    rw [e] at q
    cases q
    exact ⟨k, rfl, h⟩
  | k :: l, _, ⟨v, r, e, h, g⟩, i + 1, u, q => by
    rw [e] at q
    exact DAll.get g (i := i) q
theorem DAll.append {H : Hp} : ∀ {l m : List PyData} {xs ys : List V}, DAll H l xs → DAll H m ys → DAll H (l ++ m) (xs ++ ys)
  | [], _, _, _, h, g => by rw [show _ = [] from h]; exact g
  | k :: l, _, _, _, ⟨v, r, e, h, g⟩, q => by rw [e]; exact ⟨v, _, rfl, h, DAll.append g q⟩
theorem DAll.strs {H : Hp} : ∀ (zs : List Str), DAll H (zs.map PyData.str) (zs.map V.str)
  | [] => rfl
  | z :: zs => ⟨.str z, _, rfl, rfl, DAll.strs zs⟩
theorem da0 {H : Hp} : DAll H [] [] := rfl
theorem da1 {H : Hp} {k : PyData} {v : V} {l : List PyData} {xs : List V} (a : DAt H k v) (b : DAll H l xs) : DAll H (k :: l) (v :: xs) := ⟨v, xs, rfl, a, b⟩
def dT : PyData → Bool
  | .tuple _ => true
  | _ => false
def dS : PyData → Bool
  | .str _ => true
  | _ => false
def dI : PyData → Bool
  | .int _ => true
  | .bool _ => true
  | _ => false
def dB : PyData → Bool
  | .bool _ => true
  | _ => false
theorem DAt.ty {K : PySem.W.Frag} {H : Hp} : ∀ {d : PyData} {v : V}, DAt H d v → ∃ t, TyX K H v t ∧ PySem.W.kitOne K t (.type "tuple") = some (dT d) ∧ PySem.W.kitOne K t (.type "str") = some (dS d) ∧ PySem.W.kitOne K t (.type "int") = some (dI d) ∧ PySem.W.kitOne K t (.type "bool") = some (dB d)
  | .none, _, h => by
    rw [show _ = V.non from h]
    exact ⟨_, .base .non, kit_ty (show kitB "NoneType" "tuple" = some false by decide +kernel), kit_ty (show kitB "NoneType" "str" = some false by decide +kernel), kit_ty (show kitB "NoneType" "int" = some false by decide +kernel), kit_ty (show kitB "NoneType" "bool" = some false by decide +kernel)⟩
  | .bool b, _, h => by
    rw [show _ = V.bl b from h]
    exact ⟨_, .base (.bl b), kit_ty (show kitB "bool" "tuple" = some false by decide +kernel), kit_ty (show kitB "bool" "str" = some false by decide +kernel), kit_ty (show kitB "bool" "int" = some true by decide +kernel), kit_ty (show kitB "bool" "bool" = some true by decide +kernel)⟩
  | .int i, _, h => by
    rw [show _ = V.int i from h]
    exact ⟨_, .base (.int i), kit_ty (show kitB "int" "tuple" = some false by decide +kernel), kit_ty (show kitB "int" "str" = some false by decide +kernel), kit_ty (show kitB "int" "int" = some true by decide +kernel), kit_ty (show kitB "int" "bool" = some false by decide +kernel)⟩
  | .str z, _, h => by
    rw [show _ = V.str z from h]
    exact ⟨_, .base (.str z), kit_ty (show kitB "str" "tuple" = some false by decide +kernel), kit_ty (show kitB "str" "str" = some true by decide +kernel), kit_ty (show kitB "str" "int" = some false by decide +kernel), kit_ty (show kitB "str" "bool" = some false by decide +kernel)⟩
  | .list ds, _, ⟨p, xs, e, h, g⟩ => by
    rw [e]
    exact ⟨_, .base (.lst h), kit_ty (show kitB "list" "tuple" = some false by decide +kernel), kit_ty (show kitB "list" "str" = some false by decide +kernel), kit_ty (show kitB "list" "int" = some false by decide +kernel), kit_ty (show kitB "list" "bool" = some false by decide +kernel)⟩
  | .tuple ds, _, ⟨p, xs, e, h, g⟩ => by
    rw [e]
    exact ⟨_, .base (.tup h), kit_ty (show kitB "tuple" "tuple" = some true by decide +kernel), kit_ty (show kitB "tuple" "str" = some false by decide +kernel), kit_ty (show kitB "tuple" "int" = some false by decide +kernel), kit_ty (show kitB "tuple" "bool" = some false by decide +kernel)⟩
  | .dict _, _, h => h.elim
/-- data that can be laid, of some depth and weight, told in short texts -/
structure Ok (n m : Nat) (d : PyData) : Prop where
  lay : d.canLay0 = true
  dep : d.depth ≤ n
  sho : d.showable = true
  lea : d.leavesShort 40 = true
  wei : d.weight ≤ m
structure OkA (n m : Nat) (ds : List PyData) : Prop where
  lay : PyData.canLayAll0 ds = true
  dep : PyData.depthAll ds ≤ n
  sho : PyData.showableAll ds = true
  lea : PyData.leavesShortAll 40 ds = true
  wei : PyData.weightAll ds ≤ m
theorem OkA.nil {n m : Nat} : OkA n m [] := ⟨rfl, Nat.zero_le _, rfl, rfl, Nat.zero_le _⟩
theorem Ok.mono {n m n' m' : Nat} {d : PyData} (h : Ok n m d) (a : n ≤ n') (b : m ≤ m') : Ok n' m' d := ⟨h.lay, Nat.le_trans h.dep a, h.sho, h.lea, Nat.le_trans h.wei b⟩
theorem OkA.mono {n m n' m' : Nat} {d : List PyData} (h : OkA n m d) (a : n ≤ n') (b : m ≤ m') : OkA n' m' d := ⟨h.lay, Nat.le_trans h.dep a, h.sho, h.lea, Nat.le_trans h.wei b⟩
theorem OkA.cons {n m k : Nat} {d : PyData} {ds : List PyData} (a : Ok n m d) (b : OkA n k ds) : OkA n (m + 1 + k) (d :: ds) := by
  refine ⟨?_, ?_, ?_, ?_, ?_⟩
  · rw [PyData.canLayAll0, a.lay, b.lay] <;> rfl
  · rw [PyData.depthAll]
    exact Nat.max_le.mpr ⟨a.dep, b.dep⟩
  · rw [PyData.showableAll, a.sho, b.sho] <;> rfl
  · rw [PyData.leavesShortAll, a.lea, b.lea] <;> rfl
  · rw [PyData.weightAll]
    have := a.wei
    have := b.wei
    omega
theorem OkA.tuple {n m : Nat} {ds : List PyData} (h : OkA n m ds) : Ok (n + 1) m (.tuple ds) := by
  refine ⟨?_, ?_, ?_, ?_, ?_⟩
  · rw [PyData.canLay0]; exact h.lay
  · have := h.dep
    rw [PyData.depth]
    omega
  · rw [PyData.showable]; exact h.sho
  · rw [PyData.leavesShort]; exact h.lea
  · rw [PyData.weight]; exact h.wei
theorem OkA.list {n m : Nat} {ds : List PyData} (h : OkA n m ds) : Ok (n + 1) m (.list ds) := by
  refine ⟨?_, ?_, ?_, ?_, ?_⟩
  · rw [PyData.canLay0]; exact h.lay
  · have := h.dep
    rw [PyData.depth]
    omega
  · rw [PyData.showable]; exact h.sho
  · rw [PyData.leavesShort]; exact h.lea
  · rw [PyData.weight]; exact h.wei
theorem Ok.shaped {n m : Nat} {d : PyData} (h : Ok n m d) (hn : n ≤ 64) : SeqAt.shaped d = true := by
  unfold SeqAt.shaped
  rw [h.lay, Bool.true_and]
  exact decide_eq_true (Nat.le_trans h.dep hn)
theorem ok_str {n m : Nat} {z : Str} (h : PyData.strOk z = true) (g : z.length ≤ m) : Ok n m (.str z) := by
  refine ⟨by rw [PyData.canLay0]; exact h, Nat.zero_le _, by rw [PyData.showable], ?_, by rw [PyData.weight]; exact g⟩
  rw [PyData.leavesShort, List.all_eq_true]
  intro c hc
  unfold PyData.strOk at h
  rw [← Array.all_toList, List.all_eq_true] at h
  have := of_decide_eq_true (h c hc)
  exact decide_eq_true (Nat.lt_trans this (by decide))
/-! ### what the program's own looks tell of data -/
def wholeD : PyData → Bool
  | .int _ => true
  | _ => false
def tupD : PyData → Nat → Bool
  | .tuple l, n => decide (l.length = n)
  | _, _ => false
def optD (zs : List Str) : PyData → Bool
  | .str z => decide (z ∈ zs)
  | _ => false
def unS : PyData → Option Str
  | .str z => some z
  | _ => none
def unlikeD (zs : List Str) (ds : List PyData) : Bool := ds.all (optD zs) && decide (ds.filterMap unS).Nodup
def markD : PyData → Bool
  | .int i => decide (0 ≤ i) && decide (i ≤ 9)
  | _ => false
def parts : PyData → List PyData
  | .tuple l => l
  | _ => []
def tierD : PyData → Bool
  | .tuple l => decide (0 < l.length)
  | _ => false
def pairD : PyData → Bool
  | .tuple [_, m] => markD m
  | _ => false
def firstD : PyData → PyData
  | .tuple (a :: _) => a
  | _ => .none
def tiersD (zs : List Str) (ds : List PyData) : Bool := ds.all tierD && unlikeD zs (ds.flatMap parts)
def marksD (zs : List Str) (ds : List PyData) : Bool := ds.all pairD && unlikeD zs (ds.map firstD)
def ballotD (zs : List Str) : PyData → Bool
  | .tuple [.str f, .tuple l] => if f = "order" then tiersD zs l else if f = "lets" then unlikeD zs l else if f = "marks" then marksD zs l else false
  | _ => false
theorem inV_str (z : Str) : ∀ zs : List Str, inV (.str z) (zs.map V.str) = decide (z ∈ zs)
  | [] => rfl
  | a :: l => by
    have ih := inV_str z l
    unfold inV at ih ⊢
    rw [List.map_cons, List.any_cons, ih]
    show ((a == z) || decide (z ∈ l)) = decide (z ∈ a :: l)
    by_cases h : a = z
    · rw [h]
      simp
    · have : (a == z) = false := beq_eq_false_iff_ne.mpr h
      rw [this, Bool.false_or]
      exact decide_eq_decide.mpr ⟨fun m => List.mem_cons_of_mem _ m, fun m => (List.mem_cons.mp m).elim (fun e => absurd e.symm h) id⟩
theorem flat_strs (zs : List Str) : (zs.map V.str).all flatV = true := by
  rw [List.all_map, List.all_eq_true]
  exact fun _ _ => rfl
theorem opt_strs {zs : List Str} : ∀ {ds : List PyData}, ds.all (optD zs) = true → ds = (ds.filterMap unS).map PyData.str
  | [], _ => rfl
  | d :: ds, h => by
    rw [List.all_cons, Bool.and_eq_true] at h
    cases d with
    | str z => exact congrArg (PyData.str z :: ·) (opt_strs h.2)
    | _ => cases h.1
theorem DAll.of_strs {H : Hp} : ∀ {zs : List Str} {xs : List V}, DAll H (zs.map PyData.str) xs → xs = zs.map V.str
  | [], _, h => h
  | z :: zs, _, ⟨v, r, e, h, g⟩ => by
    rw [e, show v = V.str z from h, DAll.of_strs g] <;> rfl
section
variable {P : Program} {w : World} {K : PySem.W.Frag} {mg : Str → Option Value} {base : Heap}
def sp_is_whole : Sp := fun vs H Q _ => ∃ (v : V) (d : PyData), vs = [v] ∧ DAt H d v ∧ Q (.bl (wholeD d)) H
theorem ok_is_whole (T : Txt K mg) : FnOk P w K mg base CX0 1 T.f_is_whole T.fd_is_whole ["thing"] sp_is_whole := by
  refine T.F_is_whole.ok sc_is_whole (fun vs H Q E h => ?_) (fun cdv A outer s H vs Q E hr h => ?_)
  · obtain ⟨v, d, rfl, _⟩ := h
    rfl
  · obtain ⟨v, d, rfl, hd, q⟩ := h
    refine ⟨_, (pss_one
 (ps_ret (pe_and (pe_callB call_isi (by rfl) T.z_isinstance (by decide +kernel) (pa_cons (pv 0) (pa_cons (pe_bltn (v := .ty "int") (u := .type "int") rfl T.z_int (by decide +kernel) rfl) pa_nil))) (pe_one (pe_not (pe_callB call_isi (by rfl) T.z_isinstance (by decide +kernel) (pa_cons (pv 0) (pa_cons (pe_bltn (v := .ty "bool") (u := .type "bool") rfl T.z_bool (by decide +kernel) rfl) pa_nil)))))))), ?_⟩
    obtain ⟨t, ht, _, _, k3, k4⟩ := hd.ty (K := K)
    refine ⟨v, rfl, v, _, t, _, dI d, rfl, .ty _, ht, k3, dI d, rfl, ?_⟩
    have e : (if dI d = true then !dB d else false) = wholeD d := by cases d <;> rfl
    rw [← e] at q
    cases h1 : dI d with
    | false =>
      rw [h1] at q
      exact iteF q
    | true =>
      rw [h1] at q
      exact iteT ⟨v, rfl, v, _, t, _, dB d, rfl, .ty _, ht, k4, dB d, rfl, q⟩
def sp_is_tuple_of : Sp := fun vs H Q _ => ∃ (v : V) (n : Nat) (d : PyData), vs = [v, .int n] ∧ DAt H d v ∧ Q (.bl (tupD d n)) H
theorem ok_is_tuple_of (T : Txt K mg) : FnOk P w K mg base CX0 1 T.f_is_tuple_of T.fd_is_tuple_of ["thing", "many"] sp_is_tuple_of := by
  refine T.F_is_tuple_of.ok sc_is_tuple_of (fun vs H Q E h => ?_) (fun cdv A outer s H vs Q E hr h => ?_)
  · obtain ⟨v, n, d, rfl, _⟩ := h
    rfl
  · obtain ⟨v, n, d, rfl, hd, q⟩ := h
    refine ⟨_, (pss_one
 (ps_ret (pe_and (pe_callB call_isi (by rfl) T.z_isinstance (by decide +kernel) (pa_cons (pv 0) (pa_cons (pe_bltn (v := .ty "tuple") (u := .type "tuple") rfl T.z_tuple (by decide +kernel) rfl) pa_nil))) (pe_one (pe_cmpR op_eq (pe_callB call_len_seq (by rfl) T.z_len (by decide +kernel) (pa_cons (pv 0) pa_nil)) (pv 1) (nomark _)))))), ?_⟩
    obtain ⟨t, ht, k1, _⟩ := hd.ty (K := K)
    refine ⟨v, rfl, v, _, t, _, dT d, rfl, .ty _, ht, k1, dT d, rfl, ?_⟩
    cases d with
    | tuple l =>
      obtain ⟨p, xs, rfl, hp, ha⟩ := hd
      refine iteT ⟨.ref p, rfl, p, _, rfl, .inr (.of hp), .int n, rfl, rfl, ?_⟩
      rw [ha.len]
      have e : decide (V.int (l.length : Int) = V.int (n : Int)) = decide (l.length = n) := decide_eq_decide.mpr ⟨fun h => by have := V.int.inj h; omega, fun h => by rw [h]⟩
      rw [e]
      exact q
    | _ => exact iteF q
def sp_is_option : Sp := fun vs H Q _ => ∃ (o : Addr) (zs : List Str) (v : V) (d : PyData), vs = [.ref o, v] ∧ H o = some (.tup (zs.map V.str)) ∧ DAt H d v ∧ Q (.bl (optD zs d)) H
theorem ok_is_option (T : Txt K mg) : FnOk P w K mg base CX0 1 T.f_is_option T.fd_is_option ["options", "thing"] sp_is_option := by
  refine T.F_is_option.ok sc_is_option (fun vs H Q E h => ?_) (fun cdv A outer s H vs Q E hr h => ?_)
  · obtain ⟨o, zs, v, d, rfl, _⟩ := h
    rfl
  · obtain ⟨o, zs, v, d, rfl, ho, hd, q⟩ := h
    refine ⟨_, (pss_one
 (ps_ret (pe_and (pe_callB call_isi (by rfl) T.z_isinstance (by decide +kernel) (pa_cons (pv 1) (pa_cons (pe_bltn (v := .ty "str") (u := .type "str") rfl T.z_str (by decide +kernel) rfl) pa_nil))) (pe_one (pe_cmpR op_in_seq (pv 1) (pv 0) rfl))))), ?_⟩
    obtain ⟨t, ht, _, k2, _⟩ := hd.ty (K := K)
    refine ⟨v, rfl, v, _, t, _, dS d, rfl, .ty _, ht, k2, dS d, rfl, ?_⟩
    cases d with
    | str z =>
      rw [show v = V.str z from hd]
      refine iteT ⟨.str z, rfl, .ref o, rfl, o, _, rfl, .inr (.of ho), rfl, flat_strs zs, ?_⟩
      show Q (.bl (inV (.str z) (zs.map V.str))) H
      rw [inV_str]
      exact q
    | _ => exact iteF q
def sp_are_unlike_options : Sp := fun vs H Q _ => ∃ (o p : Addr) (zs : List Str) (xs : List V) (ds : List PyData), vs = [.ref o, .ref p] ∧ H o = some (.tup (zs.map V.str)) ∧ (H p = some (.lst xs) ∨ H p = some (.tup xs)) ∧ DAll H ds xs ∧ ds.length ≤ 500 ∧ ∀ H', Same H H' → Q (.bl (unlikeD zs ds)) H'
theorem ok_are_unlike_options (T : Txt K mg) : FnOk P w K mg base CX0 2 T.f_are_unlike_options T.fd_are_unlike_options ["options", "names"] sp_are_unlike_options := by
  refine T.F_are_unlike_options.ok sc_are_unlike_options (fun vs H Q E h => ?_) (fun cdv A outer s H vs Q E hr h => ?_)
  · obtain ⟨o, p, zs, xs, ds, rfl, _⟩ := h
    rfl
  · obtain ⟨o, p, zs, xs, ds, rfl, ho, hp, ha, hl, q⟩ := h
    refine ⟨_, (pss_one
 (ps_ret (pe_and (pe_callB (cr_all rfl) (by rfl) T.z_all (by decide +kernel) (pa_cons (pe_lc (own := [("name", 2)]) (g := gName 2) (tt := tYes) rfl sc_are_unlike_options.nd (pi_or (pi_list (pv 1)) (pi_tup (pv 1))) (blkOk_by (own := [("name", 2)]) (N := ["options", "names", "name"]) (sc := (defScope s_are_unlike_options)) (by decide +kernel)) (fun _ _ _ _ _ => pg_name (i := 2) sc_are_unlike_options.nd rfl (Or.inl rfl)) (fun _ _ _ _ _ => pts_nil) (fun _ _ _ _ _ => (pe_call (ok_is_option T) (hr.mono (by decide)) (by rfl) T.g_is_option T.F_is_option.kp T.b_is_option .nil pass0 (pa_cons (pv 0) (pa_cons (pv 2) pa_nil))))) pa_nil)) (pe_one (pe_cmpR op_eq (pe_unlike rfl (by rfl) T.z_len (by rfl) T.z_set (pv 1)) (pe_callB call_len_seq (by rfl) T.z_len (by decide +kernel) (pa_cons (pv 1) pa_nil)) (nomark _)))))), ?_⟩
    have lx : xs.length = ds.length := ha.len
    -- behind the comprehension
    have go : ∀ (H1 : Hp), Same H H1 → ∀ (R : VK), (∀ b H', Same H H' → b = unlikeD zs ds → R (.bl b) H') →
        (ds.all (optD zs) = false → R (.bl false) H1) ∧ (ds.all (optD zs) = true → ∀ b, b = decide (V.int ((met (ds.filterMap unS)).length : Int) = V.int (xs.length : Int)) → R (.bl b) H1) := by
      intro H1 s1 R c
      refine ⟨fun e => c _ _ s1 ?_, fun e b hb => c _ _ s1 ?_⟩
      · unfold unlikeD
        rw [e] <;> rfl
      · have es := opt_strs e
        have el : (ds.filterMap unS).length = ds.length := by
          have := congrArg List.length es
          rw [List.length_map] at this
          exact this.symm
        unfold unlikeD
        rw [e, Bool.true_and, ← met_iff, hb]
        exact decide_eq_decide.mpr ⟨fun h => by have := V.int.inj h; omega, fun h => by rw [h, el, ← lx]⟩
    have turn : ∀ (D : Addr) (nD : H D = none) (i : Nat) (x : V) (H1 : Hp), xs[i]? = some x → (Same H H1 ∧ H1 D = some (.lst (((ds.take i).map (optD zs)).map V.bl))) → ∃ kk, ds[i]? = some kk ∧ DAt H1 kk x ∧ H1 o = some (.tup (zs.map V.str)) ∧
        H1 D = some (.lst (((ds.take i).map (optD zs)).map V.bl)) ∧ (((ds.take i).map (optD zs)).map V.bl).length < sizeLine ∧ Same H (upd H1 D (.lst (((ds.take i).map (optD zs)).map V.bl ++ [V.bl (optD zs kk)]))) ∧
        (upd H1 D (.lst (((ds.take i).map (optD zs)).map V.bl ++ [V.bl (optD zs kk)]))) D = some (.lst (((ds.take (i + 1)).map (optD zs)).map V.bl)) := by
      rintro D nD i x H1 hi ⟨s1, e1⟩
      obtain ⟨kk, hkk, hx⟩ := ha.get hi
      refine ⟨kk, hkk, DAt.same s1 _ hx, s1 _ _ ho, e1, ?_, same_mut s1 nD, ?_⟩
      · rw [List.length_map, List.length_map, List.length_take]
        exact small1000 (by omega)
      · rw [upd_same, take_more hkk, List.map_append, List.map_append]
        rfl
    rcases hp with hp | hp
    · refine .inl ⟨.ref p, rfl, p, rfl, ⟨_, .of hp⟩, fun D nD => ?_⟩
      refine lc_list (K := K) (a := p) (xs := xs) (fun i H' => Same H H' ∧ H' D = some (.lst (((ds.take i).map (optD zs)).map V.bl))) ⟨same_upd nD, upd_same⟩ (fun _ _ _ h => .of (h.1 _ _ hp)) ?_ ?_
      · intro i x H1 hi h
        obtain ⟨kk, hkk, hx, ho1, e1, z1, z2, z3⟩ := turn D nD i x H1 hi h
        exact ⟨rfl, .ref o, rfl, x, rfl, o, zs, x, kk, rfl, ho1, hx, _, e1, z1, z2, z3⟩
      · rintro H1 ⟨s1, e1⟩
        rw [lx, List.take_length] at e1
        refine ⟨D, _, rfl, .of e1, _, rfl, ?_⟩
        have ea : (ds.map (optD zs)).all id = ds.all (optD zs) := by rw [List.all_map]; rfl
        rw [ea]
        obtain ⟨g1, g2⟩ := go H1 s1 Q (fun b H' s e => by rw [e]; exact q _ s)
        cases hs : ds.all (optD zs) with
        | false => exact iteF (g1 hs)
        | true =>
          have es := opt_strs hs
          have ex : xs = (ds.filterMap unS).map V.str := by rw [es] at ha; exact ha.of_strs
          have lw : (ds.filterMap unS).length ≤ 500 := Nat.le_trans (List.length_filterMap_le _ _) hl
          exact iteT ⟨.ref p, rfl, p, ds.filterMap unS, rfl, .inl (.of (by rw [← ex]; exact s1 _ _ hp)), by omega, .ref p, rfl, p, _, rfl, .inl (.of (s1 _ _ hp)), rfl, g2 hs _ rfl⟩
    · refine .inr ⟨.ref p, rfl, p, rfl, ⟨_, .of hp⟩, fun D nD => ?_⟩
      refine lc_tup (K := K) (a := p) (xs := xs) (fun i H' => Same H H' ∧ H' D = some (.lst (((ds.take i).map (optD zs)).map V.bl))) ⟨same_upd nD, upd_same⟩ (fun _ _ _ h => .of (h.1 _ _ hp)) ?_ ?_
      · intro i x H1 hi h
        obtain ⟨kk, hkk, hx, ho1, e1, z1, z2, z3⟩ := turn D nD i x H1 hi h
        exact ⟨rfl, .ref o, rfl, x, rfl, o, zs, x, kk, rfl, ho1, hx, _, e1, z1, z2, z3⟩
      · rintro H1 ⟨s1, e1⟩
        rw [lx, List.take_length] at e1
        refine ⟨D, _, rfl, .of e1, _, rfl, ?_⟩
        have ea : (ds.map (optD zs)).all id = ds.all (optD zs) := by rw [List.all_map]; rfl
        rw [ea]
        obtain ⟨g1, g2⟩ := go H1 s1 Q (fun b H' s e => by rw [e]; exact q _ s)
        cases hs : ds.all (optD zs) with
        | false => exact iteF (g1 hs)
        | true =>
          have es := opt_strs hs
          have ex : xs = (ds.filterMap unS).map V.str := by rw [es] at ha; exact ha.of_strs
          have lw : (ds.filterMap unS).length ≤ 500 := Nat.le_trans (List.length_filterMap_le _ _) hl
          exact iteT ⟨.ref p, rfl, p, ds.filterMap unS, rfl, .inr (.of (by rw [← ex]; exact s1 _ _ hp)), by omega, .ref p, rfl, p, _, rfl, .inr (.of (s1 _ _ hp)), rfl, g2 hs _ rfl⟩
end
section
variable {P : Program} {w : World} {K : PySem.W.Frag} {mg : Str → Option Value} {base : Heap}
def sp_is_mark : Sp := fun vs H Q _ => ∃ (v : V) (d : PyData), vs = [v] ∧ DAt H d v ∧ Q (.bl (markD d)) H
theorem ok_is_mark (T : Txt K mg) : FnOk P w K mg base CX0 2 T.f_is_mark T.fd_is_mark ["thing"] sp_is_mark := by
  refine T.F_is_mark.ok sc_is_mark (fun vs H Q E h => ?_) (fun cdv A outer s H vs Q E hr h => ?_)
  · obtain ⟨v, d, rfl, _⟩ := h
    rfl
  · obtain ⟨v, d, rfl, hd, q⟩ := h
    refine ⟨_, (pss_one
 (ps_ret (pe_and (pe_call (ok_is_whole T) (hr.mono (by decide)) (by rfl) T.g_is_whole T.F_is_whole.kp T.b_is_whole .nil pass0 (pa_cons (pv 0) pa_nil)) (pe_one (pe_chain op_le op_le pe_int (pv 0) (pe_glob (v := .int 9) rfl T.c_GREATEST_MARK ⟨_, rfl⟩)))))), ?_⟩
    refine ⟨v, rfl, v, d, rfl, hd, wholeD d, rfl, ?_⟩
    cases d with
    | int i =>
      rw [show v = V.int i from hd]
      have e : markD (.int i) = if decide (0 ≤ i) = true then decide (i ≤ 9) else false := by
        show (decide (0 ≤ i) && decide (i ≤ 9)) = _
        by_cases h : 0 ≤ i <;> simp [h]
      rw [e] at q
      refine iteT ⟨.int i, rfl, _, _, rfl, rfl, _, rfl, ?_⟩
      by_cases h : 0 ≤ i
      · rw [decide_eq_true h] at q ⊢
        exact iteT ⟨_, _, rfl, rfl, q⟩
      · rw [decide_eq_false h] at q ⊢
        exact iteF q
    | _ => exact iteF q
/-- a tuple of which no part is long -/
def Wide (ds : List PyData) : Prop := ds.length ≤ 20 ∧ ∀ d ∈ ds, (parts d).length ≤ 20
def sp_are_tiers : Sp := fun vs H Q _ => ∃ (o t : Addr) (zs : List Str) (xs : List V) (ds : List PyData), vs = [.ref o, .ref t] ∧ H o = some (.tup (zs.map V.str)) ∧ H t = some (.tup xs) ∧ DAll H ds xs ∧ Wide ds ∧ ∀ H', Same H H' → Q (.bl (tiersD zs ds)) H'
theorem flat_le {ds : List PyData} (h : Wide ds) : (ds.flatMap parts).length ≤ 400 := by
  obtain ⟨h1, h2⟩ := h
  have : ∀ l : List PyData, (∀ d ∈ l, (parts d).length ≤ 20) → (l.flatMap parts).length ≤ 20 * l.length := by
    intro l
    induction l with
    | nil => intro _; exact Nat.le_refl _
    | cons a l ih =>
      intro g
      have a1 := g a List.mem_cons_self
      have a2 := ih fun d hd => g d (List.mem_cons_of_mem _ hd)
      rw [List.flatMap_cons, List.length_append, List.length_cons]
      omega
  have := this ds h2
  omega
theorem ok_are_tiers (T : Txt K mg) : FnOk P w K mg base CX0 3 T.f_are_tiers T.fd_are_tiers ["options", "told"] sp_are_tiers := by
  refine T.F_are_tiers.ok sc_are_tiers (fun vs H Q E h => ?_) (fun cdv A outer s H vs Q E hr h => ?_)
  · obtain ⟨o, t, zs, xs, ds, rfl, _⟩ := h
    rfl
  · obtain ⟨o, t, zs, xs, ds, rfl, ho, ht, ha, hw, q⟩ := h
    refine ⟨_, (pss_cons
 (ps_if (pt_not (pt_val (pe_callB (cr_all rfl) (by rfl) T.z_all (by decide +kernel) (pa_cons (pe_lc (own := [("tier", 2)]) (g := gName 2) (tt := tYes) rfl sc_are_tiers.nd (pi_tup (pv 1)) (blkOk_by (own := [("tier", 2)]) (N := ["options", "told", "tier", "name"]) (sc := (defScope s_are_tiers)) (by decide +kernel)) (fun _ _ _ _ _ => pg_name (i := 2) sc_are_tiers.nd rfl (Or.inl rfl)) (fun _ _ _ _ _ => pts_nil) (fun s0 H0 C0 cl0 fp0 => (by have h := ((pe_and (pe_callB call_isi (by rfl) T.z_isinstance (by decide +kernel) (pa_cons (pv 2) (pa_cons (pe_bltn (v := .ty "tuple") (u := .type "tuple") rfl T.z_tuple (by decide +kernel) rfl) pa_nil))) (pe_one (pe_cmpR op_gt (pe_callB call_len_seq (by rfl) T.z_len (by decide +kernel) (pa_cons (pv 2) pa_nil)) pe_int (nomark _)))) : PE ((cxOf CX0 P w K mg base ["options", "told", "tier", "name"] "are_tiers" (defScope s_are_tiers) T.f_are_tiers cdv A outer s H E).nox.blk s0 H0 (lcScope (subE (subE (rootE ((defBody s_are_tiers).getD 0 (.Pass ⟨0, 0, 0, 0⟩))) 0) 1)) (compEnvC (lcScope (subE (subE (rootE ((defBody s_are_tiers).getD 0 (.Pass ⟨0, 0, 0, 0⟩))) 0) 1)) cl0 C0 (cxOf CX0 P w K mg base ["options", "told", "tier", "name"] "are_tiers" (defScope s_are_tiers) T.f_are_tiers cdv A outer s H E).nox.env) fp0) (subE (subE (subE (rootE ((defBody s_are_tiers).getD 0 (.Pass ⟨0, 0, 0, 0⟩))) 0) 1) 0) _); dsimp only [Cx.blk, Cx.tr, Cx.suite, Cx.nox, Cx.wish, cxOf] at h; exact h))) pa_nil))))
 (pss_one
 (ps_ret pe_bl))
 pss_nil)
 (pss_one
 (ps_ret (pe_call (ok_are_unlike_options T) (hr.mono (by decide)) (by rfl) T.g_are_unlike_options T.F_are_unlike_options.kp T.b_are_unlike_options .nil pass0 (pa_cons (pv 0) (pa_cons (pe_lc2 (own := [("tier", 2), ("name", 3)]) (vs1 := [3]) (g := gName 2) (g1 := gName 3) (tt := tYes) (tt1 := tYes) rfl sc_are_tiers.nd (pi_tup (pv 1)) (blkOk_by (own := [("tier", 2), ("name", 3)]) (N := ["options", "told", "tier", "name"]) (sc := (defScope s_are_tiers)) (by decide +kernel)) (by decide) (fun _ _ _ _ _ => pg_name (i := 2) sc_are_tiers.nd rfl (Or.inl rfl)) (fun _ _ _ _ _ => pts_nil) (fun s0 H0 C0 cl0 fp0 => (by have h := ((pi_tup (pv 2)) : PI ((cxOf CX0 P w K mg base ["options", "told", "tier", "name"] "are_tiers" (defScope s_are_tiers) T.f_are_tiers cdv A outer s H E).nox.blk s0 H0 (lcScope (subE (rootE ((defBody s_are_tiers).getD 1 (.Pass ⟨0, 0, 0, 0⟩))) 2)) (compEnvC (lcScope (subE (rootE ((defBody s_are_tiers).getD 1 (.Pass ⟨0, 0, 0, 0⟩))) 2)) cl0 C0 (cxOf CX0 P w K mg base ["options", "told", "tier", "name"] "are_tiers" (defScope s_are_tiers) T.f_are_tiers cdv A outer s H E).nox.env) fp0) (lcG (subE (rootE ((defBody s_are_tiers).getD 1 (.Pass ⟨0, 0, 0, 0⟩))) 2) 1).target (lcG (subE (rootE ((defBody s_are_tiers).getD 1 (.Pass ⟨0, 0, 0, 0⟩))) 2) 1).iter _); dsimp only [Cx.blk, Cx.tr, Cx.suite, Cx.nox, Cx.wish, cxOf] at h; exact h)) (fun _ _ _ _ _ => pg_name (i := 3) sc_are_tiers.nd rfl (Or.inl rfl)) (fun _ _ _ _ _ => pts_nil) (fun _ _ _ _ _ => (pv 3))) pa_nil)))))), ?_⟩
    have lx : xs.length = ds.length := ha.len
    have l20 := hw.1
    refine ⟨.ref t, rfl, t, rfl, ⟨_, .of ht⟩, fun D nD => ?_⟩
    refine lc_tup (K := K) (a := t) (xs := xs) (fun i H' => Same H H' ∧ H' D = some (.lst (((ds.take i).map tierD).map V.bl))) ⟨same_upd nD, upd_same⟩ (fun _ _ _ h => .of (h.1 _ _ ht)) ?_ ?_
    · rintro i x H1 hi ⟨s1, e1⟩
      obtain ⟨kk, hkk, hx⟩ := ha.get hi
      have hx := DAt.same s1 _ hx
      obtain ⟨ty, hty, k1, _⟩ := hx.ty (K := K)
      have fin : ∀ b, b = tierD kk → ∃ acc, H1 D = some (.lst acc) ∧ acc.length < sizeLine ∧ Same H (upd H1 D (.lst (acc ++ [V.bl b]))) ∧ (upd H1 D (.lst (acc ++ [V.bl b]))) D = some (.lst (((ds.take (i + 1)).map tierD).map V.bl)) := fun b e => by
        refine ⟨_, e1, ?_, same_mut s1 nD, ?_⟩
        · rw [List.length_map, List.length_map, List.length_take]
          exact small1000 (by omega)
        · rw [upd_same, take_more hkk, List.map_append, List.map_append, e]
          rfl
      refine ⟨rfl, x, rfl, x, _, ty, _, dT kk, rfl, .ty _, hty, k1, dT kk, rfl, ?_⟩
      cases kk with
      | tuple l =>
        obtain ⟨a1, ys, rfl, h1, h2⟩ := hx
        refine iteT ⟨.ref a1, rfl, a1, _, rfl, .inr (.of h1), _, _, rfl, rfl, fin _ ?_⟩
        rw [h2.len]
        exact decide_eq_decide.mpr ⟨fun h => by omega, fun h => by omega⟩
      | _ => exact iteF (fin _ rfl)
    · rintro H1 ⟨s1, e1⟩
      rw [lx, List.take_length] at e1
      refine ⟨D, _, rfl, .of e1, _, rfl, ?_⟩
      have ea : (ds.map tierD).all id = ds.all tierD := by rw [List.all_map]; rfl
      rw [ea]
      cases hs : ds.all tierD with
      | false =>
        refine iteT ?_
        have := q H1 s1
        unfold tiersD at this
        rw [hs] at this
        exact this
      | true =>
        have q : ∀ H', Same H H' → Q (.bl (unlikeD zs (ds.flatMap parts))) H' := fun H' s' => by
          have := q H' s'
          unfold tiersD at this
          rw [hs] at this
          exact this
        refine iteF ⟨.ref o, rfl, .ref t, rfl, t, rfl, ⟨_, .of (s1 _ _ ht)⟩, fun D2 nD2 => ?_⟩
        have every : ∀ {i : Nat} {k : PyData}, ds[i]? = some k → ∃ l, k = .tuple l := fun {i k} h => by
          have := List.all_eq_true.mp hs _ (List.mem_of_getElem? h)
          cases k with
          | tuple l => exact ⟨l, rfl⟩
          | _ => cases this
        refine outer_tup (K := K) (a := t) (xs := xs) (fun i H' => ∃ ys, Same H1 H' ∧ H' D2 = some (.lst ys) ∧ DAll H1 ((ds.take i).flatMap parts) ys) ⟨[], same_upd nD2, upd_same, rfl⟩ (fun _ _ ⟨_, h, _⟩ => .of (h _ _ (s1 _ _ ht))) ?_ ?_
        · rintro i x H2 hi ⟨ys, s2, e2, d2⟩
          obtain ⟨kk, hkk, hx⟩ := ha.get hi
          obtain ⟨l, rfl⟩ := every hkk
          obtain ⟨a1, us, rfl, h1, h2⟩ := hx
          have h1 := s1 _ _ h1
          have h2 := DAll.same s1 _ h2
          have lu : us.length = l.length := h2.len
          refine ⟨rfl, .ref a1, rfl, a1, rfl, ⟨_, .of (s2 _ _ h1)⟩, inner_tup (K := K) (b := a1) (ys := us) (fun j H' => ∃ zs', Same H1 H' ∧ H' D2 = some (.lst (ys ++ zs')) ∧ DAll H1 (l.take j) zs') ⟨[], s2, by rw [List.append_nil]; exact e2, rfl⟩ (fun _ _ ⟨_, h, _⟩ => .of (h _ _ h1)) ?_ ?_⟩
          · rintro j u H3 hj ⟨zs', s3, e3, d3⟩
            obtain ⟨ku, hku, hu⟩ := h2.get hj
            refine ⟨rfl, u, rfl, _, e3, ?_, zs' ++ [u], same_mut s3 nD2, by rw [upd_same, List.append_assoc], ?_⟩
            · have z1 := d2.len
              have z2 := d3.len
              have z3 : ((ds.take i).flatMap parts).length ≤ 400 := flat_le ⟨by rw [List.length_take]; omega, fun d hd => hw.2 d (List.mem_of_mem_take hd)⟩
              have z4 := hw.2 _ (List.mem_of_getElem? hkk)
              have z5 : (parts (.tuple l)).length = l.length := rfl
              rw [List.length_take] at z2
              rw [List.length_append]
              exact small1000 (by omega)
            · rw [take_more hku]
              exact d3.append (da1 hu da0)
          · rintro H3 ⟨zs', s3, e3, d3⟩
            rw [lu, List.take_length] at d3
            refine ⟨_, s3, e3, ?_⟩
            rw [take_more hkk, List.flatMap_append]
            exact d2.append (by simpa [parts] using d3)
        · rintro H2 ⟨ys, s2, e2, d2⟩
          rw [lx, List.take_length] at d2
          exact ⟨o, D2, zs, ys, _, rfl, s2 _ _ (s1 _ _ ho), .inl e2, DAll.same s2 _ d2, by have := flat_le hw; omega, fun H3 s3 => q H3 (s1.trans (s2.trans s3))⟩
end
section
variable {P : Program} {w : World} {K : PySem.W.Frag} {mg : Str → Option Value} {base : Heap}
theorem tupD_two : ∀ {d : PyData}, tupD d 2 = true → ∃ a b, d = .tuple [a, b]
  | .tuple [a, b], _ => ⟨a, b, rfl⟩
  | .tuple [], h => (by cases h)
  | .tuple [_], h => (by cases h)
  | .tuple (_ :: _ :: _ :: _), h => (by simp [tupD] at h)
  | .none, h => (by cases h)
  | .bool _, h => (by cases h)
  | .int _, h => (by cases h)
  | .str _, h => (by cases h)
  | .list _, h => (by cases h)
  | .dict _, h => (by cases h)
theorem pairD_two {d : PyData} (h : tupD d 2 = false) : pairD d = false := by
  unfold pairD
  split
  · simp [tupD] at h
  · rfl
theorem ballotD_two {zs : List Str} {d : PyData} (h : tupD d 2 = false) : ballotD zs d = false := by
  unfold ballotD
  split
  · simp [tupD] at h
  · rfl
def sp_are_marks : Sp := fun vs H Q _ => ∃ (o t : Addr) (zs : List Str) (xs : List V) (ds : List PyData), vs = [.ref o, .ref t] ∧ H o = some (.tup (zs.map V.str)) ∧ H t = some (.tup xs) ∧ DAll H ds xs ∧ ds.length ≤ 20 ∧ ∀ H', Same H H' → Q (.bl (marksD zs ds)) H'
theorem ok_are_marks (T : Txt K mg) : FnOk P w K mg base CX0 3 T.f_are_marks T.fd_are_marks ["options", "told"] sp_are_marks := by
  refine T.F_are_marks.ok sc_are_marks (fun vs H Q E h => ?_) (fun cdv A outer s H vs Q E hr h => ?_)
  · obtain ⟨o, t, zs, xs, ds, rfl, _⟩ := h
    rfl
  · obtain ⟨o, t, zs, xs, ds, rfl, ho, ht, ha, l20, q⟩ := h
    refine ⟨_, (pss_cons
 (ps_if (pt_not (pt_val (pe_callB (cr_all rfl) (by rfl) T.z_all (by decide +kernel) (pa_cons (pe_lc (own := [("pair", 2)]) (g := gName 2) (tt := tYes) rfl sc_are_marks.nd (pi_tup (pv 1)) (blkOk_by (own := [("pair", 2)]) (N := ["options", "told", "pair"]) (sc := (defScope s_are_marks)) (by decide +kernel)) (fun _ _ _ _ _ => pg_name (i := 2) sc_are_marks.nd rfl (Or.inl rfl)) (fun _ _ _ _ _ => pts_nil) (fun s0 H0 C0 cl0 fp0 => (by have h := ((pe_and (pe_call (ok_is_tuple_of T) (hr.mono (by decide)) (by rfl) T.g_is_tuple_of T.F_is_tuple_of.kp T.b_is_tuple_of .nil pass0 (pa_cons (pv 2) (pa_cons pe_int pa_nil))) (pe_one (pe_call (ok_is_mark T) (hr.mono (by decide)) (by rfl) T.g_is_mark T.F_is_mark.kp T.b_is_mark .nil pass0 (pa_cons (pe_ix ix_tup (pv 2) pe_int (fun _ _ => rfl)) pa_nil)))) : PE ((cxOf CX0 P w K mg base ["options", "told", "pair"] "are_marks" (defScope s_are_marks) T.f_are_marks cdv A outer s H E).nox.blk s0 H0 (lcScope (subE (subE (rootE ((defBody s_are_marks).getD 0 (.Pass ⟨0, 0, 0, 0⟩))) 0) 1)) (compEnvC (lcScope (subE (subE (rootE ((defBody s_are_marks).getD 0 (.Pass ⟨0, 0, 0, 0⟩))) 0) 1)) cl0 C0 (cxOf CX0 P w K mg base ["options", "told", "pair"] "are_marks" (defScope s_are_marks) T.f_are_marks cdv A outer s H E).nox.env) fp0) (subE (subE (subE (rootE ((defBody s_are_marks).getD 0 (.Pass ⟨0, 0, 0, 0⟩))) 0) 1) 0) _); dsimp only [Cx.blk, Cx.tr, Cx.suite, Cx.nox, Cx.wish, cxOf] at h; exact h))) pa_nil))))
 (pss_one
 (ps_ret pe_bl))
 pss_nil)
 (pss_one
 (ps_ret (pe_call (ok_are_unlike_options T) (hr.mono (by decide)) (by rfl) T.g_are_unlike_options T.F_are_unlike_options.kp T.b_are_unlike_options .nil pass0 (pa_cons (pv 0) (pa_cons (pe_lc (own := [("pair", 2)]) (g := gName 2) (tt := tYes) rfl sc_are_marks.nd (pi_tup (pv 1)) (blkOk_by (own := [("pair", 2)]) (N := ["options", "told", "pair"]) (sc := (defScope s_are_marks)) (by decide +kernel)) (fun _ _ _ _ _ => pg_name (i := 2) sc_are_marks.nd rfl (Or.inl rfl)) (fun _ _ _ _ _ => pts_nil) (fun s0 H0 C0 cl0 fp0 => (by have h := ((pe_ix ix_tup (pv 2) pe_int (fun _ _ => rfl)) : PE ((cxOf CX0 P w K mg base ["options", "told", "pair"] "are_marks" (defScope s_are_marks) T.f_are_marks cdv A outer s H E).nox.blk s0 H0 (lcScope (subE (rootE ((defBody s_are_marks).getD 1 (.Pass ⟨0, 0, 0, 0⟩))) 2)) (compEnvC (lcScope (subE (rootE ((defBody s_are_marks).getD 1 (.Pass ⟨0, 0, 0, 0⟩))) 2)) cl0 C0 (cxOf CX0 P w K mg base ["options", "told", "pair"] "are_marks" (defScope s_are_marks) T.f_are_marks cdv A outer s H E).nox.env) fp0) (subE (subE (rootE ((defBody s_are_marks).getD 1 (.Pass ⟨0, 0, 0, 0⟩))) 2) 0) _); dsimp only [Cx.blk, Cx.tr, Cx.suite, Cx.nox, Cx.wish, cxOf] at h; exact h))) pa_nil)))))), ?_⟩
    have lx : xs.length = ds.length := ha.len
    refine ⟨.ref t, rfl, t, rfl, ⟨_, .of ht⟩, fun D nD => ?_⟩
    refine lc_tup (K := K) (a := t) (xs := xs) (fun i H' => Same H H' ∧ H' D = some (.lst (((ds.take i).map pairD).map V.bl))) ⟨same_upd nD, upd_same⟩ (fun _ _ _ h => .of (h.1 _ _ ht)) ?_ ?_
    · rintro i x H1 hi ⟨s1, e1⟩
      obtain ⟨kk, hkk, hx⟩ := ha.get hi
      have hx := DAt.same s1 _ hx
      have fin : ∀ b, b = pairD kk → ∃ acc, H1 D = some (.lst acc) ∧ acc.length < sizeLine ∧ Same H (upd H1 D (.lst (acc ++ [V.bl b]))) ∧ (upd H1 D (.lst (acc ++ [V.bl b]))) D = some (.lst (((ds.take (i + 1)).map pairD).map V.bl)) := fun b e => by
        refine ⟨_, e1, ?_, same_mut s1 nD, ?_⟩
        · rw [List.length_map, List.length_map, List.length_take]
          exact small1000 (by omega)
        · rw [upd_same, take_more hkk, List.map_append, List.map_append, e]
          rfl
      refine ⟨rfl, x, rfl, x, 2, kk, rfl, hx, tupD kk 2, rfl, ?_⟩
      cases h2 : tupD kk 2 with
      | false => exact iteF (fin _ (pairD_two h2).symm)
      | true =>
        obtain ⟨a, b, rfl⟩ := tupD_two h2
        obtain ⟨a1, ys, rfl, h1, v0, r, rfl, _, v1, r2, rfl, hb, rfl⟩ := hx
        exact iteT ⟨.ref a1, rfl, a1, _, 1, v1, rfl, rfl, .of h1, atI_nat (j := 1) rfl, v1, b, rfl, hb, fin _ rfl⟩
    · rintro H1 ⟨s1, e1⟩
      rw [lx, List.take_length] at e1
      refine ⟨D, _, rfl, .of e1, _, rfl, ?_⟩
      have ea : (ds.map pairD).all id = ds.all pairD := by rw [List.all_map]; rfl
      rw [ea]
      cases hs : ds.all pairD with
      | false =>
        refine iteT ?_
        have := q H1 s1
        unfold marksD at this
        rw [hs] at this
        exact this
      | true =>
        have q : ∀ H', Same H H' → Q (.bl (unlikeD zs (ds.map firstD))) H' := fun H' s' => by
          have := q H' s'
          unfold marksD at this
          rw [hs] at this
          exact this
        refine iteF ⟨.ref o, rfl, .ref t, rfl, t, rfl, ⟨_, .of (s1 _ _ ht)⟩, fun D2 nD2 => ?_⟩
        refine lc_tup (K := K) (a := t) (xs := xs) (fun i H' => ∃ ys, Same H1 H' ∧ H' D2 = some (.lst ys) ∧ DAll H1 ((ds.take i).map firstD) ys) ⟨[], same_upd nD2, upd_same, rfl⟩ (fun _ _ _ ⟨_, h, _⟩ => .of (h _ _ (s1 _ _ ht))) ?_ ?_
        · rintro i x H2 hi ⟨ys, s2, e2, d2⟩
          obtain ⟨kk, hkk, hx⟩ := ha.get hi
          have hp := List.all_eq_true.mp hs _ (List.mem_of_getElem? hkk)
          have h2 : tupD kk 2 = true := by
            cases h : tupD kk 2 with
            | true => rfl
            | false => rw [pairD_two h] at hp; cases hp
          obtain ⟨a, b, rfl⟩ := tupD_two h2
          obtain ⟨a1, us, rfl, h1, v0, r, rfl, hv, v1, r2, rfl, _, rfl⟩ := hx
          refine ⟨rfl, .ref a1, rfl, a1, _, 0, v0, rfl, rfl, .of ((s1.trans s2) _ _ h1), atI_nat (j := 0) rfl, _, e2, ?_, ys ++ [v0], same_mut s2 nD2, upd_same, ?_⟩
          · rw [d2.len, List.length_map, List.length_take]
            exact small1000 (by omega)
          · rw [take_more hkk, List.map_append]
            exact d2.append (da1 (DAt.same s1 _ hv) da0)
        · rintro H2 ⟨ys, s2, e2, d2⟩
          rw [lx, List.take_length] at d2
          exact ⟨o, D2, zs, ys, _, rfl, s2 _ _ (s1 _ _ ho), .inl e2, DAll.same s2 _ d2, by rw [List.length_map]; omega, fun H3 s3 => q H3 (s1.trans (s2.trans s3))⟩
/-- no part too long: what a ballot's second half may be -/
def Fit : PyData → Prop
  | .tuple [_, .tuple l] => Wide l
  | _ => True
def sp_is_ballot : Sp := fun vs H Q _ => ∃ (o : Addr) (zs : List Str) (v : V) (d : PyData), vs = [.ref o, v] ∧ H o = some (.tup (zs.map V.str)) ∧ DAt H d v ∧ Fit d ∧ ∀ H', Same H H' → Q (.bl (ballotD zs d)) H'
theorem ok_is_ballot (T : Txt K mg) : FnOk P w K mg base CX0 4 T.f_is_ballot T.fd_is_ballot ["options", "thing"] sp_is_ballot := by
  refine T.F_is_ballot.ok sc_is_ballot (fun vs H Q E h => ?_) (fun cdv A outer s H vs Q E hr h => ?_)
  · obtain ⟨o, zs, v, d, rfl, _⟩ := h
    rfl
  · obtain ⟨o, zs, v, d, rfl, ho, hd, hf, q⟩ := h
    refine ⟨_, (pss_cons
 (ps_if (PW.pt (pw_or (pt_not (pt_val (pe_call (ok_is_tuple_of T) (hr.mono (by decide)) (by rfl) T.g_is_tuple_of T.F_is_tuple_of.kp T.b_is_tuple_of .nil pass0 (pa_cons (pv 1) (pa_cons pe_int pa_nil))))) (pw_or (pt_not (pt_val (pe_callB call_isi (by rfl) T.z_isinstance (by decide +kernel) (pa_cons (pe_ix ix_tup (pv 1) pe_int (fun _ _ => rfl)) (pa_cons (pe_bltn (v := .ty "str") (u := .type "str") rfl T.z_str (by decide +kernel) rfl) pa_nil))))) (pw_or1 (pt_not (pt_val (pe_callB call_isi (by rfl) T.z_isinstance (by decide +kernel) (pa_cons (pe_ix ix_tup (pv 1) pe_int (fun _ _ => rfl)) (pa_cons (pe_bltn (v := .ty "tuple") (u := .type "tuple") rfl T.z_tuple (by decide +kernel) rfl) pa_nil)))))))))
 (pss_one
 (ps_ret pe_bl))
 pss_nil)
 (pss_cons
 (ps_asg (pv 1) (pg_tup rfl (pgs_cons (pg_name (i := 2) sc_is_ballot.nd rfl (Or.inl rfl)) (pgs_cons (pg_name (i := 3) sc_is_ballot.nd rfl (Or.inl rfl)) pgs_nil))))
 (pss_cons
 (ps_if (pt_cmpR op_eq (pv 2) pe_str (nomark _))
 (pss_one
 (ps_ret (pe_call (ok_are_tiers T) (hr.mono (by decide)) (by rfl) T.g_are_tiers T.F_are_tiers.kp T.b_are_tiers .nil pass0 (pa_cons (pv 0) (pa_cons (pv 3) pa_nil)))))
 pss_nil)
 (pss_cons
 (ps_if (pt_cmpR op_eq (pv 2) pe_str (nomark _))
 (pss_one
 (ps_ret (pe_call (ok_are_unlike_options T) (hr.mono (by decide)) (by rfl) T.g_are_unlike_options T.F_are_unlike_options.kp T.b_are_unlike_options .nil pass0 (pa_cons (pv 0) (pa_cons (pv 3) pa_nil)))))
 pss_nil)
 (pss_cons
 (ps_if (pt_cmpR op_eq (pv 2) pe_str (nomark _))
 (pss_one
 (ps_ret (pe_call (ok_are_marks T) (hr.mono (by decide)) (by rfl) T.g_are_marks T.F_are_marks.kp T.b_are_marks .nil pass0 (pa_cons (pv 0) (pa_cons (pv 3) pa_nil)))))
 pss_nil)
 (pss_one
 (ps_ret pe_bl))))))), ?_⟩
    have q0 := q H (Same.refl H)
    refine ⟨v, rfl, v, 2, d, rfl, hd, tupD d 2, rfl, ?_⟩
    cases h2 : tupD d 2 with
    | false =>
      rw [ballotD_two h2] at q0
      exact iteT q0
    | true =>
      obtain ⟨a, b, rfl⟩ := tupD_two h2
      obtain ⟨p, xs, rfl, hp, v0, r, rfl, ha, v1, r2, rfl, hb, rfl⟩ := hd
      obtain ⟨t0, ht0, _, k0, _⟩ := ha.ty (K := K)
      refine iteF ⟨.ref p, rfl, p, _, 0, v0, rfl, rfl, .of hp, atI_nat (j := 0) rfl, v0, _, t0, _, dS a, rfl, .ty _, ht0, k0, dS a, rfl, ?_⟩
      cases a with
      | str f =>
        obtain ⟨t1, ht1, k1, _⟩ := hb.ty (K := K)
        refine iteF ⟨.ref p, rfl, p, _, 1, v1, rfl, rfl, .of hp, atI_nat (j := 1) rfl, v1, _, t1, _, dT b, rfl, .ty _, ht1, k1, dT b, rfl, ?_⟩
        cases b with
        | tuple l =>
          obtain ⟨pt, us, rfl, hpt, hl⟩ := hb
          rw [show v0 = V.str f from ha] at hp
          have wl : Wide l := hf
          refine iteF ⟨.ref p, rfl, p, _, rfl, .of hp, rfl, _, _, rfl, _, _, rfl, rfl, ?_⟩
          have es : ∀ z : Str, decide (V.str f = V.str z) = decide (f = z) := fun z => decide_eq_decide.mpr ⟨fun h => V.str.inj h, fun h => by rw [h]⟩
          have eq : ballotD zs (.tuple [.str f, .tuple l]) = if f = "order" then tiersD zs l else if f = "lets" then unlikeD zs l else if f = "marks" then marksD zs l else false := rfl
          rw [eq] at q q0
          refine ⟨.str f, rfl, rfl, _, rfl, ?_⟩
          rw [es]
          by_cases e1 : f = "order"
          · rw [decide_eq_true e1]
            rw [if_pos e1] at q
            exact iteT ⟨.ref o, rfl, .ref pt, rfl, o, pt, zs, us, l, rfl, ho, hpt, hl, wl, q⟩
          · rw [decide_eq_false e1]
            rw [if_neg e1] at q q0
            refine iteF ⟨.str f, rfl, rfl, _, rfl, ?_⟩
            rw [es]
            by_cases e2 : f = "lets"
            · rw [decide_eq_true e2]
              rw [if_pos e2] at q
              exact iteT ⟨.ref o, rfl, .ref pt, rfl, o, pt, zs, us, l, rfl, ho, .inr hpt, hl, by have := wl.1; omega, q⟩
            · rw [decide_eq_false e2]
              rw [if_neg e2] at q q0
              refine iteF ⟨.str f, rfl, rfl, _, rfl, ?_⟩
              rw [es]
              by_cases e3 : f = "marks"
              · rw [decide_eq_true e3]
                rw [if_pos e3] at q
                exact iteT ⟨.ref o, rfl, .ref pt, rfl, o, pt, zs, us, l, rfl, ho, hpt, hl, wl.1, q⟩
              · rw [decide_eq_false e3]
                rw [if_neg e3] at q0
                exact iteF q0
        | none => exact iteT q0
        | bool _ => exact iteT q0
        | int _ => exact iteT q0
        | str _ => exact iteT q0
        | list _ => exact iteT q0
        | dict _ => exact iteT q0
      | none => exact iteT q0
      | bool _ => exact iteT q0
      | int _ => exact iteT q0
      | tuple _ => exact iteT q0
      | list _ => exact iteT q0
      | dict _ => exact iteT q0
def BadE (C : Addr) (H : Hp) (E : XK) : Prop := ∀ (d : Addr) (fs : List (Str × V)) (H' : Hp), Same H H' → H d = none → H' d = some (.xd fs) → E (.ref C) (some d) H'
def sp_PollError_init (K : PySem.W.Frag) : Sp := fun vs H Q _ => ∃ (a C : Addr) (z : Str), vs = [.ref a, .str z] ∧ H a = some (exo a C none) ∧ OexC K C ∧ PySem.W.findIn K (.ref C) "why" = some none ∧
  ∀ dx, H dx = none → dx ≠ a → Q .non (upd (upd H dx (exd dx [("why", .str z)])) a (exo a C (some dx)))
theorem ok_PollError_init (T : Txt K mg) : FnOk P w K mg base CX0 1 T.f_PollError_init T.fd_PollError_init ["self", "why"] (sp_PollError_init K) := by
  refine T.F_PollError_init.ok (CX := CX0) sc_PollError_init (fun vs H Q E h => ?_) (fun cdv A outer s H vs Q E hr h => ?_)
  · obtain ⟨a, C, z, rfl, _⟩ := h
    rfl
  · obtain ⟨a, C, z, rfl, ha, hT, hno, q⟩ := h
    refine ⟨_, (pss_cons
 (ps_expr (pe_veinit (by rfl) T.z_ValueError T.vV (pa_cons (pv 0) (pa_cons (pv 1) pa_nil))))
 (pss_one
 (ps_ost (pv 0) (pv 1)))), ?_⟩
    refine ⟨.ref a, rfl, .str z, rfl, a, C, [.str z], rfl, (by show 1 ≤ 1000; decide), hT, ha, ?_⟩
    exact ⟨.str z, rfl, .ref a, rfl, a, C, rfl, hT, hno, .inl ⟨ha, fun dx n1 n2 => q dx n1 n2⟩⟩
end
theorem ok_small {z : Str} (h : NameOk z) : Ok 0 8 (.str z) := ok_str (small_ok h.2.2) h.2.1
def PieceD (wd : Str) (d : PyData) : Prop := (parts d).length ≤ 6 ∧ (((∃ z, d = .str z) ∧ wd ≠ "marks") ∨ ∃ a l, d = .tuple (a :: l))
/-! ### good ballots as data -/
def tyT (t : List Str) : PyData := .tuple (t.map PyData.str)
def mkT (m : Str × Int) : PyData := .tuple [.str m.1, .int m.2]
def Bal.word : Bal → Str
  | .order _ => "order"
  | .lets _ => "lets"
  | .marks _ => "marks"
def Bal.things : Bal → List PyData
  | .order ts => ts.map tyT
  | .lets ns => ns.map PyData.str
  | .marks ms => ms.map mkT
def Bal.data (b : Bal) : PyData := .tuple [.str b.word, .tuple b.things]
theorem DAll.of_map {α : Type} {H : Hp} {f : α → PyData} {g : α → V} : ∀ {l : List α}, (∀ a ∈ l, DAt H (f a) (g a)) → DAll H (l.map f) (l.map g)
  | [], _ => rfl
  | a :: l, h => ⟨_, _, rfl, h a List.mem_cons_self, DAll.of_map fun b hb => h b (List.mem_cons_of_mem _ hb)⟩
theorem BalAt.things {H : Hp} {t : Addr} : ∀ {b : Bal}, BalAt H t b → ∃ (u : Addr) (xs : List V), H t = some (.tup [.str b.word, .ref u]) ∧ H u = some (.tup xs) ∧ DAll H b.things xs
  | .order ts, ⟨u, bs, h1, h2, h3, h4⟩ => by
    refine ⟨u, _, h1, h2, ?_⟩
    show DAll H (ts.map tyT) _
    rw [← h4, List.map_map]
    exact DAll.of_map fun b hb => ⟨b.1, _, rfl, (h3 b hb).1, DAll.strs b.2⟩
  | .lets ns, ⟨u, h1, h2⟩ => ⟨u, _, h1, h2, DAll.strs ns⟩
  | .marks ms, ⟨u, bs, h1, h2, h3, h4⟩ => by
    refine ⟨u, _, h1, h2, ?_⟩
    show DAll H (ms.map mkT) _
    rw [← h4, List.map_map]
    exact DAll.of_map fun b hb => ⟨b.1, _, rfl, h3 b hb, da1 rfl (da1 rfl da0)⟩
theorem BalAt.data {H : Hp} {t : Addr} {b : Bal} (h : BalAt H t b) : DAt H b.data (.ref t) := by
  obtain ⟨u, xs, h1, h2, a⟩ := h.things
  exact ⟨t, _, rfl, h1, da1 rfl (da1 ⟨u, xs, rfl, h2, a⟩ da0)⟩
theorem flat_strsD : ∀ ts : List (List Str), (ts.map tyT).flatMap parts = ts.flatten.map PyData.str
  | [] => rfl
  | t :: ts => by
    rw [List.map_cons, List.flatMap_cons, flat_strsD ts, List.flatten_cons, List.map_append]
    rfl
theorem unS_strs : ∀ ws : List Str, (ws.map PyData.str).filterMap unS = ws
  | [] => rfl
  | a :: ws => by
    rw [List.map_cons, List.filterMap_cons]
    show a :: (ws.map PyData.str).filterMap unS = a :: ws
    rw [unS_strs ws]
theorem unlike_strs {zs ws : List Str} (h : ws.Nodup) (g : ∀ z ∈ ws, z ∈ zs) : unlikeD zs (ws.map PyData.str) = true := by
  unfold unlikeD
  rw [unS_strs, decide_eq_true h, Bool.and_true, List.all_eq_true]
  intro d hd
  obtain ⟨z, hz, rfl⟩ := List.mem_map.mp hd
  exact decide_eq_true (g z hz)
theorem firsts_marks : ∀ ms : List (Str × Int), (ms.map mkT).map firstD = (ms.map (·.1)).map PyData.str
  | [] => rfl
  | m :: ms => by
    rw [List.map_cons, List.map_cons, firsts_marks ms]
    rfl
theorem Bal.Ok.good {zs : List Str} : ∀ {b : Bal}, b.Ok zs → ballotD zs b.data = true
  | .order ts, h => by
    obtain ⟨h1, h2, h3⟩ := h
    show tiersD zs (ts.map tyT) = true
    unfold tiersD
    rw [flat_strsD, unlike_strs h1 h2, Bool.and_true, List.all_eq_true]
    intro d hd
    obtain ⟨t, ht, rfl⟩ := List.mem_map.mp hd
    cases t with
    | nil => exact absurd rfl (h3 _ ht)
    | cons a l => exact decide_eq_true (Nat.succ_pos (l.map PyData.str).length)
  | .lets ns, h => unlike_strs h.1 h.2
  | .marks ms, h => by
    obtain ⟨h1, h2, h3⟩ := h
    show marksD zs (ms.map mkT) = true
    unfold marksD
    rw [firsts_marks, unlike_strs h1 (fun z hz => by obtain ⟨m, hm, rfl⟩ := List.mem_map.mp hz; exact h2 m hm), Bool.and_true, List.all_eq_true]
    intro d hd
    obtain ⟨m, hm, rfl⟩ := List.mem_map.mp hd
    show (decide ((0 : Int) ≤ m.2) && decide (m.2 ≤ 9)) = true
    rw [decide_eq_true (h3 m hm).1, decide_eq_true (h3 m hm).2]
    rfl
theorem few {zs ws : List Str} (n : zs.length ≤ 6) (h : ws.Nodup) (g : ∀ z ∈ ws, z ∈ zs) : ws.length ≤ 6 := Nat.le_trans (h.length_le_of_subset g) n
theorem flat_few : ∀ {ts : List (List Str)}, (∀ t ∈ ts, t ≠ []) → ts.length ≤ ts.flatten.length
  | [], _ => Nat.le_refl _
  | t :: ts, h => by
    rw [List.flatten_cons, List.length_append, List.length_cons]
    have := flat_few fun u hu => h u (List.mem_cons_of_mem _ hu)
    have := List.length_pos_iff.mpr (h t List.mem_cons_self)
    omega
theorem part_few {t : List Str} : ∀ {ts : List (List Str)}, t ∈ ts → t.length ≤ ts.flatten.length
  | u :: ts, h => by
    rw [List.flatten_cons, List.length_append]
    rcases List.mem_cons.mp h with rfl | h
    · omega
    · have := part_few h
      omega
theorem Bal.Ok.few {zs : List Str} (n : zs.length ≤ 6) : ∀ {b : Bal}, b.Ok zs → b.things.length ≤ 6 ∧ ∀ d ∈ b.things, PieceD b.word d
  | .order ts, h => by
    obtain ⟨h1, h2, h3⟩ := h
    have f := Own.few n h1 h2
    refine ⟨by show (ts.map tyT).length ≤ 6; rw [List.length_map]; exact Nat.le_trans (flat_few h3) f, fun d hd => ?_⟩
    obtain ⟨t, ht, rfl⟩ := List.mem_map.mp hd
    refine ⟨by show (t.map PyData.str).length ≤ 6; rw [List.length_map]; exact Nat.le_trans (part_few ht) f, .inr ?_⟩
    cases t with
    | nil => exact absurd rfl (h3 _ ht)
    | cons a l => exact ⟨_, _, rfl⟩
  | .lets ns, h => by
    refine ⟨by show (ns.map PyData.str).length ≤ 6; rw [List.length_map]; exact Own.few n h.1 h.2, fun d hd => ?_⟩
    obtain ⟨z, hz, rfl⟩ := List.mem_map.mp hd
    exact ⟨Nat.zero_le _, .inl ⟨⟨z, rfl⟩, by show ("lets" : Str) ≠ "marks"; decide⟩⟩
  | .marks ms, h => by
    obtain ⟨h1, h2, h3⟩ := h
    have f := Own.few n h1 (fun z hz => by obtain ⟨m, hm, rfl⟩ := List.mem_map.mp hz; exact h2 m hm)
    rw [List.length_map] at f
    refine ⟨by show (ms.map mkT).length ≤ 6; rw [List.length_map]; exact f, fun d hd => ?_⟩
    obtain ⟨m, hm, rfl⟩ := List.mem_map.mp hd
    exact ⟨by show 2 ≤ 6; decide, .inr ⟨_, _, rfl⟩⟩
theorem OkA.of {n m : Nat} : ∀ {l : List PyData}, (∀ d ∈ l, Ok n m d) → OkA n (l.length * (m + 1)) l
  | [], _ => OkA.nil
  | d :: l, h => by
    refine ((OkA.cons (h d List.mem_cons_self) (OkA.of fun e he => h e (List.mem_cons_of_mem _ he)))).mono (Nat.le_refl _) ?_
    rw [List.length_cons, Nat.succ_mul]
    omega
theorem Bal.Ok.fit {zs : List Str} {b : Bal} (n : zs.length ≤ 6) (h : b.Ok zs) : Fit b.data := by
  obtain ⟨f1, f2⟩ := h.few n
  exact (⟨by omega, fun d hd => by have := (f2 d hd).1; omega⟩ : Wide b.things)
/-! ### ranks, in plain words -/
def mkAt : List (Str × Int) → Str → Option Int
  | [], _ => none
  | m :: ms, z => if m.1 = z then some m.2 else mkAt ms z
def mT (ms : List (Str × Int)) : List (Key × V) := ms.map fun m => (.inr m.1, .int m.2)
theorem mT_val (z : Str) : ∀ ms : List (Str × Int), valV (mT ms) (.inr z) = (mkAt ms z).map V.int
  | [] => rfl
  | m :: ms => by
    by_cases e : m.1 = z
    · have h : valV (mT (m :: ms)) (.inr z) = some (V.int m.2) := valV_pos (p := ((.inr m.1 : Key), V.int m.2)) (r := mT ms) (congrArg Sum.inr e)
      rw [h]
      unfold mkAt
      rw [if_pos e] <;> rfl
    · have h : valV (mT (m :: ms)) (.inr z) = valV (mT ms) (.inr z) := valV_neg (p := ((.inr m.1 : Key), V.int m.2)) (r := mT ms) (fun q => e (Sum.inr.inj q))
      rw [h, mT_val z ms]
      show _ = Option.map V.int (if m.1 = z then some m.2 else mkAt ms z)
      rw [if_neg e]
theorem mk_none {z : Str} : ∀ {ms : List (Str × Int)}, z ∉ ms.map (·.1) → mkAt ms z = none
  | [], _ => rfl
  | m :: ms, h => by
    unfold mkAt
    rw [if_neg (fun e => h (by rw [← e]; exact List.mem_cons_self)), mk_none fun q => h (List.mem_cons_of_mem _ q)]
theorem mT_put {ms : List (Str × Int)} {m : Str × Int} (h : m.1 ∉ ms.map (·.1)) : putK (mT ms) (.inr m.1) (.int m.2) = mT (ms ++ [m]) := by
  rw [putK_new _ (by rw [mT_val, mk_none h]; rfl)]
  unfold mT
  rw [List.map_append]
  rfl
/-- the rank that the program gives, the height that the law gives -/
def Bal.rk : Bal → Str → Int
  | .order ts, z => place ts z
  | .lets ns, z => if z ∈ ns then 0 else 1
  | .marks ms, z => -((mkAt ms z).getD 0)
def Bal.hi : Bal → Str → Int
  | .order ts, z => if z ∈ ts.flatten then 99 - place ts z else 0
  | .lets ns, z => if z ∈ ns then 1 else 0
  | .marks ms, z => (mkAt ms z).getD 0
section
variable {P : Program} {w : World} {K : PySem.W.Frag} {mg : Str → Option Value} {base : Heap}
/-! ### an option, or NoOption -/
def sp_NoOption_init (C : Addr) : Sp := fun vs H Q _ => ∃ (a : Addr) (v : V), vs = [.ref a, v] ∧ H a = some (exo a C none) ∧ ∀ dx, H dx = none → dx ≠ a → Q .non (upd (upd H dx (exd dx [("name", v)])) a (exo a C (some dx)))
theorem ok_NoOption_init (T : Txt K mg) : FnOk P w K mg base CX0 1 T.f_NoOption_init T.fd_NoOption_init ["self", "name"] (sp_NoOption_init T.C_NoOption) := by
  refine T.F_NoOption_init.ok sc_NoOption_init (fun vs H Q E h => ?_) (fun cdv A outer s H vs Q E hr h => ?_)
  · obtain ⟨a, v, rfl, _⟩ := h
    rfl
  · obtain ⟨a, v, rfl, ha, q⟩ := h
    refine ⟨_, (pss_one
 (ps_kst (pv 0) (pv 1))), ?_⟩
    exact ⟨v, rfl, .ref a, rfl, a, T.C_NoOption, rfl, T.ok_NoOption, T.nf_NoOption_name, ha, fun dx n1 n2 => q dx n1 n2⟩
/-- what is raised of what is none of the options -/
def NoOpt (C : Addr) (v : V) (H : Hp) (E : XK) : Prop := ∀ (dx : Addr) (fs : List (Str × V)) (H' : Hp), Same H H' → H dx = none → H' dx = some (.xd fs) → fs.lookup ("name" : Str) = some v → E (.ref C) (some dx) H'
def sp_check_option (C : Addr) : Sp := fun vs H Q E => ∃ (o : Addr) (zs : List Str) (v : V) (d : PyData), vs = [.ref o, v] ∧ H o = some (.tup (zs.map V.str)) ∧ DAt H d v ∧ (optD zs d = true → Q .non H) ∧ (optD zs d = false → NoOpt C v H E)
theorem ok_check_option (T : Txt K mg) : FnOk P w K mg base (L2.CX P w) 3 T.f_check_option T.fd_check_option ["options", "name"] (sp_check_option T.C_NoOption) := by
  refine T.F_check_option.okX sc_check_option (fun vs H Q E h => ?_) (fun cdv A outer s H vs Q E hr h => ?_)
  · obtain ⟨o, zs, v, d, rfl, _⟩ := h
    rfl
  · obtain ⟨o, zs, v, d, rfl, ho, hd, qt, qf⟩ := h
    refine ⟨_, (pss_one
 (ps_if (pt_not (pt_val (pe_call (ok_is_option T) (hr.mono (by decide)) (by rfl) T.g_is_option T.F_is_option.kp T.b_is_option .nil pass0 (pa_cons (pv 0) (pa_cons (pv 1) pa_nil)))))
 (pss_one
 (ps_raise rfl (takes_of rfl rfl rfl rfl) (px_pos T.ex_NoOption (ok_NoOption_init T) (hr.mono (by decide)) (by rfl) T.k_NoOption T.kb_NoOption_init_2 (fun σ => at0 σ) (pa_cons (pv 1) pa_nil))))
 pss_nil)), ?_⟩
    refine ⟨.ref o, rfl, v, rfl, o, zs, v, d, rfl, ho, hd, _, rfl, ?_⟩
    cases hb : optD zs d with
    | true => exact iteF (qt hb)
    | false =>
      refine iteT ⟨v, rfl, rfl, rfl, by decide, fun x nx => ⟨x, v, rfl, upd_same, fun dx n1 n2 => ⟨rfl, dx, _, upd_same, by rw [upd_ne n2, upd_same], ?_, ?_⟩⟩⟩
      · rw [upd_ne n2] at n1
        exact n1
      · rw [upd_ne n2] at n1
        refine qf hb dx _ _ (fun y o ho => ?_) n1 upd_same rfl
        have y1 : y ≠ dx := ne_of_none ho n1
        have y2 : y ≠ x := ne_of_none ho nx
        rw [upd_ne y1, del_ne y2, upd_ne y2, upd_ne y1, upd_ne y2]
        exact ho
end
section
variable {P : Program} {w : World} {K : PySem.W.Frag} {mg : Str → Option Value} {base : Heap}
/-! ### ranks by an order -/
theorem mem_part {z : Str} {t : List Str} {ts : List (List Str)} {i : Nat} (h : ts[i]? = some t) (m : z ∈ t) : z ∈ ts.flatten := List.mem_flatten.mpr ⟨t, List.mem_of_getElem? h, m⟩
def sp_order_ranks : Sp := fun vs H Q _ => ∃ (o u : Addr) (zs : List Str) (bs : List (Addr × List Str)), vs = [.ref o, .ref u] ∧ H o = some (.tup (zs.map V.str)) ∧ H u = some (.tup (bs.map fun b => V.ref b.1)) ∧ Tiers H bs ∧ zs.Nodup ∧ zs.length ≤ 100 ∧ bs.length ≤ 100 ∧ (bs.map (·.2)).flatten.Nodup ∧ (∀ z ∈ (bs.map (·.2)).flatten, z ∈ zs) ∧
  ∀ (D : Addr) (H' : Hp), Same H H' → H D = none → H' D = some (.dK (tab zs fun z => place (bs.map (·.2)) z)) → Q (.ref D) H'
theorem ok_order_ranks (T : Txt K mg) : FnOk P w K mg base CX0 1 T.f_order_ranks T.fd_order_ranks ["options", "told"] sp_order_ranks := by
  refine T.F_order_ranks.ok sc_order_ranks (fun vs H Q E h => ?_) (fun cdv A outer s H vs Q E hr h => ?_)
  · obtain ⟨o, u, zs, bs, rfl, _⟩ := h
    rfl
  · obtain ⟨o, u, zs, bs, rfl, ho, hu, ht, nd, lz, lb, fn, fm, q⟩ := h
    refine ⟨_, (pss_cons
 (ps_setDc (i := 2) (own := [("name", 5)]) (g := gName 5) (tt := tYes) rfl sc_order_ranks.nd rfl rfl (swD_true rfl rfl rfl (by decide +kernel)) (pi_tup (pv 0)) (blkOk_by (own := [("name", 5)]) (N := ["options", "told", "found", "at", "tier", "name"]) (sc := (defScope s_order_ranks)) (by decide +kernel)) (fun _ _ _ _ _ => pg_name (i := 5) sc_order_ranks.nd rfl (Or.inl rfl)) (fun _ _ _ _ _ => pts_nil) (fun _ _ _ _ _ => (pv 5)) (fun s0 H0 C0 cl0 fp0 => (by have h := ((pe_callB call_len_seq (by rfl) T.z_len (by decide +kernel) (pa_cons (pv 1) pa_nil)) : PE ((cxOf CX0 P w K mg base ["options", "told", "found", "at", "tier", "name"] "order_ranks" (defScope s_order_ranks) T.f_order_ranks cdv A outer s H E).nox.blk s0 H0 (lcScope (rootE ((defBody s_order_ranks).getD 0 (.Pass ⟨0, 0, 0, 0⟩)))) (compEnvC (lcScope (rootE ((defBody s_order_ranks).getD 0 (.Pass ⟨0, 0, 0, 0⟩)))) cl0 C0 (cxOf CX0 P w K mg base ["options", "told", "found", "at", "tier", "name"] "order_ranks" (defScope s_order_ranks) T.f_order_ranks cdv A outer s H E).nox.env) fp0) (subE (rootE ((defBody s_order_ranks).getD 0 (.Pass ⟨0, 0, 0, 0⟩))) 1) _); dsimp only [Cx.blk, Cx.tr, Cx.suite, Cx.nox, Cx.wish, cxOf] at h; exact h)))
 (pss_cons
 (ps_for PassesOwn.never rfl (pi_enumT (by rfl) T.z_enumerate (pv 1)) (pg_tup rfl (pgs_cons (pg_name (i := 3) sc_order_ranks.nd rfl (Or.inl rfl)) (pgs_cons (pg_name (i := 4) sc_order_ranks.nd rfl (Or.inl rfl)) pgs_nil)))
 (pss_one
 (ps_for PassesOwn.never rfl (pi_tup (pv 4)) (pg_name (i := 5) sc_order_ranks.nd rfl (Or.inl rfl))
 (pss_one
 (ps_dput (hu_of hr) (pv 2) (pv 5) (pv 3) (by rfl))))))
 (pss_one
 (ps_ret (pv 2))))), ?_⟩
    generalize hts : bs.map (·.2) = ts at fn fm q
    have lt : ts.length = bs.length := by rw [← hts, List.length_map]
    refine ⟨.ref o, rfl, o, rfl, ⟨_, .of ho⟩, fun D nD => ?_⟩
    refine dc_tup (K := K) (a := o) (xs := zs.map V.str) (fun i H' => Same H H' ∧ H' D = some (.dK (tab (zs.take i) fun _ => (ts.length : Int)))) ⟨same_upd nD, upd_same⟩ (fun _ _ _ h => .of (h.1 _ _ ho)) ?_ ?_
    · rintro i x H1 hi ⟨s1, e1⟩
      obtain ⟨z, hz, rfl⟩ := item_map hi
      have zn : z ∉ zs.take i := fun m => nodup_out nd hz m
      refine ⟨rfl, .str z, rfl, .ref u, rfl, u, _, rfl, .inr (.of (s1 _ _ hu)), _, .inr z, rfl, e1, ?_, same_mut s1 nD, ?_⟩
      · rw [tab_len, List.length_take]
        exact small1000 (by omega)
      · rw [upd_same, tab_new (f := fun _ => (ts.length : Int)) zn (by rw [List.length_map, lt]), ← take_more hz]
    · rintro H1 ⟨s1, e1⟩
      rw [List.length_map, List.take_length] at e1
      have hu1 := s1 _ _ hu
      let fin : List Str → Str → Int := fun seen z => if z ∈ seen then (place ts z : Nat) else (ts.length : Nat)
      refine ⟨.ref u, rfl, u, _, rfl, .of hu1, for_it walk_enumT (fun i σ H' => ∃ x3 x4 x5 : Option V, σ = [some (.ref o), some (.ref u), some (.ref D), x3, x4, x5] ∧ Same H H' ∧ H' D = some (.dK (tab zs (fin (ts.take i).flatten))))
        ⟨none, none, none, rfl, s1, ?_⟩ (fun _ _ _ _ ⟨_, _, _, _, h, _⟩ => .of (h _ _ hu)) ?_ ?_⟩
      · rw [e1]
        exact congrArg (fun l => some (HO.dK l)) (tab_congr fun z _ => (if_neg (by simp)).symm)
      · rintro i x σ H2 H3 hi ⟨x3, x4, x5, rfl, s2, e2⟩ ⟨Tt, a, b, rfl, nT, rfl, ea, eb⟩
        cases ea
        obtain ⟨bb, hb, rfl⟩ := item_map eb
        have s3 : Same H2 _ := same_upd (o := HO.tup [V.int (i : Int), V.ref bb.1]) nT
        have e3 := s3 _ _ e2
        have s3' := s2.trans s3
        have hbt := ht bb (List.mem_of_getElem? hb)
        have tsi : ts[i]? = some bb.2 := by rw [← hts, List.getElem?_map, hb]; rfl
        refine ⟨Tt, _, rfl, .of upd_same, rfl, _, _, rfl, _, _, rfl, rfl, ?_⟩
        refine ⟨.ref bb.1, rfl, bb.1, rfl, ⟨_, .of (s3' _ _ hbt.1)⟩, for_tup (K := K) (a := bb.1) (xs := bb.2.map V.str) (fun j σ H' => ∃ x5 : Option V, σ = [some (.ref o), some (.ref u), some (.ref D), some (.int i), some (.ref bb.1), x5] ∧ Same H H' ∧ H' D = some (.dK (tab zs (fin ((ts.take i).flatten ++ bb.2.take j)))))
          ⟨x5, rfl, s3', ?_⟩ (fun _ _ _ _ ⟨_, _, h, _⟩ => .of (h _ _ hbt.1)) ?_ ?_⟩
        · rw [List.take_zero, List.append_nil]
          exact e3
        · rintro j x σ H4 hj ⟨x5, rfl, s4, e4⟩
          obtain ⟨z, hz, rfl⟩ := item_map hj
          have mz : z ∈ bb.2 := List.mem_of_getElem? hz
          have zz := fm z (mem_part tsi mz)
          refine ⟨.int i, rfl, .ref D, rfl, .str z, rfl, D, _, rfl, DPut.k (k := .inr z) e4 ?_, some (.str z), rfl, same_mut s4 nD, ?_⟩
          · rw [tab_len]
            exact small1000 (by omega)
          · rw [upd_same, tab_put zz]
            refine congrArg (fun l => some (HO.dK l)) (tab_congr fun y _ => ?_)
            show (if y = z then (i : Int) else if y ∈ (ts.take i).flatten ++ bb.2.take j then ((place ts y : Nat) : Int) else (ts.length : Nat)) = if y ∈ (ts.take i).flatten ++ bb.2.take (j + 1) then ((place ts y : Nat) : Int) else (ts.length : Nat)
            rw [take_more hz, ← List.append_assoc]
            by_cases e : y = z
            · rw [if_pos e, if_pos (by rw [e]; exact List.mem_append_right _ (List.mem_singleton.mpr rfl)), e, place_at fn tsi mz]
            · rw [if_neg e]
              have : (y ∈ (ts.take i).flatten ++ bb.2.take j ++ [z]) ↔ y ∈ (ts.take i).flatten ++ bb.2.take j := by
                rw [List.mem_append, List.mem_singleton]
                exact ⟨fun h => h.resolve_right e, .inl⟩
              by_cases m : y ∈ (ts.take i).flatten ++ bb.2.take j
              · rw [if_pos m, if_pos (this.mpr m)]
              · rw [if_neg m, if_neg fun h => m (this.mp h)]
        · rintro σ H4 ⟨x5, rfl, s4, e4⟩
          rw [List.length_map, List.take_length] at e4
          refine ⟨_, _, _, rfl, s4, ?_⟩
          rw [take_more tsi, List.flatten_append]
          simpa using e4
      · rintro σ H2 ⟨x3, x4, x5, rfl, s2, e2⟩
        refine ⟨.ref D, rfl, q D H2 s2 nD ?_⟩
        rw [List.length_map, ← lt, List.take_length] at e2
        rw [e2]
        refine congrArg (fun l => some (HO.dK l)) (tab_congr fun z _ => ?_)
        show (if z ∈ ts.flatten then ((place ts z : Nat) : Int) else (ts.length : Nat)) = (place ts z : Nat)
        by_cases m : z ∈ ts.flatten
        · rw [if_pos m]
        · rw [if_neg m, place_out m]
/-! ### ranks -/
def sp_ranks : Sp := fun vs H Q _ => ∃ (o t : Addr) (zs : List Str) (b : Bal), vs = [.ref o, .ref t] ∧ H o = some (.tup (zs.map V.str)) ∧ BalAt H t b ∧ b.Ok zs ∧ zs.Nodup ∧ zs.length ≤ 6 ∧
  ∀ (D : Addr) (H' : Hp), Same H H' → H D = none → H' D = some (.dK (tab zs b.rk)) → Q (.ref D) H'
theorem ok_ranks (T : Txt K mg) : FnOk P w K mg base CX0 2 T.f_ranks T.fd_ranks ["options", "ballot"] sp_ranks := by
  refine T.F_ranks.ok sc_ranks (fun vs H Q E h => ?_) (fun cdv A outer s H vs Q E hr h => ?_)
  · obtain ⟨o, t, zs, b, rfl, _⟩ := h
    rfl
  · obtain ⟨o, t, zs, b, rfl, ho, hb, bok, nd, lz, q⟩ := h
    refine ⟨_, (pss_cons
 (ps_asg (pv 1) (pg_tup rfl (pgs_cons (pg_name (i := 2) sc_ranks.nd rfl (Or.inl rfl)) (pgs_cons (pg_name (i := 3) sc_ranks.nd rfl (Or.inr rfl)) pgs_nil))))
 (pss_cons
 (ps_if (pt_cmpR op_eq (pv 2) pe_str (nomark _))
 (pss_one
 (ps_ret (pe_call (ok_order_ranks T) (hr.mono (by decide)) (by rfl) T.g_order_ranks T.F_order_ranks.kp T.b_order_ranks .nil pass0 (pa_cons (pv 0) (pa_cons (pv 3) pa_nil)))))
 pss_nil)
 (pss_cons
 (ps_if (pt_cmpR op_eq (pv 2) pe_str (nomark _))
 (pss_one
 (ps_ret (pe_dc (own := [("name", 5)]) (g := gName 5) (tt := tYes) rfl sc_ranks.nd (pi_tup (pv 0)) (blkOk_by (own := [("name", 5)]) (N := ["options", "ballot", "form", "told", "marks", "name", "mark"]) (sc := (defScope s_ranks)) (by decide +kernel)) (fun _ _ _ _ _ => pg_name (i := 5) sc_ranks.nd rfl (Or.inl rfl)) (fun _ _ _ _ _ => pts_nil) (fun _ _ _ _ _ => (pv 5)) (fun s0 H0 C0 cl0 fp0 => (by have h := ((pe_ifExp (pt_cmpR op_in_seq (pv 5) (pv 3) rfl) pe_int pe_int) : PE ((cxOf CX0 P w K mg base ["options", "ballot", "form", "told", "marks", "name", "mark"] "ranks" (defScope s_ranks) T.f_ranks cdv A outer s H E).nox.blk s0 H0 (lcScope (rootE ((blkOf ((defBody s_ranks).getD 2 (.Pass ⟨0, 0, 0, 0⟩)) 0).getD 0 (.Pass ⟨0, 0, 0, 0⟩)))) (compEnvC (lcScope (rootE ((blkOf ((defBody s_ranks).getD 2 (.Pass ⟨0, 0, 0, 0⟩)) 0).getD 0 (.Pass ⟨0, 0, 0, 0⟩)))) cl0 C0 (cxOf CX0 P w K mg base ["options", "ballot", "form", "told", "marks", "name", "mark"] "ranks" (defScope s_ranks) T.f_ranks cdv A outer s H E).nox.env) fp0) (subE (rootE ((blkOf ((defBody s_ranks).getD 2 (.Pass ⟨0, 0, 0, 0⟩)) 0).getD 0 (.Pass ⟨0, 0, 0, 0⟩))) 1) _); dsimp only [Cx.blk, Cx.tr, Cx.suite, Cx.nox, Cx.wish, cxOf] at h; exact h)))))
 pss_nil)
 (pss_cons
 (ps_set (i := 4) sc_ranks.nd rfl (Or.inr rfl) (pe_dc (own := [("name", 5), ("mark", 6)]) (tt := tYes) rfl sc_ranks.nd (pi_tup (pv 3)) (blkOk_by (own := [("name", 5), ("mark", 6)]) (N := ["options", "ballot", "form", "told", "marks", "name", "mark"]) (sc := (defScope s_ranks)) (by decide +kernel)) (fun s0 H0 C0 cl0 fp0 => (by have h := (pg_tup (n := 2) rfl (pgs_cons (pg_name (i := 5) sc_ranks.nd rfl (Or.inl rfl)) (pgs_cons (pg_name (i := 6) sc_ranks.nd rfl (Or.inl rfl)) pgs_nil)) : PG ((cxOf CX0 P w K mg base ["options", "ballot", "form", "told", "marks", "name", "mark"] "ranks" (defScope s_ranks) T.f_ranks cdv A outer s H E).nox.blk s0 H0 (lcScope (rootE ((defBody s_ranks).getD 3 (.Pass ⟨0, 0, 0, 0⟩)))) (compEnvC (lcScope (rootE ((defBody s_ranks).getD 3 (.Pass ⟨0, 0, 0, 0⟩)))) cl0 C0 (cxOf CX0 P w K mg base ["options", "ballot", "form", "told", "marks", "name", "mark"] "ranks" (defScope s_ranks) T.f_ranks cdv A outer s H E).nox.env) fp0) (subE (rootE ((defBody s_ranks).getD 3 (.Pass ⟨0, 0, 0, 0⟩))) 3) _); dsimp only [Cx.blk, Cx.tr, Cx.suite, Cx.nox, Cx.wish, cxOf] at h; exact h)) (fun _ _ _ _ _ => pts_nil) (fun _ _ _ _ _ => (pv 5)) (fun _ _ _ _ _ => (pv 6))))
 (pss_one
 (ps_ret (pe_dc (own := [("name", 5)]) (g := gName 5) (tt := tYes) rfl sc_ranks.nd (pi_tup (pv 0)) (blkOk_by (own := [("name", 5)]) (N := ["options", "ballot", "form", "told", "marks", "name", "mark"]) (sc := (defScope s_ranks)) (by decide +kernel)) (fun _ _ _ _ _ => pg_name (i := 5) sc_ranks.nd rfl (Or.inl rfl)) (fun _ _ _ _ _ => pts_nil) (fun _ _ _ _ _ => (pv 5)) (fun s0 H0 C0 cl0 fp0 => (by have h := ((pe_un un_neg (pe_dget2 (hu_of hr) (pv 4) (pv 5) pe_int ⟨by rfl, by rfl, by rfl, by rfl⟩)) : PE ((cxOf CX0 P w K mg base ["options", "ballot", "form", "told", "marks", "name", "mark"] "ranks" (defScope s_ranks) T.f_ranks cdv A outer s H E).nox.blk s0 H0 (lcScope (rootE ((defBody s_ranks).getD 4 (.Pass ⟨0, 0, 0, 0⟩)))) (compEnvC (lcScope (rootE ((defBody s_ranks).getD 4 (.Pass ⟨0, 0, 0, 0⟩)))) cl0 C0 (cxOf CX0 P w K mg base ["options", "ballot", "form", "told", "marks", "name", "mark"] "ranks" (defScope s_ranks) T.f_ranks cdv A outer s H E).nox.env) fp0) (subE (rootE ((defBody s_ranks).getD 4 (.Pass ⟨0, 0, 0, 0⟩))) 1) _); dsimp only [Cx.blk, Cx.tr, Cx.suite, Cx.nox, Cx.wish, cxOf] at h; exact h))))))))), ?_⟩
    have few := (bok.few lz).1
    cases b with
    | order ts =>
      obtain ⟨u, bs, h1, h2, h3, h4⟩ := hb
      obtain ⟨b1, b2, b3⟩ := bok
      have lb : bs.length ≤ 6 := by
        have e : bs.length = ts.length := by rw [← h4, List.length_map]
        have : (ts.map tyT).length ≤ 6 := few
        rw [List.length_map] at this
        omega
      rw [← h4] at b1 b2
      refine ⟨.ref t, rfl, t, _, rfl, .of h1, rfl, _, _, rfl, _, _, rfl, rfl, ?_⟩
      refine ⟨.str "order", rfl, rfl, _, rfl, iteT ?_⟩
      exact ⟨.ref o, rfl, .ref u, rfl, o, u, zs, bs, rfl, ho, h2, h3, nd, by omega, by omega, b1, b2, fun D H' s n e => q D H' s n (by rw [e, h4]; rfl)⟩
    | lets ns =>
      obtain ⟨u, h1, h2⟩ := hb
      refine ⟨.ref t, rfl, t, _, rfl, .of h1, rfl, _, _, rfl, _, _, rfl, rfl, ?_⟩
      refine ⟨.str "lets", rfl, rfl, _, rfl, iteF ?_⟩
      refine ⟨.str "lets", rfl, rfl, _, rfl, iteT ?_⟩
      refine ⟨.ref o, rfl, o, rfl, ⟨_, .of ho⟩, fun D nD => ?_⟩
      refine dc_tup (K := K) (a := o) (xs := zs.map V.str) (fun i H' => Same H H' ∧ H' D = some (.dK (tab (zs.take i) (Bal.lets ns).rk))) ⟨same_upd nD, upd_same⟩ (fun _ _ _ h => .of (h.1 _ _ ho)) ?_ ?_
      · rintro i x H1 hi ⟨s1, e1⟩
        obtain ⟨z, hz, rfl⟩ := item_map hi
        have zn : z ∉ zs.take i := fun m => nodup_out nd hz m
        have small : (tab (zs.take i) (Bal.lets ns).rk).length < sizeLine := by
          rw [tab_len, List.length_take]
          exact small1000 (by omega)
        refine ⟨rfl, .str z, rfl, .str z, rfl, .ref u, rfl, u, _, rfl, .inr (.of (s1 _ _ h2)), rfl, flat_strs ns, ?_⟩
        refine ⟨_, rfl, ?_⟩
        rw [inV_str]
        by_cases m : z ∈ ns
        · rw [decide_eq_true m]
          refine iteT ⟨_, .inr z, rfl, e1, small, same_mut s1 nD, ?_⟩
          rw [upd_same, tab_new (f := (Bal.lets ns).rk) zn (show (0 : Int) = if z ∈ ns then 0 else 1 by rw [if_pos m]), ← take_more hz]
        · rw [decide_eq_false m]
          refine iteF ⟨_, .inr z, rfl, e1, small, same_mut s1 nD, ?_⟩
          rw [upd_same, tab_new (f := (Bal.lets ns).rk) zn (show (1 : Int) = if z ∈ ns then 0 else 1 by rw [if_neg m]), ← take_more hz]
      · rintro H1 ⟨s1, e1⟩
        rw [List.length_map, List.take_length] at e1
        exact q D H1 s1 nD e1
    | marks ms =>
      obtain ⟨u, bs, h1, h2, h3, h4⟩ := hb
      obtain ⟨b1, b2, b3⟩ := bok
      have lb : bs.length ≤ 6 := by
        have e : bs.length = ms.length := by rw [← h4, List.length_map]
        have : (ms.map mkT).length ≤ 6 := few
        rw [List.length_map] at this
        omega
      refine ⟨.ref t, rfl, t, _, rfl, .of h1, rfl, _, _, rfl, _, _, rfl, rfl, ?_⟩
      refine ⟨.str "marks", rfl, rfl, _, rfl, iteF ?_⟩
      refine ⟨.str "marks", rfl, rfl, _, rfl, iteF ?_⟩
      refine ⟨.ref u, rfl, u, rfl, ⟨_, .of h2⟩, fun M nM => ?_⟩
      refine dc_tup (K := K) (a := u) (xs := bs.map fun b => V.ref b.1) (fun i H' => Same H H' ∧ H' M = some (.dK (mT (ms.take i)))) ⟨same_upd nM, upd_same⟩ (fun _ _ _ h => .of (h.1 _ _ h2)) ?_ ?_
      · rintro i x H1 hi ⟨s1, e1⟩
        obtain ⟨bb, hbb, rfl⟩ := item_map hi
        have hm : ms[i]? = some bb.2 := by rw [← h4, List.getElem?_map, hbb]; rfl
        have out : bb.2.1 ∉ (ms.take i).map (·.1) := by
          rw [List.map_take]
          exact nodup_out b1 (by rw [List.getElem?_map, hm]; rfl)
        refine ⟨bb.1, _, rfl, .of (s1 _ _ (h3 bb (List.mem_of_getElem? hbb))), rfl, _, _, rfl, _, _, rfl, rfl, rfl, .str bb.2.1, rfl, .int bb.2.2, rfl, _, .inr bb.2.1, rfl, e1, ?_, same_mut s1 nM, ?_⟩
        · unfold mT
          rw [List.length_map, List.length_take]
          exact small1000 (by have : ms.length = bs.length := by rw [← h4, List.length_map]
                              omega)
        · rw [upd_same, mT_put out, ← take_more hm]
      · rintro H1 ⟨s1, e1⟩
        have lm : ms.length = bs.length := by rw [← h4, List.length_map]
        rw [List.length_map, ← lm, List.take_length] at e1
        have ho1 := s1 _ _ ho
        refine ⟨.ref o, rfl, o, rfl, ⟨_, .of ho1⟩, fun D nD => ?_⟩
        have nD0 := s1.free nD
        refine dc_tup (K := K) (a := o) (xs := zs.map V.str) (fun i H' => Same H1 H' ∧ H' D = some (.dK (tab (zs.take i) (Bal.marks ms).rk))) ⟨same_upd nD, upd_same⟩ (fun _ _ _ h => .of (h.1 _ _ ho1)) ?_ ?_
        · rintro i x H2 hi ⟨s2, e2⟩
          obtain ⟨z, hz, rfl⟩ := item_map hi
          have zn : z ∉ zs.take i := fun m => nodup_out nd hz m
          have e1' := s2 _ _ e1
          refine ⟨rfl, .str z, rfl, .ref M, rfl, M, rfl, .inl ⟨_, .inl e1'⟩, .str z, rfl, _, DGet.k (k := .inr z) e1', ?_⟩
          rw [mT_val]
          refine ⟨(mkAt ms z).getD 0, ?_, _, .inr z, rfl, e2, ?_, same_mut s2 nD, ?_⟩
          · cases mkAt ms z <;> rfl
          · rw [tab_len, List.length_take]
            exact small1000 (by omega)
          · rw [upd_same]
            show some (HO.dK (putK (tab (zs.take i) (Bal.marks ms).rk) (.inr z) (V.int (-((mkAt ms z).getD 0))))) = _
            rw [tab_new (f := (Bal.marks ms).rk) (n := -((mkAt ms z).getD 0)) zn rfl, ← take_more hz]
        · rintro H2 ⟨s2, e2⟩
          rw [List.length_map, List.take_length] at e2
          exact q D H2 (s1.trans s2) nD0 e2
end
/-! ### polls, good ones -/
/-- the poll of options at o and rows at u stands at p -/
def pollF (o u : Addr) : List (Str × V) := putF "voices" (.ref u) (putF "options" (.ref o) [])
theorem pollF_options (o u : Addr) : (pollF o u).lookup ("options" : Str) = some (.ref o) := by
  unfold pollF
  rw [lookup_putF, if_neg (by decide +kernel), lookup_putF, if_pos rfl]
theorem pollF_voices (o u : Addr) : (pollF o u).lookup ("voices" : Str) = some (.ref u) := by
  unfold pollF
  rw [lookup_putF, if_pos rfl]
def PollAt (C : Addr) (H : Hp) (p o u : Addr) : Prop := ∃ dx, H p = some (.ins C dx (pollF o u))
theorem PollAt.same {C : Addr} {H H' : Hp} {p o u : Addr} (s : Same H H') (h : PollAt C H p o u) : PollAt C H' p o u := by
  obtain ⟨dx, h⟩ := h
  exact ⟨dx, s _ _ h⟩
theorem BalAt.same {H H' : Hp} {t : Addr} {b : Bal} (s : Same H H') (h : BalAt H t b) : BalAt H' t b := h.keep fun _ _ e => s _ _ e
theorem RowsAt.same {H H' : Hp} {u : Addr} {rows : List (Bal × Int)} (s : Same H H') (h : RowsAt H u rows) : RowsAt H' u rows := h.keep fun _ _ e => s _ _ e
theorem sign_a {c : Nat} (h : 97 ≤ c) : (!decide ((⟨#[c]⟩ : Str).cps.toList < ("a" : Str).cps.toList)) = true := by
  have e : ("a" : Str).cps.toList = [97] := by decide +kernel
  rw [e]
  show (!decide ([c] < [97])) = true
  rw [decide_eq_false fun z => ?_] <;> try rfl
  rcases List.cons_lt_cons_iff.mp z with z | z
  · omega
  · exact absurd z.2 (List.lt_irrefl _)
theorem sign_z {c : Nat} (h : c ≤ 122) : (!decide (("z" : Str).cps.toList < (⟨#[c]⟩ : Str).cps.toList)) = true := by
  have e : ("z" : Str).cps.toList = [122] := by decide +kernel
  rw [e]
  show (!decide ([122] < [c])) = true
  rw [decide_eq_false fun z => ?_] <;> try rfl
  rcases List.cons_lt_cons_iff.mp z with z | z
  · omega
  · exact absurd z.2 (List.lt_irrefl _)
/-- options as they must be -/
structure OptsOk (zs : List Str) : Prop where
  some : zs ≠ []
  few : zs.length ≤ 6
  nodup : zs.Nodup
  names : ∀ z ∈ zs, NameOk z
section
variable {P : Program} {w : World} {K : PySem.W.Frag} {mg : Str → Option Value} {base : Heap}
def sp_is_name : Sp := fun vs H Q _ => ∃ z : Str, vs = [.str z] ∧ NameOk z ∧ ∀ H', Same H H' → Q (.bl true) H'
theorem ok_is_name (T : Txt K mg) : FnOk P w K mg base CX0 1 T.f_is_name T.fd_is_name ["thing"] sp_is_name := by
  refine T.F_is_name.ok sc_is_name (fun vs H Q E h => ?_) (fun cdv A outer s H vs Q E hr h => ?_)
  · obtain ⟨z, rfl, _⟩ := h
    rfl
  · obtain ⟨z, rfl, hz, q⟩ := h
    refine ⟨_, (pss_cons
 (ps_if (pt_not (pt_val (pe_callB call_isi (by rfl) T.z_isinstance (by decide +kernel) (pa_cons (pv 0) (pa_cons (pe_bltn (v := .ty "str") (u := .type "str") rfl T.z_str (by decide +kernel) rfl) pa_nil)))))
 (pss_one
 (ps_ret pe_bl))
 pss_nil)
 (pss_cons
 (ps_if (pt_not (pt_chain op_le op_le pe_int (pe_callB call_len_str (by rfl) T.z_len (by decide +kernel) (pa_cons (pv 0) pa_nil)) (pe_glob (v := .int 8) rfl T.c_LONGEST_NAME ⟨_, rfl⟩)))
 (pss_one
 (ps_ret pe_bl))
 pss_nil)
 (pss_one
 (ps_ret (pe_callB (cr_all rfl) (by rfl) T.z_all (by decide +kernel) (pa_cons (pe_lc (own := [("sign", 1)]) (g := gName 1) (tt := tYes) rfl sc_is_name.nd (pi_str (pv 0)) (blkOk_by (own := [("sign", 1)]) (N := ["thing", "sign"]) (sc := (defScope s_is_name)) (by decide +kernel)) (fun _ _ _ _ _ => pg_name (i := 1) sc_is_name.nd rfl (Or.inl rfl)) (fun _ _ _ _ _ => pts_nil) (fun _ _ _ _ _ => (pe_chain op_le_str op_le_str pe_str (pv 1) pe_str))) pa_nil)))))), ?_⟩
    obtain ⟨h1, h8, hs⟩ := hz
    obtain ⟨t, ht, _, k2, _⟩ := (show DAt H (.str z) (.str z) from rfl).ty (K := K)
    refine ⟨.str z, rfl, .str z, _, t, _, true, rfl, .ty _, ht, k2, true, rfl, iteF ?_⟩
    refine ⟨.str z, rfl, z, rfl, line_of (by omega), 1, _, rfl, rfl, _, rfl, ite2 (fun _ => ?_) (fun e => absurd (decide_eq_true (show (1 : Int) ≤ (z.length : Int) by omega)) e)⟩
    refine ⟨_, 8, rfl, rfl, _, rfl, ?_⟩
    show if (!decide ((z.length : Int) ≤ 8)) = true then _ else _
    rw [decide_eq_true (show (z.length : Int) ≤ 8 by omega)]
    refine iteF ?_
    refine ⟨.str z, rfl, z, rfl, fun D nD => ?_⟩
    refine lc_it walk_str (fun i H' => Same H H' ∧ H' D = some (.lst ((List.replicate i true).map V.bl))) ⟨same_upd nD, upd_same⟩ (fun _ _ _ _ => trivial) ?_ ?_
    · rintro i x H1 H2 hi ⟨s1, e1⟩ ⟨rfl, c, hc, rfl⟩
      have hc2 : z.cps.toList[i]? = some c := by rw [Array.getElem?_toList]; exact hc
      obtain ⟨c1, c2⟩ := hs c (List.mem_of_getElem? hc2)
      have il := (List.getElem?_eq_some_iff.mp hc2).1
      have l8 : z.cps.toList.length = z.length := by simp [Str.length]
      refine ⟨rfl, .str ⟨#[c]⟩, rfl, _, _, rfl, rfl, _, rfl, ite2 (fun _ => ?_) (fun e => absurd (sign_a c1) e)⟩
      refine ⟨_, _, rfl, rfl, _, e1, small1000 (by rw [List.length_map, List.length_replicate]; omega), same_mut s1 nD, ?_⟩
      rw [upd_same, sign_z c2, List.replicate_succ', List.map_append]
      rfl
    · rintro H1 ⟨s1, e1⟩
      refine ⟨D, _, rfl, .of e1, ?_⟩
      have ea : ∀ n, (List.replicate n true).all id = true := fun n => by induction n with
        | zero => rfl
        | succ n ih => rw [List.replicate_succ, List.all_cons, ih] <;> rfl
      rw [ea]
      exact q _ s1
def sp_are_names : Sp := fun vs H Q _ => ∃ (o : Addr) (zs : List Str), vs = [.ref o] ∧ H o = some (.tup (zs.map V.str)) ∧ OptsOk zs ∧ ∀ H', Same H H' → Q (.bl true) H'
theorem ok_are_names (T : Txt K mg) : FnOk P w K mg base CX0 2 T.f_are_names T.fd_are_names ["thing"] sp_are_names := by
  refine T.F_are_names.ok sc_are_names (fun vs H Q E h => ?_) (fun cdv A outer s H vs Q E hr h => ?_)
  · obtain ⟨o, zs, rfl, _⟩ := h
    rfl
  · obtain ⟨o, zs, rfl, ho, ok, q⟩ := h
    refine ⟨_, (pss_cons
 (ps_if (PW.pt (pw_or (pt_not (pt_val (pe_callB call_isi (by rfl) T.z_isinstance (by decide +kernel) (pa_cons (pv 0) (pa_cons (pe_bltn (v := .ty "tuple") (u := .type "tuple") rfl T.z_tuple (by decide +kernel) rfl) pa_nil))))) (pw_or1 (pt_cmpR op_eq (pe_callB call_len_seq (by rfl) T.z_len (by decide +kernel) (pa_cons (pv 0) pa_nil)) pe_int (nomark _)))))
 (pss_one
 (ps_ret pe_bl))
 pss_nil)
 (pss_one
 (ps_ret (pe_and (pe_callB (cr_all rfl) (by rfl) T.z_all (by decide +kernel) (pa_cons (pe_lc (own := [("name", 1)]) (g := gName 1) (tt := tYes) rfl sc_are_names.nd (pi_tup (pv 0)) (blkOk_by (own := [("name", 1)]) (N := ["thing", "name"]) (sc := (defScope s_are_names)) (by decide +kernel)) (fun _ _ _ _ _ => pg_name (i := 1) sc_are_names.nd rfl (Or.inl rfl)) (fun _ _ _ _ _ => pts_nil) (fun _ _ _ _ _ => (pe_call (ok_is_name T) (hr.mono (by decide)) (by rfl) T.g_is_name T.F_is_name.kp T.b_is_name .nil pass0 (pa_cons (pv 1) pa_nil)))) pa_nil)) (pe_one (pe_cmpR op_eq (pe_unlike rfl (by rfl) T.z_len (by rfl) T.z_set (pv 0)) (pe_callB call_len_seq (by rfl) T.z_len (by decide +kernel) (pa_cons (pv 0) pa_nil)) (nomark _))))))), ?_⟩
    obtain ⟨ty, hty, k1, _⟩ := (show DAt H (.tuple (zs.map PyData.str)) (.ref o) from ⟨o, _, rfl, ho, DAll.strs zs⟩).ty (K := K)
    have pos : 0 < zs.length := List.length_pos_iff.mpr ok.some
    refine ⟨.ref o, rfl, .ref o, _, ty, _, true, rfl, .ty _, hty, k1, true, rfl, iteF ?_⟩
    refine ⟨.ref o, rfl, o, _, rfl, .inr (.of ho), rfl, _, rfl, ite2 (fun e => ?_) (fun _ => ?_)⟩
    · have e := V.int.inj (of_decide_eq_true e)
      rw [List.length_map] at e
      omega
    · refine ⟨.ref o, rfl, o, rfl, ⟨_, .of ho⟩, fun D nD => ?_⟩
      refine lc_tup (K := K) (a := o) (xs := zs.map V.str) (fun i H' => Same H H' ∧ H' D = some (.lst ((List.replicate i true).map V.bl))) ⟨same_upd nD, upd_same⟩ (fun _ _ _ h => .of (h.1 _ _ ho)) ?_ ?_
      · rintro i x H1 hi ⟨s1, e1⟩
        obtain ⟨z, hz, rfl⟩ := item_map hi
        have il := (List.getElem?_eq_some_iff.mp hz).1
        have few := ok.few
        refine ⟨rfl, .str z, rfl, z, rfl, ok.names z (List.mem_of_getElem? hz), fun H2 s2 => ⟨_, s2 _ _ e1, small1000 (by rw [List.length_map, List.length_replicate]; omega), same_mut (s1.trans s2) nD, ?_⟩⟩
        rw [upd_same, List.replicate_succ', List.map_append]
        rfl
      · rintro H1 ⟨s1, e1⟩
        refine ⟨D, _, rfl, .of e1, ?_⟩
        have ea : ∀ n, (List.replicate n true).all id = true := fun n => by induction n with
          | zero => rfl
          | succ n ih => rw [List.replicate_succ, List.all_cons, ih] <;> rfl
        rw [ea]
        have few := ok.few
        refine ⟨_, rfl, iteT ⟨.ref o, rfl, o, zs, rfl, .inr (.of (s1 _ _ ho)), by omega, .ref o, rfl, o, _, rfl, .inr (.of (s1 _ _ ho)), rfl, ?_⟩⟩
        rw [met_all ok.nodup, List.length_map, decide_eq_true rfl]
        exact q _ s1
def sp_are_options : Sp := fun vs H Q _ => ∃ (o : Addr) (zs : List Str), vs = [.ref o] ∧ H o = some (.tup (zs.map V.str)) ∧ OptsOk zs ∧ ∀ H', Same H H' → Q (.bl true) H'
theorem ok_are_options (T : Txt K mg) : FnOk P w K mg base CX0 3 T.f_are_options T.fd_are_options ["thing"] sp_are_options := by
  refine T.F_are_options.ok sc_are_options (fun vs H Q E h => ?_) (fun cdv A outer s H vs Q E hr h => ?_)
  · obtain ⟨o, zs, rfl, _⟩ := h
    rfl
  · obtain ⟨o, zs, rfl, ho, ok, q⟩ := h
    refine ⟨_, (pss_one
 (ps_ret (pe_and (pe_call (ok_are_names T) (hr.mono (by decide)) (by rfl) T.g_are_names T.F_are_names.kp T.b_are_names .nil pass0 (pa_cons (pv 0) pa_nil)) (pe_one (pe_cmpR op_le (pe_callB call_len_seq (by rfl) T.z_len (by decide +kernel) (pa_cons (pv 0) pa_nil)) (pe_glob (v := .int 6) rfl T.c_MOST_OPTIONS ⟨_, rfl⟩) (nomark _)))))), ?_⟩
    refine ⟨.ref o, rfl, o, zs, rfl, ho, ok, fun H1 s1 => ⟨_, rfl, iteT ⟨.ref o, rfl, o, _, rfl, .inr (.of (s1 _ _ ho)), _, _, rfl, rfl, ?_⟩⟩⟩
    have few := ok.few
    have e : decide (((zs.map V.str).length : Int) ≤ 6) = true := decide_eq_true (by rw [List.length_map]; omega)
    show Q (.bl (decide (((zs.map V.str).length : Int) ≤ 6))) H1
    rw [e]
    exact q _ s1
def sp_is_row : Sp := fun vs H Q _ => ∃ (o r t : Addr) (zs : List Str) (b : Bal) (m : Int), vs = [.ref o, .ref r] ∧ H o = some (.tup (zs.map V.str)) ∧ H r = some (.tup [.ref t, .int m]) ∧ BalAt H t b ∧ b.Ok zs ∧ zs.length ≤ 6 ∧ 1 ≤ m ∧ m ≤ 1000000 ∧ ∀ H', Same H H' → Q (.bl true) H'
theorem ok_is_row (T : Txt K mg) : FnOk P w K mg base CX0 5 T.f_is_row T.fd_is_row ["options", "thing"] sp_is_row := by
  refine T.F_is_row.ok sc_is_row (fun vs H Q E h => ?_) (fun cdv A outer s H vs Q E hr h => ?_)
  · obtain ⟨o, r, t, zs, b, m, rfl, _⟩ := h
    rfl
  · obtain ⟨o, r, t, zs, b, m, rfl, ho, hrow, hb, bok, n6, m1, m2, q⟩ := h
    refine ⟨_, (pss_cons
 (ps_if (PW.pt (pw_or (pt_not (pt_val (pe_call (ok_is_tuple_of T) (hr.mono (by decide)) (by rfl) T.g_is_tuple_of T.F_is_tuple_of.kp T.b_is_tuple_of .nil pass0 (pa_cons (pv 1) (pa_cons pe_int pa_nil))))) (pw_or1 (pt_not (pt_val (pe_call (ok_is_ballot T) (hr.mono (by decide)) (by rfl) T.g_is_ballot T.F_is_ballot.kp T.b_is_ballot .nil pass0 (pa_cons (pv 0) (pa_cons (pe_ix ix_tup (pv 1) pe_int (fun _ _ => rfl)) pa_nil))))))))
 (pss_one
 (ps_ret pe_bl))
 pss_nil)
 (pss_one
 (ps_ret (pe_and (pe_call (ok_is_whole T) (hr.mono (by decide)) (by rfl) T.g_is_whole T.F_is_whole.kp T.b_is_whole .nil pass0 (pa_cons (pe_ix ix_tup (pv 1) pe_int (fun _ _ => rfl)) pa_nil)) (pe_one (pe_chain op_le op_le pe_int (pe_ix ix_tup (pv 1) pe_int (fun _ _ => rfl)) (pe_glob (v := .int 1000000) rfl T.c_MOST_VOICES ⟨_, rfl⟩))))))), ?_⟩
    have dr : DAt H (.tuple [b.data, .int m]) (.ref r) := ⟨r, _, rfl, hrow, da1 hb.data (da1 rfl da0)⟩
    refine ⟨.ref r, rfl, .ref r, 2, _, rfl, dr, true, rfl, iteF ?_⟩
    refine ⟨.ref o, rfl, .ref r, rfl, r, _, 0, .ref t, rfl, rfl, .of hrow, atI_nat (j := 0) rfl, o, zs, .ref t, b.data, rfl, ho, hb.data, bok.fit n6, fun H1 s1 => ?_⟩
    rw [bok.good]
    refine ⟨true, rfl, iteF ?_⟩
    refine ⟨.ref r, rfl, r, _, 1, .int m, rfl, rfl, .of (s1 _ _ hrow), atI_nat (j := 1) rfl, .int m, .int m, rfl, rfl, true, rfl, iteT ?_⟩
    refine ⟨.ref r, rfl, r, _, 1, .int m, rfl, rfl, .of (s1 _ _ hrow), atI_nat (j := 1) rfl, _, _, rfl, rfl, _, rfl, ite2 (fun _ => ?_) (fun e => absurd (decide_eq_true m1) e)⟩
    refine ⟨_, _, rfl, rfl, ?_⟩
    show Q (.bl (decide (m ≤ 1000000))) H1
    rw [decide_eq_true m2]
    exact q _ s1
def sp_check_poll : Sp := fun vs H Q _ => ∃ (o u : Addr) (zs : List Str) (rows : List (Bal × Int)), vs = [.ref o, .ref u] ∧ H o = some (.tup (zs.map V.str)) ∧ RowsAt H u rows ∧ OptsOk zs ∧ RowsOk zs 30 rows ∧ ∀ H', Same H H' → Q .non H'
theorem ok_check_poll (T : Txt K mg) : FnOk P w K mg base (L2.CX P w) 6 T.f_check_poll T.fd_check_poll ["options", "voices"] sp_check_poll := by
  refine T.F_check_poll.okX sc_check_poll (fun vs H Q E h => ?_) (fun cdv A outer s H vs Q E hr h => ?_)
  · obtain ⟨o, u, zs, rows, rfl, _⟩ := h
    rfl
  · obtain ⟨o, u, zs, rows, rfl, ho, ⟨as, hu, ha, hm⟩, ok, rok, q⟩ := h
    refine ⟨_, (pss_cons
 (ps_if (pt_not (pt_val (pe_call (ok_are_options T) (hr.mono (by decide)) (by rfl) T.g_are_options T.F_are_options.kp T.b_are_options .nil pass0 (pa_cons (pv 0) pa_nil))))
 (pss_one
 (ps_raise rfl (takes_of rfl rfl rfl rfl) (px_pos T.ex_BadPoll (ok_PollError_init T) (hr.mono (by decide)) (by rfl) T.k_BadPoll T.kb_PollError_init_2 (fun σ => at0 σ) (pa_cons pe_str pa_nil))))
 pss_nil)
 (pss_cons
 (ps_if (PW.pt (pw_or (pt_not (pt_val (pe_callB call_isi (by rfl) T.z_isinstance (by decide +kernel) (pa_cons (pv 1) (pa_cons (pe_bltn (v := .ty "tuple") (u := .type "tuple") rfl T.z_tuple (by decide +kernel) rfl) pa_nil))))) (pw_or1 (pt_cmpR op_gt (pe_callB call_len_seq (by rfl) T.z_len (by decide +kernel) (pa_cons (pv 1) pa_nil)) (pe_glob (v := .int 30) rfl T.c_MOST_ROWS ⟨_, rfl⟩) (nomark _)))))
 (pss_one
 (ps_raise rfl (takes_of rfl rfl rfl rfl) (px_pos T.ex_BadPoll (ok_PollError_init T) (hr.mono (by decide)) (by rfl) T.k_BadPoll T.kb_PollError_init_2 (fun σ => at0 σ) (pa_cons pe_str pa_nil))))
 pss_nil)
 (pss_one
 (ps_if (pt_not (pt_val (pe_callB (cr_all rfl) (by rfl) T.z_all (by decide +kernel) (pa_cons (pe_lc (own := [("row", 2)]) (g := gName 2) (tt := tYes) rfl sc_check_poll.nd (pi_tup (pv 1)) (blkOk_by (own := [("row", 2)]) (N := ["options", "voices", "row"]) (sc := (defScope s_check_poll)) (by decide +kernel)) (fun _ _ _ _ _ => pg_name (i := 2) sc_check_poll.nd rfl (Or.inl rfl)) (fun _ _ _ _ _ => pts_nil) (fun _ _ _ _ _ => (pe_call (ok_is_row T) (hr.mono (by decide)) (by rfl) T.g_is_row T.F_is_row.kp T.b_is_row .nil pass0 (pa_cons (pv 0) (pa_cons (pv 2) pa_nil))))) pa_nil))))
 (pss_one
 (ps_raise rfl (takes_of rfl rfl rfl rfl) (px_pos T.ex_BadPoll (ok_PollError_init T) (hr.mono (by decide)) (by rfl) T.k_BadPoll T.kb_PollError_init_2 (fun σ => at0 σ) (pa_cons pe_str pa_nil))))
 pss_nil)))), ?_⟩
    have la : as.length = rows.length := by rw [← hm, List.length_map]
    have l30 := rok.1
    refine ⟨.ref o, rfl, o, zs, rfl, ho, ok, fun H1 s1 => ⟨true, rfl, iteF ?_⟩⟩
    have hu1 := s1 _ _ hu
    refine ⟨.ref u, rfl, .ref u, _, _, _, true, rfl, .ty _, .base (.tup hu1), kit_ty (show kitB "tuple" "tuple" = some true by decide +kernel), true, rfl, iteF ?_⟩
    refine ⟨.ref u, rfl, u, _, rfl, .inr (.of hu1), _, _, rfl, rfl, _, rfl, ite2 (fun e => ?_) (fun _ => ?_)⟩
    · have e := of_decide_eq_true e
      rw [List.length_map] at e
      omega
    · refine ⟨.ref u, rfl, u, rfl, ⟨_, .of hu1⟩, fun D nD => ?_⟩
      have nDH := s1.free nD
      refine lc_tup (K := K) (a := u) (xs := as.map fun a => V.ref a.1) (fun i H' => Same H H' ∧ H' D = some (.lst ((List.replicate i true).map V.bl))) ⟨s1.trans (same_upd nD), upd_same⟩ (fun _ _ _ h => .of (h.1 _ _ hu)) ?_ ?_
      · rintro i x H2 hi ⟨s2, e2⟩
        obtain ⟨a, hai, rfl⟩ := item_map hi
        have il := (List.getElem?_eq_some_iff.mp hai).1
        obtain ⟨h1, h2⟩ := ha a (List.mem_of_getElem? hai)
        obtain ⟨bok, m1, m2⟩ := rok.2 a.2.2 (by rw [← hm]; exact List.mem_map.mpr ⟨a, List.mem_of_getElem? hai, rfl⟩)
        refine ⟨rfl, .ref o, rfl, .ref a.1, rfl, o, a.1, a.2.1, zs, a.2.2.1, a.2.2.2, rfl, s2 _ _ ho, s2 _ _ h1, h2.same s2, bok, ok.few, m1, m2, fun H3 s3 => ⟨_, s3 _ _ e2, small1000 (by rw [List.length_map, List.length_replicate]; omega), same_mut (s2.trans s3) nDH, ?_⟩⟩
        rw [upd_same, List.replicate_succ', List.map_append]
        rfl
      · rintro H2 ⟨s2, e2⟩
        refine ⟨D, _, rfl, .of e2, ?_⟩
        have ea : ∀ n, (List.replicate n true).all id = true := fun n => by induction n with
          | zero => rfl
          | succ n ih => rw [List.replicate_succ, List.all_cons, ih] <;> rfl
        rw [ea]
        exact ⟨_, rfl, iteF (q _ s2)⟩
def sp_Poll_init (C : Addr) : Sp := fun vs H Q _ => ∃ (p dx o u : Addr) (zs : List Str) (rows : List (Bal × Int)), vs = [.ref p, .ref o, .ref u] ∧ H p = some (.ins C dx []) ∧ H o = some (.tup (zs.map V.str)) ∧ RowsAt H u rows ∧ OptsOk zs ∧ RowsOk zs 30 rows ∧
  ∀ H', But p H H' → H' p = some (.ins C dx (pollF o u)) → Q .non H'
theorem ok_Poll_init (T : Txt K mg) : FnOk P w K mg base (L2.CX P w) 7 T.f_Poll_init T.fd_Poll_init ["self", "options", "voices"] (sp_Poll_init T.C_Poll) := by
  refine T.F_Poll_init.ok (CX := L2.CX P w) sc_Poll_init (fun vs H Q E h => ?_) (fun cdv A outer s H vs Q E hr h => ?_)
  · obtain ⟨p, dx, o, u, zs, rows, rfl, _⟩ := h
    rfl
  · obtain ⟨p, dx, o, u, zs, rows, rfl, hp, ho, hu, ok, rok, q⟩ := h
    refine ⟨_, (pss_cons
 (ps_expr (pf_pos (ok_check_poll T) (hr.mono (by decide)) (by rfl) T.g_check_poll T.F_check_poll.kp T.kb_check_poll_2 (fun σ => atN σ) (pa_cons (pv 1) (pa_cons (pv 2) pa_nil))))
 (pss_cons
 (ps_fld (pv 0) (pv 1) rfl)
 (pss_one
 (ps_fld (pv 0) (pv 2) rfl)))), ?_⟩
    refine ⟨.ref o, rfl, .ref u, rfl, rfl, rfl, o, u, zs, rows, rfl, ho, hu, ok, rok, fun H1 s1 => ?_⟩
    refine ⟨.ref o, rfl, .ref p, rfl, p, T.C_Poll, dx, [], rfl, s1 _ _ hp, T.cl_Poll, T.n_Poll_options, by decide, ?_⟩
    refine ⟨.ref u, rfl, .ref p, rfl, p, T.C_Poll, dx, _, rfl, upd_same, T.cl_Poll, T.n_Poll_voices, (by show 1 < 1000; decide), ?_⟩
    refine q _ (fun y x hy hx => ?_) upd_same
    rw [upd_ne hy, upd_ne hy]
    exact s1 _ _ hx
end
/-! ### margins, in plain words -/
def sg (a b : Int) : Int := if a < b then 1 else if a > b then -1 else 0
def marg : List (Bal × Int) → Str → Str → Int
  | [], _, _ => 0
  | r :: rs, y, z => r.2 * sg (r.1.rk y) (r.1.rk z) + marg rs y z
theorem marg_more (y z : Str) (r : Bal × Int) : ∀ rs : List (Bal × Int), marg (rs ++ [r]) y z = marg rs y z + r.2 * sg (r.1.rk y) (r.1.rk z)
  | [] => by
    show r.2 * sg (r.1.rk y) (r.1.rk z) + 0 = 0 + r.2 * sg (r.1.rk y) (r.1.rk z)
    omega
  | q :: rs => by
    show q.2 * sg (q.1.rk y) (q.1.rk z) + marg (rs ++ [r]) y z = q.2 * sg (q.1.rk y) (q.1.rk z) + marg rs y z + r.2 * sg (r.1.rk y) (r.1.rk z)
    rw [marg_more y z r rs]
    omega
theorem sg_turn (a b : Int) : sg b a = -sg a b := by
  unfold sg
  by_cases h : a < b <;> by_cases g : b < a
  · omega
  all_goals simp [h, g]
theorem marg_turn (y z : Str) : ∀ rs : List (Bal × Int), marg rs z y = -marg rs y z
  | [] => rfl
  | r :: rs => by
    show r.2 * sg (r.1.rk z) (r.1.rk y) + marg rs z y = -(r.2 * sg (r.1.rk y) (r.1.rk z) + marg rs y z)
    rw [sg_turn, marg_turn y z rs, Int.mul_neg]
    omega
/-! ### a dict of pairs of names, each with its number -/
def row2 (f : Str → Str → Int) (y : Str) (zs : List Str) : List (List Key × V) := (zs.filter fun z => decide (y ≠ z)).map fun z => ([.inr y, .inr z], .int (f y z))
def tab2 (zs : List Str) (f : Str → Str → Int) (ys : List Str) : List (List Key × V) := ys.flatMap fun y => row2 f y zs
theorem val_none {κ : Type} [DecidableEq κ] {kvs : List (κ × V)} {k : κ} (h : ∀ e ∈ kvs, e.1 ≠ k) : valV kvs k = none := by
  unfold valV
  rw [List.find?_eq_none.mpr fun e he => by simpa using h e he] <;> rfl
theorem val_some {κ : Type} [DecidableEq κ] {k : κ} {v : V} : ∀ {kvs : List (κ × V)}, (k, v) ∈ kvs → (∀ e ∈ kvs, e.1 = k → e.2 = v) → valV kvs k = some v
  | [], h, _ => by cases h
  | e :: kvs, h, u => by
    by_cases c : e.1 = k
    · rw [valV_pos c, u e List.mem_cons_self c]
    · rw [valV_neg c]
      refine val_some ?_ fun e' h' => u e' (List.mem_cons_of_mem _ h')
      rcases List.mem_cons.mp h with rfl | h
      · exact absurd rfl c
      · exact h
theorem mem_row2 {f : Str → Str → Int} {y : Str} {zs : List Str} {e : List Key × V} : e ∈ row2 f y zs ↔ ∃ z ∈ zs, y ≠ z ∧ e = ([.inr y, .inr z], .int (f y z)) := by
  unfold row2
  rw [List.mem_map]
  constructor
  · rintro ⟨z, hz, rfl⟩
    obtain ⟨h1, h2⟩ := List.mem_filter.mp hz
    exact ⟨z, h1, of_decide_eq_true h2, rfl⟩
  · rintro ⟨z, hz, n, rfl⟩
    exact ⟨z, List.mem_filter.mpr ⟨hz, decide_eq_true n⟩, rfl⟩
theorem mem_tab2 {f : Str → Str → Int} {ys zs : List Str} {e : List Key × V} : e ∈ tab2 zs f ys ↔ ∃ y ∈ ys, ∃ z ∈ zs, y ≠ z ∧ e = ([.inr y, .inr z], .int (f y z)) := by
  unfold tab2
  rw [List.mem_flatMap]
  exact ⟨fun ⟨y, hy, h⟩ => ⟨y, hy, mem_row2.mp h⟩, fun ⟨y, hy, h⟩ => ⟨y, hy, mem_row2.mpr h⟩⟩
theorem key2_inj {y z y' z' : Str} (h : ([.inr y, .inr z] : List Key) = [.inr y', .inr z']) : y = y' ∧ z = z' := by
  obtain ⟨h1, h2⟩ := List.cons.inj h
  exact ⟨Sum.inr.inj h1, Sum.inr.inj (List.cons.inj h2).1⟩
theorem tab2_val {f : Str → Str → Int} {zs : List Str} {y z : Str} (hy : y ∈ zs) (hz : z ∈ zs) (n : y ≠ z) : valV (tab2 zs f zs) [.inr y, .inr z] = some (.int (f y z)) := by
  refine val_some (mem_tab2.mpr ⟨y, hy, z, hz, n, rfl⟩) fun e he k => ?_
  obtain ⟨y', _, z', _, _, rfl⟩ := mem_tab2.mp he
  obtain ⟨rfl, rfl⟩ := key2_inj k
  rfl
theorem tab2_len (f : Str → Str → Int) (zs : List Str) : ∀ ys : List Str, (tab2 zs f ys).length ≤ ys.length * zs.length
  | [] => Nat.zero_le _
  | y :: ys => by
    have h := tab2_len f zs ys
    show (row2 f y zs ++ tab2 zs f ys).length ≤ (ys.length + 1) * zs.length
    have g : (row2 f y zs).length ≤ zs.length := by
      unfold row2
      rw [List.length_map]
      exact List.length_filter_le _ _
    rw [List.length_append, Nat.add_mul]
    omega
theorem row2_new {f : Str → Str → Int} {zs : List Str} {y z : Str} {i j : Nat} (nd : zs.Nodup) (hy : zs[i]? = some y) (hz : zs[j]? = some z) (n : y ≠ z) :
    putK (tab2 zs f (zs.take i) ++ row2 f y (zs.take j)) [.inr y, .inr z] (.int (f y z)) = tab2 zs f (zs.take i) ++ row2 f y (zs.take (j + 1)) := by
  have none' : valV (tab2 zs f (zs.take i) ++ row2 f y (zs.take j)) ([.inr y, .inr z] : List Key) = none := val_none fun e he k => by
    rcases List.mem_append.mp he with he | he
    · obtain ⟨y', hy', z', _, _, rfl⟩ := mem_tab2.mp he
      obtain ⟨rfl, rfl⟩ := key2_inj k
      exact nodup_out nd hy hy'
    · obtain ⟨z', hz', _, rfl⟩ := mem_row2.mp he
      obtain ⟨_, rfl⟩ := key2_inj k
      exact nodup_out nd hz hz'
  rw [putK_new _ none', List.append_assoc]
  refine congrArg _ ?_
  unfold row2
  rw [take_more hz, List.filter_append, List.map_append, List.filter_cons_of_pos (p := fun z => decide (y ≠ z)) (decide_eq_true n)] <;> rfl
theorem row2_skip {f : Str → Str → Int} {zs : List Str} {y z : Str} {j : Nat} (hz : zs[j]? = some z) (n : ¬ y ≠ z) : row2 f y (zs.take (j + 1)) = row2 f y (zs.take j) := by
  unfold row2
  rw [take_more hz, List.filter_append, List.filter_cons_of_neg (p := fun z => decide (y ≠ z)) (by simpa using n)]
  simp
theorem tab2_more {f : Str → Str → Int} {zs ys : List Str} {y : Str} {i : Nat} (hy : ys[i]? = some y) : tab2 zs f (ys.take (i + 1)) = tab2 zs f (ys.take i) ++ row2 f y zs := by
  unfold tab2
  rw [take_more hy, List.flatMap_append]
  simp
/-- the ranked rows at l: each row's tuple, its ranks -/
def RkAt (H : Hp) (l : Addr) (zs : List Str) (qs : List (Addr × Addr × (Bal × Int))) : Prop := H l = some (.lst (qs.map fun q => V.ref q.1)) ∧ ∀ q ∈ qs, H q.1 = some (.tup [.ref q.2.1, .int q.2.2.2]) ∧ H q.2.1 = some (.dK (tab zs q.2.2.1.rk))
theorem RkAt.same {H H' : Hp} {l : Addr} {zs : List Str} {qs : List (Addr × Addr × (Bal × Int))} (s : Same H H') (h : RkAt H l zs qs) : RkAt H' l zs qs := ⟨s _ _ h.1, fun q hq => ⟨s _ _ (h.2 q hq).1, s _ _ (h.2 q hq).2⟩⟩
/-- a good poll at p -/
structure PollOk (C : Addr) (H : Hp) (p o u : Addr) (zs : List Str) (rows : List (Bal × Int)) : Prop where
  poll : PollAt C H p o u
  opts : H o = some (.tup (zs.map V.str))
  votes : RowsAt H u rows
  ok : OptsOk zs
  rok : RowsOk zs 30 rows
theorem PollOk.same {C : Addr} {H H' : Hp} {p o u : Addr} {zs : List Str} {rows : List (Bal × Int)} (s : Same H H') (h : PollOk C H p o u zs rows) : PollOk C H' p o u zs rows := ⟨h.poll.same s, s _ _ h.opts, h.votes.same s, h.ok, h.rok⟩
section
variable {P : Program} {w : World} {K : PySem.W.Frag} {mg : Str → Option Value} {base : Heap}
def sp_ranked (C : Addr) : Sp := fun vs H Q _ => ∃ (p o u : Addr) (zs : List Str) (rows : List (Bal × Int)), vs = [.ref p] ∧ PollOk C H p o u zs rows ∧
  ∀ (l : Addr) (qs : List (Addr × Addr × (Bal × Int))) (H' : Hp), Same H H' → RkAt H' l zs qs → qs.map (·.2.2) = rows → Q (.ref l) H'
theorem ok_ranked (T : Txt K mg) : FnOk P w K mg base CX0 3 T.f_ranked T.fd_ranked ["poll"] (sp_ranked T.C_Poll) := by
  refine T.F_ranked.ok sc_ranked (fun vs H Q E h => ?_) (fun cdv A outer s H vs Q E hr h => ?_)
  · obtain ⟨p, o, u, zs, rows, rfl, _⟩ := h
    rfl
  · obtain ⟨p, o, u, zs, rows, rfl, pk, q⟩ := h
    refine ⟨_, (pss_one
 (ps_ret (pe_lc (own := [("ballot", 1), ("many", 2)]) (tt := tYes) rfl sc_ranked.nd (pi_tup (pe_fld (pv 0) rfl)) (blkOk_by (own := [("ballot", 1), ("many", 2)]) (N := ["poll", "ballot", "many"]) (sc := (defScope s_ranked)) (by decide +kernel)) (fun s0 H0 C0 cl0 fp0 => (by have h := (pg_tup (n := 2) rfl (pgs_cons (pg_name (i := 1) sc_ranked.nd rfl (Or.inl rfl)) (pgs_cons (pg_name (i := 2) sc_ranked.nd rfl (Or.inl rfl)) pgs_nil)) : PG ((cxOf CX0 P w K mg base ["poll", "ballot", "many"] "ranked" (defScope s_ranked) T.f_ranked cdv A outer s H E).nox.blk s0 H0 (lcScope (rootE ((defBody s_ranked).getD 0 (.Pass ⟨0, 0, 0, 0⟩)))) (compEnvC (lcScope (rootE ((defBody s_ranked).getD 0 (.Pass ⟨0, 0, 0, 0⟩)))) cl0 C0 (cxOf CX0 P w K mg base ["poll", "ballot", "many"] "ranked" (defScope s_ranked) T.f_ranked cdv A outer s H E).nox.env) fp0) (subE (rootE ((defBody s_ranked).getD 0 (.Pass ⟨0, 0, 0, 0⟩))) 2) _); dsimp only [Cx.blk, Cx.tr, Cx.suite, Cx.nox, Cx.wish, cxOf] at h; exact h)) (fun _ _ _ _ _ => pts_nil) (fun s0 H0 C0 cl0 fp0 => (by have h := ((pe_tup (pa_cons (pe_call (ok_ranks T) (hr.mono (by decide)) (by rfl) T.g_ranks T.F_ranks.kp T.b_ranks .nil pass0 (pa_cons (pe_fld (pv 0) rfl) (pa_cons (pv 1) pa_nil))) (pa_cons (pv 2) pa_nil))) : PE ((cxOf CX0 P w K mg base ["poll", "ballot", "many"] "ranked" (defScope s_ranked) T.f_ranked cdv A outer s H E).nox.blk s0 H0 (lcScope (rootE ((defBody s_ranked).getD 0 (.Pass ⟨0, 0, 0, 0⟩)))) (compEnvC (lcScope (rootE ((defBody s_ranked).getD 0 (.Pass ⟨0, 0, 0, 0⟩)))) cl0 C0 (cxOf CX0 P w K mg base ["poll", "ballot", "many"] "ranked" (defScope s_ranked) T.f_ranked cdv A outer s H E).nox.env) fp0) (subE (rootE ((defBody s_ranked).getD 0 (.Pass ⟨0, 0, 0, 0⟩))) 0) _); dsimp only [Cx.blk, Cx.tr, Cx.suite, Cx.nox, Cx.wish, cxOf] at h; exact h))))), ?_⟩
    obtain ⟨⟨dx, hp⟩, ho, ⟨as, hu, ha, hm⟩, ok, rok⟩ := pk
    have la : as.length = rows.length := by rw [← hm, List.length_map]
    have l30 := rok.1
    refine ⟨.ref p, rfl, p, T.C_Poll, dx, _, .ref u, rfl, hp, T.cl_Poll, T.n_Poll_voices, pollF_voices o u, u, rfl, ⟨_, .of hu⟩, fun D nD => ?_⟩
    refine lc_tup (K := K) (a := u) (xs := as.map fun a => V.ref a.1) (fun i H' => ∃ qs : List (Addr × Addr × (Bal × Int)), Same H H' ∧ RkAt H' D zs qs ∧ qs.map (·.2.2) = rows.take i) ⟨[], same_upd nD, ⟨upd_same, fun _ h => (by cases h)⟩, rfl⟩ (fun _ _ _ ⟨_, h, _⟩ => .of (h _ _ hu)) ?_ ?_
    · rintro i x H1 hi ⟨qs, s1, rk, m1⟩
      obtain ⟨a, hai, rfl⟩ := item_map hi
      have il := (List.getElem?_eq_some_iff.mp hai).1
      obtain ⟨h1, h2⟩ := ha a (List.mem_of_getElem? hai)
      have mem : a.2.2 ∈ rows := by rw [← hm]; exact List.mem_map.mpr ⟨a, List.mem_of_getElem? hai, rfl⟩
      have ri : rows[i]? = some a.2.2 := by rw [← hm, List.getElem?_map, hai]; rfl
      obtain ⟨bok, _, _⟩ := rok.2 a.2.2 mem
      have lq : qs.length = i := by
        have := congrArg List.length m1
        rw [List.length_map, List.length_take] at this
        omega
      refine ⟨a.1, _, rfl, .of (s1 _ _ h1), rfl, _, _, rfl, _, _, rfl, rfl, rfl, ?_⟩
      refine ⟨.ref p, rfl, p, T.C_Poll, dx, _, .ref o, rfl, s1 _ _ hp, T.cl_Poll, T.n_Poll_options, pollF_options o u, .ref a.2.1, rfl, o, a.2.1, zs, a.2.2.1, rfl, s1 _ _ ho, h2.same s1, bok, ok.nodup, ok.few, fun Dr H2 s2 nDr eDr => ?_⟩
      refine ⟨.int a.2.2.2, rfl, line_of (show 2 ≤ 1000 by decide), fun t nt => ?_⟩
      have s3 := same_upd (o := HO.tup [V.ref Dr, V.int a.2.2.2]) nt
      have et : (upd H2 t (.tup [V.ref Dr, V.int a.2.2.2])) t = some (.tup [V.ref Dr, V.int a.2.2.2]) := upd_same
      have rk3 := (rk.same s2).same s3
      have eD := s3 _ _ eDr
      generalize upd H2 t (.tup [V.ref Dr, V.int a.2.2.2]) = H3 at s3 et rk3 eD
      refine ⟨_, rk3.1, small1000 (by rw [List.length_map]; omega), qs ++ [(t, Dr, a.2.2)], same_mut (s1.trans (s2.trans s3)) nD, ⟨by rw [upd_same, List.map_append]; rfl, fun q' hq => ?_⟩, by rw [List.map_append, m1, take_more ri]; rfl⟩
      have both : H3 q'.1 = some (.tup [.ref q'.2.1, .int q'.2.2.2]) ∧ H3 q'.2.1 = some (.dK (tab zs q'.2.2.1.rk)) := by
        rcases List.mem_append.mp hq with hq | hq
        · exact rk3.2 q' hq
        · rw [List.mem_singleton.mp hq]
          exact ⟨et, eD⟩
      rw [upd_ne (fun e => by rw [e, rk3.1] at both; cases both.1), upd_ne (fun e => by rw [e, rk3.1] at both; cases both.2)]
      exact both
    · rintro H1 ⟨qs, s1, rk, m1⟩
      rw [List.length_map, la, List.take_length] at m1
      exact q D qs H1 s1 rk m1
def sp_margin_by : Sp := fun vs H Q _ => ∃ (l : Addr) (zs : List Str) (qs : List (Addr × Addr × (Bal × Int))) (y z : Str), vs = [.ref l, .str y, .str z] ∧ RkAt H l zs qs ∧ y ∈ zs ∧ z ∈ zs ∧ Q (.int (marg (qs.map (·.2.2)) y z)) H
theorem ok_margin_by (T : Txt K mg) : FnOk P w K mg base CX0 1 T.f_margin_by T.fd_margin_by ["rows", "one", "other"] sp_margin_by := by
  refine T.F_margin_by.ok sc_margin_by (fun vs H Q E h => ?_) (fun cdv A outer s H vs Q E hr h => ?_)
  · obtain ⟨l, zs, qs, y, z, rfl, _⟩ := h
    rfl
  · obtain ⟨l, zs, qs, y, z, rfl, rk, hy, hz, q⟩ := h
    refine ⟨_, (pss_cons
 (ps_set (i := 3) sc_margin_by.nd rfl (Or.inl rfl) pe_int)
 (pss_cons
 (ps_for PassesOwn.never rfl (pi_list (pv 0)) (pg_tup rfl (pgs_cons (pg_name (i := 4) sc_margin_by.nd rfl (Or.inl rfl)) (pgs_cons (pg_name (i := 5) sc_margin_by.nd rfl (Or.inl rfl)) pgs_nil)))
 (pss_one
 (ps_if (pt_cmpR op_lt (pe_dget (hu_of hr) (pv 4) (pv 1) (fun _ _ => rfl)) (pe_dget (hu_of hr) (pv 4) (pv 2) (fun _ _ => rfl)) (nomark _))
 (pss_one
 (ps_aug (i := 3) sc_margin_by.nd rfl (Or.inl rfl) (pv 5) ip_add))
 (pss_one
 (ps_if (pt_cmpR op_gt (pe_dget (hu_of hr) (pv 4) (pv 1) (fun _ _ => rfl)) (pe_dget (hu_of hr) (pv 4) (pv 2) (fun _ _ => rfl)) (nomark _))
 (pss_one
 (ps_aug (i := 3) sc_margin_by.nd rfl (Or.inl rfl) (pv 5) ip_sub))
 pss_nil)))))
 (pss_one
 (ps_ret (pv 3))))), ?_⟩
    refine ⟨.ref l, rfl, l, rfl, ⟨_, .of rk.1⟩, for_list (K := K) (a := l) (xs := qs.map fun q => V.ref q.1) (fun i σ H' => ∃ x4 x5 : Option V, σ = [some (.ref l), some (.str y), some (.str z), some (.int (marg ((qs.take i).map (·.2.2)) y z)), x4, x5] ∧ H' = H) ⟨none, none, rfl, rfl⟩ (fun _ _ _ _ ⟨_, _, _, e⟩ => by rw [e]; exact .of rk.1) ?_ ?_⟩
    · rintro i x σ H1 hi ⟨x4, x5, rfl, rfl⟩
      obtain ⟨a, hai, rfl⟩ := item_map hi
      obtain ⟨h1, h2⟩ := rk.2 a (List.mem_of_getElem? hai)
      have got : ∀ {x : Str}, x ∈ zs → DGet H1 a.2.1 (.str x) (some (.int (a.2.2.1.rk x))) := fun {x} hx => by
        have := DGet.k (k := .inr x) h2
        rw [tab_val, if_pos hx] at this
        exact this
      have next : marg ((qs.take (i + 1)).map (·.2.2)) y z = marg ((qs.take i).map (·.2.2)) y z + a.2.2.2 * sg (a.2.2.1.rk y) (a.2.2.1.rk z) := by
        rw [take_more hai, List.map_append]
        exact marg_more y z a.2.2 _
      refine ⟨a.1, _, rfl, .of h1, rfl, _, _, rfl, _, _, rfl, rfl, ?_⟩
      refine ⟨.ref a.2.1, rfl, .str y, rfl, a.2.1, _, rfl, got hy, .ref a.2.1, rfl, .str z, rfl, a.2.1, _, rfl, got hz, _, _, rfl, rfl, _, rfl, ite2 (fun e => ?_) (fun e => ?_)⟩
      · have lt := of_decide_eq_true e
        refine ⟨_, rfl, .int a.2.2.2, rfl, _, _, rfl, rfl, some (.ref a.2.1), some (.int a.2.2.2), ?_, rfl⟩
        rw [next]
        unfold sg
        rw [if_pos lt, Int.mul_one]
        rfl
      · have nlt : ¬ a.2.2.1.rk y < a.2.2.1.rk z := fun h => e (decide_eq_true h)
        refine ⟨.ref a.2.1, rfl, .str y, rfl, a.2.1, _, rfl, got hy, .ref a.2.1, rfl, .str z, rfl, a.2.1, _, rfl, got hz, _, _, rfl, rfl, _, rfl, ite2 (fun e => ?_) (fun e => ?_)⟩
        · have gt := of_decide_eq_true e
          refine ⟨_, rfl, .int a.2.2.2, rfl, _, _, rfl, rfl, some (.ref a.2.1), some (.int a.2.2.2), ?_, rfl⟩
          rw [next]
          unfold sg
          rw [if_neg nlt, if_pos gt, Int.mul_neg, Int.mul_one, ← Int.sub_eq_add_neg]
          rfl
        · have ngt : ¬ a.2.2.1.rk y > a.2.2.1.rk z := fun h => e (decide_eq_true h)
          refine ⟨some (.ref a.2.1), some (.int a.2.2.2), ?_, rfl⟩
          rw [next]
          unfold sg
          rw [if_neg nlt, if_neg ngt, Int.mul_zero, Int.add_zero]
          rfl
    · rintro σ H1 ⟨x4, x5, rfl, rfl⟩
      rw [List.length_map, List.take_length]
      exact ⟨_, rfl, q⟩
def sp_margins (C : Addr) : Sp := fun vs H Q _ => ∃ (p o u : Addr) (zs : List Str) (rows : List (Bal × Int)), vs = [.ref p] ∧ PollOk C H p o u zs rows ∧
  ∀ (D : Addr) (H' : Hp), Same H H' → H D = none → H' D = some (.dT (tab2 zs (marg rows) zs)) → Q (.ref D) H'
theorem ok_margins (T : Txt K mg) : FnOk P w K mg base CX0 4 T.f_margins T.fd_margins ["poll"] (sp_margins T.C_Poll) := by
  refine T.F_margins.ok sc_margins (fun vs H Q E h => ?_) (fun cdv A outer s H vs Q E hr h => ?_)
  · obtain ⟨p, o, u, zs, rows, rfl, _⟩ := h
    rfl
  · obtain ⟨p, o, u, zs, rows, rfl, pk, q⟩ := h
    refine ⟨_, (pss_cons
 (ps_set (i := 1) sc_margins.nd rfl (Or.inr rfl) (pe_call (ok_ranked T) (hr.mono (by decide)) (by rfl) T.g_ranked T.F_ranked.kp T.b_ranked .nil pass0 (pa_cons (pv 0) pa_nil)))
 (pss_one
 (ps_ret (pe_dc2 (own := [("one", 2), ("other", 3)]) (vs1 := [3]) (e0 := .dT []) (g := gName 2) (g1 := gName 3) (tt := tYes) (.inr rfl) (hu_of hr) rfl sc_margins.nd (pi_tup (pe_fld (pv 0) rfl)) (blkOk_by (own := [("one", 2), ("other", 3)]) (N := ["poll", "rows", "one", "other"]) (sc := (defScope s_margins)) (by decide +kernel)) (by decide) (fun _ _ _ _ _ => pg_name (i := 2) sc_margins.nd rfl (Or.inl rfl)) (fun _ _ _ _ _ => pts_nil) (fun s0 H0 C0 cl0 fp0 => (by have h := ((pi_tup (pe_fld (pv 0) rfl)) : PI ((cxOf CX0 P w K mg base ["poll", "rows", "one", "other"] "margins" (defScope s_margins) T.f_margins cdv A outer s H E).nox.blk s0 H0 (lcScope (rootE ((defBody s_margins).getD 1 (.Pass ⟨0, 0, 0, 0⟩)))) (compEnvC (lcScope (rootE ((defBody s_margins).getD 1 (.Pass ⟨0, 0, 0, 0⟩)))) cl0 C0 (cxOf CX0 P w K mg base ["poll", "rows", "one", "other"] "margins" (defScope s_margins) T.f_margins cdv A outer s H E).nox.env) fp0) (lcG (rootE ((defBody s_margins).getD 1 (.Pass ⟨0, 0, 0, 0⟩))) 1).target (lcG (rootE ((defBody s_margins).getD 1 (.Pass ⟨0, 0, 0, 0⟩))) 1).iter _); dsimp only [Cx.blk, Cx.tr, Cx.suite, Cx.nox, Cx.wish, cxOf] at h; exact h)) (fun _ _ _ _ _ => pg_name (i := 3) sc_margins.nd rfl (Or.inl rfl)) (fun _ _ _ _ _ => (pts_one (pt_cmpR op_ne (pv 2) (pv 3) (nomark _)))) (fun _ _ _ _ _ => (pe_tup (pa_cons (pv 2) (pa_cons (pv 3) pa_nil)))) (fun _ _ _ _ _ => (pe_call (ok_margin_by T) (hr.mono (by decide)) (by rfl) T.g_margin_by T.F_margin_by.kp T.b_margin_by .nil pass0 (pa_cons (pv 1) (pa_cons (pv 2) (pa_cons (pv 3) pa_nil))))))))), ?_⟩
    refine ⟨.ref p, rfl, p, o, u, zs, rows, rfl, pk, fun l qs H1 s1 rk m1 => ?_⟩
    have pk1 := pk.same s1
    have few := pk.ok.few
    have nd := pk.ok.nodup
    obtain ⟨dx, hp⟩ := pk1.poll
    have ho := pk1.opts
    refine ⟨.ref p, rfl, p, T.C_Poll, dx, _, .ref o, rfl, hp, T.cl_Poll, T.n_Poll_options, pollF_options o u, o, rfl, ⟨_, .of ho⟩, fun D nD => ?_⟩
    have nDH := s1.free nD
    refine dOut_tup (K := K) (a := o) (xs := zs.map V.str) (fun i H' => Same H1 H' ∧ H' D = some (.dT (tab2 zs (marg rows) (zs.take i)))) ⟨same_upd nD, upd_same⟩ (fun _ _ h => .of (h.1 _ _ ho)) ?_ ?_
    · rintro i x H2 hi ⟨s2, e2⟩
      obtain ⟨y, hy, rfl⟩ := item_map hi
      have hy' := List.mem_of_getElem? hy
      refine ⟨rfl, .ref p, rfl, p, T.C_Poll, dx, _, .ref o, rfl, s2 _ _ hp, T.cl_Poll, T.n_Poll_options, pollF_options o u, o, rfl, ⟨_, .of (s2 _ _ ho)⟩, ?_⟩
      refine dIn_tup (K := K) (b := o) (ys := zs.map V.str) (fun j H' => Same H1 H' ∧ H' D = some (.dT (tab2 zs (marg rows) (zs.take i) ++ row2 (marg rows) y (zs.take j)))) ⟨s2, ?_⟩ (fun _ _ h => .of (h.1 _ _ ho)) ?_ ?_
      · rw [e2]
        exact congrArg (fun l => some (HO.dT l)) (List.append_nil _).symm
      · rintro j x H3 hj ⟨s3, e3⟩
        obtain ⟨z, hz, rfl⟩ := item_map hj
        have hz' := List.mem_of_getElem? hz
        refine ⟨rfl, .str y, rfl, .str z, rfl, rfl, _, rfl, ite2 (fun e => ?_) (fun e => ?_)⟩
        · have ne : y ≠ z := fun h => by subst h; simp at e
          refine ⟨.str y, rfl, .str z, rfl, line_of (show 2 ≤ 1000 by decide), fun t nt => ?_⟩
          have s4 := same_upd (o := HO.tup [V.str y, V.str z]) nt
          refine ⟨.ref l, rfl, .str y, rfl, .str z, rfl, l, zs, qs, y, z, rfl, (rk.same s3).same s4, hy', hz', _, DPut.t (k := [.inr y, .inr z]) (s4 _ _ e3) upd_same ?_, same_mut (s3.trans s4) nD, ?_⟩
          · have a1 := tab2_len (marg rows) zs (zs.take i)
            have a2 : (row2 (marg rows) y (zs.take j)).length ≤ zs.length := by
              unfold row2
              rw [List.length_map]
              exact Nat.le_trans (List.length_filter_le _ _) (by rw [List.length_take]; omega)
            have a3 : (zs.take i).length * zs.length ≤ 6 * 6 := Nat.mul_le_mul (by rw [List.length_take]; omega) few
            rw [List.length_append]
            exact small1000 (by omega)
          · rw [upd_same, m1, row2_new nd hy hz ne]
        · have ne : ¬ y ≠ z := fun h => e (by simp [h])
          refine ⟨s3, ?_⟩
          rw [row2_skip hz ne]
          exact e3
      · rintro H3 ⟨s3, e3⟩
        rw [List.length_map, List.take_length] at e3
        refine ⟨s3, ?_⟩
        rw [tab2_more hy]
        exact e3
    · rintro H2 ⟨s2, e2⟩
      rw [List.length_map, List.take_length] at e2
      exact q D H2 (s1.trans s2) nDH e2
end
theorem filter_take {zs : List Str} {f : Str → Bool} {j : Nat} {z : Str} (h : zs[j]? = some z) : (zs.take (j + 1)).filter f = (zs.take j).filter f ++ if f z = true then [z] else [] := by
  rw [take_more h, List.filter_append]
  refine congrArg _ ?_
  cases e : f z with
  | true => rw [if_pos rfl, List.filter_cons_of_pos e] <;> rfl
  | false => rw [if_neg Bool.false_ne_true, List.filter_cons_of_neg (by rw [e]; exact Bool.false_ne_true)] <;> rfl
/-! ### the law's own table -/
def pairsOf (zs ys : List Str) : List (Str × Str) := ys.flatMap fun y => (zs.filter fun z => decide (y ≠ z)).map fun z => (y, z)
theorem mem_pairs {zs ys : List Str} {q : Str × Str} : q ∈ pairsOf zs ys ↔ q.1 ∈ ys ∧ q.2 ∈ zs ∧ q.1 ≠ q.2 := by
  unfold pairsOf
  rw [List.mem_flatMap]
  constructor
  · rintro ⟨y, hy, h⟩
    obtain ⟨z, hz, rfl⟩ := List.mem_map.mp h
    obtain ⟨h1, h2⟩ := List.mem_filter.mp hz
    exact ⟨hy, h1, of_decide_eq_true h2⟩
  · rintro ⟨h1, h2, h3⟩
    exact ⟨q.1, h1, List.mem_map.mpr ⟨q.2, List.mem_filter.mpr ⟨h2, decide_eq_true h3⟩, rfl⟩⟩
theorem pairs_nodup {zs ys : List Str} (n : zs.Nodup) (m : ys.Nodup) : (pairsOf zs ys).Nodup := by
  unfold pairsOf
  refine List.pairwise_flatMap.mpr ⟨fun y _ => List.pairwise_map.mpr ((n.filter _).imp fun ne e => ne (congrArg Prod.snd e)), m.imp fun ne p hp q hq e => ?_⟩
  obtain ⟨_, _, rfl⟩ := List.mem_map.mp hp
  obtain ⟨_, _, rfl⟩ := List.mem_map.mp hq
  exact ne (congrArg Prod.fst e)
theorem tab2_pairs (zs : List Str) (f : Str → Str → Int) : ∀ ys : List Str, tab2 zs f ys = (pairsOf zs ys).map fun q => ([.inr q.1, .inr q.2], .int (f q.1 q.2))
  | [] => rfl
  | y :: ys => by
    show row2 f y zs ++ tab2 zs f ys = (((zs.filter fun z => decide (y ≠ z)).map fun z => (y, z)) ++ pairsOf zs ys).map _
    rw [List.map_append, tab2_pairs zs f ys]
    refine congrArg (· ++ _) ?_
    unfold row2
    rw [List.map_map]
    rfl
theorem merge_nodup : ∀ (more acc : List (List Key × V)), ((acc ++ more).map (·.1)).Nodup → mergeT acc more = acc ++ more
  | [], acc, _ => by rw [List.append_nil] <;> rfl
  | e :: more, acc, n => by
    have out : ∀ kv ∈ acc, kv.1 ≠ e.1 := fun kv hk h => by
      rw [List.map_append] at n
      exact (List.nodup_append.mp n).2.2 kv.1 (List.mem_map.mpr ⟨kv, hk, rfl⟩) e.1 (List.mem_map.mpr ⟨e, List.mem_cons_self, rfl⟩) h
    have e1 : acc ++ e :: more = (acc ++ [e]) ++ more := by rw [List.append_assoc] <;> rfl
    show mergeT (putK acc e.1 e.2) more = _
    rw [putK_new _ (val_none out), merge_nodup more (acc ++ [(e.1, e.2)]) (by rw [← e1]; exact n), e1]
theorem merge_tab2 {zs : List Str} (n : zs.Nodup) (f : Str → Str → Int) : mergeT [] (tab2 zs f zs) = tab2 zs f zs := by
  refine merge_nodup _ [] ?_
  rw [List.nil_append, tab2_pairs, List.map_map]
  refine List.pairwise_map.mpr ((pairs_nodup n n).imp fun {p q} ne e => ne ?_)
  obtain ⟨e1, e2⟩ := key2_inj e
  exact Prod.ext e1 e2
/-- pairs at hand -/
def PrAt (H : Hp) (prs : List (Addr × (Str × Str))) : Prop := ∀ q ∈ prs, H q.1 = some (.tup [.str q.2.1, .str q.2.2])
section
variable {P : Program} {w : World} {K : PySem.W.Frag} {mg : Str → Option Value} {base : Heap}
def sp_others_than (C : Addr) : Sp := fun vs H Q _ => ∃ (p o u : Addr) (zs : List Str) (rows : List (Bal × Int)) (y : Str), vs = [.ref p, .str y] ∧ PollOk C H p o u zs rows ∧
  ∀ (L : Addr) (H' : Hp), Same H H' → H L = none → H' L = some (.lst ((zs.filter fun z => decide (z ≠ y)).map V.str)) → Q (.ref L) H'
theorem ok_others_than (T : Txt K mg) : FnOk P w K mg base CX0 1 T.f_others_than T.fd_others_than ["poll", "one"] (sp_others_than T.C_Poll) := by
  refine T.F_others_than.ok sc_others_than (fun vs H Q E h => ?_) (fun cdv A outer s H vs Q E hr h => ?_)
  · obtain ⟨p, o, u, zs, rows, y, rfl, _⟩ := h
    rfl
  · obtain ⟨p, o, u, zs, rows, y, rfl, pk, q⟩ := h
    refine ⟨_, (pss_one
 (ps_ret (pe_lc (own := [("other", 2)]) (g := gName 2) rfl sc_others_than.nd (pi_tup (pe_fld (pv 0) rfl)) (blkOk_by (own := [("other", 2)]) (N := ["poll", "one", "other"]) (sc := (defScope s_others_than)) (by decide +kernel)) (fun _ _ _ _ _ => pg_name (i := 2) sc_others_than.nd rfl (Or.inl rfl)) (fun _ _ _ _ _ => (pts_one (pt_cmpR op_ne (pv 2) (pv 1) (nomark _)))) (fun _ _ _ _ _ => (pv 2))))), ?_⟩
    obtain ⟨dx, hp⟩ := pk.poll
    have ho := pk.opts
    have few := pk.ok.few
    refine ⟨.ref p, rfl, p, T.C_Poll, dx, _, .ref o, rfl, hp, T.cl_Poll, T.n_Poll_options, pollF_options o u, o, rfl, ⟨_, .of ho⟩, fun D nD => ?_⟩
    refine lc_tup (K := K) (a := o) (xs := zs.map V.str) (fun i H' => Same H H' ∧ H' D = some (.lst (((zs.take i).filter fun z => decide (z ≠ y)).map V.str))) ⟨same_upd nD, upd_same⟩ (fun _ _ _ h => .of (h.1 _ _ ho)) ?_ ?_
    · rintro i x H1 hi ⟨s1, e1⟩
      obtain ⟨z, hz, rfl⟩ := item_map hi
      have ft := filter_take (f := fun z => decide (z ≠ y)) hz
      refine ⟨rfl, .str z, rfl, .str y, rfl, rfl, _, rfl, ?_⟩
      by_cases c : z = y
      · rw [decide_eq_true (congrArg V.str c)]
        rw [if_neg (by rw [decide_eq_false fun h => h c]; exact Bool.false_ne_true), List.append_nil] at ft
        refine iteF ⟨s1, ?_⟩
        rw [ft]
        exact e1
      · rw [decide_eq_false fun h => c (V.str.inj h)]
        rw [if_pos (decide_eq_true c)] at ft
        refine iteT ⟨.str z, rfl, _, e1, ?_, same_mut s1 nD, ?_⟩
        · rw [List.length_map]
          have := List.length_filter_le (fun z => decide (z ≠ y)) (zs.take i)
          rw [List.length_take] at this
          exact small1000 (by omega)
        · rw [upd_same, ft, List.map_append]
          rfl
    · rintro H1 ⟨s1, e1⟩
      rw [List.length_map, List.take_length] at e1
      exact q D H1 s1 nD e1
end
/-! ### ways found, and the top lot -/
abbrev Found := Str × Addr × List Str
def wkv (fs : List Found) : List (Key × V) := fs.map fun e => (.inr e.1, .ref e.2.1)
def keysF (fs : List Found) : List Str := fs.map (·.1)
structure FOk (H : Hp) (f : Str → Str → Int) (zs : List Str) (s : Str) (fs : List Found) : Prop where
  ways : ∀ e ∈ fs, H e.2.1 = some (.tup (e.2.2.map V.str)) ∧ WayTo f zs s e.1 e.2.2
  nodup : (keysF fs).Nodup
  within : ∀ e ∈ fs, ∀ x ∈ e.2.2, x ∈ keysF fs
  start : s ∈ keysF fs
theorem FOk.sub {H : Hp} {f : Str → Str → Int} {zs : List Str} {s : Str} {fs : List Found} (h : FOk H f zs s fs) : ∀ x ∈ keysF fs, x ∈ zs := fun x hx => by
  obtain ⟨e, he, rfl⟩ := List.mem_map.mp hx
  exact (h.ways e he).2.in
theorem FOk.len {H : Hp} {f : Str → Str → Int} {zs : List Str} {s : Str} {fs : List Found} (h : FOk H f zs s fs) : fs.length ≤ zs.length := by
  have := nodup_le h.nodup h.sub
  unfold keysF at this
  rw [List.length_map] at this
  exact this
theorem FOk.keep {H H' : Hp} {f : Str → Str → Int} {zs : List Str} {s : Str} {fs : List Found} (k : ∀ a xs, H a = some (.tup xs) → H' a = some (.tup xs)) (h : FOk H f zs s fs) : FOk H' f zs s fs := ⟨fun e he => ⟨k _ _ (h.ways e he).1, (h.ways e he).2⟩, h.nodup, h.within, h.start⟩
theorem wkv_in {fs : List Found} {e : Found} (nd : (keysF fs).Nodup) (h : e ∈ fs) : valV (wkv fs) (.inr e.1) = some (.ref e.2.1) := by
  refine val_some (List.mem_map.mpr ⟨e, h, rfl⟩) fun kv hk ek => ?_
  obtain ⟨e', he', rfl⟩ := List.mem_map.mp hk
  have : e' = e := by
    refine Classical.byContradiction fun ne => ?_
    have pw := List.pairwise_map.mp nd
    rcases pairwise_two pw he' h ne with z | z
    · exact z (Sum.inr.inj ek)
    · exact z (Sum.inr.inj ek).symm
  rw [this]
theorem wkv_out {fs : List Found} {x : Str} (h : x ∉ keysF fs) : valV (wkv fs) (.inr x) = none := val_none fun kv hk ek => by
  obtain ⟨e, he, rfl⟩ := List.mem_map.mp hk
  exact h (List.mem_map.mpr ⟨e, he, Sum.inr.inj ek⟩)
theorem wkv_new {fs : List Found} {x : Str} {a : Addr} {w : List Str} (h : x ∉ keysF fs) : putK (wkv fs) (.inr x) (.ref a) = wkv (fs ++ [(x, a, w)]) := by
  rw [putK_new _ (wkv_out h)]
  unfold wkv
  rw [List.map_append]
  rfl
def leftU (D L : Addr) (n : Nat) (_ : L2.St) (H : Hp) : Nat := match H L, H D with
  | some (.lst xs), some (.dK kvs) => xs.length + (n - kvs.length)
  | _, _ => 0
section
variable {P : Program} {w : World} {K : PySem.W.Frag} {mg : Str → Option Value} {base : Heap}
def sp_unlost (C : Addr) : Sp := fun vs H Q _ => ∃ (p o u M : Addr) (zs : List Str) (rows : List (Bal × Int)) (f : Str → Str → Int) (s : Str), vs = [.ref p, .ref M, .str s] ∧ PollOk C H p o u zs rows ∧ H M = some (.dT (tab2 zs f zs)) ∧ s ∈ zs ∧
  ∀ (D : Addr) (fs : List Found) (H' : Hp), Same H H' → H D = none → H' D = some (.dK (wkv fs)) → FOk H' f zs s fs → (∀ x ∈ keysF fs, ∀ y ∈ zs, 0 ≤ f x y → y ∈ keysF fs) → Q (.ref D) H'
theorem ok_unlost_ways (T : Txt K mg) : FnOk P w K mg base CX0 1 T.f_unlost_ways T.fd_unlost_ways ["poll", "held", "start"] (sp_unlost T.C_Poll) := by
  refine T.F_unlost_ways.ok sc_unlost_ways (fun vs H Q E h => ?_) (fun cdv A outer s H vs Q E hr h => ?_)
  · obtain ⟨p, o, u, M, zs, rows, f, s, rfl, _⟩ := h
    rfl
  · obtain ⟨p, o, u, M, zs, rows, f, s, rfl, pk, hM, hs, q⟩ := h
    refine ⟨_, (pss_cons
 (ps_set (i := 3) sc_unlost_ways.nd rfl (Or.inl rfl) (pe_disp (pps_cons (pv 2) (pe_tup (pa_cons (pv 2) pa_nil)) pps_nil) rfl rfl (by simp) (by decide)))
 (pss_cons
 (ps_set (i := 4) sc_unlost_ways.nd rfl (Or.inl rfl) (pe_lst (pa_cons (pv 2) pa_nil)))
 (pss_cons
 (ps_while PassesOwn.never (pt_truth (pv 4) (by intro _; rfl))
 (pss_cons
 (ps_set (i := 5) sc_unlost_ways.nd rfl (Or.inl rfl) (pe_bm PySem.F.plainAttrs_list PySem.F.slot_list_pop PySem.F.type_list_pop mt_popAt (pv 4) (pa_cons pe_int pa_nil)))
 (pss_one
 (ps_for PassesOwn.never rfl (pi_tup (pe_fld (pv 0) rfl)) (pg_name (i := 6) sc_unlost_ways.nd rfl (Or.inl rfl))
 (pss_one
 (ps_if (PW.pt (pw_and (pt_cmp (pc_dnotin (hu_of hr) (pv 6) (pv 3))) (pw_and1 (pt_cmpR op_ge (pe_dget (hu_of hr) (pv 1) (pe_tup (pa_cons (pv 5) (pa_cons (pv 6) pa_nil))) (fun _ _ => rfl)) pe_int (nomark _)))))
 (pss_cons
 (ps_dput (hu_of hr) (pv 3) (pv 6) (pe_op op_catA (pe_dget (hu_of hr) (pv 3) (pv 5) (fun _ _ => rfl)) (pe_tup (pa_cons (pv 6) pa_nil))) (by rfl))
 (pss_one
 (ps_expr (pe_bm PySem.F.plainAttrs_list PySem.F.slot_list_append PySem.F.type_list_append mt_append (pv 4) (pa_cons (pv 6) pa_nil)))))
 pss_nil))))))
 (pss_one
 (ps_ret (pv 3)))))), ?_⟩
    have few := pk.ok.few
    have nd := pk.ok.nodup
    obtain ⟨dx, hp⟩ := pk.poll
    have ho := pk.opts
    refine fun D nD => ⟨.str s, rfl, .str s, rfl, line_of (show 1 ≤ 1000 by decide), fun t nt => ?_⟩
    have Dt : D ≠ t := fun e => by rw [← e, upd_same] at nt; cases nt
    have ntH : H t = none := by rw [upd_ne Dt.symm] at nt; exact nt
    refine ⟨by rw [upd_ne Dt, upd_same], [(.inr s, .ref t)], rfl, (by show 1 ≤ 15; decide), ?_⟩
    have s1 : Same H (upd (upd (upd H D (.dK [])) t (.tup [V.str s])) D (.dK (mergeK [] [(.inr s, .ref t)]))) := same_mut (((same_upd nD).trans (same_upd nt))) nD
    have eD : (upd (upd (upd H D (.dK [])) t (.tup [V.str s])) D (.dK (mergeK [] [(.inr s, .ref t)]))) D = some (.dK (wkv [(s, t, [s])])) := upd_same
    have et : (upd (upd (upd H D (.dK [])) t (.tup [V.str s])) D (.dK (mergeK [] [(.inr s, .ref t)]))) t = some (.tup [V.str s]) := by rw [upd_ne Dt.symm, upd_same]
    generalize upd (upd (upd H D (.dK [])) t (.tup [V.str s])) D (.dK (mergeK [] [(.inr s, .ref t)])) = H1 at s1 eD et ⊢
    refine ⟨.str s, rfl, line_of (show 1 ≤ 1000 by decide), fun L nL => ?_⟩
    have nLH := s1.free nL
    have LD : L ≠ D := fun e => by rw [e, eD] at nL; cases nL
    have s2 := same_upd (o := HO.lst [V.str s]) nL
    have pos : 0 < zs.length := List.length_pos_iff.mpr pk.ok.some
    dsimp only [gName, tSeq]
    show tWhile _ _ _ [some (.ref p), some (.ref M), some (.str s), some (.ref D), some (.ref L), none, none] (upd H1 L (.lst [.str s]))
    refine while_by (fun σ H' => ∃ (x5 x6 : Option V) (fs : List Found) (k : Nat), σ = [some (.ref p), some (.ref M), some (.str s), some (.ref D), some (.ref L), x5, x6] ∧ Same H H' ∧ H' D = some (.dK (wkv fs)) ∧ H' L = some (.lst (((keysF fs).drop k).map V.str)) ∧ FOk H' f zs s fs ∧ k ≤ fs.length ∧
        ∀ x ∈ (keysF fs).take k, ∀ y ∈ zs, 0 ≤ f x y → y ∈ keysF fs) (leftU D L zs.length)
      ⟨none, none, [(s, t, [s])], 0, rfl, s1.trans s2, s2 _ _ eD, upd_same, ⟨fun e he => ?_, by simp [keysF], fun e he x hx => ?_, by simp [keysF]⟩, Nat.zero_le _, fun x hx => (by cases hx)⟩ ?_ (fun σ H Q Q' imp h => by
        obtain ⟨v, h1, k, h2, h3⟩ := h
        exact ⟨v, h1, k, h2, imp _ _ h3⟩)
    · rw [List.mem_singleton.mp he]
      exact ⟨s2 _ _ et, .start hs⟩
    · rw [List.mem_singleton.mp he] at hx
      exact hx
    · rintro σ H2 ⟨x5, x6, fs, k, rfl, g2, eD, eL, ok, kl, cl⟩
      have lens := ok.len
      have lk : (keysF fs).length = fs.length := List.length_map ..
      refine ⟨.ref L, rfl, !(((keysF fs).drop k).map V.str).isEmpty, .inl ⟨_, .of eL, rfl⟩, ?_⟩
      by_cases hk : k < fs.length
      · obtain ⟨e0, he0⟩ : ∃ e0, fs[k]? = some e0 := ⟨fs[k], List.getElem?_eq_getElem hk⟩
        have kk : (keysF fs)[k]? = some e0.1 := by unfold keysF; rw [List.getElem?_map, he0]; rfl
        have m0 := List.mem_of_getElem? he0
        have dk : (keysF fs).drop k = e0.1 :: (keysF fs).drop (k + 1) := by
          rw [List.drop_eq_getElem_cons (by omega)]
          refine congrArg (· :: _) ?_
          exact Option.some.inj ((List.getElem?_eq_getElem (by omega)).symm.trans kk)
        rw [dk] at eL ⊢
        refine iteT ?_
        refine ⟨.ref L, rfl, .inl ⟨rfl, _, .of eL⟩, L, _, 0, 0, .str e0.1, rfl, rfl, eL, by decide, by decide, seqIndex_of (by decide) (by rw [List.length_map, List.length_cons]; omega), rfl, ?_⟩
        have g3 : Same H (upd H2 L (.lst (((e0.1 :: (keysF fs).drop (k + 1)).map V.str).eraseIdx 0))) := same_mut g2 nLH
        have eD3 : (upd H2 L (.lst (((e0.1 :: (keysF fs).drop (k + 1)).map V.str).eraseIdx 0))) D = some (.dK (wkv fs)) := by rw [upd_ne LD.symm]; exact eD
        have eL3 : (upd H2 L (.lst (((e0.1 :: (keysF fs).drop (k + 1)).map V.str).eraseIdx 0))) L = some (.lst (((keysF fs).drop (k + 1)).map V.str)) := upd_same
        have ok3 := ok.keep (H' := upd H2 L (.lst (((e0.1 :: (keysF fs).drop (k + 1)).map V.str).eraseIdx 0))) fun a xs h => by
          rw [upd_ne (fun e => by rw [e, eL] at h; cases h)]
          exact h
        have mu : leftU D L zs.length [some (.ref p), some (.ref M), some (.str s), some (.ref D), some (.ref L), x5, x6] H2 = (fs.length - k) + (zs.length - fs.length) := by
          unfold leftU
          rw [eL, eD]
          show ((e0.1 :: (keysF fs).drop (k + 1)).map V.str).length + (zs.length - (wkv fs).length) = _
          unfold wkv
          rw [← dk, List.length_map, List.length_drop, List.length_map, lk]
        generalize upd H2 L (.lst (((e0.1 :: (keysF fs).drop (k + 1)).map V.str).eraseIdx 0)) = H3 at g3 eD3 eL3 ok3 ⊢
        refine ⟨.ref p, rfl, p, T.C_Poll, dx, _, .ref o, rfl, g3 _ _ hp, T.cl_Poll, T.n_Poll_options, pollF_options o u, o, rfl, ⟨_, .of (g3 _ _ ho)⟩, for_tup (K := K) (a := o) (xs := zs.map V.str) (fun j σ H' => ∃ (x6 : Option V) (more : List Found),
            σ = [some (.ref p), some (.ref M), some (.str s), some (.ref D), some (.ref L), some (.str e0.1), x6] ∧ Same H H' ∧ H' D = some (.dK (wkv (fs ++ more))) ∧ H' L = some (.lst (((keysF (fs ++ more)).drop (k + 1)).map V.str)) ∧ FOk H' f zs s (fs ++ more) ∧
            ∀ y ∈ zs.take j, 0 ≤ f e0.1 y → y ∈ keysF (fs ++ more))
          ⟨x6, [], rfl, g3, by rw [List.append_nil]; exact eD3, by rw [List.append_nil]; exact eL3, by rw [List.append_nil]; exact ok3, fun y hy => (by cases hy)⟩ (fun _ _ _ _ ⟨_, _, _, h, _⟩ => .of (h _ _ ho)) ?_ ?_⟩
        · rintro j x σ H4 hj ⟨x6, more, rfl, g4, eD4, eL4, ok4, cl4⟩
          obtain ⟨z, hz, rfl⟩ := item_map hj
          have mz := List.mem_of_getElem? hz
          have len4 := ok4.len
          have inside : e0 ∈ fs ++ more := List.mem_append_left _ m0
          have next : ∀ {fm : List Found}, (∀ y ∈ zs.take j, 0 ≤ f e0.1 y → y ∈ keysF fm) → (0 ≤ f e0.1 z → z ∈ keysF fm) → ∀ y ∈ zs.take (j + 1), 0 ≤ f e0.1 y → y ∈ keysF fm := fun {fm} h1 h2 y hy e => by
            rw [take_more hz] at hy
            rcases List.mem_append.mp hy with hy | hy
            · exact h1 y hy e
            · rw [List.mem_singleton.mp hy] at e ⊢
              exact h2 e
          refine ⟨.str z, rfl, .ref D, rfl, D, _, rfl, DGet.k (k := .inr z) eD4, _, rfl, ?_⟩
          by_cases c : z ∈ keysF (fs ++ more)
          · obtain ⟨e', he', ee⟩ := List.mem_map.mp c
            have v := wkv_in ok4.nodup he'
            rw [ee] at v
            rw [v]
            exact iteF (iteF ⟨_, more, rfl, g4, eD4, eL4, ok4, next cl4 fun _ => c⟩)
          · rw [wkv_out c]
            refine iteT ?_
            refine ⟨.ref M, rfl, .str e0.1, rfl, .str z, rfl, line_of (show 2 ≤ 1000 by decide), fun t5 nt5 => ?_⟩
            have s5 := same_upd (o := HO.tup [V.str e0.1, V.str z]) nt5
            have e5 : (upd H4 t5 (.tup [V.str e0.1, V.str z])) t5 = some (.tup [V.str e0.1, V.str z]) := upd_same
            generalize upd H4 t5 (.tup [V.str e0.1, V.str z]) = H5 at s5 e5 ⊢
            have g5 := g4.trans s5
            have ne : e0.1 ≠ z := fun e => c (by rw [← e]; exact List.mem_map.mpr ⟨e0, inside, rfl⟩)
            have got : DGet H5 M (.ref t5) (some (.int (f e0.1 z))) := by
              have := DGet.t (k := [.inr e0.1, .inr z]) (g5 _ _ hM) e5
              rw [tab2_val (ok4.sub e0.1 (List.mem_map.mpr ⟨e0, inside, rfl⟩)) mz ne] at this
              exact this
            have ok5 := ok4.keep fun a xs h => s5 _ _ h
            have eD5 := s5 _ _ eD4
            have eL5 := s5 _ _ eL4
            refine ⟨M, _, rfl, got, _, _, rfl, rfl, _, rfl, ite2 (fun e => ?_) (fun e => ?_)⟩
            · have le : 0 ≤ f e0.1 z := of_decide_eq_true e
              obtain ⟨w1, w2⟩ := ok5.ways e0 inside
              have gotW : DGet H5 D (.str e0.1) (some (.ref e0.2.1)) := by
                have := DGet.k (k := .inr e0.1) eD5
                rw [wkv_in ok5.nodup inside] at this
                exact this
              refine ⟨.ref D, rfl, .str e0.1, rfl, D, _, rfl, gotW, .str z, rfl, line_of (show 1 ≤ 1000 by decide), fun t6 nt6 => ?_⟩
              have s6 := same_upd (o := HO.tup [V.str z]) nt6
              have le6 : e0.2.2.length ≤ 6 := by
                have := WayTo.len w2
                omega
              refine catA_of (s6 _ _ w1) upd_same (line_of (by rw [List.length_map]; show _ + 1 ≤ 1000; omega)) fun t7 H7 e7 s7 => ?_
              have s57 := s6.trans s7
              have eD7 := s57 _ _ eD5
              have eL7 := s57 _ _ eL5
              have ok7 := ok5.keep fun a xs h => s57 _ _ h
              have g7 := g5.trans s57
              have e7' : H7 t7 = some (.tup ((e0.2.2 ++ [z]).map V.str)) := by rw [e7, List.map_append]; rfl
              have t7D : t7 ≠ D := fun e => by rw [e, eD7] at e7; cases e7
              have t7L : t7 ≠ L := fun e => by rw [e, eL7] at e7; cases e7
              refine ⟨.ref D, rfl, .str z, rfl, D, _, rfl, DPut.k (k := .inr z) eD7 (small1000 (by unfold wkv; rw [List.length_map]; omega)), ?_⟩
              rw [wkv_new (w := e0.2.2 ++ [z]) c]
              have eL8 : (upd H7 D (.dK (wkv (fs ++ more ++ [(z, t7, e0.2.2 ++ [z])])))) L = some (.lst (((keysF (fs ++ more)).drop (k + 1)).map V.str)) := by rw [upd_ne LD]; exact eL7
              refine ⟨.ref L, rfl, .inl ⟨rfl, _, .of eL8⟩, .str z, rfl, L, _, _, rfl, rfl, eL8, small1000 (by rw [List.length_map, List.length_drop]; unfold keysF; rw [List.length_map]; omega), ?_⟩
              have new : keysF (fs ++ (more ++ [(z, t7, e0.2.2 ++ [z])])) = keysF (fs ++ more) ++ [z] := by
                rw [← List.append_assoc]
                unfold keysF
                rw [List.map_append]
                rfl
              refine ⟨some (.str z), more ++ [(z, t7, e0.2.2 ++ [z])], rfl, same_mut (same_mut g7 nD) nLH, ?_, ?_, ⟨fun e he => ?_, ?_, fun e he x hx => ?_, ?_⟩, ?_⟩
              · rw [upd_ne LD.symm, upd_same, List.append_assoc]
              · rw [upd_same, new, List.drop_append_of_le_length (by unfold keysF; rw [List.length_map, List.length_append]; omega), List.map_append]
                rfl
              · have both : H7 e.2.1 = some (.tup (e.2.2.map V.str)) ∧ WayTo f zs s e.1 e.2.2 := by
                  rw [← List.append_assoc] at he
                  rcases List.mem_append.mp he with he | he
                  · exact ok7.ways e he
                  · rw [List.mem_singleton.mp he]
                    exact ⟨e7', w2.step mz (fun h => c (ok5.within e0 inside z h)) le⟩
                refine ⟨?_, both.2⟩
                rw [upd_ne (fun h => by rw [h, eL7] at both; cases both.1), upd_ne (fun h => by rw [h, eD7] at both; cases both.1)]
                exact both.1
              · rw [new]
                exact List.nodup_append.mpr ⟨ok7.nodup, by simp, fun a ha b hb e => by rw [List.mem_singleton.mp hb] at e; exact c (e ▸ ha)⟩
              · rw [new]
                rw [← List.append_assoc] at he
                rcases List.mem_append.mp he with he | he
                · exact List.mem_append_left _ (ok7.within e he x hx)
                · rw [List.mem_singleton.mp he] at hx
                  rcases List.mem_append.mp hx with hx | hx
                  · exact List.mem_append_left _ (ok7.within e0 inside x hx)
                  · exact List.mem_append_right _ hx
              · rw [new]
                exact List.mem_append_left _ ok7.start
              · refine next (fun y hy e => ?_) fun _ => ?_
                · rw [new]
                  exact List.mem_append_left _ (cl4 y hy e)
                · rw [new]
                  exact List.mem_append_right _ (List.mem_singleton.mpr rfl)
            · exact ⟨some (.str z), more, rfl, g5, eD5, eL5, ok5, next cl4 fun h => absurd (decide_eq_true h) e⟩
        · rintro σ H4 ⟨x6, more, rfl, g4, eD4, eL4, ok4, cl4⟩
          rw [List.length_map, List.take_length] at cl4
          have kf : keysF (fs ++ more) = keysF fs ++ keysF more := List.map_append ..
          refine ⟨⟨_, _, fs ++ more, k + 1, rfl, g4, eD4, eL4, ok4, by rw [List.length_append]; omega, fun x hx y hy e => ?_⟩, ?_⟩
          · rw [kf, List.take_append_of_le_length (by omega), take_more kk] at hx
            rcases List.mem_append.mp hx with hx | hx
            · rw [kf]
              exact List.mem_append_left _ (cl x hx y hy e)
            · rw [List.mem_singleton.mp hx] at e
              exact cl4 y hy e
          · have l4 := ok4.len
            rw [mu]
            unfold leftU
            rw [eL4, eD4]
            show (((keysF (fs ++ more)).drop (k + 1)).map V.str).length + (zs.length - (wkv (fs ++ more)).length) < _
            unfold wkv keysF
            rw [List.length_map, List.length_drop, List.length_map, List.length_map]
            rw [List.length_append] at l4 ⊢
            omega
      · have ek : k = fs.length := by omega
        have de : (keysF fs).drop k = [] := List.drop_eq_nil_iff.mpr (by omega)
        rw [de]
        refine iteF ⟨.ref D, rfl, q D fs H2 g2 nD eD ok fun x hx => cl x ?_⟩
        rw [ek, ← lk, List.take_length]
        exact hx
end
section
variable {P : Program} {w : World} {K : PySem.W.Frag} {mg : Str → Option Value} {base : Heap}
theorem full_tops {H : Hp} {f : Str → Str → Int} {zs : List Str} {s : Str} {fs : List Found} (nd : zs.Nodup) (h : FOk H f zs s fs) (cl : ∀ x ∈ keysF fs, ∀ y ∈ zs, 0 ≤ f x y → y ∈ keysF fs) : decide (fs.length = zs.length) = topB f zs s := by
  have lk : (keysF fs).length = fs.length := List.length_map ..
  have reach : ∀ y, Reach f zs s y → y ∈ keysF fs := fun y r => r.closed (S := fun x => x ∈ keysF fs) h.start fun x y hx => cl x hx y
  have back : ∀ y ∈ keysF fs, Reach f zs s y := fun y hy => by
    obtain ⟨e, he, rfl⟩ := List.mem_map.mp hy
    exact ⟨_, (h.ways e he).2⟩
  rw [← Bool.decide_coe (topB f zs s)]
  refine decide_eq_decide.mpr ⟨fun e => topB_iff.mpr fun y hy => back y ?_, fun t => ?_⟩
  · refine Classical.byContradiction fun out => ?_
    have := nodup_le (a := y :: keysF fs) (b := zs) (List.nodup_cons.mpr ⟨out, h.nodup⟩) fun x hx => (List.mem_cons.mp hx).elim (fun e => e ▸ hy) fun m => h.sub x m
    rw [List.length_cons] at this
    omega
  · have t := topB_iff.mp t
    have a := nodup_le nd fun y hy => reach y (t y hy)
    have b := h.len
    omega
def sp_top_lot (C : Addr) : Sp := fun vs H Q _ => ∃ (p o u : Addr) (zs : List Str) (rows : List (Bal × Int)), vs = [.ref p] ∧ PollOk C H p o u zs rows ∧
  ∀ (L : Addr) (H' : Hp), Same H H' → H L = none → H' L = some (.lst ((zs.filter (topB (marg rows) zs)).map V.str)) → Q (.ref L) H'
theorem ok_top_lot (T : Txt K mg) : FnOk P w K mg base CX0 5 T.f_top_lot T.fd_top_lot ["poll"] (sp_top_lot T.C_Poll) := by
  refine T.F_top_lot.ok sc_top_lot (fun vs H Q E h => ?_) (fun cdv A outer s H vs Q E hr h => ?_)
  · obtain ⟨p, o, u, zs, rows, rfl, _⟩ := h
    rfl
  · obtain ⟨p, o, u, zs, rows, rfl, pk, q⟩ := h
    refine ⟨_, (pss_cons
 (ps_set (i := 1) sc_top_lot.nd rfl (Or.inr rfl) (pe_call (ok_margins T) (hr.mono (by decide)) (by rfl) T.g_margins T.F_margins.kp T.b_margins .nil pass0 (pa_cons (pv 0) pa_nil)))
 (pss_one
 (ps_ret (pe_lc (own := [("one", 2)]) (g := gName 2) rfl sc_top_lot.nd (pi_tup (pe_fld (pv 0) rfl)) (blkOk_by (own := [("one", 2)]) (N := ["poll", "held", "one"]) (sc := (defScope s_top_lot)) (by decide +kernel)) (fun _ _ _ _ _ => pg_name (i := 2) sc_top_lot.nd rfl (Or.inl rfl)) (fun s0 H0 C0 cl0 fp0 => (by have h := ((pts_one (pt_cmpR op_eq (pe_callB call_lenD (by rfl) T.z_len (by decide +kernel) (pa_cons (pe_call (ok_unlost_ways T) (hr.mono (by decide)) (by rfl) T.g_unlost_ways T.F_unlost_ways.kp T.b_unlost_ways .nil pass0 (pa_cons (pv 0) (pa_cons (pv 1) (pa_cons (pv 2) pa_nil)))) pa_nil)) (pe_callB call_len_seq (by rfl) T.z_len (by decide +kernel) (pa_cons (pe_fld (pv 0) rfl) pa_nil)) (nomark _))) : PTs ((cxOf CX0 P w K mg base ["poll", "held", "one"] "top_lot" (defScope s_top_lot) T.f_top_lot cdv A outer s H E).nox.blk s0 H0 (lcScope (rootE ((defBody s_top_lot).getD 1 (.Pass ⟨0, 0, 0, 0⟩)))) (compEnvC (lcScope (rootE ((defBody s_top_lot).getD 1 (.Pass ⟨0, 0, 0, 0⟩)))) cl0 C0 (cxOf CX0 P w K mg base ["poll", "held", "one"] "top_lot" (defScope s_top_lot) T.f_top_lot cdv A outer s H E).nox.env) fp0) (lcIfs (rootE ((defBody s_top_lot).getD 1 (.Pass ⟨0, 0, 0, 0⟩)))) _); dsimp only [Cx.blk, Cx.tr, Cx.suite, Cx.nox, Cx.wish, cxOf] at h; exact h)) (fun _ _ _ _ _ => (pv 2)))))), ?_⟩
    refine ⟨.ref p, rfl, p, o, u, zs, rows, rfl, pk, fun M H1 s1 nM eM => ?_⟩
    have pk1 := pk.same s1
    have few := pk.ok.few
    have nd := pk.ok.nodup
    obtain ⟨dx, hp⟩ := pk1.poll
    have ho := pk1.opts
    refine ⟨.ref p, rfl, p, T.C_Poll, dx, _, .ref o, rfl, hp, T.cl_Poll, T.n_Poll_options, pollF_options o u, o, rfl, ⟨_, .of ho⟩, fun D nD => ?_⟩
    have nDH := s1.free nD
    refine lc_tup (K := K) (a := o) (xs := zs.map V.str) (fun i H' => Same H1 H' ∧ H' D = some (.lst (((zs.take i).filter (topB (marg rows) zs)).map V.str))) ⟨same_upd nD, upd_same⟩ (fun _ _ _ h => .of (h.1 _ _ ho)) ?_ ?_
    · rintro i x H2 hi ⟨s2, e2⟩
      obtain ⟨z, hz, rfl⟩ := item_map hi
      have mz := List.mem_of_getElem? hz
      refine ⟨rfl, .ref p, rfl, .ref M, rfl, .str z, rfl, p, o, u, M, zs, rows, marg rows, z, rfl, pk1.same s2, s2 _ _ eM, mz, fun F fs H3 s3 nF eF okF clF => ?_⟩
      have s23 := s2.trans s3
      refine ⟨F, wkv fs, rfl, eF, .ref p, rfl, p, T.C_Poll, dx, _, .ref o, rfl, s23 _ _ hp, T.cl_Poll, T.n_Poll_options, pollF_options o u, o, _, rfl, .inr (.of (s23 _ _ ho)), rfl, _, rfl, ?_⟩
      have eb : decide (V.int (wkv fs).length = V.int (zs.map V.str).length) = topB (marg rows) zs z := by
        rw [← full_tops nd okF clF]
        unfold wkv
        rw [List.length_map, List.length_map]
        exact decide_eq_decide.mpr ⟨fun h => by have := V.int.inj h; omega, fun h => by rw [h]⟩
      rw [eb]
      have ft := filter_take (f := topB (marg rows) zs) hz
      have e3 := s3 _ _ e2
      cases ec : topB (marg rows) zs z with
      | true =>
        rw [if_pos ec] at ft
        refine iteT ⟨.str z, rfl, _, e3, ?_, same_mut s23 nD, ?_⟩
        · rw [List.length_map]
          have := List.length_filter_le (topB (marg rows) zs) (zs.take i)
          rw [List.length_take] at this
          exact small1000 (by omega)
        · rw [upd_same, ft, List.map_append]
          rfl
      | false =>
        rw [if_neg (by rw [ec]; exact Bool.false_ne_true), List.append_nil] at ft
        refine iteF ⟨s23, ?_⟩
        rw [ft]
        exact e3
    · rintro H2 ⟨s2, e2⟩
      rw [List.length_map, List.take_length] at e2
      exact q D H2 (s1.trans s2) nDH e2
end
/-! ### who is ahead of all, or behind all -/
def lead (g : Str → Str → Bool) (zs : List Str) : Option Str := zs.find? fun y => (zs.filter fun z => decide (z ≠ y)).all (g y)
def vO : Option Str → V
  | some z => .str z
  | none => .non
theorem find_at {α : Type} {f : α → Bool} {a : α} : ∀ {zs : List α} {i : Nat}, zs[i]? = some a → f a = true → (∀ x ∈ zs.take i, f x = false) → zs.find? f = some a
  | [], _, h, _, _ => by cases h
  | z :: zs, 0, h, fa, _ => by
    cases h
    exact List.find?_cons_of_pos fa
  | z :: zs, i + 1, h, fa, no => by
    rw [List.find?_cons_of_neg (by rw [no z (by rw [List.take_succ_cons]; exact List.mem_cons_self)]; exact Bool.false_ne_true)]
    exact find_at (i := i) (by simpa using h) fa fun x hx => no x (by rw [List.take_succ_cons]; exact List.mem_cons_of_mem _ hx)
section
variable {P : Program} {w : World} {K : PySem.W.Frag} {mg : Str → Option Value} {base : Heap}
def sp_lead (C : Addr) (G : (Str → Str → Int) → Str → Str → Bool) : Sp := fun vs H Q _ => ∃ (p o u : Addr) (zs : List Str) (rows : List (Bal × Int)), vs = [.ref p] ∧ PollOk C H p o u zs rows ∧ ∀ H', Same H H' → Q (vO (lead (G (marg rows)) zs)) H'
theorem ok_leader (T : Txt K mg) : FnOk P w K mg base CX0 5 T.f_leader T.fd_leader ["poll"] (sp_lead T.C_Poll fun f y z => decide (0 < f y z)) := by
  refine T.F_leader.ok sc_leader (fun vs H Q E h => ?_) (fun cdv A outer s H vs Q E hr h => ?_)
  · obtain ⟨p, o, u, zs, rows, rfl, _⟩ := h
    rfl
  · obtain ⟨p, o, u, zs, rows, rfl, pk, q⟩ := h
    refine ⟨_, (pss_cons
 (ps_set (i := 1) sc_leader.nd rfl (Or.inr rfl) (pe_call (ok_margins T) (hr.mono (by decide)) (by rfl) T.g_margins T.F_margins.kp T.b_margins .nil pass0 (pa_cons (pv 0) pa_nil)))
 (pss_cons
 (ps_for PassesOwn.never rfl (pi_tup (pe_fld (pv 0) rfl)) (pg_name (i := 2) sc_leader.nd rfl (Or.inr rfl))
 (pss_one
 (ps_if (pt_val (pe_callB (cr_all rfl) (by rfl) T.z_all (by decide +kernel) (pa_cons (pe_lc (own := [("other", 3)]) (g := gName 3) (tt := tYes) rfl sc_leader.nd (pi_list (pe_call (ok_others_than T) (hr.mono (by decide)) (by rfl) T.g_others_than T.F_others_than.kp T.b_others_than .nil pass0 (pa_cons (pv 0) (pa_cons (pv 2) pa_nil)))) (blkOk_by (own := [("other", 3)]) (N := ["poll", "held", "one", "other"]) (sc := (defScope s_leader)) (by decide +kernel)) (fun _ _ _ _ _ => pg_name (i := 3) sc_leader.nd rfl (Or.inl rfl)) (fun _ _ _ _ _ => pts_nil) (fun s0 H0 C0 cl0 fp0 => (by have h := ((pe_cmpR op_gt (pe_dget (hu_of hr) (pv 1) (pe_tup (pa_cons (pv 2) (pa_cons (pv 3) pa_nil))) (fun _ _ => rfl)) pe_int (nomark _)) : PE ((cxOf CX0 P w K mg base ["poll", "held", "one", "other"] "leader" (defScope s_leader) T.f_leader cdv A outer s H E).nox.blk s0 H0 (lcScope (subE (rootE ((blkOf ((defBody s_leader).getD 1 (.Pass ⟨0, 0, 0, 0⟩)) 0).getD 0 (.Pass ⟨0, 0, 0, 0⟩))) 1)) (compEnvC (lcScope (subE (rootE ((blkOf ((defBody s_leader).getD 1 (.Pass ⟨0, 0, 0, 0⟩)) 0).getD 0 (.Pass ⟨0, 0, 0, 0⟩))) 1)) cl0 C0 (cxOf CX0 P w K mg base ["poll", "held", "one", "other"] "leader" (defScope s_leader) T.f_leader cdv A outer s H E).nox.env) fp0) (subE (subE (rootE ((blkOf ((defBody s_leader).getD 1 (.Pass ⟨0, 0, 0, 0⟩)) 0).getD 0 (.Pass ⟨0, 0, 0, 0⟩))) 1) 0) _); dsimp only [Cx.blk, Cx.tr, Cx.suite, Cx.nox, Cx.wish, cxOf] at h; exact h))) pa_nil)))
 (pss_one
 (ps_ret (pv 2)))
 pss_nil)))
 (pss_one
 (ps_ret pe_non)))), ?_⟩
    refine ⟨.ref p, rfl, p, o, u, zs, rows, rfl, pk, fun M H1 s1 nM eM => ?_⟩
    have pk1 := pk.same s1
    have few := pk.ok.few
    obtain ⟨dx, hp⟩ := pk1.poll
    have ho := pk1.opts
    refine ⟨.ref p, rfl, p, T.C_Poll, dx, _, .ref o, rfl, hp, T.cl_Poll, T.n_Poll_options, pollF_options o u, o, rfl, ⟨_, .of ho⟩, ?_⟩
    refine for_tup (K := K) (a := o) (xs := zs.map V.str) (fun i σ H' => ∃ x2 x3 : Option V, σ = [some (.ref p), some (.ref M), x2, x3] ∧ Same H1 H' ∧ ∀ y ∈ zs.take i, (zs.filter fun z => decide (z ≠ y)).all (fun z => decide (0 < marg rows y z)) = false) ⟨none, none, rfl, Same.refl _, fun y hy => (by cases hy)⟩ (fun _ _ _ _ ⟨_, _, _, h, _⟩ => .of (h _ _ ho)) ?_ ?_
    · rintro i x σ H2 hi ⟨x2, x3, rfl, s2, no⟩
      obtain ⟨y, hy, rfl⟩ := item_map hi
      have my := List.mem_of_getElem? hy
      refine ⟨.ref p, rfl, .str y, rfl, p, o, u, zs, rows, y, rfl, pk1.same s2, fun O H3 s3 nO eO => ?_⟩
      have sub : ∀ z ∈ zs.filter (fun z => decide (z ≠ y)), z ∈ zs ∧ z ≠ y := fun z hz => ⟨(List.mem_filter.mp hz).1, of_decide_eq_true (List.mem_filter.mp hz).2⟩
      have lo : (zs.filter fun z => decide (z ≠ y)).length ≤ 6 := Nat.le_trans (List.length_filter_le _ _) few
      generalize hos : (zs.filter fun z => decide (z ≠ y)) = os at sub lo eO
      refine ⟨O, rfl, ⟨_, .of eO⟩, fun D nD => ?_⟩
      refine lc_list (K := K) (a := O) (xs := os.map V.str) (fun j H' => Same H3 H' ∧ H' D = some (.lst (((os.take j).map fun z => decide (0 < marg rows y z)).map V.bl))) ⟨same_upd nD, upd_same⟩ (fun _ _ _ h => .of (h.1 _ _ eO)) ?_ ?_
      · rintro j x H4 hj ⟨s4, e4⟩
        obtain ⟨z, hz, rfl⟩ := item_map hj
        obtain ⟨mz, ne⟩ := sub z (List.mem_of_getElem? hz)
        have s24 := s2.trans (s3.trans s4)
        refine ⟨rfl, .ref M, rfl, .str y, rfl, .str z, rfl, line_of (show 2 ≤ 1000 by decide), fun t nt => ?_⟩
        have s5 := same_upd (o := HO.tup [V.str y, V.str z]) nt
        have got : DGet (upd H4 t (.tup [V.str y, V.str z])) M (.ref t) (some (.int (marg rows y z))) := by
          have := DGet.t (k := [.inr y, .inr z]) (s5 _ _ (s24 _ _ eM)) (upd_same (a := t) (H := H4))
          rw [tab2_val my mz ne.symm] at this
          exact this
        refine ⟨M, _, rfl, got, _, _, rfl, rfl, ?_⟩
        refine ⟨_, s5 _ _ e4, ?_, same_mut (s4.trans s5) nD, ?_⟩
        · rw [List.length_map, List.length_map, List.length_take]
          exact small1000 (by omega)
        · rw [upd_same, take_more hz, List.map_append, List.map_append]
          rfl
      · rintro H4 ⟨s4, e4⟩
        rw [List.length_map, List.take_length] at e4
        refine ⟨D, _, rfl, .of e4, _, rfl, ?_⟩
        have eq : ((os.map fun z => decide (0 < marg rows y z)).all id) = os.all (fun z => decide (0 < marg rows y z)) := by rw [List.all_map]; rfl
        dsimp only
        rw [eq]
        have s04 := s1.trans (s2.trans (s3.trans s4))
        cases ea : os.all (fun z => decide (0 < marg rows y z)) with
        | true =>
          refine iteT ⟨.str y, rfl, ?_⟩
          have := q _ s04
          unfold lead at this
          rw [find_at hy (by rw [hos]; exact ea) no] at this
          exact this
        | false =>
          refine iteF ⟨_, _, rfl, s2.trans (s3.trans s4), fun x hx => ?_⟩
          rw [take_more hy] at hx
          rcases List.mem_append.mp hx with hx | hx
          · exact no x hx
          · rw [List.mem_singleton.mp hx, hos]
            exact ea
    · rintro σ H2 ⟨x2, x3, rfl, s2, no⟩
      rw [List.length_map, List.take_length] at no
      have := q _ (s1.trans s2)
      unfold lead at this
      rw [List.find?_eq_none.mpr fun y hy => by rw [no y hy]; exact Bool.false_ne_true] at this
      exact this
end
theorem opt_str {zs : List Str} {H : Hp} {d : PyData} {v : V} (h : optD zs d = true) (a : DAt H d v) : ∃ z, d = .str z ∧ v = .str z ∧ z ∈ zs := by
  cases d with
  | str z => exact ⟨z, rfl, a, of_decide_eq_true h⟩
  | _ => cases h
/-! ### what is a list -/
def dLs : PyData → Bool
  | .list _ => true
  | _ => false
theorem DAt.tyL {K : PySem.W.Frag} {H : Hp} : ∀ {d : PyData} {v : V}, DAt H d v → ∃ t, TyX K H v t ∧ PySem.W.kitOne K t (.type "list") = some (dLs d)
  | .none, _, h => by
    rw [show _ = V.non from h]
    exact ⟨_, .base .non, kit_ty (show kitB "NoneType" "list" = some false by decide +kernel)⟩
  | .bool b, _, h => by
    rw [show _ = V.bl b from h]
    exact ⟨_, .base (.bl b), kit_ty (show kitB "bool" "list" = some false by decide +kernel)⟩
  | .int i, _, h => by
    rw [show _ = V.int i from h]
    exact ⟨_, .base (.int i), kit_ty (show kitB "int" "list" = some false by decide +kernel)⟩
  | .str z, _, h => by
    rw [show _ = V.str z from h]
    exact ⟨_, .base (.str z), kit_ty (show kitB "str" "list" = some false by decide +kernel)⟩
  | .list ds, _, ⟨p, xs, e, h, g⟩ => by
    rw [e]
    exact ⟨_, .base (.lst h), kit_ty (show kitB "list" "list" = some true by decide +kernel)⟩
  | .tuple ds, _, ⟨p, xs, e, h, g⟩ => by
    rw [e]
    exact ⟨_, .base (.tup h), kit_ty (show kitB "tuple" "list" = some false by decide +kernel)⟩
  | .dict _, _, h => h.elim
/-! ### ways and lots as papers of the top lot -/
def strsOf (ds : List PyData) : List Str := ds.filterMap unS
def wayD (zs : List Str) (y z : Str) : PyData → Bool
  | .tuple ds => unlikeD zs ds && (decide ((strsOf ds)[0]? = some y) && decide ((strsOf ds)[(strsOf ds).length - 1]? = some z))
  | _ => false
def lotD (zs : List Str) : PyData → Bool
  | .list ds => decide (0 < ds.length) && unlikeD zs ds
  | _ => false
def stepsW : List Str → List (Str × Str)
  | x :: y :: w => (x, y) :: stepsW (y :: w)
  | _ => []
theorem stepsW_zip : ∀ w : List Str, stepsW w = w.zip (w.drop 1)
  | [] => rfl
  | [_] => rfl
  | x :: y :: w => by
    have ih := stepsW_zip (y :: w)
    show (x, y) :: stepsW (y :: w) = _
    rw [ih]
    rfl
theorem unlike_of {zs : List Str} {ds : List PyData} (h : unlikeD zs ds = true) : ds = (strsOf ds).map PyData.str ∧ (strsOf ds).Nodup ∧ ∀ x ∈ strsOf ds, x ∈ zs := by
  unfold unlikeD at h
  rw [Bool.and_eq_true] at h
  have e := opt_strs h.1
  refine ⟨e, of_decide_eq_true h.2, fun x hx => ?_⟩
  have m : PyData.str x ∈ ds := by
    rw [e]
    exact List.mem_map.mpr ⟨x, hx, rfl⟩
  exact of_decide_eq_true (List.all_eq_true.mp h.1 _ m)
theorem strs_len {zs : List Str} {ds : List PyData} (h : unlikeD zs ds = true) : (strsOf ds).length = ds.length := by
  have := congrArg List.length (unlike_of h).1
  rw [List.length_map] at this
  exact this.symm
def Few : PyData → Prop
  | .list ds => ds.length ≤ 500
  | .tuple ds => ds.length ≤ 500
  | _ => True
def Fewer (d : PyData) : Prop := Few d ∧ ∀ ds, d = .list ds → ∀ e ∈ ds, Few e
section
variable {P : Program} {w : World} {K : PySem.W.Frag} {mg : Str → Option Value} {base : Heap}
def sp_is_way : Sp := fun vs H Q _ => ∃ (o : Addr) (zs : List Str) (v : V) (d : PyData) (y z : Str), vs = [.ref o, v, .str y, .str z] ∧ H o = some (.tup (zs.map V.str)) ∧ DAt H d v ∧ Few d ∧ ∀ H', Same H H' → Q (.bl (wayD zs y z d)) H'
theorem ok_is_way (T : Txt K mg) : FnOk P w K mg base CX0 3 T.f_is_way T.fd_is_way ["options", "thing", "one", "other"] sp_is_way := by
  refine T.F_is_way.ok sc_is_way (fun vs H Q E h => ?_) (fun cdv A outer s H vs Q E hr h => ?_)
  · obtain ⟨o, zs, v, d, y, z, rfl, _⟩ := h
    rfl
  · obtain ⟨o, zs, v, d, y, z, rfl, ho, hd, few, q⟩ := h
    refine ⟨_, (pss_cons
 (ps_if (PW.pt (pw_or (pt_not (pt_val (pe_callB call_isi (by rfl) T.z_isinstance (by decide +kernel) (pa_cons (pv 1) (pa_cons (pe_bltn (v := .ty "tuple") (u := .type "tuple") rfl T.z_tuple (by decide +kernel) rfl) pa_nil))))) (pw_or (pt_cmpR op_eq (pe_callB call_len_seq (by rfl) T.z_len (by decide +kernel) (pa_cons (pv 1) pa_nil)) pe_int (nomark _)) (pw_or1 (pt_not (pt_val (pe_call (ok_are_unlike_options T) (hr.mono (by decide)) (by rfl) T.g_are_unlike_options T.F_are_unlike_options.kp T.b_are_unlike_options .nil pass0 (pa_cons (pv 0) (pa_cons (pv 1) pa_nil)))))))))
 (pss_one
 (ps_ret pe_bl))
 pss_nil)
 (pss_one
 (ps_ret (pe_and (pe_cmpR op_eq (pe_ix ix_tup (pv 1) pe_int (fun _ _ => rfl)) (pv 2) (nomark _)) (pe_one (pe_cmpR op_eq (pe_ix ix_tup (pv 1) (pe_un un_neg pe_int) (fun _ _ => rfl)) (pv 3) (nomark _))))))), ?_⟩
    obtain ⟨t, ht, k1, _⟩ := hd.ty (K := K)
    refine ⟨v, rfl, v, _, t, _, dT d, rfl, .ty _, ht, k1, dT d, rfl, ?_⟩
    cases d with
    | tuple ds =>
      obtain ⟨p, xs, rfl, hp, ha⟩ := hd
      have lx : xs.length = ds.length := ha.len
      have l500 : ds.length ≤ 500 := few
      refine iteF ⟨.ref p, rfl, p, _, rfl, .inr (.of hp), rfl, _, rfl, ite2 (fun e => ?_) (fun e => ?_)⟩
      · have e := V.int.inj (of_decide_eq_true e)
        have d0 : ds = [] := List.length_eq_zero_iff.mp (by omega)
        have := q H (Same.refl _)
        rw [d0] at this
        exact iteT this
      · have pos : 0 < ds.length := by
          rcases Nat.eq_zero_or_pos ds.length with h | h
          · exact absurd (decide_eq_true (show V.int ((xs.length : Nat) : Int) = V.int 0 by rw [lx, h] <;> rfl)) e
          · exact h
        refine ⟨.ref o, rfl, .ref p, rfl, o, p, zs, xs, ds, rfl, ho, .inr hp, ha, l500, fun H1 s1 => ⟨_, rfl, ?_⟩⟩
        have eq : wayD zs y z (.tuple ds) = (unlikeD zs ds && (decide ((strsOf ds)[0]? = some y) && decide ((strsOf ds)[(strsOf ds).length - 1]? = some z))) := rfl
        cases ec : unlikeD zs ds with
        | false =>
          have := q H1 s1
          rw [eq, ec, Bool.false_and] at this
          exact iteT this
        | true =>
          refine iteF ?_
          rw [eq, ec, Bool.true_and] at q
          obtain ⟨es, nd, sub⟩ := unlike_of ec
          have ls := strs_len ec
          have hx : xs = (strsOf ds).map V.str := DAll.of_strs (by rw [← es]; exact ha)
          obtain ⟨w0, hw0⟩ : ∃ w0, (strsOf ds)[0]? = some w0 := ⟨(strsOf ds)[0], List.getElem?_eq_getElem (by omega)⟩
          obtain ⟨w1, hw1⟩ : ∃ w1, (strsOf ds)[(strsOf ds).length - 1]? = some w1 := ⟨(strsOf ds)[(strsOf ds).length - 1], List.getElem?_eq_getElem (by omega)⟩
          have ne : strsOf ds ≠ [] := fun h => by rw [h] at ls; simp at ls; omega
          have last : atI xs (-1) = some (V.str w1) := by
            have e1 := List.dropLast_concat_getLast ne
            have e2 : (strsOf ds).getLast ne = w1 := by
              rw [← List.getLast?_eq_getElem?, List.getLast?_eq_some_getLast ne] at hw1
              exact Option.some.inj hw1
            rw [hx]
            have : (strsOf ds).map V.str = (strsOf ds).dropLast.map V.str ++ [V.str w1] := by
              conv => lhs; rw [← e1]
              rw [List.map_append, e2]
              rfl
            rw [this]
            exact at_last _ _
          rw [hw0, hw1] at q
          have es2 : ∀ a b : Str, decide (some a = some b) = decide (V.str a = V.str b) := fun a b => decide_eq_decide.mpr ⟨fun h => by rw [Option.some.inj h], fun h => by rw [V.str.inj h]⟩
          rw [es2, es2] at q
          refine ⟨.ref p, rfl, p, _, 0, .str w0, rfl, rfl, .of (s1 _ _ hp), atI_nat (j := 0) (by rw [hx, List.getElem?_map, hw0] <;> rfl), .str y, rfl, rfl, _, rfl, ?_⟩
          cases ey : decide (V.str w0 = V.str y) with
          | false =>
            rw [ey, Bool.false_and] at q
            exact iteF (q H1 s1)
          | true =>
            rw [ey, Bool.true_and] at q
            refine iteT ⟨.ref p, rfl, 1, rfl, p, _, -1, .str w1, rfl, rfl, .of (s1 _ _ hp), last, .str z, rfl, rfl, q H1 s1⟩
    | _ => exact iteT (iteT (q H (Same.refl _)))
def sp_is_lot : Sp := fun vs H Q _ => ∃ (o : Addr) (zs : List Str) (v : V) (d : PyData), vs = [.ref o, v] ∧ H o = some (.tup (zs.map V.str)) ∧ DAt H d v ∧ Few d ∧ ∀ H', Same H H' → Q (.bl (lotD zs d)) H'
theorem ok_is_lot (T : Txt K mg) : FnOk P w K mg base CX0 3 T.f_is_lot T.fd_is_lot ["options", "thing"] sp_is_lot := by
  refine T.F_is_lot.ok sc_is_lot (fun vs H Q E h => ?_) (fun cdv A outer s H vs Q E hr h => ?_)
  · obtain ⟨o, zs, v, d, rfl, _⟩ := h
    rfl
  · obtain ⟨o, zs, v, d, rfl, ho, hd, few, q⟩ := h
    refine ⟨_, (pss_one
 (ps_ret (pe_and (pe_callB call_isi (by rfl) T.z_isinstance (by decide +kernel) (pa_cons (pv 1) (pa_cons (pe_bltn (v := .ty "list") (u := .type "list") rfl T.z_list (by decide +kernel) rfl) pa_nil))) (pe_and (pe_cmpR op_gt (pe_callB call_len_seq (by rfl) T.z_len (by decide +kernel) (pa_cons (pv 1) pa_nil)) pe_int (nomark _)) (pe_one (pe_call (ok_are_unlike_options T) (hr.mono (by decide)) (by rfl) T.g_are_unlike_options T.F_are_unlike_options.kp T.b_are_unlike_options .nil pass0 (pa_cons (pv 0) (pa_cons (pv 1) pa_nil)))))))), ?_⟩
    obtain ⟨t, ht, k1⟩ := hd.tyL (K := K)
    refine ⟨v, rfl, v, _, t, _, dLs d, rfl, .ty _, ht, k1, dLs d, rfl, ?_⟩
    cases d with
    | list ds =>
      obtain ⟨p, xs, rfl, hp, ha⟩ := hd
      have lx : xs.length = ds.length := ha.len
      have l500 : ds.length ≤ 500 := few
      have eq : lotD zs (.list ds) = (decide (0 < ds.length) && unlikeD zs ds) := rfl
      rw [eq] at q
      have el : decide ((0 : Int) < ((xs.length : Nat) : Int)) = decide (0 < ds.length) := decide_eq_decide.mpr (by rw [lx]; omega)
      refine iteT ⟨.ref p, rfl, p, _, rfl, .inl (.of hp), _, _, rfl, rfl, _, rfl, ?_⟩
      dsimp only
      rw [el]
      cases ec : decide (0 < ds.length) with
      | false =>
        rw [ec, Bool.false_and] at q
        exact iteF (q H (Same.refl _))
      | true =>
        rw [ec, Bool.true_and] at q
        exact iteT ⟨.ref o, rfl, .ref p, rfl, o, p, zs, xs, ds, rfl, ho, .inl hp, ha, l500, fun H1 s1 => q H1 s1⟩
    | _ => exact iteF (q H (Same.refl _))
def sp_steps_of (K : PySem.W.Frag) : Sp := fun vs H Q _ => ∃ (t : Addr) (ws : List Str), vs = [.ref t] ∧ H t = some (.tup (ws.map V.str)) ∧ 0 < ws.length ∧ ws.length ≤ 1000 ∧
  ∀ (S : Addr) (prs : List (Addr × (Str × Str))) (H' : Hp), Same H H' → H S = none → H' S = some (.lst (prs.map fun q => V.ref q.1)) → PrAt H' prs → prs.map (·.2) = stepsW ws → Q (.ref S) H'
theorem ok_steps_of (T : Txt K mg) : FnOk P w K mg base CX0 1 T.f_steps_of T.fd_steps_of ["way"] (sp_steps_of K) := by
  refine T.F_steps_of.ok sc_steps_of (fun vs H Q E h => ?_) (fun cdv A outer s H vs Q E hr h => ?_)
  · obtain ⟨t, ws, rfl, _⟩ := h
    rfl
  · obtain ⟨t, ws, rfl, ht, pos, few, q⟩ := h
    refine ⟨_, (pss_one
 (ps_ret (pe_listZip rfl (by rfl) T.z_list (by rfl) T.z_zip (pa_cons (pv 0) (pa_cons (pe_slice sl_tupA (pv 0) (po_some pe_int) po_none) pa_nil))))), ?_⟩
    refine ⟨.ref t, rfl, .ref t, rfl, _, rfl, ?_⟩
    dsimp only [tNoPart]
    refine slX_of ht fun s1 H1 hs1 m1 => ?_
    rw [show (some (1 : Int)) = some (((1 : Nat) : Int)) from rfl, cut_from (xs := ws.map V.str) (k := 1) (by rw [List.length_map]; exact pos), ← List.map_drop] at hs1
    refine ⟨t, s1, ws.map V.str, (ws.drop 1).map V.str, rfl, .of (m1 _ _ ht), .of hs1, by rw [List.length_map]; exact few, .inl (by rw [List.length_map, List.length_map, List.length_drop]; omega), fun S ts H' s2 nS hS lt pr => ?_⟩
    have lts : ts.length = ws.length - 1 := by rw [lt, List.length_map, List.length_drop]
    have ls : (stepsW ws).length = ws.length - 1 := by rw [stepsW_zip, List.length_zip, List.length_drop]; omega
    refine q S (ts.zip (stepsW ws)) H' (m1.trans s2) (m1.free nS) ?_ (fun e he => ?_) ?_
    · rw [hS]
      refine congrArg (fun l => some (HO.lst l)) ?_
      have : (ts.zip (stepsW ws)).map (·.1) = ts := List.map_fst_zip (by omega)
      conv => lhs; rw [← this]
      rw [List.map_map]
      rfl
    · obtain ⟨j, hj⟩ := List.mem_iff_getElem?.mp he
      obtain ⟨h1, h2⟩ := List.getElem?_zip_eq_some.mp hj
      rw [stepsW_zip] at h2
      obtain ⟨h3, h4⟩ := List.getElem?_zip_eq_some.mp h2
      exact pr j e.1 (.str e.2.1) (.str e.2.2) h1 (by rw [List.getElem?_map, h3] <;> rfl) (by rw [List.getElem?_map, h4] <;> rfl)
    · exact List.map_snd_zip (by omega)
def outS (zs ws : List Str) : List (Str × Str) := ws.flatMap fun x => (zs.filter fun t => decide (t ∉ ws)).map fun t => (x, t)
theorem outS_more {zs ws : List Str} {u : List Str} {x : Str} {i : Nat} (h : u[i]? = some x) : (u.take (i + 1)).flatMap (fun x => (zs.filter fun t => decide (t ∉ ws)).map fun t => (x, t)) = (u.take i).flatMap (fun x => (zs.filter fun t => decide (t ∉ ws)).map fun t => (x, t)) ++ (zs.filter fun t => decide (t ∉ ws)).map fun t => (x, t) := by
  rw [take_more h, List.flatMap_append, List.flatMap_singleton]
theorem PrAt.same {H H' : Hp} {prs : List (Addr × (Str × Str))} (s : Same H H') (h : PrAt H prs) : PrAt H' prs := fun q hq => s _ _ (h q hq)
theorem PrAt.app {H : Hp} {a b : List (Addr × (Str × Str))} (ha : PrAt H a) (hb : PrAt H b) : PrAt H (a ++ b) := fun q hq => (List.mem_append.mp hq).elim (ha q) (hb q)
def sp_steps_out : Sp := fun vs H Q _ => ∃ (o l : Addr) (zs ws : List Str), vs = [.ref o, .ref l] ∧ H o = some (.tup (zs.map V.str)) ∧ H l = some (.lst (ws.map V.str)) ∧ zs.length ≤ 6 ∧ ws.length ≤ 30 ∧
  ∀ (S : Addr) (prs : List (Addr × (Str × Str))) (H' : Hp), Same H H' → H S = none → H' S = some (.lst (prs.map fun q => V.ref q.1)) → PrAt H' prs → prs.map (·.2) = outS zs ws → Q (.ref S) H'
theorem ok_steps_out (T : Txt K mg) : FnOk P w K mg base CX0 1 T.f_steps_out T.fd_steps_out ["options", "lot"] sp_steps_out := by
  refine T.F_steps_out.ok sc_steps_out (fun vs H Q E h => ?_) (fun cdv A outer s H vs Q E hr h => ?_)
  · obtain ⟨o, l, zs, ws, rfl, _⟩ := h
    rfl
  · obtain ⟨o, l, zs, ws, rfl, ho, hl, few, fw, q⟩ := h
    refine ⟨_, (pss_one
 (ps_ret (pe_lc2 (own := [("inner", 2), ("outer", 3)]) (vs1 := [3]) (g := gName 2) (g1 := gName 3) (tt := tYes) rfl sc_steps_out.nd (pi_list (pv 1)) (blkOk_by (own := [("inner", 2), ("outer", 3)]) (N := ["options", "lot", "inner", "outer"]) (sc := (defScope s_steps_out)) (by decide +kernel)) (by decide) (fun _ _ _ _ _ => pg_name (i := 2) sc_steps_out.nd rfl (Or.inl rfl)) (fun _ _ _ _ _ => pts_nil) (fun s0 H0 C0 cl0 fp0 => (by have h := ((pi_tup (pv 0)) : PI ((cxOf CX0 P w K mg base ["options", "lot", "inner", "outer"] "steps_out" (defScope s_steps_out) T.f_steps_out cdv A outer s H E).nox.blk s0 H0 (lcScope (rootE ((defBody s_steps_out).getD 0 (.Pass ⟨0, 0, 0, 0⟩)))) (compEnvC (lcScope (rootE ((defBody s_steps_out).getD 0 (.Pass ⟨0, 0, 0, 0⟩)))) cl0 C0 (cxOf CX0 P w K mg base ["options", "lot", "inner", "outer"] "steps_out" (defScope s_steps_out) T.f_steps_out cdv A outer s H E).nox.env) fp0) (lcG (rootE ((defBody s_steps_out).getD 0 (.Pass ⟨0, 0, 0, 0⟩))) 1).target (lcG (rootE ((defBody s_steps_out).getD 0 (.Pass ⟨0, 0, 0, 0⟩))) 1).iter _); dsimp only [Cx.blk, Cx.tr, Cx.suite, Cx.nox, Cx.wish, cxOf] at h; exact h)) (fun _ _ _ _ _ => pg_name (i := 3) sc_steps_out.nd rfl (Or.inl rfl)) (fun s0 H0 C0 cl0 fp0 => (by have h := ((pts_one (pt_cmpR op_notIn_seq (pv 3) (pv 1) rfl)) : PTs ((cxOf CX0 P w K mg base ["options", "lot", "inner", "outer"] "steps_out" (defScope s_steps_out) T.f_steps_out cdv A outer s H E).nox.blk s0 H0 (lcScope (rootE ((defBody s_steps_out).getD 0 (.Pass ⟨0, 0, 0, 0⟩)))) (compEnvC (lcScope (rootE ((defBody s_steps_out).getD 0 (.Pass ⟨0, 0, 0, 0⟩)))) cl0 C0 (cxOf CX0 P w K mg base ["options", "lot", "inner", "outer"] "steps_out" (defScope s_steps_out) T.f_steps_out cdv A outer s H E).nox.env) fp0) (lcG (rootE ((defBody s_steps_out).getD 0 (.Pass ⟨0, 0, 0, 0⟩))) 1).ifs _); dsimp only [Cx.blk, Cx.tr, Cx.suite, Cx.nox, Cx.wish, cxOf] at h; exact h)) (fun _ _ _ _ _ => (pe_tup (pa_cons (pv 2) (pa_cons (pv 3) pa_nil))))))), ?_⟩
    refine ⟨.ref l, rfl, l, rfl, ⟨_, .of hl⟩, fun D nD => ?_⟩
    have lf : ∀ j, ((zs.take j).filter fun t => decide (t ∉ ws)).length ≤ 6 := fun j => by
      have a := List.length_filter_le (fun t => decide (t ∉ ws)) (zs.take j)
      rw [List.length_take] at a
      omega
    have lo : ∀ i, ((ws.take i).flatMap fun x => (zs.filter fun t => decide (t ∉ ws)).map fun t => (x, t)).length ≤ i * 6 := fun i => by
      induction i with
      | zero => simp
      | succ i ih =>
        cases e : ws[i]? with
        | none =>
          rw [List.take_of_length_le (by have := List.getElem?_eq_none_iff.mp e; omega)]
          rw [List.take_of_length_le (List.getElem?_eq_none_iff.mp e)] at ih
          omega
        | some x =>
          rw [outS_more e, List.length_append, List.length_map]
          have a := lf zs.length
          rw [List.take_length] at a
          omega
    refine out_it (walk_list (K := K) (a := l) (xs := ws.map V.str)) (fun i H' => ∃ prs : List (Addr × (Str × Str)), Same H H' ∧ H' D = some (.lst (prs.map fun q => V.ref q.1)) ∧ PrAt H' prs ∧ prs.map (·.2) = (ws.take i).flatMap fun x => (zs.filter fun t => decide (t ∉ ws)).map fun t => (x, t))
      ⟨[], same_upd nD, upd_same, fun _ h => (by cases h), rfl⟩ (fun _ _ _ ⟨_, h, _⟩ => .of (h _ _ hl)) ?_ ?_
    · rintro i x H1 H0 hi ⟨prs, s1, e1, p1, m1⟩ ⟨rfl, hx⟩
      obtain ⟨a, ha, rfl⟩ := item_map hx
      have il := (List.getElem?_eq_some_iff.mp ha).1
      refine ⟨rfl, .ref o, rfl, o, rfl, ⟨_, .of (s1 _ _ ho)⟩, ?_⟩
      refine in_it (walk_tup (K := K) (a := o) (xs := zs.map V.str)) (fun j H' => ∃ prs : List (Addr × (Str × Str)), Same H H' ∧ H' D = some (.lst (prs.map fun q => V.ref q.1)) ∧ PrAt H' prs ∧ prs.map (·.2) = ((ws.take i).flatMap fun x => (zs.filter fun t => decide (t ∉ ws)).map fun t => (x, t)) ++ ((zs.take j).filter fun t => decide (t ∉ ws)).map fun t => (a, t))
        ⟨prs, s1, e1, p1, by rw [m1]; simp⟩ (fun _ _ _ ⟨_, h, _⟩ => .of (h _ _ ho)) ?_ ?_
      · rintro j y H2 H3 hj ⟨prs, s2, e2, p2, m2⟩ ⟨rfl, hy⟩
        obtain ⟨b, hb, rfl⟩ := item_map hy
        have ft := filter_take (f := fun t => decide (t ∉ ws)) hb
        refine ⟨rfl, .str b, rfl, .ref l, rfl, l, _, rfl, .inl (.of (s2 _ _ hl)), rfl, flat_strs ws, _, rfl, ?_⟩
        rw [inV_str]
        have lp : prs.length ≤ 1000 - 1 := by
          have a1 := congrArg List.length m2
          rw [List.length_map, List.length_append, List.length_map] at a1
          have a2 := lo i
          have a3 := lf j
          have : i ≤ ws.length := Nat.le_of_lt il
          omega
        by_cases c : b ∈ ws
        · rw [decide_eq_true c]
          rw [if_neg (by rw [decide_eq_false (fun h => h c)]; exact Bool.false_ne_true), List.append_nil] at ft
          refine iteF ⟨prs, s2, e2, p2, ?_⟩
          rw [m2, ft]
        · rw [decide_eq_false c]
          rw [if_pos (decide_eq_true c)] at ft
          refine iteT ⟨.str a, rfl, .str b, rfl, line_of (show 2 ≤ 1000 by decide), fun t nt => ?_⟩
          have s3 := same_upd (o := HO.tup [V.str a, V.str b]) nt
          have et : (upd H3 t (.tup [V.str a, V.str b])) t = some (.tup [V.str a, V.str b]) := upd_same
          have e3 := s3 _ _ e2
          have p3 := (p2.same s3).app (b := [(t, (a, b))]) fun q hq => by rw [List.mem_singleton.mp hq]; exact et
          generalize upd H3 t (.tup [V.str a, V.str b]) = H4 at s3 et e3 p3
          refine ⟨_, e3, small1000 (by rw [List.length_map]; omega), prs ++ [(t, (a, b))], same_mut (s2.trans s3) nD, by rw [upd_same, List.map_append]; rfl, fun q hq => ?_, ?_⟩
          · have := p3 q hq
            rw [upd_ne (fun h => by rw [h, e3] at this; cases this)]
            exact this
          · rw [List.map_append, m2, ft, List.map_append, List.append_assoc]
            rfl
      · rintro H2 ⟨prs, s2, e2, p2, m2⟩
        rw [List.length_map, List.take_length] at m2
        exact ⟨prs, s2, e2, p2, by rw [m2, outS_more ha]⟩
    · rintro H1 ⟨prs, s1, e1, p1, m1⟩
      rw [List.length_map, List.take_length] at m1
      exact q D prs H1 s1 nD e1 p1 m1
end
/-! ### how strong ways are -/
def WayFT (zs : List Str) (a b : Str) (way : List Str) : Prop := way.Nodup ∧ (∀ x ∈ way, x ∈ zs) ∧ way.head? = some a ∧ way.getLast? = some b
/-- the weakest step of a way -/
def IsForce (g : Str → Str → Int) (way : List Str) (n : Int) : Prop := (∃ p ∈ stepsW way, g p.1 p.2 = n) ∧ ∀ p ∈ stepsW way, n ≤ g p.1 p.2
/-- the strength of the strongest way from a to b -/
def IsStrong (g : Str → Str → Int) (zs : List Str) (a b : Str) (n : Int) : Prop := (∃ way, WayFT zs a b way ∧ IsForce g way n) ∧ ∀ way m, WayFT zs a b way → IsForce g way m → m ≤ n
theorem IsForce.one {g : Str → Str → Int} {way : List Str} {n m : Int} (h : IsForce g way n) (k : IsForce g way m) : n = m := by
  obtain ⟨⟨p, hp, rfl⟩, h2⟩ := h
  obtain ⟨⟨q, hq, rfl⟩, k2⟩ := k
  have := h2 q hq
  have := k2 p hp
  omega
theorem IsStrong.one {g : Str → Str → Int} {zs : List Str} {a b : Str} {n m : Int} (h : IsStrong g zs a b n) (k : IsStrong g zs a b m) : n = m := by
  obtain ⟨⟨w, hw, hf⟩, h2⟩ := h
  obtain ⟨⟨v, hv, kf⟩, k2⟩ := k
  have := h2 v m hv kf
  have := k2 w n hw hf
  omega
/-- a way that leaves a lot has a step out of it -/
theorem way_out {R : List Str} : ∀ {way : List Str} {a b : Str}, way.head? = some a → way.getLast? = some b → a ∈ R → b ∉ R → ∃ p ∈ stepsW way, p.1 ∈ R ∧ p.2 ∉ R
  | [], _, _, h, _, _, _ => by cases h
  | [x], a, b, h, k, ha, hb => by
    cases h
    cases k
    exact absurd ha hb
  | x :: y :: r, a, b, h, k, ha, hb => by
    cases h
    by_cases c : y ∈ R
    · have k' : (y :: r).getLast? = some b := by rw [← k, List.getLast?_cons_cons]
      obtain ⟨p, hp, h1, h2⟩ := way_out (way := y :: r) (a := y) rfl k' c hb
      exact ⟨p, List.mem_cons_of_mem _ hp, h1, h2⟩
    · exact ⟨(x, y), List.mem_cons_self, ha, c⟩
theorem steps_in : ∀ {way : List Str} {p : Str × Str}, p ∈ stepsW way → p.1 ∈ way ∧ p.2 ∈ way
  | [], _, h => by cases h
  | [_], _, h => by cases h
  | x :: y :: r, p, h => by
    rcases List.mem_cons.mp h with rfl | h
    · exact ⟨List.mem_cons_self, List.mem_cons_of_mem _ List.mem_cons_self⟩
    · obtain ⟨h1, h2⟩ := steps_in (way := y :: r) h
      exact ⟨List.mem_cons_of_mem _ h1, List.mem_cons_of_mem _ h2⟩
/-- R holds the start, not the end; no step out of it is stronger than n -/
def CutOf (g : Str → Str → Int) (zs R : List Str) (a b : Str) (n : Int) : Prop := a ∈ R ∧ b ∉ R ∧ ∀ x ∈ R, ∀ y ∈ zs, y ∉ R → g x y ≤ n
theorem CutOf.most {g : Str → Str → Int} {zs R : List Str} {a b : Str} {n : Int} (c : CutOf g zs R a b n) {way : List Str} {m : Int} (h : WayFT zs a b way) (f : IsForce g way m) : m ≤ n := by
  obtain ⟨p, hp, h1, h2⟩ := way_out h.2.2.1 h.2.2.2 c.1 c.2.1
  exact Int.le_trans (f.2 p hp) (c.2.2 _ h1 _ (h.2.1 _ (steps_in hp).2) h2)
theorem steps_app : ∀ {way : List Str} {b z : Str}, way.getLast? = some b → stepsW (way ++ [z]) = stepsW way ++ [(b, z)]
  | [], _, _, h => by cases h
  | [x], b, z, h => by
    cases h
    rfl
  | x :: y :: r, b, z, h => by
    have h' : (y :: r).getLast? = some b := by rw [← h, List.getLast?_cons_cons]
    show (x, y) :: stepsW (y :: r ++ [z]) = (x, y) :: stepsW (y :: r) ++ [(b, z)]
    rw [steps_app h']
    rfl
theorem force_one (g : Str → Str → Int) (a z : Str) : IsForce g [a, z] (g a z) := ⟨⟨(a, z), List.mem_cons_self, rfl⟩, fun p hp => by rw [List.mem_singleton.mp hp]; exact Int.le_refl _⟩
theorem force_app {g : Str → Str → Int} {way : List Str} {b z : Str} {n : Int} (h : way.getLast? = some b) (f : IsForce g way n) : IsForce g (way ++ [z]) (if g b z ≤ n then g b z else n) := by
  have e := steps_app (z := z) h
  obtain ⟨⟨p, hp, hn⟩, h2⟩ := f
  refine ⟨?_, fun q hq => ?_⟩
  · rw [e]
    by_cases c : g b z ≤ n
    · rw [if_pos c]
      exact ⟨(b, z), List.mem_append_right _ List.mem_cons_self, rfl⟩
    · rw [if_neg c]
      exact ⟨p, List.mem_append_left _ hp, hn⟩
  · rw [e] at hq
    rcases List.mem_append.mp hq with hq | hq
    · have := h2 q hq
      split <;> omega
    · rw [List.mem_singleton.mp hq]
      show (if g b z ≤ n then g b z else n) ≤ g b z
      split <;> omega
theorem way_app {zs : List Str} {a b z : Str} {way : List Str} (h : WayFT zs a b way) (hz : z ∈ zs) (nz : z ∉ way) : WayFT zs a z (way ++ [z]) := by
  refine ⟨List.nodup_append.mpr ⟨h.1, by simp, fun x hx y hy e => nz (by rw [← List.mem_singleton.mp hy, ← e]; exact hx)⟩, fun x hx => ?_, ?_, List.getLast?_concat⟩
  · rcases List.mem_append.mp hx with hx | hx
    · exact h.2.1 x hx
    · rw [List.mem_singleton.mp hx]
      exact hz
  · rw [List.head?_append, h.2.2.1]
    rfl
/-- what is found to one option: its name, its pair, its way's tuple, the number, the way -/
structure WF where
  z : Str
  q : Addr
  w : Addr
  n : Int
  way : List Str
def gkv (gs : List WF) : List (Key × V) := gs.map fun e => (.inr e.z, .ref e.q)
def toF (s : Str) (w0 : Addr) (gs : List WF) : List Found := (s, w0, [s]) :: gs.map fun e => (e.z, e.w, e.way)
/-- a way as strong as no other one, seen by a lot within those reached -/
structure WBest (g : Str → Str → Int) (zs : List Str) (s : Str) (rs : List Str) (e : WF) : Prop where
  way : WayFT zs s e.z e.way
  force : IsForce g e.way e.n
  cut : ∃ R, (∀ x ∈ R, x ∈ rs) ∧ CutOf g zs R s e.z e.n
  on : ∀ x ∈ e.way, x ∈ rs
theorem WBest.strong {g : Str → Str → Int} {zs : List Str} {s : Str} {rs : List Str} {e : WF} (h : WBest g zs s rs e) : IsStrong g zs s e.z e.n := by
  obtain ⟨R, _, c⟩ := h.cut
  exact ⟨⟨e.way, h.way, h.force⟩, fun way m hw hf => c.most hw hf⟩
theorem WBest.more {g : Str → Str → Int} {zs : List Str} {s : Str} {rs rs' : List Str} {e : WF} (sub : ∀ x ∈ rs, x ∈ rs') (h : WBest g zs s rs e) : WBest g zs s rs' e := by
  obtain ⟨R, h1, h2⟩ := h.cut
  exact ⟨h.way, h.force, ⟨R, fun x hx => sub x (h1 x hx), h2⟩, fun x hx => sub x (h.on x hx)⟩
/-- one option more, by the strongest step out of those reached -/
theorem best_more {g : Str → Str → Int} {zs : List Str} {s : Str} {gs : List WF} {here there : Str} {way : List Str} {q w : Addr} {n : Int} (hs : s ∈ zs) (ht : there ∈ zs) (nt : there ∉ s :: gs.map (·.z))
    (all : ∀ e ∈ gs, WBest g zs s (s :: gs.map (·.z)) e) (hway : (here = s ∧ way = [s]) ∨ ∃ e ∈ gs, e.z = here ∧ e.way = way) (most : ∀ x ∈ s :: gs.map (·.z), ∀ y ∈ zs, y ∉ s :: gs.map (·.z) → g x y ≤ g here there)
    (f : IsForce g (way ++ [there]) n) : WBest g zs s ((s :: gs.map (·.z)) ++ [there]) ⟨there, q, w, n, way ++ [there]⟩ := by
  have cutR : ∀ {m}, g here there ≤ m → CutOf g zs (s :: gs.map (·.z)) s there m := fun {m} le => ⟨List.mem_cons_self, nt, fun x hx y hy ny => Int.le_trans (most x hx y hy ny) le⟩
  rcases hway with ⟨rfl, rfl⟩ | ⟨e, he, rfl, rfl⟩
  · have ns : there ∉ [here] := fun h => nt (by rw [List.mem_singleton.mp h]; exact List.mem_cons_self)
    have w1 : WayFT zs here here [here] := ⟨by simp, fun x hx => by rw [List.mem_singleton.mp hx]; exact hs, rfl, rfl⟩
    have en : n = g here there := f.one (force_one g here there)
    refine ⟨way_app w1 ht ns, f, ⟨_, fun x hx => List.mem_append_left _ hx, cutR (show g here there ≤ n by omega)⟩, fun x hx => ?_⟩
    rcases List.mem_append.mp hx with hx | hx
    · rw [List.mem_singleton.mp hx]
      exact List.mem_append_left _ List.mem_cons_self
    · exact List.mem_append_right _ hx
  · have b := all e he
    have ns : there ∉ e.way := fun h => nt (b.on _ h)
    have en : n = _ := f.one (force_app (z := there) b.way.2.2.2 b.force)
    refine ⟨way_app b.way ht ns, f, ?_, fun x hx => ?_⟩
    · by_cases c : g e.z there ≤ e.n
      · rw [if_pos c] at en
        exact ⟨_, fun x hx => List.mem_append_left _ hx, cutR (show g e.z there ≤ n by omega)⟩
      · rw [if_neg c] at en
        obtain ⟨R, h1, h2, h3, h4⟩ := b.cut
        refine ⟨R, fun x hx => List.mem_append_left _ (h1 x hx), h2, fun h => nt (h1 _ h), fun x hx y hy ny => ?_⟩
        rw [en]
        exact h4 x hx y hy ny
    · rcases List.mem_append.mp hx with hx | hx
      · exact List.mem_append_left _ (b.on x hx)
      · exact List.mem_append_right _ hx
/-- what stands of the ways found -/
structure WOk (H : Hp) (g : Str → Str → Int) (zs : List Str) (s : Str) (gs : List WF) : Prop where
  at_ : ∀ e ∈ gs, H e.q = some (.tup [.int e.n, .ref e.w]) ∧ H e.w = some (.tup (e.way.map V.str))
  best : ∀ e ∈ gs, WBest g zs s (s :: gs.map (·.z)) e
  nodup : (s :: gs.map (·.z)).Nodup
  sub : ∀ e ∈ gs, e.z ∈ zs
theorem WOk.keep {H H' : Hp} {g : Str → Str → Int} {zs : List Str} {s : Str} {gs : List WF} (k : ∀ a xs, H a = some (.tup xs) → H' a = some (.tup xs)) (h : WOk H g zs s gs) : WOk H' g zs s gs :=
  ⟨fun e he => ⟨k _ _ (h.at_ e he).1, k _ _ (h.at_ e he).2⟩, h.best, h.nodup, h.sub⟩
theorem gkv_in {gs : List WF} {e : WF} (nd : (gs.map (·.z)).Nodup) (h : e ∈ gs) : valV (gkv gs) (.inr e.z) = some (.ref e.q) := by
  refine val_some (List.mem_map.mpr ⟨e, h, rfl⟩) fun kv hk ek => ?_
  obtain ⟨e', he', rfl⟩ := List.mem_map.mp hk
  have : e' = e := by
    haveI : DecidableEq WF := fun a b => Classical.propDecidable _
    refine Classical.byContradiction fun ne => ?_
    have pw := List.pairwise_map.mp nd
    rcases pairwise_two pw he' h ne with z | z
    · exact z (Sum.inr.inj ek)
    · exact z (Sum.inr.inj ek).symm
  rw [this]
theorem gkv_new {gs : List WF} {e : WF} (h : e.z ∉ gs.map (·.z)) : putK (gkv gs) (.inr e.z) (.ref e.q) = gkv (gs ++ [e]) := by
  rw [putK_new _ (val_none fun kv hk ek => by
    obtain ⟨e', he', rfl⟩ := List.mem_map.mp hk
    exact h (List.mem_map.mpr ⟨e', he', Sum.inr.inj ek⟩))]
  unfold gkv
  rw [List.map_append]
  rfl
theorem keys_toF (s : Str) (w0 : Addr) (gs : List WF) : keysF (toF s w0 gs) = s :: gs.map (·.z) := by
  unfold keysF toF
  rw [List.map_cons, List.map_map]
  rfl
theorem toF_more (s : Str) (w0 : Addr) (gs : List WF) (e : WF) : toF s w0 (gs ++ [e]) = toF s w0 gs ++ [(e.z, e.w, e.way)] := by
  unfold toF
  rw [List.map_append]
  rfl
/-! ### a dict locked while a loop walks it -/
theorem lock_same {H H' : Hp} {d : Addr} {u : HO} (od : Obj) (h : H d = some u) (s : Same (upd H d (.frz od u)) H') : Same H (upd H' d u) := fun b o e => by
  by_cases c : b = d
  · subst c
    rw [h] at e
    rw [upd_same]
    exact e
  · rw [upd_ne c]
    exact s b o (by rw [upd_ne c]; exact e)
theorem lock_ne {H : Hp} {d a : Addr} {u o x : HO} (h : H d = some u) (ne : o ≠ u) (e : H a = some o) : upd H d x a = some o := by
  rw [upd_ne fun z => ne (by rw [z, h] at e; exact (Option.some.inj e).symm)]
  exact e
/-! ### the ways as they are found: one after another, and nothing else -/
def FM (g : Str → Str → Int) (l : List (Str × Str)) (i : Nat) (p : Str × Str) : Prop := l[i]? = some p ∧ (∀ (k : Nat) (q : Str × Str), l[k]? = some q → g q.1 q.2 ≤ g p.1 p.2) ∧ ∀ (k : Nat) (q : Str × Str), k < i → l[k]? = some q → g q.1 q.2 < g p.1 p.2
inductive TrW (g : Str → Str → Int) (zs : List Str) (st : Str) : List (Str × List Str) → List Str → Prop
  | nil : TrW g zs st [] (zs.filter fun z => decide (z ≠ st))
  | step {fs : List (Str × List Str)} {ls : List Str} {here there : Str} {way : List Str} {i j : Nat} (h : TrW g zs st fs ls) (nd : (st :: fs.map (·.1)).Nodup) (lnd : ls.Nodup)
      (hi : FM g ((st :: fs.map (·.1)).flatMap fun x => ls.map fun y => (x, y)) i (here, there)) (hw : (here = st ∧ way = [st]) ∨ (here, way) ∈ fs) (hj : ls[j]? = some there) : TrW g zs st (fs ++ [(there, way ++ [there])]) (ls.eraseIdx j)
section
variable {P : Program} {w : World} {K : PySem.W.Frag} {mg : Str → Option Value} {base : Heap}
theorem steps_ne : ∀ {way : List Str} {p : Str × Str}, way.Nodup → p ∈ stepsW way → p.1 ≠ p.2
  | [], _, _, h => by cases h
  | [_], _, _, h => by cases h
  | x :: y :: r, p, n, h => by
    obtain ⟨n1, n2⟩ := List.nodup_cons.mp n
    rcases List.mem_cons.mp h with rfl | h
    · exact fun e => n1 (by rw [show x = y from e]; exact List.mem_cons_self)
    · exact steps_ne n2 h
theorem steps_len : ∀ way : List Str, (stepsW way).length = way.length - 1
  | [] => rfl
  | [_] => rfl
  | x :: y :: r => by
    have := steps_len (y :: r)
    show (stepsW (y :: r)).length + 1 = (y :: r).length + 1 - 1
    rw [this, List.length_cons]
    omega
def sp_weakest : Sp := fun vs H Q _ => ∃ (M t : Addr) (zs way : List Str) (g : Str → Str → Int), vs = [.ref M, .ref t] ∧ H M = some (.dT (tab2 zs g zs)) ∧ H t = some (.tup (way.map V.str)) ∧ way.Nodup ∧ (∀ x ∈ way, x ∈ zs) ∧ 2 ≤ way.length ∧ way.length ≤ 1000 ∧
  ∀ (n : Int) (H' : Hp), Same H H' → IsForce g way n → Q (.int n) H'
theorem ok_weakest (T : Txt K mg) : FnOk P w K mg base CX0 2 T.f_weakest T.fd_weakest ["held", "way"] sp_weakest := by
  refine T.F_weakest.ok sc_weakest (fun vs H Q E h => ?_) (fun cdv A outer s H vs Q E hr h => ?_)
  · obtain ⟨M, t, zs, way, g, rfl, _⟩ := h
    rfl
  · obtain ⟨M, t, zs, way, g, rfl, hM, ht, nd, sub, l2, l1000, q⟩ := h
    refine ⟨_, (pss_one
 (ps_ret (pe_callB (cr_min rfl) (by rfl) T.z_min (by decide +kernel) (pa_cons (pe_lc (own := [("step", 2)]) (g := gName 2) (tt := tYes) rfl sc_weakest.nd (pi_list (pe_call (ok_steps_of T) (hr.mono (by decide)) (by rfl) T.g_steps_of T.F_steps_of.kp T.b_steps_of .nil pass0 (pa_cons (pv 1) pa_nil))) (blkOk_by (own := [("step", 2)]) (N := ["held", "way", "step"]) (sc := (defScope s_weakest)) (by decide +kernel)) (fun _ _ _ _ _ => pg_name (i := 2) sc_weakest.nd rfl (Or.inl rfl)) (fun _ _ _ _ _ => pts_nil) (fun s0 H0 C0 cl0 fp0 => (by have h := ((pe_dget (hu_of hr) (pv 0) (pv 2) (fun _ _ => rfl)) : PE ((cxOf CX0 P w K mg base ["held", "way", "step"] "weakest" (defScope s_weakest) T.f_weakest cdv A outer s H E).nox.blk s0 H0 (lcScope (subE (rootE ((defBody s_weakest).getD 0 (.Pass ⟨0, 0, 0, 0⟩))) 1)) (compEnvC (lcScope (subE (rootE ((defBody s_weakest).getD 0 (.Pass ⟨0, 0, 0, 0⟩))) 1)) cl0 C0 (cxOf CX0 P w K mg base ["held", "way", "step"] "weakest" (defScope s_weakest) T.f_weakest cdv A outer s H E).nox.env) fp0) (subE (subE (rootE ((defBody s_weakest).getD 0 (.Pass ⟨0, 0, 0, 0⟩))) 1) 0) _); dsimp only [Cx.blk, Cx.tr, Cx.suite, Cx.nox, Cx.wish, cxOf] at h; exact h))) pa_nil)))), ?_⟩
    refine ⟨.ref t, rfl, t, way, rfl, ht, by omega, l1000, fun S prs H1 s1 nS eS pr em => ?_⟩
    refine ⟨S, rfl, ⟨_, .of eS⟩, fun D nD => ?_⟩
    have lp : prs.length = way.length - 1 := by
      have := congrArg List.length em
      rw [List.length_map, steps_len] at this
      exact this
    refine lc_list (K := K) (a := S) (xs := prs.map fun q => V.ref q.1) (fun i H' => Same H1 H' ∧ H' D = some (.lst (((prs.take i).map fun p => g p.2.1 p.2.2).map V.int))) ⟨same_upd nD, upd_same⟩ (fun _ _ _ h => .of (h.1 _ _ eS)) ?_ ?_
    · rintro i x H2 hi ⟨s2, e2⟩
      obtain ⟨p, hp, rfl⟩ := item_map hi
      have mp := List.mem_of_getElem? hp
      have ms : p.2 ∈ stepsW way := by rw [← em]; exact List.mem_map.mpr ⟨p, mp, rfl⟩
      obtain ⟨i1, i2⟩ := steps_in ms
      have got : DGet H2 M (.ref p.1) (some (.int (g p.2.1 p.2.2))) := by
        have := DGet.t (k := [.inr p.2.1, .inr p.2.2]) ((s1.trans s2) _ _ hM) (s2 _ _ (pr p mp))
        rw [tab2_val (sub _ i1) (sub _ i2) (steps_ne nd ms)] at this
        exact this
      refine ⟨rfl, .ref M, rfl, .ref p.1, rfl, M, _, rfl, got, _, e2, small1000 (by rw [List.length_map, List.length_map, List.length_take]; omega), same_mut s2 nD, ?_⟩
      rw [upd_same, take_more hp, List.map_append, List.map_append]
      rfl
    · rintro H2 ⟨s2, e2⟩
      rw [List.length_map, List.take_length] at e2
      refine ⟨D, _, rfl, .of e2, by rw [List.length_map]; omega, fun m hm hle => q m H2 (s1.trans s2) ⟨?_, fun p hp => ?_⟩⟩
      · obtain ⟨p, hp, e⟩ := List.mem_map.mp hm
        exact ⟨p.2, by rw [← em]; exact List.mem_map.mpr ⟨p, hp, rfl⟩, e⟩
      · rw [← em] at hp
        obtain ⟨p', hp', rfl⟩ := List.mem_map.mp hp
        exact hle _ (List.mem_map.mpr ⟨p', hp', rfl⟩)
abbrev lamS : Str := ("strongest_ways.<locals>." : Str) ++ "<lambda>"
def leftW (L : Addr) (_ : L2.St) (H : Hp) : Nat := match H L with
  | some (.lst xs) => xs.length
  | _ => 0
theorem tabs_upd {T : List (Addr × Str)} {H : Hp} {a : Addr} {u x : HO} (ha : H a = some u) (h1 : ∀ ps, u ≠ .tbl ps) (h2 : ∀ f, u ≠ .ext f) (h : LamX.Tabs T H) : LamX.Tabs T (upd H a x) := fun p hp => by
  obtain ⟨ps, e1, e2, e3⟩ := h p hp
  refine ⟨ps, ?_, e2, fun pos cv hc => ?_⟩
  · rw [upd_ne fun e => by rw [e, ha] at e1; exact h1 _ (Option.some.inj e1)]
    exact e1
  · obtain ⟨c, c1, c2⟩ := e3 pos cv hc
    refine ⟨c, c1, ?_⟩
    rw [upd_ne fun e => by rw [e, ha] at c2; exact h2 _ (Option.some.inj c2)]
    exact c2
theorem extn_mut {H H' : Hp} {a : Addr} {x : HO} (h : LamX.ExtN H H') (n : H a = none) : LamX.ExtN H (upd H' a x) := fun b o e k => by
  rw [upd_ne fun z => by rw [z, n] at e; cases e]
  exact h b o e k
theorem seq_nx {a u : TS} {D : Ends} {σ : L2.St} {H : Hp} (h : a { D with nx := u D } σ H) : tSeq a u D σ H := h
def sp_strongest_ways (TL : List (Addr × Str)) : Sp := fun vs H Q _ => ∃ (o M : Addr) (zs : List Str) (g : Str → Str → Int) (s : Str), vs = [.ref o, .ref M, .str s] ∧ H o = some (.tup (zs.map V.str)) ∧ H M = some (.dT (tab2 zs g zs)) ∧ zs.Nodup ∧ zs.length ≤ 6 ∧ s ∈ zs ∧ LamX.Tabs TL H ∧
  ∀ (D : Addr) (gs : List WF) (H' : Hp), LamX.ExtN H H' → LamX.Tabs TL H' → H D = none → H' D = some (.dK (gkv gs)) → WOk H' g zs s gs → (∀ z ∈ zs, z ∈ s :: gs.map (·.z)) → TrW g zs s (gs.map fun e => (e.z, e.way)) [] → Q (.ref D) H'
theorem ok_strongest_ways (T : Txt K mg) (tb : ∀ t ∈ T.tabs, LamX.TabB base mg t.2.1 t.2.2) : FnOk P w K mg base CX0 6 T.f_strongest_ways T.fd_strongest_ways ["options", "held", "start"] (sp_strongest_ways T.tabl) := by
  refine ok_code T.F_strongest_ways T.co_strongest_ways sc_strongest_ways (fun vs H Q E h => ?_) (fun A outer s H vs Q E hr h => ?_)
  · obtain ⟨o, M, zs, g, s, rfl, _⟩ := h
    rfl
  · obtain ⟨o, M, zs, g, st, rfl, ho, hM, nd, l6, hs, hT, q⟩ := h
    refine ⟨_, (pss_cons
 (ps_set (i := 3) sc_strongest_ways.nd rfl (Or.inl rfl) pe_dnewK)
 (pss_cons
 (ps_set (i := 4) sc_strongest_ways.nd rfl (Or.inl rfl) (pe_disp (pps_cons (pv 2) (pe_tup (pa_cons (pv 2) pa_nil)) pps_nil) rfl rfl (by simp) (by decide)))
 (pss_cons
 (ps_set (i := 5) sc_strongest_ways.nd rfl (Or.inr rfl) (pe_lc (own := [("option", 9)]) (g := gName 9) rfl sc_strongest_ways.nd (pi_tup (pv 0)) (blkOk_by (own := [("option", 9)]) (N := ["options", "held", "start", "found", "ways", "left", "steps", "here", "there", "option", "one", "other"]) (sc := (defScope s_strongest_ways)) (by decide +kernel)) (fun _ _ _ _ _ => pg_name (i := 9) sc_strongest_ways.nd rfl (Or.inl rfl)) (fun _ _ _ _ _ => (pts_one (pt_cmpR op_ne (pv 9) (pv 2) (nomark _)))) (fun _ _ _ _ _ => (pv 9))))
 (pss_cons
 (ps_while PassesOwn.never (pt_truth (pv 5) (by intro _; rfl))
 (pss_cons
 (ps_lock (ps_setLc2 (i := 6) (own := [("one", 10), ("other", 11)]) (vs1 := [11]) (g := gName 10) (g1 := gName 11) (tt := tYes) (tt1 := tYes) rfl sc_strongest_ways.nd rfl rfl (sw_true rfl rfl rfl (by decide +kernel)) (pi_keys (pv 4)) (blkOk_by (own := [("one", 10), ("other", 11)]) (N := ["options", "held", "start", "found", "ways", "left", "steps", "here", "there", "option", "one", "other"]) (sc := (defScope s_strongest_ways)) (by decide +kernel)) (by decide) (fun _ _ _ _ _ => pg_name (i := 10) sc_strongest_ways.nd rfl (Or.inl rfl)) (fun _ _ _ _ _ => pts_nil) (fun s0 H0 C0 cl0 fp0 => (by have h := ((pi_list (pv 5)) : PI ((cxOf CX0 P w K mg base ["options", "held", "start", "found", "ways", "left", "steps", "here", "there", "option", "one", "other"] "strongest_ways" (defScope s_strongest_ways) T.f_strongest_ways (.ref T.tc_strongest_ways) A outer s H E).nox.blk s0 H0 (lcScope (rootE ((blkOf ((defBody s_strongest_ways).getD 3 (.Pass ⟨0, 0, 0, 0⟩)) 0).getD 0 (.Pass ⟨0, 0, 0, 0⟩)))) (compEnvC (lcScope (rootE ((blkOf ((defBody s_strongest_ways).getD 3 (.Pass ⟨0, 0, 0, 0⟩)) 0).getD 0 (.Pass ⟨0, 0, 0, 0⟩)))) cl0 C0 (cxOf CX0 P w K mg base ["options", "held", "start", "found", "ways", "left", "steps", "here", "there", "option", "one", "other"] "strongest_ways" (defScope s_strongest_ways) T.f_strongest_ways (.ref T.tc_strongest_ways) A outer s H E).nox.env) fp0) (lcG (rootE ((blkOf ((defBody s_strongest_ways).getD 3 (.Pass ⟨0, 0, 0, 0⟩)) 0).getD 0 (.Pass ⟨0, 0, 0, 0⟩))) 1).target (lcG (rootE ((blkOf ((defBody s_strongest_ways).getD 3 (.Pass ⟨0, 0, 0, 0⟩)) 0).getD 0 (.Pass ⟨0, 0, 0, 0⟩))) 1).iter _); dsimp only [Cx.blk, Cx.tr, Cx.suite, Cx.nox, Cx.wish, cxOf] at h; exact h)) (fun _ _ _ _ _ => pg_name (i := 11) sc_strongest_ways.nd rfl (Or.inl rfl)) (fun _ _ _ _ _ => pts_nil) (fun _ _ _ _ _ => (pe_tup (pa_cons (pv 10) (pa_cons (pv 11) pa_nil))))))
 (pss_cons
 (ps_asg (pe_lock (pe_maxKey (T := T.tabl) (k := 3) (a := "step") rfl (by rfl) T.z_max (pv 6) (show LamX.TabB base mg T.tc_strongest_ways T.tp_strongest_ways from tb ("strongest_ways", T.tc_strongest_ways, T.tp_strongest_ways) (by simp [Txt.tabs])) rfl T.tabl_strongest_ways T.tabu_strongest_ways (hr.mono (by decide)) (lamP_by (sc := defScope s_strongest_ways) (by decide +kernel)) (show ("step" : Str) ∉ (["options", "held", "start", "found", "ways", "left", "steps", "here", "there", "option", "one", "other"] : List Str) from by decide) rfl (fun _ _ _ _ _ _ => rfl) (fun s0 H0 f0 c0 hr => (pe_dget (hu_of hr) (pv 1) (pv 12) (fun _ _ => rfl))))) (pg_tup rfl (pgs_cons (pg_name (i := 7) sc_strongest_ways.nd rfl (Or.inl rfl)) (pgs_cons (pg_name (i := 8) sc_strongest_ways.nd rfl (Or.inl rfl)) pgs_nil))))
 (pss_cons
 (ps_dput (hu_of hr) (pv 4) (pv 8) (pe_op op_catA (pe_dget (hu_of hr) (pv 4) (pv 7) (fun _ _ => rfl)) (pe_tup (pa_cons (pv 8) pa_nil))) (by rfl))
 (pss_cons
 (ps_dput (hu_of hr) (pv 3) (pv 8) (pe_tup (pa_cons (pe_call (ok_weakest T) (hr.mono (by decide)) (by rfl) T.g_weakest T.F_weakest.kp T.b_weakest .nil pass0 (pa_cons (pv 1) (pa_cons (pe_dget (hu_of hr) (pv 4) (pv 8) (fun _ _ => rfl)) pa_nil))) (pa_cons (pe_dget (hu_of hr) (pv 4) (pv 8) (fun _ _ => rfl)) pa_nil))) (by rfl))
 (pss_one
 (ps_expr (pe_bm PySem.F.plainAttrs_list PySem.F.slot_list_remove PySem.F.type_list_remove mt_removeS (pv 5) (pa_cons (pv 8) pa_nil)))))))))
 (pss_one
 (ps_ret (pv 3))))))), ?_⟩
    refine fun D nD => ?_
    have s0 := same_upd (o := HO.dK []) nD
    have eD : (upd H D (.dK [])) D = some (.dK []) := upd_same
    generalize upd H D (.dK []) = H0 at s0 eD ⊢
    refine fun Wd nW => ⟨.str st, rfl, .str st, rfl, line_of (show 1 ≤ 1000 by decide), fun t nt => ?_⟩
    have Wt : Wd ≠ t := fun e => by rw [← e, upd_same] at nt; cases nt
    have ntH : H0 t = none := by rw [upd_ne Wt.symm] at nt; exact nt
    refine ⟨by rw [upd_ne Wt, upd_same], [(.inr st, .ref t)], rfl, (by show 1 ≤ 15; decide), ?_⟩
    have s1 : Same H0 (upd (upd (upd H0 Wd (.dK [])) t (.tup [V.str st])) Wd (.dK (mergeK [] [(.inr st, .ref t)]))) := same_mut (((same_upd nW).trans (same_upd nt))) nW
    have eW : (upd (upd (upd H0 Wd (.dK [])) t (.tup [V.str st])) Wd (.dK (mergeK [] [(.inr st, .ref t)]))) Wd = some (.dK (wkv (toF st t []))) := upd_same
    have et : (upd (upd (upd H0 Wd (.dK [])) t (.tup [V.str st])) Wd (.dK (mergeK [] [(.inr st, .ref t)]))) t = some (.tup [V.str st]) := by rw [upd_ne Wt.symm, upd_same]
    have nWH : H Wd = none := s0.free nW
    generalize upd (upd (upd H0 Wd (.dK [])) t (.tup [V.str st])) Wd (.dK (mergeK [] [(.inr st, .ref t)])) = H1 at s1 eW et ⊢
    have s01 := s0.trans s1
    have eD1 := s1 _ _ eD
    have WD : Wd ≠ D := fun e => by rw [e, eD1] at eW; cases eW
    -- those that are left
    refine ⟨.ref o, rfl, o, rfl, ⟨_, .of (s01 _ _ ho)⟩, fun L nL => ?_⟩
    refine lc_tup (K := K) (a := o) (xs := zs.map V.str) (fun i H' => Same H1 H' ∧ H' L = some (.lst (((zs.take i).filter fun z => decide (z ≠ st)).map V.str))) ⟨same_upd nL, upd_same⟩ (fun _ _ _ h => .of (h.1 _ _ (s01 _ _ ho))) ?_ ?_
    · rintro i x H2 hi ⟨s2, e2⟩
      obtain ⟨z, hz, rfl⟩ := item_map hi
      have ft := filter_take (f := fun z => decide (z ≠ st)) hz
      refine ⟨rfl, .str z, rfl, .str st, rfl, rfl, _, rfl, ?_⟩
      by_cases c : z = st
      · rw [decide_eq_true (congrArg V.str c)]
        rw [if_neg (by rw [decide_eq_false fun h => h c]; exact Bool.false_ne_true), List.append_nil] at ft
        refine iteF ⟨s2, ?_⟩
        rw [ft]
        exact e2
      · rw [decide_eq_false fun h => c (V.str.inj h)]
        rw [if_pos (decide_eq_true c)] at ft
        refine iteT ⟨.str z, rfl, _, e2, ?_, same_mut s2 nL, ?_⟩
        · rw [List.length_map]
          have := List.length_filter_le (fun z => decide (z ≠ st)) (zs.take i)
          rw [List.length_take] at this
          exact small1000 (by omega)
        · rw [upd_same, ft, List.map_append]
          rfl
    rintro H2 ⟨s2, eL⟩
    rw [List.length_map, List.take_length] at eL
    have s02 := s01.trans s2
    have nL0 : H L = none := s01.free nL
    have LD : L ≠ D := fun e => by rw [e, eD1] at nL; cases nL
    have LW : L ≠ Wd := fun e => by rw [e, eW] at nL; cases nL
    have x02 : LamX.ExtN H H2 := LamX.ExtN.of s02
    dsimp only [gName]
    refine seq_nx ?_
    refine while_by (fun σ H' => ∃ (x6 x7 x8 x9 x10 x11 : Option V) (gs : List WF) (ls : List Str), σ = [some (.ref o), some (.ref M), some (.str st), some (.ref D), some (.ref Wd), some (.ref L), x6, x7, x8, x9, x10, x11] ∧ LamX.ExtN H H' ∧ LamX.Tabs T.tabl H' ∧
        H' D = some (.dK (gkv gs)) ∧ H' Wd = some (.dK (wkv (toF st t gs))) ∧ H' t = some (.tup [V.str st]) ∧ H' L = some (.lst (ls.map V.str)) ∧ WOk H' g zs st gs ∧ ls.Nodup ∧ (∀ z ∈ ls, z ∈ zs ∧ z ∉ st :: gs.map (·.z)) ∧ (∀ z ∈ zs, z ∈ ls ∨ z ∈ st :: gs.map (·.z)) ∧ TrW g zs st (gs.map fun e => (e.z, e.way)) ls) (leftW L)
      ⟨none, none, none, none, none, none, [], zs.filter fun z => decide (z ≠ st), rfl, x02, hT.ext s02, s2 _ _ eD1, s2 _ _ eW, s2 _ _ et, eL, ⟨fun _ h => (by cases h), fun _ h => (by cases h), by simp, fun _ h => (by cases h)⟩, nd.sublist List.filter_sublist, fun z hz => ⟨(List.mem_filter.mp hz).1, fun h => of_decide_eq_true (List.mem_filter.mp hz).2 (List.mem_singleton.mp h)⟩, fun z hz => ?_, .nil⟩ ?_ (fun σ H Q Q' imp h => by
        obtain ⟨v, h1, k, h2, h3⟩ := h
        exact ⟨v, h1, k, h2, imp _ _ h3⟩)
    · by_cases c : z = st
      · exact .inr (by rw [c]; exact List.mem_cons_self)
      · exact .inl (List.mem_filter.mpr ⟨hz, decide_eq_true c⟩)
    rintro σ H3 ⟨x6, x7, x8, x9, x10, x11, gs, ls, rfl, x03, t3, eD3, eW3, et3, eL3, ok, lnd, lin, lall, tr⟩
    have nDH3 : H3 D = some (.dK (gkv gs)) := eD3
    have l6rs : (st :: gs.map (·.z)).length ≤ 6 := few l6 ok.nodup fun x hx => (List.mem_cons.mp hx).elim (fun e => e ▸ hs) fun m => by
      obtain ⟨e, he, rfl⟩ := List.mem_map.mp m
      exact ok.sub e he
    have l6ls : ls.length ≤ 6 := few l6 lnd fun z hz => (lin z hz).1
    have lw : (wkv (toF st t gs)).length = (st :: gs.map (·.z)).length := by
      unfold wkv
      rw [List.length_map, ← keys_toF st t gs]
      unfold keysF
      rw [List.length_map]
    refine ⟨.ref L, rfl, !(ls.map V.str).isEmpty, .inl ⟨_, .of eL3, rfl⟩, ?_⟩
    by_cases hl : ls = []
    · subst hl
      refine iteF ?_
      exact ⟨.ref D, rfl, q D gs H3 x03 t3 nD eD3 ok (fun z hz => (lall z hz).elim (fun h => by cases h) id) tr⟩
    rw [show (!(ls.map V.str).isEmpty) = true by cases ls with
      | nil => exact absurd rfl hl
      | cons a b => rfl]
    refine iteT ?_
    refine ⟨Wd, _, eW3, trivial, fun od => ?_⟩
    have eWf : (upd H3 Wd (.frz od (.dK (wkv (toF st t gs))))) Wd = some (.frz od (.dK (wkv (toF st t gs)))) := upd_same
    have back : ∀ {H'}, Same (upd H3 Wd (.frz od (.dK (wkv (toF st t gs))))) H' → Same H3 (upd H' Wd (.dK (wkv (toF st t gs)))) := fun s => lock_same od eW3 s
    have eLf : (upd H3 Wd (.frz od (.dK (wkv (toF st t gs))))) L = some (.lst (ls.map V.str)) := by rw [upd_ne LW]; exact eL3
    generalize hHF : upd H3 Wd (.frz od (.dK (wkv (toF st t gs)))) = HF at eWf back eLf ⊢
    refine ⟨.ref Wd, rfl, Wd, od, rfl, .inl ⟨_, eWf, fun S nS => ?_⟩⟩
    have SW : S ≠ Wd := fun e => by rw [e, eWf] at nS; cases nS
    have lf : ∀ i, (((st :: gs.map (·.z)).take i).flatMap fun x => ls.map fun y => (x, y)).length ≤ i * 6 := fun i => by
      induction i with
      | zero => simp
      | succ i ih =>
        cases e : (st :: gs.map (·.z))[i]? with
        | none =>
          rw [List.take_of_length_le (by have := List.getElem?_eq_none_iff.mp e; omega)]
          rw [List.take_of_length_le (List.getElem?_eq_none_iff.mp e)] at ih
          omega
        | some x =>
          rw [take_more e, List.flatMap_append, List.flatMap_singleton, List.length_append, List.length_map]
          omega
    refine out_it walk_keys (fun i H' => ∃ prs : List (Addr × (Str × Str)), Same HF H' ∧ H' S = some (.lst (prs.map fun q => V.ref q.1)) ∧ PrAt H' prs ∧ prs.map (·.2) = ((st :: gs.map (·.z)).take i).flatMap fun x => ls.map fun y => (x, y))
      ⟨[], same_upd nS, upd_same, fun _ h => (by cases h), rfl⟩ (fun _ _ _ ⟨_, h, _⟩ => h _ _ eWf) ?_ ?_
    · rintro i x H4 H5 hi ⟨prs, s4, e4, p4, m4⟩ ⟨rfl, k, v, hk, rfl⟩
      have il : i < (st :: gs.map (·.z)).length := by rw [lw] at hi; exact hi
      obtain ⟨a, ha⟩ : ∃ a, (st :: gs.map (·.z))[i]? = some a := ⟨_, List.getElem?_eq_getElem il⟩
      have ek : k = .inr a := by
        have h1 : (keysF (toF st t gs))[i]? = some a := by rw [keys_toF]; exact ha
        unfold keysF at h1
        unfold wkv at hk
        rw [List.getElem?_map] at h1 hk
        cases e0 : (toF st t gs)[i]? with
        | none => rw [e0] at h1; cases h1
        | some e1 =>
          rw [e0] at h1 hk
          cases h1
          cases hk
          rfl
      subst ek
      refine ⟨rfl, .ref L, rfl, L, rfl, ⟨_, .of (s4 _ _ eLf)⟩, ?_⟩
      refine in_it (walk_list (K := K) (a := L) (xs := ls.map V.str)) (fun j H' => ∃ prs : List (Addr × (Str × Str)), Same HF H' ∧ H' S = some (.lst (prs.map fun q => V.ref q.1)) ∧ PrAt H' prs ∧ prs.map (·.2) = (((st :: gs.map (·.z)).take i).flatMap fun x => ls.map fun y => (x, y)) ++ (ls.take j).map fun y => (a, y))
        ⟨prs, s4, e4, p4, by rw [m4]; simp⟩ (fun _ _ _ ⟨_, h, _⟩ => .of (h _ _ eLf)) ?_ ?_
      · rintro j y H6 H7 hj ⟨prs, s6, e6, p6, m6⟩ ⟨rfl, hy⟩
        obtain ⟨b, hb, rfl⟩ := item_map hy
        have lp : prs.length ≤ 1000 - 1 := by
          have a1 := congrArg List.length m6
          rw [List.length_map, List.length_append, List.length_map, List.length_take] at a1
          have a2 := lf i
          omega
        refine ⟨rfl, .str a, rfl, .str b, rfl, line_of (show 2 ≤ 1000 by decide), fun u nu => ?_⟩
        have s7 := same_upd (o := HO.tup [V.str a, V.str b]) nu
        have et7 : (upd H7 u (.tup [V.str a, V.str b])) u = some (.tup [V.str a, V.str b]) := upd_same
        have e7 := s7 _ _ e6
        have p7 := (p6.same s7).app (b := [(u, (a, b))]) fun q hq => by rw [List.mem_singleton.mp hq]; exact et7
        generalize upd H7 u (.tup [V.str a, V.str b]) = H8 at s7 et7 e7 p7
        refine ⟨_, e7, small1000 (by rw [List.length_map]; omega), prs ++ [(u, (a, b))], same_mut (s6.trans s7) nS, by rw [upd_same, List.map_append]; rfl, fun q hq => ?_, ?_⟩
        · have := p7 q hq
          rw [upd_ne (fun h => by rw [h, e7] at this; cases this)]
          exact this
        · rw [List.map_append, m6, take_more hb, List.map_append, List.append_assoc]
          rfl
      · rintro H6 ⟨prs, s6, e6, p6, m6⟩
        rw [List.length_map, List.take_length] at m6
        exact ⟨prs, s6, e6, p6, by rw [m6, take_more ha, List.flatMap_append, List.flatMap_singleton]⟩
    rintro H4 ⟨prs, s4, e4, p4, m4⟩
    rw [lw, List.take_length] at m4
    refine ⟨s4 _ _ eWf, ?_⟩
    have s35 : Same H3 (upd H4 Wd (.dK (wkv (toF st t gs)))) := back s4
    have eS : (upd H4 Wd (.dK (wkv (toF st t gs)))) S = some (.lst (prs.map fun q => V.ref q.1)) := by rw [upd_ne SW]; exact e4
    have pr : PrAt (upd H4 Wd (.dK (wkv (toF st t gs)))) prs := fun q hq => by
      have := p4 q hq
      rw [upd_ne fun e => by rw [e, s4 _ _ eWf] at this; cases this]
      exact this
    have nS3 : H3 S = none := by rw [← hHF, upd_ne SW] at nS; exact nS
    generalize upd H4 Wd (.dK (wkv (toF st t gs))) = H5 at s35 eS pr ⊢
    clear s4 e4 p4 eWf back eLf nS
    refine ⟨S, _, eS, trivial, fun od2 => ?_⟩
    refine ⟨.ref S, rfl, ?_⟩
    have insz : ∀ x ∈ st :: gs.map (·.z), x ∈ zs := fun x hx => (List.mem_cons.mp hx).elim (fun e => e ▸ hs) fun m => by
      obtain ⟨e, he, rfl⟩ := List.mem_map.mp m
      exact ok.sub e he
    have sL : ∀ p ∈ prs, p.2.1 ∈ st :: gs.map (·.z) ∧ p.2.2 ∈ ls := fun p hp => by
      have : p.2 ∈ prs.map (·.2) := List.mem_map.mpr ⟨p, hp, rfl⟩
      rw [m4] at this
      obtain ⟨x, hx, hy⟩ := List.mem_flatMap.mp this
      obtain ⟨y, hy, e⟩ := List.mem_map.mp hy
      rw [← e]
      exact ⟨hx, hy⟩
    have allp : ∀ x ∈ st :: gs.map (·.z), ∀ y ∈ ls, ∃ p ∈ prs, p.2 = (x, y) := fun x hx y hy => by
      have : (x, y) ∈ prs.map (·.2) := by rw [m4]; exact List.mem_flatMap.mpr ⟨x, hx, List.mem_map.mpr ⟨y, hy, rfl⟩⟩
      obtain ⟨p, hp, e⟩ := List.mem_map.mp this
      exact ⟨p, hp, e⟩
    have pne : prs ≠ [] := fun e => by
      cases ls with
      | nil => exact hl rfl
      | cons y r =>
        obtain ⟨p, hp, _⟩ := allp st List.mem_cons_self y List.mem_cons_self
        rw [e] at hp
        cases hp
    have gd : ∀ H', H' M = some (.dT (tab2 zs g zs)) → ∀ p ∈ prs, H' p.1 = some (.tup [.str p.2.1, .str p.2.2]) → DGet H' M (.ref p.1) (some (.int (g p.2.1 p.2.2))) := fun H' h p hp e => by
      have := DGet.t (k := [.inr p.2.1, .inr p.2.2]) h e
      rw [tab2_val (insz _ (sL p hp).1) (lin _ (sL p hp).2).1 (fun e => (lin _ (sL p hp).2).2 (by rw [← e]; exact (sL p hp).1))] at this
      exact this
    have hM5 : H5 M = some (.dT (tab2 zs g zs)) := s35 _ _ (x03 _ _ hM (fun _ e => by cases e))
    refine ⟨tabs_upd eS (fun _ e => by cases e) (fun _ e => by cases e) (t3.ext s35), fun H6 x6' t6 => ?_⟩
    have e6S : H6 S = some (.frz od2 (.lst (prs.map fun q => V.ref q.1))) := x6' _ _ upd_same (fun _ e => by cases e)
    have x56 : ∀ b o, b ≠ S → H5 b = some o → (∀ ps, o ≠ .tbl ps) → H6 b = some o := fun b o n e h => x6' b o (by rw [upd_ne n]; exact e) h
    have tS : ∀ a xs, H5 a = some (.tup xs) → a ≠ S := fun a xs h e => by rw [e, eS] at h; cases h
    have pr6 : PrAt H6 prs := fun q hq => x56 _ _ (tS _ _ (pr q hq)) (pr q hq) (fun _ e => by cases e)
    have hM6 : H6 M = some (.dT (tab2 zs g zs)) := x56 M _ (fun e => by rw [e, eS] at hM5; cases hM5) hM5 (fun _ e => by cases e)
    refine ⟨S, od2, prs.map fun q => V.ref q.1, fun i => (prs[i]?).elim 0 fun p => g p.2.1 p.2.2, rfl, e6S, fun e => pne (List.map_eq_nil_iff.mp e), fun i v hv => ?_, fun i v hv hmax hfirst => ?_⟩
    · obtain ⟨p, hp, rfl⟩ := item_map hv
      refine ⟨.ref M, rfl, .ref p.1, rfl, M, _, rfl, gd H6 hM6 p (List.mem_of_getElem? hp) (pr6 p (List.mem_of_getElem? hp)), rfl, ?_⟩
      dsimp only
      rw [hp]
      rfl
    obtain ⟨p, hp, rfl⟩ := item_map hv
    have mp := List.mem_of_getElem? hp
    have fm : FM g ((st :: gs.map (·.z)).flatMap fun x => ls.map fun y => (x, y)) i (p.2.1, p.2.2) := by
      rw [← m4]
      refine ⟨by rw [List.getElem?_map, hp] <;> rfl, fun k q hk => ?_, fun k q lt hk => ?_⟩
      · rw [List.getElem?_map] at hk
        cases e : prs[k]? with
        | none => rw [e] at hk; cases hk
        | some r =>
          rw [e] at hk
          cases hk
          have := hmax k (by rw [List.length_map]; exact (List.getElem?_eq_some_iff.mp e).1)
          dsimp only at this
          rw [e, hp] at this
          exact this
      · rw [List.getElem?_map] at hk
        cases e : prs[k]? with
        | none => rw [e] at hk; cases hk
        | some r =>
          rw [e] at hk
          cases hk
          have := hfirst k lt
          dsimp only at this
          rw [e, hp] at this
          exact this
    have most : ∀ x ∈ st :: gs.map (·.z), ∀ y ∈ zs, y ∉ st :: gs.map (·.z) → g x y ≤ g p.2.1 p.2.2 := fun x hx y hy ny => by
      obtain ⟨r, hr, er⟩ := allp x hx y ((lall y hy).elim id fun h => absurd h ny)
      obtain ⟨j, hj⟩ := List.mem_iff_getElem?.mp hr
      have := hmax j (by rw [List.length_map]; exact (List.getElem?_eq_some_iff.mp hj).1)
      dsimp only at this
      rw [hj, hp] at this
      have h2 : g r.2.1 r.2.2 ≤ g p.2.1 p.2.2 := this
      rw [er] at h2
      exact h2
    obtain ⟨hereIn, thereIn⟩ := sL p mp
    obtain ⟨thZ, thN⟩ := lin _ thereIn
    refine ⟨e6S, ?_⟩
    have x57 : LamX.ExtN H5 (upd H6 S (.lst (prs.map fun q => V.ref q.1))) := fun b o e h => by
      by_cases c : b = S
      · subst c
        rw [upd_same, ← e, eS]
      · rw [upd_ne c]
        exact x56 b o c e h
    have t7 : LamX.Tabs T.tabl (upd H6 S (.lst (prs.map fun q => V.ref q.1))) := tabs_upd e6S (fun _ e => by cases e) (fun _ e => by cases e) t6
    generalize upd H6 S (.lst (prs.map fun q => V.ref q.1)) = H7 at x57 t7 ⊢
    have x37 : LamX.ExtN H3 H7 := (LamX.ExtN.of s35).trans x57
    have k37 : ∀ a xs, H3 a = some (.tup xs) → H7 a = some (.tup xs) := fun a xs h => x37 _ _ h (fun _ e => by cases e)
    have eD7 : H7 D = some (.dK (gkv gs)) := x37 _ _ eD3 (fun _ e => by cases e)
    have eW7 : H7 Wd = some (.dK (wkv (toF st t gs))) := x37 _ _ eW3 (fun _ e => by cases e)
    have eL7 : H7 L = some (.lst (ls.map V.str)) := x37 _ _ eL3 (fun _ e => by cases e)
    have ok7 := ok.keep k37
    have et7 := k37 _ _ et3
    have x07 := x03.trans x37
    have hM7 : H7 M = some (.dT (tab2 zs g zs)) := x57 _ _ hM5 (fun _ e => by cases e)
    have pr7 : H7 p.1 = some (.tup [.str p.2.1, .str p.2.2]) := x57 _ _ (pr p mp) (fun _ e => by cases e)
    clear x57 t6 x6' e6S x56 pr6 hM6 hM5 eS s35 pr hmax hfirst
    generalize p.2.1 = here at *
    generalize p.2.2 = there at *
    have ndF : (keysF (toF st t gs)).Nodup := by rw [keys_toF]; exact ok.nodup
    obtain ⟨wa, way, wv, wt, wc⟩ : ∃ (wa : Addr) (way : List Str), valV (wkv (toF st t gs)) (.inr here) = some (.ref wa) ∧ H7 wa = some (.tup (way.map V.str)) ∧ ((here = st ∧ way = [st]) ∨ ∃ e ∈ gs, e.z = here ∧ e.way = way) := by
      rcases List.mem_cons.mp hereIn with e | m
      · refine ⟨t, [st], ?_, et7, .inl ⟨e, rfl⟩⟩
        rw [e]
        exact wkv_in (e := (st, t, [st])) ndF List.mem_cons_self
      · obtain ⟨e, he, ez⟩ := List.mem_map.mp m
        refine ⟨e.w, e.way, ?_, (ok7.at_ e he).2, .inr ⟨e, he, ez, rfl⟩⟩
        rw [← ez]
        exact wkv_in (e := (e.z, e.w, e.way)) ndF (List.mem_cons_of_mem _ (List.mem_map.mpr ⟨e, he, rfl⟩))
    have wf : WayFT zs st here way ∧ ∀ x ∈ way, x ∈ st :: gs.map (·.z) := by
      rcases wc with ⟨rfl, rfl⟩ | ⟨e, he, rfl, rfl⟩
      · exact ⟨⟨by simp, fun x hx => by rw [List.mem_singleton.mp hx]; exact hs, rfl, rfl⟩, fun x hx => by rw [List.mem_singleton.mp hx]; exact List.mem_cons_self⟩
      · exact ⟨(ok.best e he).way, (ok.best e he).on⟩
    have nway : there ∉ way := fun h => thN (wf.2 _ h)
    have wf2 := way_app wf.1 thZ nway
    have lway : way.length ≤ 6 := few l6 wf.1.1 wf.1.2.1
    have pway : 1 ≤ way.length := by
      cases way with
      | nil => cases wf.1.2.2.1
      | cons a r => rw [List.length_cons]; omega
    refine ⟨p.1, _, rfl, .of pr7, rfl, _, _, rfl, _, _, rfl, rfl, ?_⟩
    have gW7 : DGet H7 Wd (.str here) (some (.ref wa)) := by
      have := DGet.k (k := .inr here) eW7
      rw [wv] at this
      exact this
    refine ⟨.ref Wd, rfl, .str here, rfl, Wd, _, rfl, gW7, .str there, rfl, line_of (show 1 ≤ 1000 by decide), fun u nu => ?_⟩
    have s8 := same_upd (o := HO.tup [V.str there]) nu
    refine catA_of (s8 _ _ wt) upd_same (line_of (by rw [List.length_map]; show _ + 1 ≤ 1000; omega)) fun t9 H9 e9 s9 => ?_
    have s79 := s8.trans s9
    have e9' : H9 t9 = some (.tup ((way ++ [there]).map V.str)) := by rw [e9, List.map_append]; rfl
    have eD9 := s79 _ _ eD7
    have eW9 := s79 _ _ eW7
    have eL9 := s79 _ _ eL7
    have ok9 := ok7.keep fun a xs h => s79 _ _ h
    have hM9 := s79 _ _ hM7
    have et9 := s79 _ _ et7
    have x09 : LamX.ExtN H H9 := x07.trans (.of s79)
    have t9' := t7.ext s79
    have t9W : t9 ≠ Wd := fun e => by rw [e, eW9] at e9; cases e9
    have t9D : t9 ≠ D := fun e => by rw [e, eD9] at e9; cases e9
    have t9L : t9 ≠ L := fun e => by rw [e, eL9] at e9; cases e9
    have ML : M ≠ L := fun e => by rw [e, eL9] at hM9; cases hM9
    have MD : M ≠ D := fun e => by rw [e, eD9] at hM9; cases hM9
    have MW : M ≠ Wd := fun e => by rw [e, eW9] at hM9; cases hM9
    refine ⟨.ref Wd, rfl, .str there, rfl, Wd, _, rfl, DPut.k (k := .inr there) eW9 (small1000 (by rw [lw]; omega)), ?_⟩
    rw [wkv_new (w := way ++ [there]) (by rw [keys_toF]; exact thN)]
    have keep10 : ∀ a xs, H9 a = some (.tup xs) → (upd H9 Wd (.dK (wkv (toF st t gs ++ [(there, t9, way ++ [there])])))) a = some (.tup xs) := fun a xs h => by
      rw [upd_ne fun e => by rw [e, eW9] at h; cases h]
      exact h
    have eW10 : (upd H9 Wd (.dK (wkv (toF st t gs ++ [(there, t9, way ++ [there])])))) Wd = some (.dK (wkv (toF st t gs ++ [(there, t9, way ++ [there])]))) := upd_same
    have eD10 : (upd H9 Wd (.dK (wkv (toF st t gs ++ [(there, t9, way ++ [there])])))) D = some (.dK (gkv gs)) := by rw [upd_ne WD.symm]; exact eD9
    have eL10 : (upd H9 Wd (.dK (wkv (toF st t gs ++ [(there, t9, way ++ [there])])))) L = some (.lst (ls.map V.str)) := by rw [upd_ne LW]; exact eL9
    have hM10 : (upd H9 Wd (.dK (wkv (toF st t gs ++ [(there, t9, way ++ [there])])))) M = some (.dT (tab2 zs g zs)) := by rw [upd_ne MW]; exact hM9
    have x10 : LamX.ExtN H (upd H9 Wd (.dK (wkv (toF st t gs ++ [(there, t9, way ++ [there])])))) := extn_mut x09 nWH
    have t10 : LamX.Tabs T.tabl (upd H9 Wd (.dK (wkv (toF st t gs ++ [(there, t9, way ++ [there])])))) := tabs_upd eW9 (fun _ e => by cases e) (fun _ e => by cases e) t9'
    have ok10 := ok9.keep keep10
    have et10 := keep10 _ _ et9
    have e10 := keep10 _ _ e9'
    generalize upd H9 Wd (.dK (wkv (toF st t gs ++ [(there, t9, way ++ [there])]))) = H10 at eW10 eD10 eL10 hM10 x10 t10 ok10 et10 e10 ⊢
    have ndF2 : (keysF (toF st t gs ++ [(there, t9, way ++ [there])])).Nodup := by
      have : keysF (toF st t gs ++ [(there, t9, way ++ [there])]) = (st :: gs.map (·.z)) ++ [there] := by
        rw [← keys_toF st t gs]
        unfold keysF
        rw [List.map_append]
        rfl
      rw [this]
      exact List.nodup_append.mpr ⟨ok.nodup, by simp, fun x hx y hy e => thN (by rw [← List.mem_singleton.mp hy, ← e]; exact hx)⟩
    have gv : ∀ H', H' Wd = some (.dK (wkv (toF st t gs ++ [(there, t9, way ++ [there])]))) → DGet H' Wd (.str there) (some (.ref t9)) := fun H' h => by
      have := DGet.k (k := .inr there) h
      rw [wkv_in (e := (there, t9, way ++ [there])) ndF2 (List.mem_append_right _ List.mem_cons_self)] at this
      exact this
    refine ⟨.ref M, rfl, .ref Wd, rfl, .str there, rfl, Wd, _, rfl, gv _ eW10, ?_⟩
    refine ⟨M, t9, zs, way ++ [there], g, rfl, hM10, e10, wf2.1, wf2.2.1, by rw [List.length_append]; show 2 ≤ way.length + 1; omega, by rw [List.length_append]; show way.length + 1 ≤ 1000; omega, fun n H11 s11 f11 => ?_⟩
    refine ⟨.ref Wd, rfl, .str there, rfl, Wd, _, rfl, gv _ (s11 _ _ eW10), line_of (show 2 ≤ 1000 by decide), fun qq nq => ?_⟩
    have s12 := same_upd (o := HO.tup [V.int n, V.ref t9]) nq
    have e12 : (upd H11 qq (.tup [V.int n, V.ref t9])) qq = some (.tup [V.int n, V.ref t9]) := upd_same
    generalize upd H11 qq (.tup [V.int n, V.ref t9]) = H12 at s12 e12 ⊢
    have s1012 := s11.trans s12
    have eD12 := s1012 _ _ eD10
    have eL12 := s1012 _ _ eL10
    have lg : (gkv gs).length ≤ 6 := by
      unfold gkv
      rw [List.length_map]
      have := l6rs
      rw [List.length_cons, List.length_map] at this
      omega
    refine ⟨.ref D, rfl, .str there, rfl, D, _, rfl, DPut.k (k := .inr there) eD12 (small1000 (by omega)), ?_⟩
    have thg : there ∉ gs.map (·.z) := fun h => thN (List.mem_cons_of_mem _ h)
    rw [gkv_new (e := ⟨there, qq, t9, n, way ++ [there]⟩) thg]
    have keep13 : ∀ a xs, H12 a = some (.tup xs) → (upd H12 D (.dK (gkv (gs ++ [⟨there, qq, t9, n, way ++ [there]⟩])))) a = some (.tup xs) := fun a xs h => by
      rw [upd_ne fun e => by rw [e, eD12] at h; cases h]
      exact h
    have eL13 : (upd H12 D (.dK (gkv (gs ++ [⟨there, qq, t9, n, way ++ [there]⟩])))) L = some (.lst (ls.map V.str)) := by rw [upd_ne LD]; exact eL12
    have eW13 : (upd H12 D (.dK (gkv (gs ++ [⟨there, qq, t9, n, way ++ [there]⟩])))) Wd = some (.dK (wkv (toF st t gs ++ [(there, t9, way ++ [there])]))) := by rw [upd_ne WD]; exact s1012 _ _ eW10
    have eD13 : (upd H12 D (.dK (gkv (gs ++ [⟨there, qq, t9, n, way ++ [there]⟩])))) D = some (.dK (gkv (gs ++ [⟨there, qq, t9, n, way ++ [there]⟩]))) := upd_same
    have x13 : LamX.ExtN H (upd H12 D (.dK (gkv (gs ++ [⟨there, qq, t9, n, way ++ [there]⟩])))) := extn_mut (x10.trans (.of s1012)) nD
    have t13 : LamX.Tabs T.tabl (upd H12 D (.dK (gkv (gs ++ [⟨there, qq, t9, n, way ++ [there]⟩])))) := tabs_upd eD12 (fun _ e => by cases e) (fun _ e => by cases e) (t10.ext s1012)
    have ok13 := (ok10.keep fun a xs h => s1012 _ _ h).keep keep13
    have et13 := keep13 _ _ (s1012 _ _ et10)
    have e13 := keep13 _ _ (s1012 _ _ e10)
    have eq13 := keep13 _ _ e12
    generalize upd H12 D (.dK (gkv (gs ++ [⟨there, qq, t9, n, way ++ [there]⟩]))) = H13 at eL13 eW13 eD13 x13 t13 ok13 et13 e13 eq13 ⊢
    obtain ⟨j, hj⟩ := List.mem_iff_getElem?.mp thereIn
    have jl := (List.getElem?_eq_some_iff.mp hj).1
    refine ⟨.ref L, rfl, .inl ⟨rfl, _, .of eL13⟩, .str there, rfl, L, ls, there, j, rfl, rfl, eL13, hj, fun m hm e => ?_, ?_⟩
    · have := (List.getElem?_inj (i := m) (j := j) (by omega) lnd).mp (e.trans hj.symm)
      omega
    have ej : ls[j] = there := (List.getElem?_eq_some_iff.mp hj).2
    have pm := pick_perm ls j jl
    have nd2 : (ls[j] :: ls.eraseIdx j).Nodup := pm.nodup_iff.mpr lnd
    have ez : st :: (gs ++ [(⟨there, qq, t9, n, way ++ [there]⟩ : WF)]).map (·.z) = (st :: gs.map (·.z)) ++ [there] := by rw [List.map_append]; rfl
    have fin : WOk H13 g zs st (gs ++ [⟨there, qq, t9, n, way ++ [there]⟩]) := by
      refine ⟨fun e he => ?_, fun e he => ?_, ?_, fun e he => ?_⟩
      · rcases List.mem_append.mp he with he | he
        · exact ok13.at_ e he
        · rw [List.mem_singleton.mp he]
          exact ⟨eq13, e13⟩
      · rw [ez]
        rcases List.mem_append.mp he with he | he
        · exact (ok13.best e he).more fun x hx => List.mem_append_left _ hx
        · rw [List.mem_singleton.mp he]
          exact best_more hs thZ thN ok13.best wc most f11
      · rw [ez]
        exact List.nodup_append.mpr ⟨ok.nodup, by simp, fun x hx y hy e => thN (by rw [← List.mem_singleton.mp hy, ← e]; exact hx)⟩
      · rcases List.mem_append.mp he with he | he
        · exact ok13.sub e he
        · rw [List.mem_singleton.mp he]
          exact thZ
    refine ⟨⟨_, _, _, _, _, _, gs ++ [⟨there, qq, t9, n, way ++ [there]⟩], ls.eraseIdx j, rfl, extn_mut x13 nL0, tabs_upd eL13 (fun _ e => by cases e) (fun _ e => by cases e) t13, ?_, ?_, ?_, upd_same, fin.keep fun a xs h => ?_, lnd.sublist (List.eraseIdx_sublist ..), fun z hz => ?_, fun z hz => ?_, ?_⟩, ?_⟩
    · rw [upd_ne LD.symm]
      exact eD13
    · rw [upd_ne LW.symm, toF_more]
      exact eW13
    · rw [upd_ne fun e => by rw [e, eL13] at et13; cases et13]
      exact et13
    · rw [upd_ne fun e => by rw [e, eL13] at h; cases h]
      exact h
    · have zl : z ∈ ls := pm.mem_iff.mp (List.mem_cons_of_mem _ hz)
      refine ⟨(lin z zl).1, ?_⟩
      rw [ez]
      intro h
      rcases List.mem_append.mp h with h | h
      · exact (lin z zl).2 h
      · rw [List.mem_singleton.mp h, ← ej] at hz
        exact (List.nodup_cons.mp nd2).1 hz
    · rw [ez]
      rcases lall z hz with h | h
      · rcases List.mem_cons.mp (pm.mem_iff.mpr h) with h | h
        · exact .inr (List.mem_append_right _ (by rw [h, ej]; exact List.mem_cons_self))
        · exact .inl h
      · exact .inr (List.mem_append_left _ h)
    · have ek : (gs.map fun e => (e.z, e.way)).map (·.1) = gs.map (·.z) := by rw [List.map_map]; rfl
      rw [List.map_append]
      refine TrW.step tr (by rw [ek]; exact ok.nodup) lnd (by rw [ek]; exact fm) ?_ hj
      rcases wc with c | ⟨e, he, c1, c2⟩
      · exact .inl c
      · exact .inr (List.mem_map.mpr ⟨e, he, by rw [c1, c2]⟩)
    · unfold leftW
      rw [upd_same, eL3]
      show ((ls.eraseIdx j).map V.str).length < (ls.map V.str).length
      rw [List.length_map, List.length_map, List.length_eraseIdx_of_lt jl]
      omega
end
/-! ### the lot by ways -/
open Classical in
noncomputable def strN (g : Str → Str → Int) (zs : List Str) (a b : Str) : Int := if h : ∃ n, IsStrong g zs a b n then h.choose else 0
theorem strN_of {g : Str → Str → Int} {zs : List Str} {a b : Str} {n : Int} (h : IsStrong g zs a b n) : strN g zs a b = n := by
  unfold strN
  rw [dif_pos ⟨n, h⟩]
  exact IsStrong.one (Exists.choose_spec (⟨n, h⟩ : ∃ n, IsStrong g zs a b n)) h
noncomputable def noW (g : Str → Str → Int) (zs : List Str) (x : Str) : Bool := zs.all fun y => decide (y = x) || decide (strN g zs y x ≤ strN g zs x y)
abbrev FW := Str × Addr × List WF
def fkv (fs : List FW) : List (Key × V) := fs.map fun e => (.inr e.1, .ref e.2.1)
structure FAll (H : Hp) (g : Str → Str → Int) (zs : List Str) (fs : List FW) (ns : List Str) : Prop where
  keys : fs.map (·.1) = ns
  at_ : ∀ e ∈ fs, H e.2.1 = some (.dK (gkv e.2.2)) ∧ WOk H g zs e.1 e.2.2 ∧ ∀ z ∈ zs, z ∈ e.1 :: e.2.2.map (·.z)
theorem FAll.ext {H H' : Hp} {g : Str → Str → Int} {zs : List Str} {fs : List FW} {ns : List Str} (k : LamX.ExtN H H') (h : FAll H g zs fs ns) : FAll H' g zs fs ns :=
  ⟨h.keys, fun e he => ⟨k _ _ (h.at_ e he).1 (fun _ z => by cases z), (h.at_ e he).2.1.keep fun a xs e => k _ _ e (fun _ z => by cases z), (h.at_ e he).2.2⟩⟩
theorem fkv_in {fs : List FW} {e : FW} (nd : (fs.map (·.1)).Nodup) (h : e ∈ fs) : valV (fkv fs) (.inr e.1) = some (.ref e.2.1) := by
  refine val_some (List.mem_map.mpr ⟨e, h, rfl⟩) fun kv hk ek => ?_
  obtain ⟨e', he', rfl⟩ := List.mem_map.mp hk
  have : e' = e := by
    haveI : DecidableEq FW := fun a b => Classical.propDecidable _
    refine Classical.byContradiction fun ne => ?_
    have pw := List.pairwise_map.mp nd
    rcases pairwise_two pw he' h ne with z | z
    · exact z (Sum.inr.inj ek)
    · exact z (Sum.inr.inj ek).symm
  rw [this]
theorem fkv_new {fs : List FW} {e : FW} (h : e.1 ∉ fs.map (·.1)) : putK (fkv fs) (.inr e.1) (.ref e.2.1) = fkv (fs ++ [e]) := by
  rw [putK_new _ (val_none fun kv hk ek => by
    obtain ⟨e', he', rfl⟩ := List.mem_map.mp hk
    exact h (List.mem_map.mpr ⟨e', he', Sum.inr.inj ek⟩))]
  unfold fkv
  rw [List.map_append]
  rfl
theorem rd_frz {H : Hp} {a b : Addr} {u v : HO} (od : Obj) (ha : H a = some u) (hb : H b = some v) : Rd (upd H a (.frz od u)) b v := by
  by_cases c : b = a
  · subst c
    rw [ha] at hb
    cases hb
    exact .inr ⟨od, upd_same⟩
  · refine .inl ?_
    rw [upd_ne c]
    exact hb
theorem rd_same {H H' : Hp} {a : Addr} {u : HO} (s : Same H H') (h : Rd H a u) : Rd H' a u := by
  rcases h with h | ⟨od, h⟩
  · exact .inl (s _ _ h)
  · exact .inr ⟨od, s _ _ h⟩
section
variable {P : Program} {w : World} {K : PySem.W.Frag} {mg : Str → Option Value} {base : Heap}
def sp_is_no_weaker : Sp := fun vs H Q _ => ∃ (F : Addr) (zs : List Str) (g : Str → Str → Int) (one : Str) (fs : List FW), vs = [.ref F, .str one] ∧ H F = some (.dK (fkv fs)) ∧ FAll H g zs fs zs ∧ zs.Nodup ∧ zs.length ≤ 6 ∧ one ∈ zs ∧
  ∀ H', Same H H' → Q (.bl (noW g zs one)) H'
theorem ok_is_no_weaker (T : Txt K mg) : FnOk P w K mg base CX0 1 T.f_is_no_weaker T.fd_is_no_weaker ["found", "one"] sp_is_no_weaker := by
  refine T.F_is_no_weaker.ok sc_is_no_weaker (fun vs H Q E h => ?_) (fun cdv A outer s H vs Q E hr h => ?_)
  · obtain ⟨F, zs, g, one, fs, rfl, _⟩ := h
    rfl
  · obtain ⟨F, zs, g, one, fs, rfl, hF, fa, nd, l6, mo, q⟩ := h
    refine ⟨_, (pss_one
 (ps_ret (pe_callB (cr_all rfl) (by rfl) T.z_all (by decide +kernel) (pa_cons (pe_lock (pe_lc (own := [("other", 2), ("there", 3), ("_", 4)]) (tt := tYes) rfl sc_is_no_weaker.nd (pi_items (pe_dget (hu_of hr) (pv 0) (pv 1) (fun _ _ => rfl))) (blkOk_by (own := [("other", 2), ("there", 3), ("_", 4)]) (N := ["found", "one", "other", "there", "_"]) (sc := (defScope s_is_no_weaker)) (by decide +kernel)) (fun s0 H0 C0 cl0 fp0 => (by have h := (pg_tup (n := 2) rfl (pgs_cons (pg_name (i := 2) sc_is_no_weaker.nd rfl (Or.inl rfl)) (pgs_cons (pg_tup (n := 2) rfl (pgs_cons (pg_name (i := 3) sc_is_no_weaker.nd rfl (Or.inl rfl)) (pgs_cons (pg_name (i := 4) sc_is_no_weaker.nd rfl (Or.inl rfl)) pgs_nil))) pgs_nil)) : PG ((cxOf CX0 P w K mg base ["found", "one", "other", "there", "_"] "is_no_weaker" (defScope s_is_no_weaker) T.f_is_no_weaker cdv A outer s H E).nox.blk s0 H0 (lcScope (subE (rootE ((defBody s_is_no_weaker).getD 0 (.Pass ⟨0, 0, 0, 0⟩))) 1)) (compEnvC (lcScope (subE (rootE ((defBody s_is_no_weaker).getD 0 (.Pass ⟨0, 0, 0, 0⟩))) 1)) cl0 C0 (cxOf CX0 P w K mg base ["found", "one", "other", "there", "_"] "is_no_weaker" (defScope s_is_no_weaker) T.f_is_no_weaker cdv A outer s H E).nox.env) fp0) (subE (subE (rootE ((defBody s_is_no_weaker).getD 0 (.Pass ⟨0, 0, 0, 0⟩))) 1) 2) _); dsimp only [Cx.blk, Cx.tr, Cx.suite, Cx.nox, Cx.wish, cxOf] at h; exact h)) (fun _ _ _ _ _ => pts_nil) (fun s0 H0 C0 cl0 fp0 => (by have h := ((pe_cmpR op_ge (pv 3) (pe_ix ix_tup (pe_dget (hu_of hr) (pe_dget (hu_of hr) (pv 0) (pv 2) (fun _ _ => rfl)) (pv 1) (fun _ _ => rfl)) pe_int (fun _ _ => rfl)) (nomark _)) : PE ((cxOf CX0 P w K mg base ["found", "one", "other", "there", "_"] "is_no_weaker" (defScope s_is_no_weaker) T.f_is_no_weaker cdv A outer s H E).nox.blk s0 H0 (lcScope (subE (rootE ((defBody s_is_no_weaker).getD 0 (.Pass ⟨0, 0, 0, 0⟩))) 1)) (compEnvC (lcScope (subE (rootE ((defBody s_is_no_weaker).getD 0 (.Pass ⟨0, 0, 0, 0⟩))) 1)) cl0 C0 (cxOf CX0 P w K mg base ["found", "one", "other", "there", "_"] "is_no_weaker" (defScope s_is_no_weaker) T.f_is_no_weaker cdv A outer s H E).nox.env) fp0) (subE (subE (rootE ((defBody s_is_no_weaker).getD 0 (.Pass ⟨0, 0, 0, 0⟩))) 1) 0) _); dsimp only [Cx.blk, Cx.tr, Cx.suite, Cx.nox, Cx.wish, cxOf] at h; exact h)))) pa_nil)))), ?_⟩
    have ndF : (fs.map (·.1)).Nodup := by rw [fa.keys]; exact nd
    have pick : ∀ z ∈ zs, ∃ e ∈ fs, e.1 = z := fun z hz => by
      rw [← fa.keys] at hz
      obtain ⟨e, he, h⟩ := List.mem_map.mp hz
      exact ⟨e, he, h⟩
    obtain ⟨e1, m1, rfl⟩ := pick one mo
    obtain ⟨hd1, ok1, all1⟩ := fa.at_ e1 m1
    refine ⟨e1.2.1, _, hd1, trivial, fun od => ?_⟩
    have eHF : (upd H e1.2.1 (.frz od (.dK (gkv e1.2.2)))) e1.2.1 = some (.frz od (.dK (gkv e1.2.2))) := upd_same
    have back : ∀ {H'}, Same (upd H e1.2.1 (.frz od (.dK (gkv e1.2.2)))) H' → Same H (upd H' e1.2.1 (.dK (gkv e1.2.2))) := fun s => lock_same od hd1 s
    have rdF := rd_frz od hd1 hF
    have rdA : ∀ e ∈ fs, Rd (upd H e1.2.1 (.frz od (.dK (gkv e1.2.2)))) e.2.1 (.dK (gkv e.2.2)) := fun e he => rd_frz od hd1 (fa.at_ e he).1
    have kT : ∀ a xs, H a = some (.tup xs) → (upd H e1.2.1 (.frz od (.dK (gkv e1.2.2)))) a = some (.tup xs) := fun a xs h => by
      rw [upd_ne fun e => by rw [e, hd1] at h; cases h]
      exact h
    generalize hHF : upd H e1.2.1 (.frz od (.dK (gkv e1.2.2))) = HF at eHF back rdF rdA kT ⊢
    have g1 : DGet HF F (.str e1.1) (some (.ref e1.2.1)) := .inl ⟨_, .inr e1.1, rdF, rfl, (fkv_in ndF m1).symm⟩
    refine ⟨.ref F, rfl, .str e1.1, rfl, F, _, rfl, g1, e1.2.1, od, _, rfl, eHF, fun L nL => ?_⟩
    have LD : L ≠ e1.2.1 := fun e => by rw [e, eHF] at nL; cases nL
    have lg : (gkv e1.2.2).length = e1.2.2.length := by unfold gkv; rw [List.length_map]
    have l6g : e1.2.2.length ≤ 6 := by
      have := few l6 ok1.nodup fun x hx => (List.mem_cons.mp hx).elim (fun e => e ▸ mo) fun m => by
        obtain ⟨e, he, rfl⟩ := List.mem_map.mp m
        exact ok1.sub e he
      rw [List.length_cons, List.length_map] at this
      omega
    refine lc_it walk_items (fun i H' => Same HF H' ∧ H' L = some (.lst (((e1.2.2.take i).map fun e => decide (strN g zs e.z e1.1 ≤ e.n)).map V.bl))) ⟨same_upd nL, upd_same⟩ (fun _ _ _ h => h.1 _ _ eHF) ?_ ?_
    · rintro i x H1 H2 hi ⟨s1, e1'⟩ ⟨Tt, va, vb, rfl, nT, rfl, ea, eb⟩
      rw [lg] at hi
      obtain ⟨e, he⟩ : ∃ e, e1.2.2[i]? = some e := ⟨_, List.getElem?_eq_getElem hi⟩
      have me := List.mem_of_getElem? he
      have hk : (gkv e1.2.2)[i]? = some (.inr e.z, .ref e.q) := by
        unfold gkv
        rw [List.getElem?_map, he]
        rfl
      have ea : some (V.str e.z) = some va := by dsimp only at ea; rw [hk] at ea; exact ea
      have eb : some (V.ref e.q) = some vb := by dsimp only at eb; rw [hk] at eb; exact eb
      cases ea
      cases eb
      have sT := same_upd (o := HO.tup [V.str e.z, V.ref e.q]) nT
      have s2 := s1.trans sT
      have hq : (upd H1 Tt (.tup [V.str e.z, V.ref e.q])) e.q = some (.tup [.int e.n, .ref e.w]) := s2 _ _ (kT _ _ (ok1.at_ e me).1)
      have eT : (upd H1 Tt (.tup [V.str e.z, V.ref e.q])) Tt = some (.tup [V.str e.z, V.ref e.q]) := upd_same
      have e2' := sT _ _ e1'
      generalize upd H1 Tt (.tup [V.str e.z, V.ref e.q]) = H2 at sT s2 hq eT e2' ⊢
      obtain ⟨e2, m2, ez⟩ := pick e.z (ok1.sub e me)
      obtain ⟨hd2, ok2, all2⟩ := fa.at_ e2 m2
      have ne : e1.1 ≠ e.z := fun h => by
        have := (List.nodup_cons.mp ok1.nodup).1
        exact this (List.mem_map.mpr ⟨e, me, h.symm⟩)
      obtain ⟨e3, m3, ez3⟩ : ∃ e3 ∈ e2.2.2, e3.z = e1.1 := by
        rcases List.mem_cons.mp (all2 e1.1 mo) with h | h
        · exact absurd (h.trans ez) ne
        · obtain ⟨e3, m3, h⟩ := List.mem_map.mp h
          exact ⟨e3, m3, h⟩
      have gv1 : DGet H2 F (.str e.z) (some (.ref e2.2.1)) := .inl ⟨_, .inr e.z, rd_same s2 rdF, rfl, by rw [← ez]; exact (fkv_in ndF m2).symm⟩
      have gv2 : DGet H2 e2.2.1 (.str e1.1) (some (.ref e3.q)) := .inl ⟨_, .inr e1.1, rd_same s2 (rdA e2 m2), rfl, by rw [← ez3]; exact (gkv_in (List.nodup_cons.mp ok2.nodup).2 m3).symm⟩
      have hq3 : H2 e3.q = some (.tup [.int e3.n, .ref e3.w]) := s2 _ _ (kT _ _ (ok2.at_ e3 m3).1)
      have st3 : strN g zs e.z e1.1 = e3.n := by
        have := strN_of (ok2.best e3 m3).strong
        rw [ez, ez3] at this
        exact this
      refine ⟨Tt, _, rfl, .of eT, rfl, _, _, rfl, _, _, rfl, e.q, _, rfl, .of hq, rfl, _, _, rfl, _, _, rfl, rfl, rfl, rfl, ?_⟩
      refine ⟨.int e.n, rfl, .ref F, rfl, .str e.z, rfl, F, _, rfl, gv1, .str e1.1, rfl, e2.2.1, _, rfl, gv2, e3.q, _, 0, .int e3.n, rfl, rfl, .of hq3, atI_nat (j := 0) rfl, _, _, rfl, rfl, ?_⟩
      refine ⟨_, e2', small1000 (by rw [List.length_map, List.length_map, List.length_take]; omega), same_mut s2 nL, ?_⟩
      rw [upd_same, take_more he, List.map_append, List.map_append, List.map_cons, List.map_nil, st3]
      rfl
    · rintro H1 ⟨s1, e1'⟩
      rw [lg, List.take_length] at e1'
      refine ⟨s1 _ _ eHF, L, _, rfl, .of (by rw [upd_ne LD]; exact e1'), ?_⟩
      have eqB : ((e1.2.2.map fun e => decide (strN g zs e.z e1.1 ≤ e.n)).all id) = noW g zs e1.1 := by
        rw [Bool.eq_iff_iff, List.all_eq_true]
        unfold noW
        rw [List.all_eq_true]
        constructor
        · intro h y hy
          rcases List.mem_cons.mp (all1 y hy) with c | c
          · rw [decide_eq_true c]
            rfl
          · obtain ⟨e, me, rfl⟩ := List.mem_map.mp c
            have := h _ (List.mem_map.mpr ⟨e, me, rfl⟩)
            rw [strN_of (ok1.best e me).strong, show decide (strN g zs e.z e1.1 ≤ e.n) = true from this, Bool.or_true]
        · intro h b hb
          obtain ⟨e, me, rfl⟩ := List.mem_map.mp hb
          have ne : e.z ≠ e1.1 := fun h => (List.nodup_cons.mp ok1.nodup).1 (List.mem_map.mpr ⟨e, me, h⟩)
          have := h e.z (ok1.sub e me)
          rw [decide_eq_false ne, Bool.false_or, strN_of (ok1.best e me).strong] at this
          exact this
      have := q _ (back s1)
      rw [← eqB] at this
      exact this
end
section
variable {P : Program} {w : World} {K : PySem.W.Frag} {mg : Str → Option Value} {base : Heap}
def Fresh (H : Hp) (L : Addr) : Prop := ∀ b o, H b = some o → (∀ ps, o ≠ HO.tbl ps) → b ≠ L
noncomputable def winW (g : Str → Str → Int) (zs : List Str) : List Str := zs.filter (noW g zs)
def sp_ways_lot (C : Addr) (TL : List (Addr × Str)) : Sp := fun vs H Q _ => ∃ (p o u : Addr) (zs : List Str) (rows : List (Bal × Int)), vs = [.ref p] ∧ PollOk C H p o u zs rows ∧ LamX.Tabs TL H ∧
  ∀ (L : Addr) (H' : Hp), LamX.ExtN H H' → LamX.Tabs TL H' → Fresh H L → H' L = some (.lst ((winW (marg rows) zs).map V.str)) → Q (.ref L) H'
theorem ok_ways_lot (T : Txt K mg) (tb : ∀ t ∈ T.tabs, LamX.TabB base mg t.2.1 t.2.2) : FnOk P w K mg base CX0 7 T.f_ways_lot T.fd_ways_lot ["poll"] (sp_ways_lot T.C_Poll T.tabl) := by
  refine T.F_ways_lot.ok sc_ways_lot (fun vs H Q E h => ?_) (fun cdv A outer s H vs Q E hr h => ?_)
  · obtain ⟨p, o, u, zs, rows, rfl, _⟩ := h
    rfl
  · obtain ⟨p, o, u, zs, rows, rfl, pk, tt, q⟩ := h
    refine ⟨_, (pss_cons
 (ps_set (i := 1) sc_ways_lot.nd rfl (Or.inr rfl) (pe_call (ok_margins T) (hr.mono (by decide)) (by rfl) T.g_margins T.F_margins.kp T.b_margins .nil pass0 (pa_cons (pv 0) pa_nil)))
 (pss_cons
 (ps_set (i := 2) sc_ways_lot.nd rfl (Or.inr rfl) (pe_dc (own := [("one", 3)]) (g := gName 3) (tt := tYes) rfl sc_ways_lot.nd (pi_tup (pe_fld (pv 0) rfl)) (blkOk_by (own := [("one", 3)]) (N := ["poll", "held", "found", "one"]) (sc := (defScope s_ways_lot)) (by decide +kernel)) (fun _ _ _ _ _ => pg_name (i := 3) sc_ways_lot.nd rfl (Or.inl rfl)) (fun _ _ _ _ _ => pts_nil) (fun _ _ _ _ _ => (pv 3)) (fun s0 H0 C0 cl0 fp0 => (by have h := ((pe_call (ok_strongest_ways T tb) (hr.mono (by decide)) (by rfl) T.g_strongest_ways T.F_strongest_ways.kp T.b_strongest_ways .nil pass0 (pa_cons (pe_fld (pv 0) rfl) (pa_cons (pv 1) (pa_cons (pv 3) pa_nil)))) : PE ((cxOf CX0 P w K mg base ["poll", "held", "found", "one"] "ways_lot" (defScope s_ways_lot) T.f_ways_lot cdv A outer s H E).nox.blk s0 H0 (lcScope (rootE ((defBody s_ways_lot).getD 1 (.Pass ⟨0, 0, 0, 0⟩)))) (compEnvC (lcScope (rootE ((defBody s_ways_lot).getD 1 (.Pass ⟨0, 0, 0, 0⟩)))) cl0 C0 (cxOf CX0 P w K mg base ["poll", "held", "found", "one"] "ways_lot" (defScope s_ways_lot) T.f_ways_lot cdv A outer s H E).nox.env) fp0) (subE (rootE ((defBody s_ways_lot).getD 1 (.Pass ⟨0, 0, 0, 0⟩))) 1) _); dsimp only [Cx.blk, Cx.tr, Cx.suite, Cx.nox, Cx.wish, cxOf] at h; exact h))))
 (pss_one
 (ps_ret (pe_lc (own := [("one", 3)]) (g := gName 3) rfl sc_ways_lot.nd (pi_tup (pe_fld (pv 0) rfl)) (blkOk_by (own := [("one", 3)]) (N := ["poll", "held", "found", "one"]) (sc := (defScope s_ways_lot)) (by decide +kernel)) (fun _ _ _ _ _ => pg_name (i := 3) sc_ways_lot.nd rfl (Or.inl rfl)) (fun _ _ _ _ _ => (pts_one (pt_val (pe_call (ok_is_no_weaker T) (hr.mono (by decide)) (by rfl) T.g_is_no_weaker T.F_is_no_weaker.kp T.b_is_no_weaker .nil pass0 (pa_cons (pv 2) (pa_cons (pv 3) pa_nil)))))) (fun _ _ _ _ _ => (pv 3))))))), ?_⟩
    have few6 := pk.ok.few
    have nd := pk.ok.nodup
    obtain ⟨dx, hp⟩ := id pk.poll
    have ho := pk.opts
    refine ⟨.ref p, rfl, p, o, u, zs, rows, rfl, pk, fun M H1 s1 nM eM => ?_⟩
    have tt1 := tt.ext s1
    have hp1 := s1 _ _ hp
    have ho1 := s1 _ _ ho
    refine ⟨.ref p, rfl, p, T.C_Poll, dx, _, .ref o, rfl, hp1, T.cl_Poll, T.n_Poll_options, pollF_options o u, o, rfl, ⟨_, .of ho1⟩, fun D nD => ?_⟩
    have nDH := s1.free nD
    have MD : M ≠ D := fun e => by rw [e, nD] at eM; cases eM
    refine dc_tup (K := K) (a := o) (xs := zs.map V.str) (fun i H' => ∃ fs : List FW, LamX.ExtN H1 H' ∧ LamX.Tabs T.tabl H' ∧ H' D = some (.dK (fkv fs)) ∧ FAll H' (marg rows) zs fs (zs.take i) ∧ ∀ e ∈ fs, e.2.1 ≠ D) ⟨[], LamX.ExtN.of (same_upd nD), tt1.ext (same_upd nD), upd_same, ⟨rfl, fun e he => by cases he⟩, fun e he => by cases he⟩
      (fun _ _ _ ⟨_, h, _⟩ => .of (h _ _ ho1 (fun _ e => by cases e))) ?_ ?_
    · rintro i x H2 hi ⟨fs, x2, t2, eD2, fa, fD⟩
      obtain ⟨z, hz, rfl⟩ := item_map hi
      have mz := List.mem_of_getElem? hz
      have zn : z ∉ zs.take i := fun m => nodup_out nd hz m
      have ho2 := x2 _ _ ho1 (fun _ e => by cases e)
      have hp2 := x2 _ _ hp1 (fun _ e => by cases e)
      refine ⟨rfl, .str z, rfl, .ref p, rfl, p, T.C_Poll, dx, _, .ref o, rfl, hp2, T.cl_Poll, T.n_Poll_options, pollF_options o u, .ref M, rfl, .str z, rfl, o, M, zs, marg rows, z, rfl, ho2, x2 _ _ eM (fun _ e => by cases e), nd, few6, mz, t2, fun D2 gs H3 x3 t3 nD2 eD2' ok2 all2 _ => ?_⟩
      have eD3 := x3 _ _ eD2 (fun _ e => by cases e)
      have D2D : D2 ≠ D := fun e => by rw [e, eD2] at nD2; cases nD2
      have lf : (fkv fs).length ≤ 6 := by
        unfold fkv
        have := congrArg List.length fa.keys
        rw [List.length_map, List.length_take] at this
        rw [List.length_map]
        omega
      refine ⟨_, .inr z, rfl, eD3, small1000 (by omega), fs ++ [(z, D2, gs)], extn_mut (x2.trans x3) nD, tabs_upd eD3 (fun _ e => by cases e) (fun _ e => by cases e) t3, ?_, ⟨?_, fun e he => ?_⟩, fun e he => (List.mem_append.mp he).elim (fD e) fun he => by rw [List.mem_singleton.mp he]; exact D2D⟩
      · rw [upd_same, ← fkv_new (e := (z, D2, gs)) (by rw [fa.keys]; exact zn)]
      · rw [List.map_append, fa.keys, take_more hz]
        rfl
      · have kk : ∀ a o', H3 a = some o' → o' ≠ .dK (fkv fs) → (upd H3 D (.dK (putK (fkv fs) (.inr z) (.ref D2)))) a = some o' := fun a o' h n => by
          rw [upd_ne fun e => by rw [e, eD3] at h; exact n (Option.some.inj h).symm]
          exact h
        have kd : ∀ e' : FW, e'.2.1 ≠ D → H3 e'.2.1 = some (.dK (gkv e'.2.2)) → (upd H3 D (.dK (putK (fkv fs) (.inr z) (.ref D2)))) e'.2.1 = some (.dK (gkv e'.2.2)) := fun e' n h => by rw [upd_ne n]; exact h
        have kt : ∀ a xs, H3 a = some (.tup xs) → (upd H3 D (.dK (putK (fkv fs) (.inr z) (.ref D2)))) a = some (.tup xs) := fun a xs h => kk a _ h (fun e => by cases e)
        rcases List.mem_append.mp he with he | he
        · obtain ⟨h1, h2, h3⟩ := (fa.ext x3).at_ e he
          exact ⟨kd e (fD e he) h1, h2.keep kt, h3⟩
        · rw [List.mem_singleton.mp he]
          exact ⟨kd (z, D2, gs) D2D eD2', ok2.keep kt, all2⟩
    · rintro H2 ⟨fs, x2, t2, eD2, fa, fD⟩
      rw [List.length_map, List.take_length] at fa
      have ho2 := x2 _ _ ho1 (fun _ e => by cases e)
      have hp2 := x2 _ _ hp1 (fun _ e => by cases e)
      refine ⟨.ref p, rfl, p, T.C_Poll, dx, _, .ref o, rfl, hp2, T.cl_Poll, T.n_Poll_options, pollF_options o u, o, rfl, ⟨_, .of ho2⟩, fun L nL => ?_⟩
      refine lc_tup (K := K) (a := o) (xs := zs.map V.str) (fun i H' => Same H2 H' ∧ H' L = some (.lst (((zs.take i).filter (noW (marg rows) zs)).map V.str))) ⟨same_upd nL, upd_same⟩ (fun _ _ _ h => .of (h.1 _ _ ho2)) ?_ ?_
      · rintro i x H3 hi ⟨s3, e3⟩
        obtain ⟨z, hz, rfl⟩ := item_map hi
        have mz := List.mem_of_getElem? hz
        have ft := filter_take (f := noW (marg rows) zs) hz
        refine ⟨rfl, .ref D, rfl, .str z, rfl, D, zs, marg rows, z, fs, rfl, s3 _ _ eD2, fa.ext (.of s3), nd, few6, mz, fun H4 s4 => ?_⟩
        refine ⟨_, rfl, ?_⟩
        by_cases c : noW (marg rows) zs z = true
        · rw [c]
          rw [if_pos c] at ft
          refine iteT ⟨.str z, rfl, _, s4 _ _ e3, ?_, same_mut (s3.trans s4) nL, ?_⟩
          · rw [List.length_map]
            have := List.length_filter_le (noW (marg rows) zs) (zs.take i)
            rw [List.length_take] at this
            exact small1000 (by omega)
          · rw [upd_same, ft, List.map_append]
            rfl
        · rw [Bool.eq_false_iff.mpr c]
          rw [if_neg c, List.append_nil] at ft
          refine iteF ⟨s3.trans s4, ?_⟩
          rw [ft]
          exact s4 _ _ e3
      · rintro H3 ⟨s3, e3⟩
        rw [List.length_map, List.take_length] at e3
        exact q L H3 ((LamX.ExtN.of s1).trans (x2.trans (.of s3))) (t2.ext s3) (fun b o' hb nt e => by rw [e] at hb; rw [x2 _ _ (s1 _ _ hb) nt] at nL; cases nL) e3
theorem ok_by_ways (T : Txt K mg) (tb : ∀ t ∈ T.tabs, LamX.TabB base mg t.2.1 t.2.2) : FnOk P w K mg base CX0 8 T.f_by_ways T.fd_by_ways ["poll"] (sp_ways_lot T.C_Poll T.tabl) := by
  refine T.F_by_ways.ok sc_by_ways (fun vs H Q E h => ?_) (fun cdv A outer s H vs Q E hr h => ?_)
  · obtain ⟨p, o, u, zs, rows, rfl, _⟩ := h
    rfl
  · obtain ⟨p, o, u, zs, rows, rfl, pk, tt, q⟩ := h
    refine ⟨_, (pss_one
 (ps_ret (pe_call (ok_ways_lot T tb) (hr.mono (by decide)) (by rfl) T.g_ways_lot T.F_ways_lot.kp T.b_ways_lot .nil pass0 (pa_cons (pv 0) pa_nil)))), ?_⟩
    exact ⟨.ref p, rfl, p, o, u, zs, rows, rfl, pk, tt, q⟩
def ruleWords : List Str := ["firsts", "lasts", "points", "lets", "wins", "losses", "ways", "best", "top", "uncovered", "rounds"]
def sp_is_rule : Sp := fun vs H Q _ => ∃ (v : V) (wd : Str), vs = [v, .str wd] ∧ wd ∈ ruleWords ∧ Q (.bl true) H
theorem ok_is_rule (T : Txt K mg) : FnOk P w K mg base CX0 1 T.f_is_rule T.fd_is_rule ["options", "thing"] sp_is_rule := by
  refine T.F_is_rule.ok sc_is_rule (fun vs H Q E h => ?_) (fun cdv A outer s H vs Q E hr h => ?_)
  · obtain ⟨v, wd, rfl, _⟩ := h
    rfl
  · obtain ⟨v, wd, rfl, hw, q⟩ := h
    refine ⟨_, (pss_cons
 (ps_if (pt_val (pe_callB call_isi (by rfl) T.z_isinstance (by decide +kernel) (pa_cons (pv 1) (pa_cons (pe_bltn (v := .ty "str") (u := .type "str") rfl T.z_str (by decide +kernel) rfl) pa_nil))))
 (pss_one
 (ps_ret (pe_cmpR op_in_seq (pv 1) (pe_glob (v := .ref T.a_RULES) rfl T.c_RULES rfl) rfl)))
 pss_nil)
 (pss_cons
 ps_never
 (pss_one
 ps_never))), ?_⟩
    obtain ⟨t, ht, _, k2, _⟩ := (show DAt H (.str wd) (.str wd) from rfl).ty (K := K)
    refine ⟨.str wd, rfl, .str wd, _, t, _, true, rfl, .ty _, ht, k2, true, rfl, iteT ?_⟩
    refine ⟨.str wd, rfl, T.a_RULES, ruleWords.map V.str, rfl, .inr (T.sq_RULES _), rfl, flat_strs ruleWords, ?_⟩
    rw [inV_str, decide_eq_true hw]
    exact q
def sp_check_rule : Sp := fun vs H Q _ => ∃ (v : V) (wd : Str), vs = [v, .str wd] ∧ wd ∈ ruleWords ∧ Q .non H
theorem ok_check_rule (T : Txt K mg) : FnOk P w K mg base CX0 2 T.f_check_rule T.fd_check_rule ["options", "rule"] sp_check_rule := by
  refine T.F_check_rule.ok sc_check_rule (fun vs H Q E h => ?_) (fun cdv A outer s H vs Q E hr h => ?_)
  · obtain ⟨v, wd, rfl, _⟩ := h
    rfl
  · obtain ⟨v, wd, rfl, hw, q⟩ := h
    refine ⟨_, (pss_one
 (ps_if (pt_not (pt_val (pe_call (ok_is_rule T) (hr.mono (by decide)) (by rfl) T.g_is_rule T.F_is_rule.kp T.b_is_rule .nil pass0 (pa_cons (pv 0) (pa_cons (pv 1) pa_nil)))))
 (pss_one
 ps_never)
 pss_nil)), ?_⟩
    exact ⟨v, rfl, .str wd, rfl, v, wd, rfl, hw, true, rfl, iteF q⟩
def sp_lot (C : Addr) (TL : List (Addr × Str)) : Sp := fun vs H Q _ => ∃ (p o u : Addr) (zs : List Str) (rows : List (Bal × Int)), vs = [.ref p, .str "ways"] ∧ PollOk C H p o u zs rows ∧ LamX.Tabs TL H ∧
  ∀ (L : Addr) (H' : Hp), LamX.ExtN H H' → LamX.Tabs TL H' → Fresh H L → H' L = some (.lst ((winW (marg rows) zs).map V.str)) → Q (.ref L) H'
theorem ok_lot (T : Txt K mg) (tb : ∀ t ∈ T.tabs, LamX.TabB base mg t.2.1 t.2.2) [WP T w] : FnOk P w K mg base CX0 9 T.f_lot T.fd_lot ["poll", "rule"] (sp_lot T.C_Poll T.tabl) := by
  refine T.F_lot.ok sc_lot (fun vs H Q E h => ?_) (fun cdv A outer s H vs Q E hr h => ?_)
  · obtain ⟨p, o, u, zs, rows, rfl, _⟩ := h
    rfl
  · obtain ⟨p, o, u, zs, rows, rfl, pk, tt, q⟩ := h
    have kl : PySem.W.KeysLit w.params T.es_BY_WORD.toList := by
      rw [← WP.eq (T := T) (w := w)]
      exact T.kd_BY_WORD
    obtain ⟨dx, hp⟩ := id pk.poll
    obtain ⟨t, ht, k1, _⟩ := (show DAt H (.str "ways") (.str "ways") from rfl).ty (K := K)
    have F0 := ok_by_ways (P := P) (w := w) (base := base) T tb
    have kp0 := T.F_by_ways.kp
    have b0 := T.b_by_ways
    refine ⟨_, (pss_cons
 (ps_expr (pe_call (ok_check_rule T) (hr.mono (by decide)) (by rfl) T.g_check_rule T.F_check_rule.kp T.b_check_rule .nil pass0 (pa_cons (pe_fld (pv 0) rfl) (pa_cons (pv 1) pa_nil))))
 (pss_cons
 (ps_if (pt_val (pe_callB call_isi (by rfl) T.z_isinstance (by decide +kernel) (pa_cons (pv 1) (pa_cons (pe_bltn (v := .ty "tuple") (u := .type "tuple") rfl T.z_tuple (by decide +kernel) rfl) pa_nil))))
 (pss_one
 ps_never)
 pss_nil)
 (pss_cons
 (ps_set (i := 2) sc_lot.nd rfl (Or.inl rfl) (pe_ix ix_kdict (pe_glob (v := .ref T.a_BY_WORD) rfl T.c_BY_WORD rfl) (pv 1) (fun _ _ => rfl)))
 (pss_one
 (ps_ret (pe_callL (i := 2) F0 (hr.mono (by decide)) rfl (Or.inl rfl) kp0 b0 .nil pass0 (pa_cons (pv 0) pa_nil))))))), ?_⟩
    refine ⟨.ref p, rfl, p, T.C_Poll, dx, _, .ref o, rfl, hp, T.cl_Poll, T.n_Poll_options, pollF_options o u, _, rfl, _, _, rfl, by decide, ?_⟩
    refine ⟨_, rfl, _, _, t, _, false, rfl, .ty _, ht, k1, false, rfl, iteF ?_⟩
    refine ⟨_, rfl, T.a_BY_WORD, _, .ref T.f_by_ways, rfl, rfl, ⟨_, _, _, T.ld_BY_WORD, kl, T.ed_BY_WORD_ways, rfl⟩, ?_⟩
    exact ⟨rfl, .ref p, rfl, p, o, u, zs, rows, rfl, pk, tt, q⟩
end
theorem stepsW_at {way : List Str} {i : Nat} (h : i + 1 < way.length) : ∃ x y, way[i]? = some x ∧ way[i + 1]? = some y ∧ (stepsW way)[i]? = some (x, y) := by
  have h0 : way[i]? = some way[i] := List.getElem?_eq_getElem (by omega)
  have h1 : way[i + 1]? = some way[i + 1] := List.getElem?_eq_getElem h
  refine ⟨_, _, h0, h1, ?_⟩
  rw [stepsW_zip]
  refine List.getElem?_zip_eq_some.mpr ⟨h0, ?_⟩
  rw [List.getElem?_drop, Nat.add_comm]
  exact h1
theorem force_any (g : Str → Str → Int) {way : List Str} (h : 2 ≤ way.length) : ∃ n, IsForce g way n := by
  have : ∀ l : List (Str × Str), l ≠ [] → ∃ n, (∃ p ∈ l, g p.1 p.2 = n) ∧ ∀ p ∈ l, n ≤ g p.1 p.2 := by
    intro l
    induction l with
    | nil => exact fun h => absurd rfl h
    | cons q r ih =>
      intro _
      by_cases c : r = []
      · subst c
        exact ⟨g q.1 q.2, ⟨q, List.mem_cons_self, rfl⟩, fun p hp => by rw [List.mem_singleton.mp hp]; exact Int.le_refl _⟩
      · obtain ⟨n, ⟨p, hp, e⟩, h2⟩ := ih c
        by_cases d : g q.1 q.2 ≤ n
        · exact ⟨_, ⟨q, List.mem_cons_self, rfl⟩, fun p' hp' => (List.mem_cons.mp hp').elim (fun e => by rw [e]; exact Int.le_refl _) fun m => Int.le_trans d (h2 p' m)⟩
        · exact ⟨n, ⟨p, List.mem_cons_of_mem _ hp, e⟩, fun p' hp' => (List.mem_cons.mp hp').elim (fun e => by rw [e]; omega) fun m => h2 p' m⟩
  exact this (stepsW way) fun e => by
    have := steps_len way
    rw [e] at this
    have : ([] : List (Str × Str)).length = 0 := rfl
    omega
theorem way_two {zs : List Str} {a b : Str} {way : List Str} (h : WayFT zs a b way) (ab : a ≠ b) : 2 ≤ way.length := by
  obtain ⟨_, _, h1, h2⟩ := h
  cases way with
  | nil => cases h1
  | cons x r =>
    cases r with
    | nil =>
      cases h1
      cases h2
      exact absurd rfl ab
    | cons y r => rw [List.length_cons, List.length_cons]; omega
section
variable {P : Program} {w : World} {K : PySem.W.Frag} {mg : Str → Option Value} {base : Heap}
theorem DGet.rd {H : Hp} {a b : Addr} {zs : List Str} {g : Str → Str → Int} {x y : Str} (h : Rd H a (.dT (tab2 zs g zs))) (hx : x ∈ zs) (hy : y ∈ zs) (ne : x ≠ y) (e : H b = some (.tup [.str x, .str y])) : DGet H a (.ref b) (some (.int (g x y))) :=
  .inr ⟨_, [.inr x, .inr y], b, h, rfl, e, by rw [tab2_val hx hy ne]⟩
end
/-! ### strongest ways: existence, cuts, scaling, any order -/
theorem arg_max {α : Type} (f : α → Int) : ∀ {l : List α}, l ≠ [] → ∃ p ∈ l, ∀ q ∈ l, f q ≤ f p
  | [], h => absurd rfl h
  | a :: r, _ => by
    by_cases c : r = []
    · subst c
      exact ⟨a, List.mem_cons_self, fun q hq => by rw [List.mem_singleton.mp hq]; exact Int.le_refl _⟩
    · obtain ⟨p, hp, h⟩ := arg_max f c
      by_cases d : f p ≤ f a
      · exact ⟨a, List.mem_cons_self, fun q hq => (List.mem_cons.mp hq).elim (fun e => by rw [e]; exact Int.le_refl _) fun m => Int.le_trans (h q m) d⟩
      · exact ⟨p, List.mem_cons_of_mem _ hp, fun q hq => (List.mem_cons.mp hq).elim (fun e => by rw [e]; omega) fun m => h q m⟩
/-- all strongest ways from s, with cuts -/
theorem all_best {g : Str → Str → Int} {zs : List Str} {s : Str} (hs : s ∈ zs) : ∀ (k : Nat) (gs : List WF), (∀ e ∈ gs, WBest g zs s (s :: gs.map (·.z)) e) → (zs.filter fun z => decide (z ∉ s :: gs.map (·.z))).length ≤ k →
    ∃ gs' : List WF, (∀ e ∈ gs', WBest g zs s (s :: gs'.map (·.z)) e) ∧ ∀ z ∈ zs, z ∈ s :: gs'.map (·.z)
  | 0, gs, h, hk => ⟨gs, h, fun z hz => by
      by_cases c : z ∈ s :: gs.map (·.z)
      · exact c
      · have : z ∈ zs.filter fun z => decide (z ∉ s :: gs.map (·.z)) := List.mem_filter.mpr ⟨hz, decide_eq_true c⟩
        have := List.length_pos_of_mem this
        omega⟩
  | k + 1, gs, h, hk => by
    by_cases c : (zs.filter fun z => decide (z ∉ s :: gs.map (·.z))) = []
    · exact ⟨gs, h, fun z hz => by
        by_cases d : z ∈ s :: gs.map (·.z)
        · exact d
        · have : z ∈ zs.filter fun z => decide (z ∉ s :: gs.map (·.z)) := List.mem_filter.mpr ⟨hz, decide_eq_true d⟩
          rw [c] at this
          cases this⟩
    · obtain ⟨y0, hy0⟩ := List.exists_mem_of_ne_nil _ c
      obtain ⟨p, hp, most⟩ := arg_max (fun p : Str × Str => g p.1 p.2) (l := (s :: gs.map (·.z)).flatMap fun x => (zs.filter fun z => decide (z ∉ s :: gs.map (·.z))).map fun y => (x, y)) (fun e => by
        have : (s, y0) ∈ (s :: gs.map (·.z)).flatMap fun x => (zs.filter fun z => decide (z ∉ s :: gs.map (·.z))).map fun y => (x, y) := List.mem_flatMap.mpr ⟨s, List.mem_cons_self, List.mem_map.mpr ⟨y0, hy0, rfl⟩⟩
        rw [e] at this
        cases this)
      obtain ⟨x, hx, hp2⟩ := List.mem_flatMap.mp hp
      obtain ⟨y, hy, ep⟩ := List.mem_map.mp hp2
      subst ep
      obtain ⟨yz, yn⟩ := List.mem_filter.mp hy
      have yn := of_decide_eq_true yn
      have most' : ∀ a ∈ s :: gs.map (·.z), ∀ b ∈ zs, b ∉ s :: gs.map (·.z) → g a b ≤ g x y := fun a ha b hb nb => most (a, b) (List.mem_flatMap.mpr ⟨a, ha, List.mem_map.mpr ⟨b, List.mem_filter.mpr ⟨hb, decide_eq_true nb⟩, rfl⟩⟩)
      obtain ⟨way, wc, wl⟩ : ∃ way, ((x = s ∧ way = [s]) ∨ ∃ e ∈ gs, e.z = x ∧ e.way = way) ∧ 1 ≤ way.length := by
        rcases List.mem_cons.mp hx with e | m
        · exact ⟨[s], .inl ⟨e, rfl⟩, Nat.le_refl 1⟩
        · obtain ⟨e, he, ez⟩ := List.mem_map.mp m
          refine ⟨e.way, .inr ⟨e, he, ez, rfl⟩, ?_⟩
          have := (h e he).way.2.2.1
          cases hw : e.way with
          | nil => rw [hw] at this; cases this
          | cons a r => rw [List.length_cons]; omega
      obtain ⟨n, hn⟩ := force_any g (way := way ++ [y]) (by rw [List.length_append]; show 2 ≤ way.length + 1; omega)
      have b := best_more (q := 0) (w := 0) hs yz yn h wc most' hn
      have ez : s :: (gs ++ [(⟨y, 0, 0, n, way ++ [y]⟩ : WF)]).map (·.z) = (s :: gs.map (·.z)) ++ [y] := by rw [List.map_append]; rfl
      refine all_best hs k (gs ++ [⟨y, 0, 0, n, way ++ [y]⟩]) (fun e he => ?_) ?_
      · rw [ez]
        rcases List.mem_append.mp he with he | he
        · exact (h e he).more fun x hx => List.mem_append_left _ hx
        · rw [List.mem_singleton.mp he]
          exact b
      · rw [ez]
        have sub : (zs.filter fun z => decide (z ∉ (s :: gs.map (·.z)) ++ [y])) = (zs.filter fun z => decide (z ∉ s :: gs.map (·.z))).filter fun z => decide (z ≠ y) := by
          rw [List.filter_filter]
          refine List.filter_congr fun z _ => ?_
          rw [Bool.eq_iff_iff, Bool.and_eq_true, decide_eq_true_eq, decide_eq_true_eq, decide_eq_true_eq, List.mem_append, List.mem_singleton]
          constructor
          · exact fun h => ⟨fun e => h (.inr e), fun m => h (.inl m)⟩
          · rintro ⟨h1, h2⟩ (m | m)
            · exact h2 m
            · exact h1 m
        have less : ((zs.filter fun z => decide (z ∉ s :: gs.map (·.z))).filter fun z => decide (z ≠ y)).length < (zs.filter fun z => decide (z ∉ s :: gs.map (·.z))).length := by
          refine Nat.lt_of_le_of_ne (List.length_filter_le ..) fun e => ?_
          have := (List.length_filter_eq_length_iff.mp e) y hy
          exact of_decide_eq_true this rfl
        rw [sub]
        omega
theorem cut_any {g : Str → Str → Int} {zs : List Str} {a b : Str} (ha : a ∈ zs) (hb : b ∈ zs) (ab : a ≠ b) : ∃ n, IsStrong g zs a b n ∧ ∃ R, (∀ x ∈ R, x ∈ zs) ∧ CutOf g zs R a b n := by
  obtain ⟨gs, h1, h2⟩ := all_best (g := g) ha _ [] (fun _ h => by cases h) (Nat.le_refl _)
  rcases List.mem_cons.mp (h2 b hb) with e | m
  · exact absurd e.symm ab
  · obtain ⟨e, he, rfl⟩ := List.mem_map.mp m
    obtain ⟨R, r1, r2⟩ := (h1 e he).cut
    refine ⟨e.n, (h1 e he).strong, R, fun x hx => ?_, r2⟩
    rcases List.mem_cons.mp (r1 x hx) with rfl | m
    · exact ha
    · obtain ⟨e', he', rfl⟩ := List.mem_map.mp m
      exact (h1 e' he').way.2.1 _ (List.mem_of_getLast? (h1 e' he').way.2.2.2)
/-- from a to c: as strong as one of the two parts -/
theorem strN_tri {g : Str → Str → Int} {zs : List Str} {a b c : Str} (ha : a ∈ zs) (hb : b ∈ zs) (hc : c ∈ zs) (ab : a ≠ b) (bc : b ≠ c) (ac : a ≠ c) : strN g zs a b ≤ strN g zs a c ∨ strN g zs b c ≤ strN g zs a c := by
  obtain ⟨n, hn, R, rz, cut⟩ := cut_any (g := g) ha hc ac
  obtain ⟨m, hm, _⟩ := cut_any (g := g) ha hb ab
  obtain ⟨k, hk, _⟩ := cut_any (g := g) hb hc bc
  rw [strN_of hn, strN_of hm, strN_of hk]
  obtain ⟨c1, c2, c3⟩ := cut
  by_cases d : b ∈ R
  · refine .inr ?_
    obtain ⟨way, hw, hf⟩ := hk.1
    exact CutOf.most ⟨d, c2, c3⟩ hw hf
  · refine .inl ?_
    obtain ⟨way, hw, hf⟩ := hm.1
    exact CutOf.most ⟨c1, d, c3⟩ hw hf
/-! ### what stays where tables grow: all but the well and the tables -/
def Kp (p : Addr) (H H' : Hp) : Prop := ∀ a o, a ≠ p → (∀ ps, o ≠ HO.tbl ps) → H a = some o → H' a = some o
theorem Kp.refl {p : Addr} {H : Hp} : Kp p H H := fun _ _ _ _ h => h
theorem Kp.trans {p : Addr} {H H1 H2 : Hp} (a : Kp p H H1) (b : Kp p H1 H2) : Kp p H H2 := fun c o n t h => b c o n t (a c o n t h)
theorem Kp.but {p : Addr} {H H' : Hp} (b : But p H H') : Kp p H H' := fun c o n _ h => b c o n h
theorem Kp.same {p : Addr} {H H' : Hp} (b : Same H H') : Kp p H H' := fun c o _ _ h => b c o h
theorem Kp.ext {p : Addr} {H H' : Hp} (b : LamX.ExtN H H') : Kp p H H' := fun c o _ t h => b c o h t
theorem Kp.tup {p a : Addr} {H H' : Hp} {x xs : List V} (k : Kp p H H') (hp : H p = some (.lst x)) (h : H a = some (.tup xs)) : H' a = some (.tup xs) := k a _ (fun e => by rw [e, hp] at h; cases h) (fun _ e => by cases e) h
theorem Kp.ins {p a C d : Addr} {H H' : Hp} {x : List V} {fs : List (Str × V)} (k : Kp p H H') (hp : H p = some (.lst x)) (h : H a = some (.ins C d fs)) : H' a = some (.ins C d fs) := k a _ (fun e => by rw [e, hp] at h; cases h) (fun _ e => by cases e) h
theorem Kp.dT {p a : Addr} {H H' : Hp} {x : List V} {kvs : List (List Key × V)} (k : Kp p H H') (hp : H p = some (.lst x)) (h : H a = some (.dT kvs)) : H' a = some (.dT kvs) := k a _ (fun e => by rw [e, hp] at h; cases h) (fun _ e => by cases e) h
theorem ext_kp {p : Addr} {H1 H2 H' : Hp} (np : H1 p = none) (s : Same H1 H2) (k : Kp p H2 H') : LamX.ExtN H1 H' := fun b o h t => k b o (ne_of_none h np) t (s _ _ h)
def solid (p : Addr) (H : Hp) : Hp := fun a => if a = p then none else match H a with
  | some (.tbl _) => none
  | o => o
mutual
theorem DAt.lt {H H' : Hp} (k : ∀ a o, (∀ ps, o ≠ HO.tbl ps) → H a = some o → H' a = some o) : ∀ (d : PyData) {v : V}, DAt H d v → DAt H' d v
  | .none, _, h => h
  | .bool _, _, h => h
  | .int _, _, h => h
  | .str _, _, h => h
  | .list ds, _, ⟨p, xs, e, h, g⟩ => ⟨p, xs, e, k _ _ (fun _ z => (by cases z)) h, DAll.lt k ds g⟩
  | .tuple ds, _, ⟨p, xs, e, h, g⟩ => ⟨p, xs, e, k _ _ (fun _ z => (by cases z)) h, DAll.lt k ds g⟩
  | .dict _, _, h => h
theorem DAll.lt {H H' : Hp} (k : ∀ a o, (∀ ps, o ≠ HO.tbl ps) → H a = some o → H' a = some o) : ∀ (ds : List PyData) {xs : List V}, DAll H ds xs → DAll H' ds xs
  | [], _, h => h
  | d :: ds, _, ⟨v, r, e, h, g⟩ => ⟨v, r, e, DAt.lt k d h, DAll.lt k ds g⟩
end
theorem PollOk.kp {C q p o u : Addr} {H H' : Hp} {x : List V} {zs : List Str} {rows : List (Bal × Int)} (k : Kp q H H') (hq : H q = some (.lst x)) (h : PollOk C H p o u zs rows) : PollOk C H' p o u zs rows := by
  obtain ⟨⟨dx, hp⟩, ho, hv, ok, rok⟩ := h
  exact ⟨⟨dx, k.ins hq hp⟩, k.tup hq ho, hv.keep fun _ _ e => k.tup hq e, ok, rok⟩
theorem tabs_but {p : Addr} {H H' : Hp} {x : List V} {T : List (Addr × Str)} (b : But p H H') (hp : H p = some (.lst x)) (h : LamX.Tabs T H) : LamX.Tabs T H' := fun t ht => by
  obtain ⟨ps, h1, h2, h3⟩ := h t ht
  refine ⟨ps, b _ _ (fun e => by rw [e, hp] at h1; cases h1) h1, h2, fun pos cv hc => ?_⟩
  obtain ⟨c, e1, e2⟩ := h3 pos cv hc
  refine ⟨c, e1, b _ _ (fun e => ?_) e2⟩
  rw [e, hp] at e2
  unfold LamX.CodeO at e2
  cases e2
theorem tabs_same {H H' : Hp} {T : List (Addr × Str)} (b : Same H H') (h : LamX.Tabs T H) : LamX.Tabs T H' := h.ext b
/-! ### the same options in another order -/
section
variable {P : Program} {w : World} {K : PySem.W.Frag} {mg : Str → Option Value} {base : Heap}
/-! ### any order of what a list or a tuple holds -/
def sp_shuf_any : Sp := fun vs H Q _ => ∃ (p t : Addr) (zs : List Str) (x : List V) (k : Nat), vs = [.ref p, .ref t] ∧ H p = some (.lst x) ∧ (H t = some (.tup (zs.map V.str)) ∨ H t = some (.lst (zs.map V.str))) ∧ zs.length ≤ 6 ∧ (∀ z ∈ zs, NameOk z) ∧ WellL x k ∧ k ≤ 900000 ∧
  ∀ (u : Addr) (ws : List Str) (y : List V) (H' : Hp), ws.Perm zs → But p H H' → H u = none → H' u = some (.tup (ws.map V.str)) → H' p = some (.lst y) → WellL y (k + 6) → Q (.ref u) H'
theorem ok_shuf_any (T : Txt K mg) : FnOk P w K mg base CX0 2 T.f_law_shuffled T.fd_law_shuffled ["_law_well_here", "_law_some"] sp_shuf_any := by
  refine T.F_law_shuffled.ok sc_law_shuffled (fun vs H Q E h => ?_) (fun cdv A outer s H vs Q E hr h => ?_)
  · obtain ⟨p, t, zs, x, k, rfl, _⟩ := h
    rfl
  · obtain ⟨p, t, zs, x, k, rfl, hp, ht, hn, ok, hx, hk, q⟩ := h
    refine ⟨_, (pss_cons
 (ps_set (i := 2) sc_law_shuffled.nd rfl (Or.inl rfl) (pe_callTy call_list_of (by rfl) T.z_list (by decide +kernel) (pa_cons (pv 1) pa_nil)))
 (pss_cons
 (ps_set (i := 3) sc_law_shuffled.nd rfl (Or.inl rfl) (pe_lst pa_nil))
 (pss_cons
 (ps_while PassesOwn.never (pt_cmpR (op_neD hr.units) (pv 2) (pe_lst pa_nil) (nomark _))
 (pss_one
 (ps_expr (pe_bm PySem.F.plainAttrs_list PySem.F.slot_list_append PySem.F.type_list_append mt_append (pv 3) (pa_cons (pe_bm PySem.F.plainAttrs_list PySem.F.slot_list_pop PySem.F.type_list_pop mt_popAt (pv 2) (pa_cons (pe_call (ok_law_draw T) (hr.mono (by decide)) (by rfl) T.g_law_draw T.F_law_draw.kp T.b_law_draw .nil pass0 (pa_cons (pv 0) (pa_cons (pe_callB call_len_seq (by rfl) T.z_len (by decide +kernel) (pa_cons (pv 2) pa_nil)) pa_nil))) pa_nil)) pa_nil)))))
 (pss_one
 (ps_ret (pe_callTy call_tuple_of (by rfl) T.z_tuple (by decide +kernel) (pa_cons (pv 3) pa_nil))))))), ?_⟩
    refine ⟨.ref t, rfl, t, zs.map V.str, rfl, (ht.elim (fun h => .inr (.of h)) fun h => .inl (.of h)), fun l nl => ?_⟩
    have hpl := ne_of_none hp nl
    refine ⟨line_of (show 0 ≤ 1000 by decide), fun g ng => ?_⟩
    have hlg : l ≠ g := fun e => by rw [← e, upd_same] at ng; cases ng
    have ngH : H g = none := by rw [upd_ne hlg.symm] at ng; exact ng
    have hpg := ne_of_none hp ngH
    refine while_by (fun σ H' => σ = [some (.ref p), some (.ref t), some (.ref l), some (.ref g)] ∧ ∃ (left done : List Str) (y : List V) (i : Nat), H' l = some (.lst (left.map V.str)) ∧ H' g = some (.lst (done.map V.str)) ∧ (done ++ left).Perm zs ∧ done.length = i ∧
        But p H H' ∧ H' p = some (.lst y) ∧ WellL y (k + i)) (leftOf l)
      ⟨rfl, zs, [], x, 0, by rw [upd_ne hlg, upd_same], upd_same, List.Perm.refl _, rfl, ((But.refl p H).mut nl).mut ngH, by rw [upd_ne hpg, upd_ne hpl]; exact hp, hx⟩ ?_
      (fun σ H Q Q' imp h => by
        obtain ⟨x, h1, h2, h3⟩ := h
        refine ⟨x, h1, h2, fun le nle => ?_⟩
        obtain ⟨d, e, a, b, c, f, kk, gg, hh⟩ := h3 le nle
        exact ⟨d, e, a, b, c, f, kk, gg, imp _ _ hh⟩)
    rintro σ H1 ⟨rfl, left, done, y, i, hl, hg, pm, ld, hb, hp1, hw⟩
    have len := pm.length_eq
    rw [List.length_append] at len
    have sok : ∀ z ∈ left, PyData.strOk z = true := fun z hz => small_ok (ok z (pm.mem_iff.mp (List.mem_append_right _ hz))).2.2
    refine ⟨.ref l, rfl, line_of (show 0 ≤ 1000 by decide), fun le nle => ?_⟩
    have lle := ne_of_none hl nle
    have gle := ne_of_none hg nle
    have ple := ne_of_none hp1 nle
    have hl' : (upd H1 le (.lst [])) l = some (.lst (left.map V.str)) := by rw [upd_ne lle]; exact hl
    have hg' : (upd H1 le (.lst [])) g = some (.lst (done.map V.str)) := by rw [upd_ne gle]; exact hg
    have hp' : (upd H1 le (.lst [])) p = some (.lst y) := by rw [upd_ne ple]; exact hp1
    have hb' := hb.mut (o := HO.lst []) (hb.free hp1 nle)
    refine ⟨.list (left.map PyData.str), .list [], .lst (.of hl') (dp_strs left), .lst (.of upd_same) .nil, shaped_strs sok, rfl, ?_⟩
    have eL : leftOf l [some (.ref p), some (.ref t), some (.ref l), some (.ref g)] H1 = left.length := by
      unfold leftOf
      rw [hl]
      exact List.length_map _
    generalize upd H1 le (.lst []) = H2 at hl' hg' hp' hb'
    by_cases h0 : left = []
    · subst h0
      refine ⟨_, rfl, iteF ?_⟩
      rw [List.append_nil] at pm
      refine ⟨.ref g, rfl, g, _, rfl, .inl ⟨.of hg', fun u nu => ?_⟩⟩
      refine q u done y _ pm (hb'.mut (hb'.free hp' nu)) (hb'.free hp' nu) upd_same (by rw [upd_ne (ne_of_none hp' nu)]; exact hp') (hw.mono ?_)
      have : ([] : List Str).length = 0 := rfl
      omega
    · have hc : (!PyData.eqv (.list (left.map PyData.str)) (.list [])) = true := by
        cases left with
        | nil => exact absurd rfl h0
        | cons a r => rfl
      rw [hc]
      have hpos := List.length_pos_iff.mpr h0
      refine ⟨_, rfl, iteT ?_⟩
      refine ⟨.ref g, rfl, .inl ⟨rfl, _, .of hg'⟩, .ref l, rfl, .inl ⟨rfl, _, .of hl'⟩, .ref p, rfl, .ref l, rfl, l, _, rfl, .inl (.of hl'), p, _, y, _, rfl, hp', hw, by omega, by rw [List.length_map]; omega, size_ok (by rw [List.length_map]; omega) (by rw [List.length_map]; omega), fun d y2 d0 d1 hw2 => ?_⟩
      rw [List.length_map] at d1
      have hd : d.toNat < left.length := by omega
      refine ⟨l, _, d, d.toNat, .str left[d.toNat], rfl, rfl, by rw [upd_ne hpl.symm]; exact hl', by omega, by omega, by rw [List.length_map]; exact seqIndex_of d0 d1, by rw [List.getElem?_map, List.getElem?_eq_getElem hd]; rfl, ?_⟩
      have hg2 : (upd (upd H2 p (.lst y2)) l (.lst ((left.map V.str).eraseIdx d.toNat))) g = some (.lst (done.map V.str)) := by rw [upd_ne hlg.symm, upd_ne hpg.symm]; exact hg'
      refine ⟨g, _, _, rfl, rfl, hg2, small1000 (by rw [List.length_map]; omega), ⟨rfl, left.eraseIdx d.toNat, done ++ [left[d.toNat]], y2, i + 1, ?_, ?_, ?_, by rw [List.length_append, ld]; rfl, ((hb'.upd _).mut nl).mut ngH, by rw [upd_ne hpg, upd_ne hpl, upd_same], hw2⟩, ?_⟩
      · rw [upd_ne hlg, upd_same, erase_map]
      · rw [upd_same, List.map_append]
        rfl
      · rw [List.append_assoc]
        exact ((pick_perm left d.toNat hd).append_left done).trans pm
      · rw [eL]
        unfold leftOf
        rw [upd_ne hlg, upd_same]
        show ((left.map V.str).eraseIdx d.toNat).length < left.length
        rw [erase_map, List.length_map, List.length_eraseIdx]
        split <;> omega
end
section
variable {P : Program} {w : World} {K : PySem.W.Frag} {mg : Str → Option Value} {base : Heap}
/-! ### any order of pairs of texts that a list holds -/
abbrev Pr2 := Addr × (Str × Str)
def PrsAt (H : Hp) (zs : List Str) (qs : List Pr2) : Prop := ∀ q ∈ qs, H q.1 = some (.tup [.str q.2.1, .str q.2.2]) ∧ q.2.1 ∈ zs ∧ q.2.2 ∈ zs
theorem PrsAt.keep {H H' : Hp} {zs : List Str} {qs : List Pr2} (k : ∀ a xs, H a = some (.tup xs) → H' a = some (.tup xs)) (h : PrsAt H zs qs) : PrsAt H' zs qs := fun q hq => ⟨k _ _ (h q hq).1, (h q hq).2⟩
def prD (q : Pr2) : PyData := .tuple [.str q.2.1, .str q.2.2]
theorem shaped_prs {zs : List Str} (okz : ∀ z ∈ zs, NameOk z) {H : Hp} {qs : List Pr2} (h : PrsAt H zs qs) (l : qs.length ≤ 36) : SeqAt.shaped (.list (qs.map prD)) = true := by
  have one : ∀ d ∈ qs.map prD, Own.Ok 1 40 d := fun d hd => by
    obtain ⟨q, hq, rfl⟩ := List.mem_map.mp hd
    obtain ⟨_, h1, h2⟩ := h q hq
    exact (OkA.tuple (n := 0) (OkA.cons (m := 8) (ok_small (okz _ h1)) (OkA.cons (m := 8) (ok_small (okz _ h2)) (OkA.nil (m := 0))))).mono (by decide) (by decide)
  exact (OkA.list (OkA.of one)).shaped (by decide)
theorem PrsAt.data {H : Hp} {zs : List Str} {qs : List Pr2} (h : PrsAt H zs qs) : DAll H (qs.map prD) (qs.map fun q => V.ref q.1) := DAll.of_map fun q hq => ⟨q.1, _, rfl, (h q hq).1, DAll.strs [q.2.1, q.2.2]⟩
theorem pick_permG {α : Type} : ∀ (l : List α) (i : Nat) (h : i < l.length), ([l[i]] ++ l.eraseIdx i).Perm l
  | a :: l, 0, _ => List.Perm.refl _
  | a :: l, i + 1, h => by
    have hi : i < l.length := Nat.lt_of_succ_lt_succ h
    have ih := pick_permG l i hi
    show (l[i]'hi :: a :: l.eraseIdx i).Perm (a :: l)
    exact (List.Perm.swap a (l[i]'hi) _).trans (ih.cons a)
def sp_shuf_pairs : Sp := fun vs H Q _ => ∃ (p t : Addr) (zs : List Str) (qs : List Pr2) (x : List V) (k : Nat), vs = [.ref p, .ref t] ∧ H p = some (.lst x) ∧ H t = some (.lst (qs.map fun q => V.ref q.1)) ∧ qs.length ≤ 36 ∧ PrsAt H zs qs ∧ (∀ z ∈ zs, NameOk z) ∧ WellL x k ∧ k ≤ 900000 ∧
  ∀ (u : Addr) (ws : List Pr2) (y : List V) (H' : Hp), ws.Perm qs → But p H H' → H u = none → H' u = some (.tup (ws.map fun q => V.ref q.1)) → H' p = some (.lst y) → WellL y (k + 36) → Q (.ref u) H'
theorem ok_shuf_pairs (T : Txt K mg) : FnOk P w K mg base CX0 2 T.f_law_shuffled T.fd_law_shuffled ["_law_well_here", "_law_some"] sp_shuf_pairs := by
  refine T.F_law_shuffled.ok sc_law_shuffled (fun vs H Q E h => ?_) (fun cdv A outer s H vs Q E hr h => ?_)
  · obtain ⟨p, t, zs, qs, x, k, rfl, _⟩ := h
    rfl
  · obtain ⟨p, t, zs, qs, x, k, rfl, hp, ht, hn, prs, ok, hx, hk, q⟩ := h
    refine ⟨_, (pss_cons
 (ps_set (i := 2) sc_law_shuffled.nd rfl (Or.inl rfl) (pe_callTy call_list_of (by rfl) T.z_list (by decide +kernel) (pa_cons (pv 1) pa_nil)))
 (pss_cons
 (ps_set (i := 3) sc_law_shuffled.nd rfl (Or.inl rfl) (pe_lst pa_nil))
 (pss_cons
 (ps_while PassesOwn.never (pt_cmpR (op_neD hr.units) (pv 2) (pe_lst pa_nil) (nomark _))
 (pss_one
 (ps_expr (pe_bm PySem.F.plainAttrs_list PySem.F.slot_list_append PySem.F.type_list_append mt_append (pv 3) (pa_cons (pe_bm PySem.F.plainAttrs_list PySem.F.slot_list_pop PySem.F.type_list_pop mt_popAt (pv 2) (pa_cons (pe_call (ok_law_draw T) (hr.mono (by decide)) (by rfl) T.g_law_draw T.F_law_draw.kp T.b_law_draw .nil pass0 (pa_cons (pv 0) (pa_cons (pe_callB call_len_seq (by rfl) T.z_len (by decide +kernel) (pa_cons (pv 2) pa_nil)) pa_nil))) pa_nil)) pa_nil)))))
 (pss_one
 (ps_ret (pe_callTy call_tuple_of (by rfl) T.z_tuple (by decide +kernel) (pa_cons (pv 3) pa_nil))))))), ?_⟩
    refine ⟨.ref t, rfl, t, _, rfl, .inl (.of ht), fun l nl => ?_⟩
    have hpl := ne_of_none hp nl
    refine ⟨line_of (show 0 ≤ 1000 by decide), fun g ng => ?_⟩
    have hlg : l ≠ g := fun e => by rw [← e, upd_same] at ng; cases ng
    have ngH : H g = none := by rw [upd_ne hlg.symm] at ng; exact ng
    have hpg := ne_of_none hp ngH
    refine while_by (fun σ H' => σ = [some (.ref p), some (.ref t), some (.ref l), some (.ref g)] ∧ ∃ (left done : List Pr2) (y : List V) (i : Nat), H' l = some (.lst (left.map fun q => V.ref q.1)) ∧ H' g = some (.lst (done.map fun q => V.ref q.1)) ∧ (done ++ left).Perm qs ∧ done.length = i ∧
        But p H H' ∧ H' p = some (.lst y) ∧ WellL y (k + i)) (leftOf l)
      ⟨rfl, qs, [], x, 0, by rw [upd_ne hlg, upd_same], upd_same, List.Perm.refl _, rfl, ((But.refl p H).mut nl).mut ngH, by rw [upd_ne hpg, upd_ne hpl]; exact hp, hx⟩ ?_
      (fun σ H Q Q' imp h => by
        obtain ⟨x, h1, h2, h3⟩ := h
        refine ⟨x, h1, h2, fun le nle => ?_⟩
        obtain ⟨d, e, a, b, c, f, kk, gg, hh⟩ := h3 le nle
        exact ⟨d, e, a, b, c, f, kk, gg, imp _ _ hh⟩)
    rintro σ H1 ⟨rfl, left, done, y, i, hl, hg, pm, ld, hb, hp1, hw⟩
    have len := pm.length_eq
    rw [List.length_append] at len
    have prsL : PrsAt H1 zs left := fun q hq => by
      obtain ⟨h1, h2⟩ := prs q (pm.mem_iff.mp (List.mem_append_right _ hq))
      exact ⟨hb _ _ (fun e => by rw [e, hp] at h1; cases h1) h1, h2⟩
    have l30 : left.length ≤ 36 := by omega
    refine ⟨.ref l, rfl, line_of (show 0 ≤ 1000 by decide), fun le nle => ?_⟩
    have lle := ne_of_none hl nle
    have gle := ne_of_none hg nle
    have ple := ne_of_none hp1 nle
    have hl' : (upd H1 le (.lst [])) l = some (.lst (left.map fun q => V.ref q.1)) := by rw [upd_ne lle]; exact hl
    have hg' : (upd H1 le (.lst [])) g = some (.lst (done.map fun q => V.ref q.1)) := by rw [upd_ne gle]; exact hg
    have hp' : (upd H1 le (.lst [])) p = some (.lst y) := by rw [upd_ne ple]; exact hp1
    have hb' := hb.mut (o := HO.lst []) (hb.free hp1 nle)
    have prs2 : PrsAt (upd H1 le (.lst [])) zs left := prsL.keep fun a xs h => by rw [upd_ne (ne_of_none h nle)]; exact h
    refine ⟨.list (left.map prD), .list [], DAt.dp _ ⟨l, _, rfl, hl', prs2.data⟩, .lst (.of upd_same) .nil, shaped_prs ok prsL l30, rfl, ?_⟩
    have eL : leftOf l [some (.ref p), some (.ref t), some (.ref l), some (.ref g)] H1 = left.length := by
      unfold leftOf
      rw [hl]
      exact List.length_map _
    generalize upd H1 le (.lst []) = H2 at hl' hg' hp' hb'
    by_cases h0 : left = []
    · subst h0
      refine ⟨_, rfl, iteF ?_⟩
      rw [List.append_nil] at pm
      refine ⟨.ref g, rfl, g, _, rfl, .inl ⟨.of hg', fun u nu => ?_⟩⟩
      refine q u done y _ pm (hb'.mut (hb'.free hp' nu)) (hb'.free hp' nu) upd_same (by rw [upd_ne (ne_of_none hp' nu)]; exact hp') (hw.mono ?_)
      have : ([] : List Pr2).length = 0 := rfl
      omega
    · have hc : (!PyData.eqv (.list (left.map prD)) (.list [])) = true := by
        cases left with
        | nil => exact absurd rfl h0
        | cons a r => rfl
      rw [hc]
      have hpos := List.length_pos_iff.mpr h0
      refine ⟨_, rfl, iteT ?_⟩
      refine ⟨.ref g, rfl, .inl ⟨rfl, _, .of hg'⟩, .ref l, rfl, .inl ⟨rfl, _, .of hl'⟩, .ref p, rfl, .ref l, rfl, l, _, rfl, .inl (.of hl'), p, _, y, _, rfl, hp', hw, by omega, by rw [List.length_map]; omega, size_ok (by rw [List.length_map]; omega) (by rw [List.length_map]; omega), fun d y2 d0 d1 hw2 => ?_⟩
      rw [List.length_map] at d1
      have hd : d.toNat < left.length := by omega
      refine ⟨l, _, d, d.toNat, V.ref left[d.toNat].1, rfl, rfl, by rw [upd_ne hpl.symm]; exact hl', by omega, by omega, by rw [List.length_map]; exact seqIndex_of d0 d1, by rw [List.getElem?_map, List.getElem?_eq_getElem hd]; rfl, ?_⟩
      have hg2 : (upd (upd H2 p (.lst y2)) l (.lst ((left.map fun q => V.ref q.1).eraseIdx d.toNat))) g = some (.lst (done.map fun q => V.ref q.1)) := by rw [upd_ne hlg.symm, upd_ne hpg.symm]; exact hg'
      refine ⟨g, _, _, rfl, rfl, hg2, small1000 (by rw [List.length_map]; omega), ⟨rfl, left.eraseIdx d.toNat, done ++ [left[d.toNat]], y2, i + 1, ?_, ?_, ?_, by rw [List.length_append, ld]; rfl, ((hb'.upd _).mut nl).mut ngH, by rw [upd_ne hpg, upd_ne hpl, upd_same], hw2⟩, ?_⟩
      · rw [upd_ne hlg, upd_same, erase_map]
      · rw [upd_same, List.map_append]
        rfl
      · rw [List.append_assoc]
        exact ((pick_permG left d.toNat hd).append_left done).trans pm
      · rw [eL]
        unfold leftOf
        rw [upd_ne hlg, upd_same]
        show ((left.map fun q => V.ref q.1).eraseIdx d.toNat).length < left.length
        rw [erase_map, List.length_map, List.length_eraseIdx]
        split <;> omega
end
/-! ### how strong -/
section
variable {P : Program} {w : World} {K : PySem.W.Frag} {mg : Str → Option Value} {base : Heap}
def sp_strength (C CN : Addr) (TL : List (Addr × Str)) : Sp := fun vs H Q E => ∃ (p o u : Addr) (zs : List Str) (rows : List (Bal × Int)) (v1 v2 : V) (d1 d2 : PyData), vs = [.ref p, v1, v2] ∧ PollOk C H p o u zs rows ∧ DAt H d1 v1 ∧ DAt H d2 v2 ∧
  (optD zs d1 = false → NoOpt CN v1 H E) ∧ (optD zs d1 = true → optD zs d2 = false → NoOpt CN v2 H E) ∧ (∀ y z : Str, d1 = .str y → d2 = .str z → y ∈ zs → z ∈ zs → y ≠ z ∧ LamX.Tabs TL H ∧ ∀ H', LamX.ExtN H H' → LamX.Tabs TL H' → Q (.int (strN (marg rows) zs y z)) H')
theorem ok_strength (T : Txt K mg) (tb : ∀ t ∈ T.tabs, LamX.TabB base mg t.2.1 t.2.2) : FnOk P w K mg base (L2.CX P w) 7 T.f_strength T.fd_strength ["poll", "one", "other"] (sp_strength T.C_Poll T.C_NoOption T.tabl) := by
  refine T.F_strength.okX sc_strength (fun vs H Q E h => ?_) (fun cdv A outer s H vs Q E hr h => ?_)
  · obtain ⟨p, o, u, zs, rows, v1, v2, d1, d2, rfl, _⟩ := h
    rfl
  · obtain ⟨p, o, u, zs, rows, v1, v2, d1, d2, rfl, pk, hd1, hd2, b1, b2, q⟩ := h
    refine ⟨_, (pss_cons
 (ps_expr (pf_pos (ok_check_option T) (hr.mono (by decide)) (by rfl) T.g_check_option T.F_check_option.kp T.kb_check_option_2 (fun σ => atE (takes_of rfl rfl rfl rfl) σ) (pa_cons (pe_fld (pv 0) rfl) (pa_cons (pv 1) pa_nil))))
 (pss_cons
 (ps_expr (pf_pos (ok_check_option T) (hr.mono (by decide)) (by rfl) T.g_check_option T.F_check_option.kp T.kb_check_option_2 (fun σ => atE (takes_of rfl rfl rfl rfl) σ) (pa_cons (pe_fld (pv 0) rfl) (pa_cons (pv 2) pa_nil))))
 (pss_cons
 (ps_asg (pe_dget (hu_of hr) (pe_call (ok_strongest_ways T tb) (hr.mono (by decide)) (by rfl) T.g_strongest_ways T.F_strongest_ways.kp T.b_strongest_ways .nil pass0 (pa_cons (pe_fld (pv 0) rfl) (pa_cons (pe_call (ok_margins T) (hr.mono (by decide)) (by rfl) T.g_margins T.F_margins.kp T.b_margins .nil pass0 (pa_cons (pv 0) pa_nil)) (pa_cons (pv 1) pa_nil)))) (pv 2) (fun _ _ => rfl)) (pg_tup rfl (pgs_cons (pg_name (i := 3) sc_strength.nd rfl (Or.inl rfl)) (pgs_cons (pg_name (i := 4) sc_strength.nd rfl (Or.inl rfl)) pgs_nil))))
 (pss_one
 (ps_ret (pv 3)))))), ?_⟩
    have few6 := pk.ok.few
    have nd := pk.ok.nodup
    obtain ⟨dx, hp⟩ := id pk.poll
    have ho := pk.opts
    refine ⟨.ref p, rfl, p, T.C_Poll, dx, _, .ref o, rfl, hp, T.cl_Poll, T.n_Poll_options, pollF_options o u, v1, rfl, rfl, rfl, o, zs, v1, d1, rfl, ho, hd1, fun e1 => ?_, b1⟩
    refine ⟨.ref p, rfl, p, T.C_Poll, dx, _, .ref o, rfl, hp, T.cl_Poll, T.n_Poll_options, pollF_options o u, v2, rfl, rfl, rfl, o, zs, v2, d2, rfl, ho, hd2, fun e2 => ?_, b2 e1⟩
    obtain ⟨y, rfl, rfl, my⟩ := opt_str e1 hd1
    obtain ⟨z, rfl, rfl, mz⟩ := opt_str e2 hd2
    obtain ⟨yz, tt, q⟩ := q y z rfl rfl my mz
    refine ⟨.ref p, rfl, p, T.C_Poll, dx, _, .ref o, rfl, hp, T.cl_Poll, T.n_Poll_options, pollF_options o u, .ref p, rfl, p, o, u, zs, rows, rfl, pk, fun M H1 s1 nM eM => ?_⟩
    have tt1 := tt.ext s1
    refine ⟨.str y, rfl, o, M, zs, marg rows, y, rfl, s1 _ _ ho, eM, nd, few6, my, tt1, fun D gs H2 x2 t2 nD eD ok all _ => ?_⟩
    obtain ⟨e, he, rfl⟩ : ∃ e ∈ gs, e.z = z := by
      rcases List.mem_cons.mp (all z mz) with h | h
      · exact absurd h.symm yz
      · obtain ⟨e, he, h⟩ := List.mem_map.mp h
        exact ⟨e, he, h⟩
    obtain ⟨h1, h2⟩ := ok.at_ e he
    have st := strN_of (ok.best e he).strong
    have ndz : (gs.map (·.z)).Nodup := (List.nodup_cons.mp ok.nodup).2
    have gd : DGet H2 D (.str e.z) (some (.ref e.q)) := by
      have := DGet.k (k := .inr e.z) eD
      rw [gkv_in ndz he] at this
      exact this
    rw [← st] at h1
    refine ⟨.str e.z, rfl, D, _, rfl, gd, e.q, _, rfl, .of h1, rfl, _, _, rfl, _, _, rfl, rfl, ?_⟩
    exact ⟨_, rfl, q H2 ((LamX.ExtN.of s1).trans x2) t2⟩
end
/-! ### the paper of strength -/
noncomputable def outR (g : Str → Str → Int) (zs : List Str) (y z : Str) (x : Str) : Bool := decide (x = y) || decide (strN g zs y z < strN g zs y x)
def PapIs (g : Str → Str → Int) (zs : List Str) (y z : Str) (way R : List Str) : Prop := (∃ fs : List (Str × List Str), TrW g zs y fs [] ∧ (fs.map (·.1)).Nodup ∧ (z, way) ∈ fs) ∧ R = zs.filter (outR g zs y z)
section
variable {P : Program} {w : World} {K : PySem.W.Frag} {mg : Str → Option Value} {base : Heap}
def sp_strength_paper (C CN : Addr) (TL : List (Addr × Str)) : Sp := fun vs H Q E => ∃ (p o u : Addr) (zs : List Str) (rows : List (Bal × Int)) (v1 v2 : V) (d1 d2 : PyData), vs = [.ref p, v1, v2] ∧ PollOk C H p o u zs rows ∧ DAt H d1 v1 ∧ DAt H d2 v2 ∧
  (optD zs d1 = false → NoOpt CN v1 H E) ∧ (optD zs d1 = true → optD zs d2 = false → NoOpt CN v2 H E) ∧ (∀ y z : Str, d1 = .str y → d2 = .str z → y ∈ zs → z ∈ zs → y ≠ z ∧ LamX.Tabs TL H ∧
    ∀ (pa wa la : Addr) (way R : List Str) (H' : Hp), LamX.ExtN H H' → LamX.Tabs TL H' → PapIs (marg rows) zs y z way R → WayFT zs y z way → IsForce (marg rows) way (strN (marg rows) zs y z) → Fresh H la → H' pa = some (.tup [.ref wa, .ref la]) → H' wa = some (.tup (way.map V.str)) → H' la = some (.lst (R.map V.str)) → Q (.ref pa) H')
theorem ok_strength_paper (T : Txt K mg) (tb : ∀ t ∈ T.tabs, LamX.TabB base mg t.2.1 t.2.2) : FnOk P w K mg base (L2.CX P w) 7 T.f_strength_paper T.fd_strength_paper ["poll", "one", "other"] (sp_strength_paper T.C_Poll T.C_NoOption T.tabl) := by
  refine T.F_strength_paper.okX sc_strength_paper (fun vs H Q E h => ?_) (fun cdv A outer s H vs Q E hr h => ?_)
  · obtain ⟨p, o, u, zs, rows, v1, v2, d1, d2, rfl, _⟩ := h
    rfl
  · obtain ⟨p, o, u, zs, rows, v1, v2, d1, d2, rfl, pk, hd1, hd2, b1, b2, q⟩ := h
    refine ⟨_, (pss_cons
 (ps_expr (pf_pos (ok_check_option T) (hr.mono (by decide)) (by rfl) T.g_check_option T.F_check_option.kp T.kb_check_option_2 (fun σ => atE (takes_of rfl rfl rfl rfl) σ) (pa_cons (pe_fld (pv 0) rfl) (pa_cons (pv 1) pa_nil))))
 (pss_cons
 (ps_expr (pf_pos (ok_check_option T) (hr.mono (by decide)) (by rfl) T.g_check_option T.F_check_option.kp T.kb_check_option_2 (fun σ => atE (takes_of rfl rfl rfl rfl) σ) (pa_cons (pe_fld (pv 0) rfl) (pa_cons (pv 2) pa_nil))))
 (pss_cons
 (ps_set (i := 3) sc_strength_paper.nd rfl (Or.inr rfl) (pe_call (ok_strongest_ways T tb) (hr.mono (by decide)) (by rfl) T.g_strongest_ways T.F_strongest_ways.kp T.b_strongest_ways .nil pass0 (pa_cons (pe_fld (pv 0) rfl) (pa_cons (pe_call (ok_margins T) (hr.mono (by decide)) (by rfl) T.g_margins T.F_margins.kp T.b_margins .nil pass0 (pa_cons (pv 0) pa_nil)) (pa_cons (pv 1) pa_nil)))))
 (pss_cons
 (ps_asg (pe_dget (hu_of hr) (pv 3) (pv 2) (fun _ _ => rfl)) (pg_tup rfl (pgs_cons (pg_name (i := 4) sc_strength_paper.nd rfl (Or.inr rfl)) (pgs_cons (pg_name (i := 5) sc_strength_paper.nd rfl (Or.inl rfl)) pgs_nil))))
 (pss_one
 (ps_ret (pe_tup (pa_cons (pv 5) (pa_cons (pe_lc (own := [("option", 6)]) (g := gName 6) rfl sc_strength_paper.nd (pi_tup (pe_fld (pv 0) rfl)) (blkOk_by (own := [("option", 6)]) (N := ["poll", "one", "other", "found", "most", "way", "option"]) (sc := (defScope s_strength_paper)) (by decide +kernel)) (fun _ _ _ _ _ => pg_name (i := 6) sc_strength_paper.nd rfl (Or.inl rfl)) (fun s0 H0 C0 cl0 fp0 => (by have h := ((pts_one (PW.pt (pw_or (pt_cmpR op_eq (pv 6) (pv 1) (nomark _)) (pw_or1 (pt_cmpR op_gt (pe_ix ix_tup (pe_dget (hu_of hr) (pv 3) (pv 6) (fun _ _ => rfl)) pe_int (fun _ _ => rfl)) (pv 4) (nomark _)))))) : PTs ((cxOf (L2.CX P w) P w K mg base ["poll", "one", "other", "found", "most", "way", "option"] "strength_paper" (defScope s_strength_paper) T.f_strength_paper cdv A outer s H E).blk s0 H0 (lcScope (subE (rootE ((defBody s_strength_paper).getD 4 (.Pass ⟨0, 0, 0, 0⟩))) 1)) (compEnvC (lcScope (subE (rootE ((defBody s_strength_paper).getD 4 (.Pass ⟨0, 0, 0, 0⟩))) 1)) cl0 C0 (cxOf (L2.CX P w) P w K mg base ["poll", "one", "other", "found", "most", "way", "option"] "strength_paper" (defScope s_strength_paper) T.f_strength_paper cdv A outer s H E).env) fp0) (lcIfs (subE (rootE ((defBody s_strength_paper).getD 4 (.Pass ⟨0, 0, 0, 0⟩))) 1)) _); dsimp only [Cx.blk, Cx.tr, Cx.suite, Cx.nox, Cx.wish, cxOf] at h; exact h)) (fun _ _ _ _ _ => (pv 6))) pa_nil))))))))), ?_⟩
    have few6 := pk.ok.few
    have nd := pk.ok.nodup
    obtain ⟨dx, hp⟩ := id pk.poll
    have ho := pk.opts
    refine ⟨.ref p, rfl, p, T.C_Poll, dx, _, .ref o, rfl, hp, T.cl_Poll, T.n_Poll_options, pollF_options o u, v1, rfl, rfl, rfl, o, zs, v1, d1, rfl, ho, hd1, fun e1 => ?_, b1⟩
    refine ⟨.ref p, rfl, p, T.C_Poll, dx, _, .ref o, rfl, hp, T.cl_Poll, T.n_Poll_options, pollF_options o u, v2, rfl, rfl, rfl, o, zs, v2, d2, rfl, ho, hd2, fun e2 => ?_, b2 e1⟩
    obtain ⟨y, rfl, rfl, my⟩ := opt_str e1 hd1
    obtain ⟨z, rfl, rfl, mz⟩ := opt_str e2 hd2
    obtain ⟨yz, tt, q⟩ := q y z rfl rfl my mz
    refine ⟨.ref p, rfl, p, T.C_Poll, dx, _, .ref o, rfl, hp, T.cl_Poll, T.n_Poll_options, pollF_options o u, .ref p, rfl, p, o, u, zs, rows, rfl, pk, fun M H1 s1 nM eM => ?_⟩
    have tt1 := tt.ext s1
    refine ⟨.str y, rfl, o, M, zs, marg rows, y, rfl, s1 _ _ ho, eM, nd, few6, my, tt1, fun D gs H2 x2 t2 nD eD ok all tr => ?_⟩
    have ndz : (gs.map (·.z)).Nodup := (List.nodup_cons.mp ok.nodup).2
    have gd : ∀ {H' : Hp}, H' D = some (.dK (gkv gs)) → ∀ e ∈ gs, DGet H' D (.str e.z) (some (.ref e.q)) := fun {H'} h e he => by
      have := DGet.k (k := .inr e.z) h
      rw [gkv_in ndz he] at this
      exact this
    have find : ∀ x ∈ zs, x ≠ y → ∃ e ∈ gs, e.z = x ∧ strN (marg rows) zs y x = e.n := fun x hx xy => by
      rcases List.mem_cons.mp (all x hx) with h | h
      · exact absurd h xy
      · obtain ⟨e, he, rfl⟩ := List.mem_map.mp h
        exact ⟨e, he, rfl, strN_of (ok.best e he).strong⟩
    obtain ⟨e, he, rfl, st⟩ := find z mz yz.symm
    obtain ⟨h1, h2⟩ := ok.at_ e he
    have x02 := (LamX.ExtN.of s1).trans x2
    have hp2 := x02 _ _ hp (fun _ e => by cases e)
    have ho2 := x02 _ _ ho (fun _ e => by cases e)
    refine ⟨.ref D, rfl, .str e.z, rfl, D, _, rfl, gd eD e he, e.q, _, rfl, .of h1, rfl, _, _, rfl, _, _, rfl, rfl, ?_⟩
    refine ⟨.ref e.w, rfl, .ref p, rfl, p, T.C_Poll, dx, _, .ref o, rfl, hp2, T.cl_Poll, T.n_Poll_options, pollF_options o u, o, rfl, ⟨_, .of ho2⟩, fun L nL => ?_⟩
    refine lc_tup (K := K) (a := o) (xs := zs.map V.str) (fun i H' => Same H2 H' ∧ H' L = some (.lst (((zs.take i).filter (outR (marg rows) zs y e.z)).map V.str))) ⟨same_upd nL, upd_same⟩ (fun _ _ _ h => .of (h.1 _ _ ho2)) ?_ ?_
    · rintro i x' H3 hi ⟨s3, e3⟩
      obtain ⟨x, hx, rfl⟩ := item_map hi
      have mx := List.mem_of_getElem? hx
      have ft := filter_take (f := outR (marg rows) zs y e.z) hx
      have add : outR (marg rows) zs y e.z x = true → ∃ acc, H3 L = some (.lst acc) ∧ acc.length < sizeLine ∧ Same H2 (upd H3 L (.lst (acc ++ [V.str x]))) ∧ (upd H3 L (.lst (acc ++ [V.str x]))) L = some (.lst (((zs.take (i + 1)).filter (outR (marg rows) zs y e.z)).map V.str)) := fun h => by
        rw [if_pos h] at ft
        refine ⟨_, e3, ?_, same_mut s3 nL, ?_⟩
        · rw [List.length_map]
          have := List.length_filter_le (outR (marg rows) zs y e.z) (zs.take i)
          rw [List.length_take] at this
          exact small1000 (by omega)
        · rw [upd_same, ft, List.map_append]
          rfl
      refine ⟨rfl, .str x, rfl, .str y, rfl, rfl, _, rfl, ?_⟩
      by_cases c : x = y
      · rw [decide_eq_true (congrArg V.str c)]
        have : outR (marg rows) zs y e.z x = true := by
          unfold outR
          rw [decide_eq_true c, Bool.true_or]
        exact iteT (iteT ⟨.str x, rfl, add this⟩)
      · rw [decide_eq_false fun h => c (V.str.inj h)]
        refine iteF ?_
        obtain ⟨f, hf, rfl, sf⟩ := find x mx c
        obtain ⟨k1, k2⟩ := ok.at_ f hf
        refine ⟨.ref D, rfl, .str f.z, rfl, D, _, rfl, gd (s3 _ _ eD) f hf, f.q, _, 0, .int f.n, rfl, rfl, .of (s3 _ _ k1), atI_nat (j := 0) rfl, .int e.n, rfl, _, _, rfl, rfl, _, rfl, ?_⟩
        have eo : outR (marg rows) zs y e.z f.z = decide (e.n < f.n) := by
          unfold outR
          rw [decide_eq_false c, Bool.false_or, st, sf]
        by_cases cc : e.n < f.n
        · rw [decide_eq_true cc] at eo ⊢
          exact iteT ⟨.str f.z, rfl, add eo⟩
        · rw [decide_eq_false cc] at eo ⊢
          rw [if_neg (by rw [eo]; exact Bool.false_ne_true), List.append_nil] at ft
          refine iteF ⟨s3, ?_⟩
          rw [ft]
          exact e3
    · rintro H3 ⟨s3, e3⟩
      rw [List.length_map, List.take_length] at e3
      refine ⟨line_of (show 2 ≤ 1000 by decide), fun pa npa => ?_⟩
      have s4 := same_upd (o := HO.tup [V.ref e.w, V.ref L]) npa
      have nLH : Fresh H L := fun b o' hb nt eb => by
        rw [eb] at hb
        rw [x02 _ _ hb nt] at nL
        cases nL
      refine q pa e.w L e.way _ _ (x02.trans (.of (s3.trans s4))) (t2.ext (s3.trans s4)) ⟨⟨_, tr, by rw [List.map_map]; exact ndz, List.mem_map.mpr ⟨e, he, rfl⟩⟩, rfl⟩ (ok.best e he).way (by rw [st]; exact (ok.best e he).force) nLH upd_same ((s3.trans s4) _ _ h2) (s4 _ _ e3)
end
/-! ### what the paper shows -/
theorem outR_cut {g : Str → Str → Int} {zs : List Str} {y z : Str} (my : y ∈ zs) (mz : z ∈ zs) (yz : y ≠ z) : CutOf g zs (zs.filter (outR g zs y z)) y z (strN g zs y z) := by
  have dir : ∀ {a b : Str}, a ∈ zs → b ∈ zs → a ≠ b → g a b ≤ strN g zs a b := fun {a b} ha hb ab => by
    obtain ⟨n, hn, _⟩ := cut_any (g := g) ha hb ab
    rw [strN_of hn]
    exact hn.2 [a, b] (g a b) ⟨by simp [ab], fun x hx => by
      rcases List.mem_cons.mp hx with rfl | hx
      · exact ha
      · rw [List.mem_singleton.mp hx]
        exact hb, rfl, rfl⟩ (force_one g a b)
  refine ⟨List.mem_filter.mpr ⟨my, by unfold outR; rw [decide_eq_true rfl, Bool.true_or]⟩, fun h => ?_, fun x hx w hw nw => ?_⟩
  · have := (List.mem_filter.mp h).2
    unfold outR at this
    rw [decide_eq_false yz.symm, Bool.false_or] at this
    have := of_decide_eq_true this
    omega
  · obtain ⟨mx, ox⟩ := List.mem_filter.mp hx
    have ow : outR g zs y z w = false := by
      cases e : outR g zs y z w with
      | false => rfl
      | true => exact absurd (List.mem_filter.mpr ⟨hw, e⟩) nw
    unfold outR at ox ow
    rw [Bool.or_eq_false_iff] at ow
    have wy : w ≠ y := of_decide_eq_false ow.1
    have lw : strN g zs y w ≤ strN g zs y z := by
      have := of_decide_eq_false ow.2
      omega
    by_cases c : x = y
    · subst c
      exact Int.le_trans (dir mx hw wy.symm) lw
    · rw [decide_eq_false c, Bool.false_or] at ox
      have lx := of_decide_eq_true ox
      have xw : x ≠ w := fun e => nw (by rw [← e]; exact hx)
      rcases strN_tri (g := g) my mx hw (fun e => c e.symm) xw wy.symm with h | h
      · omega
      · exact Int.le_trans (dir mx hw xw) (Int.le_trans h lw)
theorem force_two {g : Str → Str → Int} {zs : List Str} {y z : Str} {way : List Str} (h : WayFT zs y z way) (yz : y ≠ z) : 2 ≤ way.length := by
  obtain ⟨_, _, h1, h2⟩ := h
  match way, h1, h2 with
  | [a], h1, h2 => exact absurd ((Option.some.inj h1).symm.trans (Option.some.inj h2)) yz
  | a :: b :: r, _, _ => simp
theorem wayD_of {zs : List Str} {y z : Str} {way : List Str} (h : WayFT zs y z way) : wayD zs y z (.tuple (way.map PyData.str)) = true := by
  obtain ⟨nd, sub, h1, h2⟩ := h
  have e : strsOf (way.map PyData.str) = way := by
    unfold strsOf
    rw [List.filterMap_map]
    exact List.filterMap_some
  show (unlikeD zs (way.map PyData.str) && (decide ((strsOf (way.map PyData.str))[0]? = some y) && decide ((strsOf (way.map PyData.str))[(strsOf (way.map PyData.str)).length - 1]? = some z))) = true
  rw [unlike_strs nd sub, e, decide_eq_true (by rw [← h1, List.head?_eq_getElem?]), decide_eq_true (by rw [← h2, List.getLast?_eq_getElem?])]
  rfl
section
variable {P : Program} {w : World} {K : PySem.W.Frag} {mg : Str → Option Value} {base : Heap}
/-- a paper of strength that stands at pa: a way with its force, and a lot that it cannot leave by more -/
structure PapOk (H : Hp) (g : Str → Str → Int) (zs : List Str) (y z : Str) (pa wa la : Addr) (way R : List Str) (n : Int) : Prop where
  at_ : H pa = some (.tup [.ref wa, .ref la])
  way_ : H wa = some (.tup (way.map V.str))
  lot_ : H la = some (.lst (R.map V.str))
  is_ : WayFT zs y z way
  force : IsForce g way n
  nd : R.Nodup
  sub : ∀ x ∈ R, x ∈ zs
  inR : y ∈ R
  noR : z ∉ R
theorem PapOk.same {H H' : Hp} {g : Str → Str → Int} {zs : List Str} {y z : Str} {pa wa la : Addr} {way R : List Str} {n : Int} (s : Same H H') (h : PapOk H g zs y z pa wa la way R n) : PapOk H' g zs y z pa wa la way R n := ⟨s _ _ h.at_, s _ _ h.way_, s _ _ h.lot_, h.is_, h.force, h.nd, h.sub, h.inR, h.noR⟩
def sp_shows_strength (C CN : Addr) : Sp := fun vs H Q E => ∃ (p o u pa : Addr) (zs : List Str) (rows : List (Bal × Int)) (v1 v2 : V) (d1 d2 : PyData) (k : Int), vs = [.ref p, v1, v2, .int k, .ref pa] ∧ PollOk C H p o u zs rows ∧ DAt H d1 v1 ∧ DAt H d2 v2 ∧
  (optD zs d1 = false → NoOpt CN v1 H E) ∧ (optD zs d1 = true → optD zs d2 = false → NoOpt CN v2 H E) ∧ (∀ y z : Str, d1 = .str y → d2 = .str z → y ∈ zs → z ∈ zs → ∃ (wa la : Addr) (way R : List Str) (n : Int), y ≠ z ∧ PapOk H (marg rows) zs y z pa wa la way R n ∧ ∀ H', Same H H' → Q (.bl (decide (k = n) && (outS zs R).all fun q => decide (marg rows q.1 q.2 ≤ k))) H')
theorem ok_shows_strength (T : Txt K mg) : FnOk P w K mg base (L2.CX P w) 5 T.f_shows_strength T.fd_shows_strength ["poll", "one", "other", "number", "paper"] (sp_shows_strength T.C_Poll T.C_NoOption) := by
  refine T.F_shows_strength.okX sc_shows_strength (fun vs H Q E h => ?_) (fun cdv A outer s H vs Q E hr h => ?_)
  · obtain ⟨p, o, u, pa, zs, rows, v1, v2, d1, d2, k, rfl, _⟩ := h
    rfl
  · obtain ⟨p, o, u, pa, zs, rows, v1, v2, d1, d2, k, rfl, pk, hd1, hd2, b1, b2, q⟩ := h
    refine ⟨_, (pss_cons
 (ps_expr (pf_pos (ok_check_option T) (hr.mono (by decide)) (by rfl) T.g_check_option T.F_check_option.kp T.kb_check_option_2 (fun σ => atE (takes_of rfl rfl rfl rfl) σ) (pa_cons (pe_fld (pv 0) rfl) (pa_cons (pv 1) pa_nil))))
 (pss_cons
 (ps_expr (pf_pos (ok_check_option T) (hr.mono (by decide)) (by rfl) T.g_check_option T.F_check_option.kp T.kb_check_option_2 (fun σ => atE (takes_of rfl rfl rfl rfl) σ) (pa_cons (pe_fld (pv 0) rfl) (pa_cons (pv 2) pa_nil))))
 (pss_cons
 (ps_if (PW.pt (pw_or (pt_not (pt_val (pe_call (ok_is_whole T) (hr.mono (by decide)) (by rfl) T.g_is_whole T.F_is_whole.kp T.b_is_whole .nil pass0 (pa_cons (pv 3) pa_nil)))) (pw_or1 (pt_not (pt_val (pe_call (ok_is_tuple_of T) (hr.mono (by decide)) (by rfl) T.g_is_tuple_of T.F_is_tuple_of.kp T.b_is_tuple_of .nil pass0 (pa_cons (pv 4) (pa_cons pe_int pa_nil))))))))
 (pss_one
 (ps_ret pe_bl))
 pss_nil)
 (pss_cons
 (ps_asg (pv 4) (pg_tup rfl (pgs_cons (pg_name (i := 5) sc_shows_strength.nd rfl (Or.inl rfl)) (pgs_cons (pg_name (i := 6) sc_shows_strength.nd rfl (Or.inl rfl)) pgs_nil))))
 (pss_cons
 (ps_if (PW.pt (pw_or (pt_not (pt_val (pe_call (ok_is_way T) (hr.mono (by decide)) (by rfl) T.g_is_way T.F_is_way.kp T.b_is_way .nil pass0 (pa_cons (pe_fld (pv 0) rfl) (pa_cons (pv 5) (pa_cons (pv 1) (pa_cons (pv 2) pa_nil))))))) (pw_or1 (pt_not (pt_val (pe_call (ok_is_lot T) (hr.mono (by decide)) (by rfl) T.g_is_lot T.F_is_lot.kp T.b_is_lot .nil pass0 (pa_cons (pe_fld (pv 0) rfl) (pa_cons (pv 6) pa_nil))))))))
 (pss_one
 (ps_ret pe_bl))
 pss_nil)
 (pss_cons
 (ps_if (PW.pt (pw_or (pt_cmpR op_notIn_seq (pv 1) (pv 6) rfl) (pw_or1 (pt_cmpR op_in_seq (pv 2) (pv 6) rfl))))
 (pss_one
 (ps_ret pe_bl))
 pss_nil)
 (pss_cons
 (ps_set (i := 7) sc_shows_strength.nd rfl (Or.inr rfl) (pe_call (ok_margins T) (hr.mono (by decide)) (by rfl) T.g_margins T.F_margins.kp T.b_margins .nil pass0 (pa_cons (pv 0) pa_nil)))
 (pss_cons
 (ps_if (pt_cmpR op_ne (pe_call (ok_weakest T) (hr.mono (by decide)) (by rfl) T.g_weakest T.F_weakest.kp T.b_weakest .nil pass0 (pa_cons (pv 7) (pa_cons (pv 5) pa_nil))) (pv 3) (nomark _))
 (pss_one
 (ps_ret pe_bl))
 pss_nil)
 (pss_one
 (ps_ret (pe_callB (cr_all rfl) (by rfl) T.z_all (by decide +kernel) (pa_cons (pe_lc (own := [("step", 8)]) (g := gName 8) (tt := tYes) rfl sc_shows_strength.nd (pi_list (pe_call (ok_steps_out T) (hr.mono (by decide)) (by rfl) T.g_steps_out T.F_steps_out.kp T.b_steps_out .nil pass0 (pa_cons (pe_fld (pv 0) rfl) (pa_cons (pv 6) pa_nil)))) (blkOk_by (own := [("step", 8)]) (N := ["poll", "one", "other", "number", "paper", "way", "lot", "held", "step"]) (sc := (defScope s_shows_strength)) (by decide +kernel)) (fun _ _ _ _ _ => pg_name (i := 8) sc_shows_strength.nd rfl (Or.inl rfl)) (fun _ _ _ _ _ => pts_nil) (fun s0 H0 C0 cl0 fp0 => (by have h := ((pe_cmpR op_le (pe_dget (hu_of hr) (pv 7) (pv 8) (fun _ _ => rfl)) (pv 3) (nomark _)) : PE ((cxOf (L2.CX P w) P w K mg base ["poll", "one", "other", "number", "paper", "way", "lot", "held", "step"] "shows_strength" (defScope s_shows_strength) T.f_shows_strength cdv A outer s H E).blk s0 H0 (lcScope (subE (rootE ((defBody s_shows_strength).getD 8 (.Pass ⟨0, 0, 0, 0⟩))) 1)) (compEnvC (lcScope (subE (rootE ((defBody s_shows_strength).getD 8 (.Pass ⟨0, 0, 0, 0⟩))) 1)) cl0 C0 (cxOf (L2.CX P w) P w K mg base ["poll", "one", "other", "number", "paper", "way", "lot", "held", "step"] "shows_strength" (defScope s_shows_strength) T.f_shows_strength cdv A outer s H E).env) fp0) (subE (subE (rootE ((defBody s_shows_strength).getD 8 (.Pass ⟨0, 0, 0, 0⟩))) 1) 0) _); dsimp only [Cx.blk, Cx.tr, Cx.suite, Cx.nox, Cx.wish, cxOf] at h; exact h))) pa_nil)))))))))))), ?_⟩
    have few6 := pk.ok.few
    have nd := pk.ok.nodup
    obtain ⟨dx, hp⟩ := id pk.poll
    have ho := pk.opts
    refine ⟨.ref p, rfl, p, T.C_Poll, dx, _, .ref o, rfl, hp, T.cl_Poll, T.n_Poll_options, pollF_options o u, v1, rfl, rfl, rfl, o, zs, v1, d1, rfl, ho, hd1, fun e1 => ?_, b1⟩
    refine ⟨.ref p, rfl, p, T.C_Poll, dx, _, .ref o, rfl, hp, T.cl_Poll, T.n_Poll_options, pollF_options o u, v2, rfl, rfl, rfl, o, zs, v2, d2, rfl, ho, hd2, fun e2 => ?_, b2 e1⟩
    obtain ⟨y, rfl, rfl, my⟩ := opt_str e1 hd1
    obtain ⟨z, rfl, rfl, mz⟩ := opt_str e2 hd2
    obtain ⟨wa, la, way, R, n, yz, pap, q⟩ := q y z rfl rfl my mz
    have two := force_two (g := marg rows) pap.is_ yz
    have l6 := few few6 pap.is_.1 pap.is_.2.1
    have r6 := few few6 pap.nd pap.sub
    have datw : ∀ {Hc : Hp}, Same H Hc → DAt Hc (.tuple (way.map PyData.str)) (.ref wa) := fun s => ⟨wa, _, rfl, s _ _ pap.way_, DAll.strs way⟩
    have datl : ∀ {Hc : Hp}, Same H Hc → DAt Hc (.list (R.map PyData.str)) (.ref la) := fun s => ⟨la, _, rfl, s _ _ pap.lot_, DAll.strs R⟩
    have datp : DAt H (.tuple [.tuple (way.map PyData.str), .list (R.map PyData.str)]) (.ref pa) := ⟨pa, _, rfl, pap.at_, _, _, rfl, datw (Same.refl _), _, _, rfl, datl (Same.refl _), rfl⟩
    refine ⟨.int k, rfl, .int k, .int k, rfl, rfl, _, rfl, iteF ?_⟩
    refine ⟨.ref pa, rfl, .ref pa, 2, _, rfl, datp, _, rfl, iteF ?_⟩
    refine ⟨.ref pa, rfl, pa, _, rfl, .of pap.at_, rfl, _, _, rfl, _, _, rfl, rfl, ?_⟩
    refine ⟨.ref p, rfl, p, T.C_Poll, dx, _, .ref o, rfl, hp, T.cl_Poll, T.n_Poll_options, pollF_options o u, .ref wa, rfl, .str y, rfl, .str z, rfl, o, zs, .ref wa, _, y, z, rfl, ho, datw (Same.refl _), (show (way.map PyData.str).length ≤ 500 by rw [List.length_map]; omega), fun H1 s1 => ⟨_, rfl, ?_⟩⟩
    rw [wayD_of pap.is_]
    refine iteF ⟨.ref p, rfl, p, T.C_Poll, dx, _, .ref o, rfl, s1 _ _ hp, T.cl_Poll, T.n_Poll_options, pollF_options o u, .ref la, rfl, o, zs, .ref la, _, rfl, s1 _ _ ho, datl s1, (show (R.map PyData.str).length ≤ 500 by rw [List.length_map]; omega), fun H2 s2 => ⟨_, rfl, ?_⟩⟩
    have hR : 0 < R.length := List.length_pos_of_mem pap.inR
    have el : lotD zs (.list (R.map PyData.str)) = true := by
      show (decide (0 < (R.map PyData.str).length) && unlikeD zs (R.map PyData.str)) = true
      rw [unlike_strs pap.nd pap.sub, decide_eq_true (by rw [List.length_map]; exact hR)]
      rfl
    rw [el]
    refine iteF ?_
    have s02 := s1.trans s2
    have pap2 := pap.same s02
    refine ⟨.str y, rfl, .ref la, rfl, la, _, rfl, .inl (.of pap2.lot_), rfl, flat_strs R, _, rfl, ?_⟩
    rw [inV_str, decide_eq_true pap.inR]
    refine iteF ⟨.str z, rfl, .ref la, rfl, la, _, rfl, .inl (.of pap2.lot_), rfl, flat_strs R, _, rfl, ?_⟩
    rw [inV_str, decide_eq_false pap.noR]
    refine iteF ?_
    refine ⟨.ref p, rfl, p, o, u, zs, rows, rfl, pk.same s02, fun M H3 s3 nM eM => ?_⟩
    have s03 := s02.trans s3
    refine ⟨.ref M, rfl, .ref wa, rfl, M, wa, zs, way, marg rows, rfl, eM, s03 _ _ pap.way_, pap.is_.1, pap.is_.2.1, two, by omega, fun n' H4 s4 f4 => ?_⟩
    obtain rfl := f4.one pap.force
    refine ⟨.int k, rfl, rfl, _, rfl, ?_⟩
    have s04 := s03.trans s4
    by_cases c : n' = k
    · rw [decide_eq_true (congrArg V.int c)]
      refine iteF ?_
      have hM4 := s4 _ _ eM
      refine ⟨.ref p, rfl, p, T.C_Poll, dx, _, .ref o, rfl, s04 _ _ hp, T.cl_Poll, T.n_Poll_options, pollF_options o u, .ref la, rfl, o, la, zs, R, rfl, s04 _ _ ho, s04 _ _ pap.lot_, few6, by omega, fun S prs H5 s5 nS eS pr em => ⟨S, rfl, ⟨_, .of eS⟩, fun F nF => ?_⟩⟩
      have lp : prs.length ≤ 36 := by
        have h1 := congrArg List.length em
        rw [List.length_map] at h1
        have h2 : (outS zs R).length ≤ R.length * 6 := by
          unfold outS
          have aux : ∀ l : List Str, (l.flatMap fun x => (zs.filter fun t => decide (t ∉ R)).map fun t => (x, t)).length ≤ l.length * 6 := by
            intro l
            induction l with
            | nil => simp
            | cons a l ih =>
              rw [List.flatMap_cons, List.length_append, List.length_map, List.length_cons]
              have := List.length_filter_le (fun t => decide (t ∉ R)) zs
              omega
          exact aux R
        omega
      have outp : ∀ q ∈ prs, q.2.1 ∈ R ∧ q.2.2 ∈ zs ∧ q.2.2 ∉ R := fun q hq => by
        have : q.2 ∈ outS zs R := by rw [← em]; exact List.mem_map.mpr ⟨q, hq, rfl⟩
        unfold outS at this
        obtain ⟨x, hx, hy⟩ := List.mem_flatMap.mp this
        obtain ⟨t, ht, e⟩ := List.mem_map.mp hy
        obtain ⟨t1, t2⟩ := List.mem_filter.mp ht
        rw [← e]
        exact ⟨hx, t1, of_decide_eq_true t2⟩
      refine lc_list (K := K) (a := S) (xs := prs.map fun q => V.ref q.1) (fun i H' => Same H5 H' ∧ H' F = some (.lst (((prs.take i).map fun q => decide (marg rows q.2.1 q.2.2 ≤ k)).map V.bl))) ⟨same_upd nF, upd_same⟩ (fun _ _ _ h => .of (h.1 _ _ eS)) ?_ ?_
      · rintro i x H6 hi ⟨s6, e6⟩
        obtain ⟨q0, hq, rfl⟩ := item_map hi
        have mq := List.mem_of_getElem? hq
        obtain ⟨m1, m2, m3⟩ := outp q0 mq
        have gd : DGet H6 M (.ref q0.1) (some (.int (marg rows q0.2.1 q0.2.2))) := by
          have := DGet.t (k := [.inr q0.2.1, .inr q0.2.2]) (s6 _ _ (s5 _ _ hM4)) (s6 _ _ (pr q0 mq))
          rw [tab2_val (pap.sub _ m1) m2 (fun e => m3 (by rw [← e]; exact m1))] at this
          exact this
        refine ⟨rfl, .ref M, rfl, .ref q0.1, rfl, M, _, rfl, gd, .int k, rfl, _, _, rfl, rfl, _, e6, small1000 (by rw [List.length_map, List.length_map, List.length_take]; omega), same_mut s6 nF, ?_⟩
        rw [upd_same, take_more hq, List.map_append, List.map_append]
        rfl
      · rintro H6 ⟨s6, e6⟩
        rw [List.length_map, List.take_length] at e6
        have all : (prs.map fun q => decide (marg rows q.2.1 q.2.2 ≤ k)).all id = (outS zs R).all fun q => decide (marg rows q.1 q.2 ≤ k) := by
          rw [← em, List.all_map, List.all_map]
          rfl
        rw [decide_eq_true c.symm, Bool.true_and] at q
        refine ⟨F, _, rfl, .of e6, ?_⟩
        rw [all]
        exact q H6 (s04.trans (s5.trans s6))
    · rw [decide_eq_false fun h => c (V.int.inj h)]
      rw [decide_eq_false fun h => c h.symm, Bool.false_and] at q
      exact iteT (q H4 s04)
end
/-! ### threes -/
theorem strN_dir {g : Str → Str → Int} {zs : List Str} {a b : Str} (ha : a ∈ zs) (hb : b ∈ zs) (ab : a ≠ b) : g a b ≤ strN g zs a b := by
  obtain ⟨n, hn, _⟩ := cut_any (g := g) ha hb ab
  rw [strN_of hn]
  exact hn.2 [a, b] (g a b) ⟨by simp [ab], fun x hx => by
    rcases List.mem_cons.mp hx with rfl | hx
    · exact ha
    · rw [List.mem_singleton.mp hx]
      exact hb, rfl, rfl⟩ (force_one g a b)
section
variable {P : Program} {w : World} {K : PySem.W.Frag} {mg : Str → Option Value} {base : Heap}
def sp_law_threes_right : Sp := fun vs H Q _ => ∃ (t F : Addr) (zs : List Str) (g : Str → Str → Int), vs = [.ref t, .ref F] ∧ H t = some (.tup (zs.map V.str)) ∧ H F = some (.dT (tab2 zs (strN g zs) zs)) ∧ zs.Nodup ∧ zs.length ≤ 6 ∧ (∀ x y, g y x = -g x y) ∧
  ∀ H', Same H H' → Q (.bl true) H'
theorem ok_law_threes_right (T : Txt K mg) : FnOk P w K mg base CX0 1 T.f_law_threes_right T.fd_law_threes_right ["_law_names_here", "_law_force"] sp_law_threes_right := by
  refine T.F_law_threes_right.ok sc_law_threes_right (fun vs H Q E h => ?_) (fun cdv A outer s H vs Q E hr h => ?_)
  · obtain ⟨t, F, zs, g, rfl, _⟩ := h
    rfl
  · obtain ⟨t, F, zs, g, rfl, ht, hF, nd, z6, anti, q⟩ := h
    refine ⟨_, (pss_cons
 (ps_lock (ps_for PassesOwn.never rfl (pi_keys (pv 1)) (pg_tup rfl (pgs_cons (pg_name (i := 2) sc_law_threes_right.nd rfl (Or.inr rfl)) (pgs_cons (pg_name (i := 3) sc_law_threes_right.nd rfl (Or.inr rfl)) pgs_nil)))
 (pss_cons
 (ps_for PassesOwn.never rfl (pi_list (pe_lc (own := [("_law_third", 4)]) (g := gName 4) rfl sc_law_threes_right.nd (pi_tup (pv 0)) (blkOk_by (own := [("_law_third", 4)]) (N := ["_law_names_here", "_law_force", "_law_one_here", "_law_other", "_law_third"]) (sc := (defScope s_law_threes_right)) (by decide +kernel)) (fun _ _ _ _ _ => pg_name (i := 4) sc_law_threes_right.nd rfl (Or.inl rfl)) (fun s0 H0 C0 cl0 fp0 => (by have h := ((pts_one (pt_cmpR op_notIn_seq (pv 4) (pe_tup (pa_cons (pv 2) (pa_cons (pv 3) pa_nil))) rfl)) : PTs ((cxOf CX0 P w K mg base ["_law_names_here", "_law_force", "_law_one_here", "_law_other", "_law_third"] "_law_threes_right" (defScope s_law_threes_right) T.f_law_threes_right cdv A outer s H E).nox.blk s0 H0 (lcScope (rootE ((blkOf ((defBody s_law_threes_right).getD 0 (.Pass ⟨0, 0, 0, 0⟩)) 0).getD 0 (.Pass ⟨0, 0, 0, 0⟩)))) (compEnvC (lcScope (rootE ((blkOf ((defBody s_law_threes_right).getD 0 (.Pass ⟨0, 0, 0, 0⟩)) 0).getD 0 (.Pass ⟨0, 0, 0, 0⟩)))) cl0 C0 (cxOf CX0 P w K mg base ["_law_names_here", "_law_force", "_law_one_here", "_law_other", "_law_third"] "_law_threes_right" (defScope s_law_threes_right) T.f_law_threes_right cdv A outer s H E).nox.env) fp0) (lcIfs (rootE ((blkOf ((defBody s_law_threes_right).getD 0 (.Pass ⟨0, 0, 0, 0⟩)) 0).getD 0 (.Pass ⟨0, 0, 0, 0⟩)))) _); dsimp only [Cx.blk, Cx.tr, Cx.suite, Cx.nox, Cx.wish, cxOf] at h; exact h)) (fun _ _ _ _ _ => (pv 4)))) (pg_name (i := 4) sc_law_threes_right.nd rfl (Or.inl rfl))
 (pss_one
 (ps_if (pt_cmpR op_lt (pe_dget (hu_of hr) (pv 1) (pe_tup (pa_cons (pv 2) (pa_cons (pv 3) pa_nil))) (fun _ _ => rfl)) (pe_callB (call_min2 rfl) (by rfl) T.z_min (by decide +kernel) (pa_cons (pe_dget (hu_of hr) (pv 1) (pe_tup (pa_cons (pv 2) (pa_cons (pv 4) pa_nil))) (fun _ _ => rfl)) (pa_cons (pe_dget (hu_of hr) (pv 1) (pe_tup (pa_cons (pv 4) (pa_cons (pv 3) pa_nil))) (fun _ _ => rfl)) pa_nil))) (nomark _))
 (pss_one
 (ps_ret pe_bl))
 pss_nil)))
 (pss_one
 (ps_if (pt_cmpR op_lt (pe_callB (call_max2 rfl) (by rfl) T.z_max (by decide +kernel) (pa_cons (pe_dget (hu_of hr) (pv 1) (pe_tup (pa_cons (pv 2) (pa_cons (pv 3) pa_nil))) (fun _ _ => rfl)) (pa_cons (pe_dget (hu_of hr) (pv 1) (pe_tup (pa_cons (pv 3) (pa_cons (pv 2) pa_nil))) (fun _ _ => rfl)) pa_nil))) pe_int (nomark _))
 (pss_one
 (ps_ret pe_bl))
 pss_nil)))))
 (pss_one
 (ps_ret pe_bl))), ?_⟩
    refine ⟨F, _, hF, trivial, fun od => ?_⟩
    have eFf : (upd H F (.frz od (.dT (tab2 zs (strN g zs) zs)))) F = some (.frz od (.dT (tab2 zs (strN g zs) zs))) := upd_same
    have back : ∀ {H'}, Same (upd H F (.frz od (.dT (tab2 zs (strN g zs) zs)))) H' → Same H (upd H' F (.dT (tab2 zs (strN g zs) zs))) := fun s => lock_same od hF s
    have htf : (upd H F (.frz od (.dT (tab2 zs (strN g zs) zs)))) t = some (.tup (zs.map V.str)) := by
      rw [upd_ne fun e => by rw [e, hF] at ht; cases ht]
      exact ht
    generalize upd H F (.frz od (.dT (tab2 zs (strN g zs) zs))) = HF at eFf back htf ⊢
    refine ⟨.ref F, rfl, F, od, rfl, .inr ⟨_, eFf, ?_⟩⟩
    refine for_it walk_keysT (fun i σ H' => ∃ x2 x3 x4 : Option V, σ = [some (.ref t), some (.ref F), x2, x3, x4] ∧ Same HF H') ⟨_, _, _, rfl, Same.refl _⟩ (fun i σ H' _ h => ?_) ?_ ?_
    · obtain ⟨_, _, _, _, s⟩ := h
      exact s _ _ eFf
    · rintro i x' σ H1 H1' hi ⟨x2, x3, x4, rfl, s1⟩ ⟨rfl, k, v, q', hk, rfl, hq⟩
      obtain ⟨a, ma, b, mb, ne, ek⟩ := mem_tab2.mp (List.mem_of_getElem? hk)
      cases ek
      refine ⟨q', _, rfl, .of hq, rfl, _, _, rfl, _, _, rfl, rfl, ?_⟩
      have gd : ∀ {Hc : Hp} {u : Addr} {x y : Str}, Same HF Hc → x ∈ zs → y ∈ zs → x ≠ y → Hc u = some (.tup [.str x, .str y]) → DGet Hc F (.ref u) (some (.int (strN g zs x y))) := fun s hx hy xy e => DGet.rd (.inr ⟨od, s _ _ eFf⟩) hx hy xy e
      have ht1 := s1 _ _ htf
      refine ⟨.ref t, rfl, t, rfl, ⟨_, .of ht1⟩, fun D nD => ?_⟩
      refine lc_tup (K := K) (a := t) (xs := zs.map V.str) (fun j H' => Same H1' H' ∧ H' D = some (.lst (((zs.take j).filter fun z => decide (z ∉ ([a, b] : List Str))).map V.str))) ⟨same_upd nD, upd_same⟩ (fun _ _ _ h => .of (h.1 _ _ ht1)) ?_ ?_
      · rintro j x' H2 hj ⟨s2, e2⟩
        obtain ⟨z, hz, rfl⟩ := item_map hj
        have ft := filter_take (f := fun z => decide (z ∉ ([a, b] : List Str))) hz
        refine ⟨rfl, .str z, rfl, .str a, rfl, .str b, rfl, line_of (show 2 ≤ 1000 by decide), fun u nu => ?_⟩
        have s3 := same_upd (o := HO.tup [V.str a, V.str b]) nu
        have eu : (upd H2 u (.tup [V.str a, V.str b])) u = some (.tup (([a, b] : List Str).map V.str)) := upd_same
        have e3 := s3 _ _ e2
        generalize upd H2 u (.tup [V.str a, V.str b]) = H3 at s3 eu e3 ⊢
        have s13 := s2.trans s3
        refine ⟨u, _, rfl, .inr (.of eu), rfl, flat_strs [a, b], _, rfl, ?_⟩
        rw [inV_str]
        by_cases c : z ∈ ([a, b] : List Str)
        · rw [decide_eq_true c]
          have : decide (z ∉ ([a, b] : List Str)) = false := decide_eq_false fun k => k c
          rw [if_neg (by rw [this]; exact Bool.false_ne_true), List.append_nil] at ft
          refine iteF ⟨s13, ?_⟩
          rw [ft]
          exact e3
        · rw [decide_eq_false c]
          have : decide (z ∉ ([a, b] : List Str)) = true := decide_eq_true c
          rw [if_pos this] at ft
          refine iteT ⟨.str z, rfl, _, e3, ?_, same_mut s13 nD, ?_⟩
          · rw [List.length_map]
            have := List.length_filter_le (fun z => decide (z ∉ ([a, b] : List Str))) (zs.take j)
            rw [List.length_take] at this
            exact small1000 (by omega)
          · rw [upd_same, ft, List.map_append]
            rfl
      rintro H2 ⟨s2, e2⟩
      rw [List.length_map, List.take_length] at e2
      have s02 := s1.trans s2
      refine ⟨D, rfl, ⟨_, .of e2⟩, ?_⟩
      refine for_list (K := K) (a := D) (xs := (zs.filter fun z => decide (z ∉ ([a, b] : List Str))).map V.str) (fun j σ H' => (∃ x4 : Option V, σ = [some (.ref t), some (.ref F), some (.str a), some (.str b), x4]) ∧ Same H2 H') ⟨⟨_, rfl⟩, Same.refl _⟩ (fun _ _ _ _ h => .of (h.2 _ _ e2)) ?_ ?_
      · rintro j x' σ H3 hj ⟨⟨x4', rfl⟩, s3⟩
        obtain ⟨z, hz, rfl⟩ := item_map hj
        obtain ⟨mz, dz⟩ := List.mem_filter.mp (List.mem_of_getElem? hz)
        have dz := of_decide_eq_true dz
        have za : z ≠ a := fun h => dz (by rw [h]; exact List.mem_cons_self)
        have zb : z ≠ b := fun h => dz (by rw [h]; exact List.mem_cons_of_mem _ List.mem_cons_self)
        have s03 := s02.trans s3
        refine ⟨.ref F, rfl, .str a, rfl, .str b, rfl, line_of (show 2 ≤ 1000 by decide), fun u1 n1 => ?_⟩
        have s4 := same_upd (o := HO.tup [V.str a, V.str b]) n1
        have g1 := gd (s03.trans s4) ma mb ne upd_same
        generalize upd H3 u1 (.tup [V.str a, V.str b]) = H4 at s4 g1 ⊢
        refine ⟨F, _, rfl, g1, .ref F, rfl, .str a, rfl, .str z, rfl, line_of (show 2 ≤ 1000 by decide), fun u2 n2 => ?_⟩
        have s5 := same_upd (o := HO.tup [V.str a, V.str z]) n2
        have g2 := gd ((s03.trans s4).trans s5) ma mz za.symm upd_same
        generalize upd H4 u2 (.tup [V.str a, V.str z]) = H5 at s5 g2 ⊢
        refine ⟨F, _, rfl, g2, .ref F, rfl, .str z, rfl, .str b, rfl, line_of (show 2 ≤ 1000 by decide), fun u3 n3 => ?_⟩
        have s6 := same_upd (o := HO.tup [V.str z, V.str b]) n3
        have g3 := gd (((s03.trans s4).trans s5).trans s6) mz mb zb upd_same
        generalize upd H5 u3 (.tup [V.str z, V.str b]) = H6 at s6 g3 ⊢
        refine ⟨F, _, rfl, g3, _, _, rfl, _, _, rfl, rfl, _, rfl, ?_⟩
        have tri := strN_tri (g := g) ma mz mb za.symm zb ne
        refine ite2 (fun e => ?_) (fun _ => ?_)
        · have e := of_decide_eq_true e
          split at e <;> omega
        · exact ⟨⟨_, rfl⟩, s3.trans (s4.trans (s5.trans s6))⟩
      · rintro σ H3 ⟨⟨x4', rfl⟩, s3⟩
        have s03 := s02.trans s3
        refine ⟨.ref F, rfl, .str a, rfl, .str b, rfl, line_of (show 2 ≤ 1000 by decide), fun u1 n1 => ?_⟩
        have s4 := same_upd (o := HO.tup [V.str a, V.str b]) n1
        have g1 := gd (s03.trans s4) ma mb ne upd_same
        generalize upd H3 u1 (.tup [V.str a, V.str b]) = H4 at s4 g1 ⊢
        refine ⟨F, _, rfl, g1, .ref F, rfl, .str b, rfl, .str a, rfl, line_of (show 2 ≤ 1000 by decide), fun u2 n2 => ?_⟩
        have s5 := same_upd (o := HO.tup [V.str b, V.str a]) n2
        have g2 := gd ((s03.trans s4).trans s5) mb ma ne.symm upd_same
        generalize upd H4 u2 (.tup [V.str b, V.str a]) = H5 at s5 g2 ⊢
        refine ⟨F, _, rfl, g2, _, _, rfl, _, _, rfl, rfl, _, rfl, ?_⟩
        have d1 := strN_dir (g := g) ma mb ne
        have d2 := strN_dir (g := g) mb ma ne.symm
        have an := anti a b
        refine ite2 (fun e => ?_) (fun _ => ?_)
        · have e := of_decide_eq_true e
          split at e <;> omega
        · exact ⟨_, _, _, rfl, s03.trans (s4.trans s5)⟩
    · rintro σ H1 ⟨x2, x3, x4, rfl, s1⟩
      refine ⟨s1 _ _ eFf, q _ (back s1)⟩
end
/-! ### a way and a lot, drawn -/
section
variable {P : Program} {w : World} {K : PySem.W.Frag} {mg : Str → Option Value} {base : Heap}
def sp_law_drawn_right (C : Addr) : Sp := fun vs H Q _ => ∃ (p pp t r M F : Addr) (zs : List Str) (rows : List (Bal × Int)) (y z : Str) (x : List V) (k : Nat), vs = [.ref p, .ref pp, .ref M, .ref F, .str y, .str z] ∧ H p = some (.lst x) ∧ WellL x k ∧ k ≤ 700000 ∧ PollOk C H pp t r zs rows ∧
  H M = some (.dT (tab2 zs (marg rows) zs)) ∧ H F = some (.dT (tab2 zs (strN (marg rows) zs) zs)) ∧ y ∈ zs ∧ z ∈ zs ∧ y ≠ z ∧ ∀ (x' : List V) (H' : Hp), But p H H' → H' p = some (.lst x') → WellL x' (k + 20) → Q (.bl true) H'
theorem ok_law_drawn_right (T : Txt K mg) : FnOk P w K mg base CX0 6 T.f_law_drawn_right T.fd_law_drawn_right ["_law_well_here", "_law_p", "_law_table", "_law_force", "_law_one_here", "_law_other"] (sp_law_drawn_right T.C_Poll) := by
  refine T.F_law_drawn_right.ok sc_law_drawn_right (fun vs H Q E h => ?_) (fun cdv A outer s H vs Q E hr h => ?_)
  · obtain ⟨p, pp, t, r, M, F, zs, rows, y, z, x, k, rfl, _⟩ := h
    rfl
  · obtain ⟨p, pp, t, r, M, F, zs, rows, y, z, x, k, rfl, hp, wx, hk, pk, hM, hF, my, mz, yz, q⟩ := h
    refine ⟨_, (pss_cons
 (ps_set (i := 6) sc_law_drawn_right.nd rfl (Or.inl rfl) (pe_fld (pv 1) rfl))
 (pss_cons
 (ps_set (i := 7) sc_law_drawn_right.nd rfl (Or.inl rfl) (pe_call (ok_shuf_any T) (hr.mono (by decide)) (by rfl) T.g_law_shuffled T.F_law_shuffled.kp T.b_law_shuffled .nil pass0 (pa_cons (pv 0) (pa_cons (pe_lc (own := [("_law_third", 13)]) (g := gName 13) rfl sc_law_drawn_right.nd (pi_tup (pv 6)) (blkOk_by (own := [("_law_third", 13)]) (N := ["_law_well_here", "_law_p", "_law_table", "_law_force", "_law_one_here", "_law_other", "_law_names_here", "_law_rest", "_law_path", "_law_some", "_law_low", "_law_high", "_law_number", "_law_third", "_law_k", "_law_pair"]) (sc := (defScope s_law_drawn_right)) (by decide +kernel)) (fun _ _ _ _ _ => pg_name (i := 13) sc_law_drawn_right.nd rfl (Or.inl rfl)) (fun s0 H0 C0 cl0 fp0 => (by have h := ((pts_one (pt_cmpR op_notIn_seq (pv 13) (pe_tup (pa_cons (pv 4) (pa_cons (pv 5) pa_nil))) rfl)) : PTs ((cxOf CX0 P w K mg base ["_law_well_here", "_law_p", "_law_table", "_law_force", "_law_one_here", "_law_other", "_law_names_here", "_law_rest", "_law_path", "_law_some", "_law_low", "_law_high", "_law_number", "_law_third", "_law_k", "_law_pair"] "_law_drawn_right" (defScope s_law_drawn_right) T.f_law_drawn_right cdv A outer s H E).nox.blk s0 H0 (lcScope (subE (rootE ((defBody s_law_drawn_right).getD 1 (.Pass ⟨0, 0, 0, 0⟩))) 2)) (compEnvC (lcScope (subE (rootE ((defBody s_law_drawn_right).getD 1 (.Pass ⟨0, 0, 0, 0⟩))) 2)) cl0 C0 (cxOf CX0 P w K mg base ["_law_well_here", "_law_p", "_law_table", "_law_force", "_law_one_here", "_law_other", "_law_names_here", "_law_rest", "_law_path", "_law_some", "_law_low", "_law_high", "_law_number", "_law_third", "_law_k", "_law_pair"] "_law_drawn_right" (defScope s_law_drawn_right) T.f_law_drawn_right cdv A outer s H E).nox.env) fp0) (lcIfs (subE (rootE ((defBody s_law_drawn_right).getD 1 (.Pass ⟨0, 0, 0, 0⟩))) 2)) _); dsimp only [Cx.blk, Cx.tr, Cx.suite, Cx.nox, Cx.wish, cxOf] at h; exact h)) (fun _ _ _ _ _ => (pv 13))) pa_nil))))
 (pss_cons
 (ps_set (i := 8) sc_law_drawn_right.nd rfl (Or.inr rfl) (pe_op op_catA (pe_op op_catA (pe_tup (pa_cons (pv 4) pa_nil)) (pe_slice sl_tupA (pv 7) po_none (po_some (pe_call (ok_law_draw T) (hr.mono (by decide)) (by rfl) T.g_law_draw T.F_law_draw.kp T.b_law_draw .nil pass0 (pa_cons (pv 0) (pa_cons (pe_op op_add (pe_callB call_len_seq (by rfl) T.z_len (by decide +kernel) (pa_cons (pv 7) pa_nil)) pe_int) pa_nil)))))) (pe_tup (pa_cons (pv 5) pa_nil))))
 (pss_cons
 (ps_set (i := 9) sc_law_drawn_right.nd rfl (Or.inr rfl) (pe_op op_cat (pe_lst (pa_cons (pv 4) pa_nil)) (pe_callTy call_list_of (by rfl) T.z_list (by decide +kernel) (pa_cons (pe_slice sl_tupA (pe_call (ok_shuf_any T) (hr.mono (by decide)) (by rfl) T.g_law_shuffled T.F_law_shuffled.kp T.b_law_shuffled .nil pass0 (pa_cons (pv 0) (pa_cons (pv 7) pa_nil))) po_none (po_some (pe_call (ok_law_draw T) (hr.mono (by decide)) (by rfl) T.g_law_draw T.F_law_draw.kp T.b_law_draw .nil pass0 (pa_cons (pv 0) (pa_cons (pe_op op_add (pe_callB call_len_seq (by rfl) T.z_len (by decide +kernel) (pa_cons (pv 7) pa_nil)) pe_int) pa_nil))))) pa_nil))))
 (pss_cons
 (ps_set (i := 10) sc_law_drawn_right.nd rfl (Or.inl rfl) (pe_callB (cr_min rfl) (by rfl) T.z_min (by decide +kernel) (pa_cons (pe_lc (own := [("_law_k", 14)]) (g := gName 14) (tt := tYes) rfl sc_law_drawn_right.nd (pi_range2 rfl T.z_range (pa_cons pe_int (pa_cons (pe_callB call_len_seq (by rfl) T.z_len (by decide +kernel) (pa_cons (pv 8) pa_nil)) pa_nil))) (blkOk_by (own := [("_law_k", 14)]) (N := ["_law_well_here", "_law_p", "_law_table", "_law_force", "_law_one_here", "_law_other", "_law_names_here", "_law_rest", "_law_path", "_law_some", "_law_low", "_law_high", "_law_number", "_law_third", "_law_k", "_law_pair"]) (sc := (defScope s_law_drawn_right)) (by decide +kernel)) (fun _ _ _ _ _ => pg_name (i := 14) sc_law_drawn_right.nd rfl (Or.inl rfl)) (fun _ _ _ _ _ => pts_nil) (fun s0 H0 C0 cl0 fp0 => (by have h := ((pe_dget (hu_of hr) (pv 2) (pe_tup (pa_cons (pe_ix ix_tup (pv 8) (pe_op op_sub (pv 14) pe_int) (fun _ _ => rfl)) (pa_cons (pe_ix ix_tup (pv 8) (pv 14) (fun _ _ => rfl)) pa_nil))) (fun _ _ => rfl)) : PE ((cxOf CX0 P w K mg base ["_law_well_here", "_law_p", "_law_table", "_law_force", "_law_one_here", "_law_other", "_law_names_here", "_law_rest", "_law_path", "_law_some", "_law_low", "_law_high", "_law_number", "_law_third", "_law_k", "_law_pair"] "_law_drawn_right" (defScope s_law_drawn_right) T.f_law_drawn_right cdv A outer s H E).nox.blk s0 H0 (lcScope (subE (rootE ((defBody s_law_drawn_right).getD 4 (.Pass ⟨0, 0, 0, 0⟩))) 1)) (compEnvC (lcScope (subE (rootE ((defBody s_law_drawn_right).getD 4 (.Pass ⟨0, 0, 0, 0⟩))) 1)) cl0 C0 (cxOf CX0 P w K mg base ["_law_well_here", "_law_p", "_law_table", "_law_force", "_law_one_here", "_law_other", "_law_names_here", "_law_rest", "_law_path", "_law_some", "_law_low", "_law_high", "_law_number", "_law_third", "_law_k", "_law_pair"] "_law_drawn_right" (defScope s_law_drawn_right) T.f_law_drawn_right cdv A outer s H E).nox.env) fp0) (subE (subE (rootE ((defBody s_law_drawn_right).getD 4 (.Pass ⟨0, 0, 0, 0⟩))) 1) 0) _); dsimp only [Cx.blk, Cx.tr, Cx.suite, Cx.nox, Cx.wish, cxOf] at h; exact h))) pa_nil)))
 (pss_cons
 (ps_set (i := 11) sc_law_drawn_right.nd rfl (Or.inl rfl) (pe_callB (cr_max rfl) (by rfl) T.z_max (by decide +kernel) (pa_cons (pe_lock (pe_lc (own := [("_law_pair", 15)]) (g := gName 15) rfl sc_law_drawn_right.nd (pi_keys (pv 2)) (blkOk_by (own := [("_law_pair", 15)]) (N := ["_law_well_here", "_law_p", "_law_table", "_law_force", "_law_one_here", "_law_other", "_law_names_here", "_law_rest", "_law_path", "_law_some", "_law_low", "_law_high", "_law_number", "_law_third", "_law_k", "_law_pair"]) (sc := (defScope s_law_drawn_right)) (by decide +kernel)) (fun _ _ _ _ _ => pg_name (i := 15) sc_law_drawn_right.nd rfl (Or.inl rfl)) (fun s0 H0 C0 cl0 fp0 => (by have h := ((pts_one (PW.pt (pw_and (pt_cmpR op_in_seq (pe_ix ix_tup (pv 15) pe_int (fun _ _ => rfl)) (pv 9) rfl) (pw_and1 (pt_cmpR op_notIn_seq (pe_ix ix_tup (pv 15) pe_int (fun _ _ => rfl)) (pv 9) rfl))))) : PTs ((cxOf CX0 P w K mg base ["_law_well_here", "_law_p", "_law_table", "_law_force", "_law_one_here", "_law_other", "_law_names_here", "_law_rest", "_law_path", "_law_some", "_law_low", "_law_high", "_law_number", "_law_third", "_law_k", "_law_pair"] "_law_drawn_right" (defScope s_law_drawn_right) T.f_law_drawn_right cdv A outer s H E).nox.blk s0 H0 (lcScope (subE (rootE ((defBody s_law_drawn_right).getD 5 (.Pass ⟨0, 0, 0, 0⟩))) 1)) (compEnvC (lcScope (subE (rootE ((defBody s_law_drawn_right).getD 5 (.Pass ⟨0, 0, 0, 0⟩))) 1)) cl0 C0 (cxOf CX0 P w K mg base ["_law_well_here", "_law_p", "_law_table", "_law_force", "_law_one_here", "_law_other", "_law_names_here", "_law_rest", "_law_path", "_law_some", "_law_low", "_law_high", "_law_number", "_law_third", "_law_k", "_law_pair"] "_law_drawn_right" (defScope s_law_drawn_right) T.f_law_drawn_right cdv A outer s H E).nox.env) fp0) (lcIfs (subE (rootE ((defBody s_law_drawn_right).getD 5 (.Pass ⟨0, 0, 0, 0⟩))) 1)) _); dsimp only [Cx.blk, Cx.tr, Cx.suite, Cx.nox, Cx.wish, cxOf] at h; exact h)) (fun s0 H0 C0 cl0 fp0 => (by have h := ((pe_dget (hu_of hr) (pv 2) (pv 15) (fun _ _ => rfl)) : PE ((cxOf CX0 P w K mg base ["_law_well_here", "_law_p", "_law_table", "_law_force", "_law_one_here", "_law_other", "_law_names_here", "_law_rest", "_law_path", "_law_some", "_law_low", "_law_high", "_law_number", "_law_third", "_law_k", "_law_pair"] "_law_drawn_right" (defScope s_law_drawn_right) T.f_law_drawn_right cdv A outer s H E).nox.blk s0 H0 (lcScope (subE (rootE ((defBody s_law_drawn_right).getD 5 (.Pass ⟨0, 0, 0, 0⟩))) 1)) (compEnvC (lcScope (subE (rootE ((defBody s_law_drawn_right).getD 5 (.Pass ⟨0, 0, 0, 0⟩))) 1)) cl0 C0 (cxOf CX0 P w K mg base ["_law_well_here", "_law_p", "_law_table", "_law_force", "_law_one_here", "_law_other", "_law_names_here", "_law_rest", "_law_path", "_law_some", "_law_low", "_law_high", "_law_number", "_law_third", "_law_k", "_law_pair"] "_law_drawn_right" (defScope s_law_drawn_right) T.f_law_drawn_right cdv A outer s H E).nox.env) fp0) (subE (subE (rootE ((defBody s_law_drawn_right).getD 5 (.Pass ⟨0, 0, 0, 0⟩))) 1) 0) _); dsimp only [Cx.blk, Cx.tr, Cx.suite, Cx.nox, Cx.wish, cxOf] at h; exact h)))) pa_nil)))
 (pss_cons
 (ps_if (PW.pt (pw_or (pt_cmpR op_gt (pv 10) (pe_dget (hu_of hr) (pv 3) (pe_tup (pa_cons (pv 4) (pa_cons (pv 5) pa_nil))) (fun _ _ => rfl)) (nomark _)) (pw_or1 (pt_cmpR op_lt (pv 11) (pe_dget (hu_of hr) (pv 3) (pe_tup (pa_cons (pv 4) (pa_cons (pv 5) pa_nil))) (fun _ _ => rfl)) (nomark _)))))
 (pss_one
 (ps_ret pe_bl))
 pss_nil)
 (pss_cons
 (ps_for PassesOwn.never rfl (pi_tup (pe_tup (pa_cons (pv 10) (pa_cons (pv 11) (pa_cons (pe_dget (hu_of hr) (pv 3) (pe_tup (pa_cons (pv 4) (pa_cons (pv 5) pa_nil))) (fun _ _ => rfl)) pa_nil))))) (pg_name (i := 12) sc_law_drawn_right.nd rfl (Or.inl rfl))
 (pss_one
 (ps_if (PW.pt (pw_and (pt_val (pf_pos (ok_shows_strength T) (hr.mono (by decide)) (by rfl) T.g_shows_strength T.F_shows_strength.kp T.kb_shows_strength_5 (fun σ => atN σ) (pa_cons (pv 1) (pa_cons (pv 4) (pa_cons (pv 5) (pa_cons (pv 12) (pa_cons (pe_tup (pa_cons (pv 8) (pa_cons (pv 9) pa_nil))) pa_nil))))))) (pw_and1 (pt_cmpR op_ne (pv 12) (pe_dget (hu_of hr) (pv 3) (pe_tup (pa_cons (pv 4) (pa_cons (pv 5) pa_nil))) (fun _ _ => rfl)) (nomark _)))))
 (pss_one
 (ps_ret pe_bl))
 pss_nil)))
 (pss_one
 (ps_ret (pe_cmpR op_eq (pf_pos (ok_shows_strength T) (hr.mono (by decide)) (by rfl) T.g_shows_strength T.F_shows_strength.kp T.kb_shows_strength_5 (fun σ => atN σ) (pa_cons (pv 1) (pa_cons (pv 4) (pa_cons (pv 5) (pa_cons (pv 10) (pa_cons (pe_tup (pa_cons (pv 8) (pa_cons (pv 9) pa_nil))) pa_nil)))))) (pe_cmpR op_ge (pv 10) (pv 11) (nomark _)) (nomark _)))))))))))), ?_⟩
    have z6 := pk.ok.few
    have nd := pk.ok.nodup
    have okz := pk.ok.names
    obtain ⟨dx, hpp⟩ := id pk.poll
    have ht := pk.opts
    have Mp : M ≠ p := fun e => by rw [e, hp] at hM; cases hM
    have Fp : F ≠ p := fun e => by rw [e, hp] at hF; cases hF
    refine ⟨.ref pp, rfl, pp, T.C_Poll, dx, _, .ref t, rfl, hpp, T.cl_Poll, T.n_Poll_options, pollF_options t r, ?_⟩
    -- the rest, in any order
    refine ⟨.ref p, rfl, .ref t, rfl, t, rfl, ⟨_, .of ht⟩, fun D nD => ?_⟩
    refine lc_tup (K := K) (a := t) (xs := zs.map V.str) (fun j H' => Same H H' ∧ H' D = some (.lst (((zs.take j).filter fun c => decide (c ∉ ([y, z] : List Str))).map V.str))) ⟨same_upd nD, upd_same⟩ (fun _ _ _ h => .of (h.1 _ _ ht)) ?_ ?_
    · rintro j x' H2 hj ⟨s2, e2⟩
      obtain ⟨c, hc, rfl⟩ := item_map hj
      have ft := filter_take (f := fun c => decide (c ∉ ([y, z] : List Str))) hc
      refine ⟨rfl, .str c, rfl, .str y, rfl, .str z, rfl, line_of (show 2 ≤ 1000 by decide), fun u nu => ?_⟩
      have s3 := same_upd (o := HO.tup [V.str y, V.str z]) nu
      have eu : (upd H2 u (.tup [V.str y, V.str z])) u = some (.tup (([y, z] : List Str).map V.str)) := upd_same
      have e3 := s3 _ _ e2
      generalize upd H2 u (.tup [V.str y, V.str z]) = H3 at s3 eu e3 ⊢
      have s13 := s2.trans s3
      refine ⟨u, _, rfl, .inr (.of eu), rfl, flat_strs [y, z], _, rfl, ?_⟩
      rw [inV_str]
      by_cases cc : c ∈ ([y, z] : List Str)
      · rw [decide_eq_true cc]
        rw [if_neg (by rw [decide_eq_false fun k => k cc]; exact Bool.false_ne_true), List.append_nil] at ft
        refine iteF ⟨s13, ?_⟩
        rw [ft]
        exact e3
      · rw [decide_eq_false cc]
        rw [if_pos (decide_eq_true cc)] at ft
        refine iteT ⟨.str c, rfl, _, e3, ?_, same_mut s13 nD, ?_⟩
        · rw [List.length_map]
          have := List.length_filter_le (fun c => decide (c ∉ ([y, z] : List Str))) (zs.take j)
          rw [List.length_take] at this
          exact small1000 (by omega)
        · rw [upd_same, ft, List.map_append]
          rfl
    rintro H2 ⟨s2, e2⟩
    rw [List.length_map, List.take_length] at e2
    have lf6 : (zs.filter fun c => decide (c ∉ ([y, z] : List Str))).length ≤ 6 := Nat.le_trans (List.length_filter_le _ _) z6
    refine ⟨p, D, _, x, k, rfl, s2 _ _ hp, .inr e2, lf6, fun c hc => okz c (List.mem_filter.mp hc).1, wx, by omega, fun u ws y3 H3 pm3 b3 nu eu hp3 w3 => ?_⟩
    have lws : ws.length ≤ 6 := by rw [pm3.length_eq]; exact lf6
    have wnd : ws.Nodup := pm3.nodup_iff.mpr (nd.sublist List.filter_sublist)
    have wsub : ∀ c ∈ ws, c ∈ zs ∧ c ≠ y ∧ c ≠ z := fun c hc => by
      obtain ⟨h1, h2⟩ := List.mem_filter.mp (pm3.mem_iff.mp hc)
      have h2 := of_decide_eq_true h2
      exact ⟨h1, fun e => h2 (by rw [e]; exact List.mem_cons_self), fun e => h2 (by rw [e]; exact List.mem_cons_of_mem _ List.mem_cons_self)⟩
    have b03 : But p H H3 := (show But p H H2 from fun c o _ h => s2 c o h).trans b3
    have up : u ≠ p := fun e => by rw [e, hp3] at eu; cases eu
    -- the way
    refine ⟨.str y, rfl, line_of (show 1 ≤ 1000 by decide), fun u1 n1 => ?_⟩
    have s4 := same_upd (o := HO.tup [V.str y]) n1
    have e4 : (upd H3 u1 (.tup [V.str y])) u1 = some (.tup [V.str y]) := upd_same
    have u1p : u1 ≠ p := (ne_of_none hp3 n1).symm
    generalize upd H3 u1 (.tup [V.str y]) = H4 at s4 e4 ⊢
    refine ⟨.ref u, rfl, .ref p, rfl, .ref u, rfl, u, _, rfl, .inr (.of (s4 _ _ eu)), _, _, rfl, rfl, p, _, y3, _, rfl, s4 _ _ hp3, w3, by omega, by rw [List.length_map]; omega, size_ok (by rw [List.length_map]; omega) (by rw [List.length_map]; omega), fun d y5 d0 d1 w5 => ?_⟩
    rw [List.length_map] at d1
    obtain ⟨d, rfl⟩ := Int.eq_ofNat_of_zero_le d0
    have b5 : But p H (upd H4 p (.lst y5)) := (b03.same s4).upd _
    have hp5 : (upd H4 p (.lst y5)) p = some (.lst y5) := upd_same
    have eu5 : (upd H4 p (.lst y5)) u = some (.tup (ws.map V.str)) := by rw [upd_ne up]; exact s4 _ _ eu
    have e45 : (upd H4 p (.lst y5)) u1 = some (.tup [V.str y]) := by rw [upd_ne u1p]; exact e4
    generalize upd H4 p (.lst y5) = H5 at b5 hp5 eu5 e45 ⊢
    refine ⟨d, rfl, ?_⟩
    refine slX_of eu5 fun q6 H6 es6 s6 => ?_
    have ct : cutV (ws.map V.str) none (some (d : Int)) = (ws.take d).map V.str := by
      rw [cut_to (by rw [List.length_map]; omega), List.map_take]
    rw [ct] at es6
    have lt6 : (ws.take d).length ≤ 6 := by rw [List.length_take]; omega
    refine catA_of (s6 _ _ e45) es6 (line_of (by rw [List.length_map]; show 1 + _ ≤ 1000; omega)) fun q7 H7 es7 s7 => ?_
    refine ⟨.str z, rfl, line_of (show 1 ≤ 1000 by decide), fun u2 n2 => ?_⟩
    have s8 := same_upd (o := HO.tup [V.str z]) n2
    have e8 : (upd H7 u2 (.tup [V.str z])) u2 = some (.tup [V.str z]) := upd_same
    have es8 := s8 _ _ es7
    generalize upd H7 u2 (.tup [V.str z]) = H8 at s8 e8 es8 ⊢
    refine catA_of es8 e8 (line_of (by rw [List.length_append, List.length_map]; show 1 + _ + 1 ≤ 1000; omega)) fun wa H9 es9 s9 => ?_
    have s59 := s6.trans (s7.trans (s8.trans s9))
    obtain ⟨way, hway⟩ : ∃ way, way = y :: (ws.take d ++ [z]) := ⟨_, rfl⟩
    have ewa : H9 wa = some (.tup (way.map V.str)) := by
      rw [es9, hway, List.map_cons, List.map_append]
      rfl
    have wft : WayFT zs y z way := by
      rw [hway]
      refine ⟨List.nodup_cons.mpr ⟨fun h => ?_, List.nodup_append.mpr ⟨wnd.sublist (List.take_sublist _ _), by simp, fun a ha b hb e => ?_⟩⟩, fun a ha => ?_, rfl, ?_⟩
      · rcases List.mem_append.mp h with h | h
        · exact (wsub _ (List.mem_of_mem_take h)).2.1 rfl
        · exact yz (List.mem_singleton.mp h)
      · rw [List.mem_singleton.mp hb] at e
        exact (wsub _ (List.mem_of_mem_take ha)).2.2 e
      · rcases List.mem_cons.mp ha with rfl | ha
        · exact my
        · rcases List.mem_append.mp ha with ha | ha
          · exact (wsub _ (List.mem_of_mem_take ha)).1
          · rw [List.mem_singleton.mp ha]
            exact mz
      · rw [← List.cons_append]
        exact List.getLast?_concat
    have b9 := b5.same s59
    have hp9 := s59 _ _ hp5
    have eu9 := s59 _ _ eu5
    have wap : wa ≠ p := fun e => by rw [e, hp9] at ewa; cases ewa
    clear es9 es8 e8 es7 es6 s6 s7 s8 s9 e45
    -- the lot
    refine ⟨.str y, rfl, line_of (show 1 ≤ 1000 by decide), fun l1 n1 => ?_⟩
    have s10 := same_upd (o := HO.lst [V.str y]) n1
    have e10 : (upd H9 l1 (.lst [V.str y])) l1 = some (.lst [V.str y]) := upd_same
    have l1p : l1 ≠ p := (ne_of_none hp9 n1).symm
    generalize upd H9 l1 (.lst [V.str y]) = H10 at s10 e10 ⊢
    refine ⟨.ref p, rfl, .ref u, rfl, p, u, ws, y5, _, rfl, s10 _ _ hp9, .inl (s10 _ _ eu9), lws, fun c hc => okz c (wsub c hc).1, w5, by omega, fun v vs y11 H11 pm11 b11 nv ev hp11 w11 => ?_⟩
    have b11' := (b9.same s10).trans b11
    have ewa11 := b11 _ _ wap (s10 _ _ ewa)
    have e11 := b11 _ _ l1p e10
    have eu11 := b11 _ _ up (s10 _ _ eu9)
    have vp : v ≠ p := fun e => by rw [e, hp11] at ev; cases ev
    refine ⟨.ref p, rfl, .ref u, rfl, u, _, rfl, .inr (.of eu11), _, _, rfl, rfl, p, _, y11, _, rfl, hp11, w11, by omega, by rw [List.length_map]; omega, size_ok (by rw [List.length_map]; omega) (by rw [List.length_map]; omega), fun d2 y12 d20 d21 w12 => ?_⟩
    rw [List.length_map] at d21
    obtain ⟨d2, rfl⟩ := Int.eq_ofNat_of_zero_le d20
    have b12 : But p H (upd H11 p (.lst y12)) := b11'.upd _
    have hp12 : (upd H11 p (.lst y12)) p = some (.lst y12) := upd_same
    have ev12 : (upd H11 p (.lst y12)) v = some (.tup (vs.map V.str)) := by rw [upd_ne vp]; exact ev
    have e12 : (upd H11 p (.lst y12)) l1 = some (.lst [V.str y]) := by rw [upd_ne l1p]; exact e11
    have ewa12 : (upd H11 p (.lst y12)) wa = some (.tup (way.map V.str)) := by rw [upd_ne wap]; exact ewa11
    generalize upd H11 p (.lst y12) = H12 at b12 hp12 ev12 e12 ewa12 ⊢
    refine ⟨d2, rfl, ?_⟩
    refine slX_of ev12 fun q13 H13 es13 s13 => ?_
    have lvs : vs.length = ws.length := pm11.length_eq
    have ct2 : cutV (vs.map V.str) none (some (d2 : Int)) = (vs.take d2).map V.str := by
      rw [cut_to (by rw [List.length_map]; omega), List.map_take]
    rw [ct2] at es13
    refine ⟨q13, _, rfl, .inr (.of es13), fun l2 n2 => ?_⟩
    have s14 := same_upd (o := HO.lst ((vs.take d2).map V.str)) n2
    have e14 : (upd H13 l2 (.lst ((vs.take d2).map V.str))) l2 = some (.lst ((vs.take d2).map V.str)) := upd_same
    have e14' := s14 _ _ (s13 _ _ e12)
    generalize upd H13 l2 (.lst ((vs.take d2).map V.str)) = H14 at s14 e14 e14' ⊢
    have lt14 : (vs.take d2).length ≤ 6 := by rw [List.length_take]; omega
    refine ⟨l1, l2, _, _, rfl, rfl, e14', e14, line_of (by rw [List.length_map]; show 1 + _ ≤ 1000; omega), fun la nla => ?_⟩
    obtain ⟨R, hR⟩ : ∃ R, R = y :: vs.take d2 := ⟨_, rfl⟩
    have eR : ([V.str y] ++ (vs.take d2).map V.str) = R.map V.str := by rw [hR]; rfl
    rw [eR]
    have s15 := same_upd (o := HO.lst (R.map V.str)) nla
    have ela : (upd H14 la (.lst (R.map V.str))) la = some (.lst (R.map V.str)) := upd_same
    generalize upd H14 la (.lst (R.map V.str)) = H15 at s15 ela ⊢
    have s1215 := s13.trans (s14.trans s15)
    have vsub : ∀ c ∈ vs, c ∈ zs ∧ c ≠ y ∧ c ≠ z := fun c hc => wsub c (pm11.mem_iff.mp hc)
    have rnd : R.Nodup := by
      rw [hR]
      exact List.nodup_cons.mpr ⟨fun h => (vsub _ (List.mem_of_mem_take h)).2.1 rfl, (pm11.nodup_iff.mpr wnd).sublist (List.take_sublist _ _)⟩
    have rsub : ∀ c ∈ R, c ∈ zs := fun c hc => by
      rw [hR] at hc
      rcases List.mem_cons.mp hc with rfl | hc
      · exact my
      · exact (vsub c (List.mem_of_mem_take hc)).1
    have yR : y ∈ R := by rw [hR]; exact List.mem_cons_self
    have zR : z ∉ R := fun h => by
      rw [hR] at h
      rcases List.mem_cons.mp h with h | h
      · exact yz h.symm
      · exact (vsub z (List.mem_of_mem_take h)).2.2 rfl
    have b15 := b12.same s1215
    have hp15 := s1215 _ _ hp12
    have ewa15 := s1215 _ _ ewa12
    clear hR hway eR e14 e14' es13 s13 s14 s15 ev12 e12
    have pk15 := pk.kp (.but b15) hp
    have hM15 := b15 _ _ Mp hM
    have hF15 := b15 _ _ Fp hF
    -- the force of the way
    have two := way_two wft yz
    have lw6 := few z6 wft.1 wft.2.1
    refine ⟨.ref wa, rfl, wa, _, rfl, .inr (.of ewa15), 1, _, rfl, ⟨by decide, by decide, by omega, by rw [List.length_map]; omega⟩, fun D nD => ?_⟩
    rw [List.length_map, show ((way.length : Int) - 1).toNat = way.length - 1 by omega]
    refine lc_range (lo := 1) (n := way.length - 1) (fun i H' => Same H15 H' ∧ H' D = some (.lst ((((stepsW way).take i).map fun p => marg rows p.1 p.2).map V.int))) ⟨same_upd nD, upd_same⟩ ?_ ?_
    · rintro i H1 hi ⟨s1, e1⟩
      obtain ⟨a, b, hx, hy, hs⟩ := stepsW_at (way := way) (i := i) (by omega)
      have ms := List.mem_of_getElem? hs
      obtain ⟨i1, i2⟩ := steps_in ms
      have ht1 := s1 _ _ ewa15
      refine ⟨rfl, .ref M, rfl, .ref wa, rfl, .int (1 + (i : Int)), rfl, _, _, rfl, rfl, wa, _, _, .str a, rfl, rfl, .of ht1, ?_, .ref wa, rfl, .int (1 + (i : Int)), rfl, wa, _, _, .str b, rfl, rfl, .of ht1, ?_, line_of (show 2 ≤ 1000 by decide), fun u nu => ?_⟩
      · rw [show (1 + (i : Int) - 1) = ((i : Nat) : Int) by omega]
        exact atI_nat (j := i) (by rw [List.getElem?_map, hx]; rfl)
      · rw [show (1 + (i : Int)) = ((i + 1 : Nat) : Int) by omega]
        exact atI_nat (j := i + 1) (by rw [List.getElem?_map, hy]; rfl)
      have s2 := same_upd (o := HO.tup [V.str a, V.str b]) nu
      have eu : (upd H1 u (.tup [V.str a, V.str b])) u = some (.tup [V.str a, V.str b]) := upd_same
      have e2 := s2 _ _ e1
      generalize upd H1 u (.tup [V.str a, V.str b]) = H2 at s2 eu e2 ⊢
      have s12 := s1.trans s2
      refine ⟨M, _, rfl, DGet.rd (.inl (s12 _ _ hM15)) (wft.2.1 _ i1) (wft.2.1 _ i2) (steps_ne wft.1 ms) eu, _, e2, small1000 (by rw [List.length_map, List.length_map, List.length_take, steps_len]; omega), same_mut s12 nD, ?_⟩
      rw [upd_same, take_more hs, List.map_append, List.map_append]
      rfl
    rintro H16 ⟨s16, e16⟩
    have ls := steps_len way
    rw [List.take_of_length_le (by omega)] at e16
    refine ⟨D, _, rfl, .of e16, by rw [List.length_map]; omega, fun low hm hle => ?_⟩
    have flow : IsForce (marg rows) way low := by
      refine ⟨?_, fun p hp => hle _ (List.mem_map.mpr ⟨p, hp, rfl⟩)⟩
      obtain ⟨p, hp, e⟩ := List.mem_map.mp hm
      exact ⟨p, hp, e⟩
    clear e16 hm hle ls
    -- the greatest step out of the lot
    have hM16 := s16 _ _ hM15
    refine ⟨M, _, hM16, trivial, fun od => ?_⟩
    have eMf : (upd H16 M (.frz od (.dT (tab2 zs (marg rows) zs)))) M = some (.frz od (.dT (tab2 zs (marg rows) zs))) := upd_same
    have back : ∀ {H'}, Same (upd H16 M (.frz od (.dT (tab2 zs (marg rows) zs)))) H' → Same H16 (upd H' M (.dT (tab2 zs (marg rows) zs))) := fun s => lock_same od hM16 s
    have laM : la ≠ M := fun e => by rw [e, hM15] at ela; cases ela
    have elaf : (upd H16 M (.frz od (.dT (tab2 zs (marg rows) zs)))) la = some (.lst (R.map V.str)) := by
      rw [upd_ne laM]
      exact s16 _ _ ela
    generalize upd H16 M (.frz od (.dT (tab2 zs (marg rows) zs))) = HF at eMf back elaf ⊢
    have lt2 : (tab2 zs (marg rows) zs).length = (pairsOf zs zs).length := by rw [tab2_pairs, List.length_map]
    have lp36 : (pairsOf zs zs).length ≤ 36 := by
      rw [← lt2]
      have a1 := tab2_len (marg rows) zs zs
      have a3 : zs.length * zs.length ≤ 6 * 6 := Nat.mul_le_mul z6 z6
      omega
    refine ⟨.ref M, rfl, M, od, rfl, .inr ⟨_, eMf, fun D2 nD2 => ?_⟩⟩
    have D2M : D2 ≠ M := fun e => by rw [e, eMf] at nD2; cases nD2
    refine lc_it walk_keysT (fun i H' => Same HF H' ∧ H' D2 = some (.lst (((((pairsOf zs zs).take i).filter fun q => decide (q.1 ∈ R) && decide (q.2 ∉ R)).map fun q => marg rows q.1 q.2).map V.int))) ⟨same_upd nD2, upd_same⟩ (fun _ _ _ h => h.1 _ _ eMf) ?_ ?_
    · rintro i x' H1 H2 hi ⟨s1, e1⟩ ⟨rfl, k', v', qa, hk', rfl, hqa⟩
      rw [lt2] at hi
      obtain ⟨pq, hpq⟩ : ∃ pq, (pairsOf zs zs)[i]? = some pq := ⟨_, List.getElem?_eq_getElem hi⟩
      have ek : k' = [.inr pq.1, .inr pq.2] := by
        rw [tab2_pairs, List.getElem?_map, hpq] at hk'
        cases hk'
        rfl
      subst ek
      have hqa : H2 qa = some (.tup [.str pq.1, .str pq.2]) := hqa
      obtain ⟨m1', m2', ne⟩ := mem_pairs.mp (List.mem_of_getElem? hpq)
      have ft : ((pairsOf zs zs).take (i + 1)).filter (fun q => decide (q.1 ∈ R) && decide (q.2 ∉ R)) = ((pairsOf zs zs).take i).filter (fun q => decide (q.1 ∈ R) && decide (q.2 ∉ R)) ++ if (decide (pq.1 ∈ R) && decide (pq.2 ∉ R)) = true then [pq] else [] := by
        rw [take_more hpq, List.filter_append, List.filter_cons, List.filter_nil]
      have ela1 := s1 _ _ elaf
      refine ⟨rfl, .ref qa, rfl, qa, _, 0, .str pq.1, rfl, rfl, .of hqa, atI_nat (j := 0) rfl, .ref la, rfl, la, _, rfl, .inl (.of ela1), rfl, flat_strs R, _, rfl, ?_⟩
      rw [inV_str]
      by_cases c1 : pq.1 ∈ R
      · rw [decide_eq_true c1]
        refine iteT ⟨.ref qa, rfl, qa, _, 1, .str pq.2, rfl, rfl, .of hqa, atI_nat (j := 1) rfl, .ref la, rfl, la, _, rfl, .inl (.of ela1), rfl, flat_strs R, _, rfl, ?_⟩
        rw [inV_str]
        by_cases c2 : pq.2 ∈ R
        · rw [decide_eq_true c2]
          rw [if_neg (by rw [decide_eq_true c1, decide_eq_false (fun k => k c2)]; exact Bool.false_ne_true), List.append_nil] at ft
          refine iteF ⟨s1, ?_⟩
          rw [ft]
          exact e1
        · rw [decide_eq_false c2]
          rw [if_pos (by rw [decide_eq_true c1, decide_eq_true c2]; rfl)] at ft
          refine iteT ⟨.ref M, rfl, .ref qa, rfl, M, _, rfl, DGet.rd (.inr ⟨od, s1 _ _ eMf⟩) m1' m2' ne hqa, _, e1, ?_, same_mut s1 nD2, ?_⟩
          · rw [List.length_map, List.length_map]
            have := List.length_filter_le (fun q : Str × Str => decide (q.1 ∈ R) && decide (q.2 ∉ R)) ((pairsOf zs zs).take i)
            rw [List.length_take] at this
            exact small1000 (by omega)
          · rw [upd_same, ft, List.map_append, List.map_append]
            rfl
      · rw [decide_eq_false c1]
        rw [if_neg (by rw [decide_eq_false c1, Bool.false_and]; exact Bool.false_ne_true), List.append_nil] at ft
        refine iteF (iteF ⟨s1, ?_⟩)
        rw [ft]
        exact e1
    rintro H1 ⟨s1, e1⟩
    rw [lt2, List.take_length] at e1
    have s17 := back s1
    have e17 : (upd H1 M (.dT (tab2 zs (marg rows) zs))) D2 = some (.lst ((((pairsOf zs zs).filter fun q => decide (q.1 ∈ R) && decide (q.2 ∉ R)).map fun q => marg rows q.1 q.2).map V.int)) := by rw [upd_ne D2M]; exact e1
    have inF : ∀ {a b : Str}, a ∈ R → b ∈ zs → b ∉ R → (a, b) ∈ (pairsOf zs zs).filter fun q => decide (q.1 ∈ R) && decide (q.2 ∉ R) := fun {a b} ha hb nb => List.mem_filter.mpr ⟨mem_pairs.mpr ⟨rsub a ha, hb, fun e => nb ((show a = b from e) ▸ ha)⟩, by rw [decide_eq_true ha, decide_eq_true nb]; rfl⟩
    have outF : ∀ {q : Str × Str}, q ∈ ((pairsOf zs zs).filter fun q => decide (q.1 ∈ R) && decide (q.2 ∉ R)) → q.1 ∈ R ∧ q.2 ∈ zs ∧ q.2 ∉ R := fun {q} hq => by
      obtain ⟨h1, h2⟩ := List.mem_filter.mp hq
      rw [Bool.and_eq_true] at h2
      exact ⟨of_decide_eq_true h2.1, (mem_pairs.mp h1).2.1, of_decide_eq_true h2.2⟩
    refine ⟨s1 _ _ eMf, D2, _, rfl, .of e17, by rw [List.length_map]; exact List.length_pos_of_mem (inF yR mz zR), fun high hm hle => ?_⟩
    generalize upd H1 M (.dT (tab2 zs (marg rows) zs)) = H17 at s17 e17 ⊢
    obtain ⟨qh, hqh, eqh⟩ := List.mem_map.mp hm
    have hall : ∀ k : Int, ((outS zs R).all fun q => decide (marg rows q.1 q.2 ≤ k)) = decide (high ≤ k) := fun k => by
      rw [Bool.eq_iff_iff, List.all_eq_true, decide_eq_true_eq]
      constructor
      · intro h
        obtain ⟨o1, o2, o3⟩ := outF hqh
        have := h qh (List.mem_flatMap.mpr ⟨qh.1, o1, List.mem_map.mpr ⟨qh.2, List.mem_filter.mpr ⟨o2, decide_eq_true o3⟩, rfl⟩⟩)
        rw [← eqh]
        exact of_decide_eq_true this
      · intro h q hq
        obtain ⟨a, ha, hb⟩ := List.mem_flatMap.mp hq
        obtain ⟨b, hb, e⟩ := List.mem_map.mp hb
        obtain ⟨b1, b2⟩ := List.mem_filter.mp hb
        have := hle _ (List.mem_map.mpr ⟨(a, b), inF ha b1 (of_decide_eq_true b2), rfl⟩)
        rw [← e]
        exact decide_eq_true (Int.le_trans this h)
    obtain ⟨n, hn, _⟩ := cut_any (g := marg rows) my mz yz
    have eS := strN_of hn
    have lowS : low ≤ n := hn.2 way low wft flow
    have highS : n ≤ high := by
      obtain ⟨wy, hw, hf⟩ := hn.1
      exact CutOf.most (R := R) ⟨yR, zR, fun a ha b hb nb => hle _ (List.mem_map.mpr ⟨(a, b), inF ha hb nb, rfl⟩)⟩ hw hf
    clear e17 hm hle hqh eqh s1 e1
    have s1517 := s16.trans s17
    have pk17 := pk15.same s1517
    have hF17 := s1517 _ _ hF15
    have ewa17 := s1517 _ _ ewa15
    have ela17 := s1517 _ _ ela
    have gd : ∀ {Hc : Hp} {u : Addr}, Same H17 Hc → Hc u = some (.tup [.str y, .str z]) → DGet Hc F (.ref u) (some (.int n)) := fun {Hc u} s e => by
      have := DGet.rd (.inl (s _ _ hF17)) my mz yz e
      rw [eS] at this
      exact this
    have oy : optD zs (.str y) = true := decide_eq_true my
    have oz : optD zs (.str z) = true := decide_eq_true mz
    refine ⟨.int low, rfl, .ref F, rfl, .str y, rfl, .str z, rfl, line_of (show 2 ≤ 1000 by decide), fun u3 n3 => ?_⟩
    have s18 := same_upd (o := HO.tup [V.str y, V.str z]) n3
    have g18 := gd s18 upd_same
    generalize upd H17 u3 (.tup [V.str y, V.str z]) = H18 at s18 g18 ⊢
    refine ⟨F, _, rfl, g18, _, _, rfl, rfl, _, rfl, ?_⟩
    rw [decide_eq_false (show ¬ n < low by omega)]
    refine iteF ⟨.int high, rfl, .ref F, rfl, .str y, rfl, .str z, rfl, line_of (show 2 ≤ 1000 by decide), fun u4 n4 => ?_⟩
    have s19' := same_upd (o := HO.tup [V.str y, V.str z]) n4
    have s19 := s18.trans s19'
    have g19 := gd s19 upd_same
    generalize upd H18 u4 (.tup [V.str y, V.str z]) = H19 at s19 g19 ⊢
    refine ⟨F, _, rfl, g19, _, _, rfl, rfl, _, rfl, ?_⟩
    rw [decide_eq_false (show ¬ high < n by omega)]
    refine iteF ?_
    -- three numbers
    refine ⟨.int low, rfl, .int high, rfl, .ref F, rfl, .str y, rfl, .str z, rfl, line_of (show 2 ≤ 1000 by decide), fun u5 n5 => ?_⟩
    have s20' := same_upd (o := HO.tup [V.str y, V.str z]) n5
    have s20 := s19.trans s20'
    have g20 := gd s20 upd_same
    generalize upd H19 u5 (.tup [V.str y, V.str z]) = H20 at s20 g20 ⊢
    refine ⟨F, _, rfl, g20, line_of (show 3 ≤ 1000 by decide), fun tn ntn => ?_⟩
    have s21' := same_upd (o := HO.tup [V.int low, V.int high, V.int n]) ntn
    have s21 := s20.trans s21'
    have e21 : (upd H20 tn (.tup [V.int low, V.int high, V.int n])) tn = some (.tup (([low, high, n] : List Int).map V.int)) := upd_same
    generalize upd H20 tn (.tup [V.int low, V.int high, V.int n]) = H21 at s21 e21 ⊢
    have shows : ∀ {Hc : Hp} {pa : Addr}, Same H17 Hc → Hc pa = some (.tup [.ref wa, .ref la]) → PapOk Hc (marg rows) zs y z pa wa la way R low := fun {Hc pa} s e => ⟨e, s _ _ ewa17, s _ _ ela17, wft, flow, rnd, rsub, yR, zR⟩
    refine ⟨tn, rfl, ⟨_, .of e21⟩, ?_⟩
    refine for_tup (K := K) (a := tn) (xs := ([low, high, n] : List Int).map V.int) (fun i σ H' => (∃ x12 x13 x14 x15 : Option V, σ = [some (.ref p), some (.ref pp), some (.ref M), some (.ref F), some (.str y), some (.str z), some (.ref t), some (.ref u), some (.ref wa), some (.ref la), some (.int low), some (.int high), x12, x13, x14, x15]) ∧ Same H21 H') ⟨⟨_, _, _, _, rfl⟩, Same.refl _⟩ (fun _ _ _ _ h => .of (h.2 _ _ e21)) ?_ ?_
    · rintro i x' σ H22 hi ⟨⟨x12, x13, x14, x15, rfl⟩, s22⟩
      obtain ⟨num, hnum, rfl⟩ := item_map hi
      have s1722 := s21.trans s22
      refine ⟨.ref pp, rfl, .str y, rfl, .str z, rfl, .int num, rfl, .ref wa, rfl, .ref la, rfl, line_of (show 2 ≤ 1000 by decide), fun pa npa => ?_⟩
      have s23 := same_upd (o := HO.tup [V.ref wa, V.ref la]) npa
      have e23 : (upd H22 pa (.tup [V.ref wa, V.ref la])) pa = some (.tup [V.ref wa, V.ref la]) := upd_same
      generalize upd H22 pa (.tup [V.ref wa, V.ref la]) = H23 at s23 e23 ⊢
      have s1723 := s1722.trans s23
      refine ⟨rfl, rfl, pp, t, r, pa, zs, rows, .str y, .str z, .str y, .str z, num, rfl, pk17.same s1723, rfl, rfl, (fun e => ?_), (fun _ e => ?_), fun y' z' e1 e2 _ _ => ?_⟩
      · rw [oy] at e
        cases e
      · rw [oz] at e
        cases e
      cases e1
      cases e2
      refine ⟨wa, la, way, R, low, yz, shows s1723 e23, fun H24 s24 => ⟨_, rfl, ?_⟩⟩
      rw [hall]
      have s2124 := s22.trans (s23.trans s24)
      by_cases c : (decide (num = low) && decide (high ≤ num)) = true
      · rw [c]
        rw [Bool.and_eq_true] at c
        have c1 : num = low := of_decide_eq_true c.1
        have c2 : high ≤ num := of_decide_eq_true c.2
        refine iteT ⟨.int num, rfl, .ref F, rfl, .str y, rfl, .str z, rfl, line_of (show 2 ≤ 1000 by decide), fun u6 n6 => ?_⟩
        have s25 := same_upd (o := HO.tup [V.str y, V.str z]) n6
        have g25 := gd ((s1723.trans s24).trans s25) upd_same
        generalize upd H24 u6 (.tup [V.str y, V.str z]) = H25 at s25 g25 ⊢
        obtain rfl : num = n := by omega
        refine ⟨F, _, rfl, g25, rfl, _, rfl, ite2 (fun e => absurd e (by simp)) (fun _ => ?_)⟩
        exact ⟨⟨_, _, _, _, rfl⟩, s2124.trans s25⟩
      · rw [Bool.eq_false_iff.mpr c]
        exact iteF (iteF ⟨⟨_, _, _, _, rfl⟩, s2124⟩)
    · rintro σ H22 ⟨⟨x12, x13, x14, x15, rfl⟩, s22⟩
      have s1722 := s21.trans s22
      refine ⟨.ref pp, rfl, .str y, rfl, .str z, rfl, .int low, rfl, .ref wa, rfl, .ref la, rfl, line_of (show 2 ≤ 1000 by decide), fun pa npa => ?_⟩
      have s23 := same_upd (o := HO.tup [V.ref wa, V.ref la]) npa
      have e23 : (upd H22 pa (.tup [V.ref wa, V.ref la])) pa = some (.tup [V.ref wa, V.ref la]) := upd_same
      generalize upd H22 pa (.tup [V.ref wa, V.ref la]) = H23 at s23 e23 ⊢
      have s1723 := s1722.trans s23
      refine ⟨rfl, rfl, pp, t, r, pa, zs, rows, .str y, .str z, .str y, .str z, low, rfl, pk17.same s1723, rfl, rfl, (fun e => ?_), (fun _ e => ?_), fun y' z' e1 e2 _ _ => ?_⟩
      · rw [oy] at e
        cases e
      · rw [oz] at e
        cases e
      cases e1
      cases e2
      refine ⟨wa, la, way, R, low, yz, shows s1723 e23, fun H24 s24 => ?_⟩
      rw [hall, decide_eq_true rfl, Bool.true_and]
      refine ⟨.int low, rfl, .int high, rfl, _, _, rfl, rfl, ?_⟩
      have s1524 := s1517.trans (s1723.trans s24)
      refine ⟨rfl, ?_⟩
      rw [decide_eq_true rfl]
      exact q y12 H24 (b15.same s1524) (s1524 _ _ hp15) (w12.mono (by omega))
end
/-! ### winners by ways: the leader, the top lot -/
theorem way_reach {f : Str → Str → Int} {zs : List Str} : ∀ {ws : List Str} {y : Str}, (∀ x ∈ ws, x ∈ zs) → (∀ s ∈ stepsW ws, 0 ≤ f s.1 s.2) → ws.head? = some y → ∀ x ∈ ws, Reach f zs y x
  | [], _, _, _, h, _, _ => by cases h
  | [a], y, m, _, h, x, hx => by
    cases h
    rw [List.mem_singleton.mp hx]
    exact .refl (m a List.mem_cons_self)
  | a :: b :: w, y, m, ok, h, x, hx => by
    cases h
    have m2 : ∀ x ∈ b :: w, x ∈ zs := fun x hx => m x (List.mem_cons_of_mem _ hx)
    have r : Reach f zs a a := .refl (m a List.mem_cons_self)
    rcases List.mem_cons.mp hx with rfl | hx
    · exact r
    · exact (r.step (m2 b List.mem_cons_self) (ok (a, b) List.mem_cons_self)).trans (way_reach m2 (fun s hs => ok s (List.mem_cons_of_mem _ hs)) rfl x hx)
theorem noW_of {g : Str → Str → Int} {zs : List Str} {x y : Str} (h : noW g zs x = true) (hy : y ∈ zs) (ne : y ≠ x) : strN g zs y x ≤ strN g zs x y := by
  unfold noW at h
  have := List.all_eq_true.mp h y hy
  rw [decide_eq_false ne, Bool.false_or] at this
  exact of_decide_eq_true this
theorem win_top {g : Str → Str → Int} {zs : List Str} (anti : ∀ x y, g y x = -g x y) {x : Str} (h : x ∈ winW g zs) : topB g zs x = true := by
  obtain ⟨mx, nx⟩ := List.mem_filter.mp h
  refine topB_iff.mpr fun y hy => ?_
  by_cases c : y = x
  · rw [c]
    exact .refl mx
  · have le := noW_of nx hy c
    have d1 := strN_dir (g := g) mx hy (fun e => c e.symm)
    have d2 := strN_dir (g := g) hy mx c
    have an := anti x y
    obtain ⟨n, hn, _⟩ := cut_any (g := g) mx hy (fun e => c e.symm)
    have en := strN_of hn
    obtain ⟨way, hw, hf⟩ := hn.1
    exact way_reach hw.2.1 (fun s hs => Int.le_trans (by omega) (hf.2 s hs)) hw.2.2.1 y (List.mem_of_getLast? hw.2.2.2)
theorem filt_one {α : Type} {f : α → Bool} {a : α} : ∀ {l : List α}, l.Nodup → a ∈ l → f a = true → (∀ x ∈ l, x ≠ a → f x = false) → l.filter f = [a]
  | b :: l, nd, m, fa, no => by
    obtain ⟨n1, n2⟩ := List.nodup_cons.mp nd
    rw [List.filter_cons]
    rcases List.mem_cons.mp m with rfl | m
    · rw [if_pos fa, List.filter_eq_nil_iff.mpr fun x hx => by
        rw [no x (List.mem_cons_of_mem _ hx) fun e => n1 (by rw [← e]; exact hx)]
        exact Bool.false_ne_true]
    · rw [if_neg (by rw [no b List.mem_cons_self fun e => n1 (by rw [e]; exact m)]; exact Bool.false_ne_true)]
      exact filt_one n2 m fa fun x hx => no x (List.mem_cons_of_mem _ hx)
theorem lead_win {g : Str → Str → Int} {zs : List Str} (nd : zs.Nodup) (anti : ∀ x y, g y x = -g x y) {z : Str} (hz : z ∈ zs) (h : ∀ x ∈ zs, x ≠ z → 0 < g z x) : winW g zs = [z] := by
  have up : ∀ x ∈ zs, x ≠ z → strN g zs x z < strN g zs z x := fun x hx xz => by
    have d := strN_dir (g := g) hz hx xz.symm
    have := h x hx xz
    obtain ⟨n, hn, _⟩ := cut_any (g := g) hx hz xz
    have en := strN_of hn
    obtain ⟨way, hw, hf⟩ := hn.1
    have : n ≤ -1 := CutOf.most (R := zs.filter fun x => decide (x ≠ z)) ⟨List.mem_filter.mpr ⟨hx, decide_eq_true xz⟩, fun m => of_decide_eq_true (List.mem_filter.mp m).2 rfl, fun a ha b hb nb => by
      obtain ⟨ma, na⟩ := List.mem_filter.mp ha
      have na := of_decide_eq_true na
      have eb : b = z := Classical.byContradiction fun c => nb (List.mem_filter.mpr ⟨hb, decide_eq_true c⟩)
      rw [eb]
      have := h a ma na
      have := anti z a
      omega⟩ hw hf
    omega
  refine filt_one nd hz ?_ fun x hx xz => ?_
  · unfold noW
    rw [List.all_eq_true]
    intro y hy
    by_cases c : y = z
    · rw [decide_eq_true c]
      rfl
    · rw [decide_eq_false c, Bool.false_or]
      have := up y hy c
      exact decide_eq_true (by omega)
  · unfold noW
    rw [List.all_eq_false]
    refine ⟨z, hz, ?_⟩
    rw [decide_eq_false xz.symm, Bool.false_or]
    have := up x hx xz
    rw [decide_eq_false (by omega)]
    exact Bool.false_ne_true
theorem lead_of {G : Str → Str → Bool} {zs : List Str} {z : Str} (h : lead G zs = some z) : z ∈ zs ∧ ∀ x ∈ zs, x ≠ z → G z x = true := by
  unfold lead at h
  refine ⟨List.mem_of_find?_eq_some h, fun x hx xz => ?_⟩
  have := List.find?_some h
  exact List.all_eq_true.mp this x (List.mem_filter.mpr ⟨hx, decide_eq_true xz⟩)
theorem lock_ext {H H' : Hp} {d : Addr} {u : HO} (od : Obj) (h : H d = some u) (s : LamX.ExtN (upd H d (.frz od u)) H') : LamX.ExtN H (upd H' d u) := fun b o e n => by
  by_cases c : b = d
  · subst c
    rw [h] at e
    rw [upd_same]
    exact e
  · rw [upd_ne c]
    exact s b o (by rw [upd_ne c]; exact e) n
theorem PollOk.lock {C p o u d : Addr} {H : Hp} {zs : List Str} {rows : List (Bal × Int)} {kvs : List (List Key × V)} {x : HO} (hd : H d = some (.dT kvs)) (h : PollOk C H p o u zs rows) : PollOk C (upd H d x) p o u zs rows := by
  obtain ⟨⟨dx, hp⟩, ho, hv, ok, rok⟩ := h
  exact ⟨⟨dx, lock_ne hd (fun e => by cases e) hp⟩, lock_ne hd (fun e => by cases e) ho, hv.keep fun _ _ e => lock_ne hd (fun e => by cases e) e, ok, rok⟩
/-! ### the law -/
theorem eqv_same (d : PyData) (h : SeqAt.shaped d = true) : PyData.eqv d d = true := SeqAt.eqv_refl d (SeqAt.canLay_of_shaped h)
theorem made_same {H H' : Hp} {a dx : Addr} {C : Addr} (n1 : H a = none) (n2 : H dx = none) (b : But a (upd (upd H dx (.own a)) a (.ins C dx [])) H') : Same H H' := fun y x h => by
  have y1 := ne_of_none h n1
  have y2 := ne_of_none h n2
  exact b y x y1 (by rw [upd_ne y1, upd_ne y2]; exact h)
theorem SqL.extN {K : PySem.W.Frag} {H H' : Hp} {a : Addr} {xs : List V} (k : LamX.ExtN H H') (h : SqL K H a xs) : SqL K H' a xs := by
  rcases h with (h | ⟨o, h⟩) | h
  · exact .inl (.inl (k _ _ h fun _ e => by cases e))
  · exact .inl (.inr ⟨o, k _ _ h fun _ e => by cases e⟩)
  · exact .inr h
theorem RowsOk.more {zs : List Str} {m n : Nat} {rows : List (Bal × Int)} (h : RowsOk zs m rows) (g : m ≤ n) : RowsOk zs n rows := ⟨Nat.le_trans h.1 g, h.2⟩
theorem prs_of {H : Hp} {zs : List Str} : ∀ {cs : List Addr}, (∀ c ∈ cs, ∃ y z : Str, H c = some (.tup [.str y, .str z]) ∧ y ∈ zs ∧ z ∈ zs ∧ y ≠ z) → ∃ qs : List Pr2, qs.map (·.1) = cs ∧ PrsAt H zs qs ∧ ∀ q ∈ qs, q.2.1 ≠ q.2.2
  | [], _ => ⟨[], rfl, fun q hq => (by cases hq), fun q hq => (by cases hq)⟩
  | c :: cs, h => by
    obtain ⟨qs, e, h1, h2⟩ := prs_of (cs := cs) fun c hc => h c (List.mem_cons_of_mem _ hc)
    obtain ⟨y, z, hc, my, mz, ne⟩ := h c List.mem_cons_self
    refine ⟨(c, (y, z)) :: qs, by rw [List.map_cons, e], fun q hq => ?_, fun q hq => ?_⟩
    · rcases List.mem_cons.mp hq with rfl | hq
      · exact ⟨hc, my, mz⟩
      · exact h1 q hq
    · rcases List.mem_cons.mp hq with rfl | hq
      · exact ne
      · exact h2 q hq
theorem keys_prs {H : Hp} {zs : List Str} {g : Str → Str → Int} {bs : List Addr} (h : IsKeys H (tab2 zs g zs) bs) : ∀ b ∈ bs, ∃ y z : Str, H b = some (.tup [.str y, .str z]) ∧ y ∈ zs ∧ z ∈ zs ∧ y ≠ z := by
  have aux : ∀ {a : List (List Key × V)} {b : List Addr}, IsKeys H a b → ∀ x ∈ b, ∃ e ∈ a, H x = some (.tup (e.1.map kV)) := by
    intro a b h
    induction h with
    | nil => exact fun x hx => by cases hx
    | @cons a b l m h _ ih =>
      intro x hx
      rcases List.mem_cons.mp hx with rfl | hx
      · exact ⟨a, List.mem_cons_self, h⟩
      · obtain ⟨e, h1, h2⟩ := ih x hx
        exact ⟨e, List.mem_cons_of_mem _ h1, h2⟩
  intro b hb
  obtain ⟨e, he, h1⟩ := aux h b hb
  obtain ⟨y, hy, z, hz, ne, rfl⟩ := mem_tab2.mp he
  exact ⟨y, z, h1, hy, hz, ne⟩
theorem cut_prs (cv : List Pr2) (lo hi : Option Int) : ∃ cw : List Pr2, cutV (cv.map fun q => V.ref q.1) lo hi = cw.map (fun q => V.ref q.1) ∧ ∀ q ∈ cw, q ∈ cv := by
  refine ⟨(cv.drop (HT.sIx (cv.map fun q => V.ref q.1).length 0 lo)).take (HT.sIx (cv.map fun q => V.ref q.1).length (cv.map fun q => V.ref q.1).length hi - HT.sIx (cv.map fun q => V.ref q.1).length 0 lo), ?_, fun q hq => List.mem_of_mem_drop (List.mem_of_mem_take hq)⟩
  unfold cutV
  rw [List.map_take, List.map_drop]
section
variable {P : Program} {w : World} {K : PySem.W.Frag} {mg : Str → Option Value} {base : Heap}
def FrW (a : Addr) (σ : L2.St) : Prop := ∃ y1 y2 y3 y4 y5 y6 y7 y8 y9 y10 y11 y12 y13 : Option V, σ = [some (.ref a), y1, y2, y3, y4, y5, y6, y7, y8, y9, y10, y11, y12, y13]
def sp_law (K : PySem.W.Frag) (cs : Tabs3) : Sp := fun vs H Q _ => ∃ (a : Addr) (ns : List Int), vs = [.ref a] ∧ SqL K H a (ns.map V.int) ∧ ns.length ≤ 63 ∧ (∀ t ∈ cs, H t.2.2 = some (.tbl #[])) ∧ ∀ H', Q (.bl true) H'
theorem ok_law (T : Txt K mg) (tb : ∀ t ∈ T.tabs, LamX.TabB base mg t.2.1 t.2.2) [WP T w] : FnOk P w K mg base CX0 10 T.f_law T.fd_law ["_law_script"] (sp_law K T.tabs) := by
  refine T.F_law.ok sc_law (fun vs H Q E h => ?_) (fun cdv A outer s H vs Q E hr h => ?_)
  · obtain ⟨a, ns, rfl, _⟩ := h
    rfl
  · obtain ⟨a, ns, rfl, hS, hlen, hT, q⟩ := h
    refine ⟨_, (pss_cons
 (ps_for PassesOwn.never rfl (pi_range1 rfl T.z_range (pa_cons (pe_callB (call_max2 rfl) (by rfl) T.z_max (by decide +kernel) (pa_cons pe_int (pa_cons (pe_callB (call_min2 rfl) (by rfl) T.z_min (by decide +kernel) (pa_cons pe_int (pa_cons (pe_callB call_len_seq (by rfl) T.z_len (by decide +kernel) (pa_cons (pv 0) pa_nil)) pa_nil))) pa_nil))) pa_nil)) (pg_name (i := 1) sc_law.nd rfl (Or.inl rfl))
 (pss_cons
 (ps_set (i := 2) sc_law.nd rfl (Or.inl rfl) (pe_call (ok_law_well T) (hr.mono (by decide)) (by rfl) T.g_law_well T.F_law_well.kp T.b_law_well .nil pass0 (pa_cons (pe_call (ok_law_cell_at T) (hr.mono (by decide)) (by rfl) T.g_law_cell_at T.F_law_cell_at.kp T.b_law_cell_at .nil pass0 (pa_cons (pv 0) (pa_cons (pv 1) pa_nil))) pa_nil)))
 (pss_cons
 (ps_asg (pe_call (ok_law_parts T) (hr.mono (by decide)) (by rfl) T.g_law_parts T.F_law_parts.kp T.b_law_parts .nil pass0 (pa_cons (pv 2) (pa_cons (pe_lst (pa_cons pe_int (pa_cons pe_int (pa_cons pe_int (pa_cons pe_int (pa_cons pe_int pa_nil)))))) pa_nil))) (pg_tup rfl (pgs_cons (pg_name (i := 3) sc_law.nd rfl (Or.inl rfl)) (pgs_cons (pg_name (i := 4) sc_law.nd rfl (Or.inl rfl)) pgs_nil))))
 (pss_cons
 (ps_set (i := 5) sc_law.nd rfl (Or.inr rfl) (pc_pos T.mk_Poll (ok_Poll_init T) (hr.mono (by decide)) (by rfl) T.k_Poll T.kb_Poll_init_3 (fun σ => atN σ) (pa_cons (pv 3) (pa_cons (pv 4) pa_nil))))
 (pss_cons
 (ps_set (i := 6) sc_law.nd rfl (Or.inl rfl) (pe_call (ok_margins T) (hr.mono (by decide)) (by rfl) T.g_margins T.F_margins.kp T.b_margins .nil pass0 (pa_cons (pv 5) pa_nil)))
 (pss_cons
 (ps_set (i := 7) sc_law.nd rfl (Or.inr rfl) (pe_callTy (call_dictT rfl (room3 hr)) (by rfl) T.z_dict (by decide +kernel) (pa_cons (pe_lock (pe_lc (own := [("_law_pair", 13)]) (g := gName 13) (tt := tYes) rfl sc_law.nd (pi_keys (pv 6)) (blkOk_by (own := [("_law_pair", 13)]) (N := ["_law_script", "_law_k", "_law_well_here", "_law_names_here", "_law_rows", "_law_p", "_law_table", "_law_force", "_law_one_here", "_law_other", "_law_number", "_law_paper", "_law_first", "_law_pair"]) (sc := (defScope s_law)) (by decide +kernel)) (fun _ _ _ _ _ => pg_name (i := 13) sc_law.nd rfl (Or.inl rfl)) (fun _ _ _ _ _ => pts_nil) (fun s0 H0 C0 cl0 fp0 => (by have h := ((pe_tup (pa_cons (pv 13) (pa_cons (pf_pos (ok_strength T tb) (hr.mono (by decide)) (by rfl) T.g_strength T.F_strength.kp T.kb_strength_3 (fun σ => atN σ) (pa_cons (pv 5) (pa_cons (pe_ix ix_tup (pv 13) pe_int (fun _ _ => rfl)) (pa_cons (pe_ix ix_tup (pv 13) pe_int (fun _ _ => rfl)) pa_nil)))) pa_nil))) : PE ((cxOf CX0 P w K mg base ["_law_script", "_law_k", "_law_well_here", "_law_names_here", "_law_rows", "_law_p", "_law_table", "_law_force", "_law_one_here", "_law_other", "_law_number", "_law_paper", "_law_first", "_law_pair"] "law" (defScope s_law) T.f_law cdv A outer s H E).nox.blk s0 H0 (lcScope (subE (rootE ((blkOf ((defBody s_law).getD 0 (.Pass ⟨0, 0, 0, 0⟩)) 0).getD 4 (.Pass ⟨0, 0, 0, 0⟩))) 1)) (compEnvC (lcScope (subE (rootE ((blkOf ((defBody s_law).getD 0 (.Pass ⟨0, 0, 0, 0⟩)) 0).getD 4 (.Pass ⟨0, 0, 0, 0⟩))) 1)) cl0 C0 (cxOf CX0 P w K mg base ["_law_script", "_law_k", "_law_well_here", "_law_names_here", "_law_rows", "_law_p", "_law_table", "_law_force", "_law_one_here", "_law_other", "_law_number", "_law_paper", "_law_first", "_law_pair"] "law" (defScope s_law) T.f_law cdv A outer s H E).nox.env) fp0) (subE (subE (rootE ((blkOf ((defBody s_law).getD 0 (.Pass ⟨0, 0, 0, 0⟩)) 0).getD 4 (.Pass ⟨0, 0, 0, 0⟩))) 1) 0) _); dsimp only [Cx.blk, Cx.tr, Cx.suite, Cx.nox, Cx.wish, cxOf] at h; exact h)))) pa_nil)))
 (pss_cons
 (ps_if (pt_not (pt_val (pe_call (ok_law_threes_right T) (hr.mono (by decide)) (by rfl) T.g_law_threes_right T.F_law_threes_right.kp T.b_law_threes_right .nil pass0 (pa_cons (pv 3) (pa_cons (pv 7) pa_nil)))))
 (pss_one
 (ps_ret pe_bl))
 pss_nil)
 (pss_cons
 (ps_for PassesOwn.never rfl (pi_tup (pe_slice sl_tupA (pe_call (ok_shuf_pairs T) (hr.mono (by decide)) (by rfl) T.g_law_shuffled T.F_law_shuffled.kp T.b_law_shuffled .nil pass0 (pa_cons (pv 2) (pa_cons (pe_callB (call_sortedT rfl) (by rfl) T.z_sorted (by decide +kernel) (pa_cons (pv 6) pa_nil)) pa_nil))) po_none (po_some pe_int))) (pg_tup rfl (pgs_cons (pg_name (i := 8) sc_law.nd rfl (Or.inl rfl)) (pgs_cons (pg_name (i := 9) sc_law.nd rfl (Or.inl rfl)) pgs_nil)))
 (pss_cons
 (ps_set (i := 10) sc_law.nd rfl (Or.inl rfl) (pe_dget (hu_of hr) (pv 7) (pe_tup (pa_cons (pv 8) (pa_cons (pv 9) pa_nil))) (fun _ _ => rfl)))
 (pss_cons
 (ps_set (i := 11) sc_law.nd rfl (Or.inl rfl) (pf_pos (ok_strength_paper T tb) (hr.mono (by decide)) (by rfl) T.g_strength_paper T.F_strength_paper.kp T.kb_strength_paper_3 (fun σ => atN σ) (pa_cons (pv 5) (pa_cons (pv 8) (pa_cons (pv 9) pa_nil)))))
 (pss_cons
 (ps_if (PW.pt (pw_or (pt_cmpR op_lt (pv 10) (pe_dget (hu_of hr) (pv 6) (pe_tup (pa_cons (pv 8) (pa_cons (pv 9) pa_nil))) (fun _ _ => rfl)) (nomark _)) (pw_or1 (pt_not (pt_val (pf_pos (ok_shows_strength T) (hr.mono (by decide)) (by rfl) T.g_shows_strength T.F_shows_strength.kp T.kb_shows_strength_5 (fun σ => atN σ) (pa_cons (pv 5) (pa_cons (pv 8) (pa_cons (pv 9) (pa_cons (pv 10) (pa_cons (pv 11) pa_nil)))))))))))
 (pss_one
 (ps_ret pe_bl))
 pss_nil)
 (pss_one
 (ps_if (pt_not (pt_val (pe_call (ok_law_drawn_right T) (hr.mono (by decide)) (by rfl) T.g_law_drawn_right T.F_law_drawn_right.kp T.b_law_drawn_right .nil pass0 (pa_cons (pv 2) (pa_cons (pv 5) (pa_cons (pv 6) (pa_cons (pv 7) (pa_cons (pv 8) (pa_cons (pv 9) pa_nil)))))))))
 (pss_one
 (ps_ret pe_bl))
 pss_nil))))))
 (pss_cons
 (ps_set (i := 12) sc_law.nd rfl (Or.inr rfl) (pe_call ((fun _ => ok_lot (P := P) (w := w) (base := base) T tb) T) (hr.mono (by decide)) (by rfl) T.g_lot T.F_lot.kp T.b_lot .nil pass0 (pa_cons (pv 5) (pa_cons pe_str pa_nil))))
 (pss_cons
 (ps_if (pt_cmpR (op_neD hr.units) (pe_lock (pe_lc (own := [("_law_pair", 13)]) (g := gName 13) rfl sc_law.nd (pi_keys (pv 7)) (blkOk_by (own := [("_law_pair", 13)]) (N := ["_law_script", "_law_k", "_law_well_here", "_law_names_here", "_law_rows", "_law_p", "_law_table", "_law_force", "_law_one_here", "_law_other", "_law_number", "_law_paper", "_law_first", "_law_pair"]) (sc := (defScope s_law)) (by decide +kernel)) (fun _ _ _ _ _ => pg_name (i := 13) sc_law.nd rfl (Or.inl rfl)) (fun s0 H0 C0 cl0 fp0 => (by have h := ((pts_one (PW.pt (pw_and (pt_cmpR op_in_seq (pe_ix ix_tup (pv 13) pe_int (fun _ _ => rfl)) (pv 12) rfl) (pw_and1 (pt_cmpR op_lt (pe_dget (hu_of hr) (pv 7) (pv 13) (fun _ _ => rfl)) (pe_dget (hu_of hr) (pv 7) (pe_revT (pv 13)) (fun _ _ => rfl)) (nomark _)))))) : PTs ((cxOf CX0 P w K mg base ["_law_script", "_law_k", "_law_well_here", "_law_names_here", "_law_rows", "_law_p", "_law_table", "_law_force", "_law_one_here", "_law_other", "_law_number", "_law_paper", "_law_first", "_law_pair"] "law" (defScope s_law) T.f_law cdv A outer s H E).nox.blk s0 H0 (lcScope (subE (rootE ((blkOf ((defBody s_law).getD 0 (.Pass ⟨0, 0, 0, 0⟩)) 0).getD 8 (.Pass ⟨0, 0, 0, 0⟩))) 0)) (compEnvC (lcScope (subE (rootE ((blkOf ((defBody s_law).getD 0 (.Pass ⟨0, 0, 0, 0⟩)) 0).getD 8 (.Pass ⟨0, 0, 0, 0⟩))) 0)) cl0 C0 (cxOf CX0 P w K mg base ["_law_script", "_law_k", "_law_well_here", "_law_names_here", "_law_rows", "_law_p", "_law_table", "_law_force", "_law_one_here", "_law_other", "_law_number", "_law_paper", "_law_first", "_law_pair"] "law" (defScope s_law) T.f_law cdv A outer s H E).nox.env) fp0) (lcIfs (subE (rootE ((blkOf ((defBody s_law).getD 0 (.Pass ⟨0, 0, 0, 0⟩)) 0).getD 8 (.Pass ⟨0, 0, 0, 0⟩))) 0)) _); dsimp only [Cx.blk, Cx.tr, Cx.suite, Cx.nox, Cx.wish, cxOf] at h; exact h)) (fun _ _ _ _ _ => (pv 13)))) (pe_lst pa_nil) (nomark _))
 (pss_one
 (ps_ret pe_bl))
 pss_nil)
 (pss_one
 (ps_if (PW.pt (pw_or (PW.pt (pw_and (pt_cmpR op_notN (pe_call (ok_leader T) (hr.mono (by decide)) (by rfl) T.g_leader T.F_leader.kp T.b_leader .nil pass0 (pa_cons (pv 5) pa_nil)) pe_non (nomark _)) (pw_and1 (pt_cmpR (op_neD hr.units) (pv 12) (pe_lst (pa_cons (pe_call (ok_leader T) (hr.mono (by decide)) (by rfl) T.g_leader T.F_leader.kp T.b_leader .nil pass0 (pa_cons (pv 5) pa_nil)) pa_nil)) (nomark _))))) (pw_or1 (pt_cmpR (op_neD hr.units) (pe_lc (own := [("_law_one_here", 8)]) (g := gName 8) rfl sc_law.nd (pi_list (pv 12)) (blkOk_by (own := [("_law_one_here", 8)]) (N := ["_law_script", "_law_k", "_law_well_here", "_law_names_here", "_law_rows", "_law_p", "_law_table", "_law_force", "_law_one_here", "_law_other", "_law_number", "_law_paper", "_law_first", "_law_pair"]) (sc := (defScope s_law)) (by decide +kernel)) (fun _ _ _ _ _ => pg_name (i := 8) sc_law.nd rfl (Or.inl rfl)) (fun s0 H0 C0 cl0 fp0 => (by have h := ((pts_one (pt_cmpR op_notIn_seq (pv 8) (pe_call (ok_top_lot T) (hr.mono (by decide)) (by rfl) T.g_top_lot T.F_top_lot.kp T.b_top_lot .nil pass0 (pa_cons (pv 5) pa_nil)) rfl)) : PTs ((cxOf CX0 P w K mg base ["_law_script", "_law_k", "_law_well_here", "_law_names_here", "_law_rows", "_law_p", "_law_table", "_law_force", "_law_one_here", "_law_other", "_law_number", "_law_paper", "_law_first", "_law_pair"] "law" (defScope s_law) T.f_law cdv A outer s H E).nox.blk s0 H0 (lcScope (subE (subE (rootE ((blkOf ((defBody s_law).getD 0 (.Pass ⟨0, 0, 0, 0⟩)) 0).getD 9 (.Pass ⟨0, 0, 0, 0⟩))) 1) 0)) (compEnvC (lcScope (subE (subE (rootE ((blkOf ((defBody s_law).getD 0 (.Pass ⟨0, 0, 0, 0⟩)) 0).getD 9 (.Pass ⟨0, 0, 0, 0⟩))) 1) 0)) cl0 C0 (cxOf CX0 P w K mg base ["_law_script", "_law_k", "_law_well_here", "_law_names_here", "_law_rows", "_law_p", "_law_table", "_law_force", "_law_one_here", "_law_other", "_law_number", "_law_paper", "_law_first", "_law_pair"] "law" (defScope s_law) T.f_law cdv A outer s H E).nox.env) fp0) (lcIfs (subE (subE (rootE ((blkOf ((defBody s_law).getD 0 (.Pass ⟨0, 0, 0, 0⟩)) 0).getD 9 (.Pass ⟨0, 0, 0, 0⟩))) 1) 0)) _); dsimp only [Cx.blk, Cx.tr, Cx.suite, Cx.nox, Cx.wish, cxOf] at h; exact h)) (fun _ _ _ _ _ => (pv 8))) (pe_lst pa_nil) (nomark _)))))
 (pss_one
 (ps_ret pe_bl))
 pss_nil))))))))))))
 (pss_one
 (ps_ret pe_bl))), ?_⟩
    refine ⟨.ref a, rfl, a, _, rfl, .inl hS, _, _, rfl, _, _, rfl, ?_⟩
    generalize hN : (if (if ((ns.map V.int).length : Int) < 2 then ((ns.map V.int).length : Int) else 2) > 1 then (if ((ns.map V.int).length : Int) < 2 then ((ns.map V.int).length : Int) else 2) else 1) = N
    have hN4 : 1 ≤ N ∧ N ≤ 2 := by rw [← hN]; constructor <;> split <;> (try split) <;> omega
    have tt : LamX.Tabs T.tabl H := fun t ht => by
      have ht : t ∈ [(T.tp_strongest_ways, ("strongest_ways.<locals>." : Str) ++ "<lambda>")] := ht
      rw [List.mem_singleton.mp ht]
      exact LamX.TabS.nil (hT ("strongest_ways", T.tc_strongest_ways, T.tp_strongest_ways) (by simp [Txt.tabs]))
    refine ⟨N, rfl, by omega, by omega, for_range (fun i σ H' => FrW a σ ∧ LamX.ExtN H H' ∧ LamX.Tabs T.tabl H') ⟨⟨none, none, none, none, none, none, none, none, none, none, none, none, none, rfl⟩, LamX.ExtN.refl _, tt⟩ ?_ ?_⟩
    · rintro n0 σ H1 hi ⟨⟨y1, y2, y3, y4, y5, y6, y7, y8, y9, y10, y11, y12, y13, rfl⟩, x1, tt1⟩
      refine ⟨.ref a, rfl, (.int (0 + (n0 : Nat))), rfl, a, ns, n0, by rw [Int.zero_add]; rfl, Own.SqL.extN x1 hS, hlen, fun z => ⟨z, rfl, fun p x np wx => ?_⟩⟩
      have s2 : Same H1 (upd H1 p (.lst x)) := same_upd np
      have hp2 : (upd H1 p (.lst x)) p = some (.lst x) := upd_same
      generalize upd H1 p (HO.lst x) = H2 at s2 hp2 ⊢
      refine ⟨.ref p, rfl, line_of (show 5 ≤ 1000 by decide), fun l nl => ?_⟩
      have pl : l ≠ p := fun e => by rw [e, hp2] at nl; cases nl
      have s3 : Same H2 (upd H2 l (.lst [V.int 3, V.int 4, V.int 5, V.int 4, V.int 2])) := same_upd nl
      refine ⟨p, l, [3, 4, 5, 4, 2], x, 0, rfl, s3 _ _ hp2, upd_same, pl, by decide, by decide, by decide, wx, by decide, fun u t r zs rows y H3 hu ht z0 z6 zn nd okz hrow rok but nu hp3 wy => ?_⟩
      have b3 : But p H2 H3 := fun c o n h => but c o n (s3 _ _ h)
      have ok : OptsOk zs := ⟨fun e => by rw [e] at z0; exact absurd z0 (by decide), z6, nd, okz⟩
      have rok30 := rok.more (show 6 ≤ 30 by decide)
      have k23 : Kp p H2 H3 := .but b3
      have tt3 := tabs_but b3 hp2 (tabs_same s2 tt1)
      refine ⟨u, _, rfl, .of hu, rfl, _, _, rfl, _, _, rfl, rfl, ?_⟩
      refine ⟨.ref t, rfl, .ref r, rfl, rfl, rfl, fun pp dx n1 n2 n3 => ?_⟩
      have s6m : Same H3 (upd (upd H3 dx (.own pp)) pp (.ins T.C_Poll dx [])) := made_same n1 n2 (But.refl _ _)
      refine ⟨pp, dx, t, r, zs, rows, rfl, upd_same, s6m _ _ ht, hrow.same s6m, ok, rok30, fun H6 b6 e6 => ?_⟩
      have s36 : Same H3 H6 := made_same n1 n2 b6
      have pk6 : PollOk T.C_Poll H6 pp t r zs rows := ⟨⟨dx, e6⟩, s36 _ _ ht, hrow.same s36, ok, rok30⟩
      have hp6 := s36 _ _ hp3
      have tt6 := tabs_same s36 tt3
      have k26 : Kp p H2 H6 := k23.trans (.same s36)
      have anti : ∀ a b, marg rows b a = -marg rows a b := fun a b => marg_turn a b rows
      -- the table
      refine ⟨rfl, .ref pp, rfl, pp, t, r, zs, rows, rfl, pk6, fun M H7 s7 nM eM => ?_⟩
      have pk7 := pk6.same s7
      have tt7 := tabs_same s7 tt6
      have hp7 := s7 _ _ hp6
      have lp36 : (pairsOf zs zs).length ≤ 36 := by
        have a1 := tab2_len (fun _ _ => 0) zs zs
        rw [tab2_pairs, List.length_map] at a1
        have a3 : zs.length * zs.length ≤ 6 * 6 := Nat.mul_le_mul z6 z6
        omega
      have lt2 : ∀ g : Str → Str → Int, (tab2 zs g zs).length = (pairsOf zs zs).length := fun g => by rw [tab2_pairs, List.length_map]
      -- how strong each is
      refine ⟨M, _, eM, trivial, fun od => ?_⟩
      have eMf : (upd H7 M (.frz od (.dT (tab2 zs (marg rows) zs)))) M = some (.frz od (.dT (tab2 zs (marg rows) zs))) := upd_same
      have back : ∀ {H'}, LamX.ExtN (upd H7 M (.frz od (.dT (tab2 zs (marg rows) zs)))) H' → LamX.ExtN H7 (upd H' M (.dT (tab2 zs (marg rows) zs))) := fun s => lock_ext od eM s
      have pkf := pk7.lock (x := .frz od (.dT (tab2 zs (marg rows) zs))) eM
      have ttf : LamX.Tabs T.tabl (upd H7 M (.frz od (.dT (tab2 zs (marg rows) zs)))) := tabs_upd eM (fun _ e => by cases e) (fun _ e => by cases e) tt7
      generalize upd H7 M (.frz od (.dT (tab2 zs (marg rows) zs))) = HF at eMf back pkf ttf ⊢
      refine ⟨.ref M, rfl, M, od, rfl, .inr ⟨_, eMf, fun D nD => ?_⟩⟩
      have DM : D ≠ M := fun e => by rw [e, eMf] at nD; cases nD
      refine lc_it walk_keysT (fun i H' => ∃ ts : List Trip, LamX.ExtN HF H' ∧ LamX.Tabs T.tabl H' ∧ H' D = some (.lst (ts.map fun t => V.ref t.1)) ∧ (∀ t ∈ ts, H' t.1 = some (.tup [.ref t.2.1, t.2.2.2]) ∧ H' t.2.1 = some (.tup (t.2.2.1.map kV))) ∧ ts.map (·.2.2) = ((pairsOf zs zs).take i).map fun q => ([.inr q.1, .inr q.2], .int (strN (marg rows) zs q.1 q.2)))
        ⟨[], LamX.ExtN.of (same_upd nD), ttf.ext (same_upd nD), upd_same, fun _ h => (by cases h), rfl⟩ (fun _ _ _ ⟨_, h, _⟩ => h _ _ eMf (fun _ e => by cases e)) ?_ ?_
      · rintro i x' H8 H9 hi ⟨ts, x8, t8, e8, at8, m8⟩ ⟨rfl, kk, vv, qa, hk, rfl, hqa⟩
        rw [lt2] at hi
        obtain ⟨pq, hpq⟩ : ∃ pq, (pairsOf zs zs)[i]? = some pq := ⟨_, List.getElem?_eq_getElem hi⟩
        have ek : kk = [.inr pq.1, .inr pq.2] := by
          rw [tab2_pairs, List.getElem?_map, hpq] at hk
          cases hk
          rfl
        subst ek
        have hqa : H9 qa = some (.tup [.str pq.1, .str pq.2]) := hqa
        obtain ⟨m1', m2', ne⟩ := mem_pairs.mp (List.mem_of_getElem? hpq)
        have lts : ts.length ≤ 36 := by
          have := congrArg List.length m8
          rw [List.length_map, List.length_map, List.length_take] at this
          omega
        have pk9 : PollOk T.C_Poll H9 pp t r zs rows := ⟨⟨pkf.poll.choose, x8 _ _ pkf.poll.choose_spec (fun _ e => by cases e)⟩, x8 _ _ pkf.opts (fun _ e => by cases e), pkf.votes.keep fun _ _ e => x8 _ _ e (fun _ e => by cases e), ok, rok30⟩
        refine ⟨rfl, .ref qa, rfl, .ref pp, rfl, .ref qa, rfl, qa, _, 0, .str pq.1, rfl, rfl, .of hqa, atI_nat (j := 0) rfl, .ref qa, rfl, qa, _, 1, .str pq.2, rfl, rfl, .of hqa, atI_nat (j := 1) rfl, rfl, rfl, pp, t, r, zs, rows, .str pq.1, .str pq.2, .str pq.1, .str pq.2, rfl, pk9, rfl, rfl, (fun e => ?_), (fun _ e => ?_), fun y' z' e1 e2 _ _ => ?_⟩
        · rw [show optD zs (.str pq.1) = true from decide_eq_true m1'] at e
          cases e
        · rw [show optD zs (.str pq.2) = true from decide_eq_true m2'] at e
          cases e
        cases e1
        cases e2
        refine ⟨ne, t8, fun HA xA tA => ⟨line_of (show 2 ≤ 1000 by decide), fun tn nt => ?_⟩⟩
        have s4 := same_upd (o := HO.tup [V.ref qa, V.int (strN (marg rows) zs pq.1 pq.2)]) nt
        have nb : ∀ {c : Addr} {o : HO}, (∀ ps, o ≠ .tbl ps) → H9 c = some o → (upd HA tn (.tup [V.ref qa, V.int (strN (marg rows) zs pq.1 pq.2)])) c = some o := fun n h => s4 _ _ (xA _ _ h n)
        have e4 := nb (fun _ e => by cases e) e8
        have at4 : ∀ t' ∈ ts ++ [(tn, qa, ([.inr pq.1, .inr pq.2], V.int (strN (marg rows) zs pq.1 pq.2)))], (upd HA tn (.tup [V.ref qa, V.int (strN (marg rows) zs pq.1 pq.2)])) t'.1 = some (.tup [.ref t'.2.1, t'.2.2.2]) ∧ (upd HA tn (.tup [V.ref qa, V.int (strN (marg rows) zs pq.1 pq.2)])) t'.2.1 = some (.tup (t'.2.2.1.map kV)) := fun t' ht => by
          rcases List.mem_append.mp ht with ht | ht
          · exact ⟨nb (fun _ e => by cases e) (at8 t' ht).1, nb (fun _ e => by cases e) (at8 t' ht).2⟩
          · rw [List.mem_singleton.mp ht]
            exact ⟨upd_same, nb (fun _ e => by cases e) hqa⟩
        have x4 := x8.trans (xA.trans (.of s4))
        have t4 := tA.ext s4
        generalize upd HA tn (.tup [V.ref qa, V.int (strN (marg rows) zs pq.1 pq.2)]) = H10 at x4 t4 e4 at4
        refine ⟨_, e4, small1000 (by rw [List.length_map]; omega), ts ++ [(tn, qa, ([.inr pq.1, .inr pq.2], V.int (strN (marg rows) zs pq.1 pq.2)))], extn_mut x4 nD, tabs_upd e4 (fun _ e => by cases e) (fun _ e => by cases e) t4, by rw [upd_same, List.map_append]; rfl, fun t' ht => ?_, by rw [List.map_append, m8, take_more hpq, List.map_append]; rfl⟩
        have := at4 t' ht
        rw [upd_ne (fun h => by rw [h, e4] at this; cases this.1), upd_ne (fun h => by rw [h, e4] at this; cases this.2)]
        exact this
      rintro H8 ⟨ts, x8, t8, e8, at8, m8⟩
      rw [lt2, List.take_length, ← tab2_pairs zs (strN (marg rows) zs) zs] at m8
      have f8 := x8 _ _ eMf (fun _ e => by cases e)
      have x78 := back x8
      have t8' : LamX.Tabs T.tabl (upd H8 M (.dT (tab2 zs (marg rows) zs))) := tabs_upd f8 (fun _ e => by cases e) (fun _ e => by cases e) t8
      have e8' : (upd H8 M (.dT (tab2 zs (marg rows) zs))) D = some (.lst (ts.map fun t => V.ref t.1)) := by rw [upd_ne DM]; exact e8
      have at8' : ∀ t ∈ ts, (upd H8 M (.dT (tab2 zs (marg rows) zs))) t.1 = some (.tup [.ref t.2.1, t.2.2.2]) ∧ (upd H8 M (.dT (tab2 zs (marg rows) zs))) t.2.1 = some (.tup (t.2.2.1.map kV)) := fun t ht => by
        have := at8 t ht
        rw [upd_ne (fun h => by rw [h, f8] at this; cases this.1), upd_ne (fun h => by rw [h, f8] at this; cases this.2)]
        exact this
      refine ⟨f8, D, ts, rfl, .of e8', at8', fun F nF => ?_⟩
      rw [m8, merge_tab2 nd]
      have s9 := same_upd (o := HO.dT (tab2 zs (strN (marg rows) zs) zs)) nF
      have eF9 : (upd (upd H8 M (.dT (tab2 zs (marg rows) zs))) F (.dT (tab2 zs (strN (marg rows) zs) zs))) F = some (.dT (tab2 zs (strN (marg rows) zs) zs)) := upd_same
      have x79 := x78.trans (.of s9)
      have t9 := t8'.ext s9
      clear at8' e8' at8 e8 m8 x78 s9 t8'
      generalize upd (upd H8 M (.dT (tab2 zs (marg rows) zs))) F (.dT (tab2 zs (strN (marg rows) zs) zs)) = H9 at eF9 x79 t9 ⊢
      have k69 : Kp p H6 H9 := (Kp.same s7).trans (.ext x79)
      have pk9 := pk6.kp k69 hp6
      have hp9 := x79 _ _ hp7 (fun _ e => by cases e)
      have eM9 := x79 _ _ eM (fun _ e => by cases e)
      refine ⟨.ref t, rfl, .ref F, rfl, t, F, zs, marg rows, rfl, pk9.opts, eF9, nd, z6, anti, fun H10 s10 => ⟨_, rfl, iteF ?_⟩⟩
      have s10k : Kp p H9 H10 := Kp.same s10
      have pk10 := pk9.kp s10k hp9
      have hp10 := s10 _ _ hp9
      have eM10 := s10 _ _ eM9
      have eF10 := s10 _ _ eF9
      have t10 := t9.ext s10
      have k2A : Kp p H2 H10 := k26.trans (k69.trans s10k)
      -- the pairs, in any order, the first six
      refine ⟨.ref p, rfl, .ref M, rfl, M, _, rfl, .inl eM10, fun e he => ?_, fun S bs cs nS hb pm => ?_⟩
      · obtain ⟨y', _, z', _, _, rfl⟩ := mem_tab2.mp he
        exact ⟨y', z', rfl⟩
      have lcs : cs.length ≤ 36 := by
        rw [pm.length_eq, ← hb.length, lt2]
        exact lp36
      obtain ⟨qs, rfl, prs, pne⟩ := prs_of (fun c hc => keys_prs hb c (pm.mem_iff.mp hc))
      rw [List.length_map] at lcs
      have s11 := same_upd (o := HO.lst ((qs.map (·.1)).map V.ref)) nS
      have eS : (upd H10 S (.lst ((qs.map (·.1)).map V.ref))) S = some (.lst (qs.map fun q => V.ref q.1)) := by rw [upd_same, List.map_map]; rfl
      generalize upd H10 S (.lst ((qs.map (·.1)).map V.ref)) = H11 at s11 eS ⊢
      refine ⟨p, S, zs, qs, y, _, rfl, s11 _ _ hp10, eS, lcs, prs.keep fun a xs h => s11 _ _ h, okz, wy, by decide, fun tw ws y12 H12 pw b12 ntw etw hp12 w12 => ?_⟩
      refine ⟨6, rfl, ?_⟩
      dsimp only [tNoPart]
      refine slX_of etw fun S13 H13 e13 s13 => ?_
      obtain ⟨cw, ecw, csub⟩ := cut_prs ws none (some 6)
      rw [ecw] at e13
      have k1013 : Kp p H10 H13 := (Kp.same s11).trans ((Kp.but b12).trans (Kp.same s13))
      have hp13 := s13 _ _ hp12
      have t13 := tabs_same s13 (tabs_but b12 (s11 _ _ hp10) (tabs_same s11 t10))
      have prs13 : ∀ q ∈ cw, H13 q.1 = some (.tup [.str q.2.1, .str q.2.2]) ∧ q.2.1 ∈ zs ∧ q.2.2 ∈ zs ∧ q.2.1 ≠ q.2.2 := fun q hq => by
        have mq := pw.mem_iff.mp (csub q hq)
        obtain ⟨h1, h2, h3⟩ := prs q mq
        exact ⟨k1013.tup hp10 h1, h2, h3, pne q mq⟩
      have pk13 := pk10.kp k1013 hp10
      have eM13 := k1013.dT hp10 eM10
      have eF13 := k1013.dT hp10 eF10
      have lcw : cw.length ≤ 36 := by
        have h1 : cutV (ws.map fun q => V.ref q.1) none (some 6) = cw.map fun q => V.ref q.1 := ecw
        have h2 := congrArg List.length h1
        unfold cutV at h2
        rw [List.length_take, List.length_drop, List.length_map, List.length_map] at h2
        have := pw.length_eq
        omega
      refine ⟨S13, rfl, ⟨_, .of e13⟩, ?_⟩
      refine for_tup (K := K) (a := S13) (xs := cw.map fun q => V.ref q.1) (D := ⟨_, _, fun _ _ => False, fun _ _ => False⟩) (fun i σ H' => (∃ x8 x9 x10 x11 x12 x13 : Option V, σ = [some (.ref a), some (.int (0 + (n0 : Nat))), some (.ref p), some (.ref t), some (.ref r), some (.ref pp), some (.ref M), some (.ref F), x8, x9, x10, x11, x12, x13]) ∧ Kp p H13 H' ∧ LamX.Tabs T.tabl H' ∧ ∃ y' : List V, H' p = some (.lst y') ∧ WellL y' (8000 + 20 * i))
        ⟨⟨_, _, _, _, _, _, rfl⟩, Kp.refl, t13, y12, hp13, w12.mono (by omega)⟩ (fun _ _ _ _ h => .of (h.2.1.tup hp13 e13)) ?_ ?_
      · rintro i xv σ HA hi ⟨⟨x8, x9, x10, x11, x12, x13, rfl⟩, kA, tA, y14, hpA, wA⟩
        have il : i < 36 := by
          have := (List.getElem?_eq_some_iff.mp hi).1
          rw [List.length_map] at this
          omega
        obtain ⟨q0, hq, rfl⟩ := item_map hi
        obtain ⟨h0, my, mz, ne⟩ := prs13 q0 (List.mem_of_getElem? hq)
        have pkA := pk13.kp kA hp13
        have eMA := kA.dT hp13 eM13
        have eFA := kA.dT hp13 eF13
        generalize hn : strN (marg rows) zs q0.2.1 q0.2.2 = n
        have gdF : ∀ {Hc : Hp} {u : Addr}, Hc F = some (.dT (tab2 zs (strN (marg rows) zs) zs)) → Hc u = some (.tup [.str q0.2.1, .str q0.2.2]) → DGet Hc F (.ref u) (some (.int n)) := fun {Hc u} h e => by
          have := DGet.rd (.inl h) my mz ne e
          rw [hn] at this
          exact this
        refine ⟨q0.1, _, rfl, .of (kA.tup hp13 h0), rfl, _, _, rfl, _, _, rfl, rfl, ?_⟩
        refine ⟨.ref F, rfl, .str q0.2.1, rfl, .str q0.2.2, rfl, line_of (show 2 ≤ 1000 by decide), fun u1 n1 => ?_⟩
        have sB := same_upd (o := HO.tup [V.str q0.2.1, V.str q0.2.2]) n1
        have gB := gdF (sB _ _ eFA) upd_same
        generalize upd HA u1 (.tup [V.str q0.2.1, V.str q0.2.2]) = HB at sB gB ⊢
        have pkB := pkA.same sB
        have tB := tA.ext sB
        refine ⟨F, _, rfl, gB, ?_⟩
        have oy : optD zs (.str q0.2.1) = true := decide_eq_true my
        have oz : optD zs (.str q0.2.2) = true := decide_eq_true mz
        refine ⟨.ref pp, rfl, .str q0.2.1, rfl, .str q0.2.2, rfl, rfl, rfl, pp, t, r, zs, rows, .str q0.2.1, .str q0.2.2, .str q0.2.1, .str q0.2.2, rfl, pkB, rfl, rfl, (fun e => ?_), (fun _ e => ?_), fun y' z' e1 e2 _ _ => ?_⟩
        · rw [oy] at e
          cases e
        · rw [oz] at e
          cases e
        cases e1
        cases e2
        refine ⟨ne, tB, fun pa wa la way R HC xC tC pis wft isf fr epa ewa ela => ?_⟩
        rw [hn] at isf
        have hpB := sB _ _ hpA
        have hpC := xC _ _ hpB (fun _ e => by cases e)
        have pkC := pkB.kp (.ext xC) hpB
        have eMC := xC _ _ (sB _ _ eMA) (fun _ e => by cases e)
        have eFC := xC _ _ (sB _ _ eFA) (fun _ e => by cases e)
        refine ⟨.int n, rfl, .ref M, rfl, .str q0.2.1, rfl, .str q0.2.2, rfl, line_of (show 2 ≤ 1000 by decide), fun u2 n2 => ?_⟩
        have sD := same_upd (o := HO.tup [V.str q0.2.1, V.str q0.2.2]) n2
        have gD := DGet.rd (.inl (sD _ _ eMC)) my mz ne upd_same
        generalize upd HC u2 (.tup [V.str q0.2.1, V.str q0.2.2]) = HD at sD gD ⊢
        refine ⟨M, _, rfl, gD, _, _, rfl, rfl, _, rfl, ?_⟩
        rw [decide_eq_false (show ¬ n < marg rows q0.2.1 q0.2.2 by have := strN_dir (g := marg rows) my mz ne; omega)]
        have pkD := pkC.same sD
        have cut := outR_cut (g := marg rows) my mz ne
        rw [← pis.2, hn] at cut
        have rnd : R.Nodup := by rw [pis.2]; exact nd.sublist List.filter_sublist
        have rsub : ∀ x ∈ R, x ∈ zs := fun x hx => by rw [pis.2] at hx; exact (List.mem_filter.mp hx).1
        have pap : PapOk HD (marg rows) zs q0.2.1 q0.2.2 pa wa la way R n := ⟨sD _ _ epa, sD _ _ ewa, sD _ _ ela, wft, isf, rnd, rsub, cut.1, cut.2.1⟩
        refine iteF ⟨.ref pp, rfl, .str q0.2.1, rfl, .str q0.2.2, rfl, .int n, rfl, .ref pa, rfl, rfl, rfl, pp, t, r, pa, zs, rows, .str q0.2.1, .str q0.2.2, .str q0.2.1, .str q0.2.2, n, rfl, pkD, rfl, rfl, (fun e => ?_), (fun _ e => ?_), fun y' z' e1 e2 _ _ => ?_⟩
        · rw [oy] at e
          cases e
        · rw [oz] at e
          cases e
        cases e1
        cases e2
        refine ⟨wa, la, way, R, n, ne, pap, fun HE sE => ⟨_, rfl, ?_⟩⟩
        have allT : ((outS zs R).all fun q => decide (marg rows q.1 q.2 ≤ n)) = true := by
          rw [List.all_eq_true]
          intro q hq
          obtain ⟨a', ha, hb⟩ := List.mem_flatMap.mp hq
          obtain ⟨b', hb, e⟩ := List.mem_map.mp hb
          obtain ⟨b1, b2⟩ := List.mem_filter.mp hb
          rw [← e]
          exact decide_eq_true (cut.2.2 a' ha b' b1 (of_decide_eq_true b2))
        rw [allT, decide_eq_true rfl]
        refine iteF ?_
        have sCE := sD.trans sE
        have hpE := sCE _ _ hpC
        refine ⟨.ref p, rfl, .ref pp, rfl, .ref M, rfl, .ref F, rfl, .str q0.2.1, rfl, .str q0.2.2, rfl, p, pp, t, r, M, F, zs, rows, q0.2.1, q0.2.2, y14, _, rfl, hpE, wA, by omega, pkC.same sCE, sCE _ _ eMC, sCE _ _ eFC, my, mz, ne, fun y15 HG bG hpG wG => ⟨_, rfl, iteF ?_⟩⟩
        exact ⟨⟨_, _, _, _, _, _, rfl⟩, kA.trans ((Kp.same sB).trans ((Kp.ext xC).trans ((Kp.same sCE).trans (.but bG)))), tabs_but bG hpE (tC.ext sCE), y15, hpG, wG.mono (by omega)⟩
      · rintro σ HA ⟨⟨x8, x9, x10, x11, x12, x13, rfl⟩, kA, tA, y14, hpA, wA⟩
        have pkA := pk13.kp kA hp13
        have eFA := kA.dT hp13 eF13
        refine ⟨.ref pp, rfl, pp, t, r, zs, rows, rfl, pkA, tA, fun L HB xB tB frB eL => ?_⟩
        have pkB := pkA.kp (.ext xB) hpA
        have eFB := xB _ _ eFA (fun _ e => by cases e)
        generalize hw : winW (marg rows) zs = win at eL
        have wsub : ∀ c ∈ win, c ∈ zs := fun c hc => by rw [← hw] at hc; exact (List.mem_filter.mp hc).1
        have lwin : win.length ≤ 6 := by rw [← hw]; exact Nat.le_trans (List.length_filter_le _ _) z6
        -- no winner is led by another one
        refine ⟨F, _, eFB, trivial, fun od2 => ?_⟩
        have eFf : (upd HB F (.frz od2 (.dT (tab2 zs (strN (marg rows) zs) zs)))) F = some (.frz od2 (.dT (tab2 zs (strN (marg rows) zs) zs))) := upd_same
        have back2 : ∀ {H'}, Same (upd HB F (.frz od2 (.dT (tab2 zs (strN (marg rows) zs) zs)))) H' → Same HB (upd H' F (.dT (tab2 zs (strN (marg rows) zs) zs))) := fun s => lock_same od2 eFB s
        have eLf : (upd HB F (.frz od2 (.dT (tab2 zs (strN (marg rows) zs) zs)))) L = some (.lst (win.map V.str)) := lock_ne eFB (fun e => by cases e) eL
        generalize upd HB F (.frz od2 (.dT (tab2 zs (strN (marg rows) zs) zs))) = HF2 at eFf back2 eLf ⊢
        refine ⟨.ref F, rfl, F, od2, rfl, .inr ⟨_, eFf, fun D2 nD2 => ?_⟩⟩
        have D2F : D2 ≠ F := fun e => by rw [e, eFf] at nD2; cases nD2
        refine lc_it walk_keysT (fun i H' => Same HF2 H' ∧ H' D2 = some (.lst [])) ⟨same_upd nD2, upd_same⟩ (fun _ _ _ h => h.1 _ _ eFf) ?_ ?_
        · rintro i x' H1' H2' hi ⟨s1', e1'⟩ ⟨rfl, kk, vv, qa, hk, rfl, hqa⟩
          obtain ⟨a1, m1, b1, mb1, ne, ek⟩ := mem_tab2.mp (List.mem_of_getElem? hk)
          cases ek
          have hqa : H2' qa = some (.tup [.str a1, .str b1]) := hqa
          refine ⟨rfl, .ref qa, rfl, qa, _, 0, .str a1, rfl, rfl, .of hqa, atI_nat (j := 0) rfl, .ref L, rfl, L, _, rfl, .inl (.of (s1' _ _ eLf)), rfl, flat_strs win, _, rfl, ?_⟩
          rw [inV_str]
          by_cases c1 : a1 ∈ win
          · rw [decide_eq_true c1]
            refine iteT ⟨.ref F, rfl, .ref qa, rfl, F, _, rfl, DGet.rd (.inr ⟨od2, s1' _ _ eFf⟩) m1 mb1 ne hqa, .ref F, rfl, .ref qa, rfl, qa, _, rfl, .of hqa, fun u nu => ?_⟩
            have s2' := same_upd (o := HO.tup [V.str b1, V.str a1]) nu
            have g2 := DGet.rd (.inr ⟨od2, (s1'.trans s2') _ _ eFf⟩) mb1 m1 ne.symm (upd_same (a := u) (H := H2'))
            refine ⟨F, _, rfl, g2, _, _, rfl, rfl, _, rfl, ?_⟩
            have nw : noW (marg rows) zs a1 = true := by
              rw [← hw] at c1
              exact (List.mem_filter.mp c1).2
            have := noW_of nw mb1 ne.symm
            rw [decide_eq_false (by omega)]
            exact iteF ⟨s1'.trans s2', s2' _ _ e1'⟩
          · rw [decide_eq_false c1]
            exact iteF (iteF ⟨s1', e1'⟩)
        rintro H1' ⟨s1', e1'⟩
        have sBC := back2 s1'
        have eD2 : (upd H1' F (.dT (tab2 zs (strN (marg rows) zs) zs))) D2 = some (.lst []) := by rw [upd_ne D2F]; exact e1'
        refine ⟨s1' _ _ eFf, line_of (show 0 ≤ 1000 by decide), fun l0 nl0 => ?_⟩
        have s0' := same_upd (o := HO.lst []) nl0
        refine ⟨.list [], .list [], DAt.dp _ ⟨D2, [], rfl, s0' _ _ eD2, rfl⟩, DAt.dp _ ⟨l0, [], rfl, upd_same, rfl⟩, rfl, rfl, _, rfl, iteF ?_⟩
        have sBD := sBC.trans s0'
        clear eD2 e1' eLf back2 nD2
        generalize upd (upd H1' F (.dT (tab2 zs (strN (marg rows) zs) zs))) l0 (.lst []) = HD at sBD ⊢
        have pkD := pkB.same sBD
        have eLD := sBD _ _ eL
        -- the leader
        have shW : ∀ {vs : List Str}, (∀ c ∈ vs, c ∈ zs) → SeqAt.shaped (.list (vs.map PyData.str)) = true := fun h => shaped_strs fun c hc => small_ok (okz c (h c hc)).2.2
        have datL : ∀ {Hc : Hp} {c : Addr} {vs : List Str}, Hc c = some (.lst (vs.map V.str)) → DAt Hc (.list (vs.map PyData.str)) (.ref c) := fun h => ⟨_, _, rfl, h, DAll.strs _⟩
        have kend : ∀ {Hc : Hp}, Same HD Hc → (LamX.ExtN H1 Hc ∧ LamX.Tabs T.tabl Hc) := fun {Hc} s => by
          have kAll : Kp p H2 Hc := k2A.trans (k1013.trans (kA.trans ((Kp.ext xB).trans (Kp.same (sBD.trans s)))))
          exact ⟨ext_kp np s2 kAll, tB.ext (sBD.trans s)⟩
        have tops : ∀ {Hc : Hp}, Same HD Hc → True := fun _ => trivial
        refine ⟨.ref pp, rfl, pp, t, r, zs, rows, rfl, pkD, fun HE sE => ?_⟩
        cases hl : lead (fun y z => decide (0 < marg rows y z)) zs with
        | none =>
          refine ⟨rfl, _, rfl, iteF (iteF ?_)⟩
          refine ⟨.ref L, rfl, L, rfl, ⟨_, .of (sE _ _ eLD)⟩, fun D3 nD3 => ?_⟩
          refine lc_list (K := K) (a := L) (xs := win.map V.str) (fun j H' => Same HE H' ∧ H' D3 = some (.lst [])) ⟨same_upd nD3, upd_same⟩ (fun _ _ _ h => .of (h.1 _ _ (sE _ _ eLD))) ?_ ?_
          · rintro j x' HJ hj ⟨sJ, eJ⟩
            obtain ⟨c, hc, rfl⟩ := item_map hj
            have mc := List.mem_of_getElem? hc
            refine ⟨rfl, .str c, rfl, .ref pp, rfl, pp, t, r, zs, rows, rfl, pkD.same (sE.trans sJ), fun O HK sK nO eO => ⟨O, _, rfl, .inl (.of eO), rfl, flat_strs _, _, rfl, ?_⟩⟩
            rw [inV_str, decide_eq_true (List.mem_filter.mpr ⟨wsub c mc, win_top anti (by rw [hw]; exact mc)⟩)]
            exact iteF ⟨sJ.trans sK, sK _ _ eJ⟩
          rintro HJ ⟨sJ, eJ⟩
          refine ⟨line_of (show 0 ≤ 1000 by decide), fun l4 nl4 => ?_⟩
          have sL := same_upd (o := HO.lst []) nl4
          refine ⟨.list [], .list [], DAt.dp _ ⟨D3, [], rfl, sL _ _ eJ, rfl⟩, DAt.dp _ ⟨l4, [], rfl, upd_same, rfl⟩, rfl, rfl, _, rfl, iteF ?_⟩
          have fin := kend (sE.trans (sJ.trans sL))
          exact ⟨⟨_, _, _, _, _, _, _, _, _, _, _, _, _, rfl⟩, x1.trans fin.1, fin.2⟩
        | some z0' =>
          obtain ⟨mz0, hlead⟩ := lead_of hl
          have ew : win = [z0'] := by
            rw [← hw]
            exact lead_win nd anti mz0 fun c hc cz => of_decide_eq_true (hlead c hc cz)
          refine ⟨rfl, _, rfl, ite2 (fun _ => ?_) (fun e => absurd e (by simp [vO]))⟩
          refine ⟨.ref L, rfl, .ref pp, rfl, pp, t, r, zs, rows, rfl, pkD.same sE, fun HG sG => ?_⟩
          rw [hl]
          refine ⟨line_of (show 1 ≤ 1000 by decide), fun l5 nl5 => ?_⟩
          have sH := same_upd (o := HO.lst [vO (some z0')]) nl5
          have eH : (upd HG l5 (.lst [vO (some z0')])) l5 = some (.lst (([z0'] : List Str).map V.str)) := upd_same
          generalize upd HG l5 (.lst [vO (some z0')]) = HH at sH eH ⊢
          have sX := sE.trans (sG.trans sH)
          have eX : HH L = some (.lst (([z0'] : List Str).map V.str)) := by rw [← ew]; exact sX _ _ eLD
          have sh1 := shW (vs := [z0']) fun c hc => by rw [List.mem_singleton.mp hc]; exact mz0
          refine ⟨_, _, DAt.dp _ (datL eX), DAt.dp _ (datL eH), sh1, sh1, _, rfl, ?_⟩
          rw [eqv_same _ sh1]
          refine iteF ?_
          refine ⟨.ref L, rfl, L, rfl, ⟨_, .of (sX _ _ eLD)⟩, fun D3 nD3 => ?_⟩
          refine lc_list (K := K) (a := L) (xs := win.map V.str) (fun j H' => Same HH H' ∧ H' D3 = some (.lst [])) ⟨same_upd nD3, upd_same⟩ (fun _ _ _ h => .of (h.1 _ _ (sX _ _ eLD))) ?_ ?_
          · rintro j x' HJ hj ⟨sJ, eJ⟩
            obtain ⟨c, hc, rfl⟩ := item_map hj
            have mc := List.mem_of_getElem? hc
            refine ⟨rfl, .str c, rfl, .ref pp, rfl, pp, t, r, zs, rows, rfl, pkD.same (sX.trans sJ), fun O HK sK nO eO => ⟨O, _, rfl, .inl (.of eO), rfl, flat_strs _, _, rfl, ?_⟩⟩
            rw [inV_str, decide_eq_true (List.mem_filter.mpr ⟨wsub c mc, win_top anti (by rw [hw]; exact mc)⟩)]
            exact iteF ⟨sJ.trans sK, sK _ _ eJ⟩
          rintro HJ ⟨sJ, eJ⟩
          refine ⟨line_of (show 0 ≤ 1000 by decide), fun l4 nl4 => ?_⟩
          have sL := same_upd (o := HO.lst []) nl4
          refine ⟨.list [], .list [], DAt.dp _ ⟨D3, [], rfl, sL _ _ eJ, rfl⟩, DAt.dp _ ⟨l4, [], rfl, upd_same, rfl⟩, rfl, rfl, _, rfl, iteF ?_⟩
          have fin := kend (sX.trans (sJ.trans sL))
          exact ⟨⟨_, _, _, _, _, _, _, _, _, _, _, _, _, rfl⟩, x1.trans fin.1, fin.2⟩
    · rintro σ H1 ⟨_, _⟩
      exact q _
end
theorem len1 {us : List Value} (h : us.length = 1) : ∃ a0, us = [a0] := match us, h with | [a0], _ => ⟨a0, rfl⟩
theorem len2 {us : List Value} (h : us.length = 2) : ∃ a0 a1, us = [a0, a1] := match us, h with | [a0, a1], _ => ⟨a0, a1, rfl⟩
theorem len3 {us : List Value} (h : us.length = 3) : ∃ a0 a1 a2, us = [a0, a1, a2] := match us, h with | [a0, a1, a2], _ => ⟨a0, a1, a2, rfl⟩
theorem len4 {us : List Value} (h : us.length = 4) : ∃ a0 a1 a2 a3, us = [a0, a1, a2, a3] := match us, h with | [a0, a1, a2, a3], _ => ⟨a0, a1, a2, a3, rfl⟩
theorem len5 {us : List Value} (h : us.length = 5) : ∃ a0 a1 a2 a3 a4, us = [a0, a1, a2, a3, a4] := match us, h with | [a0, a1, a2, a3, a4], _ => ⟨a0, a1, a2, a3, a4, rfl⟩
theorem len6 {us : List Value} (h : us.length = 6) : ∃ a0 a1 a2 a3 a4 a5, us = [a0, a1, a2, a3, a4, a5] := match us, h with | [a0, a1, a2, a3, a4, a5], _ => ⟨a0, a1, a2, a3, a4, a5, rfl⟩
theorem all_mk {prg : Program} {l : PySem.W.OpenLaw} {w : World} {K : PySem.W.Frag} {h : Heap} {mg : Str → Option Value} {fa : Addr} (X : K.In h) (G : h.Ns mainGlobals mg) (hfa : mg "law" = some (.ref fa))
    {f_PollError_init : Addr} {od_PollError_init an_PollError_init : Option Addr} {sl_PollError_init : Array (Option Value)} {oc_PollError_init kV_PollError_init dc_PollError_init pm_PollError_init cd_PollError_init ct_PollError_init : Value}
    {T_PollError_init : Addr} {to_PollError_init : Value} {td_PollError_init : Option Addr} {tn_PollError_init : Nat} {tsl_PollError_init : Array (Option Value)} {tk0_PollError_init : Tok}
    (lt_PollError_init : K.lookup T_PollError_init = some ⟨to_PollError_init, td_PollError_init, .seq #[.str "" tk0_PollError_init] tn_PollError_init, tsl_PollError_init⟩)
    (l_PollError_init : K.lookup f_PollError_init = some ⟨oc_PollError_init, od_PollError_init, .func (PySem.W.fnOf "__init__" "PollError.__init__" (defArgs s_PollError_init) (defBody s_PollError_init) (defScope s_PollError_init) (.ref T_PollError_init) kV_PollError_init dc_PollError_init pm_PollError_init an_PollError_init cd_PollError_init ct_PollError_init), sl_PollError_init⟩)
    (c_PollError_init : PySem.W.codeIn K cd_PollError_init "PollError.__init__" = true) (k_PollError_init : PySem.W.keepIn K (.ref f_PollError_init) = true)
    {f_NoOption_init : Addr} {od_NoOption_init an_NoOption_init : Option Addr} {sl_NoOption_init : Array (Option Value)} {oc_NoOption_init kV_NoOption_init dc_NoOption_init pm_NoOption_init cd_NoOption_init ct_NoOption_init : Value}
    (l_NoOption_init : K.lookup f_NoOption_init = some ⟨oc_NoOption_init, od_NoOption_init, .func (PySem.W.fnOf "__init__" "NoOption.__init__" (defArgs s_NoOption_init) (defBody s_NoOption_init) (defScope s_NoOption_init) .none kV_NoOption_init dc_NoOption_init pm_NoOption_init an_NoOption_init cd_NoOption_init ct_NoOption_init), sl_NoOption_init⟩)
    (c_NoOption_init : PySem.W.codeIn K cd_NoOption_init "NoOption.__init__" = true) (k_NoOption_init : PySem.W.keepIn K (.ref f_NoOption_init) = true)
    {f_is_whole : Addr} {od_is_whole an_is_whole : Option Addr} {sl_is_whole : Array (Option Value)} {oc_is_whole kV_is_whole dc_is_whole pm_is_whole cd_is_whole ct_is_whole : Value}
    (a_is_whole : PySem.W.nsIn K mainGlobals "is_whole" = some (some (.ref f_is_whole)))
    (l_is_whole : K.lookup f_is_whole = some ⟨oc_is_whole, od_is_whole, .func (PySem.W.fnOf "is_whole" "is_whole" (defArgs s_is_whole) (defBody s_is_whole) (defScope s_is_whole) .none kV_is_whole dc_is_whole pm_is_whole an_is_whole cd_is_whole ct_is_whole), sl_is_whole⟩)
    (c_is_whole : PySem.W.codeIn K cd_is_whole "is_whole" = true) (k_is_whole : PySem.W.keepIn K (.ref f_is_whole) = true)
    {f_is_name : Addr} {od_is_name an_is_name : Option Addr} {sl_is_name : Array (Option Value)} {oc_is_name kV_is_name dc_is_name pm_is_name cd_is_name ct_is_name : Value}
    (a_is_name : PySem.W.nsIn K mainGlobals "is_name" = some (some (.ref f_is_name)))
    (l_is_name : K.lookup f_is_name = some ⟨oc_is_name, od_is_name, .func (PySem.W.fnOf "is_name" "is_name" (defArgs s_is_name) (defBody s_is_name) (defScope s_is_name) .none kV_is_name dc_is_name pm_is_name an_is_name cd_is_name ct_is_name), sl_is_name⟩)
    (c_is_name : PySem.W.codeIn K cd_is_name "is_name" = true) (k_is_name : PySem.W.keepIn K (.ref f_is_name) = true)
    {f_is_tuple_of : Addr} {od_is_tuple_of an_is_tuple_of : Option Addr} {sl_is_tuple_of : Array (Option Value)} {oc_is_tuple_of kV_is_tuple_of dc_is_tuple_of pm_is_tuple_of cd_is_tuple_of ct_is_tuple_of : Value}
    (a_is_tuple_of : PySem.W.nsIn K mainGlobals "is_tuple_of" = some (some (.ref f_is_tuple_of)))
    (l_is_tuple_of : K.lookup f_is_tuple_of = some ⟨oc_is_tuple_of, od_is_tuple_of, .func (PySem.W.fnOf "is_tuple_of" "is_tuple_of" (defArgs s_is_tuple_of) (defBody s_is_tuple_of) (defScope s_is_tuple_of) .none kV_is_tuple_of dc_is_tuple_of pm_is_tuple_of an_is_tuple_of cd_is_tuple_of ct_is_tuple_of), sl_is_tuple_of⟩)
    (c_is_tuple_of : PySem.W.codeIn K cd_is_tuple_of "is_tuple_of" = true) (k_is_tuple_of : PySem.W.keepIn K (.ref f_is_tuple_of) = true)
    {f_are_names : Addr} {od_are_names an_are_names : Option Addr} {sl_are_names : Array (Option Value)} {oc_are_names kV_are_names dc_are_names pm_are_names cd_are_names ct_are_names : Value}
    (a_are_names : PySem.W.nsIn K mainGlobals "are_names" = some (some (.ref f_are_names)))
    (l_are_names : K.lookup f_are_names = some ⟨oc_are_names, od_are_names, .func (PySem.W.fnOf "are_names" "are_names" (defArgs s_are_names) (defBody s_are_names) (defScope s_are_names) .none kV_are_names dc_are_names pm_are_names an_are_names cd_are_names ct_are_names), sl_are_names⟩)
    (c_are_names : PySem.W.codeIn K cd_are_names "are_names" = true) (k_are_names : PySem.W.keepIn K (.ref f_are_names) = true)
    {f_are_options : Addr} {od_are_options an_are_options : Option Addr} {sl_are_options : Array (Option Value)} {oc_are_options kV_are_options dc_are_options pm_are_options cd_are_options ct_are_options : Value}
    (a_are_options : PySem.W.nsIn K mainGlobals "are_options" = some (some (.ref f_are_options)))
    (l_are_options : K.lookup f_are_options = some ⟨oc_are_options, od_are_options, .func (PySem.W.fnOf "are_options" "are_options" (defArgs s_are_options) (defBody s_are_options) (defScope s_are_options) .none kV_are_options dc_are_options pm_are_options an_are_options cd_are_options ct_are_options), sl_are_options⟩)
    (c_are_options : PySem.W.codeIn K cd_are_options "are_options" = true) (k_are_options : PySem.W.keepIn K (.ref f_are_options) = true)
    {f_is_option : Addr} {od_is_option an_is_option : Option Addr} {sl_is_option : Array (Option Value)} {oc_is_option kV_is_option dc_is_option pm_is_option cd_is_option ct_is_option : Value}
    (a_is_option : PySem.W.nsIn K mainGlobals "is_option" = some (some (.ref f_is_option)))
    (l_is_option : K.lookup f_is_option = some ⟨oc_is_option, od_is_option, .func (PySem.W.fnOf "is_option" "is_option" (defArgs s_is_option) (defBody s_is_option) (defScope s_is_option) .none kV_is_option dc_is_option pm_is_option an_is_option cd_is_option ct_is_option), sl_is_option⟩)
    (c_is_option : PySem.W.codeIn K cd_is_option "is_option" = true) (k_is_option : PySem.W.keepIn K (.ref f_is_option) = true)
    {f_check_option : Addr} {od_check_option an_check_option : Option Addr} {sl_check_option : Array (Option Value)} {oc_check_option kV_check_option dc_check_option pm_check_option cd_check_option ct_check_option : Value}
    (a_check_option : PySem.W.nsIn K mainGlobals "check_option" = some (some (.ref f_check_option)))
    (l_check_option : K.lookup f_check_option = some ⟨oc_check_option, od_check_option, .func (PySem.W.fnOf "check_option" "check_option" (defArgs s_check_option) (defBody s_check_option) (defScope s_check_option) .none kV_check_option dc_check_option pm_check_option an_check_option cd_check_option ct_check_option), sl_check_option⟩)
    (c_check_option : PySem.W.codeIn K cd_check_option "check_option" = true) (k_check_option : PySem.W.keepIn K (.ref f_check_option) = true)
    {f_are_unlike_options : Addr} {od_are_unlike_options an_are_unlike_options : Option Addr} {sl_are_unlike_options : Array (Option Value)} {oc_are_unlike_options kV_are_unlike_options dc_are_unlike_options pm_are_unlike_options cd_are_unlike_options ct_are_unlike_options : Value}
    (a_are_unlike_options : PySem.W.nsIn K mainGlobals "are_unlike_options" = some (some (.ref f_are_unlike_options)))
    (l_are_unlike_options : K.lookup f_are_unlike_options = some ⟨oc_are_unlike_options, od_are_unlike_options, .func (PySem.W.fnOf "are_unlike_options" "are_unlike_options" (defArgs s_are_unlike_options) (defBody s_are_unlike_options) (defScope s_are_unlike_options) .none kV_are_unlike_options dc_are_unlike_options pm_are_unlike_options an_are_unlike_options cd_are_unlike_options ct_are_unlike_options), sl_are_unlike_options⟩)
    (c_are_unlike_options : PySem.W.codeIn K cd_are_unlike_options "are_unlike_options" = true) (k_are_unlike_options : PySem.W.keepIn K (.ref f_are_unlike_options) = true)
    {f_is_mark : Addr} {od_is_mark an_is_mark : Option Addr} {sl_is_mark : Array (Option Value)} {oc_is_mark kV_is_mark dc_is_mark pm_is_mark cd_is_mark ct_is_mark : Value}
    (a_is_mark : PySem.W.nsIn K mainGlobals "is_mark" = some (some (.ref f_is_mark)))
    (l_is_mark : K.lookup f_is_mark = some ⟨oc_is_mark, od_is_mark, .func (PySem.W.fnOf "is_mark" "is_mark" (defArgs s_is_mark) (defBody s_is_mark) (defScope s_is_mark) .none kV_is_mark dc_is_mark pm_is_mark an_is_mark cd_is_mark ct_is_mark), sl_is_mark⟩)
    (c_is_mark : PySem.W.codeIn K cd_is_mark "is_mark" = true) (k_is_mark : PySem.W.keepIn K (.ref f_is_mark) = true)
    {f_are_tiers : Addr} {od_are_tiers an_are_tiers : Option Addr} {sl_are_tiers : Array (Option Value)} {oc_are_tiers kV_are_tiers dc_are_tiers pm_are_tiers cd_are_tiers ct_are_tiers : Value}
    (a_are_tiers : PySem.W.nsIn K mainGlobals "are_tiers" = some (some (.ref f_are_tiers)))
    (l_are_tiers : K.lookup f_are_tiers = some ⟨oc_are_tiers, od_are_tiers, .func (PySem.W.fnOf "are_tiers" "are_tiers" (defArgs s_are_tiers) (defBody s_are_tiers) (defScope s_are_tiers) .none kV_are_tiers dc_are_tiers pm_are_tiers an_are_tiers cd_are_tiers ct_are_tiers), sl_are_tiers⟩)
    (c_are_tiers : PySem.W.codeIn K cd_are_tiers "are_tiers" = true) (k_are_tiers : PySem.W.keepIn K (.ref f_are_tiers) = true)
    {f_are_marks : Addr} {od_are_marks an_are_marks : Option Addr} {sl_are_marks : Array (Option Value)} {oc_are_marks kV_are_marks dc_are_marks pm_are_marks cd_are_marks ct_are_marks : Value}
    (a_are_marks : PySem.W.nsIn K mainGlobals "are_marks" = some (some (.ref f_are_marks)))
    (l_are_marks : K.lookup f_are_marks = some ⟨oc_are_marks, od_are_marks, .func (PySem.W.fnOf "are_marks" "are_marks" (defArgs s_are_marks) (defBody s_are_marks) (defScope s_are_marks) .none kV_are_marks dc_are_marks pm_are_marks an_are_marks cd_are_marks ct_are_marks), sl_are_marks⟩)
    (c_are_marks : PySem.W.codeIn K cd_are_marks "are_marks" = true) (k_are_marks : PySem.W.keepIn K (.ref f_are_marks) = true)
    {f_is_ballot : Addr} {od_is_ballot an_is_ballot : Option Addr} {sl_is_ballot : Array (Option Value)} {oc_is_ballot kV_is_ballot dc_is_ballot pm_is_ballot cd_is_ballot ct_is_ballot : Value}
    (a_is_ballot : PySem.W.nsIn K mainGlobals "is_ballot" = some (some (.ref f_is_ballot)))
    (l_is_ballot : K.lookup f_is_ballot = some ⟨oc_is_ballot, od_is_ballot, .func (PySem.W.fnOf "is_ballot" "is_ballot" (defArgs s_is_ballot) (defBody s_is_ballot) (defScope s_is_ballot) .none kV_is_ballot dc_is_ballot pm_is_ballot an_is_ballot cd_is_ballot ct_is_ballot), sl_is_ballot⟩)
    (c_is_ballot : PySem.W.codeIn K cd_is_ballot "is_ballot" = true) (k_is_ballot : PySem.W.keepIn K (.ref f_is_ballot) = true)
    {f_is_row : Addr} {od_is_row an_is_row : Option Addr} {sl_is_row : Array (Option Value)} {oc_is_row kV_is_row dc_is_row pm_is_row cd_is_row ct_is_row : Value}
    (a_is_row : PySem.W.nsIn K mainGlobals "is_row" = some (some (.ref f_is_row)))
    (l_is_row : K.lookup f_is_row = some ⟨oc_is_row, od_is_row, .func (PySem.W.fnOf "is_row" "is_row" (defArgs s_is_row) (defBody s_is_row) (defScope s_is_row) .none kV_is_row dc_is_row pm_is_row an_is_row cd_is_row ct_is_row), sl_is_row⟩)
    (c_is_row : PySem.W.codeIn K cd_is_row "is_row" = true) (k_is_row : PySem.W.keepIn K (.ref f_is_row) = true)
    {f_check_poll : Addr} {od_check_poll an_check_poll : Option Addr} {sl_check_poll : Array (Option Value)} {oc_check_poll kV_check_poll dc_check_poll pm_check_poll cd_check_poll ct_check_poll : Value}
    (a_check_poll : PySem.W.nsIn K mainGlobals "check_poll" = some (some (.ref f_check_poll)))
    (l_check_poll : K.lookup f_check_poll = some ⟨oc_check_poll, od_check_poll, .func (PySem.W.fnOf "check_poll" "check_poll" (defArgs s_check_poll) (defBody s_check_poll) (defScope s_check_poll) .none kV_check_poll dc_check_poll pm_check_poll an_check_poll cd_check_poll ct_check_poll), sl_check_poll⟩)
    (c_check_poll : PySem.W.codeIn K cd_check_poll "check_poll" = true) (k_check_poll : PySem.W.keepIn K (.ref f_check_poll) = true)
    {f_Poll_init : Addr} {od_Poll_init an_Poll_init : Option Addr} {sl_Poll_init : Array (Option Value)} {oc_Poll_init kV_Poll_init dc_Poll_init pm_Poll_init cd_Poll_init ct_Poll_init : Value}
    {e_Poll_init : Addr}
    {T_Poll_init : Addr} {to_Poll_init : Value} {td_Poll_init : Option Addr} {tn_Poll_init : Nat} {tsl_Poll_init : Array (Option Value)} 
    (lt_Poll_init : K.lookup T_Poll_init = some ⟨to_Poll_init, td_Poll_init, .seq #[.ref e_Poll_init] tn_Poll_init, tsl_Poll_init⟩)
    (l_Poll_init : K.lookup f_Poll_init = some ⟨oc_Poll_init, od_Poll_init, .func (PySem.W.fnOf "__init__" "Poll.__init__" (defArgs s_Poll_init) (defBody s_Poll_init) (defScope s_Poll_init) (.ref T_Poll_init) kV_Poll_init dc_Poll_init pm_Poll_init an_Poll_init cd_Poll_init ct_Poll_init), sl_Poll_init⟩)
    (c_Poll_init : PySem.W.codeIn K cd_Poll_init "Poll.__init__" = true) (k_Poll_init : PySem.W.keepIn K (.ref f_Poll_init) = true)
    {f_order_ranks : Addr} {od_order_ranks an_order_ranks : Option Addr} {sl_order_ranks : Array (Option Value)} {oc_order_ranks kV_order_ranks dc_order_ranks pm_order_ranks cd_order_ranks ct_order_ranks : Value}
    (a_order_ranks : PySem.W.nsIn K mainGlobals "order_ranks" = some (some (.ref f_order_ranks)))
    (l_order_ranks : K.lookup f_order_ranks = some ⟨oc_order_ranks, od_order_ranks, .func (PySem.W.fnOf "order_ranks" "order_ranks" (defArgs s_order_ranks) (defBody s_order_ranks) (defScope s_order_ranks) .none kV_order_ranks dc_order_ranks pm_order_ranks an_order_ranks cd_order_ranks ct_order_ranks), sl_order_ranks⟩)
    (c_order_ranks : PySem.W.codeIn K cd_order_ranks "order_ranks" = true) (k_order_ranks : PySem.W.keepIn K (.ref f_order_ranks) = true)
    {f_ranks : Addr} {od_ranks an_ranks : Option Addr} {sl_ranks : Array (Option Value)} {oc_ranks kV_ranks dc_ranks pm_ranks cd_ranks ct_ranks : Value}
    (a_ranks : PySem.W.nsIn K mainGlobals "ranks" = some (some (.ref f_ranks)))
    (l_ranks : K.lookup f_ranks = some ⟨oc_ranks, od_ranks, .func (PySem.W.fnOf "ranks" "ranks" (defArgs s_ranks) (defBody s_ranks) (defScope s_ranks) .none kV_ranks dc_ranks pm_ranks an_ranks cd_ranks ct_ranks), sl_ranks⟩)
    (c_ranks : PySem.W.codeIn K cd_ranks "ranks" = true) (k_ranks : PySem.W.keepIn K (.ref f_ranks) = true)
    {f_ranked : Addr} {od_ranked an_ranked : Option Addr} {sl_ranked : Array (Option Value)} {oc_ranked kV_ranked dc_ranked pm_ranked cd_ranked ct_ranked : Value}
    (a_ranked : PySem.W.nsIn K mainGlobals "ranked" = some (some (.ref f_ranked)))
    (l_ranked : K.lookup f_ranked = some ⟨oc_ranked, od_ranked, .func (PySem.W.fnOf "ranked" "ranked" (defArgs s_ranked) (defBody s_ranked) (defScope s_ranked) .none kV_ranked dc_ranked pm_ranked an_ranked cd_ranked ct_ranked), sl_ranked⟩)
    (c_ranked : PySem.W.codeIn K cd_ranked "ranked" = true) (k_ranked : PySem.W.keepIn K (.ref f_ranked) = true)
    {f_margin_by : Addr} {od_margin_by an_margin_by : Option Addr} {sl_margin_by : Array (Option Value)} {oc_margin_by kV_margin_by dc_margin_by pm_margin_by cd_margin_by ct_margin_by : Value}
    (a_margin_by : PySem.W.nsIn K mainGlobals "margin_by" = some (some (.ref f_margin_by)))
    (l_margin_by : K.lookup f_margin_by = some ⟨oc_margin_by, od_margin_by, .func (PySem.W.fnOf "margin_by" "margin_by" (defArgs s_margin_by) (defBody s_margin_by) (defScope s_margin_by) .none kV_margin_by dc_margin_by pm_margin_by an_margin_by cd_margin_by ct_margin_by), sl_margin_by⟩)
    (c_margin_by : PySem.W.codeIn K cd_margin_by "margin_by" = true) (k_margin_by : PySem.W.keepIn K (.ref f_margin_by) = true)
    {f_margins : Addr} {od_margins an_margins : Option Addr} {sl_margins : Array (Option Value)} {oc_margins kV_margins dc_margins pm_margins cd_margins ct_margins : Value}
    (a_margins : PySem.W.nsIn K mainGlobals "margins" = some (some (.ref f_margins)))
    (l_margins : K.lookup f_margins = some ⟨oc_margins, od_margins, .func (PySem.W.fnOf "margins" "margins" (defArgs s_margins) (defBody s_margins) (defScope s_margins) .none kV_margins dc_margins pm_margins an_margins cd_margins ct_margins), sl_margins⟩)
    (c_margins : PySem.W.codeIn K cd_margins "margins" = true) (k_margins : PySem.W.keepIn K (.ref f_margins) = true)
    {f_is_way : Addr} {od_is_way an_is_way : Option Addr} {sl_is_way : Array (Option Value)} {oc_is_way kV_is_way dc_is_way pm_is_way cd_is_way ct_is_way : Value}
    (a_is_way : PySem.W.nsIn K mainGlobals "is_way" = some (some (.ref f_is_way)))
    (l_is_way : K.lookup f_is_way = some ⟨oc_is_way, od_is_way, .func (PySem.W.fnOf "is_way" "is_way" (defArgs s_is_way) (defBody s_is_way) (defScope s_is_way) .none kV_is_way dc_is_way pm_is_way an_is_way cd_is_way ct_is_way), sl_is_way⟩)
    (c_is_way : PySem.W.codeIn K cd_is_way "is_way" = true) (k_is_way : PySem.W.keepIn K (.ref f_is_way) = true)
    {f_is_lot : Addr} {od_is_lot an_is_lot : Option Addr} {sl_is_lot : Array (Option Value)} {oc_is_lot kV_is_lot dc_is_lot pm_is_lot cd_is_lot ct_is_lot : Value}
    (a_is_lot : PySem.W.nsIn K mainGlobals "is_lot" = some (some (.ref f_is_lot)))
    (l_is_lot : K.lookup f_is_lot = some ⟨oc_is_lot, od_is_lot, .func (PySem.W.fnOf "is_lot" "is_lot" (defArgs s_is_lot) (defBody s_is_lot) (defScope s_is_lot) .none kV_is_lot dc_is_lot pm_is_lot an_is_lot cd_is_lot ct_is_lot), sl_is_lot⟩)
    (c_is_lot : PySem.W.codeIn K cd_is_lot "is_lot" = true) (k_is_lot : PySem.W.keepIn K (.ref f_is_lot) = true)
    {f_steps_of : Addr} {od_steps_of an_steps_of : Option Addr} {sl_steps_of : Array (Option Value)} {oc_steps_of kV_steps_of dc_steps_of pm_steps_of cd_steps_of ct_steps_of : Value}
    (a_steps_of : PySem.W.nsIn K mainGlobals "steps_of" = some (some (.ref f_steps_of)))
    (l_steps_of : K.lookup f_steps_of = some ⟨oc_steps_of, od_steps_of, .func (PySem.W.fnOf "steps_of" "steps_of" (defArgs s_steps_of) (defBody s_steps_of) (defScope s_steps_of) .none kV_steps_of dc_steps_of pm_steps_of an_steps_of cd_steps_of ct_steps_of), sl_steps_of⟩)
    (c_steps_of : PySem.W.codeIn K cd_steps_of "steps_of" = true) (k_steps_of : PySem.W.keepIn K (.ref f_steps_of) = true)
    {f_steps_out : Addr} {od_steps_out an_steps_out : Option Addr} {sl_steps_out : Array (Option Value)} {oc_steps_out kV_steps_out dc_steps_out pm_steps_out cd_steps_out ct_steps_out : Value}
    (a_steps_out : PySem.W.nsIn K mainGlobals "steps_out" = some (some (.ref f_steps_out)))
    (l_steps_out : K.lookup f_steps_out = some ⟨oc_steps_out, od_steps_out, .func (PySem.W.fnOf "steps_out" "steps_out" (defArgs s_steps_out) (defBody s_steps_out) (defScope s_steps_out) .none kV_steps_out dc_steps_out pm_steps_out an_steps_out cd_steps_out ct_steps_out), sl_steps_out⟩)
    (c_steps_out : PySem.W.codeIn K cd_steps_out "steps_out" = true) (k_steps_out : PySem.W.keepIn K (.ref f_steps_out) = true)
    {f_weakest : Addr} {od_weakest an_weakest : Option Addr} {sl_weakest : Array (Option Value)} {oc_weakest kV_weakest dc_weakest pm_weakest cd_weakest ct_weakest : Value}
    (a_weakest : PySem.W.nsIn K mainGlobals "weakest" = some (some (.ref f_weakest)))
    (l_weakest : K.lookup f_weakest = some ⟨oc_weakest, od_weakest, .func (PySem.W.fnOf "weakest" "weakest" (defArgs s_weakest) (defBody s_weakest) (defScope s_weakest) .none kV_weakest dc_weakest pm_weakest an_weakest cd_weakest ct_weakest), sl_weakest⟩)
    (c_weakest : PySem.W.codeIn K cd_weakest "weakest" = true) (k_weakest : PySem.W.keepIn K (.ref f_weakest) = true)
    {f_strongest_ways : Addr} {od_strongest_ways an_strongest_ways : Option Addr} {sl_strongest_ways : Array (Option Value)} {oc_strongest_ways kV_strongest_ways dc_strongest_ways pm_strongest_ways cd_strongest_ways ct_strongest_ways : Value}
    (a_strongest_ways : PySem.W.nsIn K mainGlobals "strongest_ways" = some (some (.ref f_strongest_ways)))
    (l_strongest_ways : K.lookup f_strongest_ways = some ⟨oc_strongest_ways, od_strongest_ways, .func (PySem.W.fnOf "strongest_ways" "strongest_ways" (defArgs s_strongest_ways) (defBody s_strongest_ways) (defScope s_strongest_ways) .none kV_strongest_ways dc_strongest_ways pm_strongest_ways an_strongest_ways cd_strongest_ways ct_strongest_ways), sl_strongest_ways⟩)
    (c_strongest_ways : PySem.W.codeIn K cd_strongest_ways "strongest_ways" = true) (k_strongest_ways : PySem.W.keepIn K (.ref f_strongest_ways) = true)
    {f_strength : Addr} {od_strength an_strength : Option Addr} {sl_strength : Array (Option Value)} {oc_strength kV_strength dc_strength pm_strength cd_strength ct_strength : Value}
    (a_strength : PySem.W.nsIn K mainGlobals "strength" = some (some (.ref f_strength)))
    (l_strength : K.lookup f_strength = some ⟨oc_strength, od_strength, .func (PySem.W.fnOf "strength" "strength" (defArgs s_strength) (defBody s_strength) (defScope s_strength) .none kV_strength dc_strength pm_strength an_strength cd_strength ct_strength), sl_strength⟩)
    (c_strength : PySem.W.codeIn K cd_strength "strength" = true) (k_strength : PySem.W.keepIn K (.ref f_strength) = true)
    {f_strength_paper : Addr} {od_strength_paper an_strength_paper : Option Addr} {sl_strength_paper : Array (Option Value)} {oc_strength_paper kV_strength_paper dc_strength_paper pm_strength_paper cd_strength_paper ct_strength_paper : Value}
    (a_strength_paper : PySem.W.nsIn K mainGlobals "strength_paper" = some (some (.ref f_strength_paper)))
    (l_strength_paper : K.lookup f_strength_paper = some ⟨oc_strength_paper, od_strength_paper, .func (PySem.W.fnOf "strength_paper" "strength_paper" (defArgs s_strength_paper) (defBody s_strength_paper) (defScope s_strength_paper) .none kV_strength_paper dc_strength_paper pm_strength_paper an_strength_paper cd_strength_paper ct_strength_paper), sl_strength_paper⟩)
    (c_strength_paper : PySem.W.codeIn K cd_strength_paper "strength_paper" = true) (k_strength_paper : PySem.W.keepIn K (.ref f_strength_paper) = true)
    {f_shows_strength : Addr} {od_shows_strength an_shows_strength : Option Addr} {sl_shows_strength : Array (Option Value)} {oc_shows_strength kV_shows_strength dc_shows_strength pm_shows_strength cd_shows_strength ct_shows_strength : Value}
    (a_shows_strength : PySem.W.nsIn K mainGlobals "shows_strength" = some (some (.ref f_shows_strength)))
    (l_shows_strength : K.lookup f_shows_strength = some ⟨oc_shows_strength, od_shows_strength, .func (PySem.W.fnOf "shows_strength" "shows_strength" (defArgs s_shows_strength) (defBody s_shows_strength) (defScope s_shows_strength) .none kV_shows_strength dc_shows_strength pm_shows_strength an_shows_strength cd_shows_strength ct_shows_strength), sl_shows_strength⟩)
    (c_shows_strength : PySem.W.codeIn K cd_shows_strength "shows_strength" = true) (k_shows_strength : PySem.W.keepIn K (.ref f_shows_strength) = true)
    {f_is_no_weaker : Addr} {od_is_no_weaker an_is_no_weaker : Option Addr} {sl_is_no_weaker : Array (Option Value)} {oc_is_no_weaker kV_is_no_weaker dc_is_no_weaker pm_is_no_weaker cd_is_no_weaker ct_is_no_weaker : Value}
    (a_is_no_weaker : PySem.W.nsIn K mainGlobals "is_no_weaker" = some (some (.ref f_is_no_weaker)))
    (l_is_no_weaker : K.lookup f_is_no_weaker = some ⟨oc_is_no_weaker, od_is_no_weaker, .func (PySem.W.fnOf "is_no_weaker" "is_no_weaker" (defArgs s_is_no_weaker) (defBody s_is_no_weaker) (defScope s_is_no_weaker) .none kV_is_no_weaker dc_is_no_weaker pm_is_no_weaker an_is_no_weaker cd_is_no_weaker ct_is_no_weaker), sl_is_no_weaker⟩)
    (c_is_no_weaker : PySem.W.codeIn K cd_is_no_weaker "is_no_weaker" = true) (k_is_no_weaker : PySem.W.keepIn K (.ref f_is_no_weaker) = true)
    {f_ways_lot : Addr} {od_ways_lot an_ways_lot : Option Addr} {sl_ways_lot : Array (Option Value)} {oc_ways_lot kV_ways_lot dc_ways_lot pm_ways_lot cd_ways_lot ct_ways_lot : Value}
    (a_ways_lot : PySem.W.nsIn K mainGlobals "ways_lot" = some (some (.ref f_ways_lot)))
    (l_ways_lot : K.lookup f_ways_lot = some ⟨oc_ways_lot, od_ways_lot, .func (PySem.W.fnOf "ways_lot" "ways_lot" (defArgs s_ways_lot) (defBody s_ways_lot) (defScope s_ways_lot) .none kV_ways_lot dc_ways_lot pm_ways_lot an_ways_lot cd_ways_lot ct_ways_lot), sl_ways_lot⟩)
    (c_ways_lot : PySem.W.codeIn K cd_ways_lot "ways_lot" = true) (k_ways_lot : PySem.W.keepIn K (.ref f_ways_lot) = true)
    {f_by_ways : Addr} {od_by_ways an_by_ways : Option Addr} {sl_by_ways : Array (Option Value)} {oc_by_ways kV_by_ways dc_by_ways pm_by_ways cd_by_ways ct_by_ways : Value}
    (a_by_ways : PySem.W.nsIn K mainGlobals "by_ways" = some (some (.ref f_by_ways)))
    (l_by_ways : K.lookup f_by_ways = some ⟨oc_by_ways, od_by_ways, .func (PySem.W.fnOf "by_ways" "by_ways" (defArgs s_by_ways) (defBody s_by_ways) (defScope s_by_ways) .none kV_by_ways dc_by_ways pm_by_ways an_by_ways cd_by_ways ct_by_ways), sl_by_ways⟩)
    (c_by_ways : PySem.W.codeIn K cd_by_ways "by_ways" = true) (k_by_ways : PySem.W.keepIn K (.ref f_by_ways) = true)
    {f_others_than : Addr} {od_others_than an_others_than : Option Addr} {sl_others_than : Array (Option Value)} {oc_others_than kV_others_than dc_others_than pm_others_than cd_others_than ct_others_than : Value}
    (a_others_than : PySem.W.nsIn K mainGlobals "others_than" = some (some (.ref f_others_than)))
    (l_others_than : K.lookup f_others_than = some ⟨oc_others_than, od_others_than, .func (PySem.W.fnOf "others_than" "others_than" (defArgs s_others_than) (defBody s_others_than) (defScope s_others_than) .none kV_others_than dc_others_than pm_others_than an_others_than cd_others_than ct_others_than), sl_others_than⟩)
    (c_others_than : PySem.W.codeIn K cd_others_than "others_than" = true) (k_others_than : PySem.W.keepIn K (.ref f_others_than) = true)
    {f_unlost_ways : Addr} {od_unlost_ways an_unlost_ways : Option Addr} {sl_unlost_ways : Array (Option Value)} {oc_unlost_ways kV_unlost_ways dc_unlost_ways pm_unlost_ways cd_unlost_ways ct_unlost_ways : Value}
    (a_unlost_ways : PySem.W.nsIn K mainGlobals "unlost_ways" = some (some (.ref f_unlost_ways)))
    (l_unlost_ways : K.lookup f_unlost_ways = some ⟨oc_unlost_ways, od_unlost_ways, .func (PySem.W.fnOf "unlost_ways" "unlost_ways" (defArgs s_unlost_ways) (defBody s_unlost_ways) (defScope s_unlost_ways) .none kV_unlost_ways dc_unlost_ways pm_unlost_ways an_unlost_ways cd_unlost_ways ct_unlost_ways), sl_unlost_ways⟩)
    (c_unlost_ways : PySem.W.codeIn K cd_unlost_ways "unlost_ways" = true) (k_unlost_ways : PySem.W.keepIn K (.ref f_unlost_ways) = true)
    {f_top_lot : Addr} {od_top_lot an_top_lot : Option Addr} {sl_top_lot : Array (Option Value)} {oc_top_lot kV_top_lot dc_top_lot pm_top_lot cd_top_lot ct_top_lot : Value}
    (a_top_lot : PySem.W.nsIn K mainGlobals "top_lot" = some (some (.ref f_top_lot)))
    (l_top_lot : K.lookup f_top_lot = some ⟨oc_top_lot, od_top_lot, .func (PySem.W.fnOf "top_lot" "top_lot" (defArgs s_top_lot) (defBody s_top_lot) (defScope s_top_lot) .none kV_top_lot dc_top_lot pm_top_lot an_top_lot cd_top_lot ct_top_lot), sl_top_lot⟩)
    (c_top_lot : PySem.W.codeIn K cd_top_lot "top_lot" = true) (k_top_lot : PySem.W.keepIn K (.ref f_top_lot) = true)
    {f_leader : Addr} {od_leader an_leader : Option Addr} {sl_leader : Array (Option Value)} {oc_leader kV_leader dc_leader pm_leader cd_leader ct_leader : Value}
    (a_leader : PySem.W.nsIn K mainGlobals "leader" = some (some (.ref f_leader)))
    (l_leader : K.lookup f_leader = some ⟨oc_leader, od_leader, .func (PySem.W.fnOf "leader" "leader" (defArgs s_leader) (defBody s_leader) (defScope s_leader) .none kV_leader dc_leader pm_leader an_leader cd_leader ct_leader), sl_leader⟩)
    (c_leader : PySem.W.codeIn K cd_leader "leader" = true) (k_leader : PySem.W.keepIn K (.ref f_leader) = true)
    {f_is_rule : Addr} {od_is_rule an_is_rule : Option Addr} {sl_is_rule : Array (Option Value)} {oc_is_rule kV_is_rule dc_is_rule pm_is_rule cd_is_rule ct_is_rule : Value}
    (a_is_rule : PySem.W.nsIn K mainGlobals "is_rule" = some (some (.ref f_is_rule)))
    (l_is_rule : K.lookup f_is_rule = some ⟨oc_is_rule, od_is_rule, .func (PySem.W.fnOf "is_rule" "is_rule" (defArgs s_is_rule) (defBody s_is_rule) (defScope s_is_rule) .none kV_is_rule dc_is_rule pm_is_rule an_is_rule cd_is_rule ct_is_rule), sl_is_rule⟩)
    (c_is_rule : PySem.W.codeIn K cd_is_rule "is_rule" = true) (k_is_rule : PySem.W.keepIn K (.ref f_is_rule) = true)
    {f_check_rule : Addr} {od_check_rule an_check_rule : Option Addr} {sl_check_rule : Array (Option Value)} {oc_check_rule kV_check_rule dc_check_rule pm_check_rule cd_check_rule ct_check_rule : Value}
    (a_check_rule : PySem.W.nsIn K mainGlobals "check_rule" = some (some (.ref f_check_rule)))
    (l_check_rule : K.lookup f_check_rule = some ⟨oc_check_rule, od_check_rule, .func (PySem.W.fnOf "check_rule" "check_rule" (defArgs s_check_rule) (defBody s_check_rule) (defScope s_check_rule) .none kV_check_rule dc_check_rule pm_check_rule an_check_rule cd_check_rule ct_check_rule), sl_check_rule⟩)
    (c_check_rule : PySem.W.codeIn K cd_check_rule "check_rule" = true) (k_check_rule : PySem.W.keepIn K (.ref f_check_rule) = true)
    {f_lot : Addr} {od_lot an_lot : Option Addr} {sl_lot : Array (Option Value)} {oc_lot kV_lot dc_lot pm_lot cd_lot ct_lot : Value}
    (a_lot : PySem.W.nsIn K mainGlobals "lot" = some (some (.ref f_lot)))
    (l_lot : K.lookup f_lot = some ⟨oc_lot, od_lot, .func (PySem.W.fnOf "lot" "lot" (defArgs s_lot) (defBody s_lot) (defScope s_lot) .none kV_lot dc_lot pm_lot an_lot cd_lot ct_lot), sl_lot⟩)
    (c_lot : PySem.W.codeIn K cd_lot "lot" = true) (k_lot : PySem.W.keepIn K (.ref f_lot) = true)
    {f_law_cell_at : Addr} {od_law_cell_at an_law_cell_at : Option Addr} {sl_law_cell_at : Array (Option Value)} {oc_law_cell_at kV_law_cell_at dc_law_cell_at pm_law_cell_at cd_law_cell_at ct_law_cell_at : Value}
    (a_law_cell_at : PySem.W.nsIn K mainGlobals "_law_cell_at" = some (some (.ref f_law_cell_at)))
    (l_law_cell_at : K.lookup f_law_cell_at = some ⟨oc_law_cell_at, od_law_cell_at, .func (PySem.W.fnOf "_law_cell_at" "_law_cell_at" (defArgs s_law_cell_at) (defBody s_law_cell_at) (defScope s_law_cell_at) .none kV_law_cell_at dc_law_cell_at pm_law_cell_at an_law_cell_at cd_law_cell_at ct_law_cell_at), sl_law_cell_at⟩)
    (c_law_cell_at : PySem.W.codeIn K cd_law_cell_at "_law_cell_at" = true) (k_law_cell_at : PySem.W.keepIn K (.ref f_law_cell_at) = true)
    {f_law_well : Addr} {od_law_well an_law_well : Option Addr} {sl_law_well : Array (Option Value)} {oc_law_well kV_law_well dc_law_well pm_law_well cd_law_well ct_law_well : Value}
    (a_law_well : PySem.W.nsIn K mainGlobals "_law_well" = some (some (.ref f_law_well)))
    (l_law_well : K.lookup f_law_well = some ⟨oc_law_well, od_law_well, .func (PySem.W.fnOf "_law_well" "_law_well" (defArgs s_law_well) (defBody s_law_well) (defScope s_law_well) .none kV_law_well dc_law_well pm_law_well an_law_well cd_law_well ct_law_well), sl_law_well⟩)
    (c_law_well : PySem.W.codeIn K cd_law_well "_law_well" = true) (k_law_well : PySem.W.keepIn K (.ref f_law_well) = true)
    {f_law_draw : Addr} {od_law_draw an_law_draw : Option Addr} {sl_law_draw : Array (Option Value)} {oc_law_draw kV_law_draw dc_law_draw pm_law_draw cd_law_draw ct_law_draw : Value}
    (a_law_draw : PySem.W.nsIn K mainGlobals "_law_draw" = some (some (.ref f_law_draw)))
    (l_law_draw : K.lookup f_law_draw = some ⟨oc_law_draw, od_law_draw, .func (PySem.W.fnOf "_law_draw" "_law_draw" (defArgs s_law_draw) (defBody s_law_draw) (defScope s_law_draw) .none kV_law_draw dc_law_draw pm_law_draw an_law_draw cd_law_draw ct_law_draw), sl_law_draw⟩)
    (c_law_draw : PySem.W.codeIn K cd_law_draw "_law_draw" = true) (k_law_draw : PySem.W.keepIn K (.ref f_law_draw) = true)
    {f_law_one : Addr} {od_law_one an_law_one : Option Addr} {sl_law_one : Array (Option Value)} {oc_law_one kV_law_one dc_law_one pm_law_one cd_law_one ct_law_one : Value}
    (a_law_one : PySem.W.nsIn K mainGlobals "_law_one" = some (some (.ref f_law_one)))
    (l_law_one : K.lookup f_law_one = some ⟨oc_law_one, od_law_one, .func (PySem.W.fnOf "_law_one" "_law_one" (defArgs s_law_one) (defBody s_law_one) (defScope s_law_one) .none kV_law_one dc_law_one pm_law_one an_law_one cd_law_one ct_law_one), sl_law_one⟩)
    (c_law_one : PySem.W.codeIn K cd_law_one "_law_one" = true) (k_law_one : PySem.W.keepIn K (.ref f_law_one) = true)
    {f_law_shuffled : Addr} {od_law_shuffled an_law_shuffled : Option Addr} {sl_law_shuffled : Array (Option Value)} {oc_law_shuffled kV_law_shuffled dc_law_shuffled pm_law_shuffled cd_law_shuffled ct_law_shuffled : Value}
    (a_law_shuffled : PySem.W.nsIn K mainGlobals "_law_shuffled" = some (some (.ref f_law_shuffled)))
    (l_law_shuffled : K.lookup f_law_shuffled = some ⟨oc_law_shuffled, od_law_shuffled, .func (PySem.W.fnOf "_law_shuffled" "_law_shuffled" (defArgs s_law_shuffled) (defBody s_law_shuffled) (defScope s_law_shuffled) .none kV_law_shuffled dc_law_shuffled pm_law_shuffled an_law_shuffled cd_law_shuffled ct_law_shuffled), sl_law_shuffled⟩)
    (c_law_shuffled : PySem.W.codeIn K cd_law_shuffled "_law_shuffled" = true) (k_law_shuffled : PySem.W.keepIn K (.ref f_law_shuffled) = true)
    {f_law_names : Addr} {od_law_names an_law_names : Option Addr} {sl_law_names : Array (Option Value)} {oc_law_names kV_law_names dc_law_names pm_law_names cd_law_names ct_law_names : Value}
    (a_law_names : PySem.W.nsIn K mainGlobals "_law_names" = some (some (.ref f_law_names)))
    (l_law_names : K.lookup f_law_names = some ⟨oc_law_names, od_law_names, .func (PySem.W.fnOf "_law_names" "_law_names" (defArgs s_law_names) (defBody s_law_names) (defScope s_law_names) .none kV_law_names dc_law_names pm_law_names an_law_names cd_law_names ct_law_names), sl_law_names⟩)
    (c_law_names : PySem.W.codeIn K cd_law_names "_law_names" = true) (k_law_names : PySem.W.keepIn K (.ref f_law_names) = true)
    {f_law_ballot : Addr} {od_law_ballot an_law_ballot : Option Addr} {sl_law_ballot : Array (Option Value)} {oc_law_ballot kV_law_ballot dc_law_ballot pm_law_ballot cd_law_ballot ct_law_ballot : Value}
    (a_law_ballot : PySem.W.nsIn K mainGlobals "_law_ballot" = some (some (.ref f_law_ballot)))
    (l_law_ballot : K.lookup f_law_ballot = some ⟨oc_law_ballot, od_law_ballot, .func (PySem.W.fnOf "_law_ballot" "_law_ballot" (defArgs s_law_ballot) (defBody s_law_ballot) (defScope s_law_ballot) .none kV_law_ballot dc_law_ballot pm_law_ballot an_law_ballot cd_law_ballot ct_law_ballot), sl_law_ballot⟩)
    (c_law_ballot : PySem.W.codeIn K cd_law_ballot "_law_ballot" = true) (k_law_ballot : PySem.W.keepIn K (.ref f_law_ballot) = true)
    {f_law_parts : Addr} {od_law_parts an_law_parts : Option Addr} {sl_law_parts : Array (Option Value)} {oc_law_parts kV_law_parts dc_law_parts pm_law_parts cd_law_parts ct_law_parts : Value}
    (a_law_parts : PySem.W.nsIn K mainGlobals "_law_parts" = some (some (.ref f_law_parts)))
    (l_law_parts : K.lookup f_law_parts = some ⟨oc_law_parts, od_law_parts, .func (PySem.W.fnOf "_law_parts" "_law_parts" (defArgs s_law_parts) (defBody s_law_parts) (defScope s_law_parts) .none kV_law_parts dc_law_parts pm_law_parts an_law_parts cd_law_parts ct_law_parts), sl_law_parts⟩)
    (c_law_parts : PySem.W.codeIn K cd_law_parts "_law_parts" = true) (k_law_parts : PySem.W.keepIn K (.ref f_law_parts) = true)
    {f_law_threes_right : Addr} {od_law_threes_right an_law_threes_right : Option Addr} {sl_law_threes_right : Array (Option Value)} {oc_law_threes_right kV_law_threes_right dc_law_threes_right pm_law_threes_right cd_law_threes_right ct_law_threes_right : Value}
    (a_law_threes_right : PySem.W.nsIn K mainGlobals "_law_threes_right" = some (some (.ref f_law_threes_right)))
    (l_law_threes_right : K.lookup f_law_threes_right = some ⟨oc_law_threes_right, od_law_threes_right, .func (PySem.W.fnOf "_law_threes_right" "_law_threes_right" (defArgs s_law_threes_right) (defBody s_law_threes_right) (defScope s_law_threes_right) .none kV_law_threes_right dc_law_threes_right pm_law_threes_right an_law_threes_right cd_law_threes_right ct_law_threes_right), sl_law_threes_right⟩)
    (c_law_threes_right : PySem.W.codeIn K cd_law_threes_right "_law_threes_right" = true) (k_law_threes_right : PySem.W.keepIn K (.ref f_law_threes_right) = true)
    {f_law_drawn_right : Addr} {od_law_drawn_right an_law_drawn_right : Option Addr} {sl_law_drawn_right : Array (Option Value)} {oc_law_drawn_right kV_law_drawn_right dc_law_drawn_right pm_law_drawn_right cd_law_drawn_right ct_law_drawn_right : Value}
    (a_law_drawn_right : PySem.W.nsIn K mainGlobals "_law_drawn_right" = some (some (.ref f_law_drawn_right)))
    (l_law_drawn_right : K.lookup f_law_drawn_right = some ⟨oc_law_drawn_right, od_law_drawn_right, .func (PySem.W.fnOf "_law_drawn_right" "_law_drawn_right" (defArgs s_law_drawn_right) (defBody s_law_drawn_right) (defScope s_law_drawn_right) .none kV_law_drawn_right dc_law_drawn_right pm_law_drawn_right an_law_drawn_right cd_law_drawn_right ct_law_drawn_right), sl_law_drawn_right⟩)
    (c_law_drawn_right : PySem.W.codeIn K cd_law_drawn_right "_law_drawn_right" = true) (k_law_drawn_right : PySem.W.keepIn K (.ref f_law_drawn_right) = true)
    {f_law : Addr} {od_law an_law : Option Addr} {sl_law : Array (Option Value)} {oc_law kV_law dc_law pm_law cd_law ct_law : Value}
    (a_law : PySem.W.nsIn K mainGlobals "law" = some (some (.ref f_law)))
    (l_law : K.lookup f_law = some ⟨oc_law, od_law, .func (PySem.W.fnOf "law" "law" (defArgs s_law) (defBody s_law) (defScope s_law) .none kV_law dc_law pm_law an_law cd_law ct_law), sl_law⟩)
    (c_law : PySem.W.codeIn K cd_law "law" = true) (k_law : PySem.W.keepIn K (.ref f_law) = true)
    {C_NoOption : Addr}
    (aC_NoOption : PySem.W.nsIn K mainGlobals "NoOption" = some (some (.ref C_NoOption)))
    {nm_NoOption q_NoOption : Str} {N_NoOption : Addr} {bs_NoOption : List Value} {sn_NoOption : List Str} {sub_NoOption : List Value} {ab_NoOption : Bool} {col_NoOption : Option Bool} {dd_NoOption : Option Addr} {m0_NoOption m1_NoOption m2_NoOption m3_NoOption m5_NoOption : Option Value}
    (xL_NoOption : K.lookup C_NoOption = some (excClassObj nm_NoOption q_NoOption C_NoOption N_NoOption bs_NoOption [.type "KeyError", .type "LookupError", .type "Exception", .type "BaseException", .type "object"] true sn_NoOption sub_NoOption ab_NoOption col_NoOption dd_NoOption m0_NoOption m1_NoOption m2_NoOption m3_NoOption m5_NoOption "LookupError.__new__"))
    (sa_NoOption : PySem.W.findIn K (.ref C_NoOption) "__setattr__" = some (some (.builtin "object.__setattr__")))
    (gt_NoOption : PySem.W.findIn K (.ref C_NoOption) "__getattribute__" = some (some (.builtin "BaseException.__getattribute__")))
    (gg_NoOption : PySem.W.findIn K (.ref C_NoOption) "__getattr__" = some none)
    (ai_NoOption : PySem.W.findIn K (.ref C_NoOption) "__init__" = some (some (.ref f_NoOption_init)))
    (ti_NoOption : PySem.W.typeIn K (.ref f_NoOption_init) = some (.type "function"))
    (kC_NoOption : PySem.W.keepIn K (.ref C_NoOption) = true)
    (eC_NoOption : PySem.W.subIn K (.ref C_NoOption) (.type "BaseException") = some true)
    (tC_NoOption : PySem.W.typeIn K (.ref C_NoOption) = some (.type "type"))
    (hC_NoOption : PySem.W.hasDictIn K C_NoOption = true)
    (nf_NoOption_name : PySem.W.findIn K (.ref C_NoOption) "name" = some none)
    (ha_NoOption : PySem.W.findIn K (.ref C_NoOption) "__class__" = some (some (.builtin "object.__class__")))
    (hn_NoOption : PySem.W.specialIn K (.builtin "object.__class__") "__get__" = some (some (.builtin "getset_descriptor.__get__")))
    (ht_NoOption : PySem.W.takesIn K (.builtin "object.__class__") = some true)
    (ob_NoOption : PySem.W.mroIn K C_NoOption (.type "object") = some true)
    {C_PollError : Addr}
    (aC_PollError : PySem.W.nsIn K mainGlobals "PollError" = some (some (.ref C_PollError)))
    {nm_PollError q_PollError : Str} {N_PollError : Addr} {bs_PollError : List Value} {sn_PollError : List Str} {sub_PollError : List Value} {ab_PollError : Bool} {col_PollError : Option Bool} {dd_PollError : Option Addr} {m0_PollError m1_PollError m2_PollError m3_PollError m5_PollError : Option Value}
    (xL_PollError : K.lookup C_PollError = some (excClassObj nm_PollError q_PollError C_PollError N_PollError bs_PollError [.type "ValueError", .type "Exception", .type "BaseException", .type "object"] true sn_PollError sub_PollError ab_PollError col_PollError dd_PollError m0_PollError m1_PollError m2_PollError m3_PollError m5_PollError "ValueError.__new__"))
    (sa_PollError : PySem.W.findIn K (.ref C_PollError) "__setattr__" = some (some (.builtin "object.__setattr__")))
    (gt_PollError : PySem.W.findIn K (.ref C_PollError) "__getattribute__" = some (some (.builtin "BaseException.__getattribute__")))
    (gg_PollError : PySem.W.findIn K (.ref C_PollError) "__getattr__" = some none)
    (ai_PollError : PySem.W.findIn K (.ref C_PollError) "__init__" = some (some (.ref f_PollError_init)))
    (ti_PollError : PySem.W.typeIn K (.ref f_PollError_init) = some (.type "function"))
    (kC_PollError : PySem.W.keepIn K (.ref C_PollError) = true)
    (eC_PollError : PySem.W.subIn K (.ref C_PollError) (.type "BaseException") = some true)
    (tC_PollError : PySem.W.typeIn K (.ref C_PollError) = some (.type "type"))
    (hC_PollError : PySem.W.hasDictIn K C_PollError = true)
    (nf_PollError_why : PySem.W.findIn K (.ref C_PollError) "why" = some none)
    (rd_PollError : PySem.W.readsIn K C_PollError (.type "type") = true)
    (ga_PollError : PySem.W.specialIn K (.ref C_PollError) "__getattribute__" = some (some (.builtin "type.__getattribute__")))
    (fc_PollError_init : PySem.W.findCls K (.ref C_PollError) (.type "type") "__init__" = some (.val (.ref f_PollError_init)))
    {C_BadPoll : Addr}
    (aC_BadPoll : PySem.W.nsIn K mainGlobals "BadPoll" = some (some (.ref C_BadPoll)))
    {nm_BadPoll q_BadPoll : Str} {N_BadPoll : Addr} {bs_BadPoll : List Value} {sn_BadPoll : List Str} {sub_BadPoll : List Value} {ab_BadPoll : Bool} {col_BadPoll : Option Bool} {dd_BadPoll : Option Addr} {m0_BadPoll m1_BadPoll m2_BadPoll m3_BadPoll m5_BadPoll : Option Value}
    (xL_BadPoll : K.lookup C_BadPoll = some (excClassObj nm_BadPoll q_BadPoll C_BadPoll N_BadPoll bs_BadPoll [.ref C_PollError, .type "ValueError", .type "Exception", .type "BaseException", .type "object"] true sn_BadPoll sub_BadPoll ab_BadPoll col_BadPoll dd_BadPoll m0_BadPoll m1_BadPoll m2_BadPoll m3_BadPoll m5_BadPoll "ValueError.__new__"))
    (sa_BadPoll : PySem.W.findIn K (.ref C_BadPoll) "__setattr__" = some (some (.builtin "object.__setattr__")))
    (gt_BadPoll : PySem.W.findIn K (.ref C_BadPoll) "__getattribute__" = some (some (.builtin "BaseException.__getattribute__")))
    (gg_BadPoll : PySem.W.findIn K (.ref C_BadPoll) "__getattr__" = some none)
    (ai_BadPoll : PySem.W.findIn K (.ref C_BadPoll) "__init__" = some (some (.ref f_PollError_init)))
    (ti_BadPoll : PySem.W.typeIn K (.ref f_PollError_init) = some (.type "function"))
    (kC_BadPoll : PySem.W.keepIn K (.ref C_BadPoll) = true)
    (eC_BadPoll : PySem.W.subIn K (.ref C_BadPoll) (.type "BaseException") = some true)
    (tC_BadPoll : PySem.W.typeIn K (.ref C_BadPoll) = some (.type "type"))
    (hC_BadPoll : PySem.W.hasDictIn K C_BadPoll = true)
    (nf_BadPoll_why : PySem.W.findIn K (.ref C_BadPoll) "why" = some none)
    {C_Poll : Addr}
    (aC_Poll : PySem.W.nsIn K mainGlobals "Poll" = some (some (.ref C_Poll)))
    (pg_Poll : PySem.W.plainGet K C_Poll Str.empty = true)
    (hd_Poll : PySem.W.hasDictIn K C_Poll = true)
    (po_Poll : PySem.W.plainOver K C_Poll = true)
    (sa_Poll : PySem.W.findIn K (.ref C_Poll) "__setattr__" = some (some (.builtin "object.__setattr__")))
    (mk_Poll : PySem.W.makesIn K C_Poll = true)
    (kc_Poll : PySem.W.keepIn K (.ref C_Poll) = true)
    (ai_Poll : PySem.W.findIn K (.ref C_Poll) "__init__" = some (some (.ref f_Poll_init)))
    (ii_Poll : PySem.W.isFn K (.ref f_Poll_init) = true)
    (n_Poll_options : PySem.W.findIn K (.ref C_Poll) "options" = some none)
    (n_Poll_voices : PySem.W.findIn K (.ref C_Poll) "voices" = some none)
    {tc_strongest_ways tp_strongest_ways : Addr} {occ_strongest_ways : Value} {odc_strongest_ways : Option Addr} {slc_strongest_ways : Array (Option Value)} {vs_strongest_ways : Array Value} (kd_strongest_ways : cd_strongest_ways = .ref tc_strongest_ways) (lc_strongest_ways : K.lookup tc_strongest_ways = some ⟨occ_strongest_ways, odc_strongest_ways, .fields vs_strongest_ways, slc_strongest_ways⟩) (vp_strongest_ways : (vs_strongest_ways[11]? : Option Value) = some (.ref tp_strongest_ways)) (np_strongest_ways : K.lookup tp_strongest_ways = none) (rc_strongest_ways : ∃ r, (recsOf prg).find? (fun e => e.name == ("strongest_ways" : Str)) = some r)
    (vV : PySem.W.findCls K (.type "ValueError") (.type "type") "__init__" = some (.val (.builtin "ValueError.__init__")))
    (z_ValueError : PySem.W.nsIn K mainGlobals "ValueError" = some none)
    (z_isinstance : PySem.W.nsIn K mainGlobals "isinstance" = some none)
    (z_bool : PySem.W.nsIn K mainGlobals "bool" = some none)
    (z_int : PySem.W.nsIn K mainGlobals "int" = some none)
    (z_str : PySem.W.nsIn K mainGlobals "str" = some none)
    (z_len : PySem.W.nsIn K mainGlobals "len" = some none)
    (z_all : PySem.W.nsIn K mainGlobals "all" = some none)
    (z_tuple : PySem.W.nsIn K mainGlobals "tuple" = some none)
    (z_enumerate : PySem.W.nsIn K mainGlobals "enumerate" = some none)
    (z_list : PySem.W.nsIn K mainGlobals "list" = some none)
    (z_zip : PySem.W.nsIn K mainGlobals "zip" = some none)
    (z_min : PySem.W.nsIn K mainGlobals "min" = some none)
    (z_max : PySem.W.nsIn K mainGlobals "max" = some none)
    (z_range : PySem.W.nsIn K mainGlobals "range" = some none)
    (z_dict : PySem.W.nsIn K mainGlobals "dict" = some none)
    (z_sorted : PySem.W.nsIn K mainGlobals "sorted" = some none)
    (z_set : PySem.W.nsIn K mainGlobals "set" = some none)
    {t_LONGEST_NAME : Tok} (cc_LONGEST_NAME : PySem.W.nsIn K mainGlobals "LONGEST_NAME" = some (some (.int 8 t_LONGEST_NAME)))
    {t_MOST_OPTIONS : Tok} (cc_MOST_OPTIONS : PySem.W.nsIn K mainGlobals "MOST_OPTIONS" = some (some (.int 6 t_MOST_OPTIONS)))
    {t_GREATEST_MARK : Tok} (cc_GREATEST_MARK : PySem.W.nsIn K mainGlobals "GREATEST_MARK" = some (some (.int 9 t_GREATEST_MARK)))
    {t_MOST_VOICES : Tok} (cc_MOST_VOICES : PySem.W.nsIn K mainGlobals "MOST_VOICES" = some (some (.int 1000000 t_MOST_VOICES)))
    {t_MOST_ROWS : Tok} (cc_MOST_ROWS : PySem.W.nsIn K mainGlobals "MOST_ROWS" = some (some (.int 30 t_MOST_ROWS)))
    {a_RULES : Addr} {ct0_RULES ct1_RULES ct2_RULES ct3_RULES ct4_RULES ct5_RULES ct6_RULES ct7_RULES ct8_RULES ct9_RULES ct10_RULES : Tok} {cd_RULES : Option Addr} {cn_RULES : Nat} {cs_RULES : Array (Option Value)} (cc_RULES : PySem.W.nsIn K mainGlobals "RULES" = some (some (.ref a_RULES)))
    (lk_RULES : K.lookup a_RULES = some ⟨.type "tuple", cd_RULES, .seq #[.str "firsts" ct0_RULES, .str "lasts" ct1_RULES, .str "points" ct2_RULES, .str "lets" ct3_RULES, .str "wins" ct4_RULES, .str "losses" ct5_RULES, .str "ways" ct6_RULES, .str "best" ct7_RULES, .str "top" ct8_RULES, .str "uncovered" ct9_RULES, .str "rounds" ct10_RULES] cn_RULES, cs_RULES⟩)
    {a_BY_WORD : Addr} {es_BY_WORD : Array DictEntry} {n_BY_WORD : Nat} (cc_BY_WORD : PySem.W.nsIn K mainGlobals "BY_WORD" = some (some (.ref a_BY_WORD)))
    (ld_BY_WORD : K.lookup a_BY_WORD = some ⟨.type "dict", none, .dict es_BY_WORD n_BY_WORD, #[]⟩) (kd_BY_WORD : PySem.W.KeysLit w.params es_BY_WORD.toList)
    (ed_BY_WORD_ways : PySem.W.nsIn K a_BY_WORD "ways" = some (some (.ref f_by_ways)))
    : ∃ (fd : FuncData) (cs : Tabs3), (∀ t ∈ cs, (∃ r, (recsOf prg).find? (fun e => e.name == t.1) = some r) ∧ PySem.W.tabIn K t.1 = some t.2 ∧ K.lookup t.2.2 = none) ∧ (∀ (s : Shared) (v : Value), BindsTo s fd ⟨[v], []⟩ [("_law_script", v)]) ∧ ∀ base : Heap, K.In base → base.Ns mainGlobals mg → (∀ t ∈ cs, LamX.TabB base mg t.2.1 t.2.2) → FnOk l.prog w K mg base CX0 10 fa fd ["_law_script"] (sp_law K cs) := by
  have tt_strongest_ways : PySem.W.tabIn K "strongest_ways" = some (tc_strongest_ways, tp_strongest_ways) := tab_by a_strongest_ways l_strongest_ways kd_strongest_ways lc_strongest_ways vp_strongest_ways
  have e := hfa.symm.trans (PySem.W.mg_of X G a_law)
  cases e
  have F_PollError_init : FunD K "__init__" "PollError.__init__" (defArgs s_PollError_init) (defBody s_PollError_init) (defScope s_PollError_init) [V.str ""] [] f_PollError_init _ := ⟨⟨_, _, _, _, _, _, _, _, _, _, rfl, l_PollError_init, c_PollError_init, .inr ⟨by simp, _, _, [.str "" tk0_PollError_init], _, rfl, lt_PollError_init, rfl, (.cons ⟨_, rfl⟩ Paired.nil)⟩, .inl rfl⟩, k_PollError_init⟩
  obtain ⟨ikb_PollError_init_2, kb_PollError_init_2⟩ := F_PollError_init.kbindsD (ps := ["self", "why"]) 2 [] (fun us its ws => us) (by simp) (fun r1 r2 r3 => r1) (fun _ _ _ _ _ _ _ us its ws l1 l2 l3 => match us, its, ws, l1, l2, l3 with | [_, _], [_], [], _, _, _ => ⟨_, rfl, rfl⟩)
  have F_NoOption_init := fun_mk (st := s_NoOption_init) l_NoOption_init c_NoOption_init k_NoOption_init
  have b_NoOption_init := F_NoOption_init.binds (ps := ["self", "name"]) fun _ _ _ _ _ _ us hl => by obtain ⟨_, _, rfl⟩ := len2 hl; rfl
  have kb_NoOption_init_2 : KBn K (PySem.W.fnOf "__init__" "NoOption.__init__" (defArgs s_NoOption_init) (defBody s_NoOption_init) (defScope s_NoOption_init) .none kV_NoOption_init dc_NoOption_init pm_NoOption_init an_NoOption_init cd_NoOption_init ct_NoOption_init) ["self", "name"] 2 [] (fun us ws => us) (fun vs zs => vs) := ⟨fun s us ws _ l1 l2 => .of_eq (match us, ws, l1, l2 with | [_, _], [], _, _ => rfl), fun r1 r3 => r1⟩
  have F_is_whole := fun_mk (st := s_is_whole) l_is_whole c_is_whole k_is_whole
  have b_is_whole := F_is_whole.binds (ps := ["thing"]) fun _ _ _ _ _ _ us hl => by obtain ⟨_, rfl⟩ := len1 hl; rfl
  have F_is_name := fun_mk (st := s_is_name) l_is_name c_is_name k_is_name
  have b_is_name := F_is_name.binds (ps := ["thing"]) fun _ _ _ _ _ _ us hl => by obtain ⟨_, rfl⟩ := len1 hl; rfl
  have F_is_tuple_of := fun_mk (st := s_is_tuple_of) l_is_tuple_of c_is_tuple_of k_is_tuple_of
  have b_is_tuple_of := F_is_tuple_of.binds (ps := ["thing", "many"]) fun _ _ _ _ _ _ us hl => by obtain ⟨_, _, rfl⟩ := len2 hl; rfl
  have F_are_names := fun_mk (st := s_are_names) l_are_names c_are_names k_are_names
  have b_are_names := F_are_names.binds (ps := ["thing"]) fun _ _ _ _ _ _ us hl => by obtain ⟨_, rfl⟩ := len1 hl; rfl
  have F_are_options := fun_mk (st := s_are_options) l_are_options c_are_options k_are_options
  have b_are_options := F_are_options.binds (ps := ["thing"]) fun _ _ _ _ _ _ us hl => by obtain ⟨_, rfl⟩ := len1 hl; rfl
  have F_is_option := fun_mk (st := s_is_option) l_is_option c_is_option k_is_option
  have b_is_option := F_is_option.binds (ps := ["options", "thing"]) fun _ _ _ _ _ _ us hl => by obtain ⟨_, _, rfl⟩ := len2 hl; rfl
  have F_check_option := fun_mk (st := s_check_option) l_check_option c_check_option k_check_option
  have b_check_option := F_check_option.binds (ps := ["options", "name"]) fun _ _ _ _ _ _ us hl => by obtain ⟨_, _, rfl⟩ := len2 hl; rfl
  have kb_check_option_2 : KBn K (PySem.W.fnOf "check_option" "check_option" (defArgs s_check_option) (defBody s_check_option) (defScope s_check_option) .none kV_check_option dc_check_option pm_check_option an_check_option cd_check_option ct_check_option) ["options", "name"] 2 [] (fun us ws => us) (fun vs zs => vs) := ⟨fun s us ws _ l1 l2 => .of_eq (match us, ws, l1, l2 with | [_, _], [], _, _ => rfl), fun r1 r3 => r1⟩
  have F_are_unlike_options := fun_mk (st := s_are_unlike_options) l_are_unlike_options c_are_unlike_options k_are_unlike_options
  have b_are_unlike_options := F_are_unlike_options.binds (ps := ["options", "names"]) fun _ _ _ _ _ _ us hl => by obtain ⟨_, _, rfl⟩ := len2 hl; rfl
  have F_is_mark := fun_mk (st := s_is_mark) l_is_mark c_is_mark k_is_mark
  have b_is_mark := F_is_mark.binds (ps := ["thing"]) fun _ _ _ _ _ _ us hl => by obtain ⟨_, rfl⟩ := len1 hl; rfl
  have F_are_tiers := fun_mk (st := s_are_tiers) l_are_tiers c_are_tiers k_are_tiers
  have b_are_tiers := F_are_tiers.binds (ps := ["options", "told"]) fun _ _ _ _ _ _ us hl => by obtain ⟨_, _, rfl⟩ := len2 hl; rfl
  have F_are_marks := fun_mk (st := s_are_marks) l_are_marks c_are_marks k_are_marks
  have b_are_marks := F_are_marks.binds (ps := ["options", "told"]) fun _ _ _ _ _ _ us hl => by obtain ⟨_, _, rfl⟩ := len2 hl; rfl
  have F_is_ballot := fun_mk (st := s_is_ballot) l_is_ballot c_is_ballot k_is_ballot
  have b_is_ballot := F_is_ballot.binds (ps := ["options", "thing"]) fun _ _ _ _ _ _ us hl => by obtain ⟨_, _, rfl⟩ := len2 hl; rfl
  have F_is_row := fun_mk (st := s_is_row) l_is_row c_is_row k_is_row
  have b_is_row := F_is_row.binds (ps := ["options", "thing"]) fun _ _ _ _ _ _ us hl => by obtain ⟨_, _, rfl⟩ := len2 hl; rfl
  have F_check_poll := fun_mk (st := s_check_poll) l_check_poll c_check_poll k_check_poll
  have b_check_poll := F_check_poll.binds (ps := ["options", "voices"]) fun _ _ _ _ _ _ us hl => by obtain ⟨_, _, rfl⟩ := len2 hl; rfl
  have kb_check_poll_2 : KBn K (PySem.W.fnOf "check_poll" "check_poll" (defArgs s_check_poll) (defBody s_check_poll) (defScope s_check_poll) .none kV_check_poll dc_check_poll pm_check_poll an_check_poll cd_check_poll ct_check_poll) ["options", "voices"] 2 [] (fun us ws => us) (fun vs zs => vs) := ⟨fun s us ws _ l1 l2 => .of_eq (match us, ws, l1, l2 with | [_, _], [], _, _ => rfl), fun r1 r3 => r1⟩
  have F_Poll_init : FunD K "__init__" "Poll.__init__" (defArgs s_Poll_init) (defBody s_Poll_init) (defScope s_Poll_init) [V.ref e_Poll_init] [] f_Poll_init _ := ⟨⟨_, _, _, _, _, _, _, _, _, _, rfl, l_Poll_init, c_Poll_init, .inr ⟨by simp, _, _, [.ref e_Poll_init], _, rfl, lt_Poll_init, rfl, (.cons rfl Paired.nil)⟩, .inl rfl⟩, k_Poll_init⟩
  obtain ⟨ikb_Poll_init_3, kb_Poll_init_3⟩ := F_Poll_init.kbindsD (ps := ["self", "options", "voices"]) 3 [] (fun us its ws => us) (by simp) (fun r1 r2 r3 => r1) (fun _ _ _ _ _ _ _ us its ws l1 l2 l3 => match us, its, ws, l1, l2, l3 with | [_, _, _], [_], [], _, _, _ => ⟨_, rfl, rfl⟩)
  have F_order_ranks := fun_mk (st := s_order_ranks) l_order_ranks c_order_ranks k_order_ranks
  have b_order_ranks := F_order_ranks.binds (ps := ["options", "told"]) fun _ _ _ _ _ _ us hl => by obtain ⟨_, _, rfl⟩ := len2 hl; rfl
  have F_ranks := fun_mk (st := s_ranks) l_ranks c_ranks k_ranks
  have b_ranks := F_ranks.binds (ps := ["options", "ballot"]) fun _ _ _ _ _ _ us hl => by obtain ⟨_, _, rfl⟩ := len2 hl; rfl
  have F_ranked := fun_mk (st := s_ranked) l_ranked c_ranked k_ranked
  have b_ranked := F_ranked.binds (ps := ["poll"]) fun _ _ _ _ _ _ us hl => by obtain ⟨_, rfl⟩ := len1 hl; rfl
  have F_margin_by := fun_mk (st := s_margin_by) l_margin_by c_margin_by k_margin_by
  have b_margin_by := F_margin_by.binds (ps := ["rows", "one", "other"]) fun _ _ _ _ _ _ us hl => by obtain ⟨_, _, _, rfl⟩ := len3 hl; rfl
  have F_margins := fun_mk (st := s_margins) l_margins c_margins k_margins
  have b_margins := F_margins.binds (ps := ["poll"]) fun _ _ _ _ _ _ us hl => by obtain ⟨_, rfl⟩ := len1 hl; rfl
  have F_is_way := fun_mk (st := s_is_way) l_is_way c_is_way k_is_way
  have b_is_way := F_is_way.binds (ps := ["options", "thing", "one", "other"]) fun _ _ _ _ _ _ us hl => by obtain ⟨_, _, _, _, rfl⟩ := len4 hl; rfl
  have F_is_lot := fun_mk (st := s_is_lot) l_is_lot c_is_lot k_is_lot
  have b_is_lot := F_is_lot.binds (ps := ["options", "thing"]) fun _ _ _ _ _ _ us hl => by obtain ⟨_, _, rfl⟩ := len2 hl; rfl
  have F_steps_of := fun_mk (st := s_steps_of) l_steps_of c_steps_of k_steps_of
  have b_steps_of := F_steps_of.binds (ps := ["way"]) fun _ _ _ _ _ _ us hl => by obtain ⟨_, rfl⟩ := len1 hl; rfl
  have F_steps_out := fun_mk (st := s_steps_out) l_steps_out c_steps_out k_steps_out
  have b_steps_out := F_steps_out.binds (ps := ["options", "lot"]) fun _ _ _ _ _ _ us hl => by obtain ⟨_, _, rfl⟩ := len2 hl; rfl
  have F_weakest := fun_mk (st := s_weakest) l_weakest c_weakest k_weakest
  have b_weakest := F_weakest.binds (ps := ["held", "way"]) fun _ _ _ _ _ _ us hl => by obtain ⟨_, _, rfl⟩ := len2 hl; rfl
  have F_strongest_ways := fun_mk (st := s_strongest_ways) l_strongest_ways c_strongest_ways k_strongest_ways
  have b_strongest_ways := F_strongest_ways.binds (ps := ["options", "held", "start"]) fun _ _ _ _ _ _ us hl => by obtain ⟨_, _, _, rfl⟩ := len3 hl; rfl
  have F_strength := fun_mk (st := s_strength) l_strength c_strength k_strength
  have b_strength := F_strength.binds (ps := ["poll", "one", "other"]) fun _ _ _ _ _ _ us hl => by obtain ⟨_, _, _, rfl⟩ := len3 hl; rfl
  have kb_strength_3 : KBn K (PySem.W.fnOf "strength" "strength" (defArgs s_strength) (defBody s_strength) (defScope s_strength) .none kV_strength dc_strength pm_strength an_strength cd_strength ct_strength) ["poll", "one", "other"] 3 [] (fun us ws => us) (fun vs zs => vs) := ⟨fun s us ws _ l1 l2 => .of_eq (match us, ws, l1, l2 with | [_, _, _], [], _, _ => rfl), fun r1 r3 => r1⟩
  have F_strength_paper := fun_mk (st := s_strength_paper) l_strength_paper c_strength_paper k_strength_paper
  have b_strength_paper := F_strength_paper.binds (ps := ["poll", "one", "other"]) fun _ _ _ _ _ _ us hl => by obtain ⟨_, _, _, rfl⟩ := len3 hl; rfl
  have kb_strength_paper_3 : KBn K (PySem.W.fnOf "strength_paper" "strength_paper" (defArgs s_strength_paper) (defBody s_strength_paper) (defScope s_strength_paper) .none kV_strength_paper dc_strength_paper pm_strength_paper an_strength_paper cd_strength_paper ct_strength_paper) ["poll", "one", "other"] 3 [] (fun us ws => us) (fun vs zs => vs) := ⟨fun s us ws _ l1 l2 => .of_eq (match us, ws, l1, l2 with | [_, _, _], [], _, _ => rfl), fun r1 r3 => r1⟩
  have F_shows_strength := fun_mk (st := s_shows_strength) l_shows_strength c_shows_strength k_shows_strength
  have b_shows_strength := F_shows_strength.binds (ps := ["poll", "one", "other", "number", "paper"]) fun _ _ _ _ _ _ us hl => by obtain ⟨_, _, _, _, _, rfl⟩ := len5 hl; rfl
  have kb_shows_strength_5 : KBn K (PySem.W.fnOf "shows_strength" "shows_strength" (defArgs s_shows_strength) (defBody s_shows_strength) (defScope s_shows_strength) .none kV_shows_strength dc_shows_strength pm_shows_strength an_shows_strength cd_shows_strength ct_shows_strength) ["poll", "one", "other", "number", "paper"] 5 [] (fun us ws => us) (fun vs zs => vs) := ⟨fun s us ws _ l1 l2 => .of_eq (match us, ws, l1, l2 with | [_, _, _, _, _], [], _, _ => rfl), fun r1 r3 => r1⟩
  have F_is_no_weaker := fun_mk (st := s_is_no_weaker) l_is_no_weaker c_is_no_weaker k_is_no_weaker
  have b_is_no_weaker := F_is_no_weaker.binds (ps := ["found", "one"]) fun _ _ _ _ _ _ us hl => by obtain ⟨_, _, rfl⟩ := len2 hl; rfl
  have F_ways_lot := fun_mk (st := s_ways_lot) l_ways_lot c_ways_lot k_ways_lot
  have b_ways_lot := F_ways_lot.binds (ps := ["poll"]) fun _ _ _ _ _ _ us hl => by obtain ⟨_, rfl⟩ := len1 hl; rfl
  have F_by_ways := fun_mk (st := s_by_ways) l_by_ways c_by_ways k_by_ways
  have b_by_ways := F_by_ways.binds (ps := ["poll"]) fun _ _ _ _ _ _ us hl => by obtain ⟨_, rfl⟩ := len1 hl; rfl
  have F_others_than := fun_mk (st := s_others_than) l_others_than c_others_than k_others_than
  have b_others_than := F_others_than.binds (ps := ["poll", "one"]) fun _ _ _ _ _ _ us hl => by obtain ⟨_, _, rfl⟩ := len2 hl; rfl
  have F_unlost_ways := fun_mk (st := s_unlost_ways) l_unlost_ways c_unlost_ways k_unlost_ways
  have b_unlost_ways := F_unlost_ways.binds (ps := ["poll", "held", "start"]) fun _ _ _ _ _ _ us hl => by obtain ⟨_, _, _, rfl⟩ := len3 hl; rfl
  have F_top_lot := fun_mk (st := s_top_lot) l_top_lot c_top_lot k_top_lot
  have b_top_lot := F_top_lot.binds (ps := ["poll"]) fun _ _ _ _ _ _ us hl => by obtain ⟨_, rfl⟩ := len1 hl; rfl
  have F_leader := fun_mk (st := s_leader) l_leader c_leader k_leader
  have b_leader := F_leader.binds (ps := ["poll"]) fun _ _ _ _ _ _ us hl => by obtain ⟨_, rfl⟩ := len1 hl; rfl
  have F_is_rule := fun_mk (st := s_is_rule) l_is_rule c_is_rule k_is_rule
  have b_is_rule := F_is_rule.binds (ps := ["options", "thing"]) fun _ _ _ _ _ _ us hl => by obtain ⟨_, _, rfl⟩ := len2 hl; rfl
  have F_check_rule := fun_mk (st := s_check_rule) l_check_rule c_check_rule k_check_rule
  have b_check_rule := F_check_rule.binds (ps := ["options", "rule"]) fun _ _ _ _ _ _ us hl => by obtain ⟨_, _, rfl⟩ := len2 hl; rfl
  have F_lot := fun_mk (st := s_lot) l_lot c_lot k_lot
  have b_lot := F_lot.binds (ps := ["poll", "rule"]) fun _ _ _ _ _ _ us hl => by obtain ⟨_, _, rfl⟩ := len2 hl; rfl
  have F_law_cell_at := fun_mk (st := s_law_cell_at) l_law_cell_at c_law_cell_at k_law_cell_at
  have b_law_cell_at := F_law_cell_at.binds (ps := ["_law_script", "_law_k"]) fun _ _ _ _ _ _ us hl => by obtain ⟨_, _, rfl⟩ := len2 hl; rfl
  have F_law_well := fun_mk (st := s_law_well) l_law_well c_law_well k_law_well
  have b_law_well := F_law_well.binds (ps := ["_law_cell"]) fun _ _ _ _ _ _ us hl => by obtain ⟨_, rfl⟩ := len1 hl; rfl
  have F_law_draw := fun_mk (st := s_law_draw) l_law_draw c_law_draw k_law_draw
  have b_law_draw := F_law_draw.binds (ps := ["_law_well_here", "_law_size"]) fun _ _ _ _ _ _ us hl => by obtain ⟨_, _, rfl⟩ := len2 hl; rfl
  have F_law_one := fun_mk (st := s_law_one) l_law_one c_law_one k_law_one
  have b_law_one := F_law_one.binds (ps := ["_law_well_here", "_law_some"]) fun _ _ _ _ _ _ us hl => by obtain ⟨_, _, rfl⟩ := len2 hl; rfl
  have F_law_shuffled := fun_mk (st := s_law_shuffled) l_law_shuffled c_law_shuffled k_law_shuffled
  have b_law_shuffled := F_law_shuffled.binds (ps := ["_law_well_here", "_law_some"]) fun _ _ _ _ _ _ us hl => by obtain ⟨_, _, rfl⟩ := len2 hl; rfl
  have F_law_names := fun_mk (st := s_law_names) l_law_names c_law_names k_law_names
  have b_law_names := F_law_names.binds (ps := ["_law_well_here", "_law_size"]) fun _ _ _ _ _ _ us hl => by obtain ⟨_, _, rfl⟩ := len2 hl; rfl
  have F_law_ballot := fun_mk (st := s_law_ballot) l_law_ballot c_law_ballot k_law_ballot
  have b_law_ballot := F_law_ballot.binds (ps := ["_law_well_here", "_law_names_here"]) fun _ _ _ _ _ _ us hl => by obtain ⟨_, _, rfl⟩ := len2 hl; rfl
  have F_law_parts := fun_mk (st := s_law_parts) l_law_parts c_law_parts k_law_parts
  have b_law_parts := F_law_parts.binds (ps := ["_law_well_here", "_law_sizes"]) fun _ _ _ _ _ _ us hl => by obtain ⟨_, _, rfl⟩ := len2 hl; rfl
  have F_law_threes_right := fun_mk (st := s_law_threes_right) l_law_threes_right c_law_threes_right k_law_threes_right
  have b_law_threes_right := F_law_threes_right.binds (ps := ["_law_names_here", "_law_force"]) fun _ _ _ _ _ _ us hl => by obtain ⟨_, _, rfl⟩ := len2 hl; rfl
  have F_law_drawn_right := fun_mk (st := s_law_drawn_right) l_law_drawn_right c_law_drawn_right k_law_drawn_right
  have b_law_drawn_right := F_law_drawn_right.binds (ps := ["_law_well_here", "_law_p", "_law_table", "_law_force", "_law_one_here", "_law_other"]) fun _ _ _ _ _ _ us hl => by obtain ⟨_, _, _, _, _, _, rfl⟩ := len6 hl; rfl
  have F_law := fun_mk (st := s_law) l_law c_law k_law
  have b_law := F_law.binds (ps := ["_law_script"]) fun _ _ _ _ _ _ us hl => by obtain ⟨_, rfl⟩ := len1 hl; rfl
  have ok_NoOption : OkyC K C_NoOption := ⟨⟨_, _, _, _, _, _, _, _, _, _, _, _, _, _, xL_NoOption⟩, sa_NoOption, eC_NoOption, tC_NoOption, kC_NoOption⟩
  have ox_PollError : OexC K C_PollError := ⟨⟨_, _, _, _, _, _, _, _, _, _, _, _, _, _, _, xL_PollError, rfl⟩, sa_PollError, eC_PollError, tC_PollError, kC_PollError⟩
  have ox_BadPoll : OexC K C_BadPoll := ⟨⟨_, _, _, _, _, _, _, _, _, _, _, _, _, _, _, xL_BadPoll, rfl⟩, sa_BadPoll, eC_BadPoll, tC_BadPoll, kC_BadPoll⟩
  let T : Txt K mg := {
    par := w.params,
    f_PollError_init := _, fd_PollError_init := _, F_PollError_init := F_PollError_init, gkb_PollError_init_2 := _, kb_PollError_init_2 := kb_PollError_init_2,
    f_NoOption_init := _, fd_NoOption_init := _, F_NoOption_init := F_NoOption_init, b_NoOption_init := b_NoOption_init, gkb_NoOption_init_2 := _, kb_NoOption_init_2 := kb_NoOption_init_2,
    f_is_whole := _, fd_is_whole := _, F_is_whole := F_is_whole, b_is_whole := b_is_whole, g_is_whole := PySem.W.mg_of X G a_is_whole,
    f_is_name := _, fd_is_name := _, F_is_name := F_is_name, b_is_name := b_is_name, g_is_name := PySem.W.mg_of X G a_is_name,
    f_is_tuple_of := _, fd_is_tuple_of := _, F_is_tuple_of := F_is_tuple_of, b_is_tuple_of := b_is_tuple_of, g_is_tuple_of := PySem.W.mg_of X G a_is_tuple_of,
    f_are_names := _, fd_are_names := _, F_are_names := F_are_names, b_are_names := b_are_names, g_are_names := PySem.W.mg_of X G a_are_names,
    f_are_options := _, fd_are_options := _, F_are_options := F_are_options, b_are_options := b_are_options, g_are_options := PySem.W.mg_of X G a_are_options,
    f_is_option := _, fd_is_option := _, F_is_option := F_is_option, b_is_option := b_is_option, g_is_option := PySem.W.mg_of X G a_is_option,
    f_check_option := _, fd_check_option := _, F_check_option := F_check_option, b_check_option := b_check_option, gkb_check_option_2 := _, kb_check_option_2 := kb_check_option_2, g_check_option := PySem.W.mg_of X G a_check_option,
    f_are_unlike_options := _, fd_are_unlike_options := _, F_are_unlike_options := F_are_unlike_options, b_are_unlike_options := b_are_unlike_options, g_are_unlike_options := PySem.W.mg_of X G a_are_unlike_options,
    f_is_mark := _, fd_is_mark := _, F_is_mark := F_is_mark, b_is_mark := b_is_mark, g_is_mark := PySem.W.mg_of X G a_is_mark,
    f_are_tiers := _, fd_are_tiers := _, F_are_tiers := F_are_tiers, b_are_tiers := b_are_tiers, g_are_tiers := PySem.W.mg_of X G a_are_tiers,
    f_are_marks := _, fd_are_marks := _, F_are_marks := F_are_marks, b_are_marks := b_are_marks, g_are_marks := PySem.W.mg_of X G a_are_marks,
    f_is_ballot := _, fd_is_ballot := _, F_is_ballot := F_is_ballot, b_is_ballot := b_is_ballot, g_is_ballot := PySem.W.mg_of X G a_is_ballot,
    f_is_row := _, fd_is_row := _, F_is_row := F_is_row, b_is_row := b_is_row, g_is_row := PySem.W.mg_of X G a_is_row,
    f_check_poll := _, fd_check_poll := _, F_check_poll := F_check_poll, b_check_poll := b_check_poll, gkb_check_poll_2 := _, kb_check_poll_2 := kb_check_poll_2, g_check_poll := PySem.W.mg_of X G a_check_poll,
    f_Poll_init := _, fd_Poll_init := _, e_Poll_init := _, F_Poll_init := F_Poll_init, gkb_Poll_init_3 := _, kb_Poll_init_3 := kb_Poll_init_3,
    f_order_ranks := _, fd_order_ranks := _, F_order_ranks := F_order_ranks, b_order_ranks := b_order_ranks, g_order_ranks := PySem.W.mg_of X G a_order_ranks,
    f_ranks := _, fd_ranks := _, F_ranks := F_ranks, b_ranks := b_ranks, g_ranks := PySem.W.mg_of X G a_ranks,
    f_ranked := _, fd_ranked := _, F_ranked := F_ranked, b_ranked := b_ranked, g_ranked := PySem.W.mg_of X G a_ranked,
    f_margin_by := _, fd_margin_by := _, F_margin_by := F_margin_by, b_margin_by := b_margin_by, g_margin_by := PySem.W.mg_of X G a_margin_by,
    f_margins := _, fd_margins := _, F_margins := F_margins, b_margins := b_margins, g_margins := PySem.W.mg_of X G a_margins,
    f_is_way := _, fd_is_way := _, F_is_way := F_is_way, b_is_way := b_is_way, g_is_way := PySem.W.mg_of X G a_is_way,
    f_is_lot := _, fd_is_lot := _, F_is_lot := F_is_lot, b_is_lot := b_is_lot, g_is_lot := PySem.W.mg_of X G a_is_lot,
    f_steps_of := _, fd_steps_of := _, F_steps_of := F_steps_of, b_steps_of := b_steps_of, g_steps_of := PySem.W.mg_of X G a_steps_of,
    f_steps_out := _, fd_steps_out := _, F_steps_out := F_steps_out, b_steps_out := b_steps_out, g_steps_out := PySem.W.mg_of X G a_steps_out,
    f_weakest := _, fd_weakest := _, F_weakest := F_weakest, b_weakest := b_weakest, g_weakest := PySem.W.mg_of X G a_weakest,
    f_strongest_ways := _, fd_strongest_ways := _, F_strongest_ways := F_strongest_ways, b_strongest_ways := b_strongest_ways, g_strongest_ways := PySem.W.mg_of X G a_strongest_ways,
    f_strength := _, fd_strength := _, F_strength := F_strength, b_strength := b_strength, gkb_strength_3 := _, kb_strength_3 := kb_strength_3, g_strength := PySem.W.mg_of X G a_strength,
    f_strength_paper := _, fd_strength_paper := _, F_strength_paper := F_strength_paper, b_strength_paper := b_strength_paper, gkb_strength_paper_3 := _, kb_strength_paper_3 := kb_strength_paper_3, g_strength_paper := PySem.W.mg_of X G a_strength_paper,
    f_shows_strength := _, fd_shows_strength := _, F_shows_strength := F_shows_strength, b_shows_strength := b_shows_strength, gkb_shows_strength_5 := _, kb_shows_strength_5 := kb_shows_strength_5, g_shows_strength := PySem.W.mg_of X G a_shows_strength,
    f_is_no_weaker := _, fd_is_no_weaker := _, F_is_no_weaker := F_is_no_weaker, b_is_no_weaker := b_is_no_weaker, g_is_no_weaker := PySem.W.mg_of X G a_is_no_weaker,
    f_ways_lot := _, fd_ways_lot := _, F_ways_lot := F_ways_lot, b_ways_lot := b_ways_lot, g_ways_lot := PySem.W.mg_of X G a_ways_lot,
    f_by_ways := _, fd_by_ways := _, F_by_ways := F_by_ways, b_by_ways := b_by_ways, g_by_ways := PySem.W.mg_of X G a_by_ways,
    f_others_than := _, fd_others_than := _, F_others_than := F_others_than, b_others_than := b_others_than, g_others_than := PySem.W.mg_of X G a_others_than,
    f_unlost_ways := _, fd_unlost_ways := _, F_unlost_ways := F_unlost_ways, b_unlost_ways := b_unlost_ways, g_unlost_ways := PySem.W.mg_of X G a_unlost_ways,
    f_top_lot := _, fd_top_lot := _, F_top_lot := F_top_lot, b_top_lot := b_top_lot, g_top_lot := PySem.W.mg_of X G a_top_lot,
    f_leader := _, fd_leader := _, F_leader := F_leader, b_leader := b_leader, g_leader := PySem.W.mg_of X G a_leader,
    f_is_rule := _, fd_is_rule := _, F_is_rule := F_is_rule, b_is_rule := b_is_rule, g_is_rule := PySem.W.mg_of X G a_is_rule,
    f_check_rule := _, fd_check_rule := _, F_check_rule := F_check_rule, b_check_rule := b_check_rule, g_check_rule := PySem.W.mg_of X G a_check_rule,
    f_lot := _, fd_lot := _, F_lot := F_lot, b_lot := b_lot, g_lot := PySem.W.mg_of X G a_lot,
    f_law_cell_at := _, fd_law_cell_at := _, F_law_cell_at := F_law_cell_at, b_law_cell_at := b_law_cell_at, g_law_cell_at := PySem.W.mg_of X G a_law_cell_at,
    f_law_well := _, fd_law_well := _, F_law_well := F_law_well, b_law_well := b_law_well, g_law_well := PySem.W.mg_of X G a_law_well,
    f_law_draw := _, fd_law_draw := _, F_law_draw := F_law_draw, b_law_draw := b_law_draw, g_law_draw := PySem.W.mg_of X G a_law_draw,
    f_law_one := _, fd_law_one := _, F_law_one := F_law_one, b_law_one := b_law_one, g_law_one := PySem.W.mg_of X G a_law_one,
    f_law_shuffled := _, fd_law_shuffled := _, F_law_shuffled := F_law_shuffled, b_law_shuffled := b_law_shuffled, g_law_shuffled := PySem.W.mg_of X G a_law_shuffled,
    f_law_names := _, fd_law_names := _, F_law_names := F_law_names, b_law_names := b_law_names, g_law_names := PySem.W.mg_of X G a_law_names,
    f_law_ballot := _, fd_law_ballot := _, F_law_ballot := F_law_ballot, b_law_ballot := b_law_ballot, g_law_ballot := PySem.W.mg_of X G a_law_ballot,
    f_law_parts := _, fd_law_parts := _, F_law_parts := F_law_parts, b_law_parts := b_law_parts, g_law_parts := PySem.W.mg_of X G a_law_parts,
    f_law_threes_right := _, fd_law_threes_right := _, F_law_threes_right := F_law_threes_right, b_law_threes_right := b_law_threes_right, g_law_threes_right := PySem.W.mg_of X G a_law_threes_right,
    f_law_drawn_right := _, fd_law_drawn_right := _, F_law_drawn_right := F_law_drawn_right, b_law_drawn_right := b_law_drawn_right, g_law_drawn_right := PySem.W.mg_of X G a_law_drawn_right,
    f_law := _, fd_law := _, F_law := F_law, b_law := b_law, g_law := PySem.W.mg_of X G a_law,
    C_NoOption := _, k_NoOption := PySem.W.mg_of X G aC_NoOption,
    ok_NoOption := ok_NoOption, ex_NoOption := exK_ky ok_NoOption ai_NoOption ti_NoOption,
    xf_NoOption := ⟨gt_NoOption, gg_NoOption, eC_NoOption, hC_NoOption⟩,
    nf_NoOption_name := nf_NoOption_name,
    ic_NoOption := ⟨gt_NoOption, gg_NoOption, eC_NoOption, hC_NoOption, ha_NoOption, hn_NoOption, ht_NoOption, ob_NoOption⟩,
    C_PollError := _, k_PollError := PySem.W.mg_of X G aC_PollError,
    ox_PollError := ox_PollError, ex_PollError := exK_ve ox_PollError ai_PollError ti_PollError,
    xf_PollError := ⟨gt_PollError, gg_PollError, eC_PollError, hC_PollError⟩,
    nf_PollError_why := nf_PollError_why,
    rd_PollError := rd_PollError, ga_PollError := ga_PollError, fc_PollError_init := fc_PollError_init,
    C_BadPoll := _, k_BadPoll := PySem.W.mg_of X G aC_BadPoll,
    ox_BadPoll := ox_BadPoll, ex_BadPoll := exK_ve ox_BadPoll ai_BadPoll ti_BadPoll,
    xf_BadPoll := ⟨gt_BadPoll, gg_BadPoll, eC_BadPoll, hC_BadPoll⟩,
    nf_BadPoll_why := nf_BadPoll_why,
    C_Poll := _, k_Poll := PySem.W.mg_of X G aC_Poll,
    cl_Poll := ⟨pg_Poll, hd_Poll, po_Poll, sa_Poll⟩, mk_Poll := ⟨mk_Poll, ai_Poll, ii_Poll, kc_Poll⟩,
    n_Poll_options := n_Poll_options,
    n_Poll_voices := n_Poll_voices,
    tc_strongest_ways := _, tp_strongest_ways := _, co_strongest_ways := kd_strongest_ways, tt_strongest_ways := tt_strongest_ways, np_strongest_ways := np_strongest_ways,
    vV := vV,
    z_ValueError := PySem.W.mg_none_of X G z_ValueError,
    z_isinstance := PySem.W.mg_none_of X G z_isinstance,
    z_bool := PySem.W.mg_none_of X G z_bool,
    z_int := PySem.W.mg_none_of X G z_int,
    z_str := PySem.W.mg_none_of X G z_str,
    z_len := PySem.W.mg_none_of X G z_len,
    z_all := PySem.W.mg_none_of X G z_all,
    z_tuple := PySem.W.mg_none_of X G z_tuple,
    z_enumerate := PySem.W.mg_none_of X G z_enumerate,
    z_list := PySem.W.mg_none_of X G z_list,
    z_zip := PySem.W.mg_none_of X G z_zip,
    z_min := PySem.W.mg_none_of X G z_min,
    z_max := PySem.W.mg_none_of X G z_max,
    z_range := PySem.W.mg_none_of X G z_range,
    z_dict := PySem.W.mg_none_of X G z_dict,
    z_sorted := PySem.W.mg_none_of X G z_sorted,
    z_set := PySem.W.mg_none_of X G z_set,
    t_LONGEST_NAME := t_LONGEST_NAME, c_LONGEST_NAME := PySem.W.mg_of X G cc_LONGEST_NAME,
    t_MOST_OPTIONS := t_MOST_OPTIONS, c_MOST_OPTIONS := PySem.W.mg_of X G cc_MOST_OPTIONS,
    t_GREATEST_MARK := t_GREATEST_MARK, c_GREATEST_MARK := PySem.W.mg_of X G cc_GREATEST_MARK,
    t_MOST_VOICES := t_MOST_VOICES, c_MOST_VOICES := PySem.W.mg_of X G cc_MOST_VOICES,
    t_MOST_ROWS := t_MOST_ROWS, c_MOST_ROWS := PySem.W.mg_of X G cc_MOST_ROWS,
    a_RULES := _, c_RULES := PySem.W.mg_of X G cc_RULES, sq_RULES := fun _ => .inr ⟨_, _, _, lk_RULES, rfl, rfl, (line_of (show 11 ≤ 1000 by decide)), (.cons ⟨_, rfl⟩ (.cons ⟨_, rfl⟩ (.cons ⟨_, rfl⟩ (.cons ⟨_, rfl⟩ (.cons ⟨_, rfl⟩ (.cons ⟨_, rfl⟩ (.cons ⟨_, rfl⟩ (.cons ⟨_, rfl⟩ (.cons ⟨_, rfl⟩ (.cons ⟨_, rfl⟩ (.cons ⟨_, rfl⟩ .nil)))))))))))⟩,
    a_BY_WORD := _, es_BY_WORD := _, n_BY_WORD := _, c_BY_WORD := PySem.W.mg_of X G cc_BY_WORD, ld_BY_WORD := ld_BY_WORD, kd_BY_WORD := kd_BY_WORD, ed_BY_WORD_ways := ed_BY_WORD_ways }
  haveI : WP T w := ⟨rfl⟩
  refine ⟨PySem.W.fnOf "law" "law" (defArgs s_law) (defBody s_law) (defScope s_law) .none kV_law dc_law pm_law an_law cd_law ct_law, T.tabs, fun t ht => ?_, fun s v => .of_eq rfl, fun base _ _ tb => ok_law T tb⟩
  have ht : t ∈ [(("strongest_ways" : Str), tc_strongest_ways, tp_strongest_ways)] := ht
  simp only [List.mem_cons, List.not_mem_nil, or_false] at ht
  rcases ht with rfl
  · exact ⟨rc_strongest_ways, tt_strongest_ways, np_strongest_ways⟩
end Own
open PySem PySem.W PyProof.Rows
set_option maxHeartbeats 0 in
theorem PySem.Challenge.cw_voicefold_k45_whole_ways_hang_together_holds : PySem.Challenge.rw_voicefold_k45_whole_ways_hang_together.Holds := by
  w_on; o_law; k_head; (case hw => w_witness2)
  k_fill
  refine Own.lam_walk (l := PySem.Challenge.rw_voicefold_k45_whole_ways_hang_together) (n := 63) (k := 10) (x := "_law_script") (sp := Own.sp_law) rfl (by decide) rfl ⟨rfl, by decide, by decide⟩ (fun w h Y => by first | exact PySem.W.km_in_of Y | exact PySem.W.km_in_of Y) ?F (fun _ cs _ a ns hl hT hS => ⟨a, ns, rfl, hS, hl, hT, fun _ => rfl⟩)
  case F =>
    intro w mg fa h KX G hmg
    refine' Own.all_mk KX G hmg ?lt_PollError_init ?l_PollError_init ?c_PollError_init ?k_PollError_init ?l_NoOption_init ?c_NoOption_init ?k_NoOption_init ?a_is_whole ?l_is_whole ?c_is_whole ?k_is_whole ?a_is_name ?l_is_name ?c_is_name ?k_is_name ?a_is_tuple_of ?l_is_tuple_of ?c_is_tuple_of ?k_is_tuple_of ?a_are_names ?l_are_names ?c_are_names ?k_are_names ?a_are_options ?l_are_options ?c_are_options ?k_are_options ?a_is_option ?l_is_option ?c_is_option ?k_is_option ?a_check_option ?l_check_option ?c_check_option ?k_check_option ?a_are_unlike_options ?l_are_unlike_options ?c_are_unlike_options ?k_are_unlike_options ?a_is_mark ?l_is_mark ?c_is_mark ?k_is_mark ?a_are_tiers ?l_are_tiers ?c_are_tiers ?k_are_tiers ?a_are_marks ?l_are_marks ?c_are_marks ?k_are_marks ?a_is_ballot ?l_is_ballot ?c_is_ballot ?k_is_ballot ?a_is_row ?l_is_row ?c_is_row ?k_is_row ?a_check_poll ?l_check_poll ?c_check_poll ?k_check_poll ?lt_Poll_init ?l_Poll_init ?c_Poll_init ?k_Poll_init ?a_order_ranks ?l_order_ranks ?c_order_ranks ?k_order_ranks ?a_ranks ?l_ranks ?c_ranks ?k_ranks ?a_ranked ?l_ranked ?c_ranked ?k_ranked ?a_margin_by ?l_margin_by ?c_margin_by ?k_margin_by ?a_margins ?l_margins ?c_margins ?k_margins ?a_is_way ?l_is_way ?c_is_way ?k_is_way ?a_is_lot ?l_is_lot ?c_is_lot ?k_is_lot ?a_steps_of ?l_steps_of ?c_steps_of ?k_steps_of ?a_steps_out ?l_steps_out ?c_steps_out ?k_steps_out ?a_weakest ?l_weakest ?c_weakest ?k_weakest ?a_strongest_ways ?l_strongest_ways ?c_strongest_ways ?k_strongest_ways ?a_strength ?l_strength ?c_strength ?k_strength ?a_strength_paper ?l_strength_paper ?c_strength_paper ?k_strength_paper ?a_shows_strength ?l_shows_strength ?c_shows_strength ?k_shows_strength ?a_is_no_weaker ?l_is_no_weaker ?c_is_no_weaker ?k_is_no_weaker ?a_ways_lot ?l_ways_lot ?c_ways_lot ?k_ways_lot ?a_by_ways ?l_by_ways ?c_by_ways ?k_by_ways ?a_others_than ?l_others_than ?c_others_than ?k_others_than ?a_unlost_ways ?l_unlost_ways ?c_unlost_ways ?k_unlost_ways ?a_top_lot ?l_top_lot ?c_top_lot ?k_top_lot ?a_leader ?l_leader ?c_leader ?k_leader ?a_is_rule ?l_is_rule ?c_is_rule ?k_is_rule ?a_check_rule ?l_check_rule ?c_check_rule ?k_check_rule ?a_lot ?l_lot ?c_lot ?k_lot ?a_law_cell_at ?l_law_cell_at ?c_law_cell_at ?k_law_cell_at ?a_law_well ?l_law_well ?c_law_well ?k_law_well ?a_law_draw ?l_law_draw ?c_law_draw ?k_law_draw ?a_law_one ?l_law_one ?c_law_one ?k_law_one ?a_law_shuffled ?l_law_shuffled ?c_law_shuffled ?k_law_shuffled ?a_law_names ?l_law_names ?c_law_names ?k_law_names ?a_law_ballot ?l_law_ballot ?c_law_ballot ?k_law_ballot ?a_law_parts ?l_law_parts ?c_law_parts ?k_law_parts ?a_law_threes_right ?l_law_threes_right ?c_law_threes_right ?k_law_threes_right ?a_law_drawn_right ?l_law_drawn_right ?c_law_drawn_right ?k_law_drawn_right ?a_law ?l_law ?c_law ?k_law ?aC_NoOption ?xL_NoOption ?sa_NoOption ?gt_NoOption ?gg_NoOption ?ai_NoOption ?ti_NoOption ?kC_NoOption ?eC_NoOption ?tC_NoOption ?hC_NoOption ?nf_NoOption_name ?ha_NoOption ?hn_NoOption ?ht_NoOption ?ob_NoOption ?aC_PollError ?xL_PollError ?sa_PollError ?gt_PollError ?gg_PollError ?ai_PollError ?ti_PollError ?kC_PollError ?eC_PollError ?tC_PollError ?hC_PollError ?nf_PollError_why ?rd_PollError ?ga_PollError ?fc_PollError_init ?aC_BadPoll ?xL_BadPoll ?sa_BadPoll ?gt_BadPoll ?gg_BadPoll ?ai_BadPoll ?ti_BadPoll ?kC_BadPoll ?eC_BadPoll ?tC_BadPoll ?hC_BadPoll ?nf_BadPoll_why ?aC_Poll ?pg_Poll ?hd_Poll ?po_Poll ?sa_Poll ?mk_Poll ?kc_Poll ?ai_Poll ?ii_Poll ?n_Poll_options ?n_Poll_voices ?kd_strongest_ways ?lc_strongest_ways ?vp_strongest_ways ?np_strongest_ways ?rc_strongest_ways ?vV ?z_ValueError ?z_isinstance ?z_bool ?z_int ?z_str ?z_len ?z_all ?z_tuple ?z_enumerate ?z_list ?z_zip ?z_min ?z_max ?z_range ?z_dict ?z_sorted ?z_set ?cc_LONGEST_NAME ?cc_MOST_OPTIONS ?cc_GREATEST_MARK ?cc_MOST_VOICES ?cc_MOST_ROWS ?cc_RULES ?lk_RULES ?cc_BY_WORD ?ld_BY_WORD ?kd_BY_WORD ?ed_BY_WORD_ways
    (case a_is_whole => k_is); (case a_is_name => k_is); (case a_is_tuple_of => k_is); (case a_are_names => k_is); (case a_are_options => k_is); (case a_is_option => k_is); (case a_check_option => k_is); (case a_are_unlike_options => k_is); (case a_is_mark => k_is); (case a_are_tiers => k_is); (case a_are_marks => k_is); (case a_is_ballot => k_is); (case a_is_row => k_is); (case a_check_poll => k_is); (case a_order_ranks => k_is); (case a_ranks => k_is); (case a_ranked => k_is); (case a_margin_by => k_is); (case a_margins => k_is); (case a_is_way => k_is); (case a_is_lot => k_is); (case a_steps_of => k_is); (case a_steps_out => k_is); (case a_weakest => k_is); (case a_strongest_ways => k_is); (case a_strength => k_is); (case a_strength_paper => k_is); (case a_shows_strength => k_is); (case a_is_no_weaker => k_is); (case a_ways_lot => k_is); (case a_by_ways => k_is); (case a_others_than => k_is); (case a_unlost_ways => k_is); (case a_top_lot => k_is); (case a_leader => k_is); (case a_is_rule => k_is); (case a_check_rule => k_is); (case a_lot => k_is); (case a_law_cell_at => k_is); (case a_law_well => k_is); (case a_law_draw => k_is); (case a_law_one => k_is); (case a_law_shuffled => k_is); (case a_law_names => k_is); (case a_law_ballot => k_is); (case a_law_parts => k_is); (case a_law_threes_right => k_is); (case a_law_drawn_right => k_is); (case a_law => k_is); (case aC_NoOption => k_is); (case aC_PollError => k_is); (case aC_BadPoll => k_is); (case aC_Poll => k_is); (case cc_LONGEST_NAME => k_is); (case cc_MOST_OPTIONS => k_is); (case cc_GREATEST_MARK => k_is); (case cc_MOST_VOICES => k_is); (case cc_MOST_ROWS => k_is); (case cc_RULES => k_is); (case cc_BY_WORD => k_is); (case ai_NoOption => k_is); (case ai_PollError => k_is); (case ai_BadPoll => k_is); (case ai_Poll => k_is); (case l_PollError_init => k_is); (case l_NoOption_init => k_is); (case l_is_whole => k_is); (case l_is_name => k_is); (case l_is_tuple_of => k_is); (case l_are_names => k_is); (case l_are_options => k_is); (case l_is_option => k_is); (case l_check_option => k_is); (case l_are_unlike_options => k_is); (case l_is_mark => k_is); (case l_are_tiers => k_is); (case l_are_marks => k_is); (case l_is_ballot => k_is); (case l_is_row => k_is); (case l_check_poll => k_is); (case l_Poll_init => k_is); (case l_order_ranks => k_is); (case l_ranks => k_is); (case l_ranked => k_is); (case l_margin_by => k_is); (case l_margins => k_is); (case l_is_way => k_is); (case l_is_lot => k_is); (case l_steps_of => k_is); (case l_steps_out => k_is); (case l_weakest => k_is); (case l_strongest_ways => k_is); (case l_strength => k_is); (case l_strength_paper => k_is); (case l_shows_strength => k_is); (case l_is_no_weaker => k_is); (case l_ways_lot => k_is); (case l_by_ways => k_is); (case l_others_than => k_is); (case l_unlost_ways => k_is); (case l_top_lot => k_is); (case l_leader => k_is); (case l_is_rule => k_is); (case l_check_rule => k_is); (case l_lot => k_is); (case l_law_cell_at => k_is); (case l_law_well => k_is); (case l_law_draw => k_is); (case l_law_one => k_is); (case l_law_shuffled => k_is); (case l_law_names => k_is); (case l_law_ballot => k_is); (case l_law_parts => k_is); (case l_law_threes_right => k_is); (case l_law_drawn_right => k_is); (case l_law => k_is); (case xL_NoOption => k_is); (case xL_PollError => k_is); (case xL_BadPoll => k_is); (case lt_PollError_init => k_is); (case lt_Poll_init => k_is); (case lk_RULES => k_is); (case ld_BY_WORD => k_is); (case c_PollError_init => k_is); (case k_PollError_init => k_is); (case c_NoOption_init => k_is); (case k_NoOption_init => k_is); (case c_is_whole => k_is); (case k_is_whole => k_is); (case c_is_name => k_is); (case k_is_name => k_is); (case c_is_tuple_of => k_is); (case k_is_tuple_of => k_is); (case c_are_names => k_is); (case k_are_names => k_is); (case c_are_options => k_is); (case k_are_options => k_is); (case c_is_option => k_is); (case k_is_option => k_is); (case c_check_option => k_is); (case k_check_option => k_is); (case c_are_unlike_options => k_is); (case k_are_unlike_options => k_is); (case c_is_mark => k_is); (case k_is_mark => k_is); (case c_are_tiers => k_is); (case k_are_tiers => k_is); (case c_are_marks => k_is); (case k_are_marks => k_is); (case c_is_ballot => k_is); (case k_is_ballot => k_is); (case c_is_row => k_is); (case k_is_row => k_is); (case c_check_poll => k_is); (case k_check_poll => k_is); (case c_Poll_init => k_is); (case k_Poll_init => k_is); (case c_order_ranks => k_is); (case k_order_ranks => k_is); (case c_ranks => k_is); (case k_ranks => k_is); (case c_ranked => k_is); (case k_ranked => k_is); (case c_margin_by => k_is); (case k_margin_by => k_is); (case c_margins => k_is); (case k_margins => k_is); (case c_is_way => k_is); (case k_is_way => k_is); (case c_is_lot => k_is); (case k_is_lot => k_is); (case c_steps_of => k_is); (case k_steps_of => k_is); (case c_steps_out => k_is); (case k_steps_out => k_is); (case c_weakest => k_is); (case k_weakest => k_is); (case c_strongest_ways => k_is); (case k_strongest_ways => k_is); (case c_strength => k_is); (case k_strength => k_is); (case c_strength_paper => k_is); (case k_strength_paper => k_is); (case c_shows_strength => k_is); (case k_shows_strength => k_is); (case c_is_no_weaker => k_is); (case k_is_no_weaker => k_is); (case c_ways_lot => k_is); (case k_ways_lot => k_is); (case c_by_ways => k_is); (case k_by_ways => k_is); (case c_others_than => k_is); (case k_others_than => k_is); (case c_unlost_ways => k_is); (case k_unlost_ways => k_is); (case c_top_lot => k_is); (case k_top_lot => k_is); (case c_leader => k_is); (case k_leader => k_is); (case c_is_rule => k_is); (case k_is_rule => k_is); (case c_check_rule => k_is); (case k_check_rule => k_is); (case c_lot => k_is); (case k_lot => k_is); (case c_law_cell_at => k_is); (case k_law_cell_at => k_is); (case c_law_well => k_is); (case k_law_well => k_is); (case c_law_draw => k_is); (case k_law_draw => k_is); (case c_law_one => k_is); (case k_law_one => k_is); (case c_law_shuffled => k_is); (case k_law_shuffled => k_is); (case c_law_names => k_is); (case k_law_names => k_is); (case c_law_ballot => k_is); (case k_law_ballot => k_is); (case c_law_parts => k_is); (case k_law_parts => k_is); (case c_law_threes_right => k_is); (case k_law_threes_right => k_is); (case c_law_drawn_right => k_is); (case k_law_drawn_right => k_is); (case c_law => k_is); (case k_law => k_is); (case sa_NoOption => k_is); (case gt_NoOption => k_is); (case gg_NoOption => k_is); (case ti_NoOption => k_is); (case kC_NoOption => k_is); (case eC_NoOption => k_is); (case tC_NoOption => k_is); (case hC_NoOption => k_is); (case nf_NoOption_name => first | k_is | rfl | decide +kernel); (case ha_NoOption => k_is); (case hn_NoOption => k_is); (case ht_NoOption => first | k_is | rfl | decide +kernel); (case ob_NoOption => k_is); (case sa_PollError => k_is); (case gt_PollError => k_is); (case gg_PollError => k_is); (case ti_PollError => k_is); (case kC_PollError => k_is); (case eC_PollError => k_is); (case tC_PollError => k_is); (case hC_PollError => k_is); (case nf_PollError_why => first | k_is | rfl | decide +kernel); (case rd_PollError => k_is); (case ga_PollError => k_is); (case fc_PollError_init => first | k_is | rfl | decide +kernel); (case sa_BadPoll => k_is); (case gt_BadPoll => k_is); (case gg_BadPoll => k_is); (case ti_BadPoll => k_is); (case kC_BadPoll => k_is); (case eC_BadPoll => k_is); (case tC_BadPoll => k_is); (case hC_BadPoll => k_is); (case nf_BadPoll_why => first | k_is | rfl | decide +kernel); (case pg_Poll => k_is); (case hd_Poll => k_is); (case po_Poll => k_is); (case sa_Poll => k_is); (case mk_Poll => k_is); (case kc_Poll => k_is); (case ii_Poll => k_is); (case n_Poll_options => k_is); (case n_Poll_voices => k_is); (case kd_strongest_ways => first | rfl | k_is); (case lc_strongest_ways => k_is); (case vp_strongest_ways => first | rfl | k_is); (case np_strongest_ways => first | k_is | rfl | decide +kernel); (case rc_strongest_ways => exact ⟨_, rfl⟩); (case vV => first | k_is | rfl | decide +kernel); (case z_ValueError => k_is); (case z_isinstance => k_is); (case z_bool => k_is); (case z_int => k_is); (case z_str => k_is); (case z_len => k_is); (case z_all => k_is); (case z_tuple => k_is); (case z_enumerate => k_is); (case z_list => k_is); (case z_zip => k_is); (case z_min => k_is); (case z_max => k_is); (case z_range => k_is); (case z_dict => k_is); (case z_sorted => k_is); (case z_set => k_is); (case kd_BY_WORD => k_keys); (case ed_BY_WORD_ways => k_is)
