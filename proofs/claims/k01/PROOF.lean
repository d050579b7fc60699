import PyProof.Rows.All
import Wide.All
import OpenK.AllK
import Wide.FinOn
import HandS.ForMost
import HandS.Wide
import HandS.IsInst
import HandS.Style
import HandS.Walk
import HandS.LawCells
import PySem.Challenge.RW_voicefold_k01_whole_numbers_and_names
set_option Elab.async false
set_option linter.all false
set_option maxRecDepth 100000
set_option maxHeartbeats 4000000
/-! Law k01 over the landed words: by hand, over the layer. -/
namespace Own
open PySem PySem.Spec PyProof.Rows L2
/-! ### the text -/
def topS (i : Nat) : Stmt := PySem.Challenge.pw_voicefold_k01_whole_numbers_and_names.main.body.getD i (.Pass ⟨0, 0, 0, 0⟩)
abbrev s_law_cell_at : Stmt := topS 5
theorem sc_law_cell_at : FnScope ["_law_script", "_law_k"] ["_law_script", "_law_k"] (defScope s_law_cell_at) := ⟨rfl, rfl, rfl, by decide +kernel, rfl, by decide +kernel, by decide +kernel⟩
abbrev s_law_well : Stmt := topS 6
theorem sc_law_well : FnScope ["_law_cell"] ["_law_cell"] (defScope s_law_well) := ⟨rfl, rfl, rfl, by decide +kernel, rfl, by decide +kernel, by decide +kernel⟩
abbrev s_law_draw : Stmt := topS 7
theorem sc_law_draw : FnScope ["_law_well_here", "_law_size", "_law_digit", "_law_mix"] ["_law_well_here", "_law_size"] (defScope s_law_draw) := ⟨rfl, rfl, rfl, by decide +kernel, rfl, by decide +kernel, by decide +kernel⟩
abbrev s_law_one : Stmt := topS 8
theorem sc_law_one : FnScope ["_law_well_here", "_law_some"] ["_law_well_here", "_law_some"] (defScope s_law_one) := ⟨rfl, rfl, rfl, by decide +kernel, rfl, by decide +kernel, by decide +kernel⟩
abbrev s_law_text : Stmt := topS 9
theorem sc_law_text : FnScope ["_law_well_here", "_law_signs", "_law_other", "_law_found", "_law_k"] ["_law_well_here"] (defScope s_law_text) := ⟨rfl, rfl, rfl, by decide +kernel, rfl, by decide +kernel, by decide +kernel⟩
abbrev s_law_good : Stmt := topS 10
theorem sc_law_good : FnScope ["_law_well_here", "_law_letters", "_law_found", "_law_at", "_law_k"] ["_law_well_here"] (defScope s_law_good) := ⟨rfl, rfl, rfl, by decide +kernel, rfl, by decide +kernel, by decide +kernel⟩
abbrev s_law_is_name : Stmt := topS 11
theorem sc_law_is_name : FnScope ["_law_text_here", "_law_strange", "_law_sign"] ["_law_text_here"] (defScope s_law_is_name) := ⟨rfl, rfl, rfl, by decide +kernel, rfl, by decide +kernel, by decide +kernel⟩
abbrev s_is_whole : Stmt := topS 2
theorem sc_is_whole : FnScope ["thing"] ["thing"] (defScope s_is_whole) := ⟨rfl, rfl, rfl, by decide +kernel, rfl, by decide +kernel, by decide +kernel⟩
abbrev s_is_name : Stmt := topS 3
theorem sc_is_name : FnScope ["thing", "sign"] ["thing"] (defScope s_is_name) := ⟨rfl, rfl, rfl, by decide +kernel, rfl, by decide +kernel, by decide +kernel⟩
abbrev s_law : Stmt := topS 12
theorem sc_law : FnScope ["_law_script", "_law_cell", "_law_well_here", "_law_text_here", "_law_far", "_law_whole", "_law_odd"] ["_law_script"] (defScope s_law) := ⟨rfl, rfl, rfl, by decide +kernel, rfl, by decide +kernel, by decide +kernel⟩
structure Txt (K : PySem.W.Frag) (mg : Str → Option Value) where
  f_law_cell_at : Addr
  fd_law_cell_at : FuncData
  F_law_cell_at : Fun K "_law_cell_at" "_law_cell_at" s_law_cell_at f_law_cell_at fd_law_cell_at
  g_law_cell_at : mg "_law_cell_at" = some (.ref f_law_cell_at)
  b_law_cell_at : Binds K fd_law_cell_at ["_law_script", "_law_k"] []
  f_law_well : Addr
  fd_law_well : FuncData
  F_law_well : Fun K "_law_well" "_law_well" s_law_well f_law_well fd_law_well
  g_law_well : mg "_law_well" = some (.ref f_law_well)
  b_law_well : Binds K fd_law_well ["_law_cell"] []
  f_law_draw : Addr
  fd_law_draw : FuncData
  F_law_draw : Fun K "_law_draw" "_law_draw" s_law_draw f_law_draw fd_law_draw
  g_law_draw : mg "_law_draw" = some (.ref f_law_draw)
  b_law_draw : Binds K fd_law_draw ["_law_well_here", "_law_size"] []
  f_law_one : Addr
  fd_law_one : FuncData
  F_law_one : Fun K "_law_one" "_law_one" s_law_one f_law_one fd_law_one
  g_law_one : mg "_law_one" = some (.ref f_law_one)
  b_law_one : Binds K fd_law_one ["_law_well_here", "_law_some"] []
  f_law_text : Addr
  fd_law_text : FuncData
  F_law_text : Fun K "_law_text" "_law_text" s_law_text f_law_text fd_law_text
  g_law_text : mg "_law_text" = some (.ref f_law_text)
  b_law_text : Binds K fd_law_text ["_law_well_here"] []
  f_law_good : Addr
  fd_law_good : FuncData
  F_law_good : Fun K "_law_good" "_law_good" s_law_good f_law_good fd_law_good
  g_law_good : mg "_law_good" = some (.ref f_law_good)
  b_law_good : Binds K fd_law_good ["_law_well_here"] []
  f_law_is_name : Addr
  fd_law_is_name : FuncData
  F_law_is_name : Fun K "_law_is_name" "_law_is_name" s_law_is_name f_law_is_name fd_law_is_name
  g_law_is_name : mg "_law_is_name" = some (.ref f_law_is_name)
  b_law_is_name : Binds K fd_law_is_name ["_law_text_here"] []
  f_is_whole : Addr
  fd_is_whole : FuncData
  F_is_whole : Fun K "is_whole" "is_whole" s_is_whole f_is_whole fd_is_whole
  g_is_whole : mg "is_whole" = some (.ref f_is_whole)
  b_is_whole : Binds K fd_is_whole ["thing"] []
  f_is_name : Addr
  fd_is_name : FuncData
  F_is_name : Fun K "is_name" "is_name" s_is_name f_is_name fd_is_name
  g_is_name : mg "is_name" = some (.ref f_is_name)
  b_is_name : Binds K fd_is_name ["thing"] []
  f_law : Addr
  fd_law : FuncData
  F_law : Fun K "law" "law" s_law f_law fd_law
  g_law : mg "law" = some (.ref f_law)
  b_law : Binds K fd_law ["_law_script"] []
  z_len : mg "len" = none
  z_int : mg "int" = none
  z_range : mg "range" = none
  z_isinstance : mg "isinstance" = none
  z_bool : mg "bool" = none
  z_str : mg "str" = none
  z_all : mg "all" = none
  t_LONGEST_NAME : Tok
  c_LONGEST_NAME : mg "LONGEST_NAME" = some (.int 8 t_LONGEST_NAME)
/-! ### wells -/
/-- a well's three numbers, k a bound of how often it was drawn from -/
def WellL (w : List V) (k : Nat) : Prop := ∃ a b c : Int, w = [.int a, .int b, .int c] ∧ 0 ≤ a ∧ 0 ≤ b ∧ b < 2147483629 ∧ 0 ≤ c ∧ c ≤ k
theorem WellL.mono {w : List V} {j k : Nat} (h : WellL w j) (hk : j ≤ k) : WellL w k := by
  obtain ⟨a, b, c, e, h1, h2, h3, h4, h5⟩ := h
  exact ⟨a, b, c, e, h1, h2, h3, h4, by omega⟩
theorem mix_mod (x m : Int) (h : 0 < m) : 0 ≤ x % m ∧ x % m < m := ⟨Int.emod_nonneg x (by omega), Int.emod_lt_of_pos x h⟩
theorem div_nn {a n : Int} (h : 0 ≤ a) (hn : 0 < n) : 0 ≤ a / n := Int.ediv_nonneg h (by omega)
theorem same_upd {H : Hp} {p : Addr} {o : HO} (h : H p = none) : Same H (upd H p o) := fun b x e => by
  rw [upd_ne (ne_of_none e h)]
  exact e
theorem same_mut {H H' : Hp} {p : Addr} {o : HO} (e : Same H H') (h : H p = none) : Same H (upd H' p o) := fun b x q => by
  rw [upd_ne (ne_of_none q h)]
  exact e b x q
section
variable {P : Program} {w : World} {K : PySem.W.Frag} {mg : Str → Option Value} {base : Heap}
/-! ### the law's own small defs -/
def sp_law_cell_at (K : PySem.W.Frag) : Sp := fun vs H Q _ => ∃ (a : Addr) (ns : List Int), vs = [.ref a, .int 0] ∧ SqL K H a (ns.map V.int) ∧ ns.length ≤ 63 ∧ ∀ z : Int, Q (.int z) H
theorem ok_law_cell_at (T : Txt K mg) : FnOk P w K mg base CX0 1 T.f_law_cell_at T.fd_law_cell_at ["_law_script", "_law_k"] (sp_law_cell_at K) := by
  refine T.F_law_cell_at.ok sc_law_cell_at (fun vs H Q E h => ?_) (fun cdv A outer s H vs Q E hr h => ?_)
  · obtain ⟨a, ns, rfl, _⟩ := h
    rfl
  · obtain ⟨a, ns, rfl, hS, hlen, q⟩ := h
    refine ⟨_, (pss_cons
 (ps_if (pt_cmpR op_lt (pv 1) (pe_callB call_len_seq (by rfl) T.z_len (by decide +kernel) (pa_cons (pv 0) pa_nil)) (nomark _))
 (pss_one
 (ps_ret (pe_ix ix_list (pv 0) (pv 1) (fun _ _ => rfl))))
 pss_nil)
 (pss_one
 (ps_ret pe_int))), ?_⟩
    refine ⟨.int 0, rfl, .ref a, rfl, a, ns.map V.int, rfl, .inl hS, 0, _, rfl, rfl, _, rfl, ite2 (fun e => ?_) (fun e => ?_)⟩
    · have e0 := of_decide_eq_true e
      cases ns with
      | nil => simp at e0
      | cons z r => exact ⟨.ref a, rfl, .int 0, rfl, a, _, 0, .int z, rfl, rfl, hS, atI_nat (j := 0) rfl, q z⟩
    · exact q 0
def sp_law_well : Sp := fun vs H Q _ => ∃ z : Int, vs = [.int z] ∧ ∀ (p : Addr) (x : List V) (H' : Hp), H p = none → Same H H' → H' p = some (.lst x) → WellL x 0 → Q (.ref p) H'
theorem ok_law_well (T : Txt K mg) : FnOk P w K mg base CX0 1 T.f_law_well T.fd_law_well ["_law_cell"] sp_law_well := by
  refine T.F_law_well.ok sc_law_well (fun vs H Q E h => ?_) (fun cdv A outer s H vs Q E hr h => ?_)
  · obtain ⟨z, rfl, _⟩ := h
    rfl
  · obtain ⟨z, rfl, q⟩ := h
    refine ⟨_, (pss_one
 (ps_ret (pe_lst (pa_cons (pe_ix ix_list (pe_lst (pa_cons pe_int (pa_cons (pv 0) pa_nil))) (pe_callTy call_int1 (by rfl) T.z_int (by decide +kernel) (pa_cons (pe_cmpR op_ge (pv 0) (pe_op op_pow pe_int pe_int) (nomark _)) pa_nil)) (fun _ _ => rfl)) (pa_cons (pe_op op_mod (pv 0) pe_int) (pa_cons pe_int pa_nil)))))), ?_⟩
    refine ⟨.int z, rfl, Nat.le_trans (by decide : 2 ≤ 1000) (Nat.le_of_lt (small1000 (by decide))), fun t nt => ?_⟩
    have ht : (upd H t (.lst [V.int 0, V.int z])) t = some (.lst [V.int 0, V.int z]) := upd_same
    refine ⟨.int z, rfl, 10, 18, rfl, rfl, ⟨by decide, by decide, by decide⟩, z, _, rfl, rfl, .inr ⟨_, rfl, ?_⟩⟩
    have fin : ∀ a : Int, 0 ≤ a → ∀ (p : Addr), (upd H t (.lst [V.int 0, V.int z])) p = none → Q (.ref p) (upd (upd H t (.lst [V.int 0, V.int z])) p (.lst [.int a, .int (z % 2147483629), .int 0])) := fun a ha p np => by
      have hb := mix_mod z 2147483629 (by decide)
      exact q p _ _ ((same_upd nt).free np) ((same_upd nt).trans (same_upd np)) upd_same ⟨a, _, 0, rfl, ha, hb.1, hb.2, by decide, by decide⟩
    by_cases hz : (10 : Int) ^ 18 ≤ z
    · refine ⟨t, _, 1, .int z, rfl, ?_, .of ht, rfl, .int z, rfl, z, _, rfl, rfl, (by show (0 : Int) < 2147483629; decide), Nat.le_trans (by decide : 3 ≤ 1000) (Nat.le_of_lt (small1000 (by decide))), fun p np => fin z (by omega) p np⟩
      rw [show decide ((10 : Int) ^ (18 : Int).toNat ≤ z) = true from decide_eq_true hz] <;> rfl
    · refine ⟨t, _, 0, .int 0, rfl, ?_, .of ht, rfl, .int z, rfl, z, _, rfl, rfl, (by show (0 : Int) < 2147483629; decide), Nat.le_trans (by decide : 3 ≤ 1000) (Nat.le_of_lt (small1000 (by decide))), fun p np => fin 0 (by omega) p np⟩
      rw [show decide ((10 : Int) ^ (18 : Int).toNat ≤ z) = false from decide_eq_false hz] <;> rfl
/-- drawing: a number below the size; the well holds three numbers again -/
def sp_law_draw : Sp := fun vs H Q _ => ∃ (p : Addr) (n : Int) (x : List V) (k : Nat), vs = [.ref p, .int n] ∧ H p = some (.lst x) ∧ WellL x k ∧ k ≤ 1000000 ∧ 0 < n ∧ n.natAbs < 2 ^ 8000 ∧
  ∀ (d : Int) (y : List V), 0 ≤ d → d < n → WellL y (k + 1) → Q (.int d) (upd H p (.lst y))
theorem ok_law_draw (T : Txt K mg) : FnOk P w K mg base CX0 1 T.f_law_draw T.fd_law_draw ["_law_well_here", "_law_size"] sp_law_draw := by
  refine T.F_law_draw.ok sc_law_draw (fun vs H Q E h => ?_) (fun cdv A outer s H vs Q E hr h => ?_)
  · obtain ⟨p, n, x, k, rfl, _⟩ := h
    rfl
  · obtain ⟨p, n, x, k, rfl, hp, ⟨a, b, c, rfl, ha, hb, hb2, hc, hck⟩, hk, hn, hn2, q⟩ := h
    refine ⟨_, (pss_cons
 (ps_if (pt_cmpR op_gt (pe_ix ix_list (pv 0) pe_int (fun _ _ => rfl)) pe_int (nomark _))
 (pss_cons
 (ps_set (i := 2) sc_law_draw.nd rfl (Or.inl rfl) (pe_op op_mod (pe_ix ix_list (pv 0) pe_int (fun _ _ => rfl)) (pv 1)))
 (pss_cons
 (ps_asg (pe_op op_fdivW (pe_ix ix_list (pv 0) pe_int (fun _ _ => rfl)) (pv 1)) (pg_sub (pv 0) pe_int set_list))
 (pss_one
 (ps_ret (pv 2)))))
 pss_nil)
 (pss_cons
 (ps_asg (pe_op op_add (pe_ix ix_list (pv 0) pe_int (fun _ _ => rfl)) pe_int) (pg_sub (pv 0) pe_int set_list))
 (pss_cons
 (ps_set (i := 3) sc_law_draw.nd rfl (Or.inl rfl) (pe_op op_mod (pe_op op_pow (pe_op op_add (pe_op op_add (pe_ix ix_list (pv 0) pe_int (fun _ _ => rfl)) (pe_op op_mul pe_int (pe_ix ix_list (pv 0) pe_int (fun _ _ => rfl)))) pe_int) pe_int) pe_int))
 (pss_cons
 (ps_set (i := 3) sc_law_draw.nd rfl (Or.inl rfl) (pe_op op_mod (pe_op op_mul (pv 3) (pe_op op_add (pe_op op_add (pe_op op_fdiv (pv 3) pe_int) pe_int) (pe_ix ix_list (pv 0) pe_int (fun _ _ => rfl)))) pe_int))
 (pss_one
 (ps_ret (pe_op op_mod (pe_op op_mod (pe_op op_mul (pv 3) (pe_op op_add (pe_op op_fdiv (pv 3) pe_int) pe_int)) pe_int) (pv 1)))))))), ?_⟩
    refine ⟨.ref p, rfl, p, _, 0, .int a, rfl, rfl, .of hp, rfl, a, 0, rfl, rfl, _, rfl, ite2 (fun e => ?_) (fun e => ?_)⟩
    · have hd := mix_mod a n hn
      have ha2 := div_nn ha hn
      refine ⟨.ref p, rfl, p, _, 0, .int a, rfl, rfl, .of hp, rfl, .int n, rfl, a, n, rfl, rfl, hn, ?_⟩
      refine ⟨.ref p, rfl, p, _, 0, .int a, rfl, rfl, .of hp, rfl, .int n, rfl, a, n, rfl, rfl, wide_div hn hn2 (by decide) (by decide), .ref p, rfl, p, _, 0, 0, rfl, rfl, hp, rfl, ?_⟩
      exact ⟨_, rfl, q (a % n) _ hd.1 hd.2 ⟨a / n, b, c, rfl, ha2, hb, hb2, hc, by omega⟩⟩
    · refine ⟨.ref p, rfl, p, _, 2, .int c, rfl, rfl, .of hp, rfl, c, 1, rfl, rfl, .ref p, rfl, p, _, 2, 2, rfl, rfl, hp, rfl, ?_⟩
      have h1 : (upd H p (.lst [V.int a, V.int b, V.int (c + 1)])) p = some (.lst [V.int a, V.int b, V.int (c + 1)]) := upd_same
      refine ⟨.ref p, rfl, p, _, 1, .int b, rfl, rfl, .of h1, rfl, .ref p, rfl, p, _, 2, .int (c + 1), rfl, rfl, .of h1, rfl, 7919, c + 1, rfl, rfl, .inl ⟨by decide, by decide⟩, b, _, rfl, rfl, _, 1, rfl, rfl, _, 5, rfl, rfl, ⟨by decide, by decide, by omega⟩, _, 2147483647, rfl, rfl, (by show (0 : Int) < 2147483647; decide), ?_⟩
      dsimp only
      generalize hg : (_ : Int) % 2147483647 = m
      have hm : 0 ≤ m ∧ m < 2147483647 := hg ▸ mix_mod _ _ (by decide)
      refine ⟨.int m, rfl, .int m, rfl, m, 1009, rfl, rfl, ⟨by decide, by decide⟩, _, 69621, rfl, rfl, .ref p, rfl, p, _, 2, .int (c + 1), rfl, rfl, .of h1, rfl, _, c + 1, rfl, rfl, m, _, rfl, rfl, .inl ⟨by omega, by omega⟩, _, 2147483629, rfl, rfl, (by show (0 : Int) < 2147483629; decide), ?_⟩
      dsimp only
      generalize hg2 : (_ : Int) % 2147483629 = m2
      have hm2 : 0 ≤ m2 ∧ m2 < 2147483629 := hg2 ▸ mix_mod _ _ (by decide)
      refine ⟨.int m2, rfl, .int m2, rfl, m2, 2003, rfl, rfl, ⟨by decide, by decide⟩, _, 40692, rfl, rfl, m2, _, rfl, rfl, .inl ⟨by omega, by omega⟩, _, 2147483399, rfl, rfl, (by show (0 : Int) < 2147483399; decide), .int n, rfl, _, n, rfl, rfl, hn, ?_⟩
      have hd := mix_mod (m2 * (m2 / 2003 + 40692) % 2147483399) n hn
      exact q _ _ hd.1 hd.2 ⟨a, b, c + 1, rfl, ha, hb, hb2, by omega, by omega⟩

/-! ### texts -/
/-- all signs small -/
def Asc (z : Str) : Prop := ∀ c ∈ z.cps.toList, c < 200
theorem len_cps (z : Str) : z.length = z.cps.toList.length := by simp [Str.length]
theorem asc_one {c : Nat} (h : c < 200) : Asc ⟨#[c]⟩ := fun d hd => by
  have e : d = c := by simpa using hd
  omega
theorem cps_app (a b : Str) : (a ++ b).cps.toList = a.cps.toList ++ b.cps.toList := by
  show (a.cps ++ b.cps).toList = _
  simp
theorem len_app (a b : Str) : (a ++ b).length = a.length + b.length := by
  rw [len_cps, len_cps, len_cps, cps_app, List.length_append]
theorem asc_app {a b : Str} (ha : Asc a) (hb : Asc b) : Asc (a ++ b) := fun c hc => by
  rw [cps_app] at hc
  rcases List.mem_append.mp hc with h | h
  · exact ha c h
  · exact hb c h
theorem asc_cut {z : Str} (h : Asc z) (lo hi : Option Int) : Asc (cutS z lo hi) := fun c hc => by
  unfold cutS at hc
  rw [show (Str.mk ((z.cps.toList.drop (HT.sIx z.length 0 lo)).take (HT.sIx z.length z.length hi - HT.sIx z.length 0 lo)).toArray).cps.toList = (z.cps.toList.drop (HT.sIx z.length 0 lo)).take (HT.sIx z.length z.length hi - HT.sIx z.length 0 lo) by simp] at hc
  exact h c (List.mem_of_mem_drop (List.mem_of_mem_take hc))
theorem asc_of {z : Str} (h : (z.cps.toList.all fun c => decide (c < 200)) = true) : Asc z := fun c hc => of_decide_eq_true (List.all_eq_true.mp h c hc)
theorem line_of {n : Nat} (h : n ≤ 1000) : n ≤ sizeLine := Nat.le_of_lt (small1000 h)
/-- what was tracked besides p stays -/
def But (p : Addr) (H H' : Hp) : Prop := ∀ b o, b ≠ p → H b = some o → H' b = some o
theorem But.refl (p : Addr) (H : Hp) : But p H H := fun _ _ _ h => h
theorem But.upd {p : Addr} {H H' : Hp} (e : But p H H') (o : HO) : But p H (upd H' p o) := fun b u hb q => by
  rw [upd_ne hb]
  exact e b u hb q
theorem But.new {p q : Addr} {H H' : Hp} (e : But p H H') (n : H' q = none) (o : HO) : But p H (L2.upd H' q o) := fun b u hb h => by
  have h2 := e b u hb h
  rw [upd_ne (ne_of_none h2 n)]
  exact h2
theorem But.same {p : Addr} {H H1 H2 : Hp} (e : But p H H1) (s : Same H1 H2) : But p H H2 := fun b u hb h => s b u (e b u hb h)
theorem But.trans {p : Addr} {H H1 H2 : Hp} (e : But p H H1) (f : But p H1 H2) : But p H H2 := fun b u hb h => f b u hb (e b u hb h)
/-- p new to H0 -/
theorem But.ext {p : Addr} {H0 H H' : Hp} (s : Same H0 H) (n : H0 p = none) (e : But p H H') : Same H0 H' := fun b u h => e b u (ne_of_none h n) (s b u h)
theorem drawn_at {z : Str} {d : Int} (h0 : 0 ≤ d) (h1 : d < z.length) : ∃ c, atI z.cps.toList d = some c ∧ c ∈ z.cps.toList := by
  obtain ⟨j, rfl⟩ := Int.eq_ofNat_of_zero_le h0
  rw [len_cps] at h1
  have hj : j < z.cps.toList.length := by omega
  refine ⟨_, text_at hj, ?_⟩
  rw [List.getD_eq_getElem?_getD, List.getElem?_eq_getElem hj]
  exact List.getElem_mem hj
/-- one sign of a text, drawn -/
def sp_law_one : Sp := fun vs H Q _ => ∃ (p : Addr) (z : Str) (x : List V) (k : Nat), vs = [.ref p, .str z] ∧ H p = some (.lst x) ∧ WellL x k ∧ k ≤ 1000000 ∧ 0 < z.length ∧ z.length ≤ 1000 ∧ Asc z ∧
  ∀ (c : Nat) (y : List V), c < 200 → WellL y (k + 1) → Q (.str ⟨#[c]⟩) (L2.upd H p (.lst y))
theorem size_ok {n : Int} (h0 : 0 ≤ n) (h : n ≤ 1000) : n.natAbs < 2 ^ 8000 := Nat.lt_of_le_of_lt (show n.natAbs ≤ 1000 by omega) (by decide +kernel)
theorem ok_law_one (T : Txt K mg) : FnOk P w K mg base CX0 2 T.f_law_one T.fd_law_one ["_law_well_here", "_law_some"] sp_law_one := by
  refine T.F_law_one.ok sc_law_one (fun vs H Q E h => ?_) (fun cdv A outer s H vs Q E hr h => ?_)
  · obtain ⟨p, z, x, k, rfl, _⟩ := h
    rfl
  · obtain ⟨p, z, x, k, rfl, hp, hx, hk, hz, hz2, ha, q⟩ := h
    refine ⟨_, (pss_one
 (ps_ret (pe_ix ix_str (pv 1) (pe_call (ok_law_draw T) (hr.mono (by decide)) (by rfl) T.g_law_draw T.F_law_draw.kp T.b_law_draw .nil pass0 (pa_cons (pv 0) (pa_cons (pe_callB call_len_str (by rfl) T.z_len (by decide +kernel) (pa_cons (pv 1) pa_nil)) pa_nil))) (fun _ _ => rfl)))), ?_⟩
    refine ⟨.str z, rfl, .ref p, rfl, .str z, rfl, z, rfl, line_of hz2, p, _, x, k, rfl, hp, hx, hk, by omega, size_ok (by omega) (by omega), fun d y h0 h1 hy => ?_⟩
    obtain ⟨c, hc, hm⟩ := drawn_at h0 h1
    exact ⟨z, d, c, rfl, rfl, line_of hz2, hc, q c y (ha c hm) hy⟩
theorem three (a b c : V) {d : Int} (h0 : 0 ≤ d) (h1 : d < 3) {Pr : V → Prop} (ha : Pr a) (hb : Pr b) (hc : Pr c) : ∃ v, atI [a, b, c] d = some v ∧ Pr v := by
  rcases (show d = 0 ∨ d = 1 ∨ d = 2 by omega) with rfl | rfl | rfl
  · exact ⟨a, atI_nat (j := 0) rfl, ha⟩
  · exact ⟨b, atI_nat (j := 1) rfl, hb⟩
  · exact ⟨c, atI_nat (j := 2) rfl, hc⟩
/-- a drawn text: of at most 20 small signs -/
def sp_law_text : Sp := fun vs H Q _ => ∃ (p : Addr) (x : List V) (k : Nat), vs = [.ref p] ∧ H p = some (.lst x) ∧ WellL x k ∧ k ≤ 900000 ∧
  ∀ (z : Str) (y : List V) (H' : Hp), z.length ≤ 20 → Asc z → But p H H' → H' p = some (.lst y) → WellL y (k + 100) → Q (.str z) H'
theorem ok_law_text (T : Txt K mg) : FnOk P w K mg base CX0 3 T.f_law_text T.fd_law_text ["_law_well_here"] sp_law_text := by
  refine T.F_law_text.ok sc_law_text (fun vs H Q E h => ?_) (fun cdv A outer s H vs Q E hr h => ?_)
  · obtain ⟨p, x, k, rfl, _⟩ := h
    rfl
  · obtain ⟨p, x, k, rfl, hp, hx, hk, q⟩ := h
    refine ⟨_, (pss_cons
 (ps_set (i := 1) sc_law_text.nd rfl (Or.inl rfl) pe_str)
 (pss_cons
 (ps_set (i := 2) sc_law_text.nd rfl (Or.inl rfl) pe_str)
 (pss_cons
 (ps_set (i := 3) sc_law_text.nd rfl (Or.inl rfl) pe_str)
 (pss_cons
 (ps_for PassesOwn.never rfl (pi_range1 rfl T.z_range (pa_cons (pe_call (ok_law_draw T) (hr.mono (by decide)) (by rfl) T.g_law_draw T.F_law_draw.kp T.b_law_draw .nil pass0 (pa_cons (pv 0) (pa_cons pe_int pa_nil))) pa_nil)) (pg_name (i := 4) sc_law_text.nd rfl (Or.inl rfl))
 (pss_one
 (ps_set (i := 3) sc_law_text.nd rfl (Or.inl rfl) (pe_op op_add_str (pv 3) (pe_ix ix_list (pe_lst (pa_cons (pe_call (ok_law_one T) (hr.mono (by decide)) (by rfl) T.g_law_one T.F_law_one.kp T.b_law_one .nil pass0 (pa_cons (pv 0) (pa_cons (pv 1) pa_nil))) (pa_cons (pe_call (ok_law_one T) (hr.mono (by decide)) (by rfl) T.g_law_one T.F_law_one.kp T.b_law_one .nil pass0 (pa_cons (pv 0) (pa_cons (pv 1) pa_nil))) (pa_cons (pe_call (ok_law_one T) (hr.mono (by decide)) (by rfl) T.g_law_one T.F_law_one.kp T.b_law_one .nil pass0 (pa_cons (pv 0) (pa_cons (pv 2) pa_nil))) pa_nil)))) (pe_op op_fdiv (pe_call (ok_law_draw T) (hr.mono (by decide)) (by rfl) T.g_law_draw T.F_law_draw.kp T.b_law_draw .nil pass0 (pa_cons (pv 0) (pa_cons pe_int pa_nil))) pe_int) (fun _ _ => rfl))))))
 (pss_one
 (ps_ret (pv 3))))))), ?_⟩
    refine ⟨.ref p, rfl, p, 11, x, k, rfl, hp, hx, by omega, by decide, size_ok (by decide) (by decide), fun d y h0 h1 hy => ?_⟩
    refine ⟨d, rfl, by omega, by omega, ?_⟩
    refine for_range (fun i σ H' => ∃ (z : Str) (v : List V) (kv : Option V), σ = [some (.ref p), some (.str "abcdefghijklmnopqrstuvwxyz"), some (.str "ABCZ0189 _-.,:=>{}[]()'@\n~!"), some (.str z), kv] ∧ z.length ≤ i ∧ Asc z ∧ But p H H' ∧ H' p = some (.lst v) ∧ WellL v (k + 1 + 4 * i)) ⟨"", y, none, rfl, Nat.le_refl _, asc_of (by decide +kernel), (But.refl p H).upd _, upd_same, hy⟩ ?_ ?_
    · rintro i σ H1 hi ⟨z, v, kv, rfl, hz, haz, hb, hv, hw⟩
      have hs1 : Asc "abcdefghijklmnopqrstuvwxyz" := asc_of (by decide +kernel)
      have hs2 : Asc "ABCZ0189 _-.,:=>{}[]()'@\n~!" := asc_of (by decide +kernel)
      have hi2 : i < 11 := by omega
      refine ⟨.str z, rfl, ?_⟩
      refine ⟨.ref p, rfl, _, rfl, p, _, v, _, rfl, hv, hw, by omega, by decide +kernel, by decide +kernel, hs1, fun c1 y1 l1 w1 => ?_⟩
      refine ⟨.ref p, rfl, _, rfl, p, _, y1, _, rfl, upd_same, w1, by omega, by decide +kernel, by decide +kernel, hs1, fun c2 y2 l2 w2 => ?_⟩
      refine ⟨.ref p, rfl, _, rfl, p, _, y2, _, rfl, upd_same, w2, by omega, by decide +kernel, by decide +kernel, hs2, fun c3 y3 l3 w3 => ?_⟩
      rw [upd_upd, upd_upd]
      refine ⟨line_of (show 3 ≤ 1000 by decide), fun t nt => ?_⟩
      have hpt : p ≠ t := fun e => by rw [← e, upd_same] at nt; cases nt
      refine ⟨.ref p, rfl, p, 7, y3, _, rfl, by rw [upd_ne hpt, upd_same], w3, by omega, by decide, size_ok (by decide) (by decide), fun d4 y4 g0 g1 w4 => ?_⟩
      obtain ⟨u, hu, c, rfl, hc⟩ := three (V.str ⟨#[c1]⟩) (V.str ⟨#[c2]⟩) (V.str ⟨#[c3]⟩) (d := d4 / 3) (by omega) (by omega) (Pr := fun v => ∃ c, v = V.str ⟨#[c]⟩ ∧ c < 200) ⟨c1, rfl, l1⟩ ⟨c2, rfl, l2⟩ ⟨c3, rfl, l3⟩
      refine ⟨d4, 3, rfl, rfl, ⟨by decide, by decide⟩, t, _, d4 / 3, _, rfl, rfl, .of (by rw [upd_ne hpt.symm, upd_same]), hu, z, _, rfl, rfl, ?_, ?_⟩
      · show z.length + 1 ≤ sizeLine
        exact line_of (by omega)
      · refine ⟨z ++ ⟨#[c]⟩, y4, _, rfl, ?_, asc_app haz (asc_one hc), ?_, upd_same, w4.mono (by omega)⟩
        · rw [len_app]
          show z.length + 1 ≤ i + 1
          omega
        · exact ((hb.upd _).new nt _).upd _
    · rintro σ H1 ⟨z, v, kv, rfl, hz, haz, hb, hv, hw⟩
      exact ⟨.str z, rfl, q z v H1 (by omega) haz hb hv (hw.mono (by omega))⟩

end
theorem joined_len : ∀ l : List (List Nat), (∀ x ∈ l, x.length = 1) → (TL.joinL [] l).length = l.length
  | [], _ => rfl
  | [x], h => by
    show x.length = 1
    exact h x List.mem_cons_self
  | x :: y :: r, h => by
    show (x ++ ([] ++ TL.joinL [] (y :: r))).length = (y :: r).length + 1
    rw [List.length_append, List.nil_append, joined_len (y :: r) fun z hz => h z (List.mem_cons_of_mem _ hz), h x List.mem_cons_self]
    omega
theorem joined_mem : ∀ (l : List (List Nat)) (c : Nat), c ∈ TL.joinL [] l → ∃ x ∈ l, c ∈ x
  | [], _, h => by cases h
  | [x], c, h => ⟨x, List.mem_cons_self, h⟩
  | x :: y :: r, c, h => by
    have h2 : c ∈ x ++ ([] ++ TL.joinL [] (y :: r)) := h
    rcases List.mem_append.mp h2 with h3 | h3
    · exact ⟨x, List.mem_cons_self, h3⟩
    · rw [List.nil_append] at h3
      obtain ⟨z, hz, hc⟩ := joined_mem (y :: r) c h3
      exact ⟨z, List.mem_cons_of_mem _ hz, hc⟩
theorem join_ones {ss : List Str} (h : ∀ s ∈ ss, s.length = 1 ∧ Asc s) : (Txt.join "" ss).length = ss.length ∧ Asc (Txt.join "" ss) := by
  have e : (Txt.join "" ss).cps.toList = TL.joinL [] (ss.map TL.tl) := by
    rw [TL.join_eq]
    exact TL.tl_join "" ss
  constructor
  · rw [len_cps, e, joined_len, List.length_map]
    intro x hx
    obtain ⟨s, hs, rfl⟩ := List.mem_map.mp hx
    have := (h s hs).1
    rw [len_cps] at this
    exact this
  · intro c hc
    rw [e] at hc
    obtain ⟨x, hx, hcx⟩ := joined_mem _ c hc
    obtain ⟨s, hs, rfl⟩ := List.mem_map.mp hx
    exact (h s hs).2 c hcx
theorem sum_ones : ∀ ss : List Str, (∀ s ∈ ss, s.length = 1 ∧ Asc s) → (ss.map (·.length)).sum = ss.length
  | [], _ => rfl
  | x :: r, h => by
    rw [List.map_cons, List.sum_cons, sum_ones r fun s hs => h s (List.mem_cons_of_mem _ hs), (h x List.mem_cons_self).1, List.length_cons]
    omega
section
variable {P : Program} {w : World} {K : PySem.W.Frag} {mg : Str → Option Value} {base : Heap}
def sp_law_good : Sp := fun vs H Q _ => ∃ (p : Addr) (x : List V) (k : Nat), vs = [.ref p] ∧ H p = some (.lst x) ∧ WellL x k ∧ k ≤ 900000 ∧
  ∀ (z : Str) (y : List V) (H' : Hp), z.length ≤ 40 → Asc z → But p H H' → H' p = some (.lst y) → WellL y (k + 100) → Q (.str z) H'
theorem ok_law_good (T : Txt K mg) : FnOk P w K mg base CX0 3 T.f_law_good T.fd_law_good ["_law_well_here"] sp_law_good := by
  refine T.F_law_good.ok sc_law_good (fun vs H Q E h => ?_) (fun cdv A outer s H vs Q E hr h => ?_)
  · obtain ⟨p, x, k, rfl, _⟩ := h
    rfl
  · obtain ⟨p, x, k, rfl, hp, hx, hk, q⟩ := h
    have hs1 : Asc "abcdefghijklmnopqrstuvwxyz" := asc_of (by decide +kernel)
    have hs3 : Asc (("abcdefghijklmnopqrstuvwxyz" : Str) ++ ("AZ0 _~" : Str)) := asc_of (by decide +kernel)
    refine ⟨_, (pss_cons
 (ps_set (i := 1) sc_law_good.nd rfl (Or.inr rfl) pe_str)
 (pss_cons
 (ps_set (i := 2) sc_law_good.nd rfl (Or.inl rfl) (pe_join pe_str (pe_lc (own := [("_law_k", 4)]) (g := gName 4) (tt := tYes) rfl sc_law_good.nd (pi_range1 rfl T.z_range (pa_cons (pe_op op_add pe_int (pe_call (ok_law_draw T) (hr.mono (by decide)) (by rfl) T.g_law_draw T.F_law_draw.kp T.b_law_draw .nil pass0 (pa_cons (pv 0) (pa_cons pe_int pa_nil)))) pa_nil)) (blkOk_by (own := [("_law_k", 4)]) (N := ["_law_well_here", "_law_letters", "_law_found", "_law_at", "_law_k"]) (sc := defScope s_law_good) (by decide +kernel)) (fun _ _ _ _ _ => pg_name (i := 4) sc_law_good.nd rfl (Or.inl rfl)) (fun _ _ _ _ _ => pts_nil) (fun _ _ _ _ _ => (pe_call (ok_law_one T) (hr.mono (by decide)) (by rfl) T.g_law_one T.F_law_one.kp T.b_law_one .nil pass0 (pa_cons (pv 0) (pa_cons (pv 1) pa_nil)))))))
 (pss_cons
 (ps_if (pt_cmpR op_eq (pe_call (ok_law_draw T) (hr.mono (by decide)) (by rfl) T.g_law_draw T.F_law_draw.kp T.b_law_draw .nil pass0 (pa_cons (pv 0) (pa_cons pe_int pa_nil))) pe_int (nomark _))
 (pss_cons
 (ps_set (i := 3) sc_law_good.nd rfl (Or.inl rfl) (pe_call (ok_law_draw T) (hr.mono (by decide)) (by rfl) T.g_law_draw T.F_law_draw.kp T.b_law_draw .nil pass0 (pa_cons (pv 0) (pa_cons (pe_callB call_len_str (by rfl) T.z_len (by decide +kernel) (pa_cons (pv 2) pa_nil)) pa_nil))))
 (pss_one
 (ps_set (i := 2) sc_law_good.nd rfl (Or.inl rfl) (pe_op op_add_str (pe_op op_add_str (pe_slice sl_str (pv 2) po_none (po_some (pv 3))) (pe_call (ok_law_one T) (hr.mono (by decide)) (by rfl) T.g_law_one T.F_law_one.kp T.b_law_one .nil pass0 (pa_cons (pv 0) (pa_cons (pe_op op_add_str (pv 1) pe_str) pa_nil)))) (pe_slice sl_str (pv 2) (po_some (pe_op op_add (pv 3) pe_int)) po_none)))))
 pss_nil)
 (pss_one
 (ps_ret (pv 2)))))), ?_⟩
    refine ⟨⟨_, rfl⟩, .ref p, rfl, p, 9, x, k, rfl, hp, hx, by omega, by decide, size_ok (by decide) (by decide), fun d y h0 h1 hy => ?_⟩
    refine ⟨1, d, rfl, rfl, 1 + d, rfl, by omega, by omega, fun D nD => ?_⟩
    have hpD : p ≠ D := fun e => by rw [← e, upd_same] at nD; cases nD
    refine lc_range (fun i H' => ∃ (ss : List Str) (v : List V), H' D = some (.lst (ss.map V.str)) ∧ ss.length = i ∧ (∀ s ∈ ss, s.length = 1 ∧ Asc s) ∧ But p H H' ∧ H' p = some (.lst v) ∧ WellL v (k + 1 + i)) ⟨[], y, upd_same, rfl, fun _ h => (by cases h), ((But.refl p H).upd _).new nD _, by rw [upd_ne hpD, upd_same], hy⟩ ?_ ?_
    · rintro i H1 hi ⟨ss, v, hD, hl, hss, hb, hv, hw⟩
      refine ⟨rfl, ?_⟩
      refine ⟨.ref p, rfl, _, rfl, p, _, v, _, rfl, hv, hw, by omega, by decide +kernel, by decide +kernel, hs1, fun c y1 l1 w1 => ?_⟩
      refine ⟨ss.map V.str, by rw [upd_ne hpD.symm]; exact hD, small1000 (by rw [List.length_map]; omega), ss ++ [⟨#[c]⟩], y1, ?_, ?_, ?_, ?_, ?_, w1⟩
      · rw [upd_same, List.map_append]
        rfl
      · rw [List.length_append, hl]
        rfl
      · intro s hs
        rcases List.mem_append.mp hs with h | h
        · exact hss s h
        · have e : s = ⟨#[c]⟩ := by simpa using h
          rw [e]
          exact ⟨rfl, asc_one l1⟩
      · intro b o hb2 ho
        have h3 := hb b o hb2 ho
        have hbD : b ≠ D := fun e => by
          have h4 : (L2.upd H p (.lst y)) b = some o := by rw [upd_ne hb2]; exact ho
          rw [e, nD] at h4
          cases h4
        rw [upd_ne hbD, upd_ne hb2]
        exact h3
      · rw [upd_ne hpD, upd_same]
    · rintro H1 ⟨ss, v, hD, hl, hss, hb, hv, hw⟩
      obtain ⟨jl, ja⟩ := join_ones hss
      refine ⟨"", D, ss, rfl, rfl, .inl (.of hD), ?_, ?_⟩
      · rw [sum_ones ss hss, show ("" : Str).length = 0 from rfl, Nat.mul_zero]
        omega
      generalize hz : Txt.join "" ss = z at jl ja
      have hzl : z.length = ss.length := jl
      have hn : 0 < z.length := by omega
      have hn2 : z.length ≤ 10 := by omega
      refine ⟨.ref p, rfl, p, 2, v, _, rfl, hv, hw, by omega, by decide, size_ok (by decide) (by decide), fun d2 y2 g0 g1 w2 => ?_⟩
      refine ⟨rfl, _, rfl, ite2 (fun e => ?_) (fun e => ?_)⟩
      · refine ⟨.ref p, rfl, .str z, rfl, z, rfl, line_of (by omega), p, _, y2, _, rfl, upd_same, w2, by omega, by omega, size_ok (by omega) (by omega), fun d3 y3 f0 f1 w3 => ?_⟩
        refine ⟨.str z, rfl, .int d3, rfl, d3, rfl, z, rfl, line_of (by omega), ?_⟩
        refine ⟨.ref p, rfl, .str "abcdefghijklmnopqrstuvwxyz", rfl, _, _, rfl, rfl, by decide +kernel, p, _, y3, _, rfl, upd_same, w3, by omega, by decide +kernel, by decide +kernel, hs3, fun c y4 l4 w4 => ?_⟩
        have lc := cutS_length z none (some d3)
        have lc2 := cutS_length z (some (d3 + 1)) none
        refine ⟨_, _, rfl, rfl, ?_, .str z, rfl, .int d3, rfl, d3, 1, rfl, rfl, d3 + 1, rfl, z, rfl, line_of (by omega), _, _, rfl, rfl, ?_, ?_⟩
        · show (cutS z none (some d3)).length + 1 ≤ sizeLine
          exact line_of (by omega)
        · rw [len_app]
          show (cutS z none (some d3)).length + 1 + (cutS z (some (d3 + 1)) none).length ≤ sizeLine
          exact line_of (by omega)
        · refine ⟨_, rfl, ?_⟩
          rw [upd_upd, upd_upd]
          refine q _ y4 _ ?_ (asc_app (asc_app (asc_cut ja _ _) (asc_one l4)) (asc_cut ja _ _)) (hb.upd _) upd_same (w4.mono (by omega))
          rw [len_app, len_app]
          show (cutS z none (some d3)).length + 1 + (cutS z (some (d3 + 1)) none).length ≤ 40
          omega
      · exact ⟨_, rfl, q z y2 _ (by omega) ja (hb.upd _) upd_same (w2.mono (by omega))⟩

/-! ### names and whole numbers -/
/-- a sign from a to z, as both defs compare it -/
def lowB (c : Nat) : Bool := if (!decide ((⟨#[c]⟩ : Str).cps.toList < ("a" : Str).cps.toList)) = true then (!decide (("z" : Str).cps.toList < (⟨#[c]⟩ : Str).cps.toList)) else false
def nameB (z : Str) : Bool := if decide ((1 : Int) ≤ z.length) = true then (if decide ((z.length : Int) ≤ 8) = true then (z.cps.toList.map lowB).all id else false) else false
theorem take_more {α : Type} : ∀ {l : List α} {i : Nat} {x : α}, l[i]? = some x → l.take (i + 1) = l.take i ++ [x]
  | [], i, x, h => by simp at h
  | a :: l, 0, x, h => by
    have e : a = x := Option.some.inj h
    subst e
    rfl
  | a :: l, i + 1, x, h => by
    have ih := take_more (l := l) (i := i) (x := x) h
    show a :: l.take (i + 1) = a :: l.take i ++ [x]
    rw [ih]
    rfl
theorem dpAll_strs {H : Hp} : ∀ cs : List Nat, DpAll K H (cs.map fun c => V.str ⟨#[c]⟩) (cs.map fun c => PyData.str ⟨#[c]⟩)
  | [] => .nil
  | c :: r => .cons (.str _) (dpAll_strs r)
theorem lay_strs : ∀ cs : List Nat, (∀ c ∈ cs, c < 200) → PyData.canLayAll0 (cs.map fun c => PyData.str ⟨#[c]⟩) = true
  | [], _ => rfl
  | c :: r, h => by
    have hc := h c List.mem_cons_self
    rw [List.map_cons, PyData.canLayAll0, lay_strs r fun d hd => h d (List.mem_cons_of_mem _ hd), Bool.and_true, PyData.canLay0]
    show (#[c] : Array Nat).all (fun x => decide (x < 0x110000)) = true
    simp
    omega
theorem depth_strs : ∀ cs : List Nat, PyData.depthAll (cs.map fun c => PyData.str ⟨#[c]⟩) = 0
  | [] => rfl
  | c :: r => by
    rw [List.map_cons, PyData.depthAll, depth_strs r]
    rfl
theorem shaped_strs (cs : List Nat) (h : ∀ c ∈ cs, c < 200) : SeqAt.shaped (.list (cs.map fun c => PyData.str ⟨#[c]⟩)) = true := by
  unfold SeqAt.shaped
  rw [PyData.canLay0, lay_strs cs h, PyData.depth, depth_strs]
  rfl
theorem eqv_nil (cs : List Nat) : PyData.eqv (.list (cs.map fun c => PyData.str ⟨#[c]⟩)) (.list []) = cs.isEmpty := by
  cases cs with
  | nil => rfl
  | cons c r => rfl
theorem filt_all (cs : List Nat) : (cs.filter fun c => !lowB c).isEmpty = (cs.map lowB).all id := by
  induction cs with
  | nil => rfl
  | cons c r ih =>
    cases e : lowB c with
    | true => simp [e, ih]
    | false => simp [e]
def sp_law_is_name : Sp := fun vs H Q _ => ∃ z : Str, vs = [.str z] ∧ z.length ≤ 1000 ∧ Asc z ∧ ∀ H', Same H H' → Q (.bl (nameB z)) H'
theorem ok_law_is_name (T : Txt K mg) : FnOk P w K mg base CX0 1 T.f_law_is_name T.fd_law_is_name ["_law_text_here"] sp_law_is_name := by
  refine T.F_law_is_name.ok sc_law_is_name (fun vs H Q E h => ?_) (fun cdv A outer s H vs Q E hr h => ?_)
  · obtain ⟨z, rfl, _⟩ := h
    rfl
  · obtain ⟨z, rfl, hz, ha, q⟩ := h
    refine ⟨_, (pss_cons
 (ps_setLc (i := 1) (own := [("_law_sign", 2)]) (g := gName 2) rfl sc_law_is_name.nd rfl rfl (sw_true rfl rfl rfl (by decide +kernel)) (pi_str (pv 0)) (blkOk_by (own := [("_law_sign", 2)]) (N := ["_law_text_here", "_law_strange", "_law_sign"]) (sc := defScope s_law_is_name) (by decide +kernel)) (fun _ _ _ _ _ => pg_name (i := 2) sc_law_is_name.nd rfl (Or.inl rfl)) (fun _ _ _ _ _ => (pts_one (pt_not (pt_chain op_le_str op_le_str pe_str (pv 2) pe_str)))) (fun _ _ _ _ _ => (pv 2)))
 (pss_one
 (ps_ret (pe_and (pe_cmpR (op_eqD hr.units) (pv 1) (pe_lst pa_nil) (nomark _)) (pe_one (pe_chain op_le op_le pe_int (pe_callB call_len_str (by rfl) T.z_len (by decide +kernel) (pa_cons (pv 0) pa_nil)) pe_int)))))), ?_⟩
    refine ⟨.str z, rfl, z, rfl, fun D nD => ?_⟩
    refine lc_it walk_str (fun i H' => Same H H' ∧ H' D = some (.lst (((z.cps.toList.take i).filter fun c => !lowB c).map fun c => V.str ⟨#[c]⟩))) ⟨same_upd nD, upd_same⟩ (fun _ _ _ _ => trivial) ?_ ?_
    · rintro i x H1 H2 hi ⟨s1, e1⟩ ⟨rfl, c, hc, rfl⟩
      have hc2 : z.cps.toList[i]? = some c := by rw [Array.getElem?_toList]; exact hc
      have et := take_more hc2
      refine ⟨rfl, .str ⟨#[c]⟩, rfl, _, _, rfl, rfl, _, rfl, ?_⟩
      have hacc : (((z.cps.toList.take i).filter fun c => !lowB c).map fun c => V.str ⟨#[c]⟩).length < sizeLine := by
        rw [List.length_map]
        refine small1000 (Nat.le_trans (List.length_filter_le _ _) ?_)
        rw [List.length_take, ← len_cps]
        omega
      have keep : lowB c = false → ∃ acc, H2 D = some (.lst acc) ∧ acc.length < sizeLine ∧ Same H (upd H2 D (.lst (acc ++ [V.str ⟨#[c]⟩]))) ∧ (upd H2 D (.lst (acc ++ [V.str ⟨#[c]⟩]))) D = some (.lst (((z.cps.toList.take (i + 1)).filter fun c => !lowB c).map fun c => V.str ⟨#[c]⟩)) := fun e => by
        refine ⟨_, e1, hacc, same_mut s1 nD, ?_⟩
        rw [upd_same, et, List.filter_append, List.map_append]
        simp [e]
      have drop : lowB c = true → Same H H2 ∧ H2 D = some (.lst (((z.cps.toList.take (i + 1)).filter fun c => !lowB c).map fun c => V.str ⟨#[c]⟩)) := fun e => by
        refine ⟨s1, ?_⟩
        rw [e1, et, List.filter_append]
        simp [e]
      refine ite2 (fun e => ?_) (fun e => ?_)
      · refine ⟨_, _, rfl, rfl, _, rfl, ?_⟩
        have el : lowB c = !decide (("z" : Str).cps.toList < (⟨#[c]⟩ : Str).cps.toList) := if_pos e
        refine ite2 (fun e2 => ?_) (fun e2 => ?_)
        · exact ⟨.str ⟨#[c]⟩, rfl, keep (by rw [el]; simpa using e2)⟩
        · exact drop (by rw [el]; simpa using e2)
      · have el : lowB c = false := if_neg e
        exact ⟨_, rfl, .str ⟨#[c]⟩, rfl, keep el⟩
    · rintro H1 ⟨s1, e1⟩
      have et : z.cps.toList.take z.cps.size = z.cps.toList := List.take_of_length_le (by simp)
      rw [et] at e1
      refine ⟨.ref D, rfl, Nat.zero_le _, fun l nl => ?_⟩
      have hlD : D ≠ l := ne_of_none e1 nl
      have s2 : Same H (upd H1 l (.lst [])) := s1.trans (same_upd nl)
      refine ⟨_, _, .lst (.of (by rw [upd_ne hlD]; exact e1)) (dpAll_strs _), .lst (.of upd_same) .nil, shaped_strs _ (fun c hc => ha c (List.mem_filter.mp hc).1), rfl, _, rfl, ?_⟩
      rw [eqv_nil, filt_all]
      have hf : ∀ b, b = nameB z → Q (.bl b) (upd H1 l (.lst [])) := fun b e => by rw [e]; exact q _ s2
      cases eb : (z.cps.toList.map lowB).all id with
      | false =>
        refine iteF (hf false ?_)
        unfold nameB
        rw [eb]
        simp
      | true =>
        refine iteT ?_
        refine ⟨.str z, rfl, z, rfl, line_of hz, 1, _, rfl, rfl, _, rfl, ite2 (fun e => ?_) (fun e => ?_)⟩
        · refine ⟨_, 8, rfl, rfl, hf _ ?_⟩
          unfold nameB
          rw [eb, if_pos e]
          cases decide ((z.length : Int) ≤ 8) <;> rfl
        · refine hf _ ?_
          unfold nameB
          rw [if_neg e]
theorem kit_tt {a : String} {t : Value} {u : Value} {r : Bool} (h : PySem.W.kitOne K t u = some r) : PySem.W.kitOne K t u = some r := h
/-- is_whole: by what isinstance tells -/
def sp_is_whole (K : PySem.W.Frag) : Sp := fun vs H Q _ => ∃ (x : V) (t : Value) (b1 b2 : Bool), vs = [x] ∧ TyX K H x t ∧ PySem.W.kitOne K t (.type "int") = some b1 ∧ PySem.W.kitOne K t (.type "bool") = some b2 ∧ Q (.bl (if b1 = true then !b2 else false)) H
theorem ok_is_whole (T : Txt K mg) : FnOk P w K mg base CX0 1 T.f_is_whole T.fd_is_whole ["thing"] (sp_is_whole K) := by
  refine T.F_is_whole.ok sc_is_whole (fun vs H Q E h => ?_) (fun cdv A outer s H vs Q E hr h => ?_)
  · obtain ⟨x, t, b1, b2, rfl, _⟩ := h
    rfl
  · obtain ⟨x, t, b1, b2, rfl, ht, h1, h2, q⟩ := h
    refine ⟨_, (pss_one
 (ps_ret (pe_and (pe_callB call_isi (by rfl) T.z_isinstance (by decide +kernel) (pa_cons (pv 0) (pa_cons (pe_bltn (v := .ty "int") (u := .type "int") rfl T.z_int (by decide +kernel) rfl) pa_nil))) (pe_one (pe_not (pe_callB call_isi (by rfl) T.z_isinstance (by decide +kernel) (pa_cons (pv 0) (pa_cons (pe_bltn (v := .ty "bool") (u := .type "bool") rfl T.z_bool (by decide +kernel) rfl) pa_nil)))))))), ?_⟩
    refine ⟨x, rfl, x, _, t, _, b1, rfl, .ty _, ht, h1, b1, rfl, ?_⟩
    cases b1 with
    | false => exact iteF q
    | true => exact iteT ⟨x, rfl, x, _, t, _, b2, rfl, .ty _, ht, h2, b2, rfl, q⟩
def sp_is_name (K : PySem.W.Frag) : Sp := fun vs H Q _ => (∃ z : Str, vs = [.str z] ∧ z.length ≤ sizeLine ∧ ∀ H', Same H H' → Q (.bl (nameB z)) H') ∨
  ∃ (x : V) (t : Value), vs = [x] ∧ TyX K H x t ∧ PySem.W.kitOne K t (.type "str") = some false ∧ Q (.bl false) H
theorem ok_is_name (T : Txt K mg) : FnOk P w K mg base CX0 1 T.f_is_name T.fd_is_name ["thing"] (sp_is_name K) := by
  refine T.F_is_name.ok sc_is_name (fun vs H Q E h => ?_) (fun cdv A outer s H vs Q E hr h => ?_)
  · rcases h with ⟨z, rfl, _⟩ | ⟨x, t, rfl, _⟩ <;> rfl
  · refine ⟨_, (pss_cons
 (ps_if (pt_not (pt_val (pe_callB call_isi (by rfl) T.z_isinstance (by decide +kernel) (pa_cons (pv 0) (pa_cons (pe_bltn (v := .ty "str") (u := .type "str") rfl T.z_str (by decide +kernel) rfl) pa_nil)))))
 (pss_one
 (ps_ret pe_bl))
 pss_nil)
 (pss_cons
 (ps_if (pt_not (pt_chain op_le op_le pe_int (pe_callB call_len_str (by rfl) T.z_len (by decide +kernel) (pa_cons (pv 0) pa_nil)) (pe_glob (v := .int 8) rfl T.c_LONGEST_NAME ⟨_, rfl⟩)))
 (pss_one
 (ps_ret pe_bl))
 pss_nil)
 (pss_one
 (ps_ret (pe_callB (cr_all rfl) (by rfl) T.z_all (by decide +kernel) (pa_cons (pe_lc (own := [("sign", 1)]) (g := gName 1) (tt := tYes) rfl sc_is_name.nd (pi_str (pv 0)) (blkOk_by (own := [("sign", 1)]) (N := ["thing", "sign"]) (sc := defScope s_is_name) (by decide +kernel)) (fun _ _ _ _ _ => pg_name (i := 1) sc_is_name.nd rfl (Or.inl rfl)) (fun _ _ _ _ _ => pts_nil) (fun _ _ _ _ _ => (pe_chain op_le_str op_le_str pe_str (pv 1) pe_str))) pa_nil)))))), ?_⟩
    rcases h with ⟨z, rfl, hz, q⟩ | ⟨x, t, rfl, ht, h1, q⟩
    · refine ⟨.str z, rfl, .str z, _, _, _, true, rfl, .ty _, .base (.str z), kit_ty (by decide +kernel), true, rfl, iteF ?_⟩
      refine ⟨.str z, rfl, z, rfl, hz, 1, _, rfl, rfl, _, rfl, ?_⟩
      have hf : ∀ b H', Same H H' → b = nameB z → Q (.bl b) H' := fun b H' s e => by rw [e]; exact q _ s
      refine ite2 (fun e => ?_) (fun e => ?_)
      · refine ⟨_, 8, rfl, rfl, _, rfl, ?_⟩
        show if (!decide ((z.length : Int) ≤ 8)) = true then _ else _
        cases e8 : decide ((z.length : Int) ≤ 8) with
        | false =>
          refine iteT (hf _ _ (Same.refl H) ?_)
          unfold nameB
          rw [if_pos e, e8]
          rfl
        | true =>
          refine iteF ?_
          have l8 := of_decide_eq_true e8
          refine ⟨.str z, rfl, z, rfl, fun D nD => ?_⟩
          refine lc_it walk_str (fun i H' => Same H H' ∧ H' D = some (.lst (((z.cps.toList.take i).map lowB).map V.bl))) ⟨same_upd nD, upd_same⟩ (fun _ _ _ _ => trivial) ?_ ?_
          · rintro i x H1 H2 hi ⟨s1, e1⟩ ⟨rfl, c, hc, rfl⟩
            have hc2 : z.cps.toList[i]? = some c := by rw [Array.getElem?_toList]; exact hc
            have et := take_more hc2
            have fin : ∀ b, b = lowB c → ∃ acc, H2 D = some (.lst acc) ∧ acc.length < sizeLine ∧ Same H (upd H2 D (.lst (acc ++ [V.bl b]))) ∧ (upd H2 D (.lst (acc ++ [V.bl b]))) D = some (.lst (((z.cps.toList.take (i + 1)).map lowB).map V.bl)) := fun b e => by
              refine ⟨_, e1, ?_, same_mut s1 nD, ?_⟩
              · rw [List.length_map, List.length_map, List.length_take]
                rw [len_cps] at l8
                exact small1000 (by omega)
              · rw [upd_same, et, List.map_append, List.map_append, e]
                rfl
            refine ⟨rfl, .str ⟨#[c]⟩, rfl, _, _, rfl, rfl, _, rfl, ite2 (fun e => ?_) (fun e => ?_)⟩
            · exact ⟨_, _, rfl, rfl, fin _ (if_pos e).symm⟩
            · exact fin _ (if_neg e).symm
          · rintro H1 ⟨s1, e1⟩
            have et : z.cps.toList.take z.cps.size = z.cps.toList := List.take_of_length_le (by simp)
            rw [et] at e1
            refine ⟨D, _, rfl, .of e1, hf _ _ s1 ?_⟩
            unfold nameB
            rw [if_pos e, e8, if_pos rfl]
      · refine ⟨_, rfl, iteT (hf _ _ (Same.refl H) ?_)⟩
        unfold nameB
        rw [if_neg e]
    · exact ⟨x, rfl, x, _, t, _, false, rfl, .ty _, ht, h1, false, rfl, iteT q⟩

/-! ### the law -/
/-- the things of the last loop -/
def OddV (H : Hp) (x : V) : Prop := (∃ b, x = .bl b) ∨ x = .non ∨ (∃ a xs, x = .ref a ∧ H a = some (.tup xs)) ∨ (∃ a xs, x = .ref a ∧ H a = some (.lst xs)) ∨ (∃ a kvs, x = .ref a ∧ H a = some (.dK kvs)) ∨ ∃ z : Str, x = .str z ∧ z.length ≤ sizeLine
theorem OddV.mono {H H' : Hp} {x : V} (s : Same H H') (h : OddV H x) : OddV H' x := by
  rcases h with h | h | ⟨a, xs, e, h⟩ | ⟨a, xs, e, h⟩ | ⟨a, xs, e, h⟩ | h
  · exact .inl h
  · exact .inr (.inl h)
  · exact .inr (.inr (.inl ⟨a, xs, e, s _ _ h⟩))
  · exact .inr (.inr (.inr (.inl ⟨a, xs, e, s _ _ h⟩)))
  · exact .inr (.inr (.inr (.inr (.inl ⟨a, xs, e, s _ _ h⟩))))
  · exact .inr (.inr (.inr (.inr (.inr h))))
/-- what isinstance tells of them -/
theorem OddV.kit {H : Hp} {x : V} (h : OddV H x) : ∃ (t : Value) (b1 b2 b3 : Bool), TyX K H x t ∧ PySem.W.kitOne K t (.type "int") = some b1 ∧ PySem.W.kitOne K t (.type "bool") = some b2 ∧ PySem.W.kitOne K t (.type "str") = some b3 ∧
    (if b1 = true then !b2 else false) = false ∧ (b3 = false ∨ (b3 = true ∧ ∃ z : Str, x = .str z ∧ z.length ≤ sizeLine)) := by
  rcases h with ⟨b, rfl⟩ | rfl | ⟨a, xs, rfl, h⟩ | ⟨a, xs, rfl, h⟩ | ⟨a, xs, rfl, h⟩ | ⟨z, rfl, h⟩
  · exact ⟨_, true, true, false, .base (.bl b), kit_ty (by decide +kernel), kit_ty (by decide +kernel), kit_ty (by decide +kernel), rfl, .inl rfl⟩
  · exact ⟨_, false, false, false, .base .non, kit_ty (by decide +kernel), kit_ty (by decide +kernel), kit_ty (by decide +kernel), rfl, .inl rfl⟩
  · exact ⟨_, false, false, false, .base (.tup h), kit_ty (by decide +kernel), kit_ty (by decide +kernel), kit_ty (by decide +kernel), rfl, .inl rfl⟩
  · exact ⟨_, false, false, false, .base (.lst h), kit_ty (by decide +kernel), kit_ty (by decide +kernel), kit_ty (by decide +kernel), rfl, .inl rfl⟩
  · exact ⟨_, false, false, false, .base (.dK h), kit_ty (by decide +kernel), kit_ty (by decide +kernel), kit_ty (by decide +kernel), rfl, .inl rfl⟩
  · exact ⟨_, false, false, true, .base (.str z), kit_ty (by decide +kernel), kit_ty (by decide +kernel), kit_ty (by decide +kernel), rfl, .inr ⟨rfl, z, rfl, h⟩⟩
theorem cut_ints (ns : List Int) (lo hi : Option Int) : ∃ ms : List Int, cutV (ns.map V.int) lo hi = ms.map V.int ∧ ms.length ≤ ns.length := by
  refine ⟨(ns.drop (HT.sIx (ns.map V.int).length 0 lo)).take (HT.sIx (ns.map V.int).length (ns.map V.int).length hi - HT.sIx (ns.map V.int).length 0 lo), ?_, ?_⟩
  · unfold cutV
    rw [← List.map_drop, ← List.map_take]
  · rw [List.length_take, List.length_drop]
    omega
theorem log_ok {n : Int} (h : n.natAbs ≤ 10 ^ 61) : n.natAbs.log2 < 1920 := by
  have h2 : n.natAbs < 2 ^ 1920 := Nat.lt_of_le_of_lt h (by decide +kernel)
  exact PySem.Flt.log2_lt_of (by decide) h2
/-- the seven places of law's frame, the script at a -/
def Fr7 (a : Addr) (σ : L2.St) : Prop := ∃ y1 y2 y3 y4 y5 y6 : Option V, σ = [some (.ref a), y1, y2, y3, y4, y5, y6]
def sp_law (K : PySem.W.Frag) : Sp := fun vs H Q _ => ∃ (a : Addr) (ns : List Int), vs = [.ref a] ∧ SqL K H a (ns.map V.int) ∧ ns.length ≤ 63 ∧ ∀ H', Q (.bl true) H'
theorem ok_law (T : Txt K mg) : FnOk P w K mg base CX0 4 T.f_law T.fd_law ["_law_script"] (sp_law K) := by
  refine T.F_law.ok sc_law (fun vs H Q E h => ?_) (fun cdv A outer s H vs Q E hr h => ?_)
  · obtain ⟨a, ns, rfl, _⟩ := h
    rfl
  · obtain ⟨a, ns, rfl, hS, hlen, q⟩ := h
    refine ⟨_, (pss_cons
 (ps_for PassesOwn.never rfl (pi_list (pe_op op_cat (pe_lst (pa_cons (pe_call (ok_law_cell_at T) (hr.mono (by decide)) (by rfl) T.g_law_cell_at T.F_law_cell_at.kp T.b_law_cell_at .nil pass0 (pa_cons (pv 0) (pa_cons pe_int pa_nil))) pa_nil)) (pe_slice sl_list (pv 0) (po_some pe_int) (po_some pe_int)))) (pg_name (i := 1) sc_law.nd rfl (Or.inl rfl))
 (pss_cons
 (ps_set (i := 2) sc_law.nd rfl (Or.inl rfl) (pe_call (ok_law_well T) (hr.mono (by decide)) (by rfl) T.g_law_well T.F_law_well.kp T.b_law_well .nil pass0 (pa_cons (pv 1) pa_nil)))
 (pss_cons
 (ps_for PassesOwn.never rfl (pi_list (pe_lst (pa_cons (pe_call (ok_law_text T) (hr.mono (by decide)) (by rfl) T.g_law_text T.F_law_text.kp T.b_law_text .nil pass0 (pa_cons (pv 2) pa_nil)) (pa_cons (pe_call (ok_law_good T) (hr.mono (by decide)) (by rfl) T.g_law_good T.F_law_good.kp T.b_law_good .nil pass0 (pa_cons (pv 2) pa_nil)) pa_nil)))) (pg_name (i := 3) sc_law.nd rfl (Or.inl rfl))
 (pss_one
 (ps_if (PW.pt (pw_or (pt_cmpR op_ne (pe_call (ok_is_name T) (hr.mono (by decide)) (by rfl) T.g_is_name T.F_is_name.kp T.b_is_name .nil pass0 (pa_cons (pv 3) pa_nil)) (pe_call (ok_law_is_name T) (hr.mono (by decide)) (by rfl) T.g_law_is_name T.F_law_is_name.kp T.b_law_is_name .nil pass0 (pa_cons (pv 3) pa_nil)) (nomark _)) (pw_or (pt_not (pt_val (pe_callB call_isi (by rfl) T.z_isinstance (by decide +kernel) (pa_cons (pe_call (ok_is_name T) (hr.mono (by decide)) (by rfl) T.g_is_name T.F_is_name.kp T.b_is_name .nil pass0 (pa_cons (pv 3) pa_nil)) (pa_cons (pe_bltn (v := .ty "bool") (u := .type "bool") rfl T.z_bool (by decide +kernel) rfl) pa_nil))))) (pw_or1 (pt_val (pe_call (ok_is_whole T) (hr.mono (by decide)) (by rfl) T.g_is_whole T.F_is_whole.kp T.b_is_whole .nil pass0 (pa_cons (pv 3) pa_nil)))))))
 (pss_one
 (ps_ret pe_bl))
 pss_nil)))
 (pss_cons
 (ps_set (i := 4) sc_law.nd rfl (Or.inl rfl) (pe_op op_sub (pe_op op_mod (pv 1) (pe_op op_pow pe_int pe_int)) (pe_op op_pow pe_int pe_int)))
 (pss_cons
 (ps_set (i := 5) sc_law.nd rfl (Or.inl rfl) (pe_ix ix_list (pe_lst (pa_cons (pe_op op_sub (pe_call (ok_law_draw T) (hr.mono (by decide)) (by rfl) T.g_law_draw T.F_law_draw.kp T.b_law_draw .nil pass0 (pa_cons (pv 2) (pa_cons pe_int pa_nil))) pe_int) (pa_cons (pe_op op_sub (pe_call (ok_law_draw T) (hr.mono (by decide)) (by rfl) T.g_law_draw T.F_law_draw.kp T.b_law_draw .nil pass0 (pa_cons (pv 2) (pa_cons (pe_op op_mulW pe_int (pe_op op_pow pe_int pe_int)) pa_nil))) (pe_op op_pow pe_int pe_int)) (pa_cons (pv 4) pa_nil)))) (pe_call (ok_law_draw T) (hr.mono (by decide)) (by rfl) T.g_law_draw T.F_law_draw.kp T.b_law_draw .nil pass0 (pa_cons (pv 2) (pa_cons pe_int pa_nil))) (fun _ _ => rfl)))
 (pss_cons
 (ps_if (PW.pt (pw_or (pt_cmpR op_notBl (pe_call (ok_is_whole T) (hr.mono (by decide)) (by rfl) T.g_is_whole T.F_is_whole.kp T.b_is_whole .nil pass0 (pa_cons (pv 5) pa_nil)) pe_bl (nomark _)) (pw_or1 (pt_val (pe_call (ok_is_name T) (hr.mono (by decide)) (by rfl) T.g_is_name T.F_is_name.kp T.b_is_name .nil pass0 (pa_cons (pv 5) pa_nil))))))
 (pss_one
 (ps_ret pe_bl))
 pss_nil)
 (pss_one
 (ps_for PassesOwn.never rfl (pi_list (pe_lst (pa_cons pe_bl (pa_cons pe_bl (pa_cons pe_non (pa_cons (pe_tup pa_nil) (pa_cons (pe_tup (pa_cons pe_str pa_nil)) (pa_cons (pe_lst (pa_cons pe_str pa_nil)) (pa_cons pe_dnewK (pa_cons (pe_tup (pa_cons pe_int pa_nil)) (pa_cons (pe_lst (pa_cons (pv 5) pa_nil)) (pa_cons (pe_tup (pa_cons (pv 5) pa_nil)) (pa_cons (pe_callTy call_str_int (by rfl) T.z_str (by decide +kernel) (pa_cons (pv 5) pa_nil)) pa_nil))))))))))))) (pg_name (i := 6) sc_law.nd rfl (Or.inl rfl))
 (pss_one
 (ps_if (PW.pt (pw_or (pt_cmpR op_notBl (pe_call (ok_is_whole T) (hr.mono (by decide)) (by rfl) T.g_is_whole T.F_is_whole.kp T.b_is_whole .nil pass0 (pa_cons (pv 6) pa_nil)) pe_bl (nomark _)) (pw_or1 (PW.pt (pw_and (pt_val (pe_call (ok_is_name T) (hr.mono (by decide)) (by rfl) T.g_is_name T.F_is_name.kp T.b_is_name .nil pass0 (pa_cons (pv 6) pa_nil))) (pw_and1 (pt_not (pt_val (pe_callB call_isi (by rfl) T.z_isinstance (by decide +kernel) (pa_cons (pv 6) (pa_cons (pe_bltn (v := .ty "str") (u := .type "str") rfl T.z_str (by decide +kernel) rfl) pa_nil)))))))))))
 (pss_one
 (ps_ret pe_bl))
 pss_nil))))))))))
 (pss_one
 (ps_ret pe_bl))), ?_⟩
    -- [cell] + script[1:30]
    refine ⟨.ref a, rfl, a, ns, rfl, hS, hlen, fun z => ?_⟩
    refine ⟨line_of (show 1 ≤ 1000 by decide), fun l1 n1 => ?_⟩
    have s1 : Same H (upd H l1 (.lst [V.int z])) := same_upd n1
    obtain ⟨ms, em, lm⟩ := cut_ints ns (some 1) (some 30)
    refine ⟨.ref a, rfl, 1, rfl, 30, rfl, a, _, rfl, s1.seq hS, fun l2 n2 => ?_⟩
    rw [em]
    have hl12 : l1 ≠ l2 := fun e => by rw [← e, upd_same] at n2; cases n2
    refine ⟨l1, l2, _, _, rfl, rfl, (by rw [upd_ne hl12, upd_same]), upd_same, ?_, fun l3 n3 => ?_⟩
    · rw [List.length_map]
      exact line_of (show 1 + ms.length ≤ 1000 by omega)
    have e3 : ([V.int z] ++ ms.map V.int) = (z :: ms).map V.int := rfl
    rw [e3]
    generalize hH0 : upd (upd (upd H l1 (.lst [V.int z])) l2 (.lst (ms.map V.int))) l3 (.lst ((z :: ms).map V.int)) = H0
    have h3 : H0 l3 = some (.lst ((z :: ms).map V.int)) := by rw [← hH0, upd_same]
    refine ⟨l3, rfl, ⟨_, .of h3⟩, for_list (K := K) (a := l3) (xs := (z :: ms).map V.int) (fun _ σ H' => Fr7 a σ ∧ Same H0 H') ⟨⟨none, none, none, none, none, none, rfl⟩, Same.refl _⟩ (fun _ _ _ _ h => .of (h.2 _ _ h3)) ?_ ?_⟩
    · rintro i x σ H1 hi ⟨⟨y1, y2, y3, y4, y5, y6, rfl⟩, s2⟩
      obtain ⟨n, rfl⟩ : ∃ n, x = V.int n := by
        rw [List.getElem?_map] at hi
        cases e : (z :: ms)[i]? with
        | none => rw [e] at hi; cases hi
        | some n => rw [e] at hi; exact ⟨n, (Option.some.inj hi).symm⟩
      -- the well
      refine ⟨.int n, rfl, n, rfl, fun p x H2 np s3 hp hx => ?_⟩
      have np0 : H0 p = none := s2.free np
      have s4 : Same H0 H2 := s2.trans s3
      -- both texts
      refine ⟨.ref p, rfl, p, x, 0, rfl, hp, hx, by decide, fun z1 w1 H3 lz1 az1 b1 hp1 hw1 => ?_⟩
      refine ⟨.ref p, rfl, p, w1, 100, rfl, hp1, hw1, by decide, fun z2 w2 H4 lz2 az2 b2 hp2 hw2 => ?_⟩
      refine ⟨line_of (show 2 ≤ 1000 by decide), fun t nt => ?_⟩
      have hpt : p ≠ t := ne_of_none hp2 nt
      have s5 : Same H0 (upd H4 t (.lst [V.str z1, V.str z2])) := (But.ext s4 np0 (b1.trans b2)).trans (same_upd nt)
      generalize hH5 : upd H4 t (.lst [V.str z1, V.str z2]) = H5 at s5
      have ht : H5 t = some (.lst [V.str z1, V.str z2]) := by rw [← hH5, upd_same]
      have hp5 : H5 p = some (.lst w2) := by rw [← hH5, upd_ne hpt]; exact hp2
      refine ⟨t, rfl, ⟨_, .of ht⟩, for_list (K := K) (a := t) (xs := [V.str z1, V.str z2]) (fun _ σ H' => (∃ y3 y4 y5 y6, σ = [some (.ref a), some (.int n), some (.ref p), y3, y4, y5, y6]) ∧ Same H5 H') ⟨⟨_, _, _, _, rfl⟩, Same.refl _⟩ (fun _ _ _ _ h => .of (h.2 _ _ ht)) ?_ ?_⟩
      · rintro j y σ H6 hj ⟨⟨y3, y4, y5, y6, rfl⟩, s6⟩
        obtain ⟨z, rfl, lz, az⟩ : ∃ z : Str, y = V.str z ∧ z.length ≤ 1000 ∧ Asc z := by
          rcases j with _ | _ | j
          · exact ⟨z1, (Option.some.inj hj).symm, by omega, az1⟩
          · exact ⟨z2, (Option.some.inj hj).symm, by omega, az2⟩
          · simp at hj
        refine ⟨.str z, rfl, .inl ⟨z, rfl, line_of lz, fun H7 s7 => ?_⟩⟩
        refine ⟨.str z, rfl, z, rfl, lz, az, fun H8 s8 => ?_⟩
        refine ⟨rfl, _, rfl, iteNS rfl ?_⟩
        refine ⟨.str z, rfl, .inl ⟨z, rfl, line_of lz, fun H9 s9 => ?_⟩⟩
        refine ⟨.bl (nameB z), _, _, _, true, rfl, .ty _, .base (.bl _), kit_ty (by decide +kernel), true, rfl, iteF ?_⟩
        refine ⟨.str z, rfl, .str z, _, false, false, rfl, .base (.str z), kit_ty (by decide +kernel), kit_ty (by decide +kernel), false, rfl, iteF ?_⟩
        exact ⟨⟨_, _, _, _, rfl⟩, ((s6.trans s7).trans s8).trans s9⟩
      · rintro σ H6 ⟨⟨y3, y4, y5, y6, rfl⟩, s6⟩
        have hp6 := s6 _ _ hp5
        -- far
        refine ⟨.int n, rfl, 10, 60, rfl, rfl, ⟨by decide, by decide, by decide⟩, n, _, rfl, rfl, (by show (0 : Int) < 10 ^ 60; decide +kernel), 10, 59, rfl, rfl, ⟨by decide, by decide, by decide⟩, _, _, rfl, rfl, ?_⟩
        have hfar := mix_mod n (10 ^ 60) (by decide +kernel)
        -- whole
        refine ⟨.ref p, rfl, p, 9, w2, _, rfl, hp6, hw2, by decide, by decide, size_ok (by decide) (by decide), fun d1 v1 a1 a2 wv1 => ?_⟩
        refine ⟨d1, 4, rfl, rfl, ?_⟩
        refine ⟨.ref p, rfl, 10, 40, rfl, rfl, ⟨by decide, by decide, by decide⟩, 2, _, rfl, rfl, wide_mul (a := 64) (b := 200) (by decide) (by decide +kernel) (by decide) (by decide) (by decide), p, _, v1, _, rfl, upd_same, wv1, by decide, (by show (0 : Int) < 2 * 10 ^ 40; decide +kernel), (by show (2 * 10 ^ 40 : Int).natAbs < 2 ^ 8000; decide +kernel), fun d2 v2 a3 a4 wv2 => ?_⟩
        have a4' : d2 < 2 * 10 ^ 40 := a4
        refine ⟨10, 40, rfl, rfl, ⟨by decide, by decide, by decide⟩, d2, _, rfl, rfl, ?_⟩
        rw [upd_upd]
        refine ⟨_, rfl, line_of (show 3 ≤ 1000 by decide), fun u nu => ?_⟩
        have hpu : p ≠ u := fun e => by rw [← e, upd_same] at nu; cases nu
        refine ⟨.ref p, rfl, p, 3, v2, _, rfl, by rw [upd_ne hpu, upd_same], wv2, by decide, by decide, size_ok (by decide) (by decide), fun d3 v3 a5 a6 wv3 => ?_⟩
        obtain ⟨v, hv, m, rfl, hm⟩ := three (V.int (d1 - 4)) (V.int (d2 - 10 ^ 40)) (V.int (n % 10 ^ 60 - 10 ^ 59)) a5 a6 (Pr := fun v => ∃ m, v = V.int m ∧ m.natAbs ≤ 10 ^ 61) ⟨_, rfl, by omega⟩ ⟨_, rfl, by omega⟩ ⟨_, rfl, by omega⟩
        refine ⟨u, _, d3, _, rfl, rfl, .of (by rw [upd_ne hpu.symm, upd_same]; rfl), hv, ?_⟩
        have s7 : Same H0 (upd (upd (upd H6 p (.lst v2)) u (.lst [V.int (d1 - 4), V.int (d2 - 10 ^ 40), V.int (n % 10 ^ 60 - 10 ^ 59)])) p (.lst v3)) := But.ext (s5.trans s6) np0 (((But.refl p H6).upd _).new nu _ |>.upd _)
        -- if is_whole(whole) is not True or is_name(whole)
        refine ⟨.int m, rfl, .int m, _, true, false, rfl, .base (.int m), kit_ty (by decide +kernel), kit_ty (by decide +kernel), true, true, rfl, rfl, _, rfl, iteNS rfl ?_⟩
        refine ⟨.int m, rfl, .inr ⟨.int m, _, rfl, .base (.int m), kit_ty (by decide +kernel), false, rfl, iteF ?_⟩⟩
        -- the odd things
        refine ⟨Nat.zero_le _, fun o1 k1 => ?_⟩
        have q1 := same_upd (o := HO.tup []) k1
        refine ⟨line_of (show 1 ≤ 1000 by decide), fun o2 k2 => ?_⟩
        have q2 := same_upd (o := HO.tup [V.str "a"]) k2
        refine ⟨line_of (show 1 ≤ 1000 by decide), fun o3 k3 => ?_⟩
        have q3 := same_upd (o := HO.lst [V.str "a"]) k3
        refine fun o4 k4 => ?_
        have q4 := same_upd (o := HO.dK []) k4
        refine ⟨line_of (show 1 ≤ 1000 by decide), fun o5 k5 => ?_⟩
        have q5 := same_upd (o := HO.tup [V.int 1]) k5
        refine ⟨.int m, rfl, line_of (show 1 ≤ 1000 by decide), fun o6 k6 => ?_⟩
        have q6 := same_upd (o := HO.lst [V.int m]) k6
        refine ⟨.int m, rfl, line_of (show 1 ≤ 1000 by decide), fun o7 k7 => ?_⟩
        have q7 := same_upd (o := HO.tup [V.int m]) k7
        refine ⟨.int m, rfl, m, rfl, log_ok hm, line_of (show 11 ≤ 1000 by decide), fun o8 k8 => ?_⟩
        have q8 := same_upd (o := HO.lst [V.bl true, V.bl false, V.non, V.ref o1, V.ref o2, V.ref o3, V.ref o4, V.ref o5, V.ref o6, V.ref o7, V.str (Str.ofString (toString m))]) k8
        have z8 : Same H0 _ := ((((((((s7.trans q1).trans q2).trans q3).trans q4).trans q5).trans q6).trans q7).trans q8)
        have hall : ∀ y ∈ [V.bl true, V.bl false, V.non, V.ref o1, V.ref o2, V.ref o3, V.ref o4, V.ref o5, V.ref o6, V.ref o7, V.str (Str.ofString (toString m))], OddV _ y :=
          List.forall_mem_cons.mpr ⟨.inl ⟨_, rfl⟩, List.forall_mem_cons.mpr ⟨.inl ⟨_, rfl⟩, List.forall_mem_cons.mpr ⟨.inr (.inl rfl), List.forall_mem_cons.mpr ⟨OddV.mono (q2.trans (q3.trans (q4.trans (q5.trans (q6.trans (q7.trans q8)))))) (.inr (.inr (.inl ⟨o1, _, rfl, upd_same⟩))),
            List.forall_mem_cons.mpr ⟨OddV.mono (q3.trans (q4.trans (q5.trans (q6.trans (q7.trans q8))))) (.inr (.inr (.inl ⟨o2, _, rfl, upd_same⟩))), List.forall_mem_cons.mpr ⟨OddV.mono (q4.trans (q5.trans (q6.trans (q7.trans q8)))) (.inr (.inr (.inr (.inl ⟨o3, _, rfl, upd_same⟩)))),
            List.forall_mem_cons.mpr ⟨OddV.mono (q5.trans (q6.trans (q7.trans q8))) (.inr (.inr (.inr (.inr (.inl ⟨o4, _, rfl, upd_same⟩))))), List.forall_mem_cons.mpr ⟨OddV.mono (q6.trans (q7.trans q8)) (.inr (.inr (.inl ⟨o5, _, rfl, upd_same⟩))),
            List.forall_mem_cons.mpr ⟨OddV.mono (q7.trans q8) (.inr (.inr (.inr (.inl ⟨o6, _, rfl, upd_same⟩)))), List.forall_mem_cons.mpr ⟨OddV.mono q8 (.inr (.inr (.inl ⟨o7, _, rfl, upd_same⟩))),
            List.forall_mem_cons.mpr ⟨.inr (.inr (.inr (.inr (.inr ⟨_, rfl, PySem.int_text_fits (log_ok hm)⟩)))), fun _ h => (by cases h)⟩⟩⟩⟩⟩⟩⟩⟩⟩⟩⟩
        refine ⟨o8, rfl, ⟨_, .of upd_same⟩, for_list (K := K) (a := o8) (xs := [V.bl true, V.bl false, V.non, V.ref o1, V.ref o2, V.ref o3, V.ref o4, V.ref o5, V.ref o6, V.ref o7, V.str (Str.ofString (toString m))]) (fun _ σ H' => Fr7 a σ ∧ Same _ H') ⟨⟨_, _, _, _, _, _, rfl⟩, Same.refl _⟩ (fun _ _ _ _ h => .of (h.2 _ _ upd_same)) ?_ ?_⟩
        · rintro j y σ H8 hj ⟨⟨x1, x2, x3, x4, x5, x6, rfl⟩, s8⟩
          obtain ⟨t1, c1, c2, c3, ht1, g1, g2, g3, hf, h3⟩ := OddV.kit (K := K) ((hall y (List.mem_of_getElem? hj)).mono s8)
          refine ⟨y, rfl, y, t1, c1, c2, rfl, ht1, g1, g2, _, _, rfl, rfl, _, rfl, iteNS hf ?_⟩
          rcases h3 with rfl | ⟨rfl, z, rfl, lz⟩
          · exact ⟨y, rfl, .inr ⟨y, t1, rfl, ht1, g3, false, rfl, iteF (iteF ⟨⟨_, _, _, _, _, _, rfl⟩, s8⟩)⟩⟩
          · refine ⟨.str z, rfl, .inl ⟨z, rfl, lz, fun H9 s9 => ⟨_, rfl, ?_⟩⟩⟩
            cases nameB z with
            | false => exact iteF (iteF ⟨⟨_, _, _, _, _, _, rfl⟩, s8.trans s9⟩)
            | true => exact iteT ⟨.str z, rfl, .str z, _, _, _, true, rfl, .ty _, .base (.str z), kit_ty (by decide +kernel), true, rfl, iteF ⟨⟨_, _, _, _, _, _, rfl⟩, s8.trans s9⟩⟩
        · rintro σ H8 ⟨⟨x1, x2, x3, x4, x5, x6, rfl⟩, s8⟩
          exact ⟨⟨_, _, _, _, _, _, rfl⟩, z8.trans s8⟩
    · rintro σ H1 ⟨⟨y1, y2, y3, y4, y5, y6, rfl⟩, s2⟩
      exact q H1
end
/-! ### what the top leaves, and the end -/
theorem all_mk {l : PySem.W.OpenLaw} {w : World} {K : PySem.W.Frag} {h : Heap} {mg : Str → Option Value} {fa : Addr} (X : K.In h) (G : h.Ns mainGlobals mg) (hfa : mg "law" = some (.ref fa))
    {f_law_cell_at : Addr} {od_law_cell_at an_law_cell_at : Option Addr} {sl_law_cell_at : Array (Option Value)} {oc_law_cell_at kV_law_cell_at dc_law_cell_at pm_law_cell_at cd_law_cell_at ct_law_cell_at : Value}
    (a_law_cell_at : PySem.W.nsIn K mainGlobals "_law_cell_at" = some (some (.ref f_law_cell_at)))
    (l_law_cell_at : K.lookup f_law_cell_at = some ⟨oc_law_cell_at, od_law_cell_at, .func (PySem.W.fnOf "_law_cell_at" "_law_cell_at" (defArgs s_law_cell_at) (defBody s_law_cell_at) (defScope s_law_cell_at) .none kV_law_cell_at dc_law_cell_at pm_law_cell_at an_law_cell_at cd_law_cell_at ct_law_cell_at), sl_law_cell_at⟩)
    (c_law_cell_at : PySem.W.codeIn K cd_law_cell_at "_law_cell_at" = true) (k_law_cell_at : PySem.W.keepIn K (.ref f_law_cell_at) = true)
    {f_law_well : Addr} {od_law_well an_law_well : Option Addr} {sl_law_well : Array (Option Value)} {oc_law_well kV_law_well dc_law_well pm_law_well cd_law_well ct_law_well : Value}
    (a_law_well : PySem.W.nsIn K mainGlobals "_law_well" = some (some (.ref f_law_well)))
    (l_law_well : K.lookup f_law_well = some ⟨oc_law_well, od_law_well, .func (PySem.W.fnOf "_law_well" "_law_well" (defArgs s_law_well) (defBody s_law_well) (defScope s_law_well) .none kV_law_well dc_law_well pm_law_well an_law_well cd_law_well ct_law_well), sl_law_well⟩)
    (c_law_well : PySem.W.codeIn K cd_law_well "_law_well" = true) (k_law_well : PySem.W.keepIn K (.ref f_law_well) = true)
    {f_law_draw : Addr} {od_law_draw an_law_draw : Option Addr} {sl_law_draw : Array (Option Value)} {oc_law_draw kV_law_draw dc_law_draw pm_law_draw cd_law_draw ct_law_draw : Value}
    (a_law_draw : PySem.W.nsIn K mainGlobals "_law_draw" = some (some (.ref f_law_draw)))
    (l_law_draw : K.lookup f_law_draw = some ⟨oc_law_draw, od_law_draw, .func (PySem.W.fnOf "_law_draw" "_law_draw" (defArgs s_law_draw) (defBody s_law_draw) (defScope s_law_draw) .none kV_law_draw dc_law_draw pm_law_draw an_law_draw cd_law_draw ct_law_draw), sl_law_draw⟩)
    (c_law_draw : PySem.W.codeIn K cd_law_draw "_law_draw" = true) (k_law_draw : PySem.W.keepIn K (.ref f_law_draw) = true)
    {f_law_one : Addr} {od_law_one an_law_one : Option Addr} {sl_law_one : Array (Option Value)} {oc_law_one kV_law_one dc_law_one pm_law_one cd_law_one ct_law_one : Value}
    (a_law_one : PySem.W.nsIn K mainGlobals "_law_one" = some (some (.ref f_law_one)))
    (l_law_one : K.lookup f_law_one = some ⟨oc_law_one, od_law_one, .func (PySem.W.fnOf "_law_one" "_law_one" (defArgs s_law_one) (defBody s_law_one) (defScope s_law_one) .none kV_law_one dc_law_one pm_law_one an_law_one cd_law_one ct_law_one), sl_law_one⟩)
    (c_law_one : PySem.W.codeIn K cd_law_one "_law_one" = true) (k_law_one : PySem.W.keepIn K (.ref f_law_one) = true)
    {f_law_text : Addr} {od_law_text an_law_text : Option Addr} {sl_law_text : Array (Option Value)} {oc_law_text kV_law_text dc_law_text pm_law_text cd_law_text ct_law_text : Value}
    (a_law_text : PySem.W.nsIn K mainGlobals "_law_text" = some (some (.ref f_law_text)))
    (l_law_text : K.lookup f_law_text = some ⟨oc_law_text, od_law_text, .func (PySem.W.fnOf "_law_text" "_law_text" (defArgs s_law_text) (defBody s_law_text) (defScope s_law_text) .none kV_law_text dc_law_text pm_law_text an_law_text cd_law_text ct_law_text), sl_law_text⟩)
    (c_law_text : PySem.W.codeIn K cd_law_text "_law_text" = true) (k_law_text : PySem.W.keepIn K (.ref f_law_text) = true)
    {f_law_good : Addr} {od_law_good an_law_good : Option Addr} {sl_law_good : Array (Option Value)} {oc_law_good kV_law_good dc_law_good pm_law_good cd_law_good ct_law_good : Value}
    (a_law_good : PySem.W.nsIn K mainGlobals "_law_good" = some (some (.ref f_law_good)))
    (l_law_good : K.lookup f_law_good = some ⟨oc_law_good, od_law_good, .func (PySem.W.fnOf "_law_good" "_law_good" (defArgs s_law_good) (defBody s_law_good) (defScope s_law_good) .none kV_law_good dc_law_good pm_law_good an_law_good cd_law_good ct_law_good), sl_law_good⟩)
    (c_law_good : PySem.W.codeIn K cd_law_good "_law_good" = true) (k_law_good : PySem.W.keepIn K (.ref f_law_good) = true)
    {f_law_is_name : Addr} {od_law_is_name an_law_is_name : Option Addr} {sl_law_is_name : Array (Option Value)} {oc_law_is_name kV_law_is_name dc_law_is_name pm_law_is_name cd_law_is_name ct_law_is_name : Value}
    (a_law_is_name : PySem.W.nsIn K mainGlobals "_law_is_name" = some (some (.ref f_law_is_name)))
    (l_law_is_name : K.lookup f_law_is_name = some ⟨oc_law_is_name, od_law_is_name, .func (PySem.W.fnOf "_law_is_name" "_law_is_name" (defArgs s_law_is_name) (defBody s_law_is_name) (defScope s_law_is_name) .none kV_law_is_name dc_law_is_name pm_law_is_name an_law_is_name cd_law_is_name ct_law_is_name), sl_law_is_name⟩)
    (c_law_is_name : PySem.W.codeIn K cd_law_is_name "_law_is_name" = true) (k_law_is_name : PySem.W.keepIn K (.ref f_law_is_name) = true)
    {f_is_whole : Addr} {od_is_whole an_is_whole : Option Addr} {sl_is_whole : Array (Option Value)} {oc_is_whole kV_is_whole dc_is_whole pm_is_whole cd_is_whole ct_is_whole : Value}
    (a_is_whole : PySem.W.nsIn K mainGlobals "is_whole" = some (some (.ref f_is_whole)))
    (l_is_whole : K.lookup f_is_whole = some ⟨oc_is_whole, od_is_whole, .func (PySem.W.fnOf "is_whole" "is_whole" (defArgs s_is_whole) (defBody s_is_whole) (defScope s_is_whole) .none kV_is_whole dc_is_whole pm_is_whole an_is_whole cd_is_whole ct_is_whole), sl_is_whole⟩)
    (c_is_whole : PySem.W.codeIn K cd_is_whole "is_whole" = true) (k_is_whole : PySem.W.keepIn K (.ref f_is_whole) = true)
    {f_is_name : Addr} {od_is_name an_is_name : Option Addr} {sl_is_name : Array (Option Value)} {oc_is_name kV_is_name dc_is_name pm_is_name cd_is_name ct_is_name : Value}
    (a_is_name : PySem.W.nsIn K mainGlobals "is_name" = some (some (.ref f_is_name)))
    (l_is_name : K.lookup f_is_name = some ⟨oc_is_name, od_is_name, .func (PySem.W.fnOf "is_name" "is_name" (defArgs s_is_name) (defBody s_is_name) (defScope s_is_name) .none kV_is_name dc_is_name pm_is_name an_is_name cd_is_name ct_is_name), sl_is_name⟩)
    (c_is_name : PySem.W.codeIn K cd_is_name "is_name" = true) (k_is_name : PySem.W.keepIn K (.ref f_is_name) = true)
    {f_law : Addr} {od_law an_law : Option Addr} {sl_law : Array (Option Value)} {oc_law kV_law dc_law pm_law cd_law ct_law : Value}
    (a_law : PySem.W.nsIn K mainGlobals "law" = some (some (.ref f_law)))
    (l_law : K.lookup f_law = some ⟨oc_law, od_law, .func (PySem.W.fnOf "law" "law" (defArgs s_law) (defBody s_law) (defScope s_law) .none kV_law dc_law pm_law an_law cd_law ct_law), sl_law⟩)
    (c_law : PySem.W.codeIn K cd_law "law" = true) (k_law : PySem.W.keepIn K (.ref f_law) = true)
    (z_len : PySem.W.nsIn K mainGlobals "len" = some none)
    (z_int : PySem.W.nsIn K mainGlobals "int" = some none)
    (z_range : PySem.W.nsIn K mainGlobals "range" = some none)
    (z_isinstance : PySem.W.nsIn K mainGlobals "isinstance" = some none)
    (z_bool : PySem.W.nsIn K mainGlobals "bool" = some none)
    (z_str : PySem.W.nsIn K mainGlobals "str" = some none)
    (z_all : PySem.W.nsIn K mainGlobals "all" = some none)
    {t_LONGEST_NAME : Tok} (cc_LONGEST_NAME : PySem.W.nsIn K mainGlobals "LONGEST_NAME" = some (some (.int 8 t_LONGEST_NAME)))
    : ∃ fd : FuncData, (∀ (s : Shared) (v : Value), BindsTo s fd ⟨[v], []⟩ [("_law_script", v)]) ∧ ∀ base : Heap, K.In base → base.Ns mainGlobals mg → FnOk l.prog w K mg base CX0 4 fa fd ["_law_script"] (sp_law K) := by
  have e := hfa.symm.trans (PySem.W.mg_of X G a_law)
  cases e
  have F_law_cell_at := fun_mk (st := s_law_cell_at) l_law_cell_at c_law_cell_at k_law_cell_at
  have b_law_cell_at := F_law_cell_at.binds (ps := ["_law_script", "_law_k"]) fun _ _ _ _ _ _ us hl => match us, hl with | [_, _], _ => rfl
  have F_law_well := fun_mk (st := s_law_well) l_law_well c_law_well k_law_well
  have b_law_well := F_law_well.binds (ps := ["_law_cell"]) fun _ _ _ _ _ _ us hl => match us, hl with | [_], _ => rfl
  have F_law_draw := fun_mk (st := s_law_draw) l_law_draw c_law_draw k_law_draw
  have b_law_draw := F_law_draw.binds (ps := ["_law_well_here", "_law_size"]) fun _ _ _ _ _ _ us hl => match us, hl with | [_, _], _ => rfl
  have F_law_one := fun_mk (st := s_law_one) l_law_one c_law_one k_law_one
  have b_law_one := F_law_one.binds (ps := ["_law_well_here", "_law_some"]) fun _ _ _ _ _ _ us hl => match us, hl with | [_, _], _ => rfl
  have F_law_text := fun_mk (st := s_law_text) l_law_text c_law_text k_law_text
  have b_law_text := F_law_text.binds (ps := ["_law_well_here"]) fun _ _ _ _ _ _ us hl => match us, hl with | [_], _ => rfl
  have F_law_good := fun_mk (st := s_law_good) l_law_good c_law_good k_law_good
  have b_law_good := F_law_good.binds (ps := ["_law_well_here"]) fun _ _ _ _ _ _ us hl => match us, hl with | [_], _ => rfl
  have F_law_is_name := fun_mk (st := s_law_is_name) l_law_is_name c_law_is_name k_law_is_name
  have b_law_is_name := F_law_is_name.binds (ps := ["_law_text_here"]) fun _ _ _ _ _ _ us hl => match us, hl with | [_], _ => rfl
  have F_is_whole := fun_mk (st := s_is_whole) l_is_whole c_is_whole k_is_whole
  have b_is_whole := F_is_whole.binds (ps := ["thing"]) fun _ _ _ _ _ _ us hl => match us, hl with | [_], _ => rfl
  have F_is_name := fun_mk (st := s_is_name) l_is_name c_is_name k_is_name
  have b_is_name := F_is_name.binds (ps := ["thing"]) fun _ _ _ _ _ _ us hl => match us, hl with | [_], _ => rfl
  have F_law := fun_mk (st := s_law) l_law c_law k_law
  have b_law := F_law.binds (ps := ["_law_script"]) fun _ _ _ _ _ _ us hl => match us, hl with | [_], _ => rfl
  let T : Txt K mg := {
    f_law_cell_at := _, fd_law_cell_at := _, F_law_cell_at := F_law_cell_at, b_law_cell_at := b_law_cell_at, g_law_cell_at := PySem.W.mg_of X G a_law_cell_at,
    f_law_well := _, fd_law_well := _, F_law_well := F_law_well, b_law_well := b_law_well, g_law_well := PySem.W.mg_of X G a_law_well,
    f_law_draw := _, fd_law_draw := _, F_law_draw := F_law_draw, b_law_draw := b_law_draw, g_law_draw := PySem.W.mg_of X G a_law_draw,
    f_law_one := _, fd_law_one := _, F_law_one := F_law_one, b_law_one := b_law_one, g_law_one := PySem.W.mg_of X G a_law_one,
    f_law_text := _, fd_law_text := _, F_law_text := F_law_text, b_law_text := b_law_text, g_law_text := PySem.W.mg_of X G a_law_text,
    f_law_good := _, fd_law_good := _, F_law_good := F_law_good, b_law_good := b_law_good, g_law_good := PySem.W.mg_of X G a_law_good,
    f_law_is_name := _, fd_law_is_name := _, F_law_is_name := F_law_is_name, b_law_is_name := b_law_is_name, g_law_is_name := PySem.W.mg_of X G a_law_is_name,
    f_is_whole := _, fd_is_whole := _, F_is_whole := F_is_whole, b_is_whole := b_is_whole, g_is_whole := PySem.W.mg_of X G a_is_whole,
    f_is_name := _, fd_is_name := _, F_is_name := F_is_name, b_is_name := b_is_name, g_is_name := PySem.W.mg_of X G a_is_name,
    f_law := _, fd_law := _, F_law := F_law, b_law := b_law, g_law := PySem.W.mg_of X G a_law,
    z_len := PySem.W.mg_none_of X G z_len,
    z_int := PySem.W.mg_none_of X G z_int,
    z_range := PySem.W.mg_none_of X G z_range,
    z_isinstance := PySem.W.mg_none_of X G z_isinstance,
    z_bool := PySem.W.mg_none_of X G z_bool,
    z_str := PySem.W.mg_none_of X G z_str,
    z_all := PySem.W.mg_none_of X G z_all,
    t_LONGEST_NAME := t_LONGEST_NAME, c_LONGEST_NAME := PySem.W.mg_of X G cc_LONGEST_NAME }
  exact ⟨PySem.W.fnOf "law" "law" (defArgs s_law) (defBody s_law) (defScope s_law) .none kV_law dc_law pm_law an_law cd_law ct_law, fun s v => .of_eq rfl, fun base _ _ => ok_law T⟩
end Own
open PySem PySem.W PyProof.Rows
set_option maxHeartbeats 0 in
theorem PySem.Challenge.cw_voicefold_k01_whole_numbers_and_names_holds : PySem.Challenge.rw_voicefold_k01_whole_numbers_and_names.Holds := by
  w_on; o_law; k_head; (case hw => w_witness2)
  k_fill
  refine L2.walk_of (l := PySem.Challenge.rw_voicefold_k01_whole_numbers_and_names) (n := 63) (k := 4) (x := "_law_script") (CX := fun _ => L2.CX0) (sp := fun w => Own.sp_law _) rfl (by decide) rfl ⟨rfl, by decide, by decide⟩ (fun w h Y => PySem.W.kIn_of Y) ?F (fun _ _ a ns hl _ hS => ⟨a, ns, rfl, hS, hl, fun _ => rfl⟩) (fun _ _ _ _ _ h => h)
  case F =>
    intro w mg fa h KX G hmg
    refine' Own.all_mk KX G hmg ?a_law_cell_at ?l_law_cell_at ?c_law_cell_at ?k_law_cell_at ?a_law_well ?l_law_well ?c_law_well ?k_law_well ?a_law_draw ?l_law_draw ?c_law_draw ?k_law_draw ?a_law_one ?l_law_one ?c_law_one ?k_law_one ?a_law_text ?l_law_text ?c_law_text ?k_law_text ?a_law_good ?l_law_good ?c_law_good ?k_law_good ?a_law_is_name ?l_law_is_name ?c_law_is_name ?k_law_is_name ?a_is_whole ?l_is_whole ?c_is_whole ?k_is_whole ?a_is_name ?l_is_name ?c_is_name ?k_is_name ?a_law ?l_law ?c_law ?k_law ?z_len ?z_int ?z_range ?z_isinstance ?z_bool ?z_str ?z_all ?cc_LONGEST_NAME
    (case a_law_cell_at => k_is); (case l_law_cell_at => k_is); (case c_law_cell_at => k_is); (case k_law_cell_at => k_is); (case a_law_well => k_is); (case l_law_well => k_is); (case c_law_well => k_is); (case k_law_well => k_is); (case a_law_draw => k_is); (case l_law_draw => k_is); (case c_law_draw => k_is); (case k_law_draw => k_is); (case a_law_one => k_is); (case l_law_one => k_is); (case c_law_one => k_is); (case k_law_one => k_is); (case a_law_text => k_is); (case l_law_text => k_is); (case c_law_text => k_is); (case k_law_text => k_is); (case a_law_good => k_is); (case l_law_good => k_is); (case c_law_good => k_is); (case k_law_good => k_is); (case a_law_is_name => k_is); (case l_law_is_name => k_is); (case c_law_is_name => k_is); (case k_law_is_name => k_is); (case a_is_whole => k_is); (case l_is_whole => k_is); (case c_is_whole => k_is); (case k_is_whole => k_is); (case a_is_name => k_is); (case l_is_name => k_is); (case c_is_name => k_is); (case k_is_name => k_is); (case a_law => k_is); (case l_law => k_is); (case c_law => k_is); (case k_law => k_is); (case z_len => k_is); (case z_int => k_is); (case z_range => k_is); (case z_isinstance => k_is); (case z_bool => k_is); (case z_str => k_is); (case z_all => k_is); (case cc_LONGEST_NAME => k_is)
