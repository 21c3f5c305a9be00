import PyProof.Rows.All
import Wide.All
import OpenK.AllK
import Wide.FinOn
import HandS.ForMost
import HandS.MakeKwOnly
import HandS.IsInst
import HandS.Conv
import HandS.SetFor
import HandS.Defaults
import PySem.Challenge.RW_counthall_k03_claim_arithmetic
set_option Elab.async false
set_option linter.all false
set_option maxRecDepth 100000
set_option maxHeartbeats 4000000
namespace My
open PySem L2

def top (i : Nat) : Stmt := PySem.Challenge.pw_counthall_k03_claim_arithmetic.main.body.getD i (.Pass ⟨0, 0, 0, 0⟩)
abbrev s_ClaimI__initI : Stmt := inClass (top 6) 0
abbrev s_Claim_holds : Stmt := inClass (top 6) 1
abbrev s_Claim_excess : Stmt := inClass (top 6) 2
abbrev s_Claim_turned : Stmt := inClass (top 6) 3
abbrev s_Claim_widened : Stmt := inClass (top 6) 4
abbrev s_Claim_parts : Stmt := inClass (top 6) 5
abbrev s_law_source : Stmt := top 8
abbrev s_law_draw : Stmt := top 9
abbrev s_law_whole : Stmt := top 10
abbrev s_law_levels : Stmt := top 11
abbrev s_law_clip : Stmt := top 12
abbrev s_law_bounds : Stmt := top 13
abbrev s_law_made_claim : Stmt := top 14
abbrev s_law_excess : Stmt := top 15
abbrev s_law_same : Stmt := top 16
abbrev s_law_rows : Stmt := top 17
abbrev s_law_stands : Stmt := top 18
abbrev s_law_wider : Stmt := top 19
abbrev s_law_turned : Stmt := top 20
abbrev s_law : Stmt := top 21
theorem sc_ClaimI__initI : FnScope ["self", "first", "second", "low", "high", "weight"] ["self", "first", "second", "low", "high", "weight"] (defScope s_ClaimI__initI) := ⟨rfl, rfl, rfl, by decide +kernel, rfl, by decide +kernel, by decide +kernel⟩
theorem sc_Claim_holds : FnScope ["self", "levels"] ["self", "levels"] (defScope s_Claim_holds) := ⟨rfl, rfl, rfl, by decide +kernel, rfl, by decide +kernel, by decide +kernel⟩
theorem sc_Claim_excess : FnScope ["self", "levels", "difference"] ["self", "levels"] (defScope s_Claim_excess) := ⟨rfl, rfl, rfl, by decide +kernel, rfl, by decide +kernel, by decide +kernel⟩
theorem sc_Claim_turned : FnScope ["self", "low", "high"] ["self"] (defScope s_Claim_turned) := ⟨rfl, rfl, rfl, by decide +kernel, rfl, by decide +kernel, by decide +kernel⟩
theorem sc_Claim_widened : FnScope ["self", "amount", "low", "high"] ["self", "amount"] (defScope s_Claim_widened) := ⟨rfl, rfl, rfl, by decide +kernel, rfl, by decide +kernel, by decide +kernel⟩
theorem sc_Claim_parts : FnScope ["self"] ["self"] (defScope s_Claim_parts) := ⟨rfl, rfl, rfl, by decide +kernel, rfl, by decide +kernel, by decide +kernel⟩
theorem sc_law_source : FnScope ["_law_script", "_law_place"] ["_law_script", "_law_place"] (defScope s_law_source) := ⟨rfl, rfl, rfl, by decide +kernel, rfl, by decide +kernel, by decide +kernel⟩
theorem sc_law_draw : FnScope ["_law_source_here", "_law_size", "_law_cell", "_law_mixed"] ["_law_source_here", "_law_size"] (defScope s_law_draw) := ⟨rfl, rfl, rfl, by decide +kernel, rfl, by decide +kernel, by decide +kernel⟩
theorem sc_law_whole : FnScope ["_law_actual"] ["_law_actual"] (defScope s_law_whole) := ⟨rfl, rfl, rfl, by decide +kernel, rfl, by decide +kernel, by decide +kernel⟩
theorem sc_law_levels : FnScope ["_law_source_here", "_law_many", "_law_shape", "_law_levels_here", "_law_index", "_law_level"] ["_law_source_here", "_law_many"] (defScope s_law_levels) := ⟨rfl, rfl, rfl, by decide +kernel, rfl, by decide +kernel, by decide +kernel⟩
theorem sc_law_clip : FnScope ["_law_number"] ["_law_number"] (defScope s_law_clip) := ⟨rfl, rfl, rfl, by decide +kernel, rfl, by decide +kernel, by decide +kernel⟩
theorem sc_law_bounds : FnScope ["_law_source_here", "_law_gap", "_law_wide", "_law_near", "_law_shape", "_law_bounds_here", "_law_sides"] ["_law_source_here", "_law_gap"] (defScope s_law_bounds) := ⟨rfl, rfl, rfl, by decide +kernel, rfl, by decide +kernel, by decide +kernel⟩
theorem sc_law_made_claim : FnScope ["_law_tell", "_law_left"] ["_law_tell", "_law_left"] (defScope s_law_made_claim) := ⟨rfl, rfl, rfl, by decide +kernel, rfl, by decide +kernel, by decide +kernel⟩
theorem sc_law_excess : FnScope ["_law_tell", "_law_levels_here", "_law_gap"] ["_law_tell", "_law_levels_here"] (defScope s_law_excess) := ⟨rfl, rfl, rfl, by decide +kernel, rfl, by decide +kernel, by decide +kernel⟩
theorem sc_law_same : FnScope ["_law_actual", "_law_tell", "_law_index"] ["_law_actual", "_law_tell"] (defScope s_law_same) := ⟨rfl, rfl, rfl, by decide +kernel, rfl, by decide +kernel, by decide +kernel⟩
theorem sc_law_rows : FnScope ["_law_tell", "_law_levels_here", "_law_rows_here", "_law_bound", "_law_move", "_law_row", "_law_level"] ["_law_tell", "_law_levels_here"] (defScope s_law_rows) := ⟨rfl, rfl, rfl, by decide +kernel, rfl, by decide +kernel, by decide +kernel⟩
theorem sc_law_stands : FnScope ["_law_claim", "_law_tell", "_law_rows_here", "_law_row", "_law_passed", "_law_excess_here", "_law_holds"] ["_law_claim", "_law_tell", "_law_rows_here"] (defScope s_law_stands) := ⟨rfl, rfl, rfl, by decide +kernel, rfl, by decide +kernel, by decide +kernel⟩
theorem sc_law_wider : FnScope ["_law_tell", "_law_amount", "_law_low", "_law_high"] ["_law_tell", "_law_amount"] (defScope s_law_wider) := ⟨rfl, rfl, rfl, by decide +kernel, rfl, by decide +kernel, by decide +kernel⟩
theorem sc_law_turned : FnScope ["_law_tell", "_law_low", "_law_high"] ["_law_tell"] (defScope s_law_turned) := ⟨rfl, rfl, rfl, by decide +kernel, rfl, by decide +kernel, by decide +kernel⟩
theorem sc_law : FnScope ["_law_script", "_law_source_here", "_law_size", "_law_first", "_law_second", "_law_mass", "_law_left", "_law_levels_here", "_law_bounds_here", "_law_tell", "_law_rows_here", "_law_claim", "_law_turned_here", "_law_excess_here", "_law_amounts", "_law_amount"] ["_law_script"] (defScope s_law) := ⟨rfl, rfl, rfl, by decide +kernel, rfl, by decide +kernel, by decide +kernel⟩
/-! ### sources and draws -/
/-- a source of draws: a list of two whole numbers -/
def Src (H : Hp) (a : Addr) : Prop := ∃ c p : Int, H a = some (.lst [.int c, .int p])
/-- the heap without the listed objects -/
def wo (S : List Addr) (H : Hp) : Hp := fun b => if b ∈ S then none else H b
theorem wo_out {S : List Addr} {H : Hp} {b : Addr} (h : b ∉ S) : wo S H b = H b := if_neg h
theorem wo_in {S : List Addr} {H : Hp} {b : Addr} (h : b ∈ S) : wo S H b = none := if_pos h
theorem wo_same (S : List Addr) (H : Hp) : Same (wo S H) H := fun b o e => by
  by_cases h : b ∈ S
  · rw [wo_in h] at e; cases e
  · rw [wo_out h] at e; exact e
theorem Same.wo {S : List Addr} {H H' : Hp} (s : Same H H') : Same (wo S H) (wo S H') := fun b o e => by
  by_cases h : b ∈ S
  · rw [wo_in h] at e; cases e
  · rw [wo_out h] at e ⊢; exact s b o e
/-- only the object at a may have changed -/
def But (a : Addr) (H H' : Hp) : Prop := ∀ b o, b ≠ a → H b = some o → H' b = some o
theorem But.wo {a : Addr} {S : List Addr} {H H' : Hp} (s : But a H H') (h : a ∈ S) : Same (wo S H) (wo S H') := fun b o e => by
  by_cases k : b ∈ S
  · rw [wo_in k] at e; cases e
  · rw [wo_out k] at e ⊢
    exact s b o (fun z => k (z ▸ h)) e
theorem But.upd {a : Addr} {o : HO} {H : Hp} : But a H (upd H a o) := fun b o e h => by rw [upd_ne e]; exact h
theorem But.trans {a : Addr} {H H1 H2 : Hp} (s : But a H H1) (t : But a H1 H2) : But a H H2 := fun b o e h => t b o e (s b o e h)
theorem But.refl (a : Addr) (H : Hp) : But a H H := fun _ _ _ h => h
theorem Same.but {a : Addr} {H H' : Hp} (s : Same H H') : But a H H' := fun b o _ h => s b o h
theorem Same.new {H : Hp} {p : Addr} {o : HO} (h : H p = none) : Same H (upd H p o) := fun b u e => by
  rw [upd_ne (ne_of_none e h)]; exact e
theorem But.new {a : Addr} {H : Hp} {p : Addr} {o : HO} (h : H p = none) : But a H (L2.upd H p o) := fun b u _ e => Same.new h b u e
theorem small6 {n : Nat} (h : n ≤ 100000) : n < sizeLine := Nat.lt_of_le_of_lt h (by decide)
theorem small6' {n : Nat} (h : n ≤ 100000) : n ≤ sizeLine := Nat.le_of_lt (small6 h)
theorem Src.at {H H' : Hp} {a b : Addr} (h : Src H a) (s : But b H H') (n : a ≠ b) : Src H' a := by
  obtain ⟨c, p, e⟩ := h
  exact ⟨c, p, s a _ n e⟩
theorem Src.same {H H' : Hp} {a : Addr} (h : Src H a) (s : Same H H') : Src H' a := by
  obtain ⟨c, p, e⟩ := h
  exact ⟨c, p, s a _ e⟩
theorem Src.ne {H : Hp} {a p : Addr} (h : Src H a) (n : H p = none) : p ≠ a := fun z => by
  obtain ⟨c, q, e⟩ := h
  rw [z, e] at n; cases n
def spSource (K : PySem.W.Frag) : Sp := fun vs H Q _ => ∃ (a : Addr) (ns : List Int) (p : Int), vs = [.ref a, .int p] ∧ SqL K H a (ns.map V.int) ∧ 0 ≤ p ∧
  ∀ l H', H l = none → Same H H' → Src H' l → Q (.ref l) H'
def spDraw : Sp := fun vs H Q _ => ∃ (a : Addr) (n : Int), vs = [.ref a, .int n] ∧ Src H a ∧ 0 < n ∧ n < 1073741824 ∧
  ∀ (r : Int) (H' : Hp), 0 ≤ r → r < n → Src H' a → But a H H' → Q (.int r) H'
def spWhole : Sp := fun vs H Q _ => (∃ i : Int, vs = [.int i] ∧ Q (.bl true) H)
theorem But.mut {a l : Addr} {o : HO} {H H' : Hp} (s : But a H H') (h : H l = none) : But a H (L2.upd H' l o) := fun b u nb e => by
  rw [upd_ne (ne_of_none e h)]; exact s b u nb e
theorem Src.set {a l : Addr} {o : HO} {H : Hp} (s : Src H a) (h : l ≠ a) : Src (L2.upd H l o) a := by
  obtain ⟨c, p, e⟩ := s
  exact ⟨c, p, by rw [upd_ne h.symm]; exact e⟩
theorem But.free {a l : Addr} {H H' : Hp} (s : But a H H') (h : H' l = none) (n : l ≠ a) : H l = none := by
  cases e : H l with
  | none => rfl
  | some o => rw [s l o n e] at h; cases h
/-- a new source joins -/
theorem wo_join {S : List Addr} {s : Addr} {H H' : Hp} (e : Same H H') (h : H s = none) : Same (wo S H) (wo (s :: S) H') := fun b o q => by
  have n : b ≠ s := fun z => by
    have q' := wo_same S H b o q
    rw [z, h] at q'; cases q'
  by_cases k : b ∈ S
  · rw [wo_in k] at q; cases q
  · rw [wo_out k] at q
    rw [wo_out (by simp [n, k])]; exact e b o q
theorem wo_join0 {s : Addr} {H H' : Hp} (e : Same H H') (h : H s = none) : Same H (wo [s] H') := fun b o q => wo_join (S := []) e h b o (by rw [wo_out (by simp)]; exact q)
theorem wo_drop {S : List Addr} {s : Addr} {H : Hp} : Same (wo (s :: S) H) (wo S H) := fun b o q => by
  by_cases k : b ∈ s :: S
  · rw [wo_in k] at q; cases q
  · rw [wo_out k] at q
    rw [wo_out (fun z => k (List.mem_cons_of_mem _ z))]; exact q

/-! ### cuts, tests -/
theorem cutS {t u : TS} {D : Ends} {σ : L2.St} {H : Hp} (M : L2.St → Hp → Prop) (hk : ∀ σ' H', M σ' H' → u D σ' H') (h : (∀ σ' H', M σ' H' → u D σ' H') → tSeq t u D σ H) : tSeq t u D σ H := h hk
def PuT (t : TT) (σ : L2.St) (H : Hp) (b : Bool) : Prop := ∀ Q : Bool → Hp → Prop, Q b H → t σ H Q
theorem put_and {t u : TT} {σ : L2.St} {H : Hp} {a b : Bool} (h1 : PuT t σ H a) (h2 : a = true → PuT u σ H b) : PuT (tAnd t u) σ H (a && b) := fun Q q => h1 _ (by
  cases a with
  | true => exact iteT (h2 rfl Q q)
  | false => exact iteF q)
theorem put_or {t u : TT} {σ : L2.St} {H : Hp} {a b : Bool} (h1 : PuT t σ H a) (h2 : a = false → PuT u σ H b) : PuT (tOr t u) σ H (a || b) := fun Q q => h1 _ (by
  cases a with
  | true => exact iteT q
  | false => exact iteF (h2 rfl Q q))
theorem put_not {t : TT} {σ : L2.St} {H : Hp} {a : Bool} (h1 : PuT t σ H a) : PuT (tNot t) σ H (!a) := fun Q q => h1 _ q
theorem put_is {t : TT} {σ : L2.St} {H : Hp} {a b : Bool} (h : PuT t σ H a) (e : a = b) : PuT t σ H b := e ▸ h
theorem ifS_of {c : TT} {t u : TS} {D : Ends} {σ : L2.St} {H : Hp} {b : Bool} (h : PuT c σ H b) (h1 : b = true → t D σ H) (h2 : b = false → u D σ H) : tIfS c t u D σ H := h _ (by
  cases b with
  | true => exact iteT (h1 rfl)
  | false => exact iteF (h2 rfl))
theorem ifE_of {c : TT} {ta tb : TE} {σ : L2.St} {H : Hp} {Q : VK} {b : Bool} (h : PuT c σ H b) (h1 : b = true → ta σ H Q) (h2 : b = false → tb σ H Q) : tIf c ta tb σ H Q := h _ (by
  cases b with
  | true => exact iteT (h1 rfl)
  | false => exact iteF (h2 rfl))
/-- an optional bound -/
def vo : Option Int → V
  | none => .non
  | some i => .int i
theorem vo_non (o : Option Int) : decide (vo o = .non) = o.isNone := by cases o <;> rfl
theorem nxt {F : L2.St → Hp → Prop} {r b c} {σ : L2.St} {H : Hp} (h : F σ H) : tNext { nx := F, rt := r, bk := b, ct := c } σ H := h
theorem nxe {F : L2.St → Hp → Prop} {r b c} {σ : L2.St} {H : Hp} (h : F σ H) : Ends.nx { nx := F, rt := r, bk := b, ct := c } σ H := h
theorem sqIf {c : TT} {t u r : TS} {D : Ends} {σ : L2.St} {H : Hp} {b : Bool} (h : PuT c σ H b) (h1 : b = true → t { D with nx := r D } σ H) (h2 : b = false → u { D with nx := r D } σ H) : tSeq (tIfS c t u) r D σ H := ifS_of h h1 h2
theorem asg {F : L2.St → Hp → Prop} {r b c} {i : Nat} {v : V} {σ : L2.St} {H : Hp} (h : F (σ.set i (some v)) H) : gName i v σ H (Ends.nx { nx := F, rt := r, bk := b, ct := c }) := h
/-- an item of a written list of whole numbers -/
theorem pick : ∀ (vs : List Int) (r : Int), 0 ≤ r → r < vs.length → ∃ v, v ∈ vs ∧ atI (vs.map V.int) r = some (.int v) := fun vs r h0 h1 => by
  obtain ⟨j, rfl⟩ := Int.eq_ofNat_of_zero_le h0
  have hj : j < vs.length := by omega
  exact ⟨vs[j], List.getElem_mem hj, atI_nat (by rw [List.getElem?_map, List.getElem?_eq_getElem hj]; rfl)⟩
theorem dec_int {a b : Int} : decide (V.int a = V.int b) = decide (a = b) := by
  by_cases h : a = b
  · rw [h, decide_eq_true rfl, decide_eq_true rfl]
  · rw [decide_eq_false h, decide_eq_false (fun z => h (V.int.inj z))]
theorem atI0 {xs : List V} {i : Nat} {v : V} (h : xs[i]? = some v) : atI xs (0 + (i : Int)) = some v := by rw [Int.zero_add]; exact atI_nat h
theorem kit_self {K : PySem.W.Frag} {C : Addr} : PySem.W.kitOne K (.ref C) (.ref C) = some true := by
  unfold PySem.W.kitOne
  rw [if_pos (by simp)]
theorem But.same {a : Addr} {H H' : Hp} (b : But a H H') (h : H a = none) : Same H H' := fun c o e => b c o (ne_of_none e h) e
theorem wo_new {H : Hp} {r : Addr} {o : HO} (h : H r = none) : Same H (wo [r] (L2.upd H r o)) := fun b u e => by
  have n : b ≠ r := ne_of_none e h
  rw [wo_out (by simpa using n), upd_ne n]; exact e
theorem wo_upd {H H3 : Hp} {r : Addr} {o : HO} (s : Same H H3) : Same (wo [r] H) (wo [r] (L2.upd H3 r o)) := fun b u e => by
  by_cases n : b = r
  · rw [n, wo_in (by simp)] at e; cases e
  · rw [wo_out (by simpa using n)] at e
    rw [wo_out (by simpa using n), upd_ne n]; exact s b u e
theorem ixN_j {n j : Nat} (h : j < n) : ixN n (j : Int) = some j := by
  unfold ixN
  rw [if_pos (by omega), if_pos (by omega)]
  simp
theorem dp_ints {K : PySem.W.Frag} {H : Hp} : ∀ ns : List Int, DpAll K H (ns.map V.int) (ns.map PyData.int)
  | [] => .nil
  | n :: ns => .cons (.int n) (dp_ints ns)
theorem canLay_ints : ∀ ns : List Int, PyData.canLayAll0 (ns.map PyData.int) = true
  | [] => by simp [PyData.canLayAll0]
  | n :: ns => by simp [PyData.canLayAll0, PyData.canLay0, canLay_ints ns]
theorem depth_ints : ∀ ns : List Int, PyData.depthAll (ns.map PyData.int) ≤ 1
  | [] => by simp [PyData.depthAll]
  | n :: ns => by
    have := depth_ints ns
    simp only [List.map_cons, PyData.depthAll, PyData.depth]
    omega
theorem shaped_ints (ns : List Int) : SeqAt.shaped (.list (ns.map PyData.int)) = true := by
  unfold SeqAt.shaped
  have h := depth_ints ns
  exact Bool.and_eq_true_iff.mpr ⟨by simp [PyData.canLay0, canLay_ints], decide_eq_true (by simp only [PyData.depth]; omega)⟩
theorem eqv_ints (ns : List Int) : PyData.eqv (.list (ns.map PyData.int)) (.list (ns.map PyData.int)) = true :=
  SeqAt.eqv_refl _ (SeqAt.canLay_of_shaped (shaped_ints ns))
theorem dp_list {K : PySem.W.Frag} {H : Hp} {a : Addr} {ns : List Int} (h : SqL K H a (ns.map V.int)) : Dp K H (.ref a) (.list (ns.map PyData.int)) := .lst h (dp_ints ns)
theorem yesT {σ : L2.St} {H : Hp} {A B : Bool → Hp → Prop} (h : A true H) : tYes σ H fun b H3 => if b = true then A b H3 else B b H3 := by
  show if true = true then A true H else B true H
  rw [if_pos rfl]; exact h

/-! ### claims -/
structure Tell where
  f : Nat
  s : Nat
  lo : Option Int
  hi : Option Int
  m : Int
def tv (t : Tell) : List V := [.int t.f, .int t.s, vo t.lo, vo t.hi, .int t.m]
structure Ok (t : Tell) : Prop where
  f : t.f ≤ 15
  s : t.s ≤ 15
  b : ∀ l h, t.lo = some l → t.hi = some h → l ≤ h
  m0 : 1 ≤ t.m
  m1 : t.m ≤ 99
def cf (t : Tell) : List (Str × V) := putF "weight" (.int t.m) (putF "high" (vo t.hi) (putF "low" (vo t.lo) (putF "second" (.int t.s) (putF "first" (.int t.f) []))))
def ClAt (C : Addr) (H : Hp) (p : Addr) (t : Tell) : Prop := ∃ dx, H p = some (.ins C dx (cf t))
theorem ClAt.keep {C p : Addr} {H H' : Hp} {t : Tell} (h : ClAt C H p t) (s : Same H H') : ClAt C H' p t := by
  obtain ⟨dx, e⟩ := h
  exact ⟨dx, s _ _ e⟩
theorem n_fs : ¬ (("first" : Str) = "second") := by decide +kernel
theorem n_fl : ¬ (("first" : Str) = "low") := by decide +kernel
theorem n_fh : ¬ (("first" : Str) = "high") := by decide +kernel
theorem n_fw : ¬ (("first" : Str) = "weight") := by decide +kernel
theorem n_sl : ¬ (("second" : Str) = "low") := by decide +kernel
theorem n_sh : ¬ (("second" : Str) = "high") := by decide +kernel
theorem n_sw : ¬ (("second" : Str) = "weight") := by decide +kernel
theorem n_lh : ¬ (("low" : Str) = "high") := by decide +kernel
theorem n_lw : ¬ (("low" : Str) = "weight") := by decide +kernel
theorem n_hw : ¬ (("high" : Str) = "weight") := by decide +kernel
theorem cf_f (t : Tell) : (cf t).lookup ("first" : Str) = some (.int t.f) := by
  unfold cf; rw [lookup_putF, if_neg n_fw, lookup_putF, if_neg n_fh, lookup_putF, if_neg n_fl, lookup_putF, if_neg n_fs, lookup_putF, if_pos rfl]
theorem cf_s (t : Tell) : (cf t).lookup ("second" : Str) = some (.int t.s) := by
  unfold cf; rw [lookup_putF, if_neg n_sw, lookup_putF, if_neg n_sh, lookup_putF, if_neg n_sl, lookup_putF, if_pos rfl]
theorem cf_l (t : Tell) : (cf t).lookup ("low" : Str) = some (vo t.lo) := by
  unfold cf; rw [lookup_putF, if_neg n_lw, lookup_putF, if_neg n_lh, lookup_putF, if_pos rfl]
theorem cf_h (t : Tell) : (cf t).lookup ("high" : Str) = some (vo t.hi) := by
  unfold cf; rw [lookup_putF, if_neg n_hw, lookup_putF, if_pos rfl]
theorem cf_w (t : Tell) : (cf t).lookup ("weight" : Str) = some (.int t.m) := by
  unfold cf; rw [lookup_putF, if_pos rfl]
theorem putF_len (f : Str) (v : V) : ∀ fs : List (Str × V), (putF f v fs).length ≤ fs.length + 1
  | [] => Nat.le_refl _
  | (g, x) :: r => by
    show (if g = f then (g, v) :: r else (g, x) :: putF f v r).length ≤ _
    split
    · exact Nat.le_succ _
    · exact Nat.succ_le_succ (putF_len f v r)
theorem few {f : Str} {v : V} {fs : List (Str × V)} {n : Nat} (h : fs.length ≤ n) : (putF f v fs).length ≤ n + 1 := Nat.le_trans (putF_len f v fs) (Nat.succ_le_succ h)
theorem cf_no (t : Tell) {m : Str} (h1 : ¬ m = "first") (h2 : ¬ m = "second") (h3 : ¬ m = "low") (h4 : ¬ m = "high") (h5 : ¬ m = "weight") : (cf t).lookup m = none := by
  unfold cf; rw [lookup_putF, if_neg h5, lookup_putF, if_neg h4, lookup_putF, if_neg h3, lookup_putF, if_neg h2, lookup_putF, if_neg h1]; rfl
/-- whole numbers in a list or a tuple -/
def SqE (K : PySem.W.Frag) (H : Hp) (a : Addr) (xs : List V) : Prop := SqL K H a xs ∨ SqT K H a xs
def exc (t : Tell) (x y : Int) : Int :=
  if (t.lo.elim false fun l => decide (y - x < l)) = true then t.lo.getD 0 - (y - x) else if (t.hi.elim false fun h => decide (h < y - x)) = true then (y - x) - t.hi.getD 0 else 0
def turn (t : Tell) : Tell := ⟨t.s, t.f, t.hi.map (- ·), t.lo.map (- ·), t.m⟩
def widen (t : Tell) (n : Int) : Tell := ⟨t.f, t.s, t.lo.map (· - n), t.hi.map (· + n), t.m⟩
theorem turn_ok {t : Tell} (h : Ok t) : Ok (turn t) := by
  refine ⟨h.s, h.f, fun l u e1 e2 => ?_, h.m0, h.m1⟩
  simp only [turn, Option.map_eq_some_iff] at e1 e2
  obtain ⟨a, ha, rfl⟩ := e1
  obtain ⟨b, hb, rfl⟩ := e2
  have := h.b b a hb ha
  omega
theorem widen_ok {t : Tell} {n : Int} (h : Ok t) (hn : 0 ≤ n) : Ok (widen t n) := by
  refine ⟨h.f, h.s, fun l u e1 e2 => ?_, h.m0, h.m1⟩
  simp only [widen, Option.map_eq_some_iff] at e1 e2
  obtain ⟨a, ha, rfl⟩ := e1
  obtain ⟨b, hb, rfl⟩ := e2
  have := h.b a b ha hb
  omega
def spInit (C : Addr) : Sp := fun vs H Q _ => ∃ (p dx : Addr) (t : Tell), vs = .ref p :: tv t ∧ Ok t ∧ H p = some (.ins C dx []) ∧ ∀ H', But p H H' → H' p = some (.ins C dx (cf t)) → Q .non H'
theorem SqE.keep {K : PySem.W.Frag} {H H' : Hp} {a : Addr} {xs : List V} (h : SqE K H a xs) (s : Same H H') : SqE K H' a xs := by
  rcases h with h | h
  · exact .inl (s.seq h)
  · rcases h with (h | ⟨o, h⟩) | h
    · exact .inr (.inl (.inl (s _ _ h)))
    · exact .inr (.inl (.inr ⟨o, s _ _ h⟩))
    · exact .inr (.inr h)
theorem SqT.keep {K : PySem.W.Frag} {H H' : Hp} {a : Addr} {xs : List V} (h : SqT K H a xs) (s : Same H H') : SqT K H' a xs := by
  rcases h with (h | ⟨o, h⟩) | h
  · exact .inl (.inl (s _ _ h))
  · exact .inl (.inr ⟨o, s _ _ h⟩)
  · exact .inr h
theorem ix_of {K : PySem.W.Frag} {H : Hp} {a : Addr} {xs : List V} {i : Int} {v : V} {Q : VK} (h : SqE K H a xs) (g : atI xs i = some v) (q : Q v H) : rIx K (.ref a) (.int i) H Q := by
  rcases h with h | h
  · exact .inl ⟨a, xs, i, v, rfl, rfl, h, g, q⟩
  · exact .inr (.inl ⟨a, xs, i, v, rfl, rfl, h, g, q⟩)
theorem atI_opt {ns : List Int} {j : Nat} {x : Int} (h : ns[j]? = some x) : atI (ns.map V.int) (j : Int) = some (.int x) := atI_nat (by rw [List.getElem?_map, h]; rfl)
def spExcess (K : PySem.W.Frag) (C : Addr) : Sp := fun vs H Q _ => ∃ (p a : Addr) (t : Tell) (ns : List Int) (x y : Int), vs = [.ref p, .ref a] ∧ ClAt C H p t ∧ SqE K H a (ns.map V.int) ∧ ns[t.f]? = some x ∧ ns[t.s]? = some y ∧ Q (.int (exc t x y)) H
def spHolds (K : PySem.W.Frag) (C : Addr) : Sp := fun vs H Q _ => ∃ (p a : Addr) (t : Tell) (ns : List Int) (x y : Int), vs = [.ref p, .ref a] ∧ ClAt C H p t ∧ SqE K H a (ns.map V.int) ∧ ns[t.f]? = some x ∧ ns[t.s]? = some y ∧ Q (.bl (decide (exc t x y = 0))) H
/-- a new claim -/
def NewCl (C : Addr) (t : Tell) (H : Hp) (Q : VK) : Prop := ∀ p H', H p = none → Same H H' → ClAt C H' p t → Q (.ref p) H'
def NewTup (xs : List V) (H : Hp) (Q : VK) : Prop := ∀ p H', H p = none → Same H H' → H' p = some (.tup xs) → Q (.ref p) H'
def spTurned (C : Addr) : Sp := fun vs H Q _ => ∃ (p : Addr) (t : Tell), vs = [.ref p] ∧ Ok t ∧ ClAt C H p t ∧ NewCl C (turn t) H Q
def spWidened (C : Addr) : Sp := fun vs H Q _ => ∃ (p : Addr) (t : Tell) (n : Int), vs = [.ref p, .int n] ∧ Ok t ∧ 0 ≤ n ∧ ClAt C H p t ∧ NewCl C (widen t n) H Q
def spParts (C : Addr) : Sp := fun vs H Q _ => ∃ (p : Addr) (t : Tell), vs = [.ref p] ∧ ClAt C H p t ∧ NewTup (tv t) H Q
theorem tv_at (t : Tell) : ∀ i, i < 5 → ∃ o : Option Int, (tv t)[i]? = some (vo o)
  | 0, _ => ⟨some t.f, rfl⟩
  | 1, _ => ⟨some t.s, rfl⟩
  | 2, _ => ⟨t.lo, rfl⟩
  | 3, _ => ⟨t.hi, rfl⟩
  | 4, _ => ⟨some t.m, rfl⟩
theorem no_holds (t : Tell) : (cf t).lookup ("holds" : Str) = none := cf_no t (by decide +kernel) (by decide +kernel) (by decide +kernel) (by decide +kernel) (by decide +kernel)
theorem no_excess (t : Tell) : (cf t).lookup ("excess" : Str) = none := cf_no t (by decide +kernel) (by decide +kernel) (by decide +kernel) (by decide +kernel) (by decide +kernel)
theorem no_turned (t : Tell) : (cf t).lookup ("turned" : Str) = none := cf_no t (by decide +kernel) (by decide +kernel) (by decide +kernel) (by decide +kernel) (by decide +kernel)
theorem no_widened (t : Tell) : (cf t).lookup ("widened" : Str) = none := cf_no t (by decide +kernel) (by decide +kernel) (by decide +kernel) (by decide +kernel) (by decide +kernel)
theorem no_parts (t : Tell) : (cf t).lookup ("parts" : Str) = none := cf_no t (by decide +kernel) (by decide +kernel) (by decide +kernel) (by decide +kernel) (by decide +kernel)
theorem exc_cases (t : Tell) (x y : Int) : exc t x y = match t.lo, t.hi with
    | none, none => 0
    | some l, none => if y - x < l then l - (y - x) else 0
    | none, some h => if h < y - x then (y - x) - h else 0
    | some l, some h => if y - x < l then l - (y - x) else if h < y - x then (y - x) - h else 0 := by
  unfold exc
  cases hl : t.lo <;> cases hh : t.hi <;> simp
theorem exc_nonneg (t : Tell) (x y : Int) : 0 ≤ exc t x y := by
  rw [exc_cases]
  cases t.lo <;> cases t.hi <;> simp only <;> (repeat' split) <;> omega
theorem exc_widen {t : Tell} {n : Int} (hn : 0 ≤ n) (x y : Int) (ok : Ok t) : exc (widen t n) x y = if exc t x y ≤ n then 0 else exc t x y - n := by
  rw [exc_cases, exc_cases]
  have hb := ok.b
  obtain ⟨f, s, lo, hi, m⟩ := t
  cases lo with
  | none =>
    cases hi with
    | none => simp [widen]; omega
    | some h => simp only [widen, Option.map]; (repeat' split) <;> omega
  | some l =>
    cases hi with
    | none => simp only [widen, Option.map]; (repeat' split) <;> omega
    | some h =>
      have := hb l h rfl rfl
      simp only [widen, Option.map]; (repeat' split) <;> omega
theorem exc_turn {t : Tell} (x y : Int) (ok : Ok t) : exc (turn t) y x = exc t x y := by
  rw [exc_cases, exc_cases]
  have hb := ok.b
  obtain ⟨f, s, lo, hi, m⟩ := t
  cases lo with
  | none =>
    cases hi with
    | none => simp [turn]
    | some h => simp only [turn, Option.map]; (repeat' split) <;> omega
  | some l =>
    cases hi with
    | none => simp only [turn, Option.map]; (repeat' split) <;> omega
    | some h =>
      have := hb l h rfl rfl
      simp only [turn, Option.map]; (repeat' split) <;> omega
theorem turn_turn (t : Tell) : turn (turn t) = t := by
  obtain ⟨f, s, lo, hi, m⟩ := t
  cases lo <;> cases hi <;> simp [turn]
theorem made {C x dx : Addr} {H H' : Hp} {t : Tell} (nx : H x = none) (ndx : H dx = none) (nex : dx ≠ x) (b : But x (upd (upd H dx (.own x)) x (.ins C dx [])) H') (e : H' x = some (.ins C dx (cf t))) : Same H H' ∧ ClAt C H' x t :=
  ⟨fun c o hc => b c o (ne_of_none hc nx) (by rw [upd_ne (ne_of_none hc nx), upd_ne (ne_of_none hc ndx)]; exact hc), dx, e⟩
theorem two_new {x dx : Addr} {o u : HO} {H : Hp} (nx : H x = none) (ndx : H dx = none) (nex : dx ≠ x) : Same H (upd (upd H dx u) x o) := fun b v e => by
  rw [upd_ne (ne_of_none e nx), upd_ne (ne_of_none e ndx)]
  exact e

structure Txt (P : Program) (K : PySem.W.Frag) (mg : Str → Option Value) where
  a_ClaimI__initI : Addr
  d_ClaimI__initI : FuncData
  F_ClaimI__initI : FunD K "__init__" "Claim.__init__" (defArgs s_ClaimI__initI) (defBody s_ClaimI__initI) (defScope s_ClaimI__initI) [.non, .non] [("weight", .int 1)] a_ClaimI__initI d_ClaimI__initI
  a_Claim_holds : Addr
  d_Claim_holds : FuncData
  F_Claim_holds : Fun K "holds" "Claim.holds" s_Claim_holds a_Claim_holds d_Claim_holds
  b_Claim_holds : Binds K d_Claim_holds ["self", "levels"] []
  a_Claim_excess : Addr
  d_Claim_excess : FuncData
  F_Claim_excess : Fun K "excess" "Claim.excess" s_Claim_excess a_Claim_excess d_Claim_excess
  b_Claim_excess : Binds K d_Claim_excess ["self", "levels"] []
  a_Claim_turned : Addr
  d_Claim_turned : FuncData
  F_Claim_turned : Fun K "turned" "Claim.turned" s_Claim_turned a_Claim_turned d_Claim_turned
  b_Claim_turned : Binds K d_Claim_turned ["self"] []
  a_Claim_widened : Addr
  d_Claim_widened : FuncData
  F_Claim_widened : Fun K "widened" "Claim.widened" s_Claim_widened a_Claim_widened d_Claim_widened
  b_Claim_widened : Binds K d_Claim_widened ["self", "amount"] []
  a_Claim_parts : Addr
  d_Claim_parts : FuncData
  F_Claim_parts : Fun K "parts" "Claim.parts" s_Claim_parts a_Claim_parts d_Claim_parts
  b_Claim_parts : Binds K d_Claim_parts ["self"] []
  a_law_source : Addr
  d_law_source : FuncData
  F_law_source : Fun K "_law_source" "_law_source" s_law_source a_law_source d_law_source
  b_law_source : Binds K d_law_source ["_law_script", "_law_place"] []
  m_law_source : mg "_law_source" = some (.ref a_law_source)
  a_law_draw : Addr
  d_law_draw : FuncData
  F_law_draw : Fun K "_law_draw" "_law_draw" s_law_draw a_law_draw d_law_draw
  b_law_draw : Binds K d_law_draw ["_law_source_here", "_law_size"] []
  m_law_draw : mg "_law_draw" = some (.ref a_law_draw)
  a_law_whole : Addr
  d_law_whole : FuncData
  F_law_whole : Fun K "_law_whole" "_law_whole" s_law_whole a_law_whole d_law_whole
  b_law_whole : Binds K d_law_whole ["_law_actual"] []
  m_law_whole : mg "_law_whole" = some (.ref a_law_whole)
  a_law_levels : Addr
  d_law_levels : FuncData
  F_law_levels : Fun K "_law_levels" "_law_levels" s_law_levels a_law_levels d_law_levels
  b_law_levels : Binds K d_law_levels ["_law_source_here", "_law_many"] []
  m_law_levels : mg "_law_levels" = some (.ref a_law_levels)
  a_law_clip : Addr
  d_law_clip : FuncData
  F_law_clip : Fun K "_law_clip" "_law_clip" s_law_clip a_law_clip d_law_clip
  b_law_clip : Binds K d_law_clip ["_law_number"] []
  m_law_clip : mg "_law_clip" = some (.ref a_law_clip)
  a_law_bounds : Addr
  d_law_bounds : FuncData
  F_law_bounds : Fun K "_law_bounds" "_law_bounds" s_law_bounds a_law_bounds d_law_bounds
  b_law_bounds : Binds K d_law_bounds ["_law_source_here", "_law_gap"] []
  m_law_bounds : mg "_law_bounds" = some (.ref a_law_bounds)
  a_law_made_claim : Addr
  d_law_made_claim : FuncData
  F_law_made_claim : Fun K "_law_made_claim" "_law_made_claim" s_law_made_claim a_law_made_claim d_law_made_claim
  b_law_made_claim : Binds K d_law_made_claim ["_law_tell", "_law_left"] []
  m_law_made_claim : mg "_law_made_claim" = some (.ref a_law_made_claim)
  a_law_excess : Addr
  d_law_excess : FuncData
  F_law_excess : Fun K "_law_excess" "_law_excess" s_law_excess a_law_excess d_law_excess
  b_law_excess : Binds K d_law_excess ["_law_tell", "_law_levels_here"] []
  m_law_excess : mg "_law_excess" = some (.ref a_law_excess)
  a_law_same : Addr
  d_law_same : FuncData
  F_law_same : Fun K "_law_same" "_law_same" s_law_same a_law_same d_law_same
  b_law_same : Binds K d_law_same ["_law_actual", "_law_tell"] []
  m_law_same : mg "_law_same" = some (.ref a_law_same)
  a_law_rows : Addr
  d_law_rows : FuncData
  F_law_rows : Fun K "_law_rows" "_law_rows" s_law_rows a_law_rows d_law_rows
  b_law_rows : Binds K d_law_rows ["_law_tell", "_law_levels_here"] []
  m_law_rows : mg "_law_rows" = some (.ref a_law_rows)
  a_law_stands : Addr
  d_law_stands : FuncData
  F_law_stands : Fun K "_law_stands" "_law_stands" s_law_stands a_law_stands d_law_stands
  b_law_stands : Binds K d_law_stands ["_law_claim", "_law_tell", "_law_rows_here"] []
  m_law_stands : mg "_law_stands" = some (.ref a_law_stands)
  a_law_wider : Addr
  d_law_wider : FuncData
  F_law_wider : Fun K "_law_wider" "_law_wider" s_law_wider a_law_wider d_law_wider
  b_law_wider : Binds K d_law_wider ["_law_tell", "_law_amount"] []
  m_law_wider : mg "_law_wider" = some (.ref a_law_wider)
  a_law_turned : Addr
  d_law_turned : FuncData
  F_law_turned : Fun K "_law_turned" "_law_turned" s_law_turned a_law_turned d_law_turned
  b_law_turned : Binds K d_law_turned ["_law_tell"] []
  m_law_turned : mg "_law_turned" = some (.ref a_law_turned)
  a_law : Addr
  d_law : FuncData
  F_law : Fun K "law" "law" s_law a_law d_law
  b_law : Binds K d_law ["_law_script"] []
  m_law : mg "law" = some (.ref a_law)
  C_Claim : Addr
  m_Claim : mg "Claim" = some (.ref C_Claim)
  cl_Claim : Cls K C_Claim
  mkc_Claim : PySem.W.makesIn K C_Claim = true
  kpc_Claim : PySem.W.keepIn K (.ref C_Claim) = true
  n_Claim_first : NoAttr K C_Claim "first"
  n_Claim_second : NoAttr K C_Claim "second"
  n_Claim_low : NoAttr K C_Claim "low"
  n_Claim_high : NoAttr K C_Claim "high"
  n_Claim_weight : NoAttr K C_Claim "weight"
  mk_Claim : Mk K C_Claim a_ClaimI__initI
  t_Claim_holds : Meth K C_Claim "holds" a_Claim_holds
  t_Claim_excess : Meth K C_Claim "excess" a_Claim_excess
  t_Claim_turned : Meth K C_Claim "turned" a_Claim_turned
  t_Claim_widened : Meth K C_Claim "widened" a_Claim_widened
  t_Claim_parts : Meth K C_Claim "parts" a_Claim_parts
  isn : PySem.W.specialIn K (.builtin "object.__class__") "__get__" = some (some (.builtin "getset_descriptor.__get__"))
  ist : PySem.W.takesIn K (.builtin "object.__class__") = some true
  ia_Claim : PySem.W.findIn K (.ref C_Claim) "__class__" = some (some (.builtin "object.__class__"))
  im_Claim : PySem.W.mroIn K C_Claim (.type "object") = some true
  b_ClaimI__initI_3 : ∃ ds : List Value, Vals [.non, .non, .int 1] ds ∧ Binds K d_ClaimI__initI ["self", "first", "second", "low", "high", "weight"] ds
  b_ClaimI__initI_4 : ∃ ds : List Value, Vals [.non, .int 1] ds ∧ Binds K d_ClaimI__initI ["self", "first", "second", "low", "high", "weight"] ds
  b_ClaimI__initI_5 : ∃ ds : List Value, Vals [.int 1] ds ∧ Binds K d_ClaimI__initI ["self", "first", "second", "low", "high", "weight"] ds
  b_ClaimI__initI_5_weight : KBn K d_ClaimI__initI ["self", "first", "second", "low", "high", "weight"] 5 ["weight"] (fun us ws => us ++ ws) (fun vs zs => vs ++ zs)
  ct_LAST_NODE : Tok
  c_LAST_NODE : mg "LAST_NODE" = some (.int 15 ct_LAST_NODE)
  ct_MOST_WEIGHT : Tok
  c_MOST_WEIGHT : mg "MOST_WEIGHT" = some (.int 99 ct_MOST_WEIGHT)
  z_abs : mg "abs" = none
  z_bool : mg "bool" = none
  z_int : mg "int" = none
  z_isinstance : mg "isinstance" = none
  z_len : mg "len" = none
  z_list : mg "list" = none
  z_max : mg "max" = none
  z_min : mg "min" = none
  z_range : mg "range" = none
  z_tuple : mg "tuple" = none
theorem mk_b_ClaimI__initI_3 {K : PySem.W.Frag} {f : Addr} {fd : FuncData} (F : FunD K "__init__" "Claim.__init__" (defArgs s_ClaimI__initI) (defBody s_ClaimI__initI) (defScope s_ClaimI__initI) [.non, .non] [("weight", .int 1)] f fd) : ∃ ds : List Value, Vals [.non, .non, .int 1] ds ∧ Binds K fd ["self", "first", "second", "low", "high", "weight"] ds :=
  F.binds 3 0 (by simp) rfl (fun T D doc pm an cdv ct us its ks h1 h2 h3 => match us, its, ks, h1, h2, h3 with | [_, _, _], [_, _], [_], _, _, _ => ⟨_, rfl, ⟨_, _, _, _, _, _, rfl, rfl, rfl⟩⟩) (by simp)
theorem mk_b_ClaimI__initI_4 {K : PySem.W.Frag} {f : Addr} {fd : FuncData} (F : FunD K "__init__" "Claim.__init__" (defArgs s_ClaimI__initI) (defBody s_ClaimI__initI) (defScope s_ClaimI__initI) [.non, .non] [("weight", .int 1)] f fd) : ∃ ds : List Value, Vals [.non, .int 1] ds ∧ Binds K fd ["self", "first", "second", "low", "high", "weight"] ds :=
  F.binds 4 1 (by simp) rfl (fun T D doc pm an cdv ct us its ks h1 h2 h3 => match us, its, ks, h1, h2, h3 with | [_, _, _, _], [_, _], [_], _, _, _ => ⟨_, rfl, ⟨_, _, _, _, _, _, rfl, rfl, rfl⟩⟩) (by simp)
theorem mk_b_ClaimI__initI_5 {K : PySem.W.Frag} {f : Addr} {fd : FuncData} (F : FunD K "__init__" "Claim.__init__" (defArgs s_ClaimI__initI) (defBody s_ClaimI__initI) (defScope s_ClaimI__initI) [.non, .non] [("weight", .int 1)] f fd) : ∃ ds : List Value, Vals [.int 1] ds ∧ Binds K fd ["self", "first", "second", "low", "high", "weight"] ds :=
  F.binds 5 2 (by simp) rfl (fun T D doc pm an cdv ct us its ks h1 h2 h3 => match us, its, ks, h1, h2, h3 with | [_, _, _, _, _], [_, _], [_], _, _, _ => ⟨_, rfl, ⟨_, _, _, _, _, _, rfl, rfl, rfl⟩⟩) (by simp)
theorem mk_b_ClaimI__initI_5_weight {K : PySem.W.Frag} {f : Addr} {fd : FuncData} (F : FunD K "__init__" "Claim.__init__" (defArgs s_ClaimI__initI) (defBody s_ClaimI__initI) (defScope s_ClaimI__initI) [.non, .non] [("weight", .int 1)] f fd) : KBn K fd ["self", "first", "second", "low", "high", "weight"] 5 ["weight"] (fun us ws => us ++ ws) (fun vs zs => vs ++ zs) := by
  obtain ⟨its, mv, h⟩ := F.kbinds 5 ["weight"] [] (fun us _ _ ws => us ++ ws) (by simp) (by simp) (by simp) (fun h1 _ _ h2 => h1.append h2) (fun T D doc pm an cdv ct us its mv ws h1 h2 h3 h4 => match us, its, mv, ws, h1, h2, h3, h4 with | [_, _, _, _, _], [_, _], [], [_], _, _, _, _ => ⟨_, rfl, (by show _ = _; first | with_unfolding_all rfl | kernel_rfl)⟩)
  exact h
section
variable {P : Program} {w : World} {K : PySem.W.Frag} {mg : Str → Option Value} {base : Heap}
theorem atI_int {ns : List Int} {j : Nat} (h : j < ns.length) : atI (ns.map V.int) (j : Int) = some (.int ns[j]) :=
  atI_nat (by rw [List.getElem?_map, List.getElem?_eq_getElem h]; rfl)
theorem sz1 : 1 ≤ sizeLine := by decide
theorem sz2 : 2 ≤ sizeLine := by decide
theorem sz3 : 3 ≤ sizeLine := by decide
theorem sz4 : 4 ≤ sizeLine := by decide
theorem sz5 : 5 ≤ sizeLine := by decide
theorem sz6 : 6 ≤ sizeLine := by decide
theorem ok_law_source (T : Txt P K mg) : FnOk P w K mg base CX0 1 T.a_law_source T.d_law_source ["_law_script", "_law_place"] (spSource K) := by
  refine T.F_law_source.ok sc_law_source (fun vs H Q E h => ?_) (fun cdv A outer s H vs Q E hr h => ?_)
  · obtain ⟨a, ns, p, rfl, _⟩ := h
    rfl
  refine ⟨_, (pss_cons (ps_if (pt_cmpR op_lt (pv 1) (pe_callB call_len_seq (by rfl) T.z_len (by decide +kernel) (pa_cons (pv 0) pa_nil)) (nomark _)) (pss_one (ps_ret (pe_lst (pa_cons (pe_callB call_abs (by rfl) T.z_abs (by decide +kernel) (pa_cons (pe_ix ix_list (pv 0) (pv 1) (fun _ _ => rfl)) pa_nil)) (pa_cons (pv 1) pa_nil))))) pss_nil) (pss_cons (ps_if (pt_cmpR op_eq (pe_callB call_len_seq (by rfl) T.z_len (by decide +kernel) (pa_cons (pv 0) pa_nil)) pe_int (nomark _)) (pss_one (ps_ret (pe_lst (pa_cons (pe_op op_add (pe_op op_mul pe_int (pv 1)) pe_int) (pa_cons (pv 1) pa_nil))))) pss_nil) (pss_one (ps_ret (pe_lst (pa_cons (pe_op op_add (pe_op op_add (pe_op op_mul pe_int (pe_callB call_abs (by rfl) T.z_abs (by decide +kernel) (pa_cons (pe_ix ix_list (pv 0) (pe_op op_mod (pe_callTy call_int1 (by rfl) T.z_int (by decide +kernel) (pa_cons (pv 1) pa_nil)) (pe_callB call_len_seq (by rfl) T.z_len (by decide +kernel) (pa_cons (pv 0) pa_nil))) (fun _ _ => rfl)) pa_nil))) (pe_op op_mul pe_int (pv 1))) pe_int) (pa_cons (pv 1) pa_nil))))))), ?_⟩
  obtain ⟨a, ns, p, rfl, hS, hp, k⟩ := h
  refine ⟨_, rfl, _, rfl, a, _, rfl, .inl hS, _, _, rfl, rfl, _, rfl, ?_⟩
  refine ite2 (fun c => ?_) (fun c => ?_)
  · have c := of_decide_eq_true c
    rw [List.length_map] at c
    obtain ⟨j, rfl⟩ := Int.eq_ofNat_of_zero_le hp
    have hj : j < ns.length := by omega
    refine ⟨_, rfl, _, rfl, a, _, _, _, rfl, rfl, hS, atI_int hj, _, rfl, _, rfl, sz2, fun l hl => ?_⟩
    exact k l _ hl (Same.new hl) ⟨_, _, upd_same⟩
  · refine ⟨_, rfl, a, _, rfl, .inl hS, rfl, _, rfl, ?_⟩
    refine ite2 (fun c2 => ?_) (fun c2 => ?_)
    · refine ⟨_, rfl, _, _, rfl, rfl, .inl ⟨by decide, by decide⟩, _, _, rfl, rfl, _, rfl, sz2, fun l hl => ?_⟩
      exact k l _ hl (Same.new hl) ⟨_, _, upd_same⟩
    · have c2 := of_decide_eq_false (Bool.eq_false_iff.mpr c2)
      have hpos : 0 < ns.length := by
        cases ns with
        | nil => exact absurd rfl c2
        | cons _ _ => exact Nat.succ_pos _
      have hm : (0 : Int) < ((ns.map V.int).length : Int) := by rw [List.length_map]; omega
      have h0 := Int.emod_nonneg p (Int.ne_of_gt hm)
      have h1 := Int.emod_lt_of_pos p hm
      obtain ⟨j, hj⟩ := Int.eq_ofNat_of_zero_le h0
      rw [List.length_map] at h1 hj
      have hj2 : j < ns.length := by omega
      refine ⟨_, rfl, _, rfl, .inl ⟨_, rfl, _, rfl, a, _, rfl, .inl hS, _, _, rfl, rfl, hm, ?_⟩⟩
      refine ⟨a, _, _, _, rfl, rfl, hS, (by rw [List.length_map, hj]; exact atI_int hj2), _, rfl, _, _, rfl, rfl, .inl ⟨by decide, by decide⟩, _, rfl, _, _, rfl, rfl, .inl ⟨by decide, by decide⟩, _, _, rfl, rfl, _, _, rfl, rfl, _, rfl, sz2, fun l hl => ?_⟩
      exact k l _ hl (Same.new hl) ⟨_, _, upd_same⟩
theorem ok_law_draw (T : Txt P K mg) : FnOk P w K mg base CX0 1 T.a_law_draw T.d_law_draw ["_law_source_here", "_law_size"] (spDraw) := by
  refine T.F_law_draw.ok sc_law_draw (fun vs H Q E h => ?_) (fun cdv A outer s H vs Q E hr h => ?_)
  · obtain ⟨a, n, rfl, _⟩ := h
    rfl
  refine ⟨_, (pss_cons (ps_set (i := 2) sc_law_draw.nd rfl (Or.inl rfl) (pe_ix ix_list (pv 0) pe_int (fun _ _ => rfl))) (pss_cons (ps_if (pt_cmpR op_ge (pv 2) (pe_op op_pow pe_int pe_int) (nomark _)) (pss_cons (ps_asg (pe_op op_fdiv (pv 2) (pv 1)) (pg_sub (pv 0) pe_int set_list)) (pss_one (ps_ret (pe_op op_mod (pe_callTy call_int1 (by rfl) T.z_int (by decide +kernel) (pa_cons (pv 2) pa_nil)) (pv 1))))) pss_nil) (pss_cons (ps_asg (pe_op op_add (pe_ix ix_list (pv 0) pe_int (fun _ _ => rfl)) pe_int) (pg_sub (pv 0) pe_int set_list)) (pss_cons (ps_set (i := 3) sc_law_draw.nd rfl (Or.inl rfl) (pe_op op_mod (pe_callTy call_int1 (by rfl) T.z_int (by decide +kernel) (pa_cons (pe_op op_add (pe_op op_add (pv 2) (pe_op op_mul pe_int (pe_ix ix_list (pv 0) pe_int (fun _ _ => rfl)))) pe_int) pa_nil)) pe_int)) (pss_cons (ps_set (i := 3) sc_law_draw.nd rfl (Or.inl rfl) (pe_op op_mod (pe_callTy call_int1 (by rfl) T.z_int (by decide +kernel) (pa_cons (pe_op op_mul (pv 3) (pe_op op_add (pv 3) pe_int)) pa_nil)) pe_int)) (pss_cons (ps_set (i := 3) sc_law_draw.nd rfl (Or.inl rfl) (pe_op op_mod (pe_callTy call_int1 (by rfl) T.z_int (by decide +kernel) (pa_cons (pe_op op_add (pe_op op_mul (pv 3) (pe_op op_add (pv 3) pe_int)) (pe_op op_mul pe_int (pe_ix ix_list (pv 0) pe_int (fun _ _ => rfl)))) pa_nil)) pe_int)) (pss_one (ps_ret (pe_op op_mod (pe_callTy call_int1 (by rfl) T.z_int (by decide +kernel) (pa_cons (pe_op op_fdiv (pv 3) pe_int) pa_nil)) (pv 1)))))))))), ?_⟩
  obtain ⟨a, n, rfl, ⟨c, p, hS⟩, n0, n1, k⟩ := h
  refine ⟨_, rfl, _, _, _, _, rfl, rfl, .inl (.inl hS), rfl, ?_⟩
  refine ⟨_, rfl, _, _, rfl, rfl, ⟨by decide, by decide, by decide⟩, _, _, rfl, rfl, _, rfl, ?_⟩
  refine ite2 (fun c1 => ?_) (fun c1 => ?_)
  · refine ⟨_, rfl, _, rfl, _, _, rfl, rfl, ⟨n0, n1⟩, _, rfl, _, _, _, 0, rfl, rfl, hS, rfl, ?_⟩
    refine ⟨_, rfl, .inl ⟨_, rfl, _, rfl, _, _, rfl, rfl, n0, ?_⟩⟩
    exact k _ _ (Int.emod_nonneg c (Int.ne_of_gt n0)) (Int.emod_lt_of_pos c n0) ⟨_, _, upd_same⟩ But.upd
  · refine ⟨_, rfl, _, _, _, _, rfl, rfl, .inl (.inl hS), rfl, _, _, rfl, rfl, _, rfl, _, _, _, 1, rfl, rfl, hS, rfl, ?_⟩
    have hS1 : upd H a (.lst [.int c, .int (p + 1)]) a = some (.lst [.int c, .int (p + 1)]) := upd_same
    refine ⟨_, rfl, _, rfl, _, _, _, _, rfl, rfl, .inl (.inl hS1), rfl, _, _, rfl, rfl, .inl ⟨by decide, by decide⟩, _, _, rfl, rfl, _, _, rfl, rfl, .inl ⟨_, rfl, _, _, rfl, rfl, (show (0 : Int) < 2147483647 by decide), ?_⟩⟩
    have m0 := Int.emod_nonneg (c + 7919 * (p + 1) + 13) (show (2147483647 : Int) ≠ 0 by decide)
    have m1 := Int.emod_lt_of_pos (c + 7919 * (p + 1) + 13) (show (0 : Int) < 2147483647 by decide)
    generalize (c + 7919 * (p + 1) + 13) % 2147483647 = m at m0 m1 ⊢
    refine ⟨_, rfl, _, rfl, _, _, rfl, rfl, _, _, rfl, rfl, .inl ⟨by omega, by omega⟩, .inl ⟨_, rfl, _, _, rfl, rfl, (show (0 : Int) < 2147483629 by decide), ?_⟩⟩
    have m2 := Int.emod_nonneg (m * (m + 48271)) (show (2147483629 : Int) ≠ 0 by decide)
    have m3 := Int.emod_lt_of_pos (m * (m + 48271)) (show (0 : Int) < 2147483629 by decide)
    generalize m * (m + 48271) % 2147483629 = m' at m2 m3 ⊢
    refine ⟨_, rfl, _, rfl, _, _, rfl, rfl, _, _, rfl, rfl, .inl ⟨by omega, by omega⟩, _, rfl, _, _, _, _, rfl, rfl, .inl (.inl hS1), rfl, _, _, rfl, rfl, .inl ⟨by decide, by decide⟩, _, _, rfl, rfl, .inl ⟨_, rfl, _, _, rfl, rfl, (show (0 : Int) < 2147483647 by decide), ?_⟩⟩
    refine ⟨_, rfl, _, _, rfl, rfl, ⟨by decide, by decide⟩, .inl ⟨_, rfl, _, rfl, _, _, rfl, rfl, n0, ?_⟩⟩
    exact k _ _ (Int.emod_nonneg _ (Int.ne_of_gt n0)) (Int.emod_lt_of_pos _ n0) ⟨_, _, hS1⟩ But.upd
theorem isi_ty {K : PySem.W.Frag} {x : V} {H : Hp} {Q : VK} {a c : String} {b : Bool} (hx : TyOf K H x (.type a)) (hb : kitB a c = some b) (h : Q (.bl b) H) : rIsi K [x, .ty c] H Q :=
  ⟨_, _, _, _, _, rfl, .ty _, .base hx, kit_ty hb, h⟩
theorem kit_int_int : kitB "int" "int" = some true := by decide +kernel
theorem kit_int_bool : kitB "int" "bool" = some false := by decide +kernel
theorem kit_bool_bool : kitB "bool" "bool" = some true := by decide +kernel
theorem kit_bool_int : kitB "bool" "int" = some true := by decide +kernel
theorem kit_tup_tup : kitB "tuple" "tuple" = some true := by decide +kernel
theorem kit_lst_lst : kitB "list" "list" = some true := by decide +kernel
theorem kit_str_str : kitB "str" "str" = some true := by decide +kernel
theorem ok_law_whole (T : Txt P K mg) : FnOk P w K mg base CX0 1 T.a_law_whole T.d_law_whole ["_law_actual"] (spWhole) := by
  refine T.F_law_whole.ok sc_law_whole (fun vs H Q E h => ?_) (fun cdv A outer s H vs Q E hr h => ?_)
  · obtain ⟨i, rfl, _⟩ := h
    rfl
  refine ⟨_, (pss_one (ps_ret (pe_and (pe_callB call_isi (by rfl) T.z_isinstance (by decide +kernel) (pa_cons (pv 0) (pa_cons (pe_bltn (v := .ty "int") (u := .type "int") (by rfl) T.z_int (by decide +kernel) rfl) pa_nil))) (pe_one (pe_not (pe_callB call_isi (by rfl) T.z_isinstance (by decide +kernel) (pa_cons (pv 0) (pa_cons (pe_bltn (v := .ty "bool") (u := .type "bool") (by rfl) T.z_bool (by decide +kernel) rfl) pa_nil)))))))), ?_⟩
  obtain ⟨i, rfl, k⟩ := h
  refine ⟨_, rfl, _, _, _, _, _, rfl, .ty _, .base (.int i), kit_ty kit_int_int, _, rfl, iteT ?_⟩
  refine ⟨_, rfl, _, _, _, _, _, rfl, .ty _, .base (.int i), kit_ty kit_int_bool, _, rfl, ?_⟩
  exact k

theorem ok_ClaimI__initI (T : Txt P K mg) : FnOk P w K mg base CX0 1 T.a_ClaimI__initI T.d_ClaimI__initI ["self", "first", "second", "low", "high", "weight"] (spInit T.C_Claim) := by
  refine T.F_ClaimI__initI.ok sc_ClaimI__initI (fun vs H Q E h => ?_) (fun cdv A outer s H vs Q E hr h => ?_)
  · obtain ⟨p, dx, t, rfl, _⟩ := h
    rfl
  refine ⟨_, PSs.nox ((pss_cons (ps_if (pt_not (PW.pt (pw_and (pt_chain op_le op_le pe_int (pv 1) (pe_glob (v := .int 15) rfl T.c_LAST_NODE ⟨_, rfl⟩)) (pw_and1 (pt_chain op_le op_le pe_int (pv 2) (pe_glob (v := .int 15) rfl T.c_LAST_NODE ⟨_, rfl⟩)))))) (pss_one ps_never) pss_nil) (pss_cons (ps_if (PW.pt (pw_and (pt_cmpR op_notN (pv 3) pe_non (nomark _)) (pw_and (pt_cmpR op_notN (pv 4) pe_non (nomark _)) (pw_and1 (pt_cmpR op_gt (pv 3) (pv 4) (nomark _)))))) (pss_one ps_never) pss_nil) (pss_cons (ps_if (pt_not (pt_chain op_le op_le pe_int (pv 5) (pe_glob (v := .int 99) rfl T.c_MOST_WEIGHT ⟨_, rfl⟩))) (pss_one ps_never) pss_nil) (pss_cons (ps_fld (pv 0) (pv 1) rfl) (pss_cons (ps_fld (pv 0) (pv 2) rfl) (pss_cons (ps_fld (pv 0) (pv 3) rfl) (pss_cons (ps_fld (pv 0) (pv 4) rfl) (pss_one (ps_fld (pv 0) (pv 5) rfl)))))))))), ?_⟩
  obtain ⟨p, dx, ⟨f, s, lo, hi, m⟩, rfl, ok, hp, k⟩ := h
  have f0 := ok.f
  have s0 := ok.s
  have m0 := ok.m0
  have m1 := ok.m1
  simp only at f0 s0 m0 m1
  refine sqIf (b := false) (fun Q' q => ?_) (fun z => nomatch z) (fun _ => nxt ?_)
  · refine ⟨_, rfl, _, _, rfl, rfl, _, rfl, ?_⟩
    rw [show decide ((0 : Int) ≤ (f : Int)) = true from decide_eq_true (by omega)]
    refine iteT ⟨_, _, rfl, rfl, _, rfl, ?_⟩
    rw [show decide ((f : Int) ≤ 15) = true from decide_eq_true (by omega)]
    refine iteT ⟨_, rfl, _, _, rfl, rfl, _, rfl, ?_⟩
    rw [show decide ((0 : Int) ≤ (s : Int)) = true from decide_eq_true (by omega)]
    refine iteT ⟨_, _, rfl, rfl, _, rfl, ?_⟩
    rw [show decide ((s : Int) ≤ 15) = true from decide_eq_true (by omega)]
    exact q
  refine sqIf (b := false) (fun Q' q => ?_) (fun z => nomatch z) (fun _ => nxt ?_)
  · cases lo with
    | none => exact ⟨_, rfl, rfl, _, rfl, iteF q⟩
    | some lo =>
      refine ⟨_, rfl, rfl, _, rfl, iteT ?_⟩
      cases hi with
      | none => exact ⟨_, rfl, rfl, _, rfl, iteF q⟩
      | some hi =>
        refine ⟨_, rfl, rfl, _, rfl, iteT ⟨_, rfl, _, rfl, _, _, rfl, rfl, _, rfl, ?_⟩⟩
        rw [show decide (hi < lo) = false from decide_eq_false (by have := ok.b lo hi rfl rfl; omega)]
        exact q
  refine sqIf (b := false) (fun Q' q => ?_) (fun z => nomatch z) (fun _ => nxt ?_)
  · refine ⟨_, rfl, _, _, rfl, rfl, _, rfl, ?_⟩
    rw [show decide ((1 : Int) ≤ m) = true from decide_eq_true (by omega)]
    refine iteT ⟨_, _, rfl, rfl, _, rfl, ?_⟩
    rw [show decide (m ≤ 99) = true from decide_eq_true (by omega)]
    exact q
  refine ⟨_, rfl, _, rfl, _, _, _, _, rfl, hp, T.cl_Claim, T.n_Claim_first, by decide, ?_⟩
  refine ⟨_, rfl, _, rfl, _, _, _, _, rfl, upd_same, T.cl_Claim, T.n_Claim_second, by show 1 < 1000; decide, ?_⟩
  refine ⟨_, rfl, _, rfl, _, _, _, _, rfl, upd_same, T.cl_Claim, T.n_Claim_low, Nat.lt_of_le_of_lt (few (few (Nat.le_refl 0))) (by decide), ?_⟩
  refine ⟨_, rfl, _, rfl, _, _, _, _, rfl, upd_same, T.cl_Claim, T.n_Claim_high, Nat.lt_of_le_of_lt (few (few (few (Nat.le_refl 0)))) (by decide), ?_⟩
  refine ⟨_, rfl, _, rfl, _, _, _, _, rfl, upd_same, T.cl_Claim, T.n_Claim_weight, Nat.lt_of_le_of_lt (few (few (few (few (Nat.le_refl 0))))) (by decide), ?_⟩
  refine k _ (fun b o nb e => ?_) upd_same
  rw [upd_ne nb, upd_ne nb, upd_ne nb, upd_ne nb, upd_ne nb]
  exact e
theorem ok_Claim_excess (T : Txt P K mg) : FnOk P w K mg base CX0 1 T.a_Claim_excess T.d_Claim_excess ["self", "levels"] (spExcess K T.C_Claim) := by
  refine T.F_Claim_excess.ok sc_Claim_excess (fun vs H Q E h => ?_) (fun cdv A outer s H vs Q E hr h => ?_)
  · obtain ⟨p, a, t, ns, x, y, rfl, _⟩ := h
    rfl
  refine ⟨_, (pss_cons (ps_set (i := 2) sc_Claim_excess.nd rfl (Or.inl rfl) (pe_op op_sub (pe_ix ix_seq (pv 1) (pe_fld (pv 0) rfl) (fun _ _ => rfl)) (pe_ix ix_seq (pv 1) (pe_fld (pv 0) rfl) (fun _ _ => rfl)))) (pss_cons (ps_if (PW.pt (pw_and (pt_cmpR op_notN (pe_fld (pv 0) rfl) pe_non (nomark _)) (pw_and1 (pt_cmpR op_lt (pv 2) (pe_fld (pv 0) rfl) (nomark _))))) (pss_one (ps_ret (pe_op op_sub (pe_fld (pv 0) rfl) (pv 2)))) pss_nil) (pss_cons (ps_if (PW.pt (pw_and (pt_cmpR op_notN (pe_fld (pv 0) rfl) pe_non (nomark _)) (pw_and1 (pt_cmpR op_gt (pv 2) (pe_fld (pv 0) rfl) (nomark _))))) (pss_one (ps_ret (pe_op op_sub (pv 2) (pe_fld (pv 0) rfl)))) pss_nil) (pss_one (ps_ret pe_int))))), ?_⟩
  obtain ⟨p, a, t, ns, x, y, rfl, ⟨dx, hp⟩, hS, hx, hy, k⟩ := h
  refine ⟨_, rfl, _, rfl, _, _, _, _, _, rfl, hp, T.cl_Claim, T.n_Claim_second, cf_s _, ix_of hS (atI_opt hy) ⟨_, rfl, _, rfl, _, _, _, _, _, rfl, hp, T.cl_Claim, T.n_Claim_first, cf_f _, ix_of hS (atI_opt hx) ⟨_, _, rfl, rfl, asg ?_⟩⟩⟩
  refine sqIf (b := t.lo.elim false fun l => decide (y - x < l)) (fun Q' q => ?_) (fun c => ?_) (fun c => nxt ?_)
  · refine ⟨_, rfl, _, _, _, _, _, rfl, hp, T.cl_Claim, T.n_Claim_low, cf_l _, rfl, _, rfl, ?_⟩
    cases hl : t.lo with
    | none => rw [hl] at q; exact iteF q
    | some l =>
      rw [hl] at q
      exact iteT ⟨_, rfl, _, rfl, _, _, _, _, _, rfl, hp, T.cl_Claim, T.n_Claim_low, cf_l _, _, _, rfl, by rw [hl]; rfl, _, rfl, q⟩
  · cases hl : t.lo with
    | none => rw [hl] at c; cases c
    | some l =>
      refine ⟨_, rfl, _, _, _, _, _, rfl, hp, T.cl_Claim, T.n_Claim_low, cf_l _, _, rfl, _, _, by rw [hl]; rfl, rfl, ?_⟩
      unfold exc at k
      rw [if_pos c, hl] at k
      exact k
  unfold exc at k
  rw [if_neg (by rw [c]; exact Bool.false_ne_true)] at k
  refine sqIf (b := t.hi.elim false fun h => decide (h < y - x)) (fun Q' q => ?_) (fun c => ?_) (fun c => nxt ?_)
  · refine ⟨_, rfl, _, _, _, _, _, rfl, hp, T.cl_Claim, T.n_Claim_high, cf_h _, rfl, _, rfl, ?_⟩
    cases hl : t.hi with
    | none => rw [hl] at q; exact iteF q
    | some l =>
      rw [hl] at q
      exact iteT ⟨_, rfl, _, rfl, _, _, _, _, _, rfl, hp, T.cl_Claim, T.n_Claim_high, cf_h _, _, _, rfl, by rw [hl]; rfl, _, rfl, q⟩
  · cases hl : t.hi with
    | none => rw [hl] at c; cases c
    | some l =>
      refine ⟨_, rfl, _, rfl, _, _, _, _, _, rfl, hp, T.cl_Claim, T.n_Claim_high, cf_h _, _, _, rfl, by rw [hl]; rfl, ?_⟩
      rw [if_pos c, hl] at k
      exact k
  rw [if_neg (by rw [c]; exact Bool.false_ne_true)] at k
  exact k
theorem ok_Claim_holds (T : Txt P K mg) : FnOk P w K mg base CX0 2 T.a_Claim_holds T.d_Claim_holds ["self", "levels"] (spHolds K T.C_Claim) := by
  refine T.F_Claim_holds.ok sc_Claim_holds (fun vs H Q E h => ?_) (fun cdv A outer s H vs Q E hr h => ?_)
  · obtain ⟨p, a, t, ns, x, y, rfl, _⟩ := h
    rfl
  refine ⟨_, (pss_one (ps_ret (pe_cmpR op_eq (pe_meth (pv 0) T.cl_Claim T.t_Claim_excess (ok_Claim_excess T) (hr.mono (by decide)) T.b_Claim_excess .nil pass0 (pa_cons (pv 1) pa_nil)) pe_int (nomark _)))), ?_⟩
  obtain ⟨p, a, t, ns, x, y, rfl, ⟨dx, hp⟩, hS, hx, hy, k⟩ := h
  refine ⟨_, rfl, _, _, _, rfl, hp, cf_no _ (by decide +kernel) (by decide +kernel) (by decide +kernel) (by decide +kernel) (by decide +kernel), _, rfl, p, a, t, ns, x, y, rfl, ⟨dx, hp⟩, hS, hx, hy, rfl, ?_⟩
  rw [show decide (V.int (exc t x y) = V.int 0) = decide (exc t x y = 0) from dec_int]
  exact k
theorem ok_Claim_parts (T : Txt P K mg) : FnOk P w K mg base CX0 1 T.a_Claim_parts T.d_Claim_parts ["self"] (spParts T.C_Claim) := by
  refine T.F_Claim_parts.ok sc_Claim_parts (fun vs H Q E h => ?_) (fun cdv A outer s H vs Q E hr h => ?_)
  · obtain ⟨p, t, rfl, _⟩ := h
    rfl
  refine ⟨_, (pss_one (ps_ret (pe_tup (pa_cons (pe_fld (pv 0) rfl) (pa_cons (pe_fld (pv 0) rfl) (pa_cons (pe_fld (pv 0) rfl) (pa_cons (pe_fld (pv 0) rfl) (pa_cons (pe_fld (pv 0) rfl) pa_nil)))))))), ?_⟩
  obtain ⟨p, t, rfl, ⟨dx, hp⟩, k⟩ := h
  refine ⟨_, rfl, _, _, _, _, _, rfl, hp, T.cl_Claim, T.n_Claim_first, cf_f _, _, rfl, _, _, _, _, _, rfl, hp, T.cl_Claim, T.n_Claim_second, cf_s _, _, rfl, _, _, _, _, _, rfl, hp, T.cl_Claim, T.n_Claim_low, cf_l _, _, rfl, _, _, _, _, _, rfl, hp, T.cl_Claim, T.n_Claim_high, cf_h _, _, rfl, _, _, _, _, _, rfl, hp, T.cl_Claim, T.n_Claim_weight, cf_w _, sz5, fun q hq => ?_⟩
  exact k q _ hq (Same.new hq) upd_same
/-- a new instance, made whole -/
theorem opt_if {c : TT} {ta tb : TE} {σ : L2.St} {H : Hp} {Q : VK} {o : Option Int} {g : Int → Int} (h : PuT c σ H o.isNone) (h1 : o = none → ta σ H Q) (h2 : ∀ i, o = some i → tb σ H Q) : tIf c ta tb σ H Q := ifE_of h (fun e => h1 (Option.isNone_iff_eq_none.mp e)) (fun e => by
  cases o with
  | none => cases e
  | some i => exact h2 i rfl)
theorem ok_Claim_turned (T : Txt P K mg) : FnOk P w K mg base CX0 3 T.a_Claim_turned T.d_Claim_turned ["self"] (spTurned T.C_Claim) := by
  refine T.F_Claim_turned.ok sc_Claim_turned (fun vs H Q E h => ?_) (fun cdv A outer s H vs Q E hr h => ?_)
  · obtain ⟨p, t, rfl, _⟩ := h
    rfl
  refine ⟨_, (pss_cons (ps_set (i := 1) sc_Claim_turned.nd rfl (Or.inl rfl) (pe_ifExp (pt_cmpR op_isN (pe_fld (pv 0) rfl) pe_non (nomark _)) pe_non (pe_un un_neg (pe_fld (pv 0) rfl)))) (pss_cons (ps_set (i := 2) sc_Claim_turned.nd rfl (Or.inl rfl) (pe_ifExp (pt_cmpR op_isN (pe_fld (pv 0) rfl) pe_non (nomark _)) pe_non (pe_un un_neg (pe_fld (pv 0) rfl)))) (pss_one (ps_ret (pe_makeK T.mk_Claim (ok_ClaimI__initI T) (hr.mono (by decide)) (by rfl) T.m_Claim T.b_ClaimI__initI_5_weight pass0 (pa_cons (pe_fld (pv 0) rfl) (pa_cons (pe_fld (pv 0) rfl) (pa_cons (pv 1) (pa_cons (pv 2) pa_nil)))) (pk_cons (pe_fld (pv 0) rfl) pk_nil)))))), ?_⟩
  obtain ⟨p, ⟨f, s, lo, hi, m⟩, rfl, ok, ⟨dx, hp⟩, k⟩ := h
  refine cutS (M := fun σ' H' => H' = H ∧ σ' = [some (.ref p), some (vo (hi.map (- ·))), none]) ?_ (fun M => ?_)
  · rintro σ' H' ⟨rfl, rfl⟩
    refine cutS (M := fun σ' H2 => H2 = H' ∧ σ' = [some (.ref p), some (vo (hi.map (- ·))), some (vo (lo.map (- ·)))]) ?_ (fun M => ?_)
    · rintro σ' H2 ⟨rfl, rfl⟩
      refine ⟨_, rfl, _, _, _, _, _, rfl, hp, T.cl_Claim, T.n_Claim_second, cf_s _, _, rfl, _, _, _, _, _, rfl, hp, T.cl_Claim, T.n_Claim_first, cf_f _, _, rfl, _, rfl, _, rfl, _, _, _, _, _, rfl, hp, T.cl_Claim, T.n_Claim_weight, cf_w _, rfl, rfl, ?_⟩
      intro x dx' nx ndx nex
      refine ⟨x, dx', turn ⟨f, s, lo, hi, m⟩, rfl, turn_ok ok, upd_same, fun H' b e => ⟨rfl, ?_⟩⟩
      have q := made nx ndx nex b e
      exact k x H' nx q.1 q.2
    · refine ⟨_, rfl, _, _, _, _, _, rfl, hp, T.cl_Claim, T.n_Claim_low, cf_l _, rfl, _, rfl, ?_⟩
      cases lo with
      | none => exact iteT (M _ _ ⟨rfl, rfl⟩)
      | some l => exact iteF ⟨_, rfl, _, _, _, _, _, rfl, hp, T.cl_Claim, T.n_Claim_low, cf_l _, _, rfl, M _ _ ⟨rfl, rfl⟩⟩
  · refine ⟨_, rfl, _, _, _, _, _, rfl, hp, T.cl_Claim, T.n_Claim_high, cf_h _, rfl, _, rfl, ?_⟩
    cases hi with
    | none => exact iteT (M _ _ ⟨rfl, rfl⟩)
    | some l => exact iteF ⟨_, rfl, _, _, _, _, _, rfl, hp, T.cl_Claim, T.n_Claim_high, cf_h _, _, rfl, M _ _ ⟨rfl, rfl⟩⟩
theorem ok_Claim_widened (T : Txt P K mg) : FnOk P w K mg base CX0 3 T.a_Claim_widened T.d_Claim_widened ["self", "amount"] (spWidened T.C_Claim) := by
  refine T.F_Claim_widened.ok sc_Claim_widened (fun vs H Q E h => ?_) (fun cdv A outer s H vs Q E hr h => ?_)
  · obtain ⟨p, t, n, rfl, _⟩ := h
    rfl
  refine ⟨_, (pss_cons (ps_set (i := 2) sc_Claim_widened.nd rfl (Or.inl rfl) (pe_ifExp (pt_cmpR op_isN (pe_fld (pv 0) rfl) pe_non (nomark _)) pe_non (pe_op op_sub (pe_fld (pv 0) rfl) (pv 1)))) (pss_cons (ps_set (i := 3) sc_Claim_widened.nd rfl (Or.inl rfl) (pe_ifExp (pt_cmpR op_isN (pe_fld (pv 0) rfl) pe_non (nomark _)) pe_non (pe_op op_add (pe_fld (pv 0) rfl) (pv 1)))) (pss_one (ps_ret (pe_makeK T.mk_Claim (ok_ClaimI__initI T) (hr.mono (by decide)) (by rfl) T.m_Claim T.b_ClaimI__initI_5_weight pass0 (pa_cons (pe_fld (pv 0) rfl) (pa_cons (pe_fld (pv 0) rfl) (pa_cons (pv 2) (pa_cons (pv 3) pa_nil)))) (pk_cons (pe_fld (pv 0) rfl) pk_nil)))))), ?_⟩
  obtain ⟨p, ⟨f, s, lo, hi, m⟩, n, rfl, ok, hn, ⟨dx, hp⟩, k⟩ := h
  refine cutS (M := fun σ' H' => H' = H ∧ σ' = [some (.ref p), some (.int n), some (vo (lo.map (· - n))), none]) ?_ (fun M => ?_)
  · rintro σ' H' ⟨rfl, rfl⟩
    refine cutS (M := fun σ' H2 => H2 = H' ∧ σ' = [some (.ref p), some (.int n), some (vo (lo.map (· - n))), some (vo (hi.map (· + n)))]) ?_ (fun M => ?_)
    · rintro σ' H2 ⟨rfl, rfl⟩
      refine ⟨_, rfl, _, _, _, _, _, rfl, hp, T.cl_Claim, T.n_Claim_first, cf_f _, _, rfl, _, _, _, _, _, rfl, hp, T.cl_Claim, T.n_Claim_second, cf_s _, _, rfl, _, rfl, _, rfl, _, _, _, _, _, rfl, hp, T.cl_Claim, T.n_Claim_weight, cf_w _, rfl, rfl, ?_⟩
      intro x dx' nx ndx nex
      refine ⟨x, dx', widen ⟨f, s, lo, hi, m⟩ n, rfl, widen_ok ok hn, upd_same, fun H' b e => ⟨rfl, ?_⟩⟩
      have q := made nx ndx nex b e
      exact k x H' nx q.1 q.2
    · refine ⟨_, rfl, _, _, _, _, _, rfl, hp, T.cl_Claim, T.n_Claim_high, cf_h _, rfl, _, rfl, ?_⟩
      cases hi with
      | none => exact iteT (M _ _ ⟨rfl, rfl⟩)
      | some l => exact iteF ⟨_, rfl, _, _, _, _, _, rfl, hp, T.cl_Claim, T.n_Claim_high, cf_h _, _, rfl, _, _, rfl, rfl, M _ _ ⟨rfl, rfl⟩⟩
  · refine ⟨_, rfl, _, _, _, _, _, rfl, hp, T.cl_Claim, T.n_Claim_low, cf_l _, rfl, _, rfl, ?_⟩
    cases lo with
    | none => exact iteT (M _ _ ⟨rfl, rfl⟩)
    | some l => exact iteF ⟨_, rfl, _, _, _, _, _, rfl, hp, T.cl_Claim, T.n_Claim_low, cf_l _, _, rfl, _, _, rfl, rfl, M _ _ ⟨rfl, rfl⟩⟩

def spLevels : Sp := fun vs H Q _ => ∃ (a : Addr) (n : Int), vs = [.ref a, .int n] ∧ Src H a ∧ 0 ≤ n ∧ n < 100000 ∧
  ∀ (l : Addr) (ns : List Int) (H' : Hp), (ns.length : Int) = n → H l = none → H' l = some (.lst (ns.map V.int)) → Src H' a → But a H H' → Q (.ref l) H'
def clip (n : Int) : Int := let m := if 1000000000 < n then 1000000000 else n; if m > -1000000000 then m else -1000000000
theorem clip_mono {a b : Int} (h : a ≤ b) : clip a ≤ clip b := by
  unfold clip
  simp only
  (repeat' split) <;> omega
def spClip : Sp := fun vs H Q _ => ∃ n : Int, vs = [.int n] ∧ Q (.int (clip n)) H
def spBounds : Sp := fun vs H Q _ => ∃ (a : Addr) (g : Int), vs = [.ref a, .int g] ∧ Src H a ∧
  ∀ (l : Addr) (lo hi : Option Int) (H' : Hp), (∀ x y, lo = some x → hi = some y → x ≤ y) → H l = none → H' l = some (.lst [vo lo, vo hi]) → Src H' a → But a H H' → Q (.ref l) H'
def spMade (K : PySem.W.Frag) (C : Addr) : Sp := fun vs H Q _ => ∃ (a : Addr) (t : Tell) (b : Bool), vs = [.ref a, .bl b] ∧ SqT K H a (tv t) ∧ Ok t ∧ (b = true → t.m = 1) ∧ NewCl C t H Q
def spLExcess (K : PySem.W.Frag) : Sp := fun vs H Q _ => ∃ (p a : Addr) (t : Tell) (ns : List Int) (x y : Int), vs = [.ref p, .ref a] ∧ SqT K H p (tv t) ∧ SqL K H a (ns.map V.int) ∧ ns[t.f]? = some x ∧ ns[t.s]? = some y ∧ Q (.int (exc t x y)) H
def spSame (K : PySem.W.Frag) : Sp := fun vs H Q _ => ∃ (p a : Addr) (t : Tell), vs = [.ref p, .ref a] ∧ H p = some (.tup (tv t)) ∧ SqT K H a (tv t) ∧ Q (.bl true) H
/-- a list of lists of at least 16 whole numbers -/
def Rows (K : PySem.W.Frag) (H : Hp) (n : Nat) (r : Addr) : Prop := ∃ ls : List Addr, H r = some (.lst (ls.map V.ref)) ∧ ls.length ≤ 100 ∧ ∀ l, l ∈ ls → ∃ ns : List Int, SqL K H l (ns.map V.int) ∧ ns.length = n
def spRows (K : PySem.W.Frag) : Sp := fun vs H Q _ => ∃ (p a : Addr) (t : Tell) (ns : List Int), vs = [.ref p, .ref a] ∧ SqT K H p (tv t) ∧ SqL K H a (ns.map V.int) ∧ t.f < ns.length ∧ t.s < ns.length ∧ ns.length ≤ 100 ∧
  ∀ (r : Addr) (ls : List Addr) (H' : Hp), H r = none → Same H H' → H' r = some (.lst (ls.map V.ref)) → ls.length ≤ 100 → (∀ l, l ∈ ls → (l = a ∨ H l = none) ∧ ∃ ns' : List Int, SqL K H' l (ns'.map V.int) ∧ ns'.length = ns.length) → Q (.ref r) H'
def spStands (K : PySem.W.Frag) (C : Addr) : Sp := fun vs H Q _ => ∃ (c p r : Addr) (t : Tell) (n : Nat), vs = [.ref c, .ref p, .ref r] ∧ ClAt C H c t ∧ SqT K H p (tv t) ∧ Rows K H n r ∧ t.f < n ∧ t.s < n ∧
  ∀ H', Same H H' → Q (.bl true) H'
def spWider (K : PySem.W.Frag) : Sp := fun vs H Q _ => ∃ (p : Addr) (t : Tell) (n : Int), vs = [.ref p, .int n] ∧ SqT K H p (tv t) ∧ NewTup (tv (widen t n)) H Q
def spLTurned (K : PySem.W.Frag) : Sp := fun vs H Q _ => ∃ (p : Addr) (t : Tell), vs = [.ref p] ∧ SqT K H p (tv t) ∧ NewTup (tv (turn t)) H Q
def spLaw (K : PySem.W.Frag) : Sp := fun vs H Q _ => ∃ (a : Addr) (ns : List Int), vs = [.ref a] ∧ SqL K H a (ns.map V.int) ∧ ns.length ≤ 63 ∧ ∀ H', Q (.bl true) H'
def LvI (H : Hp) (a l : Addr) (n sh j : Int) (ns : List Int) (σ' : L2.St) (H' : Hp) : Prop :=
  ∃ v : Int, σ' = [some (.ref a), some (.int n), some (.int sh), some (.ref l), some (.int j), some (.int v)] ∧ H' l = some (.lst (ns.map V.int)) ∧ Src H' a ∧ But a H H'
def BdI (H : Hp) (a : Addr) (g w sh : Int) (σ' : L2.St) (H' : Hp) : Prop :=
  ∃ v : Int, σ' = [some (.ref a), some (.int g), some (.int w), some (.int v), some (.int sh), none, none] ∧ Src H' a ∧ But a H H'
def BeI (H : Hp) (a : Addr) (g w sh : Int) (s : Option V) (σ' : L2.St) (H' : Hp) : Prop :=
  ∃ (v : Int) (l : Addr) (lo hi : Option Int), (∀ x y, lo = some x → hi = some y → x ≤ y) ∧ σ' = [some (.ref a), some (.int g), some (.int w), some (.int v), some (.int sh), some (.ref l), s] ∧ l ≠ a ∧ H l = none ∧ H' l = some (.lst [vo lo, vo hi]) ∧ Src H' a ∧ But a H H'
/-- the rows made so far -/
structure RwI (K : PySem.W.Frag) (H0 : Hp) (a r : Addr) (n : Nat) (ls : List Addr) (H' : Hp) : Prop where
  at_ : H' r = some (.lst (ls.map V.ref))
  each : ∀ l, l ∈ ls → ∃ ms : List Int, SqL K (wo [r] H') l (ms.map V.int) ∧ ms.length = n
  old : Same H0 (wo [r] H')
  new : ∀ l, l ∈ ls → l = a ∨ H0 l = none
theorem RwI.push {K : PySem.W.Frag} {H0 H' H3 : Hp} {a r l : Addr} {n : Nat} {ls : List Addr} {ms : List Int} (R : RwI K H0 a r n ls H') (s : Same H' H3) (hl : H3 l = some (.lst (ms.map V.int))) (hn : ms.length = n) (lr : l ≠ r) (h0 : H' l = none) :
    RwI K H0 a r n (ls ++ [l]) (upd H3 r (.lst (ls.map V.ref ++ [.ref l]))) := by
  refine ⟨by rw [upd_same, List.map_append]; rfl, fun x hx => ?_, fun b o e => wo_upd s b o (R.old b o e), fun x hx => ?_⟩
  rcases List.mem_append.mp hx with h | h
  · obtain ⟨ms, e, q⟩ := R.each x h
    exact ⟨ms, (wo_upd s).seq e, q⟩
  · obtain rfl := List.mem_singleton.mp h
    exact ⟨ms, .inl (.inl (by rw [wo_out (by simpa using lr), upd_ne lr]; exact hl)), hn⟩
  · rcases List.mem_append.mp hx with h | h
    · exact R.new x h
    · obtain rfl := List.mem_singleton.mp h
      exact .inr (Same.free (R.old.trans (wo_same [r] H')) h0)
theorem RwI.all {K : PySem.W.Frag} {H0 H' : Hp} {a r : Addr} {n : Nat} {ls : List Addr} (R : RwI K H0 a r n ls H') : Same H0 H' ∧ ∀ l, l ∈ ls → (l = a ∨ H0 l = none) ∧ ∃ ns' : List Int, SqL K H' l (ns'.map V.int) ∧ ns'.length = n :=
  ⟨R.old.trans (wo_same [r] H'), fun l hl => ⟨R.new l hl, by obtain ⟨ms, e, q⟩ := R.each l hl; exact ⟨ms, (wo_same [r] H').seq e, q⟩⟩⟩
theorem Rows.keep {K : PySem.W.Frag} {H H' : Hp} {n : Nat} {r : Addr} (h : Rows K H n r) (s : Same H H') : Rows K H' n r := by
  obtain ⟨ls, h1, h2, h3⟩ := h
  exact ⟨ls, s _ _ h1, h2, fun l hl => by obtain ⟨ms, e, q⟩ := h3 l hl; exact ⟨ms, s.seq e, q⟩⟩
/-- what the law has made -/
structure LD (K : PySem.W.Frag) (C : Addr) (t : Tell) (nl : List Int) (lv tl rw cl tu : Addr) (H : Hp) : Prop where
  lv : SqL K H lv (nl.map V.int)
  tl : SqT K H tl (tv t)
  rw : Rows K H nl.length rw
  cl : ClAt C H cl t
  tu : ClAt C H tu (turn t)
theorem LD.keep {K : PySem.W.Frag} {C : Addr} {t : Tell} {nl : List Int} {lv tl rw cl tu : Addr} {H H' : Hp} (d : LD K C t nl lv tl rw cl tu H) (s : Same H H') : LD K C t nl lv tl rw cl tu H' :=
  ⟨s.seq d.lv, SqT.keep d.tl s, d.rw.keep s, d.cl.keep s, d.tu.keep s⟩

theorem ok_law_clip (T : Txt P K mg) : FnOk P w K mg base CX0 1 T.a_law_clip T.d_law_clip ["_law_number"] (spClip) := by
  refine T.F_law_clip.ok sc_law_clip (fun vs H Q E h => ?_) (fun cdv A outer s H vs Q E hr h => ?_)
  · obtain ⟨n, rfl, _⟩ := h
    rfl
  refine ⟨_, (pss_one (ps_ret (pe_callB (call_max2 rfl) (by rfl) T.z_max (by decide +kernel) (pa_cons (pe_op op_sub pe_int (pe_op op_pow pe_int pe_int)) (pa_cons (pe_callB (call_min2 rfl) (by rfl) T.z_min (by decide +kernel) (pa_cons (pv 0) (pa_cons (pe_op op_pow pe_int pe_int) pa_nil))) pa_nil))))), ?_⟩
  obtain ⟨n, rfl, k⟩ := h
  refine ⟨_, _, rfl, rfl, ⟨by decide, by decide, by decide⟩, _, _, rfl, rfl, _, rfl, _, _, rfl, rfl, ⟨by decide, by decide, by decide⟩, _, _, rfl, _, _, rfl, ?_⟩
  exact k
theorem ok_law_levels (T : Txt P K mg) : FnOk P w K mg base CX0 2 T.a_law_levels T.d_law_levels ["_law_source_here", "_law_many"] (spLevels) := by
  refine T.F_law_levels.ok sc_law_levels (fun vs H Q E h => ?_) (fun cdv A outer s H vs Q E hr h => ?_)
  · obtain ⟨a, n, rfl, _⟩ := h
    rfl
  refine ⟨_, (pss_cons (ps_set (i := 2) sc_law_levels.nd rfl (Or.inl rfl) (pe_call (ok_law_draw T) (hr.mono (by decide)) (by rfl) T.m_law_draw T.F_law_draw.kp T.b_law_draw .nil pass0 (pa_cons (pv 0) (pa_cons pe_int pa_nil)))) (pss_cons (ps_set (i := 3) sc_law_levels.nd rfl (Or.inl rfl) (pe_lst pa_nil)) (pss_cons (ps_for PassesOwn.never rfl (pi_range1 (by rfl) T.z_range (pa_cons (pv 1) pa_nil)) (pg_name (i := 4) sc_law_levels.nd rfl (Or.inl rfl)) (pss_cons (ps_set (i := 5) sc_law_levels.nd rfl (Or.inl rfl) (pe_op op_sub (pe_call (ok_law_draw T) (hr.mono (by decide)) (by rfl) T.m_law_draw T.F_law_draw.kp T.b_law_draw .nil pass0 (pa_cons (pv 0) (pa_cons pe_int pa_nil))) pe_int)) (pss_cons (ps_if (pt_cmpR op_eq (pv 2) pe_int (nomark _)) (pss_one (ps_set (i := 5) sc_law_levels.nd rfl (Or.inl rfl) (pe_op op_add (pe_op op_mul (pe_op op_sub (pe_call (ok_law_draw T) (hr.mono (by decide)) (by rfl) T.m_law_draw T.F_law_draw.kp T.b_law_draw .nil pass0 (pa_cons (pv 0) (pa_cons pe_int pa_nil))) pe_int) (pe_op op_pow pe_int pe_int)) (pe_call (ok_law_draw T) (hr.mono (by decide)) (by rfl) T.m_law_draw T.F_law_draw.kp T.b_law_draw .nil pass0 (pa_cons (pv 0) (pa_cons (pe_op op_pow pe_int pe_int) pa_nil)))))) pss_nil) (pss_cons (ps_if (pt_cmpR op_eq (pv 2) pe_int (nomark _)) (pss_one (ps_set (i := 5) sc_law_levels.nd rfl (Or.inl rfl) (pe_op op_add (pe_op op_mul (pe_op op_sub (pe_call (ok_law_draw T) (hr.mono (by decide)) (by rfl) T.m_law_draw T.F_law_draw.kp T.b_law_draw .nil pass0 (pa_cons (pv 0) (pa_cons pe_int pa_nil))) pe_int) (pe_op op_pow pe_int pe_int)) (pe_call (ok_law_draw T) (hr.mono (by decide)) (by rfl) T.m_law_draw T.F_law_draw.kp T.b_law_draw .nil pass0 (pa_cons (pv 0) (pa_cons (pe_op op_pow pe_int pe_int) pa_nil)))))) pss_nil) (pss_one (ps_expr (pe_bm PySem.F.plainAttrs_list PySem.F.slot_list_append PySem.F.type_list_append mt_append (pv 3) (pa_cons (pv 5) pa_nil)))))))) (pss_one (ps_ret (pv 3)))))), ?_⟩
  obtain ⟨a, n, rfl, hs, n0, n1, k⟩ := h
  refine ⟨_, rfl, _, _, rfl, hs, by decide, by decide, fun sh H1 _ _ hs1 b1 => asg ?_⟩
  refine ⟨Nat.zero_le _, fun l hl => asg ?_⟩
  have la : l ≠ a := hs1.ne hl
  have hH : H l = none := by
    cases e : H l with
    | none => rfl
    | some o => rw [b1 l o la e] at hl; cases hl
  have out : ∀ {b : Addr} {o : HO}, b ≠ a → H b = some o → b ≠ l := fun _ e z => by rw [z, hH] at e; cases e
  refine ⟨_, rfl, n, rfl, by omega, by omega, for_range (n := n.toNat) (fun i σ H' => ∃ (ns : List Int) (v1 v2 : Option V), σ = [some (.ref a), some (.int n), some (.int sh), some (.ref l), v1, v2] ∧ ns.length = i ∧ H' l = some (.lst (ns.map V.int)) ∧ Src H' a ∧ But a H H')
    ⟨[], none, none, rfl, rfl, upd_same, hs1.same (Same.new hl), b1.trans (But.new hl)⟩ ?_ ?_⟩
  · rintro i σ H2 hi ⟨ns, v1, v2, rfl, hn, hL, hs2, b2⟩
    refine cutS (M := LvI H a l n sh (0 + i) ns) ?_ (fun M => ?_)
    · rintro σ' H3 ⟨v, rfl, hL, hs3, b3⟩
      refine cutS (M := LvI H a l n sh (0 + i) ns) ?_ (fun M => ?_)
      · rintro σ' H3 ⟨v, rfl, hL, hs3, b3⟩
        refine cutS (M := LvI H a l n sh (0 + i) ns) ?_ (fun M => ?_)
        · rintro σ' H3 ⟨v, rfl, hL, hs3, b3⟩
          refine ⟨_, rfl, .inl ⟨rfl, _, .inl (.inl hL)⟩, _, rfl, l, _, _, rfl, rfl, hL, small6 (by rw [List.length_map]; omega), ?_⟩
          refine ⟨ns ++ [v], _, _, rfl, by simp [hn], by rw [upd_same, List.map_append]; rfl, ?_, fun b o nb e => ?_⟩
          · obtain ⟨c, p, e⟩ := hs3
            exact ⟨c, p, by rw [upd_ne la.symm]; exact e⟩
          · rw [upd_ne (out nb e)]; exact b3 b o nb e
        · refine sqIf (b := decide (V.int sh = V.int 3)) (fun Q' q => ⟨_, rfl, rfl, _, rfl, q⟩) (fun c => ?_) (fun c => nxt (M _ _ ⟨_, rfl, hL, hs3, b3⟩))
          refine ⟨_, rfl, _, _, rfl, hs3, by decide, by decide, fun r H4 r0 r1 hs4 b4 => ?_⟩
          refine ⟨_, _, rfl, rfl, _, _, rfl, rfl, ⟨by decide, by decide, by decide⟩, _, _, rfl, rfl, .inr ⟨by decide, by decide⟩, _, rfl, _, _, rfl, rfl, ⟨by decide, by decide, by decide⟩, _, _, rfl, hs4, by decide, by decide, fun r' H5 r0' r1' hs5 b5 => ?_⟩
          exact ⟨_, _, rfl, rfl, asg (M _ _ ⟨_, rfl, b5 _ _ la (b4 _ _ la hL), hs5, (b3.trans b4).trans b5⟩)⟩
      · refine sqIf (b := decide (V.int sh = V.int 2)) (fun Q' q => ⟨_, rfl, rfl, _, rfl, q⟩) (fun c => ?_) (fun c => nxt (M _ _ ⟨_, rfl, hL, hs3, b3⟩))
        refine ⟨_, rfl, _, _, rfl, hs3, by decide, by decide, fun r H4 r0 r1 hs4 b4 => ?_⟩
        refine ⟨_, _, rfl, rfl, _, _, rfl, rfl, ⟨by decide, by decide, by decide⟩, _, _, rfl, rfl, .inr ⟨by decide, by decide⟩, _, rfl, _, _, rfl, rfl, ⟨by decide, by decide, by decide⟩, _, _, rfl, hs4, by decide, by decide, fun r' H5 r0' r1' hs5 b5 => ?_⟩
        exact ⟨_, _, rfl, rfl, asg (M _ _ ⟨_, rfl, b5 _ _ la (b4 _ _ la hL), hs5, (b3.trans b4).trans b5⟩)⟩
    · refine ⟨_, rfl, _, _, rfl, hs2, by decide, by decide, fun r H4 r0 r1 hs4 b4 => ?_⟩
      exact ⟨_, _, rfl, rfl, asg (M _ _ ⟨_, rfl, b4 _ _ la hL, hs4, b2.trans b4⟩)⟩
  · rintro σ H2 ⟨ns, v1, v2, rfl, hn, hL, hs2, b2⟩
    exact ⟨_, rfl, k l ns H2 (by omega) hH hL hs2 b2⟩
theorem ok_law_bounds (T : Txt P K mg) : FnOk P w K mg base CX0 2 T.a_law_bounds T.d_law_bounds ["_law_source_here", "_law_gap"] (spBounds) := by
  refine T.F_law_bounds.ok sc_law_bounds (fun vs H Q E h => ?_) (fun cdv A outer s H vs Q E hr h => ?_)
  · obtain ⟨a, g, rfl, _⟩ := h
    rfl
  refine ⟨_, (pss_cons (ps_set (i := 2) sc_law_bounds.nd rfl (Or.inl rfl) (pe_ix ix_list (pe_lst (pa_cons pe_int (pa_cons pe_int (pa_cons pe_int (pa_cons (pe_op op_add pe_int (pe_call (ok_law_draw T) (hr.mono (by decide)) (by rfl) T.m_law_draw T.F_law_draw.kp T.b_law_draw .nil pass0 (pa_cons (pv 0) (pa_cons pe_int pa_nil)))) (pa_cons (pe_call (ok_law_draw T) (hr.mono (by decide)) (by rfl) T.m_law_draw T.F_law_draw.kp T.b_law_draw .nil pass0 (pa_cons (pv 0) (pa_cons (pe_op op_pow pe_int pe_int) pa_nil))) pa_nil)))))) (pe_call (ok_law_draw T) (hr.mono (by decide)) (by rfl) T.m_law_draw T.F_law_draw.kp T.b_law_draw .nil pass0 (pa_cons (pv 0) (pa_cons pe_int pa_nil))) (fun _ _ => rfl))) (pss_cons (ps_set (i := 3) sc_law_bounds.nd rfl (Or.inl rfl) (pe_op op_add (pe_op op_sub (pv 1) pe_int) (pe_call (ok_law_draw T) (hr.mono (by decide)) (by rfl) T.m_law_draw T.F_law_draw.kp T.b_law_draw .nil pass0 (pa_cons (pv 0) (pa_cons pe_int pa_nil))))) (pss_cons (ps_set (i := 4) sc_law_bounds.nd rfl (Or.inl rfl) (pe_call (ok_law_draw T) (hr.mono (by decide)) (by rfl) T.m_law_draw T.F_law_draw.kp T.b_law_draw .nil pass0 (pa_cons (pv 0) (pa_cons pe_int pa_nil)))) (pss_cons (ps_if (pt_cmpR op_eq (pv 4) pe_int (nomark _)) (pss_one (ps_set (i := 3) sc_law_bounds.nd rfl (Or.inl rfl) (pe_op op_add (pe_op op_mul (pe_op op_sub (pe_call (ok_law_draw T) (hr.mono (by decide)) (by rfl) T.m_law_draw T.F_law_draw.kp T.b_law_draw .nil pass0 (pa_cons (pv 0) (pa_cons pe_int pa_nil))) pe_int) (pe_op op_pow pe_int pe_int)) (pe_call (ok_law_draw T) (hr.mono (by decide)) (by rfl) T.m_law_draw T.F_law_draw.kp T.b_law_draw .nil pass0 (pa_cons (pv 0) (pa_cons (pe_op op_pow pe_int pe_int) pa_nil)))))) pss_nil) (pss_cons (ps_if (pt_cmpR op_eq (pv 4) pe_int (nomark _)) (pss_one (ps_set (i := 3) sc_law_bounds.nd rfl (Or.inl rfl) (pe_ix ix_list (pe_lst (pa_cons (pe_op op_sub pe_int (pe_op op_pow pe_int pe_int)) (pa_cons (pe_op op_pow pe_int pe_int) pa_nil))) (pe_call (ok_law_draw T) (hr.mono (by decide)) (by rfl) T.m_law_draw T.F_law_draw.kp T.b_law_draw .nil pass0 (pa_cons (pv 0) (pa_cons pe_int pa_nil))) (fun _ _ => rfl)))) pss_nil) (pss_cons (ps_if (pt_cmpR op_eq (pe_call (ok_law_draw T) (hr.mono (by decide)) (by rfl) T.m_law_draw T.F_law_draw.kp T.b_law_draw .nil pass0 (pa_cons (pv 0) (pa_cons pe_int pa_nil))) pe_int (nomark _)) (pss_one (ps_set (i := 5) sc_law_bounds.nd rfl (Or.inl rfl) (pe_lst (pa_cons (pe_call (ok_law_clip T) (hr.mono (by decide)) (by rfl) T.m_law_clip T.F_law_clip.kp T.b_law_clip .nil pass0 (pa_cons (pv 3) pa_nil)) (pa_cons (pe_call (ok_law_clip T) (hr.mono (by decide)) (by rfl) T.m_law_clip T.F_law_clip.kp T.b_law_clip .nil pass0 (pa_cons (pe_op op_add (pv 3) (pv 2)) pa_nil)) pa_nil))))) (pss_one (ps_set (i := 5) sc_law_bounds.nd rfl (Or.inl rfl) (pe_lst (pa_cons (pe_call (ok_law_clip T) (hr.mono (by decide)) (by rfl) T.m_law_clip T.F_law_clip.kp T.b_law_clip .nil pass0 (pa_cons (pe_op op_sub (pv 3) (pv 2)) pa_nil)) (pa_cons (pe_call (ok_law_clip T) (hr.mono (by decide)) (by rfl) T.m_law_clip T.F_law_clip.kp T.b_law_clip .nil pass0 (pa_cons (pv 3) pa_nil)) pa_nil)))))) (pss_cons (ps_set (i := 6) sc_law_bounds.nd rfl (Or.inl rfl) (pe_call (ok_law_draw T) (hr.mono (by decide)) (by rfl) T.m_law_draw T.F_law_draw.kp T.b_law_draw .nil pass0 (pa_cons (pv 0) (pa_cons pe_int pa_nil)))) (pss_cons (ps_if (PW.pt (pw_or (pt_cmpR op_eq (pv 6) pe_int (nomark _)) (pw_or1 (pt_cmpR op_eq (pv 6) pe_int (nomark _))))) (pss_one (ps_asg pe_non (pg_sub (pv 5) pe_int set_list))) pss_nil) (pss_cons (ps_if (PW.pt (pw_or (pt_cmpR op_eq (pv 6) pe_int (nomark _)) (pw_or1 (pt_cmpR op_eq (pv 6) pe_int (nomark _))))) (pss_one (ps_asg pe_non (pg_sub (pv 5) pe_int set_list))) pss_nil) (pss_one (ps_ret (pv 5)))))))))))), ?_⟩
  obtain ⟨a, g, rfl, hs, k⟩ := h
  refine ⟨_, rfl, _, _, rfl, hs, by decide, by decide, fun r1 H1 r10 _ hs1 b1 => ?_⟩
  refine ⟨_, _, rfl, rfl, _, rfl, _, _, rfl, rfl, ⟨by decide, by decide, by decide⟩, _, _, rfl, hs1, by decide, by decide, fun r2 H2 r20 _ hs2 b2 => ?_⟩
  refine ⟨sz5, fun l hl => ?_⟩
  have la := hs2.ne hl
  refine ⟨_, rfl, _, _, rfl, hs2.same (Same.new hl), by decide, by decide, fun r3 H3 r30 r31 hs3 b3 => ?_⟩
  obtain ⟨v, hv, hat⟩ := pick [0, 1, 2, 3 + r1, r2] r3 r30 r31
  have hw : 0 ≤ v := by
    simp only [List.mem_cons, List.not_mem_nil, or_false] at hv
    omega
  refine ⟨_, _, _, _, rfl, rfl, .inl (.inl (b3 l _ la upd_same)), hat, asg ?_⟩
  have B3 : But a H H3 := b1.trans (b2.trans ((But.new hl).trans b3))
  refine ⟨_, rfl, _, _, rfl, rfl, _, rfl, _, _, rfl, hs3, by decide, by decide, fun r4 H4 _ _ hs4 b4 => ?_⟩
  refine ⟨_, _, rfl, rfl, asg ?_⟩
  refine ⟨_, rfl, _, _, rfl, hs4, by decide, by decide, fun sh H5 _ _ hs5 b5 => asg ?_⟩
  have B5 : But a H H5 := B3.trans (b4.trans b5)
  refine cutS (M := BdI H a g v sh) ?_ (fun M => ?_)
  · rintro σ' H6 ⟨x, rfl, hs6, B6⟩
    refine cutS (M := BdI H a g v sh) ?_ (fun M => ?_)
    · rintro σ' H6 ⟨x, rfl, hs6, B6⟩
      refine cutS (M := BeI H a g v sh none) ?_ (fun M => ?_)
      · rintro σ' H7 ⟨x, l, lo, hi, hlh, rfl, la, hl, hL, hs7, B7⟩
        refine ⟨_, rfl, _, _, rfl, hs7, by decide, by decide, fun sd H8 _ _ hs8 b8 => asg ?_⟩
        refine cutS (M := BeI H a g v sh (some (.int sd))) ?_ (fun M => ?_)
        · rintro σ' H9 ⟨x, l, lo, hi, hlh, rfl, la, hl, hL, hs9, B9⟩
          refine cutS (M := BeI H a g v sh (some (.int sd))) ?_ (fun M => ?_)
          · rintro σ' H9 ⟨x, l, lo, hi, hlh, rfl, la, hl, hL, hs9, B9⟩
            exact ⟨_, rfl, k l lo hi H9 hlh hl hL hs9 B9⟩
          · refine sqIf (put_or (a := decide (V.int sd = V.int 1)) (b := decide (V.int sd = V.int 2)) (fun Q' q => ⟨_, rfl, rfl, _, rfl, q⟩) (fun _ Q' q => ⟨_, rfl, rfl, _, rfl, q⟩)) (fun c => ?_) (fun c => nxt (M _ _ ⟨x, l, lo, hi, hlh, rfl, la, hl, hL, hs9, B9⟩))
            refine ⟨_, rfl, l, _, 1, 1, rfl, rfl, hL, rfl, M _ _ ⟨x, l, lo, none, (fun _ _ _ z => nomatch z), rfl, la, hl, upd_same, hs9.set la, B9.mut hl⟩⟩
        · refine sqIf (put_or (a := decide (V.int sd = V.int 0)) (b := decide (V.int sd = V.int 2)) (fun Q' q => ⟨_, rfl, rfl, _, rfl, q⟩) (fun _ Q' q => ⟨_, rfl, rfl, _, rfl, q⟩)) (fun c => ?_) (fun c => nxt (M _ _ ⟨x, l, lo, hi, hlh, rfl, la, hl, b8 l _ la hL, hs8, B7.trans b8⟩))
          refine ⟨_, rfl, l, _, 0, 0, rfl, rfl, b8 l _ la hL, rfl, M _ _ ⟨x, l, none, hi, (fun _ _ z => nomatch z), rfl, la, hl, upd_same, hs8.set la, (B7.trans b8).mut hl⟩⟩
      · refine ⟨_, rfl, _, _, rfl, hs6, by decide, by decide, fun r7 H7 _ _ hs7 b7 => ?_⟩
        refine ⟨rfl, _, rfl, ite2 (fun _ => ?_) (fun _ => ?_)⟩
        · refine ⟨_, rfl, _, rfl, _, rfl, _, rfl, _, _, rfl, rfl, _, rfl, sz2, fun l hl => asg (M _ _ ⟨x, l, some (clip x), some (clip (x + v)), ?_, rfl, hs7.ne hl, (B6.trans b7).free hl (hs7.ne hl), upd_same, hs7.same (Same.new hl), (B6.trans b7).trans (But.new hl)⟩)⟩
          intro y z ey ez
          cases ey
          cases ez
          exact clip_mono (by omega)
        · refine ⟨_, rfl, _, rfl, _, _, rfl, rfl, _, rfl, _, rfl, _, rfl, sz2, fun l hl => asg (M _ _ ⟨x, l, some (clip (x - v)), some (clip x), ?_, rfl, hs7.ne hl, (B6.trans b7).free hl (hs7.ne hl), upd_same, hs7.same (Same.new hl), (B6.trans b7).trans (But.new hl)⟩)⟩
          intro y z ey ez
          cases ey
          cases ez
          exact clip_mono (by omega)
    · refine sqIf (b := decide (V.int sh = V.int 5)) (fun Q' q => ⟨_, rfl, rfl, _, rfl, q⟩) (fun c => ?_) (fun c => nxt (M _ _ ⟨x, rfl, hs6, B6⟩))
      refine ⟨_, _, rfl, rfl, ⟨by decide, by decide, by decide⟩, _, _, rfl, rfl, _, _, rfl, rfl, ⟨by decide, by decide, by decide⟩, sz2, fun l hl => ?_⟩
      have la := hs6.ne hl
      refine ⟨_, rfl, _, _, rfl, hs6.same (Same.new hl), by decide, by decide, fun r7 H7 r70 r71 hs7 b7 => ?_⟩
      obtain ⟨v7, _, hat⟩ := pick [0 - 10 ^ 9, 10 ^ 9] r7 r70 r71
      exact ⟨_, _, _, _, rfl, rfl, .inl (.inl (b7 l _ la upd_same)), hat, asg (M _ _ ⟨v7, rfl, hs7, B6.trans ((But.new hl).trans b7)⟩)⟩
  · refine sqIf (b := decide (V.int sh = V.int 4)) (fun Q' q => ⟨_, rfl, rfl, _, rfl, q⟩) (fun c => ?_) (fun c => nxt (M _ _ ⟨_, rfl, hs5, B5⟩))
    refine ⟨_, rfl, _, _, rfl, hs5, by decide, by decide, fun r6 H6 r60 r61 hs6 b6 => ?_⟩
    refine ⟨_, _, rfl, rfl, _, _, rfl, rfl, ⟨by decide, by decide, by decide⟩, _, _, rfl, rfl, .inr ⟨by decide, by decide⟩, _, rfl, _, _, rfl, rfl, ⟨by decide, by decide, by decide⟩, _, _, rfl, hs6, by decide, by decide, fun r7 H7 _ _ hs7 b7 => ?_⟩
    exact ⟨_, _, rfl, rfl, asg (M _ _ ⟨_, rfl, hs7, B5.trans (b6.trans b7)⟩)⟩
theorem ok_law_made_claim (T : Txt P K mg) : FnOk P w K mg base CX0 3 T.a_law_made_claim T.d_law_made_claim ["_law_tell", "_law_left"] (spMade K T.C_Claim) := by
  refine T.F_law_made_claim.ok sc_law_made_claim (fun vs H Q E h => ?_) (fun cdv A outer s H vs Q E hr h => ?_)
  · obtain ⟨a, t, b, rfl, _⟩ := h
    rfl
  refine ⟨_, (pss_cons (ps_if (PW.pt (pw_and (pt_val (pv 1)) (pw_and (pt_cmpR op_isN (pe_ix ix_tup (pv 0) pe_int (fun _ _ => rfl)) pe_non (nomark _)) (pw_and1 (pt_cmpR op_isN (pe_ix ix_tup (pv 0) pe_int (fun _ _ => rfl)) pe_non (nomark _)))))) (pss_one (ps_ret (pe_make T.mk_Claim (ok_ClaimI__initI T) (hr.mono (by decide)) (by rfl) T.m_Claim T.b_ClaimI__initI_3.choose_spec.2 T.b_ClaimI__initI_3.choose_spec.1 pass0 (pa_cons (pe_ix ix_tup (pv 0) pe_int (fun _ _ => rfl)) (pa_cons (pe_ix ix_tup (pv 0) pe_int (fun _ _ => rfl)) pa_nil))))) pss_nil) (pss_cons (ps_if (PW.pt (pw_and (pt_val (pv 1)) (pw_and1 (pt_cmpR op_isN (pe_ix ix_tup (pv 0) pe_int (fun _ _ => rfl)) pe_non (nomark _))))) (pss_one (ps_ret (pe_make T.mk_Claim (ok_ClaimI__initI T) (hr.mono (by decide)) (by rfl) T.m_Claim T.b_ClaimI__initI_4.choose_spec.2 T.b_ClaimI__initI_4.choose_spec.1 pass0 (pa_cons (pe_ix ix_tup (pv 0) pe_int (fun _ _ => rfl)) (pa_cons (pe_ix ix_tup (pv 0) pe_int (fun _ _ => rfl)) (pa_cons (pe_ix ix_tup (pv 0) pe_int (fun _ _ => rfl)) pa_nil)))))) pss_nil) (pss_cons (ps_if (pt_val (pv 1)) (pss_one (ps_ret (pe_make T.mk_Claim (ok_ClaimI__initI T) (hr.mono (by decide)) (by rfl) T.m_Claim T.b_ClaimI__initI_5.choose_spec.2 T.b_ClaimI__initI_5.choose_spec.1 pass0 (pa_cons (pe_ix ix_tup (pv 0) pe_int (fun _ _ => rfl)) (pa_cons (pe_ix ix_tup (pv 0) pe_int (fun _ _ => rfl)) (pa_cons (pe_ix ix_tup (pv 0) pe_int (fun _ _ => rfl)) (pa_cons (pe_ix ix_tup (pv 0) pe_int (fun _ _ => rfl)) pa_nil))))))) pss_nil) (pss_one (ps_ret (pe_makeK T.mk_Claim (ok_ClaimI__initI T) (hr.mono (by decide)) (by rfl) T.m_Claim T.b_ClaimI__initI_5_weight pass0 (pa_cons (pe_ix ix_tup (pv 0) pe_int (fun _ _ => rfl)) (pa_cons (pe_ix ix_tup (pv 0) pe_int (fun _ _ => rfl)) (pa_cons (pe_ix ix_tup (pv 0) pe_int (fun _ _ => rfl)) (pa_cons (pe_ix ix_tup (pv 0) pe_int (fun _ _ => rfl)) pa_nil)))) (pk_cons (pe_ix ix_tup (pv 0) pe_int (fun _ _ => rfl)) pk_nil))))))), ?_⟩
  obtain ⟨a, ⟨f, s, lo, hi, m⟩, b, rfl, hT, ok, hm, k⟩ := h
  cases b with
  | false =>
    refine sqIf (b := false) (fun Q' q => ⟨_, rfl, _, rfl, iteF q⟩) (fun z => nomatch z) (fun _ => nxt ?_)
    refine sqIf (b := false) (fun Q' q => ⟨_, rfl, _, rfl, iteF q⟩) (fun z => nomatch z) (fun _ => nxt ?_)
    refine sqIf (b := false) (fun Q' q => ⟨_, rfl, _, rfl, q⟩) (fun z => nomatch z) (fun _ => nxt ?_)
    refine ⟨_, rfl, _, _, 0, _, rfl, rfl, hT, rfl, _, rfl, _, _, 1, _, rfl, rfl, hT, rfl, _, rfl, _, _, 2, _, rfl, rfl, hT, rfl, _, rfl, _, _, 3, _, rfl, rfl, hT, rfl, _, rfl, _, _, 4, _, rfl, rfl, hT, rfl, rfl, rfl, fun x dx nx ndx nex => ?_⟩
    refine ⟨x, dx, ⟨f, s, lo, hi, m⟩, rfl, ok, upd_same, fun H' b e => ⟨rfl, ?_⟩⟩
    exact k x H' nx (made nx ndx nex b e).1 (made nx ndx nex b e).2
  | true =>
    obtain rfl : m = 1 := hm rfl
    cases hi with
    | none =>
      cases lo with
      | none =>
        refine sqIf (b := true) (fun Q' q => ⟨_, rfl, _, rfl, iteT ⟨_, rfl, _, _, 3, _, rfl, rfl, hT, rfl, rfl, _, rfl, iteT ⟨_, rfl, _, _, 2, _, rfl, rfl, hT, rfl, rfl, _, rfl, q⟩⟩⟩) (fun _ => ?_) (fun z => nomatch z)
        refine ⟨_, rfl, _, _, 0, _, rfl, rfl, hT, rfl, _, rfl, _, _, 1, _, rfl, rfl, hT, rfl, fun x dx nx ndx nex => ?_⟩
        refine ⟨x, dx, ⟨f, s, none, none, 1⟩, rfl, ok, upd_same, fun H' b e => ⟨rfl, ?_⟩⟩
        exact k x H' nx (made nx ndx nex b e).1 (made nx ndx nex b e).2
      | some lo =>
        refine sqIf (b := false) (fun Q' q => ⟨_, rfl, _, rfl, iteT ⟨_, rfl, _, _, 3, _, rfl, rfl, hT, rfl, rfl, _, rfl, iteT ⟨_, rfl, _, _, 2, _, rfl, rfl, hT, rfl, rfl, _, rfl, q⟩⟩⟩) (fun z => nomatch z) (fun _ => nxt ?_)
        refine sqIf (b := true) (fun Q' q => ⟨_, rfl, _, rfl, iteT ⟨_, rfl, _, _, 3, _, rfl, rfl, hT, rfl, rfl, _, rfl, q⟩⟩) (fun _ => ?_) (fun z => nomatch z)
        refine ⟨_, rfl, _, _, 0, _, rfl, rfl, hT, rfl, _, rfl, _, _, 1, _, rfl, rfl, hT, rfl, _, rfl, _, _, 2, _, rfl, rfl, hT, rfl, fun x dx nx ndx nex => ?_⟩
        refine ⟨x, dx, ⟨f, s, some lo, none, 1⟩, rfl, ok, upd_same, fun H' b e => ⟨rfl, ?_⟩⟩
        exact k x H' nx (made nx ndx nex b e).1 (made nx ndx nex b e).2
    | some hi =>
      refine sqIf (b := false) (fun Q' q => ⟨_, rfl, _, rfl, iteT ⟨_, rfl, _, _, 3, _, rfl, rfl, hT, rfl, rfl, _, rfl, iteF q⟩⟩) (fun z => nomatch z) (fun _ => nxt ?_)
      refine sqIf (b := false) (fun Q' q => ⟨_, rfl, _, rfl, iteT ⟨_, rfl, _, _, 3, _, rfl, rfl, hT, rfl, rfl, _, rfl, q⟩⟩) (fun z => nomatch z) (fun _ => nxt ?_)
      refine sqIf (b := true) (fun Q' q => ⟨_, rfl, _, rfl, q⟩) (fun _ => ?_) (fun z => nomatch z)
      refine ⟨_, rfl, _, _, 0, _, rfl, rfl, hT, rfl, _, rfl, _, _, 1, _, rfl, rfl, hT, rfl, _, rfl, _, _, 2, _, rfl, rfl, hT, rfl, _, rfl, _, _, 3, _, rfl, rfl, hT, rfl, fun x dx nx ndx nex => ?_⟩
      refine ⟨x, dx, ⟨f, s, lo, some hi, 1⟩, rfl, ok, upd_same, fun H' b e => ⟨rfl, ?_⟩⟩
      exact k x H' nx (made nx ndx nex b e).1 (made nx ndx nex b e).2
theorem ok_law_excess (T : Txt P K mg) : FnOk P w K mg base CX0 1 T.a_law_excess T.d_law_excess ["_law_tell", "_law_levels_here"] (spLExcess K) := by
  refine T.F_law_excess.ok sc_law_excess (fun vs H Q E h => ?_) (fun cdv A outer s H vs Q E hr h => ?_)
  · obtain ⟨p, a, t, ns, x, y, rfl, _⟩ := h
    rfl
  refine ⟨_, (pss_cons (ps_set (i := 2) sc_law_excess.nd rfl (Or.inl rfl) (pe_op op_sub (pe_ix ix_list (pv 1) (pe_ix ix_tup (pv 0) pe_int (fun _ _ => rfl)) (fun _ _ => rfl)) (pe_ix ix_list (pv 1) (pe_ix ix_tup (pv 0) pe_int (fun _ _ => rfl)) (fun _ _ => rfl)))) (pss_cons (ps_if (PW.pt (pw_and (pt_cmpR op_notN (pe_ix ix_tup (pv 0) pe_int (fun _ _ => rfl)) pe_non (nomark _)) (pw_and1 (pt_cmpR op_lt (pv 2) (pe_ix ix_tup (pv 0) pe_int (fun _ _ => rfl)) (nomark _))))) (pss_one (ps_ret (pe_op op_sub (pe_ix ix_tup (pv 0) pe_int (fun _ _ => rfl)) (pv 2)))) pss_nil) (pss_cons (ps_if (PW.pt (pw_and (pt_cmpR op_notN (pe_ix ix_tup (pv 0) pe_int (fun _ _ => rfl)) pe_non (nomark _)) (pw_and1 (pt_cmpR op_gt (pv 2) (pe_ix ix_tup (pv 0) pe_int (fun _ _ => rfl)) (nomark _))))) (pss_one (ps_ret (pe_op op_sub (pv 2) (pe_ix ix_tup (pv 0) pe_int (fun _ _ => rfl))))) pss_nil) (pss_one (ps_ret pe_int))))), ?_⟩
  obtain ⟨p, a, t, ns, x, y, rfl, hT, hS, hx, hy, k⟩ := h
  refine ⟨_, rfl, _, rfl, _, _, 1, _, rfl, rfl, hT, rfl, _, _, _, _, rfl, rfl, hS, atI_opt hy, _, rfl, _, rfl, _, _, 0, _, rfl, rfl, hT, rfl, _, _, _, _, rfl, rfl, hS, atI_opt hx, _, _, rfl, rfl, asg ?_⟩
  refine sqIf (b := t.lo.elim false fun l => decide (y - x < l)) (fun Q' q => ?_) (fun c => ?_) (fun c => nxt ?_)
  · refine ⟨_, rfl, _, _, 2, _, rfl, rfl, hT, rfl, rfl, _, rfl, ?_⟩
    cases hl : t.lo with
    | none => rw [hl] at q; exact iteF q
    | some l =>
      rw [hl] at q
      exact iteT ⟨_, rfl, _, rfl, _, _, 2, _, rfl, rfl, hT, rfl, _, _, rfl, by rw [hl]; rfl, _, rfl, q⟩
  · cases hl : t.lo with
    | none => rw [hl] at c; cases c
    | some l =>
      refine ⟨_, rfl, _, _, 2, _, rfl, rfl, hT, rfl, _, rfl, _, _, by rw [hl]; rfl, rfl, ?_⟩
      unfold exc at k
      rw [if_pos c, hl] at k
      exact k
  unfold exc at k
  rw [if_neg (by rw [c]; exact Bool.false_ne_true)] at k
  refine sqIf (b := t.hi.elim false fun h => decide (h < y - x)) (fun Q' q => ?_) (fun c => ?_) (fun c => nxt ?_)
  · refine ⟨_, rfl, _, _, 3, _, rfl, rfl, hT, rfl, rfl, _, rfl, ?_⟩
    cases hl : t.hi with
    | none => rw [hl] at q; exact iteF q
    | some l =>
      rw [hl] at q
      exact iteT ⟨_, rfl, _, rfl, _, _, 3, _, rfl, rfl, hT, rfl, _, _, rfl, by rw [hl]; rfl, _, rfl, q⟩
  · cases hl : t.hi with
    | none => rw [hl] at c; cases c
    | some l =>
      refine ⟨_, rfl, _, rfl, _, _, 3, _, rfl, rfl, hT, rfl, _, _, rfl, by rw [hl]; rfl, ?_⟩
      rw [if_pos c, hl] at k
      exact k
  rw [if_neg (by rw [c]; exact Bool.false_ne_true)] at k
  exact k
theorem ok_law_wider (T : Txt P K mg) : FnOk P w K mg base CX0 1 T.a_law_wider T.d_law_wider ["_law_tell", "_law_amount"] (spWider K) := by
  refine T.F_law_wider.ok sc_law_wider (fun vs H Q E h => ?_) (fun cdv A outer s H vs Q E hr h => ?_)
  · obtain ⟨p, t, n, rfl, _⟩ := h
    rfl
  refine ⟨_, (pss_cons (ps_set (i := 2) sc_law_wider.nd rfl (Or.inl rfl) (pe_ix ix_tup (pv 0) pe_int (fun _ _ => rfl))) (pss_cons (ps_set (i := 3) sc_law_wider.nd rfl (Or.inl rfl) (pe_ix ix_tup (pv 0) pe_int (fun _ _ => rfl))) (pss_cons (ps_if (pt_cmpR op_notN (pv 2) pe_non (nomark _)) (pss_one (ps_set (i := 2) sc_law_wider.nd rfl (Or.inl rfl) (pe_op op_sub (pv 2) (pv 1)))) pss_nil) (pss_cons (ps_if (pt_cmpR op_notN (pv 3) pe_non (nomark _)) (pss_one (ps_set (i := 3) sc_law_wider.nd rfl (Or.inl rfl) (pe_op op_add (pv 3) (pv 1)))) pss_nil) (pss_one (ps_ret (pe_tup (pa_cons (pe_ix ix_tup (pv 0) pe_int (fun _ _ => rfl)) (pa_cons (pe_ix ix_tup (pv 0) pe_int (fun _ _ => rfl)) (pa_cons (pv 2) (pa_cons (pv 3) (pa_cons (pe_ix ix_tup (pv 0) pe_int (fun _ _ => rfl)) pa_nil)))))))))))), ?_⟩
  obtain ⟨p, ⟨f, s, lo, hi, m⟩, n, rfl, hT, k⟩ := h
  refine ⟨_, rfl, _, _, 2, _, rfl, rfl, hT, rfl, asg ⟨_, rfl, _, _, 3, _, rfl, rfl, hT, rfl, asg ?_⟩⟩
  refine cutS (M := fun σ' H' => H' = H ∧ σ' = [some (.ref p), some (.int n), some (vo (lo.map (· - n))), some (vo hi)]) ?_ (fun M => ?_)
  · rintro σ' H' ⟨rfl, rfl⟩
    refine cutS (M := fun σ' H2 => H2 = H' ∧ σ' = [some (.ref p), some (.int n), some (vo (lo.map (· - n))), some (vo (hi.map (· + n)))]) ?_ (fun M => ?_)
    · rintro σ' H2 ⟨rfl, rfl⟩
      refine ⟨_, rfl, _, _, 0, _, rfl, rfl, hT, rfl, _, rfl, _, _, 1, _, rfl, rfl, hT, rfl, _, rfl, _, rfl, _, rfl, _, _, 4, _, rfl, rfl, hT, rfl, sz5, fun q hq => ?_⟩
      exact k q _ hq (Same.new hq) upd_same
    · cases hi with
      | none => exact sqIf (b := false) (fun Q' q => ⟨_, rfl, rfl, _, rfl, q⟩) (fun z => nomatch z) (fun _ => nxt (M _ _ ⟨rfl, rfl⟩))
      | some l => exact sqIf (b := true) (fun Q' q => ⟨_, rfl, rfl, _, rfl, q⟩) (fun _ => ⟨_, rfl, _, rfl, _, _, rfl, rfl, asg (M _ _ ⟨rfl, rfl⟩)⟩) (fun z => nomatch z)
  · cases lo with
    | none => exact sqIf (b := false) (fun Q' q => ⟨_, rfl, rfl, _, rfl, q⟩) (fun z => nomatch z) (fun _ => nxt (M _ _ ⟨rfl, rfl⟩))
    | some l => exact sqIf (b := true) (fun Q' q => ⟨_, rfl, rfl, _, rfl, q⟩) (fun _ => ⟨_, rfl, _, rfl, _, _, rfl, rfl, asg (M _ _ ⟨rfl, rfl⟩)⟩) (fun z => nomatch z)
theorem ok_law_turned (T : Txt P K mg) : FnOk P w K mg base CX0 1 T.a_law_turned T.d_law_turned ["_law_tell"] (spLTurned K) := by
  refine T.F_law_turned.ok sc_law_turned (fun vs H Q E h => ?_) (fun cdv A outer s H vs Q E hr h => ?_)
  · obtain ⟨p, t, rfl, _⟩ := h
    rfl
  refine ⟨_, (pss_cons (ps_set (i := 1) sc_law_turned.nd rfl (Or.inl rfl) pe_non) (pss_cons (ps_set (i := 2) sc_law_turned.nd rfl (Or.inl rfl) pe_non) (pss_cons (ps_if (pt_cmpR op_notN (pe_ix ix_tup (pv 0) pe_int (fun _ _ => rfl)) pe_non (nomark _)) (pss_one (ps_set (i := 1) sc_law_turned.nd rfl (Or.inl rfl) (pe_op op_sub pe_int (pe_ix ix_tup (pv 0) pe_int (fun _ _ => rfl))))) pss_nil) (pss_cons (ps_if (pt_cmpR op_notN (pe_ix ix_tup (pv 0) pe_int (fun _ _ => rfl)) pe_non (nomark _)) (pss_one (ps_set (i := 2) sc_law_turned.nd rfl (Or.inl rfl) (pe_op op_sub pe_int (pe_ix ix_tup (pv 0) pe_int (fun _ _ => rfl))))) pss_nil) (pss_one (ps_ret (pe_tup (pa_cons (pe_ix ix_tup (pv 0) pe_int (fun _ _ => rfl)) (pa_cons (pe_ix ix_tup (pv 0) pe_int (fun _ _ => rfl)) (pa_cons (pv 1) (pa_cons (pv 2) (pa_cons (pe_ix ix_tup (pv 0) pe_int (fun _ _ => rfl)) pa_nil)))))))))))), ?_⟩
  obtain ⟨p, ⟨f, s, lo, hi, m⟩, rfl, hT, k⟩ := h
  refine asg (asg ?_)
  refine cutS (M := fun σ' H' => H' = H ∧ σ' = [some (.ref p), some (vo (hi.map (- ·))), some .non]) ?_ (fun M => ?_)
  · rintro σ' H' ⟨rfl, rfl⟩
    refine cutS (M := fun σ' H2 => H2 = H' ∧ σ' = [some (.ref p), some (vo (hi.map (- ·))), some (vo (lo.map (- ·)))]) ?_ (fun M => ?_)
    · rintro σ' H2 ⟨rfl, rfl⟩
      refine ⟨_, rfl, _, _, 1, _, rfl, rfl, hT, rfl, _, rfl, _, _, 0, _, rfl, rfl, hT, rfl, _, rfl, _, rfl, _, rfl, _, _, 4, _, rfl, rfl, hT, rfl, sz5, fun q hq => ?_⟩
      exact k q _ hq (Same.new hq) upd_same
    · cases lo with
      | none => exact sqIf (b := false) (fun Q' q => ⟨_, rfl, _, _, 2, _, rfl, rfl, hT, rfl, rfl, _, rfl, q⟩) (fun z => nomatch z) (fun _ => nxt (M _ _ ⟨rfl, rfl⟩))
      | some l => exact sqIf (b := true) (fun Q' q => ⟨_, rfl, _, _, 2, _, rfl, rfl, hT, rfl, rfl, _, rfl, q⟩) (fun _ => ⟨_, rfl, _, _, 2, _, rfl, rfl, hT, rfl, _, _, rfl, rfl, asg (M _ _ ⟨rfl, by show [_, _, some (V.int (0 - l))] = [_, _, some (V.int (-l))]; rw [Int.zero_sub]⟩)⟩) (fun z => nomatch z)
  · cases hi with
    | none => exact sqIf (b := false) (fun Q' q => ⟨_, rfl, _, _, 3, _, rfl, rfl, hT, rfl, rfl, _, rfl, q⟩) (fun z => nomatch z) (fun _ => nxt (M _ _ ⟨rfl, rfl⟩))
    | some l => exact sqIf (b := true) (fun Q' q => ⟨_, rfl, _, _, 3, _, rfl, rfl, hT, rfl, rfl, _, rfl, q⟩) (fun _ => ⟨_, rfl, _, _, 3, _, rfl, rfl, hT, rfl, _, _, rfl, rfl, asg (M _ _ ⟨rfl, by show [_, some (V.int (0 - l)), _] = [_, some (V.int (-l)), _]; rw [Int.zero_sub]⟩)⟩) (fun z => nomatch z)
theorem ok_law_same (T : Txt P K mg) : FnOk P w K mg base CX0 2 T.a_law_same T.d_law_same ["_law_actual", "_law_tell"] (spSame K) := by
  refine T.F_law_same.ok sc_law_same (fun vs H Q E h => ?_) (fun cdv A outer s H vs Q E hr h => ?_)
  · obtain ⟨p, a, t, rfl, _⟩ := h
    rfl
  refine ⟨_, (pss_cons (ps_if (PW.pt (pw_or (pt_not (pt_val (pe_callB call_isi (by rfl) T.z_isinstance (by decide +kernel) (pa_cons (pv 0) (pa_cons (pe_bltn (v := .ty "tuple") (u := .type "tuple") (by rfl) T.z_tuple (by decide +kernel) rfl) pa_nil))))) (pw_or1 (pt_cmpR op_ne (pe_callB call_len_seq (by rfl) T.z_len (by decide +kernel) (pa_cons (pv 0) pa_nil)) pe_int (nomark _))))) (pss_one (ps_ret pe_bl)) pss_nil) (pss_cons (ps_for PassesOwn.never rfl (pi_range1 (by rfl) T.z_range (pa_cons pe_int pa_nil)) (pg_name (i := 2) sc_law_same.nd rfl (Or.inl rfl)) (pss_one (ps_if (pt_cmpR op_isN (pe_ix ix_tup (pv 1) (pv 2) (fun _ _ => rfl)) pe_non (nomark _)) (pss_one (ps_if (pt_cmpR op_notN (pe_ix ix_tup (pv 0) (pv 2) (fun _ _ => rfl)) pe_non (nomark _)) (pss_one (ps_ret pe_bl)) pss_nil)) (pss_one (ps_if (PW.pt (pw_or (pt_not (pt_val (pe_call (ok_law_whole T) (hr.mono (by decide)) (by rfl) T.m_law_whole T.F_law_whole.kp T.b_law_whole .nil pass0 (pa_cons (pe_ix ix_tup (pv 0) (pv 2) (fun _ _ => rfl)) pa_nil)))) (pw_or1 (pt_cmpR op_ne (pe_ix ix_tup (pv 0) (pv 2) (fun _ _ => rfl)) (pe_ix ix_tup (pv 1) (pv 2) (fun _ _ => rfl)) (nomark _))))) (pss_one (ps_ret pe_bl)) pss_nil))))) (pss_one (ps_ret pe_bl)))), ?_⟩
  obtain ⟨p, a, t, rfl, hp, hT, k⟩ := h
  refine sqIf (put_is (b := false) (put_or (put_not (a := true) (fun Q' q => ⟨_, rfl, _, _, _, _, _, rfl, .ty _, .base (.tup hp), kit_ty kit_tup_tup, _, rfl, q⟩)) (fun _ Q' q => ⟨_, rfl, p, _, rfl, .inr (.inl (.inl hp)), rfl, _, rfl, q⟩)) (by rw [dec_int]; rfl)) (fun z => nomatch z) (fun _ => nxt ?_)
  refine ⟨5, rfl, by decide, by decide, for_range (n := 5) (fun i σ H' => H' = H ∧ ∃ v, σ = [some (.ref p), some (.ref a), v]) ⟨rfl, none, rfl⟩ ?_ ?_⟩
  · rintro i σ H' hi ⟨rfl, v, rfl⟩
    obtain ⟨o, ho⟩ := tv_at t i hi
    cases o with
    | none =>
      refine ifS_of (b := true) (fun Q' q => ⟨_, rfl, _, rfl, _, _, _, _, rfl, rfl, hT, atI0 ho, rfl, _, rfl, q⟩) (fun _ => ?_) (fun z => nomatch z)
      refine ifS_of (b := false) (fun Q' q => ⟨_, rfl, _, rfl, _, _, _, _, rfl, rfl, .inl (.inl hp), atI0 ho, rfl, _, rfl, q⟩) (fun z => nomatch z) (fun _ => nxt ?_)
      exact ⟨rfl, _, rfl⟩
    | some n =>
      refine ifS_of (b := false) (fun Q' q => ⟨_, rfl, _, rfl, _, _, _, _, rfl, rfl, hT, atI0 ho, rfl, _, rfl, q⟩) (fun z => nomatch z) (fun _ => ?_)
      refine ifS_of (put_is (b := false) (put_or (put_not (a := true) (fun Q' q => ⟨_, rfl, _, rfl, _, _, _, _, rfl, rfl, .inl (.inl hp), atI0 ho, n, rfl, _, rfl, q⟩)) (fun _ Q' q => ⟨_, rfl, _, rfl, _, _, _, _, rfl, rfl, .inl (.inl hp), atI0 ho, _, rfl, _, rfl, _, _, _, _, rfl, rfl, hT, atI0 ho, rfl, _, rfl, q⟩)) (by rw [decide_eq_true rfl]; rfl)) (fun z => nomatch z) (fun _ => nxt ?_)
      exact ⟨rfl, _, rfl⟩
  · rintro σ H' ⟨rfl, v, rfl⟩
    exact k

theorem ok_law_rows (T : Txt P K mg) : FnOk P w K mg base CX0 1 T.a_law_rows T.d_law_rows ["_law_tell", "_law_levels_here"] (spRows K) := by
  refine T.F_law_rows.ok sc_law_rows (fun vs H Q E h => ?_) (fun cdv A outer s H vs Q E hr h => ?_)
  · obtain ⟨p, a, t, ns, rfl, _⟩ := h
    rfl
  refine ⟨_, (pss_cons (ps_set (i := 2) sc_law_rows.nd rfl (Or.inl rfl) (pe_lst (pa_cons (pv 1) (pa_cons (pe_lc (own := [("_law_level", 6)]) (g := gName 6) (tt := tYes) (by rfl) sc_law_rows.nd (pi_list (pv 1)) (blkOk_by (own := [("_law_level", 6)]) (N := ["_law_tell", "_law_levels_here", "_law_rows_here", "_law_bound", "_law_move", "_law_row", "_law_level"]) (sc := defScope s_law_rows) (by decide +kernel)) (fun _ _ _ _ _ => pg_name (i := 6) sc_law_rows.nd rfl (Or.inl rfl)) (fun _ _ _ _ _ => pts_nil) (fun _ _ _ _ _ => (pe_op op_add (pv 6) pe_int))) pa_nil)))) (pss_cons (ps_if (pt_cmpR op_ne (pe_ix ix_tup (pv 0) pe_int (fun _ _ => rfl)) (pe_ix ix_tup (pv 0) pe_int (fun _ _ => rfl)) (nomark _)) (pss_one (ps_for PassesOwn.never rfl (pi_list (pe_lst (pa_cons (pe_ix ix_tup (pv 0) pe_int (fun _ _ => rfl)) (pa_cons (pe_ix ix_tup (pv 0) pe_int (fun _ _ => rfl)) pa_nil)))) (pg_name (i := 3) sc_law_rows.nd rfl (Or.inl rfl)) (pss_one (ps_if (pt_cmpR op_notN (pv 3) pe_non (nomark _)) (pss_one (ps_for PassesOwn.never rfl (pi_list (pe_lst (pa_cons (pe_op op_sub pe_int pe_int) (pa_cons pe_int (pa_cons pe_int pa_nil))))) (pg_name (i := 4) sc_law_rows.nd rfl (Or.inl rfl)) (pss_cons (ps_set (i := 5) sc_law_rows.nd rfl (Or.inl rfl) (pe_callTy call_list_of (by rfl) T.z_list (by decide +kernel) (pa_cons (pv 1) pa_nil))) (pss_cons (ps_asg (pe_op op_add (pe_op op_add (pe_ix ix_list (pv 5) (pe_ix ix_tup (pv 0) pe_int (fun _ _ => rfl)) (fun _ _ => rfl)) (pv 3)) (pv 4)) (pg_sub (pv 5) (pe_ix ix_tup (pv 0) pe_int (fun _ _ => rfl)) set_list)) (pss_one (ps_expr (pe_bm PySem.F.plainAttrs_list PySem.F.slot_list_append PySem.F.type_list_append mt_append (pv 2) (pa_cons (pv 5) pa_nil)))))))) pss_nil)))) pss_nil) (pss_one (ps_ret (pv 2))))), ?_⟩
  obtain ⟨p, a, ⟨f, s, lo, hi, m⟩, ns, rfl, hT, hS, hf, hs, hn, k⟩ := h
  obtain ⟨x, hx⟩ : ∃ x, ns[f]? = some x := ⟨_, List.getElem?_eq_getElem hf⟩
  refine ⟨_, rfl, _, rfl, a, rfl, ⟨_, hS⟩, fun D hD => lc_list (K := K) (a := a) (xs := ns.map V.int) (fun i H' => ∃ ms : List Int, ms.length = i ∧ H' D = some (.lst (ms.map V.int)) ∧ But D H H')
    ⟨[], rfl, upd_same, But.upd⟩ (fun i H' _ ⟨ms, _, _, b⟩ => (b.same hD).seq hS) ?_ ?_⟩
  · rintro i y H' hy ⟨ms, hm, hD', b⟩
    obtain ⟨n, hn', rfl⟩ : ∃ n, ns[i]? = some n ∧ y = V.int n := by
      rw [List.getElem?_map] at hy
      cases e : ns[i]? with
      | none => rw [e] at hy; cases hy
      | some n => rw [e] at hy; exact ⟨n, rfl, (Option.some.inj hy).symm⟩
    have hi : i < ns.length := (List.getElem?_eq_some_iff.mp hn').1
    refine ⟨rfl, ?_⟩
    refine yesT ?_
    exact ⟨_, rfl, _, _, rfl, rfl, _, hD', small6 (by rw [List.length_map]; omega), ms ++ [n + 5], by simp [hm], by rw [upd_same, List.map_append]; rfl, b.trans But.upd⟩
  · rintro H1 ⟨ms, hm, hD1, b1⟩
    have s1 : Same H H1 := b1.same hD
    refine ⟨sz2, fun r hr => asg ?_⟩
    have Dr : D ≠ r := ne_of_none hD1 hr
    have R0 : RwI K H a r ns.length [a, D] (upd H1 r (.lst [.ref a, .ref D])) := by
      refine ⟨upd_same, fun l hl => ?_, s1.trans (wo_new hr), fun l hl => ?_⟩
      rotate_left
      · simp only [List.mem_cons, List.not_mem_nil, or_false] at hl
        rcases hl with rfl | rfl
        · exact .inl rfl
        · exact .inr hD
      simp only [List.mem_cons, List.not_mem_nil, or_false] at hl
      rcases hl with rfl | rfl
      · exact ⟨ns, (s1.trans (wo_new hr)).seq hS, rfl⟩
      · exact ⟨ms, (wo_new hr).seq (.inl (.inl hD1)), by rw [hm, List.length_map]⟩
    refine cutS (M := fun σ' H' => ∃ (ls : List Addr) (v3 v4 v5 v6 : Option V), σ' = [some (.ref p), some (.ref a), some (.ref r), v3, v4, v5, v6] ∧ ls.length ≤ 100 ∧ RwI K H a r ns.length ls H') ?_ (fun M => ?_)
    · rintro σ' H' ⟨ls, v3, v4, v5, v6, rfl, hl, R⟩
      exact ⟨_, rfl, k r ls H' (s1.free hr) R.all.1 R.at_ hl R.all.2⟩
    · refine sqIf (b := !decide (V.int f = V.int s)) (fun Q' q => ⟨_, rfl, _, _, 0, _, rfl, rfl, SqT.keep hT (s1.trans (Same.new hr)), rfl, _, rfl, _, _, 1, _, rfl, rfl, SqT.keep hT (s1.trans (Same.new hr)), rfl, rfl, _, rfl, q⟩) (fun _ => ?_) (fun _ => nxt (M _ _ ⟨[a, D], none, none, none, none, rfl, (by show 2 ≤ 100; decide), R0⟩))
      have hT' := SqT.keep hT (s1.trans (Same.new (o := .lst [.ref a, .ref D]) hr))
      refine ⟨_, rfl, _, _, 2, _, rfl, rfl, hT', rfl, _, rfl, _, _, 3, _, rfl, rfl, hT', rfl, sz2, fun l1 hl1 => ⟨l1, rfl, ⟨_, .inl (.inl upd_same)⟩, ?_⟩⟩
      have l1r : l1 ≠ r := fun z => by rw [z, upd_same] at hl1; cases hl1
      refine for_list (K := K) (a := l1) (xs := [vo lo, vo hi]) (fun i σ H' => ∃ (ls : List Addr) (v3 v4 v5 v6 : Option V), σ = [some (.ref p), some (.ref a), some (.ref r), v3, v4, v5, v6] ∧ ls.length ≤ 2 + 3 * i ∧ RwI K H a r ns.length ls H' ∧ SqL K (wo [r] H') l1 [vo lo, vo hi])
        ⟨[a, D], none, none, none, none, rfl, (by show 2 ≤ 2 + 3 * 0; decide), ?_, ?_⟩ (fun i σ H' _ ⟨ls, v3, v4, v5, v6, _, _, _, q⟩ => (wo_same [r] H').seq q) ?_ ?_
      · refine ⟨?_, fun l hl => ?_, fun b o e => ?_, R0.new⟩
        · rw [upd_ne l1r.symm]; exact R0.at_
        · obtain ⟨ms, e, q⟩ := R0.each l hl
          exact ⟨ms, (Same.wo (Same.new hl1)).seq e, q⟩
        · exact Same.wo (Same.new hl1) b o (R0.old b o e)
      · exact .inl (.inl (by rw [wo_out (by simpa using l1r), upd_same]))
      · rintro i y σ H2 hy ⟨ls, v3, v4, v5, v6, rfl, hl, R, q1⟩
        have hi2 : i < 2 := (List.getElem?_eq_some_iff.mp hy).1
        obtain ⟨o, rfl⟩ : ∃ o : Option Int, y = vo o := by
          match i, hy with
          | 0, hy => exact ⟨lo, (Option.some.inj hy).symm⟩
          | 1, hy => exact ⟨hi, (Option.some.inj hy).symm⟩
        cases o with
        | none =>
          refine ifS_of (b := false) (fun Q' q => ⟨_, rfl, rfl, _, rfl, q⟩) (fun z => nomatch z) (fun _ => nxt ?_)
          exact ⟨ls, _, v4, v5, v6, rfl, by omega, R, q1⟩
        | some bd =>
          refine ifS_of (b := true) (fun Q' q => ⟨_, rfl, rfl, _, rfl, q⟩) (fun _ => ?_) (fun z => nomatch z)
          refine ⟨_, _, rfl, rfl, sz3, fun l2 hl2 => ⟨l2, rfl, ⟨_, .inl (.inl upd_same)⟩, ?_⟩⟩
          have l2r : l2 ≠ r := fun z => by rw [z, R.at_] at hl2; cases hl2
          refine for_list (K := K) (a := l2) (xs := [V.int (0 - 1), V.int 0, V.int 1]) (fun j σ H' => ∃ (ls : List Addr) (v4 v5 v6 : Option V), σ = [some (.ref p), some (.ref a), some (.ref r), some (.int bd), v4, v5, v6] ∧ ls.length ≤ 2 + 3 * i + j ∧ RwI K H a r ns.length ls H' ∧ SqL K (wo [r] H') l1 [vo lo, vo hi] ∧ SqL K (wo [r] H') l2 [V.int (0 - 1), V.int 0, V.int 1])
            ⟨ls, v4, v5, v6, rfl, by omega, ?_, (Same.wo (Same.new hl2)).seq q1, ?_⟩ (fun i σ H' _ ⟨ls, v4, v5, v6, _, _, _, _, q⟩ => (wo_same [r] H').seq q) ?_ ?_
          · refine ⟨?_, fun l hl => ?_, fun b o e => ?_, R.new⟩
            · rw [upd_ne l2r.symm]; exact R.at_
            · obtain ⟨ms, e, q⟩ := R.each l hl
              exact ⟨ms, (Same.wo (Same.new hl2)).seq e, q⟩
            · exact Same.wo (Same.new hl2) b o (R.old b o e)
          · exact .inl (.inl (by rw [wo_out (by simpa using l2r), upd_same]))
          · rintro j y σ H3 hy ⟨ls, v4, v5, v6, rfl, hl, R, q1, q2⟩
            have hj3 : j < 3 := (List.getElem?_eq_some_iff.mp hy).1
            obtain ⟨mv, rfl⟩ : ∃ mv : Int, y = V.int mv := by
              match j, hy with
              | 0, hy => exact ⟨_, (Option.some.inj hy).symm⟩
              | 1, hy => exact ⟨_, (Option.some.inj hy).symm⟩
              | 2, hy => exact ⟨_, (Option.some.inj hy).symm⟩
            have S3 : Same H H3 := R.old.trans (wo_same [r] H3)
            refine ⟨_, rfl, _, _, rfl, .inl (S3.seq hS), fun l hl => asg ?_⟩
            have lr : l ≠ r := fun z => by rw [z, R.at_] at hl; cases hl
            have T4 := SqT.keep hT (S3.trans (Same.new (o := .lst (ns.map V.int)) hl))
            refine ⟨_, rfl, _, rfl, _, _, 0, _, rfl, rfl, T4, rfl, _, _, _, _, rfl, rfl, .inl (.inl upd_same), atI_opt hx, _, rfl, _, _, rfl, rfl, _, rfl, _, _, rfl, rfl, _, rfl, _, rfl, _, _, 1, _, rfl, rfl, T4, rfl, l, _, _, s, rfl, rfl, upd_same, ixN_j (by rw [List.length_map]; exact hs), ?_⟩
            have S5 : Same H3 (upd (upd H3 l (.lst (ns.map V.int))) l (.lst ((ns.map V.int).set s (.int (x + bd + mv))))) := fun b o e => by
              rw [upd_ne (ne_of_none e hl), upd_ne (ne_of_none e hl)]; exact e
            refine ⟨_, rfl, .inl ⟨rfl, _, .inl (.inl (S5 _ _ R.at_))⟩, _, rfl, r, _, _, rfl, rfl, S5 _ _ R.at_, small6 (by rw [List.length_map]; omega), ?_⟩
            refine ⟨ls ++ [l], _, _, v6, rfl, by simp; omega, R.push S5 (ms := ns.set s (x + bd + mv)) (by rw [upd_same, List.map_set]) (by simp) lr hl, (wo_upd S5).seq q1, (wo_upd S5).seq q2⟩
          · rintro σ H3 ⟨ls, v4, v5, v6, rfl, hl, R, q1, q2⟩
            exact ⟨ls, _, v4, v5, v6, rfl, by simp at hl; omega, R, q1⟩
      · rintro σ H2 ⟨ls, v3, v4, v5, v6, rfl, hl, R, q1⟩
        exact M _ _ ⟨ls, v3, v4, v5, v6, rfl, by simp at hl; omega, R⟩

theorem bl_flat {b : Bool} : decide (V.bl b = V.bl b) = true := decide_eq_true rfl
theorem ok_law_stands (T : Txt P K mg) : FnOk P w K mg base CX0 3 T.a_law_stands T.d_law_stands ["_law_claim", "_law_tell", "_law_rows_here"] (spStands K T.C_Claim) := by
  refine T.F_law_stands.ok sc_law_stands (fun vs H Q E h => ?_) (fun cdv A outer s H vs Q E hr h => ?_)
  · obtain ⟨c, p, r, t, n, rfl, _⟩ := h
    rfl
  refine ⟨_, (pss_cons (ps_if (PW.pt (pw_or (pt_not (pt_val (pe_callB call_isi (by rfl) T.z_isinstance (by decide +kernel) (pa_cons (pv 0) (pa_cons (pe_glob (v := .ref T.C_Claim) rfl T.m_Claim rfl) pa_nil))))) (pw_or1 (pt_not (pt_val (pe_call (ok_law_same T) (hr.mono (by decide)) (by rfl) T.m_law_same T.F_law_same.kp T.b_law_same .nil pass0 (pa_cons (pe_meth0 (pv 0) T.cl_Claim T.t_Claim_parts (ok_Claim_parts T) (hr.mono (by decide)) T.b_Claim_parts .nil pass0) (pa_cons (pv 1) pa_nil)))))))) (pss_one (ps_ret pe_bl)) pss_nil) (pss_cons (ps_if (pt_not (pt_val (pe_call (ok_law_same T) (hr.mono (by decide)) (by rfl) T.m_law_same T.F_law_same.kp T.b_law_same .nil pass0 (pa_cons (pe_tup (pa_cons (pe_fld (pv 0) rfl) (pa_cons (pe_fld (pv 0) rfl) (pa_cons (pe_fld (pv 0) rfl) (pa_cons (pe_fld (pv 0) rfl) (pa_cons (pe_fld (pv 0) rfl) pa_nil)))))) (pa_cons (pv 1) pa_nil))))) (pss_one (ps_ret pe_bl)) pss_nil) (pss_cons (ps_for PassesOwn.never rfl (pi_list (pv 2)) (pg_name (i := 3) sc_law_stands.nd rfl (Or.inl rfl)) (pss_cons (ps_set (i := 4) sc_law_stands.nd rfl (Or.inl rfl) (pe_callTy call_list_of (by rfl) T.z_list (by decide +kernel) (pa_cons (pv 3) pa_nil))) (pss_cons (ps_set (i := 5) sc_law_stands.nd rfl (Or.inl rfl) (pe_meth (pv 0) T.cl_Claim T.t_Claim_excess (ok_Claim_excess T) (hr.mono (by decide)) T.b_Claim_excess .nil pass0 (pa_cons (pv 4) pa_nil))) (pss_cons (ps_set (i := 6) sc_law_stands.nd rfl (Or.inl rfl) (pe_meth (pv 0) T.cl_Claim T.t_Claim_holds (ok_Claim_holds T) (hr.mono (by decide)) T.b_Claim_holds .nil pass0 (pa_cons (pv 4) pa_nil))) (pss_cons (ps_if (PW.pt (pw_or (pt_cmpR (op_neD hr.units) (pv 4) (pv 3) (nomark _)) (pw_or (pt_not (pt_val (pe_call (ok_law_whole T) (hr.mono (by decide)) (by rfl) T.m_law_whole T.F_law_whole.kp T.b_law_whole .nil pass0 (pa_cons (pv 5) pa_nil)))) (pw_or1 (pt_cmpR op_ne (pv 5) (pe_call (ok_law_excess T) (hr.mono (by decide)) (by rfl) T.m_law_excess T.F_law_excess.kp T.b_law_excess .nil pass0 (pa_cons (pv 1) (pa_cons (pv 3) pa_nil))) (nomark _)))))) (pss_one (ps_ret pe_bl)) pss_nil) (pss_cons (ps_if (PW.pt (pw_or (pt_not (pt_val (pe_callB call_isi (by rfl) T.z_isinstance (by decide +kernel) (pa_cons (pv 6) (pa_cons (pe_bltn (v := .ty "bool") (u := .type "bool") (by rfl) T.z_bool (by decide +kernel) rfl) pa_nil))))) (pw_or1 (pt_cmpR op_ne (pv 6) (pe_cmpR op_eq (pv 5) pe_int (nomark _)) (nomark _))))) (pss_one (ps_ret pe_bl)) pss_nil) (pss_one (ps_if (PW.pt (pw_or (pt_cmpR op_ne (pe_meth (pv 0) T.cl_Claim T.t_Claim_excess (ok_Claim_excess T) (hr.mono (by decide)) T.b_Claim_excess .nil pass0 (pa_cons (pe_callTy call_tuple_of (by rfl) T.z_tuple (by decide +kernel) (pa_cons (pv 3) pa_nil)) pa_nil)) (pv 5) (nomark _)) (pw_or1 (pt_cmpR op_ne (pe_meth (pv 0) T.cl_Claim T.t_Claim_holds (ok_Claim_holds T) (hr.mono (by decide)) T.b_Claim_holds .nil pass0 (pa_cons (pe_callTy call_tuple_of (by rfl) T.z_tuple (by decide +kernel) (pa_cons (pv 3) pa_nil)) pa_nil)) (pv 6) (nomark _))))) (pss_one (ps_ret pe_bl)) pss_nil)))))))) (pss_one (ps_ret pe_bl))))), ?_⟩
  obtain ⟨c, p, r, t, n, rfl, ⟨dx, hc⟩, hT, ⟨ls, hr, hl, he⟩, hf, hs, k⟩ := h
  refine ⟨_, rfl, _, _, _, _, _, rfl, .own _, .base (.ins hc T.cl_Claim T.ia_Claim T.isn T.ist T.im_Claim), kit_self, _, rfl, iteF ?_⟩
  refine ⟨_, rfl, _, _, _, rfl, hc, no_parts _, c, t, rfl, ⟨dx, hc⟩, fun q1 H1 hq1 s1 ht1 => ?_⟩
  refine ⟨_, rfl, q1, p, t, rfl, ht1, SqT.keep hT s1, _, rfl, iteF (nxt ?_)⟩
  have hc1 := s1 _ _ hc
  refine ⟨_, rfl, _, _, _, _, _, rfl, hc1, T.cl_Claim, T.n_Claim_first, cf_f _, _, rfl, _, _, _, _, _, rfl, hc1, T.cl_Claim, T.n_Claim_second, cf_s _, _, rfl, _, _, _, _, _, rfl, hc1, T.cl_Claim, T.n_Claim_low, cf_l _, _, rfl, _, _, _, _, _, rfl, hc1, T.cl_Claim, T.n_Claim_high, cf_h _, _, rfl, _, _, _, _, _, rfl, hc1, T.cl_Claim, T.n_Claim_weight, cf_w _, sz5, fun q2 hq2 => ?_⟩
  have s2 : Same H (upd H1 q2 (.tup (tv t))) := s1.trans (Same.new hq2)
  refine ⟨_, rfl, q2, p, t, rfl, upd_same, SqT.keep hT s2, _, rfl, iteF (nxt ?_)⟩
  refine ⟨_, rfl, r, rfl, ⟨_, .inl (.inl (s2 _ _ hr))⟩, for_list (K := K) (a := r) (xs := ls.map V.ref) (fun i σ H' => ∃ v3 v4 v5 v6 : Option V, σ = [some (.ref c), some (.ref p), some (.ref r), v3, v4, v5, v6] ∧ Same H H')
    ⟨none, none, none, none, rfl, s2⟩ (fun i σ H' _ ⟨_, _, _, _, _, q⟩ => .inl (.inl (q _ _ hr))) ?_ ?_⟩
  · rintro i y σ H3 hy ⟨v3, v4, v5, v6, rfl, s3⟩
    obtain ⟨l, hl', rfl⟩ : ∃ l, l ∈ ls ∧ y = V.ref l := by
      rw [List.getElem?_map] at hy
      cases e : ls[i]? with
      | none => rw [e] at hy; cases hy
      | some l => rw [e] at hy; exact ⟨l, List.mem_of_getElem? e, (Option.some.inj hy).symm⟩
    obtain ⟨ns, hns, hn⟩ := he l hl'
    obtain ⟨x, hx⟩ : ∃ x, ns[t.f]? = some x := ⟨_, List.getElem?_eq_getElem (by omega)⟩
    obtain ⟨z, hz⟩ : ∃ z, ns[t.s]? = some z := ⟨_, List.getElem?_eq_getElem (by omega)⟩
    refine ⟨_, rfl, _, _, rfl, .inl (s3.seq hns), fun d hd => asg ?_⟩
    have s4 : Same H (upd H3 d (.lst (ns.map V.int))) := s3.trans (Same.new hd)
    have hd4 : SqL K (upd H3 d (.lst (ns.map V.int))) d (ns.map V.int) := .inl (.inl upd_same)
    have hc4 := s4 _ _ hc
    refine ⟨_, rfl, _, _, _, rfl, hc4, no_excess _, _, rfl, c, d, t, ns, x, z, rfl, ⟨dx, hc4⟩, .inl hd4, hx, hz, asg ?_⟩
    refine ⟨_, rfl, _, _, _, rfl, hc4, no_holds _, _, rfl, c, d, t, ns, x, z, rfl, ⟨dx, hc4⟩, .inl hd4, hx, hz, asg ?_⟩
    refine sqIf (put_is (b := false) (put_or (fun Q' q => ⟨_, rfl, _, rfl, _, _, dp_list hd4, dp_list (s4.seq hns), shaped_ints ns, shaped_ints ns, _, rfl, q⟩) (fun _ => put_or (put_not (a := true) (fun Q' q => ⟨_, rfl, _, rfl, _, rfl, q⟩)) (fun _ Q' q => ⟨_, rfl, _, rfl, _, rfl, p, l, t, ns, x, z, rfl, SqT.keep hT s4, s4.seq hns, hx, hz, rfl, _, rfl, q⟩)))
      (by rw [eqv_ints, decide_eq_true rfl]; rfl)) (fun z => nomatch z) (fun _ => nxt ?_)
    refine sqIf (put_is (b := false) (put_or (put_not (a := true) (fun Q' q => ⟨_, rfl, _, _, _, _, _, rfl, .ty _, .base (.bl _), kit_ty kit_bool_bool, _, rfl, q⟩)) (fun _ Q' q => ⟨_, rfl, _, rfl, rfl, rfl, _, rfl, q⟩))
      (by rw [dec_int, decide_eq_true rfl]; rfl)) (fun z => nomatch z) (fun _ => nxt ?_)
    refine ⟨_, rfl, _, _, _, rfl, hc4, no_excess _, _, rfl, l, _, rfl, .inl ⟨s4.seq hns, fun d2 hd2 => ?_⟩⟩
    have s5 := s4.trans (Same.new (o := .tup (ns.map V.int)) hd2)
    have hc5 := s5 _ _ hc
    refine ⟨c, d2, t, ns, x, z, rfl, ⟨dx, hc5⟩, .inr (.inl (.inl upd_same)), hx, hz, _, rfl, rfl, _, rfl, ?_⟩
    rw [show (!decide (V.int (exc t x z) = V.int (exc t x z))) = false by rw [decide_eq_true rfl]; rfl]
    refine iteF ⟨_, rfl, _, _, _, rfl, hc5, no_holds _, _, rfl, l, _, rfl, .inl ⟨s5.seq hns, fun d3 hd3 => ?_⟩⟩
    have s6 := s5.trans (Same.new (o := .tup (ns.map V.int)) hd3)
    have hc6 := s6 _ _ hc
    refine ⟨c, d3, t, ns, x, z, rfl, ⟨dx, hc6⟩, .inr (.inl (.inl upd_same)), hx, hz, _, rfl, rfl, _, rfl, ?_⟩
    rw [show (!decide (V.bl (decide (exc t x z = 0)) = V.bl (decide (exc t x z = 0)))) = false by rw [decide_eq_true rfl]; rfl]
    refine iteF (nxt ?_)
    exact ⟨_, _, _, _, rfl, s6⟩
  · rintro σ H3 ⟨v3, v4, v5, v6, rfl, s3⟩
    exact k H3 s3

theorem ok_law (T : Txt P K mg) : FnOk P w K mg base CX0 4 T.a_law T.d_law ["_law_script"] (spLaw K) := by
  refine T.F_law.ok sc_law (fun vs H Q E h => ?_) (fun cdv A outer s H vs Q E hr h => ?_)
  · obtain ⟨a, ns, rfl, _⟩ := h
    rfl
  refine ⟨_, (pss_cons (ps_set (i := 1) sc_law.nd rfl (Or.inl rfl) (pe_call (ok_law_source T) (hr.mono (by decide)) (by rfl) T.m_law_source T.F_law_source.kp T.b_law_source .nil pass0 (pa_cons (pv 0) (pa_cons pe_int pa_nil)))) (pss_cons (ps_set (i := 2) sc_law.nd rfl (Or.inl rfl) (pe_ix ix_list (pe_lst (pa_cons pe_int (pa_cons pe_int pa_nil))) (pe_call (ok_law_draw T) (hr.mono (by decide)) (by rfl) T.m_law_draw T.F_law_draw.kp T.b_law_draw .nil pass0 (pa_cons (pv 1) (pa_cons pe_int pa_nil))) (fun _ _ => rfl))) (pss_cons (ps_set (i := 3) sc_law.nd rfl (Or.inl rfl) (pe_call (ok_law_draw T) (hr.mono (by decide)) (by rfl) T.m_law_draw T.F_law_draw.kp T.b_law_draw .nil pass0 (pa_cons (pv 1) (pa_cons (pv 2) pa_nil)))) (pss_cons (ps_set (i := 4) sc_law.nd rfl (Or.inl rfl) (pe_call (ok_law_draw T) (hr.mono (by decide)) (by rfl) T.m_law_draw T.F_law_draw.kp T.b_law_draw .nil pass0 (pa_cons (pv 1) (pa_cons (pv 2) pa_nil)))) (pss_cons (ps_if (pt_cmpR op_eq (pe_call (ok_law_draw T) (hr.mono (by decide)) (by rfl) T.m_law_draw T.F_law_draw.kp T.b_law_draw .nil pass0 (pa_cons (pv 1) (pa_cons pe_int pa_nil))) pe_int (nomark _)) (pss_one (ps_set (i := 4) sc_law.nd rfl (Or.inl rfl) (pv 3))) pss_nil) (pss_cons (ps_set (i := 5) sc_law.nd rfl (Or.inl rfl) (pe_ix ix_list (pe_lst (pa_cons pe_int (pa_cons pe_int (pa_cons (pe_op op_add pe_int (pe_call (ok_law_draw T) (hr.mono (by decide)) (by rfl) T.m_law_draw T.F_law_draw.kp T.b_law_draw .nil pass0 (pa_cons (pv 1) (pa_cons pe_int pa_nil)))) (pa_cons (pe_op op_add pe_int (pe_call (ok_law_draw T) (hr.mono (by decide)) (by rfl) T.m_law_draw T.F_law_draw.kp T.b_law_draw .nil pass0 (pa_cons (pv 1) (pa_cons pe_int pa_nil)))) pa_nil))))) (pe_call (ok_law_draw T) (hr.mono (by decide)) (by rfl) T.m_law_draw T.F_law_draw.kp T.b_law_draw .nil pass0 (pa_cons (pv 1) (pa_cons pe_int pa_nil))) (fun _ _ => rfl))) (pss_cons (ps_set (i := 6) sc_law.nd rfl (Or.inl rfl) (pe_cmpR op_eq (pe_call (ok_law_draw T) (hr.mono (by decide)) (by rfl) T.m_law_draw T.F_law_draw.kp T.b_law_draw .nil pass0 (pa_cons (pv 1) (pa_cons pe_int pa_nil))) pe_int (nomark _))) (pss_cons (ps_if (pt_val (pv 6)) (pss_one (ps_set (i := 5) sc_law.nd rfl (Or.inl rfl) pe_int)) pss_nil) (pss_cons (ps_set (i := 7) sc_law.nd rfl (Or.inl rfl) (pe_call (ok_law_levels T) (hr.mono (by decide)) (by rfl) T.m_law_levels T.F_law_levels.kp T.b_law_levels .nil pass0 (pa_cons (pe_call (ok_law_source T) (hr.mono (by decide)) (by rfl) T.m_law_source T.F_law_source.kp T.b_law_source .nil pass0 (pa_cons (pv 0) (pa_cons pe_int pa_nil))) (pa_cons (pe_op op_add (pv 2) (pe_call (ok_law_draw T) (hr.mono (by decide)) (by rfl) T.m_law_draw T.F_law_draw.kp T.b_law_draw .nil pass0 (pa_cons (pv 1) (pa_cons pe_int pa_nil)))) pa_nil)))) (pss_cons (ps_set (i := 8) sc_law.nd rfl (Or.inl rfl) (pe_call (ok_law_bounds T) (hr.mono (by decide)) (by rfl) T.m_law_bounds T.F_law_bounds.kp T.b_law_bounds .nil pass0 (pa_cons (pe_call (ok_law_source T) (hr.mono (by decide)) (by rfl) T.m_law_source T.F_law_source.kp T.b_law_source .nil pass0 (pa_cons (pv 0) (pa_cons pe_int pa_nil))) (pa_cons (pe_op op_sub (pe_ix ix_list (pv 7) (pv 4) (fun _ _ => rfl)) (pe_ix ix_list (pv 7) (pv 3) (fun _ _ => rfl))) pa_nil)))) (pss_cons (ps_set (i := 9) sc_law.nd rfl (Or.inl rfl) (pe_tup (pa_cons (pv 3) (pa_cons (pv 4) (pa_cons (pe_ix ix_list (pv 8) pe_int (fun _ _ => rfl)) (pa_cons (pe_ix ix_list (pv 8) pe_int (fun _ _ => rfl)) (pa_cons (pv 5) pa_nil))))))) (pss_cons (ps_set (i := 10) sc_law.nd rfl (Or.inl rfl) (pe_call (ok_law_rows T) (hr.mono (by decide)) (by rfl) T.m_law_rows T.F_law_rows.kp T.b_law_rows .nil pass0 (pa_cons (pv 9) (pa_cons (pv 7) pa_nil)))) (pss_cons (ps_set (i := 11) sc_law.nd rfl (Or.inl rfl) (pe_call (ok_law_made_claim T) (hr.mono (by decide)) (by rfl) T.m_law_made_claim T.F_law_made_claim.kp T.b_law_made_claim .nil pass0 (pa_cons (pv 9) (pa_cons (pv 6) pa_nil)))) (pss_cons (ps_set (i := 12) sc_law.nd rfl (Or.inl rfl) (pe_meth0 (pv 11) T.cl_Claim T.t_Claim_turned (ok_Claim_turned T) (hr.mono (by decide)) T.b_Claim_turned .nil pass0)) (pss_cons (ps_if (PW.pt (pw_or (pt_not (pt_val (pe_call (ok_law_stands T) (hr.mono (by decide)) (by rfl) T.m_law_stands T.F_law_stands.kp T.b_law_stands .nil pass0 (pa_cons (pv 11) (pa_cons (pv 9) (pa_cons (pv 10) pa_nil)))))) (pw_or1 (pt_not (pt_val (pe_call (ok_law_stands T) (hr.mono (by decide)) (by rfl) T.m_law_stands T.F_law_stands.kp T.b_law_stands .nil pass0 (pa_cons (pv 12) (pa_cons (pe_call (ok_law_turned T) (hr.mono (by decide)) (by rfl) T.m_law_turned T.F_law_turned.kp T.b_law_turned .nil pass0 (pa_cons (pv 9) pa_nil)) (pa_cons (pv 10) pa_nil))))))))) (pss_one (ps_ret pe_bl)) pss_nil) (pss_cons (ps_if (pt_not (pt_val (pe_call (ok_law_stands T) (hr.mono (by decide)) (by rfl) T.m_law_stands T.F_law_stands.kp T.b_law_stands .nil pass0 (pa_cons (pe_meth0 (pv 12) T.cl_Claim T.t_Claim_turned (ok_Claim_turned T) (hr.mono (by decide)) T.b_Claim_turned .nil pass0) (pa_cons (pv 9) (pa_cons (pv 10) pa_nil)))))) (pss_one (ps_ret pe_bl)) pss_nil) (pss_cons (ps_set (i := 13) sc_law.nd rfl (Or.inl rfl) (pe_call (ok_law_excess T) (hr.mono (by decide)) (by rfl) T.m_law_excess T.F_law_excess.kp T.b_law_excess .nil pass0 (pa_cons (pv 9) (pa_cons (pv 7) pa_nil)))) (pss_cons (ps_set (i := 14) sc_law.nd rfl (Or.inl rfl) (pe_lst (pa_cons pe_int (pa_cons (pe_call (ok_law_draw T) (hr.mono (by decide)) (by rfl) T.m_law_draw T.F_law_draw.kp T.b_law_draw .nil pass0 (pa_cons (pv 1) (pa_cons pe_int pa_nil))) (pa_cons (pe_call (ok_law_draw T) (hr.mono (by decide)) (by rfl) T.m_law_draw T.F_law_draw.kp T.b_law_draw .nil pass0 (pa_cons (pv 1) (pa_cons (pe_op op_pow pe_int pe_int) pa_nil))) (pa_cons (pv 13) pa_nil)))))) (pss_cons (ps_if (pt_cmpR op_gt (pv 13) pe_int (nomark _)) (pss_cons (ps_expr (pe_bm PySem.F.plainAttrs_list PySem.F.slot_list_append PySem.F.type_list_append mt_append (pv 14) (pa_cons (pe_op op_sub (pv 13) pe_int) pa_nil))) (pss_one (ps_if (PW.pt (pw_or (pt_val (pe_meth (pe_meth (pv 11) T.cl_Claim T.t_Claim_widened (ok_Claim_widened T) (hr.mono (by decide)) T.b_Claim_widened .nil pass0 (pa_cons (pe_op op_sub (pv 13) pe_int) pa_nil)) T.cl_Claim T.t_Claim_holds (ok_Claim_holds T) (hr.mono (by decide)) T.b_Claim_holds .nil pass0 (pa_cons (pv 7) pa_nil))) (pw_or1 (pt_val (pe_meth (pe_meth (pv 12) T.cl_Claim T.t_Claim_widened (ok_Claim_widened T) (hr.mono (by decide)) T.b_Claim_widened .nil pass0 (pa_cons (pe_op op_sub (pv 13) pe_int) pa_nil)) T.cl_Claim T.t_Claim_holds (ok_Claim_holds T) (hr.mono (by decide)) T.b_Claim_holds .nil pass0 (pa_cons (pv 7) pa_nil)))))) (pss_one (ps_ret pe_bl)) pss_nil))) pss_nil) (pss_cons (ps_for PassesOwn.never rfl (pi_list (pv 14)) (pg_name (i := 15) sc_law.nd rfl (Or.inl rfl)) (pss_one (ps_if (pt_not (pt_val (pe_call (ok_law_stands T) (hr.mono (by decide)) (by rfl) T.m_law_stands T.F_law_stands.kp T.b_law_stands .nil pass0 (pa_cons (pe_meth (pv 11) T.cl_Claim T.t_Claim_widened (ok_Claim_widened T) (hr.mono (by decide)) T.b_Claim_widened .nil pass0 (pa_cons (pv 15) pa_nil)) (pa_cons (pe_call (ok_law_wider T) (hr.mono (by decide)) (by rfl) T.m_law_wider T.F_law_wider.kp T.b_law_wider .nil pass0 (pa_cons (pv 9) (pa_cons (pv 15) pa_nil))) (pa_cons (pv 10) pa_nil)))))) (pss_one (ps_ret pe_bl)) pss_nil))) (pss_cons (ps_if (PW.pt (pw_or (pt_not (pt_val (pe_meth (pe_meth (pv 11) T.cl_Claim T.t_Claim_widened (ok_Claim_widened T) (hr.mono (by decide)) T.b_Claim_widened .nil pass0 (pa_cons (pv 13) pa_nil)) T.cl_Claim T.t_Claim_holds (ok_Claim_holds T) (hr.mono (by decide)) T.b_Claim_holds .nil pass0 (pa_cons (pv 7) pa_nil)))) (pw_or1 (pt_not (pt_val (pe_meth (pe_meth (pv 12) T.cl_Claim T.t_Claim_widened (ok_Claim_widened T) (hr.mono (by decide)) T.b_Claim_widened .nil pass0 (pa_cons (pv 13) pa_nil)) T.cl_Claim T.t_Claim_holds (ok_Claim_holds T) (hr.mono (by decide)) T.b_Claim_holds .nil pass0 (pa_cons (pv 7) pa_nil))))))) (pss_one (ps_ret pe_bl)) pss_nil) (pss_one (ps_ret (pe_and (pe_call (ok_law_stands T) (hr.mono (by decide)) (by rfl) T.m_law_stands T.F_law_stands.kp T.b_law_stands .nil pass0 (pa_cons (pv 11) (pa_cons (pv 9) (pa_cons (pv 10) pa_nil)))) (pe_one (pe_call (ok_law_stands T) (hr.mono (by decide)) (by rfl) T.m_law_stands T.F_law_stands.kp T.b_law_stands .nil pass0 (pa_cons (pv 12) (pa_cons (pe_call (ok_law_turned T) (hr.mono (by decide)) (by rfl) T.m_law_turned T.F_law_turned.kp T.b_law_turned .nil pass0 (pa_cons (pv 9) pa_nil)) (pa_cons (pv 10) pa_nil))))))))))))))))))))))))))))), ?_⟩
  obtain ⟨a, sc, rfl, hS, _, k⟩ := h
  refine ⟨_, rfl, a, sc, 0, rfl, hS, by decide, fun s1 H1 n1 e1 hs1 => asg ?_⟩
  refine ⟨sz2, fun l2 hl2 => ?_⟩
  refine ⟨_, rfl, _, _, rfl, hs1.same (Same.new hl2), by decide, by decide, fun r2 H2 r20 r21 hs2 b2 => ?_⟩
  obtain ⟨sz, hsz, hat⟩ := pick [6, 16] r2 r20 r21
  have hsz : sz = 6 ∨ sz = 16 := by simpa using hsz
  refine ⟨_, _, _, _, rfl, rfl, .inl (.inl (b2 l2 _ (hs1.ne hl2) upd_same)), hat, asg ?_⟩
  have W2 : Same H (wo [s1] H2) := (wo_join0 e1 n1).trans ((Same.wo (Same.new hl2)).trans (b2.wo (by simp)))
  refine ⟨_, rfl, _, rfl, _, _, rfl, hs2, by omega, by omega, fun f H3 f0 f1 hs3 b3 => asg ?_⟩
  refine ⟨_, rfl, _, rfl, _, _, rfl, hs3, by omega, by omega, fun s H4 s0 s1' hs4 b4 => asg ?_⟩
  obtain ⟨f, rfl⟩ := Int.eq_ofNat_of_zero_le f0
  obtain ⟨s, rfl⟩ := Int.eq_ofNat_of_zero_le s0
  have W4 : Same H (wo [s1] H4) := W2.trans ((b3.wo (by simp)).trans (b4.wo (by simp)))
  refine cutS (M := fun σ' H' => ∃ s : Nat, σ' = [some (.ref a), some (.ref s1), some (.int sz), some (.int f), some (.int s), none, none, none, none, none, none, none, none, none, none, none] ∧ (s : Int) < sz ∧ Src H' s1 ∧ Same H (wo [s1] H')) ?_ (fun M => ?_)
  rotate_left
  · refine ⟨_, rfl, _, _, rfl, hs4, by decide, by decide, fun r5 H5 _ _ hs5 b5 => ?_⟩
    refine ⟨rfl, _, rfl, ite2 (fun _ => ?_) (fun _ => ?_)⟩
    · exact ⟨_, rfl, asg (M _ _ ⟨f, rfl, f1, hs5, W4.trans (b5.wo (by simp))⟩)⟩
    · exact nxt (M _ _ ⟨s, rfl, s1', hs5, W4.trans (b5.wo (by simp))⟩)
  rintro σ' H5 ⟨s, rfl, hss, hs5, W5⟩
  refine ⟨_, rfl, _, _, rfl, hs5, by decide, by decide, fun r6 H6 r60 r61 hs6 b6 => ?_⟩
  refine ⟨_, _, rfl, rfl, _, rfl, _, _, rfl, hs6, by decide, by decide, fun r7 H7 r70 r71 hs7 b7 => ?_⟩
  refine ⟨_, _, rfl, rfl, sz4, fun l8 hl8 => ?_⟩
  refine ⟨_, rfl, _, _, rfl, hs7.same (Same.new hl8), by decide, by decide, fun r8 H8 r80 r81 hs8 b8 => ?_⟩
  obtain ⟨m, hm, hat⟩ := pick [1, 99, 1 + r6, 1 + r7] r8 r80 r81
  have hm : 1 ≤ m ∧ m ≤ 99 := by
    simp only [List.mem_cons, List.not_mem_nil, or_false] at hm
    omega
  refine ⟨_, _, _, _, rfl, rfl, .inl (.inl (b8 l8 _ (hs7.ne hl8) upd_same)), hat, asg ?_⟩
  have W8 : Same H (wo [s1] H8) := W5.trans ((b6.wo (by simp)).trans ((b7.wo (by simp)).trans ((Same.wo (Same.new hl8)).trans (b8.wo (by simp)))))
  refine ⟨_, rfl, _, _, rfl, hs8, by decide, by decide, fun r9 H9 _ _ hs9 b9 => ⟨rfl, asg ?_⟩⟩
  have W9 : Same H (wo [s1] H9) := W8.trans (b9.wo (by simp))
  generalize decide (V.int r9 = V.int 0) = b
  refine cutS (M := fun σ' H' => ∃ m : Int, σ' = [some (.ref a), some (.ref s1), some (.int sz), some (.int f), some (.int s), some (.int m), some (.bl b), none, none, none, none, none, none, none, none, none] ∧ H' = H9 ∧ 1 ≤ m ∧ m ≤ 99 ∧ (b = true → m = 1)) ?_ (fun M => ?_)
  rotate_left
  · exact sqIf (b := b) (fun Q' q => ⟨_, rfl, _, rfl, q⟩) (fun c => asg (M _ _ ⟨1, rfl, rfl, by decide, by decide, fun _ => rfl⟩)) (fun c => nxt (M _ _ ⟨m, rfl, rfl, hm.1, hm.2, fun z => by rw [c] at z; cases z⟩))
  rintro σ' H9' ⟨m, rfl, rfl, hm0, hm1, hb⟩
  -- the levels
  have hS9 := (W9.trans (wo_same [s1] H9')).seq hS
  refine ⟨_, rfl, a, sc, 1, rfl, hS9, by decide, fun s2 H10 n10 e10 hs10 => ?_⟩
  have s21 : s2 ≠ s1 := hs9.ne n10
  refine ⟨_, rfl, _, rfl, _, _, rfl, hs9.same e10, by decide, by decide, fun r11 H11 r110 r111 hs11 b11 => ?_⟩
  have hs11' : Src H11 s2 := hs10.at b11 s21
  refine ⟨_, _, rfl, rfl, s2, sz + r11, rfl, hs11', by omega, by omega, fun lv nl H12 hlen hlv0 hlv hs12 b12 => asg ?_⟩
  have W12 : Same H (wo [s2, s1] H12) := W9.trans ((wo_join e10 n10).trans ((b11.wo (by simp)).trans (b12.wo (by simp))))
  have lv2 : lv ≠ s2 := hs11'.ne hlv0
  have lv1 : lv ≠ s1 := hs11.ne hlv0
  have hs12' : Src H12 s1 := hs11.at b12 s21.symm
  have L12 : SqL K (wo [s2, s1] H12) lv (nl.map V.int) := .inl (.inl (by rw [wo_out (by simp [lv2, lv1])]; exact hlv))
  obtain ⟨x, hx⟩ : ∃ x, nl[f]? = some x := ⟨_, List.getElem?_eq_getElem (by omega)⟩
  obtain ⟨y, hy⟩ : ∃ y, nl[s]? = some y := ⟨_, List.getElem?_eq_getElem (by omega)⟩
  -- the bounds
  refine ⟨_, rfl, a, sc, 2, rfl, (W12.trans (wo_same _ H12)).seq hS, by decide, fun s3 H13 n13 e13 hs13 => ?_⟩
  have s31 : s3 ≠ s1 := hs12'.ne n13
  have L13 : SqL K H13 lv (nl.map V.int) := e13.seq ((wo_same _ _).seq L12)
  refine ⟨_, rfl, _, rfl, _, _, _, _, rfl, rfl, L13, atI_opt hy, _, rfl, _, rfl, _, _, _, _, rfl, rfl, L13, atI_opt hx, _, _, rfl, rfl, s3, _, rfl, hs13, fun bd lo hi H14 hlh hbd0 hbd hs14 b14 => asg ?_⟩
  have S14 : Same (wo [s2, s1] H12) (wo [s1] H14) := ((wo_join e13 n13).trans (b14.wo (by simp))).trans (wo_drop.trans wo_drop)
  have hs14' : Src H14 s1 := (hs12'.same e13).at b14 s31.symm
  have L14 := S14.seq L12
  refine ⟨_, rfl, _, rfl, _, rfl, _, _, 0, _, rfl, rfl, .inl (.inl hbd), rfl, _, rfl, _, _, 1, _, rfl, rfl, .inl (.inl hbd), rfl, _, rfl, sz5, fun tl htl => asg ?_⟩
  have tl1 : tl ≠ s1 := hs14'.ne htl
  have ok : Ok ⟨f, s, lo, hi, m⟩ := ⟨by show f ≤ 15; omega, by show s ≤ 15; omega, hlh, hm0, hm1⟩
  have S15 : Same (wo [s1] H14) (wo [s1] (upd H14 tl (.tup [V.int f, V.int s, vo lo, vo hi, V.int m]))) := Same.wo (Same.new htl)
  have L15 := S15.seq L14
  have T15 : SqT K (wo [s1] (upd H14 tl (.tup [V.int f, V.int s, vo lo, vo hi, V.int m]))) tl (tv ⟨f, s, lo, hi, m⟩) := .inl (.inl (by rw [wo_out (by simp [tl1]), upd_same]; rfl))
  have hs15 : Src (upd H14 tl (.tup [V.int f, V.int s, vo lo, vo hi, V.int m])) s1 := hs14'.same (Same.new htl)
  generalize upd H14 tl (.tup [V.int f, V.int s, vo lo, vo hi, V.int m]) = H15 at S15 L15 T15 hs15 ⊢
  -- rows, the claim, the claim turned
  have len : nl.length ≤ 100 := by omega
  have hf : f < nl.length := by omega
  have hs : s < nl.length := by omega
  have T15' := SqT.keep T15 (wo_same _ H15)
  refine ⟨_, rfl, _, rfl, tl, lv, ⟨f, s, lo, hi, m⟩, nl, rfl, T15', (wo_same _ H15).seq L15, hf, hs, len, fun rw ls H16 hrw0 e16 hrw hls hin => asg ?_⟩
  have S16 : Same (wo [s1] H15) (wo [s1] H16) := Same.wo e16
  have R16 : Rows K (wo [s1] H16) nl.length rw := by
    refine ⟨ls, by rw [wo_out (by simpa using hs15.ne hrw0)]; exact hrw, hls, fun l hl => ?_⟩
    obtain ⟨hl1, ms, hms, hlen'⟩ := hin l hl
    have n1 : l ≠ s1 := by
      rcases hl1 with rfl | h0
      · exact lv1
      · exact hs15.ne h0
    refine ⟨ms, ?_, hlen'⟩
    have n2 : wo [s1] H16 l = H16 l := wo_out (by simpa using n1)
    unfold SqL Rd at hms ⊢
    rw [n2]
    exact hms
  have hs16 := hs15.same e16
  refine ⟨_, rfl, _, rfl, tl, ⟨f, s, lo, hi, m⟩, b, rfl, SqT.keep T15' e16, ok, hb, fun cl H17 hcl0 e17 hcl => asg ?_⟩
  have cl1 := hs16.ne hcl0
  obtain ⟨dx, hcl⟩ := hcl
  refine ⟨_, rfl, _, _, _, rfl, hcl, no_turned _, cl, ⟨f, s, lo, hi, m⟩, rfl, ok, ⟨dx, hcl⟩, fun tu H18 htu0 e18 htu => asg ?_⟩
  have hs17 := hs16.same e17
  have tu1 := hs17.ne htu0
  have hs18 := hs17.same e18
  have D : LD K T.C_Claim ⟨f, s, lo, hi, m⟩ nl lv tl rw cl tu (wo [s1] H18) := by
    have S18 : Same (wo [s1] H16) (wo [s1] H18) := (Same.wo e17).trans (Same.wo e18)
    refine ⟨S18.seq (S16.seq L15), SqT.keep T15 (S16.trans S18), R16.keep S18, ⟨dx, ?_⟩, ?_⟩
    · rw [wo_out (by simpa using cl1)]; exact e18 _ _ hcl
    · obtain ⟨dt, htu⟩ := htu
      exact ⟨dt, by rw [wo_out (by simpa using tu1)]; exact htu⟩
  have dH : ∀ {H'}, LD K T.C_Claim ⟨f, s, lo, hi, m⟩ nl lv tl rw cl tu (wo [s1] H') → LD K T.C_Claim ⟨f, s, lo, hi, m⟩ nl lv tl rw cl tu H' := fun {H'} d => d.keep (wo_same _ H')
  have d18 := dH D
  refine ⟨_, rfl, _, rfl, _, rfl, cl, tl, rw, ⟨f, s, lo, hi, m⟩, _, rfl, d18.cl, d18.tl, d18.rw, hf, hs, fun H19 e19 => ⟨_, rfl, iteF ?_⟩⟩
  have d19 := d18.keep e19
  refine ⟨_, rfl, _, rfl, tl, ⟨f, s, lo, hi, m⟩, rfl, d19.tl, fun tt H20 htt0 e20 htt => ?_⟩
  have d20 := d19.keep e20
  refine ⟨_, rfl, tu, tt, rw, turn ⟨f, s, lo, hi, m⟩, _, rfl, d20.tu, .inl (.inl htt), d20.rw, hs, hf, fun H21 e21 => ⟨_, rfl, iteF (nxt ?_)⟩⟩
  have d21 := d20.keep e21
  obtain ⟨dtu, hdtu⟩ := d21.tu
  refine ⟨_, rfl, _, _, _, rfl, hdtu, no_turned _, tu, turn ⟨f, s, lo, hi, m⟩, rfl, turn_ok ok, ⟨dtu, hdtu⟩, fun t2 H22 ht20 e22 ht2 => ?_⟩
  rw [turn_turn] at ht2
  have d22 := d21.keep e22
  refine ⟨_, rfl, _, rfl, t2, tl, rw, ⟨f, s, lo, hi, m⟩, _, rfl, ht2, d22.tl, d22.rw, hf, hs, fun H23 e23 => ⟨_, rfl, iteF (nxt ?_)⟩⟩
  have E23 : Same H18 H23 := e19.trans (e20.trans (e21.trans (e22.trans e23)))
  have D23 := D.keep (Same.wo E23)
  have d23 := dH D23
  have hs23 := hs18.same E23
  refine ⟨_, rfl, _, rfl, tl, lv, ⟨f, s, lo, hi, m⟩, nl, x, y, rfl, d23.tl, d23.lv, hx, hy, asg ?_⟩
  have ex0 := exc_nonneg ⟨f, s, lo, hi, m⟩ x y
  generalize hex : exc ⟨f, s, lo, hi, m⟩ x y = ex at ex0 ⊢
  have hexT : exc (turn ⟨f, s, lo, hi, m⟩) y x = ex := (exc_turn x y ok).trans hex
  -- the amounts
  refine ⟨_, rfl, _, _, rfl, hs23, by decide, by decide, fun r24 H24 r240 _ hs24 b24 => ?_⟩
  refine ⟨_, rfl, _, _, rfl, rfl, ⟨by decide, by decide, by decide⟩, _, _, rfl, hs24, by decide, by decide, fun r25 H25 r250 _ hs25 b25 => ?_⟩
  refine ⟨_, rfl, sz4, fun am ham => asg ?_⟩
  have d25 := dH (D23.keep ((b24.wo (by simp)).trans (b25.wo (by simp))))
  have dA := d25.keep (wo_new (o := .lst [V.int 0, V.int r24, V.int r25, V.int ex]) ham)
  refine cutS (M := fun σ' H' => ∃ ms : List Int, σ' = [some (.ref a), some (.ref s1), some (.int sz), some (.int f), some (.int s), some (.int m), some (.bl b), some (.ref lv), some (.ref bd), some (.ref tl), some (.ref rw), some (.ref cl), some (.ref tu), some (.int ex), some (.ref am), none] ∧ H' am = some (.lst (ms.map V.int)) ∧ (∀ v, v ∈ ms → 0 ≤ v) ∧ LD K T.C_Claim ⟨f, s, lo, hi, m⟩ nl lv tl rw cl tu H') ?_ (fun M => ?_)
  rotate_left
  · have all0 : ∀ v : Int, v ∈ [0, r24, r25, ex] → 0 ≤ v := fun v hv => by
      simp only [List.mem_cons, List.not_mem_nil, or_false] at hv
      omega
    refine sqIf (b := decide (0 < ex)) (fun Q' q => ⟨_, rfl, _, _, rfl, rfl, _, rfl, q⟩) (fun c => ?_) (fun c => nxt (M _ _ ⟨[0, r24, r25, ex], rfl, upd_same, all0, dA.keep (wo_same _ _)⟩))
    have c := of_decide_eq_true c
    refine ⟨_, rfl, .inl ⟨rfl, _, .inl (.inl upd_same)⟩, _, rfl, _, _, rfl, rfl, am, _, _, rfl, rfl, upd_same, by show 4 < sizeLine; decide, nxe ?_⟩
    have d26 := (dA.keep (wo_upd (o := .lst [V.int 0, V.int r24, V.int r25, V.int ex, V.int (ex - 1)]) (Same.refl _))).keep (wo_same _ _)
    obtain ⟨dc, hdc⟩ := d26.cl
    refine ⟨_, rfl, _, _, _, rfl, hdc, no_widened _, _, rfl, _, _, rfl, rfl, cl, ⟨f, s, lo, hi, m⟩, ex - 1, rfl, ok, by omega, ⟨dc, hdc⟩, fun q H27 hq0 e27 hq => ?_⟩
    have d27 := d26.keep e27
    obtain ⟨dq, hdq⟩ := hq
    refine ⟨_, _, _, rfl, hdq, no_holds _, _, rfl, q, lv, widen ⟨f, s, lo, hi, m⟩ (ex - 1), nl, x, y, rfl, ⟨dq, hdq⟩, .inl d27.lv, hx, hy, _, rfl, ?_⟩
    rw [exc_widen (by omega) x y ok, hex, if_neg (by omega), decide_eq_false (by omega)]
    obtain ⟨dt, hdt⟩ := d27.tu
    refine iteF ⟨_, rfl, _, _, _, rfl, hdt, no_widened _, _, rfl, _, _, rfl, rfl, tu, turn ⟨f, s, lo, hi, m⟩, ex - 1, rfl, turn_ok ok, by omega, ⟨dt, hdt⟩, fun q2 H28 hq20 e28 hq2 => ?_⟩
    have d28 := d27.keep e28
    obtain ⟨dq2, hdq2⟩ := hq2
    refine ⟨_, _, _, rfl, hdq2, no_holds _, _, rfl, q2, lv, widen (turn ⟨f, s, lo, hi, m⟩) (ex - 1), nl, y, x, rfl, ⟨dq2, hdq2⟩, .inl d28.lv, hy, hx, _, rfl, ?_⟩
    rw [exc_widen (by omega) y x (turn_ok ok), hexT, if_neg (by omega), decide_eq_false (by omega)]
    refine iteF (nxt (M _ _ ⟨[0, r24, r25, ex, ex - 1], rfl, e28 _ _ (e27 _ _ upd_same), fun v hv => ?_, d28⟩))
    simp only [List.mem_cons, List.not_mem_nil, or_false] at hv
    omega
  rintro σ' H30 ⟨ms, rfl, ham', hall, d30⟩
  refine ⟨_, rfl, am, rfl, ⟨_, .inl (.inl ham')⟩, for_list (K := K) (a := am) (xs := ms.map V.int) (fun i σ H' => ∃ v : Option V, σ = [some (.ref a), some (.ref s1), some (.int sz), some (.int f), some (.int s), some (.int m), some (.bl b), some (.ref lv), some (.ref bd), some (.ref tl), some (.ref rw), some (.ref cl), some (.ref tu), some (.int ex), some (.ref am), v] ∧ H' am = some (.lst (ms.map V.int)) ∧ LD K T.C_Claim ⟨f, s, lo, hi, m⟩ nl lv tl rw cl tu H')
    ⟨none, rfl, ham', d30⟩ (fun i σ H' _ ⟨_, _, q, _⟩ => .inl (.inl q)) ?_ ?_⟩
  · rintro i z σ H31 hz ⟨v, rfl, h31, d31⟩
    obtain ⟨n, hn, rfl⟩ : ∃ n, n ∈ ms ∧ z = V.int n := by
      rw [List.getElem?_map] at hz
      cases e : ms[i]? with
      | none => rw [e] at hz; cases hz
      | some n => rw [e] at hz; exact ⟨n, List.mem_of_getElem? e, (Option.some.inj hz).symm⟩
    obtain ⟨dc, hdc⟩ := d31.cl
    refine ⟨_, rfl, _, _, _, rfl, hdc, no_widened _, _, rfl, cl, ⟨f, s, lo, hi, m⟩, n, rfl, ok, hall n hn, ⟨dc, hdc⟩, fun q H32 _ e32 hq => ?_⟩
    have d32 := d31.keep e32
    refine ⟨_, rfl, _, rfl, tl, ⟨f, s, lo, hi, m⟩, n, rfl, d32.tl, fun t3 H33 _ e33 ht3 => ?_⟩
    have d33 := d32.keep e33
    refine ⟨_, rfl, q, t3, rw, widen ⟨f, s, lo, hi, m⟩ n, _, rfl, hq.keep e33, .inl (.inl ht3), d33.rw, hf, hs, fun H34 e34 => ⟨_, rfl, iteF (nxt ?_)⟩⟩
    exact ⟨_, rfl, e34 _ _ (e33 _ _ (e32 _ _ h31)), d33.keep e34⟩
  · rintro σ H31 ⟨v, rfl, h31, d31⟩
    obtain ⟨dc, hdc⟩ := d31.cl
    refine ⟨_, rfl, _, _, _, rfl, hdc, no_widened _, _, rfl, cl, ⟨f, s, lo, hi, m⟩, ex, rfl, ok, ex0, ⟨dc, hdc⟩, fun q H32 _ e32 hq => ?_⟩
    have d32 := d31.keep e32
    obtain ⟨dq, hdq⟩ := hq
    refine ⟨_, _, _, rfl, hdq, no_holds _, _, rfl, q, lv, widen ⟨f, s, lo, hi, m⟩ ex, nl, x, y, rfl, ⟨dq, hdq⟩, .inl d32.lv, hx, hy, _, rfl, ?_⟩
    rw [exc_widen ex0 x y ok, hex, if_pos (Int.le_refl _), decide_eq_true rfl]
    obtain ⟨dt, hdt⟩ := d32.tu
    refine iteF ⟨_, rfl, _, _, _, rfl, hdt, no_widened _, _, rfl, tu, turn ⟨f, s, lo, hi, m⟩, ex, rfl, turn_ok ok, ex0, ⟨dt, hdt⟩, fun q2 H33 _ e33 hq2 => ?_⟩
    have d33 := d32.keep e33
    obtain ⟨dq2, hdq2⟩ := hq2
    refine ⟨_, _, _, rfl, hdq2, no_holds _, _, rfl, q2, lv, widen (turn ⟨f, s, lo, hi, m⟩) ex, nl, y, x, rfl, ⟨dq2, hdq2⟩, .inl d33.lv, hy, hx, _, rfl, ?_⟩
    rw [exc_widen ex0 y x (turn_ok ok), hexT, if_pos (Int.le_refl _), decide_eq_true rfl]
    refine iteF (nxt ?_)
    refine ⟨_, rfl, _, rfl, _, rfl, cl, tl, rw, ⟨f, s, lo, hi, m⟩, _, rfl, d33.cl, d33.tl, d33.rw, hf, hs, fun H34 e34 => ⟨_, rfl, iteT ?_⟩⟩
    have d34 := d33.keep e34
    refine ⟨_, rfl, _, rfl, tl, ⟨f, s, lo, hi, m⟩, rfl, d34.tl, fun t4 H35 _ e35 ht4 => ?_⟩
    have d35 := d34.keep e35
    refine ⟨_, rfl, tu, t4, rw, turn ⟨f, s, lo, hi, m⟩, _, rfl, d35.tu, .inl (.inl ht4), d35.rw, hs, hf, fun H36 e36 => ?_⟩
    exact k H36

end
theorem all_mk {l : PySem.W.OpenLaw} {w : World} {K : PySem.W.Frag} {h : Heap} {mg : Str → Option Value} {fa : Addr} (X : K.In h) (G : h.Ns mainGlobals mg) (hfa : mg "law" = some (.ref fa))
    {f_ClaimI__initI : Addr}
    {od_ClaimI__initI an_ClaimI__initI : Option Addr}
    {sl_ClaimI__initI : Array (Option Value)}
    {oc_ClaimI__initI dc_ClaimI__initI pm_ClaimI__initI cd_ClaimI__initI ct_ClaimI__initI : Value}
    {T_ClaimI__initI : Addr}
    {oT_ClaimI__initI : Obj}
    {D_ClaimI__initI : Addr}
    {nT_ClaimI__initI : Nat}
    {tw_ClaimI__initI_0 : Tok}
    {f_Claim_holds : Addr}
    {od_Claim_holds an_Claim_holds : Option Addr}
    {sl_Claim_holds : Array (Option Value)}
    {oc_Claim_holds kV_Claim_holds dc_Claim_holds pm_Claim_holds cd_Claim_holds ct_Claim_holds : Value}
    {f_Claim_excess : Addr}
    {od_Claim_excess an_Claim_excess : Option Addr}
    {sl_Claim_excess : Array (Option Value)}
    {oc_Claim_excess kV_Claim_excess dc_Claim_excess pm_Claim_excess cd_Claim_excess ct_Claim_excess : Value}
    {f_Claim_turned : Addr}
    {od_Claim_turned an_Claim_turned : Option Addr}
    {sl_Claim_turned : Array (Option Value)}
    {oc_Claim_turned kV_Claim_turned dc_Claim_turned pm_Claim_turned cd_Claim_turned ct_Claim_turned : Value}
    {f_Claim_widened : Addr}
    {od_Claim_widened an_Claim_widened : Option Addr}
    {sl_Claim_widened : Array (Option Value)}
    {oc_Claim_widened kV_Claim_widened dc_Claim_widened pm_Claim_widened cd_Claim_widened ct_Claim_widened : Value}
    {f_Claim_parts : Addr}
    {od_Claim_parts an_Claim_parts : Option Addr}
    {sl_Claim_parts : Array (Option Value)}
    {oc_Claim_parts kV_Claim_parts dc_Claim_parts pm_Claim_parts cd_Claim_parts ct_Claim_parts : Value}
    {f_law_source : Addr}
    {od_law_source an_law_source : Option Addr}
    {sl_law_source : Array (Option Value)}
    {oc_law_source kV_law_source dc_law_source pm_law_source cd_law_source ct_law_source : Value}
    {f_law_draw : Addr}
    {od_law_draw an_law_draw : Option Addr}
    {sl_law_draw : Array (Option Value)}
    {oc_law_draw kV_law_draw dc_law_draw pm_law_draw cd_law_draw ct_law_draw : Value}
    {f_law_whole : Addr}
    {od_law_whole an_law_whole : Option Addr}
    {sl_law_whole : Array (Option Value)}
    {oc_law_whole kV_law_whole dc_law_whole pm_law_whole cd_law_whole ct_law_whole : Value}
    {f_law_levels : Addr}
    {od_law_levels an_law_levels : Option Addr}
    {sl_law_levels : Array (Option Value)}
    {oc_law_levels kV_law_levels dc_law_levels pm_law_levels cd_law_levels ct_law_levels : Value}
    {f_law_clip : Addr}
    {od_law_clip an_law_clip : Option Addr}
    {sl_law_clip : Array (Option Value)}
    {oc_law_clip kV_law_clip dc_law_clip pm_law_clip cd_law_clip ct_law_clip : Value}
    {f_law_bounds : Addr}
    {od_law_bounds an_law_bounds : Option Addr}
    {sl_law_bounds : Array (Option Value)}
    {oc_law_bounds kV_law_bounds dc_law_bounds pm_law_bounds cd_law_bounds ct_law_bounds : Value}
    {f_law_made_claim : Addr}
    {od_law_made_claim an_law_made_claim : Option Addr}
    {sl_law_made_claim : Array (Option Value)}
    {oc_law_made_claim kV_law_made_claim dc_law_made_claim pm_law_made_claim cd_law_made_claim ct_law_made_claim : Value}
    {f_law_excess : Addr}
    {od_law_excess an_law_excess : Option Addr}
    {sl_law_excess : Array (Option Value)}
    {oc_law_excess kV_law_excess dc_law_excess pm_law_excess cd_law_excess ct_law_excess : Value}
    {f_law_same : Addr}
    {od_law_same an_law_same : Option Addr}
    {sl_law_same : Array (Option Value)}
    {oc_law_same kV_law_same dc_law_same pm_law_same cd_law_same ct_law_same : Value}
    {f_law_rows : Addr}
    {od_law_rows an_law_rows : Option Addr}
    {sl_law_rows : Array (Option Value)}
    {oc_law_rows kV_law_rows dc_law_rows pm_law_rows cd_law_rows ct_law_rows : Value}
    {f_law_stands : Addr}
    {od_law_stands an_law_stands : Option Addr}
    {sl_law_stands : Array (Option Value)}
    {oc_law_stands kV_law_stands dc_law_stands pm_law_stands cd_law_stands ct_law_stands : Value}
    {f_law_wider : Addr}
    {od_law_wider an_law_wider : Option Addr}
    {sl_law_wider : Array (Option Value)}
    {oc_law_wider kV_law_wider dc_law_wider pm_law_wider cd_law_wider ct_law_wider : Value}
    {f_law_turned : Addr}
    {od_law_turned an_law_turned : Option Addr}
    {sl_law_turned : Array (Option Value)}
    {oc_law_turned kV_law_turned dc_law_turned pm_law_turned cd_law_turned ct_law_turned : Value}
    {f_law : Addr}
    {od_law an_law : Option Addr}
    {sl_law : Array (Option Value)}
    {oc_law kV_law dc_law pm_law cd_law ct_law : Value}
    {C_Claim : Addr}
    {t_LAST_NODE : Tok}
    {t_MOST_WEIGHT : Tok}
    (aC_Claim : PySem.W.nsIn K mainGlobals "Claim" = some (some (.ref C_Claim)))
    (a_ClaimI__initI : PySem.W.findIn K (.ref C_Claim) "__init__" = some (some (.ref f_ClaimI__initI)))
    (i_ClaimI__initI : PySem.W.isFn K (.ref f_ClaimI__initI) = true)
    (l_ClaimI__initI : K.lookup f_ClaimI__initI = some ⟨oc_ClaimI__initI, od_ClaimI__initI, .func (PySem.W.fnOf "__init__" "Claim.__init__" (defArgs s_ClaimI__initI) (defBody s_ClaimI__initI) (defScope s_ClaimI__initI) (.ref T_ClaimI__initI) (.ref D_ClaimI__initI) dc_ClaimI__initI pm_ClaimI__initI an_ClaimI__initI cd_ClaimI__initI ct_ClaimI__initI), sl_ClaimI__initI⟩)
    (c_ClaimI__initI : PySem.W.codeIn K cd_ClaimI__initI "Claim.__init__" = true)
    (k_ClaimI__initI : PySem.W.keepIn K (.ref f_ClaimI__initI) = true)
    (lT_ClaimI__initI : K.lookup T_ClaimI__initI = some oT_ClaimI__initI)
    (oT_ClaimI__initI_ : oT_ClaimI__initI.data = .seq ([.none, .none] : List Value).toArray nT_ClaimI__initI)
    (w_ClaimI__initI_0 : PySem.W.nsIn K D_ClaimI__initI "weight" = some (some (.int 1 tw_ClaimI__initI_0)))
    (a_Claim_holds : PySem.W.findIn K (.ref C_Claim) "holds" = some (some (.ref f_Claim_holds)))
    (i_Claim_holds : PySem.W.isFn K (.ref f_Claim_holds) = true)
    (l_Claim_holds : K.lookup f_Claim_holds = some ⟨oc_Claim_holds, od_Claim_holds, .func (PySem.W.fnOf "holds" "Claim.holds" (defArgs s_Claim_holds) (defBody s_Claim_holds) (defScope s_Claim_holds) .none kV_Claim_holds dc_Claim_holds pm_Claim_holds an_Claim_holds cd_Claim_holds ct_Claim_holds), sl_Claim_holds⟩)
    (c_Claim_holds : PySem.W.codeIn K cd_Claim_holds "Claim.holds" = true)
    (k_Claim_holds : PySem.W.keepIn K (.ref f_Claim_holds) = true)
    (a_Claim_excess : PySem.W.findIn K (.ref C_Claim) "excess" = some (some (.ref f_Claim_excess)))
    (i_Claim_excess : PySem.W.isFn K (.ref f_Claim_excess) = true)
    (l_Claim_excess : K.lookup f_Claim_excess = some ⟨oc_Claim_excess, od_Claim_excess, .func (PySem.W.fnOf "excess" "Claim.excess" (defArgs s_Claim_excess) (defBody s_Claim_excess) (defScope s_Claim_excess) .none kV_Claim_excess dc_Claim_excess pm_Claim_excess an_Claim_excess cd_Claim_excess ct_Claim_excess), sl_Claim_excess⟩)
    (c_Claim_excess : PySem.W.codeIn K cd_Claim_excess "Claim.excess" = true)
    (k_Claim_excess : PySem.W.keepIn K (.ref f_Claim_excess) = true)
    (a_Claim_turned : PySem.W.findIn K (.ref C_Claim) "turned" = some (some (.ref f_Claim_turned)))
    (i_Claim_turned : PySem.W.isFn K (.ref f_Claim_turned) = true)
    (l_Claim_turned : K.lookup f_Claim_turned = some ⟨oc_Claim_turned, od_Claim_turned, .func (PySem.W.fnOf "turned" "Claim.turned" (defArgs s_Claim_turned) (defBody s_Claim_turned) (defScope s_Claim_turned) .none kV_Claim_turned dc_Claim_turned pm_Claim_turned an_Claim_turned cd_Claim_turned ct_Claim_turned), sl_Claim_turned⟩)
    (c_Claim_turned : PySem.W.codeIn K cd_Claim_turned "Claim.turned" = true)
    (k_Claim_turned : PySem.W.keepIn K (.ref f_Claim_turned) = true)
    (a_Claim_widened : PySem.W.findIn K (.ref C_Claim) "widened" = some (some (.ref f_Claim_widened)))
    (i_Claim_widened : PySem.W.isFn K (.ref f_Claim_widened) = true)
    (l_Claim_widened : K.lookup f_Claim_widened = some ⟨oc_Claim_widened, od_Claim_widened, .func (PySem.W.fnOf "widened" "Claim.widened" (defArgs s_Claim_widened) (defBody s_Claim_widened) (defScope s_Claim_widened) .none kV_Claim_widened dc_Claim_widened pm_Claim_widened an_Claim_widened cd_Claim_widened ct_Claim_widened), sl_Claim_widened⟩)
    (c_Claim_widened : PySem.W.codeIn K cd_Claim_widened "Claim.widened" = true)
    (k_Claim_widened : PySem.W.keepIn K (.ref f_Claim_widened) = true)
    (a_Claim_parts : PySem.W.findIn K (.ref C_Claim) "parts" = some (some (.ref f_Claim_parts)))
    (i_Claim_parts : PySem.W.isFn K (.ref f_Claim_parts) = true)
    (l_Claim_parts : K.lookup f_Claim_parts = some ⟨oc_Claim_parts, od_Claim_parts, .func (PySem.W.fnOf "parts" "Claim.parts" (defArgs s_Claim_parts) (defBody s_Claim_parts) (defScope s_Claim_parts) .none kV_Claim_parts dc_Claim_parts pm_Claim_parts an_Claim_parts cd_Claim_parts ct_Claim_parts), sl_Claim_parts⟩)
    (c_Claim_parts : PySem.W.codeIn K cd_Claim_parts "Claim.parts" = true)
    (k_Claim_parts : PySem.W.keepIn K (.ref f_Claim_parts) = true)
    (a_law_source : PySem.W.nsIn K mainGlobals "_law_source" = some (some (.ref f_law_source)))
    (l_law_source : K.lookup f_law_source = some ⟨oc_law_source, od_law_source, .func (PySem.W.fnOf "_law_source" "_law_source" (defArgs s_law_source) (defBody s_law_source) (defScope s_law_source) .none kV_law_source dc_law_source pm_law_source an_law_source cd_law_source ct_law_source), sl_law_source⟩)
    (c_law_source : PySem.W.codeIn K cd_law_source "_law_source" = true)
    (k_law_source : PySem.W.keepIn K (.ref f_law_source) = true)
    (a_law_draw : PySem.W.nsIn K mainGlobals "_law_draw" = some (some (.ref f_law_draw)))
    (l_law_draw : K.lookup f_law_draw = some ⟨oc_law_draw, od_law_draw, .func (PySem.W.fnOf "_law_draw" "_law_draw" (defArgs s_law_draw) (defBody s_law_draw) (defScope s_law_draw) .none kV_law_draw dc_law_draw pm_law_draw an_law_draw cd_law_draw ct_law_draw), sl_law_draw⟩)
    (c_law_draw : PySem.W.codeIn K cd_law_draw "_law_draw" = true)
    (k_law_draw : PySem.W.keepIn K (.ref f_law_draw) = true)
    (a_law_whole : PySem.W.nsIn K mainGlobals "_law_whole" = some (some (.ref f_law_whole)))
    (l_law_whole : K.lookup f_law_whole = some ⟨oc_law_whole, od_law_whole, .func (PySem.W.fnOf "_law_whole" "_law_whole" (defArgs s_law_whole) (defBody s_law_whole) (defScope s_law_whole) .none kV_law_whole dc_law_whole pm_law_whole an_law_whole cd_law_whole ct_law_whole), sl_law_whole⟩)
    (c_law_whole : PySem.W.codeIn K cd_law_whole "_law_whole" = true)
    (k_law_whole : PySem.W.keepIn K (.ref f_law_whole) = true)
    (a_law_levels : PySem.W.nsIn K mainGlobals "_law_levels" = some (some (.ref f_law_levels)))
    (l_law_levels : K.lookup f_law_levels = some ⟨oc_law_levels, od_law_levels, .func (PySem.W.fnOf "_law_levels" "_law_levels" (defArgs s_law_levels) (defBody s_law_levels) (defScope s_law_levels) .none kV_law_levels dc_law_levels pm_law_levels an_law_levels cd_law_levels ct_law_levels), sl_law_levels⟩)
    (c_law_levels : PySem.W.codeIn K cd_law_levels "_law_levels" = true)
    (k_law_levels : PySem.W.keepIn K (.ref f_law_levels) = true)
    (a_law_clip : PySem.W.nsIn K mainGlobals "_law_clip" = some (some (.ref f_law_clip)))
    (l_law_clip : K.lookup f_law_clip = some ⟨oc_law_clip, od_law_clip, .func (PySem.W.fnOf "_law_clip" "_law_clip" (defArgs s_law_clip) (defBody s_law_clip) (defScope s_law_clip) .none kV_law_clip dc_law_clip pm_law_clip an_law_clip cd_law_clip ct_law_clip), sl_law_clip⟩)
    (c_law_clip : PySem.W.codeIn K cd_law_clip "_law_clip" = true)
    (k_law_clip : PySem.W.keepIn K (.ref f_law_clip) = true)
    (a_law_bounds : PySem.W.nsIn K mainGlobals "_law_bounds" = some (some (.ref f_law_bounds)))
    (l_law_bounds : K.lookup f_law_bounds = some ⟨oc_law_bounds, od_law_bounds, .func (PySem.W.fnOf "_law_bounds" "_law_bounds" (defArgs s_law_bounds) (defBody s_law_bounds) (defScope s_law_bounds) .none kV_law_bounds dc_law_bounds pm_law_bounds an_law_bounds cd_law_bounds ct_law_bounds), sl_law_bounds⟩)
    (c_law_bounds : PySem.W.codeIn K cd_law_bounds "_law_bounds" = true)
    (k_law_bounds : PySem.W.keepIn K (.ref f_law_bounds) = true)
    (a_law_made_claim : PySem.W.nsIn K mainGlobals "_law_made_claim" = some (some (.ref f_law_made_claim)))
    (l_law_made_claim : K.lookup f_law_made_claim = some ⟨oc_law_made_claim, od_law_made_claim, .func (PySem.W.fnOf "_law_made_claim" "_law_made_claim" (defArgs s_law_made_claim) (defBody s_law_made_claim) (defScope s_law_made_claim) .none kV_law_made_claim dc_law_made_claim pm_law_made_claim an_law_made_claim cd_law_made_claim ct_law_made_claim), sl_law_made_claim⟩)
    (c_law_made_claim : PySem.W.codeIn K cd_law_made_claim "_law_made_claim" = true)
    (k_law_made_claim : PySem.W.keepIn K (.ref f_law_made_claim) = true)
    (a_law_excess : PySem.W.nsIn K mainGlobals "_law_excess" = some (some (.ref f_law_excess)))
    (l_law_excess : K.lookup f_law_excess = some ⟨oc_law_excess, od_law_excess, .func (PySem.W.fnOf "_law_excess" "_law_excess" (defArgs s_law_excess) (defBody s_law_excess) (defScope s_law_excess) .none kV_law_excess dc_law_excess pm_law_excess an_law_excess cd_law_excess ct_law_excess), sl_law_excess⟩)
    (c_law_excess : PySem.W.codeIn K cd_law_excess "_law_excess" = true)
    (k_law_excess : PySem.W.keepIn K (.ref f_law_excess) = true)
    (a_law_same : PySem.W.nsIn K mainGlobals "_law_same" = some (some (.ref f_law_same)))
    (l_law_same : K.lookup f_law_same = some ⟨oc_law_same, od_law_same, .func (PySem.W.fnOf "_law_same" "_law_same" (defArgs s_law_same) (defBody s_law_same) (defScope s_law_same) .none kV_law_same dc_law_same pm_law_same an_law_same cd_law_same ct_law_same), sl_law_same⟩)
    (c_law_same : PySem.W.codeIn K cd_law_same "_law_same" = true)
    (k_law_same : PySem.W.keepIn K (.ref f_law_same) = true)
    (a_law_rows : PySem.W.nsIn K mainGlobals "_law_rows" = some (some (.ref f_law_rows)))
    (l_law_rows : K.lookup f_law_rows = some ⟨oc_law_rows, od_law_rows, .func (PySem.W.fnOf "_law_rows" "_law_rows" (defArgs s_law_rows) (defBody s_law_rows) (defScope s_law_rows) .none kV_law_rows dc_law_rows pm_law_rows an_law_rows cd_law_rows ct_law_rows), sl_law_rows⟩)
    (c_law_rows : PySem.W.codeIn K cd_law_rows "_law_rows" = true)
    (k_law_rows : PySem.W.keepIn K (.ref f_law_rows) = true)
    (a_law_stands : PySem.W.nsIn K mainGlobals "_law_stands" = some (some (.ref f_law_stands)))
    (l_law_stands : K.lookup f_law_stands = some ⟨oc_law_stands, od_law_stands, .func (PySem.W.fnOf "_law_stands" "_law_stands" (defArgs s_law_stands) (defBody s_law_stands) (defScope s_law_stands) .none kV_law_stands dc_law_stands pm_law_stands an_law_stands cd_law_stands ct_law_stands), sl_law_stands⟩)
    (c_law_stands : PySem.W.codeIn K cd_law_stands "_law_stands" = true)
    (k_law_stands : PySem.W.keepIn K (.ref f_law_stands) = true)
    (a_law_wider : PySem.W.nsIn K mainGlobals "_law_wider" = some (some (.ref f_law_wider)))
    (l_law_wider : K.lookup f_law_wider = some ⟨oc_law_wider, od_law_wider, .func (PySem.W.fnOf "_law_wider" "_law_wider" (defArgs s_law_wider) (defBody s_law_wider) (defScope s_law_wider) .none kV_law_wider dc_law_wider pm_law_wider an_law_wider cd_law_wider ct_law_wider), sl_law_wider⟩)
    (c_law_wider : PySem.W.codeIn K cd_law_wider "_law_wider" = true)
    (k_law_wider : PySem.W.keepIn K (.ref f_law_wider) = true)
    (a_law_turned : PySem.W.nsIn K mainGlobals "_law_turned" = some (some (.ref f_law_turned)))
    (l_law_turned : K.lookup f_law_turned = some ⟨oc_law_turned, od_law_turned, .func (PySem.W.fnOf "_law_turned" "_law_turned" (defArgs s_law_turned) (defBody s_law_turned) (defScope s_law_turned) .none kV_law_turned dc_law_turned pm_law_turned an_law_turned cd_law_turned ct_law_turned), sl_law_turned⟩)
    (c_law_turned : PySem.W.codeIn K cd_law_turned "_law_turned" = true)
    (k_law_turned : PySem.W.keepIn K (.ref f_law_turned) = true)
    (a_law : PySem.W.nsIn K mainGlobals "law" = some (some (.ref f_law)))
    (l_law : K.lookup f_law = some ⟨oc_law, od_law, .func (PySem.W.fnOf "law" "law" (defArgs s_law) (defBody s_law) (defScope s_law) .none kV_law dc_law pm_law an_law cd_law ct_law), sl_law⟩)
    (c_law : PySem.W.codeIn K cd_law "law" = true)
    (k_law : PySem.W.keepIn K (.ref f_law) = true)
    (pg_Claim : PySem.W.plainGet K C_Claim Str.empty = true)
    (hd_Claim : PySem.W.hasDictIn K C_Claim = true)
    (po_Claim : PySem.W.plainOver K C_Claim = true)
    (sa_Claim : PySem.W.findIn K (.ref C_Claim) "__setattr__" = some (some (.builtin "object.__setattr__")))
    (mkc_Claim : PySem.W.makesIn K C_Claim = true)
    (kpc_Claim : PySem.W.keepIn K (.ref C_Claim) = true)
    (n_Claim_first : PySem.W.findIn K (.ref C_Claim) "first" = some none)
    (n_Claim_second : PySem.W.findIn K (.ref C_Claim) "second" = some none)
    (n_Claim_low : PySem.W.findIn K (.ref C_Claim) "low" = some none)
    (n_Claim_high : PySem.W.findIn K (.ref C_Claim) "high" = some none)
    (n_Claim_weight : PySem.W.findIn K (.ref C_Claim) "weight" = some none)
    (isn : PySem.W.specialIn K (.builtin "object.__class__") "__get__" = some (some (.builtin "getset_descriptor.__get__")))
    (ist : PySem.W.takesIn K (.builtin "object.__class__") = some true)
    (ia_Claim : PySem.W.findIn K (.ref C_Claim) "__class__" = some (some (.builtin "object.__class__")))
    (im_Claim : PySem.W.mroIn K C_Claim (.type "object") = some true)
    (q_LAST_NODE : PySem.W.nsIn K mainGlobals "LAST_NODE" = some (some (.int 15 t_LAST_NODE)))
    (q_MOST_WEIGHT : PySem.W.nsIn K mainGlobals "MOST_WEIGHT" = some (some (.int 99 t_MOST_WEIGHT)))
    (zz_abs : PySem.W.nsIn K mainGlobals "abs" = some none)
    (zz_bool : PySem.W.nsIn K mainGlobals "bool" = some none)
    (zz_int : PySem.W.nsIn K mainGlobals "int" = some none)
    (zz_isinstance : PySem.W.nsIn K mainGlobals "isinstance" = some none)
    (zz_len : PySem.W.nsIn K mainGlobals "len" = some none)
    (zz_list : PySem.W.nsIn K mainGlobals "list" = some none)
    (zz_max : PySem.W.nsIn K mainGlobals "max" = some none)
    (zz_min : PySem.W.nsIn K mainGlobals "min" = some none)
    (zz_range : PySem.W.nsIn K mainGlobals "range" = some none)
    (zz_tuple : PySem.W.nsIn K mainGlobals "tuple" = some none)
    : ∃ fd : FuncData, (∀ (s : Shared) (v : Value), BindsTo s fd ⟨[v], []⟩ [("_law_script", v)]) ∧ ∀ base : Heap, K.In base → base.Ns mainGlobals mg → FnOk l.prog w K mg base CX0 4 fa fd ["_law_script"] (spLaw K) := by
  have e := hfa.symm.trans (PySem.W.mg_of X G a_law)
  cases e
  have F_ClaimI__initI : FunD K "__init__" "Claim.__init__" (defArgs s_ClaimI__initI) (defBody s_ClaimI__initI) (defScope s_ClaimI__initI) [.non, .non] [("weight", .int 1)] f_ClaimI__initI (PySem.W.fnOf "__init__" "Claim.__init__" (defArgs s_ClaimI__initI) (defBody s_ClaimI__initI) (defScope s_ClaimI__initI) (.ref T_ClaimI__initI) (.ref D_ClaimI__initI) dc_ClaimI__initI pm_ClaimI__initI an_ClaimI__initI cd_ClaimI__initI ct_ClaimI__initI) := ⟨⟨oc_ClaimI__initI, od_ClaimI__initI, _, _, dc_ClaimI__initI, pm_ClaimI__initI, an_ClaimI__initI, cd_ClaimI__initI, ct_ClaimI__initI, sl_ClaimI__initI, rfl, l_ClaimI__initI, c_ClaimI__initI, .inr ⟨by simp, T_ClaimI__initI, oT_ClaimI__initI, _, nT_ClaimI__initI, rfl, lT_ClaimI__initI, oT_ClaimI__initI_, (.cons rfl (.cons rfl .nil))⟩, .inr ⟨D_ClaimI__initI, rfl, fun q hq => by rcases List.mem_singleton.mp hq with rfl; exact ⟨_, w_ClaimI__initI_0, ⟨_, rfl⟩⟩⟩⟩, k_ClaimI__initI⟩
  let T : Txt l.prog K mg := {
    a_ClaimI__initI := f_ClaimI__initI
    d_ClaimI__initI := _
    F_ClaimI__initI := F_ClaimI__initI
    a_Claim_holds := f_Claim_holds
    d_Claim_holds := _
    F_Claim_holds := fun_mk (st := s_Claim_holds) l_Claim_holds c_Claim_holds k_Claim_holds
    b_Claim_holds := (fun_mk (st := s_Claim_holds) l_Claim_holds c_Claim_holds k_Claim_holds).binds (ps := ["self", "levels"]) fun _ _ _ _ _ _ us hl => match us, hl with | [_, _], _ => rfl
    a_Claim_excess := f_Claim_excess
    d_Claim_excess := _
    F_Claim_excess := fun_mk (st := s_Claim_excess) l_Claim_excess c_Claim_excess k_Claim_excess
    b_Claim_excess := (fun_mk (st := s_Claim_excess) l_Claim_excess c_Claim_excess k_Claim_excess).binds (ps := ["self", "levels"]) fun _ _ _ _ _ _ us hl => match us, hl with | [_, _], _ => rfl
    a_Claim_turned := f_Claim_turned
    d_Claim_turned := _
    F_Claim_turned := fun_mk (st := s_Claim_turned) l_Claim_turned c_Claim_turned k_Claim_turned
    b_Claim_turned := (fun_mk (st := s_Claim_turned) l_Claim_turned c_Claim_turned k_Claim_turned).binds (ps := ["self"]) fun _ _ _ _ _ _ us hl => match us, hl with | [_], _ => rfl
    a_Claim_widened := f_Claim_widened
    d_Claim_widened := _
    F_Claim_widened := fun_mk (st := s_Claim_widened) l_Claim_widened c_Claim_widened k_Claim_widened
    b_Claim_widened := (fun_mk (st := s_Claim_widened) l_Claim_widened c_Claim_widened k_Claim_widened).binds (ps := ["self", "amount"]) fun _ _ _ _ _ _ us hl => match us, hl with | [_, _], _ => rfl
    a_Claim_parts := f_Claim_parts
    d_Claim_parts := _
    F_Claim_parts := fun_mk (st := s_Claim_parts) l_Claim_parts c_Claim_parts k_Claim_parts
    b_Claim_parts := (fun_mk (st := s_Claim_parts) l_Claim_parts c_Claim_parts k_Claim_parts).binds (ps := ["self"]) fun _ _ _ _ _ _ us hl => match us, hl with | [_], _ => rfl
    a_law_source := f_law_source
    d_law_source := _
    F_law_source := fun_mk (st := s_law_source) l_law_source c_law_source k_law_source
    b_law_source := (fun_mk (st := s_law_source) l_law_source c_law_source k_law_source).binds (ps := ["_law_script", "_law_place"]) fun _ _ _ _ _ _ us hl => match us, hl with | [_, _], _ => rfl
    m_law_source := PySem.W.mg_of X G a_law_source
    a_law_draw := f_law_draw
    d_law_draw := _
    F_law_draw := fun_mk (st := s_law_draw) l_law_draw c_law_draw k_law_draw
    b_law_draw := (fun_mk (st := s_law_draw) l_law_draw c_law_draw k_law_draw).binds (ps := ["_law_source_here", "_law_size"]) fun _ _ _ _ _ _ us hl => match us, hl with | [_, _], _ => rfl
    m_law_draw := PySem.W.mg_of X G a_law_draw
    a_law_whole := f_law_whole
    d_law_whole := _
    F_law_whole := fun_mk (st := s_law_whole) l_law_whole c_law_whole k_law_whole
    b_law_whole := (fun_mk (st := s_law_whole) l_law_whole c_law_whole k_law_whole).binds (ps := ["_law_actual"]) fun _ _ _ _ _ _ us hl => match us, hl with | [_], _ => rfl
    m_law_whole := PySem.W.mg_of X G a_law_whole
    a_law_levels := f_law_levels
    d_law_levels := _
    F_law_levels := fun_mk (st := s_law_levels) l_law_levels c_law_levels k_law_levels
    b_law_levels := (fun_mk (st := s_law_levels) l_law_levels c_law_levels k_law_levels).binds (ps := ["_law_source_here", "_law_many"]) fun _ _ _ _ _ _ us hl => match us, hl with | [_, _], _ => rfl
    m_law_levels := PySem.W.mg_of X G a_law_levels
    a_law_clip := f_law_clip
    d_law_clip := _
    F_law_clip := fun_mk (st := s_law_clip) l_law_clip c_law_clip k_law_clip
    b_law_clip := (fun_mk (st := s_law_clip) l_law_clip c_law_clip k_law_clip).binds (ps := ["_law_number"]) fun _ _ _ _ _ _ us hl => match us, hl with | [_], _ => rfl
    m_law_clip := PySem.W.mg_of X G a_law_clip
    a_law_bounds := f_law_bounds
    d_law_bounds := _
    F_law_bounds := fun_mk (st := s_law_bounds) l_law_bounds c_law_bounds k_law_bounds
    b_law_bounds := (fun_mk (st := s_law_bounds) l_law_bounds c_law_bounds k_law_bounds).binds (ps := ["_law_source_here", "_law_gap"]) fun _ _ _ _ _ _ us hl => match us, hl with | [_, _], _ => rfl
    m_law_bounds := PySem.W.mg_of X G a_law_bounds
    a_law_made_claim := f_law_made_claim
    d_law_made_claim := _
    F_law_made_claim := fun_mk (st := s_law_made_claim) l_law_made_claim c_law_made_claim k_law_made_claim
    b_law_made_claim := (fun_mk (st := s_law_made_claim) l_law_made_claim c_law_made_claim k_law_made_claim).binds (ps := ["_law_tell", "_law_left"]) fun _ _ _ _ _ _ us hl => match us, hl with | [_, _], _ => rfl
    m_law_made_claim := PySem.W.mg_of X G a_law_made_claim
    a_law_excess := f_law_excess
    d_law_excess := _
    F_law_excess := fun_mk (st := s_law_excess) l_law_excess c_law_excess k_law_excess
    b_law_excess := (fun_mk (st := s_law_excess) l_law_excess c_law_excess k_law_excess).binds (ps := ["_law_tell", "_law_levels_here"]) fun _ _ _ _ _ _ us hl => match us, hl with | [_, _], _ => rfl
    m_law_excess := PySem.W.mg_of X G a_law_excess
    a_law_same := f_law_same
    d_law_same := _
    F_law_same := fun_mk (st := s_law_same) l_law_same c_law_same k_law_same
    b_law_same := (fun_mk (st := s_law_same) l_law_same c_law_same k_law_same).binds (ps := ["_law_actual", "_law_tell"]) fun _ _ _ _ _ _ us hl => match us, hl with | [_, _], _ => rfl
    m_law_same := PySem.W.mg_of X G a_law_same
    a_law_rows := f_law_rows
    d_law_rows := _
    F_law_rows := fun_mk (st := s_law_rows) l_law_rows c_law_rows k_law_rows
    b_law_rows := (fun_mk (st := s_law_rows) l_law_rows c_law_rows k_law_rows).binds (ps := ["_law_tell", "_law_levels_here"]) fun _ _ _ _ _ _ us hl => match us, hl with | [_, _], _ => rfl
    m_law_rows := PySem.W.mg_of X G a_law_rows
    a_law_stands := f_law_stands
    d_law_stands := _
    F_law_stands := fun_mk (st := s_law_stands) l_law_stands c_law_stands k_law_stands
    b_law_stands := (fun_mk (st := s_law_stands) l_law_stands c_law_stands k_law_stands).binds (ps := ["_law_claim", "_law_tell", "_law_rows_here"]) fun _ _ _ _ _ _ us hl => match us, hl with | [_, _, _], _ => rfl
    m_law_stands := PySem.W.mg_of X G a_law_stands
    a_law_wider := f_law_wider
    d_law_wider := _
    F_law_wider := fun_mk (st := s_law_wider) l_law_wider c_law_wider k_law_wider
    b_law_wider := (fun_mk (st := s_law_wider) l_law_wider c_law_wider k_law_wider).binds (ps := ["_law_tell", "_law_amount"]) fun _ _ _ _ _ _ us hl => match us, hl with | [_, _], _ => rfl
    m_law_wider := PySem.W.mg_of X G a_law_wider
    a_law_turned := f_law_turned
    d_law_turned := _
    F_law_turned := fun_mk (st := s_law_turned) l_law_turned c_law_turned k_law_turned
    b_law_turned := (fun_mk (st := s_law_turned) l_law_turned c_law_turned k_law_turned).binds (ps := ["_law_tell"]) fun _ _ _ _ _ _ us hl => match us, hl with | [_], _ => rfl
    m_law_turned := PySem.W.mg_of X G a_law_turned
    a_law := fa
    d_law := _
    F_law := fun_mk (st := s_law) l_law c_law k_law
    b_law := (fun_mk (st := s_law) l_law c_law k_law).binds (ps := ["_law_script"]) fun _ _ _ _ _ _ us hl => match us, hl with | [_], _ => rfl
    m_law := PySem.W.mg_of X G a_law
    C_Claim := C_Claim
    m_Claim := PySem.W.mg_of X G aC_Claim
    cl_Claim := ⟨pg_Claim, hd_Claim, po_Claim, sa_Claim⟩
    mkc_Claim := mkc_Claim
    kpc_Claim := kpc_Claim
    n_Claim_first := n_Claim_first
    n_Claim_second := n_Claim_second
    n_Claim_low := n_Claim_low
    n_Claim_high := n_Claim_high
    n_Claim_weight := n_Claim_weight
    mk_Claim := ⟨mkc_Claim, a_ClaimI__initI, i_ClaimI__initI, kpc_Claim⟩
    t_Claim_holds := ⟨a_Claim_holds, i_Claim_holds, k_Claim_holds⟩
    t_Claim_excess := ⟨a_Claim_excess, i_Claim_excess, k_Claim_excess⟩
    t_Claim_turned := ⟨a_Claim_turned, i_Claim_turned, k_Claim_turned⟩
    t_Claim_widened := ⟨a_Claim_widened, i_Claim_widened, k_Claim_widened⟩
    t_Claim_parts := ⟨a_Claim_parts, i_Claim_parts, k_Claim_parts⟩
    isn := isn
    ist := ist
    ia_Claim := ia_Claim
    im_Claim := im_Claim
    b_ClaimI__initI_3 := mk_b_ClaimI__initI_3 F_ClaimI__initI
    b_ClaimI__initI_4 := mk_b_ClaimI__initI_4 F_ClaimI__initI
    b_ClaimI__initI_5 := mk_b_ClaimI__initI_5 F_ClaimI__initI
    b_ClaimI__initI_5_weight := mk_b_ClaimI__initI_5_weight F_ClaimI__initI
    ct_LAST_NODE := t_LAST_NODE
    c_LAST_NODE := PySem.W.mg_of X G q_LAST_NODE
    ct_MOST_WEIGHT := t_MOST_WEIGHT
    c_MOST_WEIGHT := PySem.W.mg_of X G q_MOST_WEIGHT
    z_abs := PySem.W.mg_none_of X G zz_abs
    z_bool := PySem.W.mg_none_of X G zz_bool
    z_int := PySem.W.mg_none_of X G zz_int
    z_isinstance := PySem.W.mg_none_of X G zz_isinstance
    z_len := PySem.W.mg_none_of X G zz_len
    z_list := PySem.W.mg_none_of X G zz_list
    z_max := PySem.W.mg_none_of X G zz_max
    z_min := PySem.W.mg_none_of X G zz_min
    z_range := PySem.W.mg_none_of X G zz_range
    z_tuple := PySem.W.mg_none_of X G zz_tuple }
  exact ⟨PySem.W.fnOf "law" "law" (defArgs s_law) (defBody s_law) (defScope s_law) .none kV_law dc_law pm_law an_law cd_law ct_law, fun s v => .of_eq rfl, fun base _ _ => ok_law T⟩
theorem walk {l : PySem.W.OpenLaw} {q : Program} {loose : List Str} {XP : (Str → Option Value) → Heap → Prop} {YP : World → Heap → Prop} {d : DefRec} {K : Params → PySem.W.Frag} (hn : l.most = some 63) (hdf : d.params.defaults = [])
    (hY : ∀ (w : World) (h : Heap), YP w h → (K w.params).In h)
    (F : ∀ (w : World) (mg : Str → Option Value) (fa : Addr) (h : Heap), (K w.params).In h → h.Ns mainGlobals mg → mg d.name = some (.ref fa) →
      ∃ fd : FuncData, (∀ (s : Shared) (u : Value), BindsTo s fd ⟨[u], []⟩ [("_law_script", u)]) ∧ ∀ base : Heap, (K w.params).In base → base.Ns mainGlobals mg → FnOk l.prog w (K w.params) mg base CX0 4 fa fd ["_law_script"] (spLaw (K w.params))) :
    PySem.W.WalkO q loose XP YP l.row.toRowW d [] (fun f vs => PySem.call f vs) :=
  L2.walk_of (n := 63) (k := 4) (x := "_law_script") (CX := fun _ => CX0) (sp := fun w => spLaw (K w.params)) hn (by decide) hdf ⟨rfl, by decide, by decide⟩ hY F (fun _ _ a ns hl _ hS => ⟨a, ns, rfl, hS, hl, fun _ => rfl⟩) fun _ _ _ _ _ z => z
end My

open PySem PySem.W PyProof.Rows in
set_option maxRecDepth 100000 in
set_option maxHeartbeats 0 in
theorem PySem.Challenge.cw_counthall_k03_claim_arithmetic_holds : PySem.Challenge.rw_counthall_k03_claim_arithmetic.Holds := by
  w_on; o_law; k_head; (case hw => w_witness2)
  k_fill
  refine My.walk (l := PySem.Challenge.rw_counthall_k03_claim_arithmetic) rfl rfl (fun w h Y => PySem.W.kIn_of Y) ?F
  case F =>
    intro w mg fa h KX G hmg
    refine' My.all_mk KX G hmg ?h_aC_Claim ?h_a_ClaimI__initI ?h_i_ClaimI__initI ?h_l_ClaimI__initI ?h_c_ClaimI__initI ?h_k_ClaimI__initI ?h_lT_ClaimI__initI ?h_oT_ClaimI__initI_ ?h_w_ClaimI__initI_0 ?h_a_Claim_holds ?h_i_Claim_holds ?h_l_Claim_holds ?h_c_Claim_holds ?h_k_Claim_holds ?h_a_Claim_excess ?h_i_Claim_excess ?h_l_Claim_excess ?h_c_Claim_excess ?h_k_Claim_excess ?h_a_Claim_turned ?h_i_Claim_turned ?h_l_Claim_turned ?h_c_Claim_turned ?h_k_Claim_turned ?h_a_Claim_widened ?h_i_Claim_widened ?h_l_Claim_widened ?h_c_Claim_widened ?h_k_Claim_widened ?h_a_Claim_parts ?h_i_Claim_parts ?h_l_Claim_parts ?h_c_Claim_parts ?h_k_Claim_parts ?h_a_law_source ?h_l_law_source ?h_c_law_source ?h_k_law_source ?h_a_law_draw ?h_l_law_draw ?h_c_law_draw ?h_k_law_draw ?h_a_law_whole ?h_l_law_whole ?h_c_law_whole ?h_k_law_whole ?h_a_law_levels ?h_l_law_levels ?h_c_law_levels ?h_k_law_levels ?h_a_law_clip ?h_l_law_clip ?h_c_law_clip ?h_k_law_clip ?h_a_law_bounds ?h_l_law_bounds ?h_c_law_bounds ?h_k_law_bounds ?h_a_law_made_claim ?h_l_law_made_claim ?h_c_law_made_claim ?h_k_law_made_claim ?h_a_law_excess ?h_l_law_excess ?h_c_law_excess ?h_k_law_excess ?h_a_law_same ?h_l_law_same ?h_c_law_same ?h_k_law_same ?h_a_law_rows ?h_l_law_rows ?h_c_law_rows ?h_k_law_rows ?h_a_law_stands ?h_l_law_stands ?h_c_law_stands ?h_k_law_stands ?h_a_law_wider ?h_l_law_wider ?h_c_law_wider ?h_k_law_wider ?h_a_law_turned ?h_l_law_turned ?h_c_law_turned ?h_k_law_turned ?h_a_law ?h_l_law ?h_c_law ?h_k_law ?h_pg_Claim ?h_hd_Claim ?h_po_Claim ?h_sa_Claim ?h_mkc_Claim ?h_kpc_Claim ?h_n_Claim_first ?h_n_Claim_second ?h_n_Claim_low ?h_n_Claim_high ?h_n_Claim_weight ?h_isn ?h_ist ?h_ia_Claim ?h_im_Claim ?h_q_LAST_NODE ?h_q_MOST_WEIGHT ?h_zz_abs ?h_zz_bool ?h_zz_int ?h_zz_isinstance ?h_zz_len ?h_zz_list ?h_zz_max ?h_zz_min ?h_zz_range ?h_zz_tuple
    (case h_aC_Claim => first | k_is | kit_is | ks_is)
    (case h_a_ClaimI__initI => first | k_is | kit_is | ks_is)
    (case h_i_ClaimI__initI => first | k_is | kit_is | ks_is)
    (case h_l_ClaimI__initI => first | k_is | kit_is | ks_is)
    (case h_c_ClaimI__initI => first | k_is | kit_is | ks_is)
    (case h_k_ClaimI__initI => first | k_is | kit_is | ks_is)
    (case h_lT_ClaimI__initI => first | k_is | kit_is | ks_is)
    (case h_oT_ClaimI__initI_ => rfl)
    (case h_w_ClaimI__initI_0 => first | k_is | kit_is | ks_is)
    (case h_a_Claim_holds => first | k_is | kit_is | ks_is)
    (case h_i_Claim_holds => first | k_is | kit_is | ks_is)
    (case h_l_Claim_holds => first | k_is | kit_is | ks_is)
    (case h_c_Claim_holds => first | k_is | kit_is | ks_is)
    (case h_k_Claim_holds => first | k_is | kit_is | ks_is)
    (case h_a_Claim_excess => first | k_is | kit_is | ks_is)
    (case h_i_Claim_excess => first | k_is | kit_is | ks_is)
    (case h_l_Claim_excess => first | k_is | kit_is | ks_is)
    (case h_c_Claim_excess => first | k_is | kit_is | ks_is)
    (case h_k_Claim_excess => first | k_is | kit_is | ks_is)
    (case h_a_Claim_turned => first | k_is | kit_is | ks_is)
    (case h_i_Claim_turned => first | k_is | kit_is | ks_is)
    (case h_l_Claim_turned => first | k_is | kit_is | ks_is)
    (case h_c_Claim_turned => first | k_is | kit_is | ks_is)
    (case h_k_Claim_turned => first | k_is | kit_is | ks_is)
    (case h_a_Claim_widened => first | k_is | kit_is | ks_is)
    (case h_i_Claim_widened => first | k_is | kit_is | ks_is)
    (case h_l_Claim_widened => first | k_is | kit_is | ks_is)
    (case h_c_Claim_widened => first | k_is | kit_is | ks_is)
    (case h_k_Claim_widened => first | k_is | kit_is | ks_is)
    (case h_a_Claim_parts => first | k_is | kit_is | ks_is)
    (case h_i_Claim_parts => first | k_is | kit_is | ks_is)
    (case h_l_Claim_parts => first | k_is | kit_is | ks_is)
    (case h_c_Claim_parts => first | k_is | kit_is | ks_is)
    (case h_k_Claim_parts => first | k_is | kit_is | ks_is)
    (case h_a_law_source => first | k_is | kit_is | ks_is)
    (case h_l_law_source => first | k_is | kit_is | ks_is)
    (case h_c_law_source => first | k_is | kit_is | ks_is)
    (case h_k_law_source => first | k_is | kit_is | ks_is)
    (case h_a_law_draw => first | k_is | kit_is | ks_is)
    (case h_l_law_draw => first | k_is | kit_is | ks_is)
    (case h_c_law_draw => first | k_is | kit_is | ks_is)
    (case h_k_law_draw => first | k_is | kit_is | ks_is)
    (case h_a_law_whole => first | k_is | kit_is | ks_is)
    (case h_l_law_whole => first | k_is | kit_is | ks_is)
    (case h_c_law_whole => first | k_is | kit_is | ks_is)
    (case h_k_law_whole => first | k_is | kit_is | ks_is)
    (case h_a_law_levels => first | k_is | kit_is | ks_is)
    (case h_l_law_levels => first | k_is | kit_is | ks_is)
    (case h_c_law_levels => first | k_is | kit_is | ks_is)
    (case h_k_law_levels => first | k_is | kit_is | ks_is)
    (case h_a_law_clip => first | k_is | kit_is | ks_is)
    (case h_l_law_clip => first | k_is | kit_is | ks_is)
    (case h_c_law_clip => first | k_is | kit_is | ks_is)
    (case h_k_law_clip => first | k_is | kit_is | ks_is)
    (case h_a_law_bounds => first | k_is | kit_is | ks_is)
    (case h_l_law_bounds => first | k_is | kit_is | ks_is)
    (case h_c_law_bounds => first | k_is | kit_is | ks_is)
    (case h_k_law_bounds => first | k_is | kit_is | ks_is)
    (case h_a_law_made_claim => first | k_is | kit_is | ks_is)
    (case h_l_law_made_claim => first | k_is | kit_is | ks_is)
    (case h_c_law_made_claim => first | k_is | kit_is | ks_is)
    (case h_k_law_made_claim => first | k_is | kit_is | ks_is)
    (case h_a_law_excess => first | k_is | kit_is | ks_is)
    (case h_l_law_excess => first | k_is | kit_is | ks_is)
    (case h_c_law_excess => first | k_is | kit_is | ks_is)
    (case h_k_law_excess => first | k_is | kit_is | ks_is)
    (case h_a_law_same => first | k_is | kit_is | ks_is)
    (case h_l_law_same => first | k_is | kit_is | ks_is)
    (case h_c_law_same => first | k_is | kit_is | ks_is)
    (case h_k_law_same => first | k_is | kit_is | ks_is)
    (case h_a_law_rows => first | k_is | kit_is | ks_is)
    (case h_l_law_rows => first | k_is | kit_is | ks_is)
    (case h_c_law_rows => first | k_is | kit_is | ks_is)
    (case h_k_law_rows => first | k_is | kit_is | ks_is)
    (case h_a_law_stands => first | k_is | kit_is | ks_is)
    (case h_l_law_stands => first | k_is | kit_is | ks_is)
    (case h_c_law_stands => first | k_is | kit_is | ks_is)
    (case h_k_law_stands => first | k_is | kit_is | ks_is)
    (case h_a_law_wider => first | k_is | kit_is | ks_is)
    (case h_l_law_wider => first | k_is | kit_is | ks_is)
    (case h_c_law_wider => first | k_is | kit_is | ks_is)
    (case h_k_law_wider => first | k_is | kit_is | ks_is)
    (case h_a_law_turned => first | k_is | kit_is | ks_is)
    (case h_l_law_turned => first | k_is | kit_is | ks_is)
    (case h_c_law_turned => first | k_is | kit_is | ks_is)
    (case h_k_law_turned => first | k_is | kit_is | ks_is)
    (case h_a_law => first | k_is | kit_is | ks_is)
    (case h_l_law => first | k_is | kit_is | ks_is)
    (case h_c_law => first | k_is | kit_is | ks_is)
    (case h_k_law => first | k_is | kit_is | ks_is)
    (case h_pg_Claim => first | k_is | kit_is | ks_is)
    (case h_hd_Claim => first | k_is | kit_is | ks_is)
    (case h_po_Claim => first | k_is | kit_is | ks_is)
    (case h_sa_Claim => first | k_is | kit_is | ks_is)
    (case h_mkc_Claim => first | k_is | kit_is | ks_is)
    (case h_kpc_Claim => first | k_is | kit_is | ks_is)
    (case h_n_Claim_first => first | k_is | kit_is | ks_is)
    (case h_n_Claim_second => first | k_is | kit_is | ks_is)
    (case h_n_Claim_low => first | k_is | kit_is | ks_is)
    (case h_n_Claim_high => first | k_is | kit_is | ks_is)
    (case h_n_Claim_weight => first | k_is | kit_is | ks_is)
    (case h_isn => first | k_is | kit_is | ks_is)
    (case h_ist => first | k_is | kit_is | ks_is)
    (case h_ia_Claim => first | k_is | kit_is | ks_is)
    (case h_im_Claim => first | k_is | kit_is | ks_is)
    (case h_q_LAST_NODE => first | k_is | kit_is | ks_is)
    (case h_q_MOST_WEIGHT => first | k_is | kit_is | ks_is)
    (case h_zz_abs => first | k_is | kit_is | ks_is)
    (case h_zz_bool => first | k_is | kit_is | ks_is)
    (case h_zz_int => first | k_is | kit_is | ks_is)
    (case h_zz_isinstance => first | k_is | kit_is | ks_is)
    (case h_zz_len => first | k_is | kit_is | ks_is)
    (case h_zz_list => first | k_is | kit_is | ks_is)
    (case h_zz_max => first | k_is | kit_is | ks_is)
    (case h_zz_min => first | k_is | kit_is | ks_is)
    (case h_zz_range => first | k_is | kit_is | ks_is)
    (case h_zz_tuple => first | k_is | kit_is | ks_is)
#print axioms PySem.Challenge.cw_counthall_k03_claim_arithmetic_holds

