import PyProof.Rows.All
import Wide.All
import OpenK.AllK
import Wide.FinOn
import HandS.ForMost
import HandS.MakeKwOnly
import HandS.IsInst
import HandS.Conv
import HandS.SetFor
import HandS.Defaults
import PySem.Challenge.RW_counthall_k28_rank_in
set_option Elab.async false
set_option linter.all false
set_option maxRecDepth 100000
set_option maxHeartbeats 4000000
namespace My
open PySem L2

def top (i : Nat) : Stmt := PySem.Challenge.pw_counthall_k28_rank_in.main.body.getD i (.Pass ⟨0, 0, 0, 0⟩)
abbrev s_rank_in : Stmt := top 1
abbrev s_law_source : Stmt := top 3
abbrev s_law_draw : Stmt := top 4
abbrev s_law_between : Stmt := top 5
abbrev s_law_whole : Stmt := top 6
abbrev s_law_levels : Stmt := top 7
abbrev s_law_picked : Stmt := top 8
abbrev s_law_due : Stmt := top 9
abbrev s_law_right : Stmt := top 10
abbrev s_law : Stmt := top 11
theorem sc_rank_in : FnScope ["levels", "holders", "node", "holder"] ["levels", "holders", "node"] (defScope s_rank_in) := ⟨rfl, rfl, rfl, by decide +kernel, rfl, by decide +kernel, by decide +kernel⟩
theorem sc_law_source : FnScope ["_law_script", "_law_place"] ["_law_script", "_law_place"] (defScope s_law_source) := ⟨rfl, rfl, rfl, by decide +kernel, rfl, by decide +kernel, by decide +kernel⟩
theorem sc_law_draw : FnScope ["_law_source_here", "_law_size", "_law_cell", "_law_mixed"] ["_law_source_here", "_law_size"] (defScope s_law_draw) := ⟨rfl, rfl, rfl, by decide +kernel, rfl, by decide +kernel, by decide +kernel⟩
theorem sc_law_between : FnScope ["_law_source_here", "_law_least", "_law_most"] ["_law_source_here", "_law_least", "_law_most"] (defScope s_law_between) := ⟨rfl, rfl, rfl, by decide +kernel, rfl, by decide +kernel, by decide +kernel⟩
theorem sc_law_whole : FnScope ["_law_actual"] ["_law_actual"] (defScope s_law_whole) := ⟨rfl, rfl, rfl, by decide +kernel, rfl, by decide +kernel, by decide +kernel⟩
theorem sc_law_levels : FnScope ["_law_source_here", "_law_size", "_law_far", "_law_levels_here", "_law_node", "_law_sign"] ["_law_source_here", "_law_size"] (defScope s_law_levels) := ⟨rfl, rfl, rfl, by decide +kernel, rfl, by decide +kernel, by decide +kernel⟩
theorem sc_law_picked : FnScope ["_law_source_here", "_law_size", "_law_count", "_law_left", "_law_picked_here", "_law_turn"] ["_law_source_here", "_law_size", "_law_count"] (defScope s_law_picked) := ⟨rfl, rfl, rfl, by decide +kernel, rfl, by decide +kernel, by decide +kernel⟩
theorem sc_law_due : FnScope ["_law_levels_here", "_law_holders", "_law_node", "_law_ahead", "_law_other"] ["_law_levels_here", "_law_holders", "_law_node"] (defScope s_law_due) := ⟨rfl, rfl, rfl, by decide +kernel, rfl, by decide +kernel, by decide +kernel⟩
theorem sc_law_right : FnScope ["_law_levels_here", "_law_holders", "_law_passed", "_law_node", "_law_told"] ["_law_levels_here", "_law_holders", "_law_passed"] (defScope s_law_right) := ⟨rfl, rfl, rfl, by decide +kernel, rfl, by decide +kernel, by decide +kernel⟩
theorem sc_law : FnScope ["_law_script", "_law_source_here", "_law_size", "_law_levels_here", "_law_asker", "_law_holders", "_law_passed", "_law_mover", "_law_moved", "_law_like", "_law_alone"] ["_law_script"] (defScope s_law) := ⟨rfl, rfl, rfl, by decide +kernel, rfl, by decide +kernel, by decide +kernel⟩
/-! ### sources and draws -/
/-- a source of draws: a list of two whole numbers -/
def Src (H : Hp) (a : Addr) : Prop := ∃ c p : Int, H a = some (.lst [.int c, .int p])
/-- the heap without the listed objects -/
def wo (S : List Addr) (H : Hp) : Hp := fun b => if b ∈ S then none else H b
theorem wo_out {S : List Addr} {H : Hp} {b : Addr} (h : b ∉ S) : wo S H b = H b := if_neg h
theorem wo_in {S : List Addr} {H : Hp} {b : Addr} (h : b ∈ S) : wo S H b = none := if_pos h
theorem wo_same (S : List Addr) (H : Hp) : Same (wo S H) H := fun b o e => by
  by_cases h : b ∈ S
  · rw [wo_in h] at e; cases e
  · rw [wo_out h] at e; exact e
theorem Same.wo {S : List Addr} {H H' : Hp} (s : Same H H') : Same (wo S H) (wo S H') := fun b o e => by
  by_cases h : b ∈ S
  · rw [wo_in h] at e; cases e
  · rw [wo_out h] at e ⊢; exact s b o e
/-- only the object at a may have changed -/
def But (a : Addr) (H H' : Hp) : Prop := ∀ b o, b ≠ a → H b = some o → H' b = some o
theorem But.wo {a : Addr} {S : List Addr} {H H' : Hp} (s : But a H H') (h : a ∈ S) : Same (wo S H) (wo S H') := fun b o e => by
  by_cases k : b ∈ S
  · rw [wo_in k] at e; cases e
  · rw [wo_out k] at e ⊢
    exact s b o (fun z => k (z ▸ h)) e
theorem But.upd {a : Addr} {o : HO} {H : Hp} : But a H (upd H a o) := fun b o e h => by rw [upd_ne e]; exact h
theorem But.trans {a : Addr} {H H1 H2 : Hp} (s : But a H H1) (t : But a H1 H2) : But a H H2 := fun b o e h => t b o e (s b o e h)
theorem But.refl (a : Addr) (H : Hp) : But a H H := fun _ _ _ h => h
theorem Same.but {a : Addr} {H H' : Hp} (s : Same H H') : But a H H' := fun b o _ h => s b o h
theorem Same.new {H : Hp} {p : Addr} {o : HO} (h : H p = none) : Same H (upd H p o) := fun b u e => by
  rw [upd_ne (ne_of_none e h)]; exact e
theorem But.new {a : Addr} {H : Hp} {p : Addr} {o : HO} (h : H p = none) : But a H (L2.upd H p o) := fun b u _ e => Same.new h b u e
theorem small6 {n : Nat} (h : n ≤ 100000) : n < sizeLine := Nat.lt_of_le_of_lt h (by decide)
theorem small6' {n : Nat} (h : n ≤ 100000) : n ≤ sizeLine := Nat.le_of_lt (small6 h)
theorem Src.at {H H' : Hp} {a b : Addr} (h : Src H a) (s : But b H H') (n : a ≠ b) : Src H' a := by
  obtain ⟨c, p, e⟩ := h
  exact ⟨c, p, s a _ n e⟩
theorem Src.same {H H' : Hp} {a : Addr} (h : Src H a) (s : Same H H') : Src H' a := by
  obtain ⟨c, p, e⟩ := h
  exact ⟨c, p, s a _ e⟩
theorem Src.ne {H : Hp} {a p : Addr} (h : Src H a) (n : H p = none) : p ≠ a := fun z => by
  obtain ⟨c, q, e⟩ := h
  rw [z, e] at n; cases n
def spSource (K : PySem.W.Frag) : Sp := fun vs H Q _ => ∃ (a : Addr) (ns : List Int) (p : Int), vs = [.ref a, .int p] ∧ SqL K H a (ns.map V.int) ∧ 0 ≤ p ∧
  ∀ l H', H l = none → Same H H' → Src H' l → Q (.ref l) H'
def spDraw : Sp := fun vs H Q _ => ∃ (a : Addr) (n : Int), vs = [.ref a, .int n] ∧ Src H a ∧ 0 < n ∧ n < 1073741824 ∧
  ∀ (r : Int) (H' : Hp), 0 ≤ r → r < n → Src H' a → But a H H' → Q (.int r) H'
def spWhole : Sp := fun vs H Q _ => (∃ i : Int, vs = [.int i] ∧ Q (.bl true) H)
theorem But.mut {a l : Addr} {o : HO} {H H' : Hp} (s : But a H H') (h : H l = none) : But a H (L2.upd H' l o) := fun b u nb e => by
  rw [upd_ne (ne_of_none e h)]; exact s b u nb e
theorem Src.set {a l : Addr} {o : HO} {H : Hp} (s : Src H a) (h : l ≠ a) : Src (L2.upd H l o) a := by
  obtain ⟨c, p, e⟩ := s
  exact ⟨c, p, by rw [upd_ne h.symm]; exact e⟩
theorem But.free {a l : Addr} {H H' : Hp} (s : But a H H') (h : H' l = none) (n : l ≠ a) : H l = none := by
  cases e : H l with
  | none => rfl
  | some o => rw [s l o n e] at h; cases h
/-- a new source joins -/
theorem wo_join {S : List Addr} {s : Addr} {H H' : Hp} (e : Same H H') (h : H s = none) : Same (wo S H) (wo (s :: S) H') := fun b o q => by
  have n : b ≠ s := fun z => by
    have q' := wo_same S H b o q
    rw [z, h] at q'; cases q'
  by_cases k : b ∈ S
  · rw [wo_in k] at q; cases q
  · rw [wo_out k] at q
    rw [wo_out (by simp [n, k])]; exact e b o q
theorem wo_join0 {s : Addr} {H H' : Hp} (e : Same H H') (h : H s = none) : Same H (wo [s] H') := fun b o q => wo_join (S := []) e h b o (by rw [wo_out (by simp)]; exact q)
theorem wo_drop {S : List Addr} {s : Addr} {H : Hp} : Same (wo (s :: S) H) (wo S H) := fun b o q => by
  by_cases k : b ∈ s :: S
  · rw [wo_in k] at q; cases q
  · rw [wo_out k] at q
    rw [wo_out (fun z => k (List.mem_cons_of_mem _ z))]; exact q

/-! ### cuts, tests -/
theorem cutS {t u : TS} {D : Ends} {σ : L2.St} {H : Hp} (M : L2.St → Hp → Prop) (hk : ∀ σ' H', M σ' H' → u D σ' H') (h : (∀ σ' H', M σ' H' → u D σ' H') → tSeq t u D σ H) : tSeq t u D σ H := h hk
def PuT (t : TT) (σ : L2.St) (H : Hp) (b : Bool) : Prop := ∀ Q : Bool → Hp → Prop, Q b H → t σ H Q
theorem put_and {t u : TT} {σ : L2.St} {H : Hp} {a b : Bool} (h1 : PuT t σ H a) (h2 : a = true → PuT u σ H b) : PuT (tAnd t u) σ H (a && b) := fun Q q => h1 _ (by
  cases a with
  | true => exact iteT (h2 rfl Q q)
  | false => exact iteF q)
theorem put_or {t u : TT} {σ : L2.St} {H : Hp} {a b : Bool} (h1 : PuT t σ H a) (h2 : a = false → PuT u σ H b) : PuT (tOr t u) σ H (a || b) := fun Q q => h1 _ (by
  cases a with
  | true => exact iteT q
  | false => exact iteF (h2 rfl Q q))
theorem put_not {t : TT} {σ : L2.St} {H : Hp} {a : Bool} (h1 : PuT t σ H a) : PuT (tNot t) σ H (!a) := fun Q q => h1 _ q
theorem put_is {t : TT} {σ : L2.St} {H : Hp} {a b : Bool} (h : PuT t σ H a) (e : a = b) : PuT t σ H b := e ▸ h
theorem ifS_of {c : TT} {t u : TS} {D : Ends} {σ : L2.St} {H : Hp} {b : Bool} (h : PuT c σ H b) (h1 : b = true → t D σ H) (h2 : b = false → u D σ H) : tIfS c t u D σ H := h _ (by
  cases b with
  | true => exact iteT (h1 rfl)
  | false => exact iteF (h2 rfl))
theorem ifE_of {c : TT} {ta tb : TE} {σ : L2.St} {H : Hp} {Q : VK} {b : Bool} (h : PuT c σ H b) (h1 : b = true → ta σ H Q) (h2 : b = false → tb σ H Q) : tIf c ta tb σ H Q := h _ (by
  cases b with
  | true => exact iteT (h1 rfl)
  | false => exact iteF (h2 rfl))
/-- an optional bound -/
def vo : Option Int → V
  | none => .non
  | some i => .int i
theorem vo_non (o : Option Int) : decide (vo o = .non) = o.isNone := by cases o <;> rfl
theorem nxt {F : L2.St → Hp → Prop} {r b c} {σ : L2.St} {H : Hp} (h : F σ H) : tNext { nx := F, rt := r, bk := b, ct := c } σ H := h
theorem nxe {F : L2.St → Hp → Prop} {r b c} {σ : L2.St} {H : Hp} (h : F σ H) : Ends.nx { nx := F, rt := r, bk := b, ct := c } σ H := h
theorem sqIf {c : TT} {t u r : TS} {D : Ends} {σ : L2.St} {H : Hp} {b : Bool} (h : PuT c σ H b) (h1 : b = true → t { D with nx := r D } σ H) (h2 : b = false → u { D with nx := r D } σ H) : tSeq (tIfS c t u) r D σ H := ifS_of h h1 h2
theorem asg {F : L2.St → Hp → Prop} {r b c} {i : Nat} {v : V} {σ : L2.St} {H : Hp} (h : F (σ.set i (some v)) H) : gName i v σ H (Ends.nx { nx := F, rt := r, bk := b, ct := c }) := h
/-- an item of a written list of whole numbers -/
theorem pick : ∀ (vs : List Int) (r : Int), 0 ≤ r → r < vs.length → ∃ v, v ∈ vs ∧ atI (vs.map V.int) r = some (.int v) := fun vs r h0 h1 => by
  obtain ⟨j, rfl⟩ := Int.eq_ofNat_of_zero_le h0
  have hj : j < vs.length := by omega
  exact ⟨vs[j], List.getElem_mem hj, atI_nat (by rw [List.getElem?_map, List.getElem?_eq_getElem hj]; rfl)⟩
theorem dec_int {a b : Int} : decide (V.int a = V.int b) = decide (a = b) := by
  by_cases h : a = b
  · rw [h, decide_eq_true rfl, decide_eq_true rfl]
  · rw [decide_eq_false h, decide_eq_false (fun z => h (V.int.inj z))]
theorem atI0 {xs : List V} {i : Nat} {v : V} (h : xs[i]? = some v) : atI xs (0 + (i : Int)) = some v := by rw [Int.zero_add]; exact atI_nat h
theorem kit_self {K : PySem.W.Frag} {C : Addr} : PySem.W.kitOne K (.ref C) (.ref C) = some true := by
  unfold PySem.W.kitOne
  rw [if_pos (by simp)]
theorem But.same {a : Addr} {H H' : Hp} (b : But a H H') (h : H a = none) : Same H H' := fun c o e => b c o (ne_of_none e h) e
theorem wo_new {H : Hp} {r : Addr} {o : HO} (h : H r = none) : Same H (wo [r] (L2.upd H r o)) := fun b u e => by
  have n : b ≠ r := ne_of_none e h
  rw [wo_out (by simpa using n), upd_ne n]; exact e
theorem wo_upd {H H3 : Hp} {r : Addr} {o : HO} (s : Same H H3) : Same (wo [r] H) (wo [r] (L2.upd H3 r o)) := fun b u e => by
  by_cases n : b = r
  · rw [n, wo_in (by simp)] at e; cases e
  · rw [wo_out (by simpa using n)] at e
    rw [wo_out (by simpa using n), upd_ne n]; exact s b u e
theorem ixN_j {n j : Nat} (h : j < n) : ixN n (j : Int) = some j := by
  unfold ixN
  rw [if_pos (by omega), if_pos (by omega)]
  simp
theorem dp_ints {K : PySem.W.Frag} {H : Hp} : ∀ ns : List Int, DpAll K H (ns.map V.int) (ns.map PyData.int)
  | [] => .nil
  | n :: ns => .cons (.int n) (dp_ints ns)
theorem canLay_ints : ∀ ns : List Int, PyData.canLayAll0 (ns.map PyData.int) = true
  | [] => by simp [PyData.canLayAll0]
  | n :: ns => by simp [PyData.canLayAll0, PyData.canLay0, canLay_ints ns]
theorem depth_ints : ∀ ns : List Int, PyData.depthAll (ns.map PyData.int) ≤ 1
  | [] => by simp [PyData.depthAll]
  | n :: ns => by
    have := depth_ints ns
    simp only [List.map_cons, PyData.depthAll, PyData.depth]
    omega
theorem shaped_ints (ns : List Int) : SeqAt.shaped (.list (ns.map PyData.int)) = true := by
  unfold SeqAt.shaped
  have h := depth_ints ns
  exact Bool.and_eq_true_iff.mpr ⟨by simp [PyData.canLay0, canLay_ints], decide_eq_true (by simp only [PyData.depth]; omega)⟩
theorem eqv_ints (ns : List Int) : PyData.eqv (.list (ns.map PyData.int)) (.list (ns.map PyData.int)) = true :=
  SeqAt.eqv_refl _ (SeqAt.canLay_of_shaped (shaped_ints ns))
theorem dp_list {K : PySem.W.Frag} {H : Hp} {a : Addr} {ns : List Int} (h : SqL K H a (ns.map V.int)) : Dp K H (.ref a) (.list (ns.map PyData.int)) := .lst h (dp_ints ns)
theorem yesT {σ : L2.St} {H : Hp} {A B : Bool → Hp → Prop} (h : A true H) : tYes σ H fun b H3 => if b = true then A b H3 else B b H3 := by
  show if true = true then A true H else B true H
  rw [if_pos rfl]; exact h

theorem pi_or {X : Cx} {tg e : Expr} {t1 t2 : TI} (h1 : PI X tg e t1) (h2 : PI X tg e t2) : PI X tg e (fun σ H R => t1 σ H R ∨ t2 σ H R) := ⟨fun pins s σ H R I h => h.elim (h1.run pins s σ H R I) (h2.run pins s σ H R I)⟩
theorem SqT.keep {K : PySem.W.Frag} {H H' : Hp} {a : Addr} {xs : List V} (h : SqT K H a xs) (s : Same H H') : SqT K H' a xs := by
  rcases h with (h | ⟨o, h⟩) | h
  · exact .inl (.inl (s _ _ h))
  · exact .inl (.inr ⟨o, s _ _ h⟩)
  · exact .inr h
/-- a list or a tuple -/
def SqA (K : PySem.W.Frag) (H : Hp) (a : Addr) (xs : List V) : Prop := SqL K H a xs ∨ SqT K H a xs
theorem SqA.keep {K : PySem.W.Frag} {H H' : Hp} {a : Addr} {xs : List V} (h : SqA K H a xs) (e : Same H H') : SqA K H' a xs := h.elim (fun h => .inl (e.seq h)) (fun h => .inr (SqT.keep h e))
theorem rIx_a {K : PySem.W.Frag} {H : Hp} {p : Addr} {xs : List V} {i : Int} {v : V} {Q : VK} (h : SqA K H p xs) (e : atI xs i = some v) (q : Q v H) : rIx K (.ref p) (.int i) H Q :=
  h.elim (fun h => .inl ⟨p, xs, i, v, rfl, rfl, h, e, q⟩) (fun h => .inr (.inl ⟨p, xs, i, v, rfl, rfl, h, e, q⟩))
/-- places as values -/
def iv (hs : List Nat) : List V := hs.map fun h : Nat => V.int (h : Int)
theorem iv_at {hs : List Nat} {i : Nat} {x : V} (h : (iv hs)[i]? = some x) : ∃ n : Nat, hs[i]? = some n ∧ x = V.int (n : Int) := by
  unfold iv at h
  rw [List.getElem?_map] at h
  cases e : hs[i]? with
  | none => rw [e] at h; cases h
  | some n => rw [e] at h; exact ⟨n, rfl, (Option.some.inj h).symm⟩
theorem iv_len (hs : List Nat) : (iv hs).length = hs.length := List.length_map ..
theorem iv_app (a b : List Nat) : iv (a ++ b) = iv a ++ iv b := List.map_append ..
theorem int_at {ls : List Int} {n : Nat} (h : n < ls.length) : atI (ls.map V.int) (n : Int) = some (V.int (ls.getD n 0)) := by
  refine atI_nat ?_
  rw [List.getElem?_map, List.getD_eq_getElem?_getD, List.getElem?_eq_getElem h]; rfl
theorem iv_get {hs : List Nat} {n : Nat} (h : n < hs.length) : atI (iv hs) (n : Int) = some (V.int ((hs.getD n 0 : Nat) : Int)) := by
  refine atI_nat ?_
  unfold iv
  rw [List.getElem?_map, List.getD_eq_getElem?_getD, List.getElem?_eq_getElem h]; rfl
theorem getD_mem {hs : List Nat} {n : Nat} (h : n < hs.length) : hs.getD n 0 ∈ hs := by
  rw [List.getD_eq_getElem?_getD, List.getElem?_eq_getElem h]; exact List.getElem_mem h
/-- the places with a greater number -/
def ahead (ls : List Int) (hs : List Nat) (n : Nat) : List Nat := hs.filter fun h => decide (ls.getD n 0 < ls.getD h 0)
theorem ahead_len (ls : List Int) (hs : List Nat) (n : Nat) : (ahead ls hs n).length ≤ hs.length := List.length_filter_le ..
theorem take_snoc {α : Type} {l : List α} {i : Nat} {x : α} (h : l[i]? = some x) : l.take (i + 1) = l.take i ++ [x] := by
  rw [List.take_succ, h]; rfl
theorem ahead_snoc {ls : List Int} {hs : List Nat} {n i m : Nat} (h : hs[i]? = some m) : ahead ls (hs.take (i + 1)) n = ahead ls (hs.take i) n ++ (if ls.getD n 0 < ls.getD m 0 then [m] else []) := by
  unfold ahead
  rw [take_snoc h, List.filter_append]
  congr 1
  by_cases c : ls.getD n 0 < ls.getD m 0
  · rw [if_pos c, List.filter_cons_of_pos (by simpa using c)]; rfl
  · rw [if_neg c, List.filter_cons_of_neg (by simpa using c)]; rfl
def Below (n : Nat) (hs : List Nat) : Prop := ∀ h, h ∈ hs → h < n
def spRank (K : PySem.W.Frag) : Sp := fun vs H Q _ => ∃ (a b : Addr) (ls : List Int) (hs : List Nat) (n : Nat), vs = [.ref a, .ref b, .int (n : Int)] ∧ SqA K H a (ls.map V.int) ∧ SqA K H b (iv hs) ∧ Below ls.length hs ∧ n < ls.length ∧ hs.length ≤ 1000 ∧
  ∀ H', Same H H' → Q (.int (1 + ((ahead ls hs n).length : Int))) H'
def spBetween : Sp := fun vs H Q _ => ∃ (a : Addr) (lo hi : Int), vs = [.ref a, .int lo, .int hi] ∧ Src H a ∧ lo ≤ hi ∧ hi - lo < 1000000000 ∧
  ∀ (r : Int) (H' : Hp), lo ≤ r → r ≤ hi → Src H' a → But a H H' → Q (.int r) H'
def spLevels : Sp := fun vs H Q _ => ∃ (a : Addr) (n : Nat), vs = [.ref a, .int (n : Int)] ∧ Src H a ∧ 1 ≤ n ∧ n ≤ 100 ∧
  ∀ (l : Addr) (ns : List Int) (H' : Hp), ns.length = n → H l = none → H' l = some (.lst (ns.map V.int)) → Src H' a → But a H H' → Q (.ref l) H'
def spPicked : Sp := fun vs H Q _ => ∃ (a : Addr) (n c : Nat), vs = [.ref a, .int (n : Int), .int (c : Int)] ∧ Src H a ∧ 1 ≤ n ∧ n ≤ 100 ∧ 1 ≤ c ∧
  ∀ (l : Addr) (hs : List Nat) (H' : Hp), Below n hs → 1 ≤ hs.length → hs.length ≤ 100 → H l = none → H' l = some (.lst (iv hs)) → Src H' a → But a H H' → Q (.ref l) H'
def spDue (K : PySem.W.Frag) : Sp := fun vs H Q _ => ∃ (a b : Addr) (ls : List Int) (hs : List Nat) (n : Nat), vs = [.ref a, .ref b, .int (n : Int)] ∧ SqL K H a (ls.map V.int) ∧ SqL K H b (iv hs) ∧ Below ls.length hs ∧ n < ls.length ∧
  Q (.int (1 + ((ahead ls hs n).length : Int))) H
/-- what law_right is asked about -/
structure Rt (K : PySem.W.Frag) (H : Hp) (x1 x2 x3 x4 x5 : Addr) (ls : List Int) (hs : List Nat) : Prop where
  lv : SqL K H x1 (ls.map V.int)
  hd : SqL K H x2 (iv hs)
  p : SqL K H x3 [.ref x4, .ref x5]
  pl : SqA K H x4 (ls.map V.int)
  ph : SqA K H x5 (iv hs)
  be : Below ls.length hs
  le : hs.length ≤ 100
theorem Rt.keep {K : PySem.W.Frag} {H H' : Hp} {lv hd p pl ph : Addr} {ls : List Int} {hs : List Nat} (r : Rt K H lv hd p pl ph ls hs) (e : Same H H') : Rt K H' lv hd p pl ph ls hs := ⟨e.seq r.lv, e.seq r.hd, e.seq r.p, r.pl.keep e, r.ph.keep e, r.be, r.le⟩
def spRight (K : PySem.W.Frag) : Sp := fun vs H Q _ => ∃ (lv hd p pl ph : Addr) (ls : List Int) (hs : List Nat), vs = [.ref lv, .ref hd, .ref p] ∧ Rt K H lv hd p pl ph ls hs ∧ ∀ H', Same H H' → Q (.bl true) H'
def spLaw (K : PySem.W.Frag) : Sp := fun vs H Q _ => ∃ (a : Addr) (ns : List Int), vs = [.ref a] ∧ SqL K H a (ns.map V.int) ∧ ns.length ≤ 63 ∧ ∀ H', Q (.bl true) H'
theorem rgV_iv (n : Nat) : rgV 0 (n : Int) = iv (List.range n) := by
  unfold rgV iv
  simp
theorem seqIx {i : Int} {n k : Nat} (h : i = (k : Int)) (hk : k < n) : seqIndex? i n = some k := by
  subst h
  unfold seqIndex?
  have h0 : ¬ ((k : Int) < 0) := by omega
  simp [h0, hk]
theorem iv_erase : ∀ (hs : List Nat) (k : Nat), (iv hs).eraseIdx k = iv (hs.eraseIdx k)
  | [], _ => rfl
  | _ :: _, 0 => rfl
  | h :: hs, k + 1 => congrArg (V.int (h : Int) :: ·) (iv_erase hs k)
theorem Below.erase {n k : Nat} {hs : List Nat} (b : Below n hs) : Below n (hs.eraseIdx k) := fun h hm => b h (List.mem_of_mem_eraseIdx hm)
theorem _root_.L2.Same.but' {H H1 H2 : Hp} {s : Addr} (e : Same H H1) (n : H s = none) (b : But s H1 H2) : Same H H2 := fun c o q => b c o (ne_of_none q n) (e c o q)
theorem _root_.L2.Same.upd' {H H1 : Hp} {l : Addr} {o : HO} (e : Same H H1) (n : H l = none) : Same H (L2.upd H1 l o) := fun c u q => by
  rw [upd_ne (ne_of_none q n)]; exact e c u q
theorem iv_ints (hs : List Nat) : iv hs = (hs.map fun h : Nat => (h : Int)).map V.int := by unfold iv; rw [List.map_map]; rfl
theorem cut1 (hs : List Nat) : cutV (iv hs) (some 1) none = iv (hs.drop 1) := by
  unfold cutV
  rw [HT.sIx_none, show (1 : Int) = ((1 : Nat) : Int) from rfl, HT.sIx_nat, iv_len]
  unfold iv
  cases hs with
  | nil => rfl
  | cons h t =>
    have e : min 1 (h :: t).length = 1 := by simp
    rw [e, List.take_of_length_le (by simp)]
    simp
theorem cut2 (hs : List Nat) : cutV (iv hs) none (some 1) = iv (hs.take 1) := by
  unfold cutV
  rw [HT.sIx_none, show (1 : Int) = ((1 : Nat) : Int) from rfl, HT.sIx_nat, iv_len]
  unfold iv
  cases hs with
  | nil => rfl
  | cons h t => simp
/-- the lists of the law, as they stand -/
structure Md (H0 H' : Hp) (x1 x2 x3 x4 x5 : Addr) (ls : List Int) (hs : List Nat) : Prop where
  z : Same H0 H'
  lv : H' x1 = some (.lst (ls.map V.int))
  hd : H' x2 = some (.lst (iv hs))
  p : H' x3 = some (.lst [.ref x4, .ref x5])
  pl : H' x4 = some (.lst (ls.map V.int))
  ph : H' x5 = some (.lst (iv hs))
  nd : x1 ≠ x2 ∧ x1 ≠ x3 ∧ x1 ≠ x4 ∧ x1 ≠ x5 ∧ x2 ≠ x3 ∧ x2 ≠ x4 ∧ x2 ≠ x5 ∧ x3 ≠ x4 ∧ x3 ≠ x5 ∧ x4 ≠ x5
  n0 : H0 x1 = none ∧ H0 x4 = none ∧ H0 x5 = none
  be : Below ls.length hs
  le : hs.length ≤ 100
  ll : ls.length ≤ 100
theorem Md.keep {H0 H H' : Hp} {lv hd p pl ph : Addr} {ls : List Int} {hs : List Nat} (m : Md H0 H lv hd p pl ph ls hs) (e : Same H H') : Md H0 H' lv hd p pl ph ls hs :=
  ⟨m.z.trans e, e _ _ m.lv, e _ _ m.hd, e _ _ m.p, e _ _ m.pl, e _ _ m.ph, m.nd, m.n0, m.be, m.le, m.ll⟩
/-- none of them is s -/
def Off (lv hd p pl ph s : Addr) : Prop := lv ≠ s ∧ hd ≠ s ∧ p ≠ s ∧ pl ≠ s ∧ ph ≠ s
theorem Md.off {H0 H : Hp} {lv hd p pl ph s : Addr} {ls : List Int} {hs : List Nat} (m : Md H0 H lv hd p pl ph ls hs) (n : H s = none) : Off lv hd p pl ph s :=
  ⟨ne_of_none m.lv n, ne_of_none m.hd n, ne_of_none m.p n, ne_of_none m.pl n, ne_of_none m.ph n⟩
theorem Md.but {H0 H H' : Hp} {lv hd p pl ph s : Addr} {ls : List Int} {hs : List Nat} (m : Md H0 H lv hd p pl ph ls hs) (b : But s H H') (o : Off lv hd p pl ph s) (h0 : H0 s = none) : Md H0 H' lv hd p pl ph ls hs :=
  ⟨m.z.but' h0 b, b _ _ o.1 m.lv, b _ _ o.2.1 m.hd, b _ _ o.2.2.1 m.p, b _ _ o.2.2.2.1 m.pl, b _ _ o.2.2.2.2 m.ph, m.nd, m.n0, m.be, m.le, m.ll⟩
theorem Md.rt {K : PySem.W.Frag} {H0 H : Hp} {lv hd p pl ph : Addr} {ls : List Int} {hs : List Nat} (m : Md H0 H lv hd p pl ph ls hs) : Rt K H lv hd p pl ph ls hs :=
  ⟨.inl (.inl m.lv), .inl (.inl m.hd), .inl (.inl m.p), .inl (.inl (.inl m.pl)), .inl (.inl (.inl m.ph)), m.be, m.le⟩
theorem at0 (h0 : Nat) (t : List Nat) : atI (iv (h0 :: t)) 0 = some (.int (h0 : Int)) := iv_get (hs := h0 :: t) (n := 0) (by simp)

structure Txt (P : Program) (K : PySem.W.Frag) (mg : Str → Option Value) where
  a_rank_in : Addr
  d_rank_in : FuncData
  F_rank_in : Fun K "rank_in" "rank_in" s_rank_in a_rank_in d_rank_in
  b_rank_in : Binds K d_rank_in ["levels", "holders", "node"] []
  m_rank_in : mg "rank_in" = some (.ref a_rank_in)
  a_law_source : Addr
  d_law_source : FuncData
  F_law_source : Fun K "_law_source" "_law_source" s_law_source a_law_source d_law_source
  b_law_source : Binds K d_law_source ["_law_script", "_law_place"] []
  m_law_source : mg "_law_source" = some (.ref a_law_source)
  a_law_draw : Addr
  d_law_draw : FuncData
  F_law_draw : Fun K "_law_draw" "_law_draw" s_law_draw a_law_draw d_law_draw
  b_law_draw : Binds K d_law_draw ["_law_source_here", "_law_size"] []
  m_law_draw : mg "_law_draw" = some (.ref a_law_draw)
  a_law_between : Addr
  d_law_between : FuncData
  F_law_between : Fun K "_law_between" "_law_between" s_law_between a_law_between d_law_between
  b_law_between : Binds K d_law_between ["_law_source_here", "_law_least", "_law_most"] []
  m_law_between : mg "_law_between" = some (.ref a_law_between)
  a_law_whole : Addr
  d_law_whole : FuncData
  F_law_whole : Fun K "_law_whole" "_law_whole" s_law_whole a_law_whole d_law_whole
  b_law_whole : Binds K d_law_whole ["_law_actual"] []
  m_law_whole : mg "_law_whole" = some (.ref a_law_whole)
  a_law_levels : Addr
  d_law_levels : FuncData
  F_law_levels : Fun K "_law_levels" "_law_levels" s_law_levels a_law_levels d_law_levels
  b_law_levels : Binds K d_law_levels ["_law_source_here", "_law_size"] []
  m_law_levels : mg "_law_levels" = some (.ref a_law_levels)
  a_law_picked : Addr
  d_law_picked : FuncData
  F_law_picked : Fun K "_law_picked" "_law_picked" s_law_picked a_law_picked d_law_picked
  b_law_picked : Binds K d_law_picked ["_law_source_here", "_law_size", "_law_count"] []
  m_law_picked : mg "_law_picked" = some (.ref a_law_picked)
  a_law_due : Addr
  d_law_due : FuncData
  F_law_due : Fun K "_law_due" "_law_due" s_law_due a_law_due d_law_due
  b_law_due : Binds K d_law_due ["_law_levels_here", "_law_holders", "_law_node"] []
  m_law_due : mg "_law_due" = some (.ref a_law_due)
  a_law_right : Addr
  d_law_right : FuncData
  F_law_right : Fun K "_law_right" "_law_right" s_law_right a_law_right d_law_right
  b_law_right : Binds K d_law_right ["_law_levels_here", "_law_holders", "_law_passed"] []
  m_law_right : mg "_law_right" = some (.ref a_law_right)
  a_law : Addr
  d_law : FuncData
  F_law : Fun K "law" "law" s_law a_law d_law
  b_law : Binds K d_law ["_law_script"] []
  m_law : mg "law" = some (.ref a_law)
  z_abs : mg "abs" = none
  z_bool : mg "bool" = none
  z_int : mg "int" = none
  z_isinstance : mg "isinstance" = none
  z_len : mg "len" = none
  z_list : mg "list" = none
  z_min : mg "min" = none
  z_range : mg "range" = none
  z_tuple : mg "tuple" = none
section
variable {P : Program} {w : World} {K : PySem.W.Frag} {mg : Str → Option Value} {base : Heap}
theorem atI_int {ns : List Int} {j : Nat} (h : j < ns.length) : atI (ns.map V.int) (j : Int) = some (.int ns[j]) :=
  atI_nat (by rw [List.getElem?_map, List.getElem?_eq_getElem h]; rfl)
theorem sz1 : 1 ≤ sizeLine := by decide
theorem sz2 : 2 ≤ sizeLine := by decide
theorem sz3 : 3 ≤ sizeLine := by decide
theorem sz4 : 4 ≤ sizeLine := by decide
theorem sz5 : 5 ≤ sizeLine := by decide
theorem sz6 : 6 ≤ sizeLine := by decide
theorem ok_law_source (T : Txt P K mg) : FnOk P w K mg base CX0 1 T.a_law_source T.d_law_source ["_law_script", "_law_place"] (spSource K) := by
  refine T.F_law_source.ok sc_law_source (fun vs H Q E h => ?_) (fun cdv A outer s H vs Q E hr h => ?_)
  · obtain ⟨a, ns, p, rfl, _⟩ := h
    rfl
  refine ⟨_, (pss_cons (ps_if (pt_cmpR op_lt (pv 1) (pe_callB call_len_seq (by rfl) T.z_len (by decide +kernel) (pa_cons (pv 0) pa_nil)) (nomark _)) (pss_one (ps_ret (pe_lst (pa_cons (pe_callB call_abs (by rfl) T.z_abs (by decide +kernel) (pa_cons (pe_ix ix_list (pv 0) (pv 1) (fun _ _ => rfl)) pa_nil)) (pa_cons (pv 1) pa_nil))))) pss_nil) (pss_cons (ps_if (pt_cmpR op_eq (pe_callB call_len_seq (by rfl) T.z_len (by decide +kernel) (pa_cons (pv 0) pa_nil)) pe_int (nomark _)) (pss_one (ps_ret (pe_lst (pa_cons (pe_op op_add (pe_op op_mul pe_int (pv 1)) pe_int) (pa_cons (pv 1) pa_nil))))) pss_nil) (pss_one (ps_ret (pe_lst (pa_cons (pe_op op_add (pe_op op_add (pe_op op_mul pe_int (pe_callB call_abs (by rfl) T.z_abs (by decide +kernel) (pa_cons (pe_ix ix_list (pv 0) (pe_op op_mod (pe_callTy call_int1 (by rfl) T.z_int (by decide +kernel) (pa_cons (pv 1) pa_nil)) (pe_callB call_len_seq (by rfl) T.z_len (by decide +kernel) (pa_cons (pv 0) pa_nil))) (fun _ _ => rfl)) pa_nil))) (pe_op op_mul pe_int (pv 1))) pe_int) (pa_cons (pv 1) pa_nil))))))), ?_⟩
  obtain ⟨a, ns, p, rfl, hS, hp, k⟩ := h
  refine ⟨_, rfl, _, rfl, a, _, rfl, .inl hS, _, _, rfl, rfl, _, rfl, ?_⟩
  refine ite2 (fun c => ?_) (fun c => ?_)
  · have c := of_decide_eq_true c
    rw [List.length_map] at c
    obtain ⟨j, rfl⟩ := Int.eq_ofNat_of_zero_le hp
    have hj : j < ns.length := by omega
    refine ⟨_, rfl, _, rfl, a, _, _, _, rfl, rfl, hS, atI_int hj, _, rfl, _, rfl, sz2, fun l hl => ?_⟩
    exact k l _ hl (Same.new hl) ⟨_, _, upd_same⟩
  · refine ⟨_, rfl, a, _, rfl, .inl hS, rfl, _, rfl, ?_⟩
    refine ite2 (fun c2 => ?_) (fun c2 => ?_)
    · refine ⟨_, rfl, _, _, rfl, rfl, .inl ⟨by decide, by decide⟩, _, _, rfl, rfl, _, rfl, sz2, fun l hl => ?_⟩
      exact k l _ hl (Same.new hl) ⟨_, _, upd_same⟩
    · have c2 := of_decide_eq_false (Bool.eq_false_iff.mpr c2)
      have hpos : 0 < ns.length := by
        cases ns with
        | nil => exact absurd rfl c2
        | cons _ _ => exact Nat.succ_pos _
      have hm : (0 : Int) < ((ns.map V.int).length : Int) := by rw [List.length_map]; omega
      have h0 := Int.emod_nonneg p (Int.ne_of_gt hm)
      have h1 := Int.emod_lt_of_pos p hm
      obtain ⟨j, hj⟩ := Int.eq_ofNat_of_zero_le h0
      rw [List.length_map] at h1 hj
      have hj2 : j < ns.length := by omega
      refine ⟨_, rfl, _, rfl, .inl ⟨_, rfl, _, rfl, a, _, rfl, .inl hS, _, _, rfl, rfl, hm, ?_⟩⟩
      refine ⟨a, _, _, _, rfl, rfl, hS, (by rw [List.length_map, hj]; exact atI_int hj2), _, rfl, _, _, rfl, rfl, .inl ⟨by decide, by decide⟩, _, rfl, _, _, rfl, rfl, .inl ⟨by decide, by decide⟩, _, _, rfl, rfl, _, _, rfl, rfl, _, rfl, sz2, fun l hl => ?_⟩
      exact k l _ hl (Same.new hl) ⟨_, _, upd_same⟩
theorem ok_law_draw (T : Txt P K mg) : FnOk P w K mg base CX0 1 T.a_law_draw T.d_law_draw ["_law_source_here", "_law_size"] (spDraw) := by
  refine T.F_law_draw.ok sc_law_draw (fun vs H Q E h => ?_) (fun cdv A outer s H vs Q E hr h => ?_)
  · obtain ⟨a, n, rfl, _⟩ := h
    rfl
  refine ⟨_, (pss_cons (ps_set (i := 2) sc_law_draw.nd rfl (Or.inl rfl) (pe_ix ix_list (pv 0) pe_int (fun _ _ => rfl))) (pss_cons (ps_if (pt_cmpR op_ge (pv 2) (pe_op op_pow pe_int pe_int) (nomark _)) (pss_cons (ps_asg (pe_op op_fdiv (pv 2) (pv 1)) (pg_sub (pv 0) pe_int set_list)) (pss_one (ps_ret (pe_op op_mod (pe_callTy call_int1 (by rfl) T.z_int (by decide +kernel) (pa_cons (pv 2) pa_nil)) (pv 1))))) pss_nil) (pss_cons (ps_asg (pe_op op_add (pe_ix ix_list (pv 0) pe_int (fun _ _ => rfl)) pe_int) (pg_sub (pv 0) pe_int set_list)) (pss_cons (ps_set (i := 3) sc_law_draw.nd rfl (Or.inl rfl) (pe_op op_mod (pe_callTy call_int1 (by rfl) T.z_int (by decide +kernel) (pa_cons (pe_op op_add (pe_op op_add (pv 2) (pe_op op_mul pe_int (pe_ix ix_list (pv 0) pe_int (fun _ _ => rfl)))) pe_int) pa_nil)) pe_int)) (pss_cons (ps_set (i := 3) sc_law_draw.nd rfl (Or.inl rfl) (pe_op op_mod (pe_callTy call_int1 (by rfl) T.z_int (by decide +kernel) (pa_cons (pe_op op_mul (pv 3) (pe_op op_add (pv 3) pe_int)) pa_nil)) pe_int)) (pss_cons (ps_set (i := 3) sc_law_draw.nd rfl (Or.inl rfl) (pe_op op_mod (pe_callTy call_int1 (by rfl) T.z_int (by decide +kernel) (pa_cons (pe_op op_add (pe_op op_mul (pv 3) (pe_op op_add (pv 3) pe_int)) (pe_op op_mul pe_int (pe_ix ix_list (pv 0) pe_int (fun _ _ => rfl)))) pa_nil)) pe_int)) (pss_one (ps_ret (pe_op op_mod (pe_callTy call_int1 (by rfl) T.z_int (by decide +kernel) (pa_cons (pe_op op_fdiv (pv 3) pe_int) pa_nil)) (pv 1)))))))))), ?_⟩
  obtain ⟨a, n, rfl, ⟨c, p, hS⟩, n0, n1, k⟩ := h
  refine ⟨_, rfl, _, _, _, _, rfl, rfl, .inl (.inl hS), rfl, ?_⟩
  refine ⟨_, rfl, _, _, rfl, rfl, ⟨by decide, by decide, by decide⟩, _, _, rfl, rfl, _, rfl, ?_⟩
  refine ite2 (fun c1 => ?_) (fun c1 => ?_)
  · refine ⟨_, rfl, _, rfl, _, _, rfl, rfl, ⟨n0, n1⟩, _, rfl, _, _, _, 0, rfl, rfl, hS, rfl, ?_⟩
    refine ⟨_, rfl, .inl ⟨_, rfl, _, rfl, _, _, rfl, rfl, n0, ?_⟩⟩
    exact k _ _ (Int.emod_nonneg c (Int.ne_of_gt n0)) (Int.emod_lt_of_pos c n0) ⟨_, _, upd_same⟩ But.upd
  · refine ⟨_, rfl, _, _, _, _, rfl, rfl, .inl (.inl hS), rfl, _, _, rfl, rfl, _, rfl, _, _, _, 1, rfl, rfl, hS, rfl, ?_⟩
    have hS1 : upd H a (.lst [.int c, .int (p + 1)]) a = some (.lst [.int c, .int (p + 1)]) := upd_same
    refine ⟨_, rfl, _, rfl, _, _, _, _, rfl, rfl, .inl (.inl hS1), rfl, _, _, rfl, rfl, .inl ⟨by decide, by decide⟩, _, _, rfl, rfl, _, _, rfl, rfl, .inl ⟨_, rfl, _, _, rfl, rfl, (show (0 : Int) < 2147483647 by decide), ?_⟩⟩
    have m0 := Int.emod_nonneg (c + 7919 * (p + 1) + 13) (show (2147483647 : Int) ≠ 0 by decide)
    have m1 := Int.emod_lt_of_pos (c + 7919 * (p + 1) + 13) (show (0 : Int) < 2147483647 by decide)
    generalize (c + 7919 * (p + 1) + 13) % 2147483647 = m at m0 m1 ⊢
    refine ⟨_, rfl, _, rfl, _, _, rfl, rfl, _, _, rfl, rfl, .inl ⟨by omega, by omega⟩, .inl ⟨_, rfl, _, _, rfl, rfl, (show (0 : Int) < 2147483629 by decide), ?_⟩⟩
    have m2 := Int.emod_nonneg (m * (m + 48271)) (show (2147483629 : Int) ≠ 0 by decide)
    have m3 := Int.emod_lt_of_pos (m * (m + 48271)) (show (0 : Int) < 2147483629 by decide)
    generalize m * (m + 48271) % 2147483629 = m' at m2 m3 ⊢
    refine ⟨_, rfl, _, rfl, _, _, rfl, rfl, _, _, rfl, rfl, .inl ⟨by omega, by omega⟩, _, rfl, _, _, _, _, rfl, rfl, .inl (.inl hS1), rfl, _, _, rfl, rfl, .inl ⟨by decide, by decide⟩, _, _, rfl, rfl, .inl ⟨_, rfl, _, _, rfl, rfl, (show (0 : Int) < 2147483647 by decide), ?_⟩⟩
    refine ⟨_, rfl, _, _, rfl, rfl, ⟨by decide, by decide⟩, .inl ⟨_, rfl, _, rfl, _, _, rfl, rfl, n0, ?_⟩⟩
    exact k _ _ (Int.emod_nonneg _ (Int.ne_of_gt n0)) (Int.emod_lt_of_pos _ n0) ⟨_, _, hS1⟩ But.upd
theorem isi_ty {K : PySem.W.Frag} {x : V} {H : Hp} {Q : VK} {a c : String} {b : Bool} (hx : TyOf K H x (.type a)) (hb : kitB a c = some b) (h : Q (.bl b) H) : rIsi K [x, .ty c] H Q :=
  ⟨_, _, _, _, _, rfl, .ty _, .base hx, kit_ty hb, h⟩
theorem kit_int_int : kitB "int" "int" = some true := by decide +kernel
theorem kit_int_bool : kitB "int" "bool" = some false := by decide +kernel
theorem kit_bool_bool : kitB "bool" "bool" = some true := by decide +kernel
theorem kit_bool_int : kitB "bool" "int" = some true := by decide +kernel
theorem kit_tup_tup : kitB "tuple" "tuple" = some true := by decide +kernel
theorem kit_lst_lst : kitB "list" "list" = some true := by decide +kernel
theorem kit_str_str : kitB "str" "str" = some true := by decide +kernel
theorem ok_law_whole (T : Txt P K mg) : FnOk P w K mg base CX0 1 T.a_law_whole T.d_law_whole ["_law_actual"] (spWhole) := by
  refine T.F_law_whole.ok sc_law_whole (fun vs H Q E h => ?_) (fun cdv A outer s H vs Q E hr h => ?_)
  · obtain ⟨i, rfl, _⟩ := h
    rfl
  refine ⟨_, (pss_one (ps_ret (pe_and (pe_callB call_isi (by rfl) T.z_isinstance (by decide +kernel) (pa_cons (pv 0) (pa_cons (pe_bltn (v := .ty "int") (u := .type "int") (by rfl) T.z_int (by decide +kernel) rfl) pa_nil))) (pe_one (pe_not (pe_callB call_isi (by rfl) T.z_isinstance (by decide +kernel) (pa_cons (pv 0) (pa_cons (pe_bltn (v := .ty "bool") (u := .type "bool") (by rfl) T.z_bool (by decide +kernel) rfl) pa_nil)))))))), ?_⟩
  obtain ⟨i, rfl, k⟩ := h
  refine ⟨_, rfl, _, _, _, _, _, rfl, .ty _, .base (.int i), kit_ty kit_int_int, _, rfl, iteT ?_⟩
  refine ⟨_, rfl, _, _, _, _, _, rfl, .ty _, .base (.int i), kit_ty kit_int_bool, _, rfl, ?_⟩
  exact k

theorem ok_law_between (T : Txt P K mg) : FnOk P w K mg base CX0 2 T.a_law_between T.d_law_between ["_law_source_here", "_law_least", "_law_most"] (spBetween) := by
  refine T.F_law_between.ok sc_law_between (fun vs H Q E h => ?_) (fun cdv A outer s H vs Q E hr h => ?_)
  · obtain ⟨a, lo, hi, rfl, _⟩ := h
    rfl
  refine ⟨_, (pss_one (ps_ret (pe_op op_add (pv 1) (pe_call (ok_law_draw T) (hr.mono (by decide)) (by rfl) T.m_law_draw T.F_law_draw.kp T.b_law_draw .nil pass0 (pa_cons (pv 0) (pa_cons (pe_op op_add (pe_op op_sub (pv 2) (pv 1)) pe_int) pa_nil)))))), ?_⟩
  obtain ⟨a, lo, hi, rfl, hs, h1, h2, k⟩ := h
  refine ⟨_, rfl, _, rfl, _, rfl, _, rfl, _, _, rfl, rfl, _, _, rfl, rfl, _, _, rfl, hs, by omega, by omega, fun r H1 r0 r1 hs1 b1 => ?_⟩
  exact ⟨_, _, rfl, rfl, k _ _ (by omega) (by omega) hs1 b1⟩
theorem ok_rank_in (T : Txt P K mg) : FnOk P w K mg base CX0 1 T.a_rank_in T.d_rank_in ["levels", "holders", "node"] (spRank K) := by
  refine T.F_rank_in.ok sc_rank_in (fun vs H Q E h => ?_) (fun cdv A outer s H vs Q E hr h => ?_)
  · obtain ⟨a, b, ls, hs, n, rfl, _⟩ := h
    rfl
  refine ⟨_, (pss_one (ps_ret (pe_op op_add pe_int (pe_callB call_len_seq (by rfl) T.z_len (by decide +kernel) (pa_cons (pe_lc (own := [("holder", 3)]) (g := gName 3) (by rfl) sc_rank_in.nd (pi_or (pi_list (pv 1)) (pi_tup (pv 1))) (blkOk_by (own := [("holder", 3)]) (N := ["levels", "holders", "node", "holder"]) (sc := defScope s_rank_in) (by decide +kernel)) (fun _ _ _ _ _ => pg_name (i := 3) sc_rank_in.nd rfl (Or.inl rfl)) (fun _ _ _ _ _ => pts_one (pt_cmpR op_gt (pe_ix (show IxR _ (rIx K) from ix_seq) (pv 0) (pv 3) (fun _ _ => rfl)) (pe_ix (show IxR _ (rIx K) from ix_seq) (pv 0) (pv 2) (fun _ _ => rfl)) (nomark _))) (fun _ _ _ _ _ => (pv 3))) pa_nil))))), ?_⟩
  obtain ⟨a, b, ls, hs, n, rfl, hl, hh, be, hn, hz, k⟩ := h
  rcases hh with hh | hh
  · refine .inl ⟨_, rfl, b, rfl, ⟨_, hh⟩, fun D hD => lc_list (K := K) (a := b) (xs := iv hs) (fun i H' => H' D = some (.lst (iv (ahead ls (hs.take i) n))) ∧ But D H H') ⟨upd_same, But.upd⟩ (fun i H' _ q => (q.2.same hD).seq hh) ?_ ?_⟩
    · rintro i x H' hx ⟨hd, bb⟩
      obtain ⟨m, hm, rfl⟩ := iv_at hx
      have S := bb.same hD
      have hml : m < ls.length := be m (List.mem_of_getElem? hm)
      refine ⟨rfl, ?_⟩
      refine ⟨_, rfl, _, rfl, rIx_a (hl.keep S) (int_at hml) ⟨_, rfl, _, rfl, rIx_a (hl.keep S) (int_at hn) ⟨_, _, rfl, rfl, _, rfl, ?_⟩⟩⟩
      refine ite2 (fun c => ?_) (fun c => ?_)
      · have c := of_decide_eq_true c
        refine ⟨_, rfl, _, hd, small6 (by rw [iv_len]; have := ahead_len ls (hs.take i) n; have := List.length_take (i := i) (l := hs); omega), ?_, bb.trans But.upd⟩
        rw [upd_same, ahead_snoc hm, if_pos c, iv_app]; rfl
      · refine ⟨?_, bb⟩
        rw [ahead_snoc hm, if_neg (fun z => c (decide_eq_true z)), List.append_nil]; exact hd
    · rintro H1 ⟨hd, bb⟩
      rw [iv_len, List.take_length] at hd
      refine ⟨D, _, rfl, .inl (.inl (.inl hd)), _, _, rfl, rfl, ?_⟩
      rw [iv_len]
      exact k H1 (bb.same hD)
  · refine .inr ⟨_, rfl, b, rfl, ⟨_, hh⟩, fun D hD => lc_tup (K := K) (a := b) (xs := iv hs) (fun i H' => H' D = some (.lst (iv (ahead ls (hs.take i) n))) ∧ But D H H') ⟨upd_same, But.upd⟩ (fun i H' _ q => SqT.keep hh (q.2.same hD)) ?_ ?_⟩
    · rintro i x H' hx ⟨hd, bb⟩
      obtain ⟨m, hm, rfl⟩ := iv_at hx
      have S := bb.same hD
      have hml : m < ls.length := be m (List.mem_of_getElem? hm)
      refine ⟨rfl, ?_⟩
      refine ⟨_, rfl, _, rfl, rIx_a (hl.keep S) (int_at hml) ⟨_, rfl, _, rfl, rIx_a (hl.keep S) (int_at hn) ⟨_, _, rfl, rfl, _, rfl, ?_⟩⟩⟩
      refine ite2 (fun c => ?_) (fun c => ?_)
      · have c := of_decide_eq_true c
        refine ⟨_, rfl, _, hd, small6 (by rw [iv_len]; have := ahead_len ls (hs.take i) n; have := List.length_take (i := i) (l := hs); omega), ?_, bb.trans But.upd⟩
        rw [upd_same, ahead_snoc hm, if_pos c, iv_app]; rfl
      · refine ⟨?_, bb⟩
        rw [ahead_snoc hm, if_neg (fun z => c (decide_eq_true z)), List.append_nil]; exact hd
    · rintro H1 ⟨hd, bb⟩
      rw [iv_len, List.take_length] at hd
      refine ⟨D, _, rfl, .inl (.inl (.inl hd)), _, _, rfl, rfl, ?_⟩
      rw [iv_len]
      exact k H1 (bb.same hD)
theorem ok_law_levels (T : Txt P K mg) : FnOk P w K mg base CX0 3 T.a_law_levels T.d_law_levels ["_law_source_here", "_law_size"] (spLevels) := by
  refine T.F_law_levels.ok sc_law_levels (fun vs H Q E h => ?_) (fun cdv A outer s H vs Q E hr h => ?_)
  · obtain ⟨a, n, rfl, _⟩ := h
    rfl
  refine ⟨_, (pss_cons (ps_set (i := 2) sc_law_levels.nd rfl (Or.inl rfl) (pe_ix ix_list (pe_lst (pa_cons pe_int (pa_cons pe_int (pa_cons pe_int (pa_cons pe_int pa_nil))))) (pe_call (ok_law_draw T) (hr.mono (by decide)) (by rfl) T.m_law_draw T.F_law_draw.kp T.b_law_draw .nil pass0 (pa_cons (pv 0) (pa_cons pe_int pa_nil))) (fun _ _ => rfl))) (pss_cons (ps_set (i := 3) sc_law_levels.nd rfl (Or.inl rfl) (pe_lst (pa_cons pe_int pa_nil))) (pss_cons (ps_for PassesOwn.never rfl (pi_range2 (by rfl) T.z_range (pa_cons pe_int (pa_cons (pv 1) pa_nil))) (pg_name (i := 4) sc_law_levels.nd rfl (Or.inl rfl)) (pss_cons (ps_set (i := 5) sc_law_levels.nd rfl (Or.inl rfl) (pe_op op_sub pe_int (pe_call (ok_law_draw T) (hr.mono (by decide)) (by rfl) T.m_law_draw T.F_law_draw.kp T.b_law_draw .nil pass0 (pa_cons (pv 0) (pa_cons pe_int pa_nil))))) (pss_one (ps_expr (pe_bm PySem.F.plainAttrs_list PySem.F.slot_list_append PySem.F.type_list_append mt_append (pv 3) (pa_cons (pe_op op_add (pe_op op_mul (pv 5) (pv 2)) (pe_call (ok_law_between T) (hr.mono (by decide)) (by rfl) T.m_law_between T.F_law_between.kp T.b_law_between .nil pass0 (pa_cons (pv 0) (pa_cons (pe_op op_sub pe_int pe_int) (pa_cons pe_int pa_nil))))) pa_nil)))))) (pss_one (ps_ret (pv 3)))))), ?_⟩
  obtain ⟨a, n, rfl, hs, n0, n1, k⟩ := h
  refine ⟨sz4, fun l hl => ?_⟩
  refine ⟨_, rfl, _, _, rfl, hs.same (Same.new hl), by decide, by decide, fun r H1 r0 r1 hs1 b1 => ?_⟩
  obtain ⟨far, hf, hat⟩ := pick [0, 0, 0, 999999999000] r r0 r1
  have hf : 0 ≤ far ∧ far ≤ 999999999000 := by
    simp only [List.mem_cons, List.not_mem_nil, or_false] at hf
    omega
  refine ⟨_, _, _, _, rfl, rfl, .inl (.inl (b1 l _ (hs.ne hl) upd_same)), hat, asg ?_⟩
  have B1 : But a H H1 := (But.new hl).trans b1
  refine ⟨sz1, fun p hp => asg ?_⟩
  have pa : p ≠ a := hs1.ne hp
  have p0 : H p = none := B1.free hp pa
  refine ⟨_, rfl, 1, n, rfl, ⟨by omega, by omega, by omega, by omega⟩, for_range (lo := 1) (n := ((n : Int) - 1).toNat) (fun i σ H' => ∃ (ns : List Int) (v1 v2 : Option V), σ = [some (.ref a), some (.int n), some (.int far), some (.ref p), v1, v2] ∧ ns.length = 1 + i ∧ H' p = some (.lst (ns.map V.int)) ∧ Src H' a ∧ But a H H')
    ⟨[0], none, none, rfl, rfl, upd_same, hs1.same (Same.new hp), B1.trans (But.new hp)⟩ ?_ ?_⟩
  · rintro i σ H2 hi ⟨ns, v1, v2, rfl, hn, hL, hs2, b2⟩
    refine ⟨_, rfl, _, _, rfl, hs2, by decide, by decide, fun r3 H3 r30 r31 hs3 b3 => ⟨_, _, rfl, rfl, asg ?_⟩⟩
    refine ⟨_, rfl, .inl ⟨rfl, _, .inl (.inl (b3 _ _ pa hL))⟩, _, rfl, _, rfl, _, _, rfl, rfl, .inl ⟨by omega, by omega⟩, _, rfl, _, _, rfl, rfl, a, _, _, rfl, hs3, by decide, by decide, fun r4 H4 r40 r41 hs4 b4 => ?_⟩
    refine ⟨_, _, rfl, rfl, p, _, _, rfl, rfl, b4 _ _ pa (b3 _ _ pa hL), small6 (by rw [List.length_map]; omega), ?_⟩
    refine ⟨ns ++ [(1 - r3) * far + r4], _, _, rfl, by simp [hn]; omega, by rw [upd_same, List.map_append]; rfl, hs4.set pa, ((b2.trans b3).trans b4).mut p0⟩
  · rintro σ H2 ⟨ns, v1, v2, rfl, hn, hL, hs2, b2⟩
    exact ⟨_, rfl, k p ns H2 (by omega) p0 hL hs2 b2⟩
theorem ok_law_picked (T : Txt P K mg) : FnOk P w K mg base CX0 2 T.a_law_picked T.d_law_picked ["_law_source_here", "_law_size", "_law_count"] (spPicked) := by
  refine T.F_law_picked.ok sc_law_picked (fun vs H Q E h => ?_) (fun cdv A outer s H vs Q E hr h => ?_)
  · obtain ⟨a, n, c, rfl, _⟩ := h
    rfl
  refine ⟨_, (pss_cons (ps_set (i := 3) sc_law_picked.nd rfl (Or.inl rfl) (pe_listRg rfl (by rfl) T.z_list (prg_1 (by rfl) T.z_range (pv 1)))) (pss_cons (ps_set (i := 4) sc_law_picked.nd rfl (Or.inl rfl) (pe_lst pa_nil)) (pss_cons (ps_for PassesOwn.never rfl (pi_range1 (by rfl) T.z_range (pa_cons (pe_callB (call_min2 rfl) (by rfl) T.z_min (by decide +kernel) (pa_cons (pv 1) (pa_cons (pv 2) pa_nil))) pa_nil)) (pg_name (i := 5) sc_law_picked.nd rfl (Or.inl rfl)) (pss_one (ps_expr (pe_bm PySem.F.plainAttrs_list PySem.F.slot_list_append PySem.F.type_list_append mt_append (pv 4) (pa_cons (pe_bm PySem.F.plainAttrs_list PySem.F.slot_list_pop PySem.F.type_list_pop mt_popAt (pv 3) (pa_cons (pe_call (ok_law_draw T) (hr.mono (by decide)) (by rfl) T.m_law_draw T.F_law_draw.kp T.b_law_draw .nil pass0 (pa_cons (pv 0) (pa_cons (pe_callB call_len_seq (by rfl) T.z_len (by decide +kernel) (pa_cons (pv 3) pa_nil)) pa_nil))) pa_nil)) pa_nil))))) (pss_one (ps_ret (pv 4)))))), ?_⟩
  obtain ⟨a, n, c, rfl, hs, n0, n1, c0, k⟩ := h
  refine ⟨_, rfl, _, rfl, RgOk.of_le (by omega) (by omega) (by omega) (by omega), fun q hq => asg ?_⟩
  refine ⟨Nat.zero_le _, fun p hp => asg ?_⟩
  have qa : q ≠ a := hs.ne hq
  have pa : p ≠ a := (hs.same (Same.new (o := .lst (rgV 0 (n : Int))) hq)).ne hp
  have pq : p ≠ q := fun z => by rw [z, upd_same] at hp; cases hp
  have p0 : H p = none := by rw [upd_ne pq] at hp; exact hp
  refine ⟨_, rfl, _, rfl, _, _, rfl, _, rfl, ?_, ?_, for_range (lo := 0) (n := (if (c : Int) < (n : Int) then (c : Int) else (n : Int)).toNat) (fun i σ H' => ∃ (left hs : List Nat) (v : Option V), σ = [some (.ref a), some (.int n), some (.int c), some (.ref q), some (.ref p), v] ∧ Below n left ∧ left.length + i = n ∧ Below n hs ∧ hs.length = i ∧ H' q = some (.lst (iv left)) ∧ H' p = some (.lst (iv hs)) ∧ Src H' a ∧ But a H H')
    ⟨List.range n, [], none, rfl, fun h hm => List.mem_range.mp hm, by simp, (fun _ z => nomatch z), rfl, by rw [upd_ne pq.symm, upd_same, rgV_iv], upd_same, (hs.same (Same.new hq)).same (Same.new hp), (But.new hq).trans (But.new hp)⟩ ?_ ?_⟩
  · split <;> omega
  · split <;> omega
  · rintro i σ H2 hi ⟨left, ps, v, rfl, bl, ll, bp, lp, hQ, hP, hs2, b2⟩
    have hi : i < n := by
      by_cases z : (c : Int) < (n : Int)
      · rw [if_pos z] at hi; omega
      · rw [if_neg z] at hi; omega
    refine ⟨_, rfl, .inl ⟨rfl, _, .inl (.inl hP)⟩, _, rfl, .inl ⟨rfl, _, .inl (.inl hQ)⟩, _, rfl, _, rfl, q, _, rfl, .inl (.inl (.inl hQ)), _, _, rfl, hs2, by rw [iv_len]; omega, by rw [iv_len]; omega, fun r H3 r0 r1 hs3 b3 => ?_⟩
    obtain ⟨j, rfl⟩ := Int.eq_ofNat_of_zero_le r0
    rw [iv_len] at r1
    have hj : j < left.length := by omega
    refine ⟨q, iv left, _, j, V.int ((left.getD j 0 : Nat) : Int), rfl, rfl, b3 _ _ qa hQ, by omega, by omega, by rw [iv_len]; exact seqIx rfl hj, ?_, ?_⟩
    · have := iv_get hj
      obtain ⟨j', e1, e2, _⟩ := atI_get this
      rw [iv_len, seqIx rfl hj] at e1
      cases e1; exact e2
    refine ⟨p, iv ps, _, rfl, rfl, by rw [upd_ne pq]; exact b3 _ _ pa hP, small6 (by rw [iv_len]; omega), ?_⟩
    refine ⟨left.eraseIdx j, ps ++ [left.getD j 0], _, rfl, bl.erase, by rw [List.length_eraseIdx_of_lt hj]; omega, fun h hm => ?_, by simp [lp], by rw [upd_ne pq.symm, upd_same, iv_erase], by rw [upd_same, iv_app]; rfl, (hs3.set qa).set pa, ?_⟩
    · rcases List.mem_append.mp hm with z | z
      · exact bp h z
      · rw [List.mem_singleton.mp z]; exact bl _ (getD_mem hj)
    · exact ((b2.trans b3).mut hq).mut p0
  · rintro σ H2 ⟨left, ps, v, rfl, bl, ll, bp, lp, hQ, hP, hs2, b2⟩
    refine ⟨_, rfl, k p ps H2 bp ?_ ?_ p0 hP hs2 b2⟩
    · rw [lp]; split <;> omega
    · rw [lp]; split <;> omega
theorem ok_law_due (T : Txt P K mg) : FnOk P w K mg base CX0 1 T.a_law_due T.d_law_due ["_law_levels_here", "_law_holders", "_law_node"] (spDue K) := by
  refine T.F_law_due.ok sc_law_due (fun vs H Q E h => ?_) (fun cdv A outer s H vs Q E hr h => ?_)
  · obtain ⟨a, b, ls, hs, n, rfl, _⟩ := h
    rfl
  refine ⟨_, (pss_cons (ps_set (i := 3) sc_law_due.nd rfl (Or.inl rfl) pe_int) (pss_cons (ps_for PassesOwn.never rfl (pi_list (pv 1)) (pg_name (i := 4) sc_law_due.nd rfl (Or.inl rfl)) (pss_one (ps_if (pt_cmpR op_gt (pe_ix ix_list (pv 0) (pv 4) (fun _ _ => rfl)) (pe_ix ix_list (pv 0) (pv 2) (fun _ _ => rfl)) (nomark _)) (pss_one (ps_set (i := 3) sc_law_due.nd rfl (Or.inl rfl) (pe_op op_add (pv 3) pe_int))) pss_nil))) (pss_one (ps_ret (pe_op op_add pe_int (pv 3)))))), ?_⟩
  obtain ⟨a, b, ls, hs, n, rfl, hl, hh, be, hn, k⟩ := h
  refine asg ⟨_, rfl, b, rfl, ⟨_, hh⟩, for_list (K := K) (a := b) (xs := iv hs) (fun i σ H' => H' = H ∧ ∃ v, σ = [some (.ref a), some (.ref b), some (.int n), some (.int ((ahead ls (hs.take i) n).length : Int)), v]) ⟨rfl, none, rfl⟩ (fun i σ H' _ q => q.1 ▸ hh) ?_ ?_⟩
  · rintro i x σ H' hx ⟨rfl, v, rfl⟩
    obtain ⟨m, hm, rfl⟩ := iv_at hx
    have hml : m < ls.length := be m (List.mem_of_getElem? hm)
    refine ifS_of (b := decide (ls.getD n 0 < ls.getD m 0)) (fun Q' q => ⟨_, rfl, _, rfl, _, _, _, _, rfl, rfl, hl, int_at hml, _, rfl, _, rfl, _, _, _, _, rfl, rfl, hl, int_at hn, _, _, rfl, rfl, _, rfl, q⟩) (fun c => ?_) (fun c => nxt ?_)
    · refine ⟨_, rfl, _, _, rfl, rfl, asg ⟨rfl, some (.int (m : Int)), ?_⟩⟩
      rw [ahead_snoc hm, if_pos (of_decide_eq_true c), List.length_append]
      rfl
    · refine ⟨rfl, some (.int (m : Int)), ?_⟩
      rw [ahead_snoc hm, if_neg (of_decide_eq_false c), List.append_nil]
      rfl
  · rintro σ H' ⟨rfl, v, rfl⟩
    rw [iv_len, List.take_length]
    exact ⟨_, rfl, _, _, rfl, rfl, k⟩
theorem ok_law_right (T : Txt P K mg) : FnOk P w K mg base CX0 2 T.a_law_right T.d_law_right ["_law_levels_here", "_law_holders", "_law_passed"] (spRight K) := by
  refine T.F_law_right.ok sc_law_right (fun vs H Q E h => ?_) (fun cdv A outer s H vs Q E hr h => ?_)
  · obtain ⟨lv, hd, p, pl, ph, ls, hs, rfl, _⟩ := h
    rfl
  refine ⟨_, (pss_cons (ps_for PassesOwn.never rfl (pi_list (pv 1)) (pg_name (i := 3) sc_law_right.nd rfl (Or.inl rfl)) (pss_cons (ps_set (i := 4) sc_law_right.nd rfl (Or.inl rfl) (pe_call (ok_rank_in T) (hr.mono (by decide)) (by rfl) T.m_rank_in T.F_rank_in.kp T.b_rank_in .nil pass0 (pa_cons (pe_ix ix_list (pv 2) pe_int (fun _ _ => rfl)) (pa_cons (pe_ix ix_list (pv 2) pe_int (fun _ _ => rfl)) (pa_cons (pv 3) pa_nil))))) (pss_one (ps_if (PW.pt (pw_or (pt_not (pt_val (pe_call (ok_law_whole T) (hr.mono (by decide)) (by rfl) T.m_law_whole T.F_law_whole.kp T.b_law_whole .nil pass0 (pa_cons (pv 4) pa_nil)))) (pw_or1 (pt_cmpR op_ne (pv 4) (pe_call (ok_law_due T) (hr.mono (by decide)) (by rfl) T.m_law_due T.F_law_due.kp T.b_law_due .nil pass0 (pa_cons (pv 0) (pa_cons (pv 1) (pa_cons (pv 3) pa_nil)))) (nomark _))))) (pss_one (ps_ret pe_bl)) pss_nil)))) (pss_one (ps_ret (pe_and (pe_cmpR (op_eqD hr.units) (pe_callTy call_list_of (by rfl) T.z_list (by decide +kernel) (pa_cons (pe_ix ix_list (pv 2) pe_int (fun _ _ => rfl)) pa_nil)) (pv 0) (nomark _)) (pe_one (pe_cmpR (op_eqD hr.units) (pe_callTy call_list_of (by rfl) T.z_list (by decide +kernel) (pa_cons (pe_ix ix_list (pv 2) pe_int (fun _ _ => rfl)) pa_nil)) (pv 1) (nomark _))))))), ?_⟩
  obtain ⟨lv, hd, p, pl, ph, ls, hs, rfl, r, k⟩ := h
  refine ⟨_, rfl, hd, rfl, ⟨_, r.hd⟩, for_list (K := K) (a := hd) (xs := iv hs) (fun i σ H' => Same H H' ∧ ∃ v3 v4, σ = [some (.ref lv), some (.ref hd), some (.ref p), v3, v4]) ⟨Same.refl _, none, none, rfl⟩ (fun i σ H' _ q => q.1.seq r.hd) ?_ ?_⟩
  · rintro i x σ H' hx ⟨e, v3, v4, rfl⟩
    obtain ⟨m, hm, rfl⟩ := iv_at hx
    have hml : m < ls.length := r.be m (List.mem_of_getElem? hm)
    have r1 := r.keep e
    refine ⟨_, rfl, _, _, 0, _, rfl, rfl, r1.p, rfl, _, rfl, _, _, 1, _, rfl, rfl, r1.p, rfl, _, rfl, pl, ph, ls, hs, m, rfl, r1.pl, r1.ph, r1.be, hml, Nat.le_trans r1.le (by decide), fun H3 e3 => asg ?_⟩
    have r3 := r1.keep e3
    refine ifS_of (put_is (b := false) (put_or (put_not (a := true) (fun Q' q => ⟨_, rfl, _, rfl, _, rfl, q⟩)) (fun _ Q' q => ⟨_, rfl, _, rfl, _, rfl, _, rfl, lv, hd, ls, hs, m, rfl, r3.lv, r3.hd, r3.be, hml, rfl, _, rfl, q⟩)) (by rw [decide_eq_true rfl]; rfl)) (fun z => nomatch z) (fun _ => nxt ?_)
    exact ⟨e.trans e3, _, _, rfl⟩
  · rintro σ H' ⟨e, v3, v4, rfl⟩
    have r1 := r.keep e
    refine ⟨_, rfl, _, _, 0, _, rfl, rfl, r1.p, rfl, pl, _, rfl, r1.pl, fun l hl => ?_⟩
    have e2 : Same H' (upd H' l (.lst (ls.map V.int))) := Same.new hl
    have r2 := r1.keep e2
    refine ⟨_, rfl, _, _, dp_list (.inl (.inl upd_same)), dp_list r2.lv, shaped_ints ls, shaped_ints ls, _, rfl, ?_⟩
    rw [if_pos (eqv_ints ls)]
    refine ⟨_, rfl, _, _, 1, _, rfl, rfl, r2.p, rfl, ph, _, rfl, r2.ph, fun l2 hl2 => ?_⟩
    have e3 : Same (upd H' l (.lst (ls.map V.int))) (upd (upd H' l (.lst (ls.map V.int))) l2 (.lst (iv hs))) := Same.new hl2
    have r3 := r2.keep e3
    have U := upd_same (H := upd H' l (.lst (ls.map V.int))) (a := l2) (o := .lst (iv hs))
    generalize upd (upd H' l (.lst (ls.map V.int))) l2 (.lst (iv hs)) = H5 at e3 r3 U ⊢
    have hhd := r3.hd
    rw [iv_ints] at hhd U
    refine ⟨_, rfl, _, _, dp_list (ns := hs.map fun h : Nat => (h : Int)) (.inl (.inl U)), dp_list hhd, shaped_ints _, shaped_ints _, ?_⟩
    rw [eqv_ints]
    exact k _ (e.trans (e2.trans e3))

theorem ok_law (T : Txt P K mg) : FnOk P w K mg base CX0 4 T.a_law T.d_law ["_law_script"] (spLaw K) := by
  refine T.F_law.ok sc_law (fun vs H Q E h => ?_) (fun cdv A outer s H vs Q E hr h => ?_)
  · obtain ⟨a, ns, rfl, _⟩ := h
    rfl
  refine ⟨_, (pss_cons (ps_set (i := 1) sc_law.nd rfl (Or.inl rfl) (pe_call (ok_law_source T) (hr.mono (by decide)) (by rfl) T.m_law_source T.F_law_source.kp T.b_law_source .nil pass0 (pa_cons (pv 0) (pa_cons pe_int pa_nil)))) (pss_cons (ps_set (i := 2) sc_law.nd rfl (Or.inl rfl) (pe_op op_add pe_int (pe_call (ok_law_draw T) (hr.mono (by decide)) (by rfl) T.m_law_draw T.F_law_draw.kp T.b_law_draw .nil pass0 (pa_cons (pv 1) (pa_cons pe_int pa_nil))))) (pss_cons (ps_if (pt_cmpR op_eq (pe_call (ok_law_draw T) (hr.mono (by decide)) (by rfl) T.m_law_draw T.F_law_draw.kp T.b_law_draw .nil pass0 (pa_cons (pv 1) (pa_cons pe_int pa_nil))) pe_int (nomark _)) (pss_one (ps_set (i := 2) sc_law.nd rfl (Or.inl rfl) pe_int)) pss_nil) (pss_cons (ps_set (i := 3) sc_law.nd rfl (Or.inl rfl) (pe_call (ok_law_levels T) (hr.mono (by decide)) (by rfl) T.m_law_levels T.F_law_levels.kp T.b_law_levels .nil pass0 (pa_cons (pv 1) (pa_cons (pv 2) pa_nil)))) (pss_cons (ps_set (i := 4) sc_law.nd rfl (Or.inl rfl) (pe_call (ok_law_source T) (hr.mono (by decide)) (by rfl) T.m_law_source T.F_law_source.kp T.b_law_source .nil pass0 (pa_cons (pv 0) (pa_cons pe_int pa_nil)))) (pss_cons (ps_set (i := 5) sc_law.nd rfl (Or.inl rfl) (pe_call (ok_law_picked T) (hr.mono (by decide)) (by rfl) T.m_law_picked T.F_law_picked.kp T.b_law_picked .nil pass0 (pa_cons (pv 4) (pa_cons (pv 2) (pa_cons (pe_op op_add pe_int (pe_call (ok_law_draw T) (hr.mono (by decide)) (by rfl) T.m_law_draw T.F_law_draw.kp T.b_law_draw .nil pass0 (pa_cons (pv 4) (pa_cons (pv 2) pa_nil)))) pa_nil))))) (pss_cons (ps_if (PW.pt (pw_and (pt_cmpR op_eq (pe_call (ok_law_draw T) (hr.mono (by decide)) (by rfl) T.m_law_draw T.F_law_draw.kp T.b_law_draw .nil pass0 (pa_cons (pv 4) (pa_cons pe_int pa_nil))) pe_int (nomark _)) (pw_and1 (pt_not (pt_val (pe_call (ok_law_right T) (hr.mono (by decide)) (by rfl) T.m_law_right T.F_law_right.kp T.b_law_right .nil pass0 (pa_cons (pv 3) (pa_cons (pv 5) (pa_cons (pe_lst (pa_cons (pe_callTy call_tuple_of (by rfl) T.z_tuple (by decide +kernel) (pa_cons (pv 3) pa_nil)) (pa_cons (pe_callTy call_tuple_of (by rfl) T.z_tuple (by decide +kernel) (pa_cons (pv 5) pa_nil)) pa_nil))) pa_nil))))))))) (pss_one (ps_ret pe_bl)) pss_nil) (pss_cons (ps_set (i := 6) sc_law.nd rfl (Or.inl rfl) (pe_lst (pa_cons (pe_callTy call_list_of (by rfl) T.z_list (by decide +kernel) (pa_cons (pv 3) pa_nil)) (pa_cons (pe_callTy call_list_of (by rfl) T.z_list (by decide +kernel) (pa_cons (pv 5) pa_nil)) pa_nil)))) (pss_cons (ps_if (PW.pt (pw_or (pt_not (pt_val (pe_call (ok_law_right T) (hr.mono (by decide)) (by rfl) T.m_law_right T.F_law_right.kp T.b_law_right .nil pass0 (pa_cons (pv 3) (pa_cons (pv 5) (pa_cons (pv 6) pa_nil)))))) (pw_or1 (pt_not (pt_val (pe_call (ok_law_right T) (hr.mono (by decide)) (by rfl) T.m_law_right T.F_law_right.kp T.b_law_right .nil pass0 (pa_cons (pv 3) (pa_cons (pv 5) (pa_cons (pv 6) pa_nil))))))))) (pss_one (ps_ret pe_bl)) pss_nil) (pss_cons (ps_set (i := 7) sc_law.nd rfl (Or.inl rfl) (pe_call (ok_law_source T) (hr.mono (by decide)) (by rfl) T.m_law_source T.F_law_source.kp T.b_law_source .nil pass0 (pa_cons (pv 0) (pa_cons pe_int pa_nil)))) (pss_cons (ps_set (i := 8) sc_law.nd rfl (Or.inl rfl) (pe_ix ix_list (pv 5) (pe_call (ok_law_draw T) (hr.mono (by decide)) (by rfl) T.m_law_draw T.F_law_draw.kp T.b_law_draw .nil pass0 (pa_cons (pv 7) (pa_cons (pe_callB call_len_seq (by rfl) T.z_len (by decide +kernel) (pa_cons (pv 5) pa_nil)) pa_nil))) (fun _ _ => rfl))) (pss_cons (ps_if (pt_cmpR op_gt (pv 8) pe_int (nomark _)) (pss_cons (ps_set (i := 9) sc_law.nd rfl (Or.inl rfl) (pe_ix ix_list (pv 5) (pe_call (ok_law_draw T) (hr.mono (by decide)) (by rfl) T.m_law_draw T.F_law_draw.kp T.b_law_draw .nil pass0 (pa_cons (pv 7) (pa_cons (pe_callB call_len_seq (by rfl) T.z_len (by decide +kernel) (pa_cons (pv 5) pa_nil)) pa_nil))) (fun _ _ => rfl))) (pss_cons (ps_asg (pe_op op_add (pe_ix ix_list (pv 3) (pv 9) (fun _ _ => rfl)) (pe_call (ok_law_between T) (hr.mono (by decide)) (by rfl) T.m_law_between T.F_law_between.kp T.b_law_between .nil pass0 (pa_cons (pv 7) (pa_cons (pe_op op_sub pe_int pe_int) (pa_cons pe_int pa_nil))))) (pg_sub (pv 3) (pv 8) set_list)) (pss_one (ps_asg (pe_ix ix_list (pv 3) (pv 8) (fun _ _ => rfl)) (pg_sub (pe_ix ix_list (pv 6) pe_int (fun _ _ => rfl)) (pv 8) set_list))))) pss_nil) (pss_cons (ps_set (i := 5) sc_law.nd rfl (Or.inl rfl) (pe_op op_cat (pe_slice sl_list (pv 5) (po_some pe_int) po_none) (pe_slice sl_list (pv 5) po_none (po_some pe_int)))) (pss_cons (ps_expr (pe_bm PySem.F.plainAttrs_list PySem.F.slot_list_append PySem.F.type_list_append mt_append (pe_ix ix_list (pv 6) pe_int (fun _ _ => rfl)) (pa_cons (pe_bm PySem.F.plainAttrs_list PySem.F.slot_list_pop PySem.F.type_list_pop mt_popAt (pe_ix ix_list (pv 6) pe_int (fun _ _ => rfl)) (pa_cons pe_int pa_nil)) pa_nil))) (pss_cons (ps_if (PW.pt (pw_and (pt_cmpR op_gt (pe_callB call_len_seq (by rfl) T.z_len (by decide +kernel) (pa_cons (pv 5) pa_nil)) pe_int (nomark _)) (pw_and1 (pt_cmpR op_eq (pe_call (ok_law_draw T) (hr.mono (by decide)) (by rfl) T.m_law_draw T.F_law_draw.kp T.b_law_draw .nil pass0 (pa_cons (pv 7) (pa_cons pe_int pa_nil))) pe_int (nomark _))))) (pss_cons (ps_set (i := 5) sc_law.nd rfl (Or.inl rfl) (pe_slice sl_list (pv 5) (po_some pe_int) po_none)) (pss_one (ps_expr (pe_bm PySem.F.plainAttrs_list PySem.F.slot_list_pop PySem.F.type_list_pop mt_popAt (pe_ix ix_list (pv 6) pe_int (fun _ _ => rfl)) (pa_cons pe_int pa_nil))))) pss_nil) (pss_cons (ps_if (pt_not (pt_val (pe_call (ok_law_right T) (hr.mono (by decide)) (by rfl) T.m_law_right T.F_law_right.kp T.b_law_right .nil pass0 (pa_cons (pv 3) (pa_cons (pv 5) (pa_cons (pv 6) pa_nil)))))) (pss_one (ps_ret pe_bl)) pss_nil) (pss_cons (ps_set (i := 10) sc_law.nd rfl (Or.inl rfl) (pe_call (ok_rank_in T) (hr.mono (by decide)) (by rfl) T.m_rank_in T.F_rank_in.kp T.b_rank_in .nil pass0 (pa_cons (pe_callTy call_list_of (by rfl) T.z_list (by decide +kernel) (pa_cons (pv 3) pa_nil)) (pa_cons (pe_lst (pa_cons (pe_ix ix_list (pv 5) pe_int (fun _ _ => rfl)) pa_nil)) (pa_cons (pe_ix ix_list (pv 5) pe_int (fun _ _ => rfl)) pa_nil))))) (pss_one (ps_ret (pe_and (pe_call (ok_law_whole T) (hr.mono (by decide)) (by rfl) T.m_law_whole T.F_law_whole.kp T.b_law_whole .nil pass0 (pa_cons (pv 10) pa_nil)) (pe_one (pe_cmpR op_eq (pv 10) pe_int (nomark _))))))))))))))))))))))), ?_⟩
  obtain ⟨a, sc, rfl, hS, _, k⟩ := h
  refine ⟨_, rfl, a, sc, 0, rfl, hS, by decide, fun s1 H1 n1 e1 hs1 => asg ?_⟩
  refine ⟨_, rfl, _, _, rfl, hs1, by decide, by decide, fun r2 H2 r20 r21 hs2 b2 => ⟨_, _, rfl, rfl, asg ?_⟩⟩
  have Z2 := e1.but' n1 b2
  refine cutS (M := fun σ' H' => ∃ n : Nat, σ' = [some (.ref a), some (.ref s1), some (.int (n : Int)), none, none, none, none, none, none, none, none] ∧ 1 ≤ n ∧ n ≤ 16 ∧ Src H' s1 ∧ Same H H') ?_ (fun M => ?_)
  rotate_left
  · refine ⟨_, rfl, _, _, rfl, hs2, by decide, by decide, fun r3 H3 _ _ hs3 b3 => ?_⟩
    refine ⟨rfl, _, rfl, ite2 (fun _ => ?_) (fun _ => ?_)⟩
    · exact asg (M _ _ ⟨16, rfl, by decide, by decide, hs3, Z2.but' n1 b3⟩)
    · exact nxt (M _ _ ⟨(1 + r2).toNat, congrArg (fun z : Int => [some (V.ref a), some (V.ref s1), some (V.int z), none, none, none, none, none, none, none, none]) (show 1 + r2 = (((1 + r2).toNat : Nat) : Int) by omega), by omega, by omega, hs3, Z2.but' n1 b3⟩)
  rintro σ' H3 ⟨n, rfl, hn0, hn1, hs3, Z3⟩
  refine ⟨_, rfl, _, rfl, s1, n, rfl, hs3, hn0, by omega, fun lv ls H4 hlen lv0 hlv hs4 b4 => asg ?_⟩
  have Z4 := Z3.but' n1 b4
  have lvH : H lv = none := Z3.free lv0
  refine ⟨_, rfl, a, sc, 1, rfl, Z4.seq hS, by decide, fun s2 H5 n5 e5 hs5 => asg ?_⟩
  have s2H : H s2 = none := Z4.free n5
  have lvs2 : lv ≠ s2 := ne_of_none hlv n5
  have Z5 := Z4.trans e5
  refine ⟨_, rfl, _, rfl, _, rfl, _, rfl, _, _, rfl, hs5, by omega, by omega, fun r6 H6 r60 r61 hs6 b6 => ?_⟩
  refine ⟨_, _, rfl, rfl, s2, n, (1 + r6).toNat, congrArg (fun z : Int => [V.ref s2, V.int (n : Int), V.int z]) (show 1 + r6 = (((1 + r6).toNat : Nat) : Int) by omega), hs6, hn0, by omega, by omega, fun hd hs H7 be hl1 hl100 hd0 hhd hs7 b7 => asg ?_⟩
  have Z6 := Z5.but' s2H b6
  have Z7 := Z6.but' s2H b7
  have hlv7 := b7 _ _ lvs2 (b6 _ _ lvs2 (e5 _ _ hlv))
  have hds2 : hd ≠ s2 := hs6.ne hd0
  have lvhd : lv ≠ hd := ne_of_none (b6 _ _ lvs2 (e5 _ _ hlv)) hd0
  have be : Below ls.length hs := by rw [hlen]; exact be
  refine cutS (M := fun σ' H' => σ' = [some (.ref a), some (.ref s1), some (.int (n : Int)), some (.ref lv), some (.ref s2), some (.ref hd), none, none, none, none, none] ∧ Same H H' ∧ H' lv = some (.lst (ls.map V.int)) ∧ H' hd = some (.lst (iv hs))) ?_ (fun M => ?_)
  rotate_left
  · refine ⟨_, rfl, _, _, rfl, hs7, by decide, by decide, fun r8 H8 _ _ hs8 b8 => ?_⟩
    have Z8 := Z7.but' s2H b8
    have hlv8 := b8 _ _ lvs2 hlv7
    have hhd8 := b8 _ _ hds2 hhd
    refine ⟨rfl, _, rfl, ite2 (fun _ => ?_) (fun _ => iteF (nxt (M _ _ ⟨rfl, Z8, hlv8, hhd8⟩)))⟩
    refine ⟨_, rfl, _, rfl, _, rfl, lv, _, rfl, .inl ⟨.inl (.inl hlv8), fun t1 ht1 => ?_⟩⟩
    have E1 : Same H8 (upd H8 t1 (.tup (ls.map V.int))) := Same.new ht1
    refine ⟨_, rfl, hd, _, rfl, .inl ⟨.inl (.inl (E1 _ _ hhd8)), fun t2 ht2 => ?_⟩⟩
    have E2 : Same (upd H8 t1 (.tup (ls.map V.int))) (upd (upd H8 t1 (.tup (ls.map V.int))) t2 (.tup (iv hs))) := Same.new ht2
    have T1 := E2 _ _ (upd_same (H := H8) (a := t1))
    have T2 := upd_same (H := upd H8 t1 (.tup (ls.map V.int))) (a := t2) (o := .tup (iv hs))
    have E12 := E1.trans E2
    generalize upd (upd H8 t1 (.tup (ls.map V.int))) t2 (.tup (iv hs)) = H9 at E2 E12 T1 T2 ⊢
    refine ⟨sz2, fun p hp => ?_⟩
    have E3 : Same H9 (upd H9 p (.lst [.ref t1, .ref t2])) := Same.new hp
    refine ⟨lv, hd, p, t1, t2, ls, hs, rfl, ⟨.inl (.inl (E3 _ _ (E12 _ _ hlv8))), .inl (.inl (E3 _ _ (E12 _ _ hhd8))), .inl (.inl upd_same), .inr (.inl (.inl (E3 _ _ T1))), .inr (.inl (.inl (E3 _ _ T2))), be, hl100⟩, fun H10 e10 => ⟨_, rfl, iteF (nxt ?_)⟩⟩
    have E := E12.trans (E3.trans e10)
    exact M _ _ ⟨rfl, Z8.trans E, E _ _ hlv8, E _ _ hhd8⟩
  rintro σ' H10 ⟨rfl, Z10, hlv10, hhd10⟩
  refine ⟨_, rfl, lv, _, rfl, .inl (.inl (.inl hlv10)), fun pl hpl => ?_⟩
  have E1 : Same H10 (upd H10 pl (.lst (ls.map V.int))) := Same.new hpl
  refine ⟨_, rfl, hd, _, rfl, .inl (.inl (.inl (E1 _ _ hhd10))), fun ph hph => ?_⟩
  have E2 : Same (upd H10 pl (.lst (ls.map V.int))) (upd (upd H10 pl (.lst (ls.map V.int))) ph (.lst (iv hs))) := Same.new hph
  have T1 := E2 _ _ (upd_same (H := H10) (a := pl))
  have T2 := upd_same (H := upd H10 pl (.lst (ls.map V.int))) (a := ph) (o := .lst (iv hs))
  have E12 := E1.trans E2
  have n1' : lv ≠ pl := ne_of_none hlv10 hpl
  have n2' : hd ≠ pl := ne_of_none hhd10 hpl
  have n3' : lv ≠ ph := ne_of_none (E1 _ _ hlv10) hph
  have n4' : hd ≠ ph := ne_of_none (E1 _ _ hhd10) hph
  have n5' : pl ≠ ph := ne_of_none (upd_same (H := H10) (a := pl)) hph
  have plH : H pl = none := Z10.free hpl
  have phH : H ph = none := (Z10.trans E1).free hph
  generalize upd (upd H10 pl (.lst (ls.map V.int))) ph (.lst (iv hs)) = H11 at E2 E12 T1 T2 ⊢
  refine ⟨sz2, fun p hp => asg ?_⟩
  have E3 : Same H11 (upd H11 p (.lst [.ref pl, .ref ph])) := Same.new hp
  have D0 : Md H (upd H11 p (.lst [.ref pl, .ref ph])) lv hd p pl ph ls hs :=
    ⟨Z10.trans (E12.trans E3), E3 _ _ (E12 _ _ hlv10), E3 _ _ (E12 _ _ hhd10), upd_same, E3 _ _ T1, E3 _ _ T2, ⟨lvhd, ne_of_none (E12 _ _ hlv10) hp, n1', n3', ne_of_none (E12 _ _ hhd10) hp, n2', n4', (ne_of_none T1 hp).symm, (ne_of_none T2 hp).symm, n5'⟩, ⟨lvH, plH, phH⟩, be, hl100, by omega⟩
  generalize upd H11 p (.lst [.ref pl, .ref ph]) = H12 at D0 ⊢
  refine ⟨_, rfl, _, rfl, _, rfl, lv, hd, p, pl, ph, ls, hs, rfl, D0.rt, fun H13 e13 => ⟨_, rfl, iteF ?_⟩⟩
  have D1 := D0.keep e13
  refine ⟨_, rfl, _, rfl, _, rfl, lv, hd, p, pl, ph, ls, hs, rfl, D1.rt, fun H14 e14 => ⟨_, rfl, iteF (nxt ?_)⟩⟩
  have D2 := D1.keep e14
  refine ⟨_, rfl, a, sc, 2, rfl, D2.z.seq hS, by decide, fun s3 H15 n15 e15 hs15 => asg ?_⟩
  have s3H : H s3 = none := D2.z.free n15
  have O := D2.off n15
  have D3 := D2.keep e15
  refine ⟨_, rfl, _, rfl, _, rfl, hd, _, rfl, .inl (.inl (.inl D3.hd)), _, _, rfl, hs15, by rw [iv_len]; omega, by rw [iv_len]; omega, fun r16 H16 r160 r161 hs16 b16 => ?_⟩
  obtain ⟨j, rfl⟩ := Int.eq_ofNat_of_zero_le r160
  rw [iv_len] at r161
  have hj : j < hs.length := by omega
  have D4 := D3.but b16 O s3H
  refine ⟨_, _, _, _, rfl, rfl, .inl (.inl D4.hd), iv_get hj, asg ?_⟩
  have hm := be _ (getD_mem hj)
  generalize hs.getD j 0 = m at hm ⊢
  refine cutS (M := fun σ' H' => ∃ (ls : List Int) (v9 : Option V), σ' = [some (.ref a), some (.ref s1), some (.int (n : Int)), some (.ref lv), some (.ref s2), some (.ref hd), some (.ref p), some (.ref s3), some (.int (m : Int)), v9, none] ∧ Src H' s3 ∧ Md H H' lv hd p pl ph ls hs) ?_ (fun M => ?_)
  rotate_left
  · refine sqIf (b := decide ((0 : Int) < (m : Int))) (fun Q' q => ⟨_, rfl, _, _, rfl, rfl, _, rfl, q⟩) (fun c => ?_) (fun c => nxt (M _ _ ⟨ls, none, rfl, hs16, D4⟩))
    refine ⟨_, rfl, _, rfl, _, rfl, hd, _, rfl, .inl (.inl (.inl D4.hd)), _, _, rfl, hs16, by rw [iv_len]; omega, by rw [iv_len]; omega, fun r17 H17 r170 r171 hs17 b17 => ?_⟩
    obtain ⟨j2, rfl⟩ := Int.eq_ofNat_of_zero_le r170
    rw [iv_len] at r171
    have hj2 : j2 < hs.length := by omega
    have D5 := D4.but b17 O s3H
    refine ⟨_, _, _, _, rfl, rfl, .inl (.inl D5.hd), iv_get hj2, asg ?_⟩
    have hm2 := be _ (getD_mem hj2)
    generalize hs.getD j2 0 = m2 at hm2 ⊢
    refine ⟨_, rfl, _, rfl, _, _, _, _, rfl, rfl, .inl (.inl D5.lv), int_at hm2, _, rfl, _, _, rfl, rfl, s3, _, _, rfl, hs17, by decide, by decide, fun r18 H18 _ _ hs18 b18 => ?_⟩
    have D6 := D5.but b18 O s3H
    refine ⟨_, _, rfl, rfl, _, rfl, _, rfl, lv, _, _, m, rfl, rfl, D6.lv, ixN_j (by rw [List.length_map]; exact hm), ?_⟩
    rw [show (ls.map V.int).set m ((fun i j : Int => V.int (i + j)) (ls.getD m2 0) r18) = (ls.set m (ls.getD m2 0 + r18)).map V.int from by rw [List.map_set]]
    generalize ls.getD m2 0 + r18 = x
    have L : (ls.map V.int).set m (.int x) = (ls.set m x).map V.int := by rw [List.map_set]
    have hm' : m < (ls.set m x).length := by rw [List.length_set]; exact hm
    have ex : (ls.set m x).getD m 0 = x := by simp [List.getD_eq_getElem?_getD, hm]
    obtain ⟨d1, d2, d3, d4, d5, d6, d7, d8, d9, d10⟩ := D6.nd
    refine ⟨_, rfl, _, rfl, _, _, _, _, rfl, rfl, .inl (.inl upd_same), int_at hm', _, rfl, p, _, 0, _, rfl, rfl, .inl (.inl (by rw [upd_ne d2.symm]; exact D6.p)), rfl, _, rfl, pl, _, _, m, rfl, rfl, (by rw [upd_ne d3.symm]; exact D6.pl), ixN_j (by rw [List.length_map]; exact hm), ?_⟩
    rw [ex, L]
    refine M _ _ ⟨ls.set m x, _, rfl, (hs18.set O.1).set O.2.2.2.1, ⟨(D6.z.upd' D6.n0.1).upd' D6.n0.2.1, by rw [upd_ne d3, upd_same], by rw [upd_ne d6, upd_ne d1.symm]; exact D6.hd, by rw [upd_ne d8, upd_ne d2.symm]; exact D6.p, upd_same, by rw [upd_ne d10.symm, upd_ne d4.symm]; exact D6.ph, D6.nd, D6.n0, by rw [List.length_set]; exact D6.be, D6.le, by rw [List.length_set]; exact D6.ll⟩⟩
  rintro σ' H20 ⟨ls, v9, rfl, hs20, D7⟩
  obtain ⟨h0, t, rfl⟩ : ∃ h0 t, hs = h0 :: t := by
    cases hs with
    | nil => exact absurd hl1 (by decide)
    | cons x y => exact ⟨x, y, rfl⟩
  have C1 : cutV (iv (h0 :: t)) (some 1) none = iv t := cut1 (h0 :: t)
  have C2 : cutV (iv (h0 :: t)) none (some 1) = iv [h0] := cut2 (h0 :: t)
  refine ⟨_, rfl, _, rfl, _, _, rfl, .inl (.inl D7.hd), fun q1 hq1 => ?_⟩
  rw [C1]
  have D8 := D7.keep (Same.new (o := .lst (iv t)) hq1)
  have Q1 := upd_same (H := H20) (a := q1) (o := .lst (iv t))
  have hs21 := hs20.same (Same.new (o := .lst (iv t)) hq1)
  generalize upd H20 q1 (.lst (iv t)) = H21 at D8 Q1 hs21 ⊢
  refine ⟨_, rfl, _, rfl, _, _, rfl, .inl (.inl D8.hd), fun q2 hq2 => ?_⟩
  rw [C2]
  have D9 := D8.keep (Same.new (o := .lst (iv [h0])) hq2)
  have Q2 := upd_same (H := H21) (a := q2) (o := .lst (iv [h0]))
  have Q1' := Same.new (o := .lst (iv [h0])) hq2 _ _ Q1
  have hs22 := hs21.same (Same.new (o := .lst (iv [h0])) hq2)
  generalize upd H21 q2 (.lst (iv [h0])) = H22 at D9 Q2 Q1' hs22 ⊢
  have le9 := D9.le
  have len9 : (h0 :: t).length = t.length + 1 := rfl
  refine ⟨_, _, _, _, rfl, rfl, Q1', Q2, small6' (by rw [iv_len, iv_len]; simp; omega), fun q hq => asg ?_⟩
  rw [← iv_app]
  have D10 := D9.keep (Same.new (o := .lst (iv (t ++ [h0]))) hq)
  have Q := upd_same (H := H22) (a := q) (o := .lst (iv (t ++ [h0])))
  have qs : q ≠ s3 := hs22.ne hq
  have m1 : lv ≠ q := ne_of_none D9.lv hq
  have m2 : p ≠ q := ne_of_none D9.p hq
  have m3 : pl ≠ q := ne_of_none D9.pl hq
  have m4 : ph ≠ q := ne_of_none D9.ph hq
  have hs23 := hs22.same (Same.new (o := .lst (iv (t ++ [h0]))) hq)
  generalize upd H22 q (.lst (iv (t ++ [h0]))) = H23 at D10 Q hs23 ⊢
  refine ⟨_, rfl, _, _, 1, _, rfl, rfl, .inl (.inl D10.p), rfl, .inl ⟨rfl, _, .inl (.inl D10.ph)⟩, _, rfl, _, _, 1, _, rfl, rfl, .inl (.inl D10.p), rfl, .inl ⟨rfl, _, .inl (.inl D10.ph)⟩, ph, iv (h0 :: t), 0, 0, V.int h0, rfl, rfl, D10.ph, by decide, by decide, seqIx rfl (by rw [iv_len]; simp), rfl, ?_⟩
  refine ⟨ph, iv t, _, rfl, rfl, upd_same, small6 (by rw [iv_len]; omega), nxe ?_⟩
  obtain ⟨d1, d2, d3, d4, d5, d6, d7, d8, d9, d10⟩ := D10.nd
  have D11 : Md H (upd (upd H23 ph (.lst ((iv (h0 :: t)).eraseIdx 0))) ph (.lst (iv t ++ [V.int (h0 : Int)]))) lv q p pl ph ls (t ++ [h0]) := by
    refine ⟨(D10.z.upd' D10.n0.2.2).upd' D10.n0.2.2, ?_, ?_, ?_, ?_, by rw [upd_same, iv_app]; rfl, ⟨m1, d2, d3, d4, m2.symm, m3.symm, m4.symm, d8, d9, d10⟩, D10.n0, fun h hm => D10.be h ?_, by simp; omega, D10.ll⟩
    · rw [upd_ne d4, upd_ne d4]; exact D10.lv
    · rw [upd_ne m4.symm, upd_ne m4.symm]; exact Q
    · rw [upd_ne d9, upd_ne d9]; exact D10.p
    · rw [upd_ne d10, upd_ne d10]; exact D10.pl
    · simp at hm ⊢; exact hm.symm
  have hs24 := (hs23.set (o := .lst ((iv (h0 :: t)).eraseIdx 0)) O.2.2.2.2).set (o := .lst (iv t ++ [V.int (h0 : Int)])) O.2.2.2.2
  have O' : Off lv q p pl ph s3 := ⟨O.1, qs, O.2.2.1, O.2.2.2.1, O.2.2.2.2⟩
  have l2 : 1 ≤ (t ++ [h0]).length := by simp
  generalize upd (upd H23 ph (.lst ((iv (h0 :: t)).eraseIdx 0))) ph (.lst (iv t ++ [V.int (h0 : Int)])) = H24 at D11 hs24 ⊢
  generalize t ++ [h0] = hs2 at D11 l2
  refine cutS (M := fun σ' H' => ∃ (hd : Addr) (hs : List Nat), σ' = [some (.ref a), some (.ref s1), some (.int (n : Int)), some (.ref lv), some (.ref s2), some (.ref hd), some (.ref p), some (.ref s3), some (.int (m : Int)), v9, none] ∧ 1 ≤ hs.length ∧ Md H H' lv hd p pl ph ls hs) ?_ (fun M => ?_)
  rotate_left
  · refine ⟨_, rfl, q, _, rfl, .inl (.inl (.inl D11.hd)), _, _, rfl, rfl, _, rfl, ite2 (fun c => ?_) (fun c => iteF (nxt (M _ _ ⟨q, _, rfl, l2, D11⟩)))⟩
    have c := of_decide_eq_true c
    rw [iv_len] at c
    refine ⟨_, rfl, _, _, rfl, hs24, by decide, by decide, fun r25 H25 _ _ hs25 b25 => ?_⟩
    have D12 := D11.but b25 O' s3H
    refine ⟨rfl, _, rfl, ite2 (fun _ => ?_) (fun _ => nxt (M _ _ ⟨q, _, rfl, l2, D12⟩))⟩
    obtain ⟨g0, u, rfl⟩ : ∃ g0 u, hs2 = g0 :: u := by
      cases hs2 with
      | nil => exact absurd l2 (by decide)
      | cons x y => exact ⟨x, y, rfl⟩
    have hu : (g0 :: u).length = u.length + 1 := rfl
    have C3 : cutV (iv (g0 :: u)) (some 1) none = iv u := cut1 (g0 :: u)
    refine ⟨_, rfl, _, rfl, _, _, rfl, .inl (.inl D12.hd), fun q' hq' => asg ?_⟩
    rw [C3]
    have D13 := D12.keep (Same.new (o := .lst (iv u)) hq')
    have Q' := upd_same (H := H25) (a := q') (o := .lst (iv u))
    have k1 : lv ≠ q' := ne_of_none D12.lv hq'
    have k2 : p ≠ q' := ne_of_none D12.p hq'
    have k3 : pl ≠ q' := ne_of_none D12.pl hq'
    have k4 : ph ≠ q' := ne_of_none D12.ph hq'
    generalize upd H25 q' (.lst (iv u)) = H26 at D13 Q' ⊢
    refine ⟨_, rfl, _, _, 1, _, rfl, rfl, .inl (.inl D13.p), rfl, .inl ⟨rfl, _, .inl (.inl D13.ph)⟩, ph, iv (g0 :: u), 0, 0, V.int g0, rfl, rfl, D13.ph, by decide, by decide, seqIx rfl (by rw [iv_len]; simp), rfl, nxe (M _ _ ⟨q', u, rfl, by omega, ?_⟩)⟩
    have le13 := D13.le
    refine ⟨D13.z.upd' D13.n0.2.2, ?_, ?_, ?_, ?_, upd_same, ⟨k1, d2, d3, d4, k2.symm, k3.symm, k4.symm, d8, d9, d10⟩, D13.n0, fun h hm => D13.be h (List.mem_cons_of_mem _ hm), by omega, D13.ll⟩
    · rw [upd_ne d4]; exact D13.lv
    · rw [upd_ne k4.symm]; exact Q'
    · rw [upd_ne d9]; exact D13.p
    · rw [upd_ne d10]; exact D13.pl
  rintro σ' H30 ⟨hd, hs, rfl, hl1, D⟩
  refine ⟨_, rfl, _, rfl, _, rfl, lv, hd, p, pl, ph, ls, hs, rfl, D.rt, fun H31 e31 => ⟨_, rfl, iteF (nxt ?_)⟩⟩
  have D' := D.keep e31
  obtain ⟨h0, t, rfl⟩ : ∃ h0 t, hs = h0 :: t := by
    cases hs with
    | nil => exact absurd hl1 (by decide)
    | cons x y => exact ⟨x, y, rfl⟩
  refine ⟨_, rfl, lv, _, rfl, .inl (.inl (.inl D'.lv)), fun l hl => ?_⟩
  have D'' := D'.keep (Same.new (o := .lst (ls.map V.int)) hl)
  have Lq := upd_same (H := H31) (a := l) (o := .lst (ls.map V.int))
  generalize upd H31 l (.lst (ls.map V.int)) = H32 at D'' Lq ⊢
  refine ⟨_, rfl, _, _, 0, _, rfl, rfl, .inl (.inl D''.hd), at0 h0 t, sz1, fun q hq => ?_⟩
  have E : Same H32 (upd H32 q (.lst [V.int h0])) := Same.new hq
  have hb0 : h0 < ls.length := D''.be h0 List.mem_cons_self
  refine ⟨_, rfl, _, _, 0, _, rfl, rfl, .inl (.inl (E _ _ D''.hd)), at0 h0 t, l, q, ls, [h0], h0, rfl, .inl (.inl (.inl (E _ _ Lq))), .inl (.inl (.inl upd_same)), fun h hm => by rw [List.mem_singleton.mp hm]; exact hb0, hb0, (by show 1 ≤ 1000; decide), fun H34 e34 => asg ?_⟩
  refine ⟨_, rfl, _, rfl, _, rfl, iteT ⟨_, rfl, rfl, ?_⟩⟩
  have z : ahead ls [h0] h0 = [] := by unfold ahead; simp
  rw [z]
  exact k _

end
theorem all_mk {l : PySem.W.OpenLaw} {w : World} {K : PySem.W.Frag} {h : Heap} {mg : Str → Option Value} {fa : Addr} (X : K.In h) (G : h.Ns mainGlobals mg) (hfa : mg "law" = some (.ref fa))
    {f_rank_in : Addr}
    {od_rank_in an_rank_in : Option Addr}
    {sl_rank_in : Array (Option Value)}
    {oc_rank_in kV_rank_in dc_rank_in pm_rank_in cd_rank_in ct_rank_in : Value}
    {f_law_source : Addr}
    {od_law_source an_law_source : Option Addr}
    {sl_law_source : Array (Option Value)}
    {oc_law_source kV_law_source dc_law_source pm_law_source cd_law_source ct_law_source : Value}
    {f_law_draw : Addr}
    {od_law_draw an_law_draw : Option Addr}
    {sl_law_draw : Array (Option Value)}
    {oc_law_draw kV_law_draw dc_law_draw pm_law_draw cd_law_draw ct_law_draw : Value}
    {f_law_between : Addr}
    {od_law_between an_law_between : Option Addr}
    {sl_law_between : Array (Option Value)}
    {oc_law_between kV_law_between dc_law_between pm_law_between cd_law_between ct_law_between : Value}
    {f_law_whole : Addr}
    {od_law_whole an_law_whole : Option Addr}
    {sl_law_whole : Array (Option Value)}
    {oc_law_whole kV_law_whole dc_law_whole pm_law_whole cd_law_whole ct_law_whole : Value}
    {f_law_levels : Addr}
    {od_law_levels an_law_levels : Option Addr}
    {sl_law_levels : Array (Option Value)}
    {oc_law_levels kV_law_levels dc_law_levels pm_law_levels cd_law_levels ct_law_levels : Value}
    {f_law_picked : Addr}
    {od_law_picked an_law_picked : Option Addr}
    {sl_law_picked : Array (Option Value)}
    {oc_law_picked kV_law_picked dc_law_picked pm_law_picked cd_law_picked ct_law_picked : Value}
    {f_law_due : Addr}
    {od_law_due an_law_due : Option Addr}
    {sl_law_due : Array (Option Value)}
    {oc_law_due kV_law_due dc_law_due pm_law_due cd_law_due ct_law_due : Value}
    {f_law_right : Addr}
    {od_law_right an_law_right : Option Addr}
    {sl_law_right : Array (Option Value)}
    {oc_law_right kV_law_right dc_law_right pm_law_right cd_law_right ct_law_right : Value}
    {f_law : Addr}
    {od_law an_law : Option Addr}
    {sl_law : Array (Option Value)}
    {oc_law kV_law dc_law pm_law cd_law ct_law : Value}
    (a_rank_in : PySem.W.nsIn K mainGlobals "rank_in" = some (some (.ref f_rank_in)))
    (l_rank_in : K.lookup f_rank_in = some ⟨oc_rank_in, od_rank_in, .func (PySem.W.fnOf "rank_in" "rank_in" (defArgs s_rank_in) (defBody s_rank_in) (defScope s_rank_in) .none kV_rank_in dc_rank_in pm_rank_in an_rank_in cd_rank_in ct_rank_in), sl_rank_in⟩)
    (c_rank_in : PySem.W.codeIn K cd_rank_in "rank_in" = true)
    (k_rank_in : PySem.W.keepIn K (.ref f_rank_in) = true)
    (a_law_source : PySem.W.nsIn K mainGlobals "_law_source" = some (some (.ref f_law_source)))
    (l_law_source : K.lookup f_law_source = some ⟨oc_law_source, od_law_source, .func (PySem.W.fnOf "_law_source" "_law_source" (defArgs s_law_source) (defBody s_law_source) (defScope s_law_source) .none kV_law_source dc_law_source pm_law_source an_law_source cd_law_source ct_law_source), sl_law_source⟩)
    (c_law_source : PySem.W.codeIn K cd_law_source "_law_source" = true)
    (k_law_source : PySem.W.keepIn K (.ref f_law_source) = true)
    (a_law_draw : PySem.W.nsIn K mainGlobals "_law_draw" = some (some (.ref f_law_draw)))
    (l_law_draw : K.lookup f_law_draw = some ⟨oc_law_draw, od_law_draw, .func (PySem.W.fnOf "_law_draw" "_law_draw" (defArgs s_law_draw) (defBody s_law_draw) (defScope s_law_draw) .none kV_law_draw dc_law_draw pm_law_draw an_law_draw cd_law_draw ct_law_draw), sl_law_draw⟩)
    (c_law_draw : PySem.W.codeIn K cd_law_draw "_law_draw" = true)
    (k_law_draw : PySem.W.keepIn K (.ref f_law_draw) = true)
    (a_law_between : PySem.W.nsIn K mainGlobals "_law_between" = some (some (.ref f_law_between)))
    (l_law_between : K.lookup f_law_between = some ⟨oc_law_between, od_law_between, .func (PySem.W.fnOf "_law_between" "_law_between" (defArgs s_law_between) (defBody s_law_between) (defScope s_law_between) .none kV_law_between dc_law_between pm_law_between an_law_between cd_law_between ct_law_between), sl_law_between⟩)
    (c_law_between : PySem.W.codeIn K cd_law_between "_law_between" = true)
    (k_law_between : PySem.W.keepIn K (.ref f_law_between) = true)
    (a_law_whole : PySem.W.nsIn K mainGlobals "_law_whole" = some (some (.ref f_law_whole)))
    (l_law_whole : K.lookup f_law_whole = some ⟨oc_law_whole, od_law_whole, .func (PySem.W.fnOf "_law_whole" "_law_whole" (defArgs s_law_whole) (defBody s_law_whole) (defScope s_law_whole) .none kV_law_whole dc_law_whole pm_law_whole an_law_whole cd_law_whole ct_law_whole), sl_law_whole⟩)
    (c_law_whole : PySem.W.codeIn K cd_law_whole "_law_whole" = true)
    (k_law_whole : PySem.W.keepIn K (.ref f_law_whole) = true)
    (a_law_levels : PySem.W.nsIn K mainGlobals "_law_levels" = some (some (.ref f_law_levels)))
    (l_law_levels : K.lookup f_law_levels = some ⟨oc_law_levels, od_law_levels, .func (PySem.W.fnOf "_law_levels" "_law_levels" (defArgs s_law_levels) (defBody s_law_levels) (defScope s_law_levels) .none kV_law_levels dc_law_levels pm_law_levels an_law_levels cd_law_levels ct_law_levels), sl_law_levels⟩)
    (c_law_levels : PySem.W.codeIn K cd_law_levels "_law_levels" = true)
    (k_law_levels : PySem.W.keepIn K (.ref f_law_levels) = true)
    (a_law_picked : PySem.W.nsIn K mainGlobals "_law_picked" = some (some (.ref f_law_picked)))
    (l_law_picked : K.lookup f_law_picked = some ⟨oc_law_picked, od_law_picked, .func (PySem.W.fnOf "_law_picked" "_law_picked" (defArgs s_law_picked) (defBody s_law_picked) (defScope s_law_picked) .none kV_law_picked dc_law_picked pm_law_picked an_law_picked cd_law_picked ct_law_picked), sl_law_picked⟩)
    (c_law_picked : PySem.W.codeIn K cd_law_picked "_law_picked" = true)
    (k_law_picked : PySem.W.keepIn K (.ref f_law_picked) = true)
    (a_law_due : PySem.W.nsIn K mainGlobals "_law_due" = some (some (.ref f_law_due)))
    (l_law_due : K.lookup f_law_due = some ⟨oc_law_due, od_law_due, .func (PySem.W.fnOf "_law_due" "_law_due" (defArgs s_law_due) (defBody s_law_due) (defScope s_law_due) .none kV_law_due dc_law_due pm_law_due an_law_due cd_law_due ct_law_due), sl_law_due⟩)
    (c_law_due : PySem.W.codeIn K cd_law_due "_law_due" = true)
    (k_law_due : PySem.W.keepIn K (.ref f_law_due) = true)
    (a_law_right : PySem.W.nsIn K mainGlobals "_law_right" = some (some (.ref f_law_right)))
    (l_law_right : K.lookup f_law_right = some ⟨oc_law_right, od_law_right, .func (PySem.W.fnOf "_law_right" "_law_right" (defArgs s_law_right) (defBody s_law_right) (defScope s_law_right) .none kV_law_right dc_law_right pm_law_right an_law_right cd_law_right ct_law_right), sl_law_right⟩)
    (c_law_right : PySem.W.codeIn K cd_law_right "_law_right" = true)
    (k_law_right : PySem.W.keepIn K (.ref f_law_right) = true)
    (a_law : PySem.W.nsIn K mainGlobals "law" = some (some (.ref f_law)))
    (l_law : K.lookup f_law = some ⟨oc_law, od_law, .func (PySem.W.fnOf "law" "law" (defArgs s_law) (defBody s_law) (defScope s_law) .none kV_law dc_law pm_law an_law cd_law ct_law), sl_law⟩)
    (c_law : PySem.W.codeIn K cd_law "law" = true)
    (k_law : PySem.W.keepIn K (.ref f_law) = true)
    (zz_abs : PySem.W.nsIn K mainGlobals "abs" = some none)
    (zz_bool : PySem.W.nsIn K mainGlobals "bool" = some none)
    (zz_int : PySem.W.nsIn K mainGlobals "int" = some none)
    (zz_isinstance : PySem.W.nsIn K mainGlobals "isinstance" = some none)
    (zz_len : PySem.W.nsIn K mainGlobals "len" = some none)
    (zz_list : PySem.W.nsIn K mainGlobals "list" = some none)
    (zz_min : PySem.W.nsIn K mainGlobals "min" = some none)
    (zz_range : PySem.W.nsIn K mainGlobals "range" = some none)
    (zz_tuple : PySem.W.nsIn K mainGlobals "tuple" = some none)
    : ∃ fd : FuncData, (∀ (s : Shared) (v : Value), BindsTo s fd ⟨[v], []⟩ [("_law_script", v)]) ∧ ∀ base : Heap, K.In base → base.Ns mainGlobals mg → FnOk l.prog w K mg base CX0 4 fa fd ["_law_script"] (spLaw K) := by
  have e := hfa.symm.trans (PySem.W.mg_of X G a_law)
  cases e
  let T : Txt l.prog K mg := {
    a_rank_in := f_rank_in
    d_rank_in := _
    F_rank_in := fun_mk (st := s_rank_in) l_rank_in c_rank_in k_rank_in
    b_rank_in := (fun_mk (st := s_rank_in) l_rank_in c_rank_in k_rank_in).binds (ps := ["levels", "holders", "node"]) fun _ _ _ _ _ _ us hl => match us, hl with | [_, _, _], _ => rfl
    m_rank_in := PySem.W.mg_of X G a_rank_in
    a_law_source := f_law_source
    d_law_source := _
    F_law_source := fun_mk (st := s_law_source) l_law_source c_law_source k_law_source
    b_law_source := (fun_mk (st := s_law_source) l_law_source c_law_source k_law_source).binds (ps := ["_law_script", "_law_place"]) fun _ _ _ _ _ _ us hl => match us, hl with | [_, _], _ => rfl
    m_law_source := PySem.W.mg_of X G a_law_source
    a_law_draw := f_law_draw
    d_law_draw := _
    F_law_draw := fun_mk (st := s_law_draw) l_law_draw c_law_draw k_law_draw
    b_law_draw := (fun_mk (st := s_law_draw) l_law_draw c_law_draw k_law_draw).binds (ps := ["_law_source_here", "_law_size"]) fun _ _ _ _ _ _ us hl => match us, hl with | [_, _], _ => rfl
    m_law_draw := PySem.W.mg_of X G a_law_draw
    a_law_between := f_law_between
    d_law_between := _
    F_law_between := fun_mk (st := s_law_between) l_law_between c_law_between k_law_between
    b_law_between := (fun_mk (st := s_law_between) l_law_between c_law_between k_law_between).binds (ps := ["_law_source_here", "_law_least", "_law_most"]) fun _ _ _ _ _ _ us hl => match us, hl with | [_, _, _], _ => rfl
    m_law_between := PySem.W.mg_of X G a_law_between
    a_law_whole := f_law_whole
    d_law_whole := _
    F_law_whole := fun_mk (st := s_law_whole) l_law_whole c_law_whole k_law_whole
    b_law_whole := (fun_mk (st := s_law_whole) l_law_whole c_law_whole k_law_whole).binds (ps := ["_law_actual"]) fun _ _ _ _ _ _ us hl => match us, hl with | [_], _ => rfl
    m_law_whole := PySem.W.mg_of X G a_law_whole
    a_law_levels := f_law_levels
    d_law_levels := _
    F_law_levels := fun_mk (st := s_law_levels) l_law_levels c_law_levels k_law_levels
    b_law_levels := (fun_mk (st := s_law_levels) l_law_levels c_law_levels k_law_levels).binds (ps := ["_law_source_here", "_law_size"]) fun _ _ _ _ _ _ us hl => match us, hl with | [_, _], _ => rfl
    m_law_levels := PySem.W.mg_of X G a_law_levels
    a_law_picked := f_law_picked
    d_law_picked := _
    F_law_picked := fun_mk (st := s_law_picked) l_law_picked c_law_picked k_law_picked
    b_law_picked := (fun_mk (st := s_law_picked) l_law_picked c_law_picked k_law_picked).binds (ps := ["_law_source_here", "_law_size", "_law_count"]) fun _ _ _ _ _ _ us hl => match us, hl with | [_, _, _], _ => rfl
    m_law_picked := PySem.W.mg_of X G a_law_picked
    a_law_due := f_law_due
    d_law_due := _
    F_law_due := fun_mk (st := s_law_due) l_law_due c_law_due k_law_due
    b_law_due := (fun_mk (st := s_law_due) l_law_due c_law_due k_law_due).binds (ps := ["_law_levels_here", "_law_holders", "_law_node"]) fun _ _ _ _ _ _ us hl => match us, hl with | [_, _, _], _ => rfl
    m_law_due := PySem.W.mg_of X G a_law_due
    a_law_right := f_law_right
    d_law_right := _
    F_law_right := fun_mk (st := s_law_right) l_law_right c_law_right k_law_right
    b_law_right := (fun_mk (st := s_law_right) l_law_right c_law_right k_law_right).binds (ps := ["_law_levels_here", "_law_holders", "_law_passed"]) fun _ _ _ _ _ _ us hl => match us, hl with | [_, _, _], _ => rfl
    m_law_right := PySem.W.mg_of X G a_law_right
    a_law := fa
    d_law := _
    F_law := fun_mk (st := s_law) l_law c_law k_law
    b_law := (fun_mk (st := s_law) l_law c_law k_law).binds (ps := ["_law_script"]) fun _ _ _ _ _ _ us hl => match us, hl with | [_], _ => rfl
    m_law := PySem.W.mg_of X G a_law
    z_abs := PySem.W.mg_none_of X G zz_abs
    z_bool := PySem.W.mg_none_of X G zz_bool
    z_int := PySem.W.mg_none_of X G zz_int
    z_isinstance := PySem.W.mg_none_of X G zz_isinstance
    z_len := PySem.W.mg_none_of X G zz_len
    z_list := PySem.W.mg_none_of X G zz_list
    z_min := PySem.W.mg_none_of X G zz_min
    z_range := PySem.W.mg_none_of X G zz_range
    z_tuple := PySem.W.mg_none_of X G zz_tuple }
  exact ⟨PySem.W.fnOf "law" "law" (defArgs s_law) (defBody s_law) (defScope s_law) .none kV_law dc_law pm_law an_law cd_law ct_law, fun s v => .of_eq rfl, fun base _ _ => ok_law T⟩
theorem walk {l : PySem.W.OpenLaw} {q : Program} {loose : List Str} {XP : (Str → Option Value) → Heap → Prop} {YP : World → Heap → Prop} {d : DefRec} {K : Params → PySem.W.Frag} (hn : l.most = some 63) (hdf : d.params.defaults = [])
    (hY : ∀ (w : World) (h : Heap), YP w h → (K w.params).In h)
    (F : ∀ (w : World) (mg : Str → Option Value) (fa : Addr) (h : Heap), (K w.params).In h → h.Ns mainGlobals mg → mg d.name = some (.ref fa) →
      ∃ fd : FuncData, (∀ (s : Shared) (u : Value), BindsTo s fd ⟨[u], []⟩ [("_law_script", u)]) ∧ ∀ base : Heap, (K w.params).In base → base.Ns mainGlobals mg → FnOk l.prog w (K w.params) mg base CX0 4 fa fd ["_law_script"] (spLaw (K w.params))) :
    PySem.W.WalkO q loose XP YP l.row.toRowW d [] (fun f vs => PySem.call f vs) :=
  L2.walk_of (n := 63) (k := 4) (x := "_law_script") (CX := fun _ => CX0) (sp := fun w => spLaw (K w.params)) hn (by decide) hdf ⟨rfl, by decide, by decide⟩ hY F (fun _ _ a ns hl _ hS => ⟨a, ns, rfl, hS, hl, fun _ => rfl⟩) fun _ _ _ _ _ z => z
end My

open PySem PySem.W PyProof.Rows in
set_option maxRecDepth 100000 in
set_option maxHeartbeats 0 in
theorem PySem.Challenge.cw_counthall_k28_rank_in_holds : PySem.Challenge.rw_counthall_k28_rank_in.Holds := by
  w_on; o_law; k_head; (case hw => w_witness2)
  k_fill
  refine My.walk (l := PySem.Challenge.rw_counthall_k28_rank_in) rfl rfl (fun w h Y => PySem.W.kIn_of Y) ?F
  case F =>
    intro w mg fa h KX G hmg
    refine' My.all_mk KX G hmg ?h_a_rank_in ?h_l_rank_in ?h_c_rank_in ?h_k_rank_in ?h_a_law_source ?h_l_law_source ?h_c_law_source ?h_k_law_source ?h_a_law_draw ?h_l_law_draw ?h_c_law_draw ?h_k_law_draw ?h_a_law_between ?h_l_law_between ?h_c_law_between ?h_k_law_between ?h_a_law_whole ?h_l_law_whole ?h_c_law_whole ?h_k_law_whole ?h_a_law_levels ?h_l_law_levels ?h_c_law_levels ?h_k_law_levels ?h_a_law_picked ?h_l_law_picked ?h_c_law_picked ?h_k_law_picked ?h_a_law_due ?h_l_law_due ?h_c_law_due ?h_k_law_due ?h_a_law_right ?h_l_law_right ?h_c_law_right ?h_k_law_right ?h_a_law ?h_l_law ?h_c_law ?h_k_law ?h_zz_abs ?h_zz_bool ?h_zz_int ?h_zz_isinstance ?h_zz_len ?h_zz_list ?h_zz_min ?h_zz_range ?h_zz_tuple
    (case h_a_rank_in => first | k_is | kit_is | ks_is)
    (case h_l_rank_in => first | k_is | kit_is | ks_is)
    (case h_c_rank_in => first | k_is | kit_is | ks_is)
    (case h_k_rank_in => first | k_is | kit_is | ks_is)
    (case h_a_law_source => first | k_is | kit_is | ks_is)
    (case h_l_law_source => first | k_is | kit_is | ks_is)
    (case h_c_law_source => first | k_is | kit_is | ks_is)
    (case h_k_law_source => first | k_is | kit_is | ks_is)
    (case h_a_law_draw => first | k_is | kit_is | ks_is)
    (case h_l_law_draw => first | k_is | kit_is | ks_is)
    (case h_c_law_draw => first | k_is | kit_is | ks_is)
    (case h_k_law_draw => first | k_is | kit_is | ks_is)
    (case h_a_law_between => first | k_is | kit_is | ks_is)
    (case h_l_law_between => first | k_is | kit_is | ks_is)
    (case h_c_law_between => first | k_is | kit_is | ks_is)
    (case h_k_law_between => first | k_is | kit_is | ks_is)
    (case h_a_law_whole => first | k_is | kit_is | ks_is)
    (case h_l_law_whole => first | k_is | kit_is | ks_is)
    (case h_c_law_whole => first | k_is | kit_is | ks_is)
    (case h_k_law_whole => first | k_is | kit_is | ks_is)
    (case h_a_law_levels => first | k_is | kit_is | ks_is)
    (case h_l_law_levels => first | k_is | kit_is | ks_is)
    (case h_c_law_levels => first | k_is | kit_is | ks_is)
    (case h_k_law_levels => first | k_is | kit_is | ks_is)
    (case h_a_law_picked => first | k_is | kit_is | ks_is)
    (case h_l_law_picked => first | k_is | kit_is | ks_is)
    (case h_c_law_picked => first | k_is | kit_is | ks_is)
    (case h_k_law_picked => first | k_is | kit_is | ks_is)
    (case h_a_law_due => first | k_is | kit_is | ks_is)
    (case h_l_law_due => first | k_is | kit_is | ks_is)
    (case h_c_law_due => first | k_is | kit_is | ks_is)
    (case h_k_law_due => first | k_is | kit_is | ks_is)
    (case h_a_law_right => first | k_is | kit_is | ks_is)
    (case h_l_law_right => first | k_is | kit_is | ks_is)
    (case h_c_law_right => first | k_is | kit_is | ks_is)
    (case h_k_law_right => first | k_is | kit_is | ks_is)
    (case h_a_law => first | k_is | kit_is | ks_is)
    (case h_l_law => first | k_is | kit_is | ks_is)
    (case h_c_law => first | k_is | kit_is | ks_is)
    (case h_k_law => first | k_is | kit_is | ks_is)
    (case h_zz_abs => first | k_is | kit_is | ks_is)
    (case h_zz_bool => first | k_is | kit_is | ks_is)
    (case h_zz_int => first | k_is | kit_is | ks_is)
    (case h_zz_isinstance => first | k_is | kit_is | ks_is)
    (case h_zz_len => first | k_is | kit_is | ks_is)
    (case h_zz_list => first | k_is | kit_is | ks_is)
    (case h_zz_min => first | k_is | kit_is | ks_is)
    (case h_zz_range => first | k_is | kit_is | ks_is)
    (case h_zz_tuple => first | k_is | kit_is | ks_is)
#print axioms PySem.Challenge.cw_counthall_k28_rank_in_holds

