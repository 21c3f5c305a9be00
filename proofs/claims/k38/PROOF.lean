import PyProof.Rows.All
import Wide.All
import OpenK.AllK
import Wide.FinOn
import HandS.ForMost
import HandS.MakeKwOnly
import HandS.IsInst
import HandS.Conv
import HandS.SetFor
import HandS.Defaults
import HandS.AnyAll
import HandS.Sort
import HandS.SortInts
import HandS.EndTab
import HandS.HeadHook4
import HandS.HeadWalk
import PyProof.GenCompT
import PyProof.WalksPairs
import KE.GoesMore
import PySem.Challenge.RW_counthall_k38_middle_span
set_option Elab.async false
set_option linter.all false
set_option maxRecDepth 100000
set_option maxHeartbeats 4000000

namespace Gq
open PySem PySem.Spec PyProof.Rows L2 GxR
/-! ### generator expressions over lists and tuples, their elements without calls of defs -/
/-- the value xv in the heap h can be walked; P is no part of the walk -/
def WalkV (prog : Program) (w : World) (h : Heap) (P : Addr) (xv : Value) (n : Nat) (Pi : Nat → Value → Prop) : Prop :=
  ∀ (A : Around) (E : Value → Shared → Prop) (s : Shared) (Q : Value → Shared → Prop), s.heap = h →
    (∀ (ob : Obj) (fp : List Addr) (St : Nat → Heap → Prop), (∀ A' : Around, A'.handled = none → Walks prog w A' h.objs.size fp [h.objs.size] n Pi St) → St 0 (h.push ob) → (∀ b ∈ fp, b ≠ P ∧ b ≤ h.objs.size) →
      Q (.ref h.objs.size) { s with heap := h.push ob }) → wpAny (model prog w) A (pyIter xv) Q E s
theorem walk_list {prog : Program} {w : World} {h : Heap} {P l : Addr} {its : Array Value} (hl : h.IsList l its) (hP : P < h.objs.size) (n : l ≠ P) : WalkV prog w h P (.ref l) its.size (fun i v => its[i]? = some v) := by
  intro A E s Q e k
  subst e
  have hlt : l < s.heap.objs.size := by
    obtain ⟨o, ho, _⟩ := hl
    exact Heap.lt_size ho
  refine wpAny_pyIter_list hl (k _ [s.heap.objs.size, l] (fun i h' => h'.IsListIter s.heap.objs.size l i ∧ h'.IsList l its) (fun A' hA => Walks.list hA _ _ (Nat.ne_of_lt hlt) its) ⟨⟨_, Heap.get?_push_size _ rfl, rfl, rfl⟩, hl.push _⟩ fun b hb => ?_)
  simp only [List.mem_cons, List.not_mem_nil, or_false] at hb
  rcases hb with rfl | rfl
  · exact ⟨(Nat.ne_of_lt hP).symm, Nat.le_refl _⟩
  · exact ⟨n, Nat.le_of_lt hlt⟩
theorem walk_tuple {prog : Program} {w : World} {h : Heap} {P l : Addr} {its : Array Value} (hl : h.IsTuple l its) (hP : P < h.objs.size) (n : l ≠ P) : WalkV prog w h P (.ref l) its.size (fun i v => its[i]? = some v) := by
  intro A E s Q e k
  subst e
  have hlt : l < s.heap.objs.size := by
    obtain ⟨o, ho, _⟩ := hl
    exact Heap.lt_size ho
  refine wpAny_pyIter_tuple hl (k _ [s.heap.objs.size, l] (fun i h' => h'.IsTupleIter s.heap.objs.size l i ∧ h'.IsTuple l its) (fun A' hA => Walks.tuple hA _ _ (Nat.ne_of_lt hlt) its) ⟨⟨_, Heap.get?_push_size _ rfl, rfl, rfl⟩, hl.push _⟩ fun b hb => ?_)
  simp only [List.mem_cons, List.not_mem_nil, or_false] at hb
  rcases hb with rfl | rfl
  · exact ⟨(Nat.ne_of_lt hP).symm, Nat.le_refl _⟩
  · exact ⟨n, Nat.le_of_lt hlt⟩
section
variable {X : Cx} {pins : List (Addr × Obj)} {σ : L2.St} {H : Hp} {s : Shared}
/-- the element of the item i is known, in each heap that keeps h but for P -/
def EltR (X : Cx) (scope : Scope) (x : Str) (elt : Expr) (P : Addr) (h : Heap) (Pi F : Nat → Value → Prop) : Prop :=
  ∀ (C : Addr) (code : Value) (A' : Around) (E' : Value → Shared → Prop) (i : Nat) (v : Value) (t : Shared) (m : Str → Option Value), A'.handled = none → Pi i v → t.heap.Ns C m → m x = some v →
    (∀ b o, b ≠ P → h.get? b = some o → t.heap.get? b = some o) → wpAny (model X.prog X.w) A' (eval elt (genEnv scope (cloFrom X.env.cells scope.names []) C code builtinsNs X.env)) (fun y t' => F i y ∧ Keeps t t') E' t
/-- the generator g stands ready, its n elements known by F -/
def RdyG (X : Cx) (pins : List (Addr × Obj)) (σ : L2.St) (H1 : Hp) (P : Addr) (n : Nat) (F : Nat → Value → Prop) (g : Addr) (t : Shared) : Prop :=
  ∃ (fp wr : List Addr) (G : Array GenState → Array GenState → Prop) (F' : Nat → Value → Prop) (St : Nat → Shared → Prop), WalksS X.prog X.w X.A.in1 g fp wr G n F' St ∧ (∀ j y, F' j y → F j y) ∧ St 0 t ∧ (∀ b ∈ fp, b < t.heap.objs.size) ∧
    ∀ t', Moved wr G t t' → ∃ H2, Tabbed P H1 H2 ∧ Inv X pins σ H2 t'
theorem gen_seq {c P : Addr} {elt iter : Expr} {x : Str} {px gpos : Pos} {scope : Scope} {te : TE} {k : Nat} {Q' : Value → Shared → Prop}
    (hr : Room k X.A) (TB : TabB X.base X.mg c P) (hcode : X.env.code = .ref c) (S : GenS X.env scope x) (hi : PE X iter te) (hs : ∀ v, genFold iter X.env v = pure v) (I : Inv X pins σ H s)
    {R : VK} (h : te σ H R) (hR : ∀ v H1, R v H1 → TabG H1 P ∧ ∀ (s1 : Shared) (xv : Value), Inv X pins σ H1 s1 → RelV v xv → ∃ (n : Nat) (Pi F : Nat → Value → Prop), WalkV X.prog X.w s1.heap P xv n Pi ∧ EltR X scope x elt P s1.heap Pi F ∧ ∀ g t, RdyG X pins σ H1 P n F g t → Q' (.ref g) t) :
    wpAny (model X.prog X.w) X.A (eval (.GeneratorExp elt [⟨.Name x px, iter, [], 0⟩] scope gpos) X.env) Q' X.xe s := by
  refine wpAny_GeneratorExp_walksQ hr.hd S.co (closure_ok S.free) S.cell S.dot S.loc S.kind (by have d := hr.dp; omega) ?_ hs
  refine thn (hi.run pins s σ H _ I h) fun xv s1 ⟨v, H1, I1, rel, all1⟩ => ?_
  obtain ⟨⟨ps, tabH, trip⟩, rest⟩ := hR v H1 all1
  obtain ⟨n, Pi, F, walk, hel, fin⟩ := rest s1 xv I1 rel
  refine walk _ _ _ _ rfl fun ob fp St W st0 hfp => ?_
  have tab1 : s1.heap.get? P = some { cls := .none, data := .fields ps } := I1.hok P _ tabH
  have Plt : P < s1.heap.objs.size := Heap.lt_size tab1
  have tab2 : (s1.heap.push ob).get? P = some { cls := .none, data := .fields ps } := Heap.get?_push_of_some _ tab1
  have hd2 : PySem.W.CodeHd (s1.heap.push ob) c P := TB.code.keeps fun b u q => Heap.get?_push_of_some _ (I1.bk b u q)
  have lim2 : (s1.heap.push ob).NoLimit := I1.nolimit.push ob
  have size2 : (s1.heap.push ob).objs.size = s1.heap.objs.size + 1 := Heap.size_push ..
  refine ⟨lim2, ?_⟩
  -- behind the code object: the table holds ps and more
  have go : ∀ (code : Value) (h3 : Heap) (tk : Nat) (qs : Array Value), Heap.ExtBut P (s1.heap.push ob) h3 → s1.heap.objs.size + 1 ≤ h3.objs.size → h3.get? P = some { cls := .none, data := .fields qs } → (∃ more, qs = ps ++ more) → TriplesOk qs.toList →
      wpAny (model X.prog X.w) X.A (builtinsFor X.env.globals X.env.builtins) (fun bi s4 =>
        ∃ J fp' wr n₀ Pf St₀ pz F', Value.ref s1.heap.objs.size = .ref J ∧ (∀ A' : Around, A'.handled = none → Walks X.prog X.w A' J fp' wr n₀ Pf St₀) ∧ St₀ 0 s4.heap ∧ (∀ b ∈ fp', b < s4.heap.objs.size) ∧ s4.heap.NoLimit ∧ cStatics ∉ wr ∧
          (∀ hx : Heap, (∀ b o, s4.heap.get? b = some o → hx.get? b = some o) →
            QuietGen X.prog X.w (genEnv scope (cloFrom X.env.cells scope.names []) s4.heap.objs.size code bi X.env) x [] elt (List.range s4.heap.objs.size) wr Pf pz F' hx) ∧
          (∀ a h5 tk5 gs, gs.bare = true → s4.heap.objs.size < a → h5.objs.size = a + 1 → (∀ b o, s4.heap.get? b = some o → h5.get? b = some o) →
            WalksS X.prog X.w X.A.in4 a (a :: s4.heap.objs.size :: List.range s4.heap.objs.size) (s4.heap.objs.size :: wr) (GenOnlyQ s4.gens.size) (passing pz n₀ 0).length
              (fun j y => ∃ i, (passing pz n₀ 0)[j]? = some i ∧ F' i y) (GenAt X.prog X.w X.A.in4 a s4.gens.size s4.heap.objs.size (List.range s4.heap.objs.size) wr pz n₀ F') →
            GenAt X.prog X.w X.A.in4 a s4.gens.size s4.heap.objs.size (List.range s4.heap.objs.size) wr pz n₀ F' 0 { s4 with gens := s4.gens.push gs, toks := tk5, heap := h5 } →
            Q' (.ref a) { s4 with gens := s4.gens.push gs, toks := tk5, heap := h5 })) X.xe { s1 with heap := h3, toks := tk } := by
    intro code h3 tk qs ext le3 tab3 grown trip3
    obtain ⟨bm, bo, z1, z2, z3, z4, z5, z6, z7, z8⟩ := TB.bm
    have statP : cStatics ≠ P := fun q => by
      obtain ⟨_, hns, _⟩ := I1.nolimit
      obtain ⟨o', es, ep, ho, hd, _⟩ := hns
      rw [q, tab1] at ho
      cases ho
      cases hd
    have statLt : cStatics < s1.heap.objs.size := by
      obtain ⟨_, hns, _⟩ := I1.nolimit
      exact hns.lt
    have keep3 : ∀ b u, b ≠ P → s1.heap.get? b = some u → h3.get? b = some u := fun b u nb q => ext b u nb (Heap.get?_push_of_some _ q)
    refine wpAny_builtinsFor (m := X.mg) (by rw [I1.ok.glob]; exact ((I1.mod.glob.keeps I1.bk).push ob).extBut ext TB.gP) z1 z2 (keep3 _ _ z4 (I1.bk _ _ z5)) z6 z7 z8 ?_
    refine ⟨s1.heap.objs.size, fp, [s1.heap.objs.size], n, Pi, St, (fun _ => true), F, rfl, W, ?_, fun b hb => ?_, lim2.extBut ext statP, fun q => ?_, fun hx keepx => ?_, ?_⟩
    · exact (W X.A hr.hd).frame _ _ _ st0 fun b hb u q => ext b u (hfp b hb).1 q
    · exact Nat.lt_of_lt_of_le (Nat.lt_succ_of_le (hfp b hb).2) le3
    · rw [List.mem_singleton] at q
      exact Nat.ne_of_lt statLt q
    · refine ⟨fun A' E' i v t m hA hv hn hm hk => ?_, fun A' E' i v t m hA hv hp hn hm hk => ?_⟩
      · simp only [List.forIn_nil]
        exact wpAny_pure ⟨rfl, keeps_refl _⟩
      · refine hel _ _ A' E' i v t m hA hv hn hm fun b o nb q => ?_
        have b1 : b < s1.heap.objs.size := Heap.lt_size q
        refine hk b (List.mem_range.mpr (Nat.lt_of_lt_of_le (Nat.lt_succ_of_lt b1) le3)) (fun q' => ?_) o (keepx b o (keep3 b o nb q))
        rw [List.mem_singleton] at q'
        exact Nat.ne_of_lt b1 q'
    · intro a h5 tk5 gs bare agt size5 keep5 W5 at5
      have pt : passing (fun _ => true) n 0 = List.range n := passing_true n
      have W6 := W5.in4_1
      rw [pt, List.length_range] at W6
      refine fin a _ ⟨_, _, _, _, _, W6, fun j y hy => ?_, at5, fun b hb => ?_, fun t' mv => ?_⟩
      · obtain ⟨i, hi', hF⟩ := hy
        obtain ⟨hj, ej⟩ := List.getElem?_eq_some_iff.mp hi'
        rw [List.getElem_range] at ej
        subst ej
        exact hF
      · have agt' : h3.objs.size < h5.objs.size := by
          rw [size5]
          exact Nat.lt_succ_of_lt agt
        simp only [List.mem_cons, List.mem_range] at hb
        rcases hb with rfl | rfl | hb
        · rw [size5]
          exact Nat.lt_succ_self _
        · exact agt'
        · exact Nat.lt_trans hb agt'
      · obtain ⟨more, em⟩ := grown
        have apart : ∀ b u, s1.heap.get? b = some u → b ∉ h3.objs.size :: [s1.heap.objs.size] := fun b u q hb => by
          have b1 : b < s1.heap.objs.size := Heap.lt_size q
          simp only [List.mem_cons, List.not_mem_nil, or_false] at hb
          rcases hb with e | e
          · exact Nat.ne_of_lt (Nat.lt_of_lt_of_le (Nat.lt_succ_of_lt b1) le3) e
          · exact Nat.ne_of_lt b1 e
        have J := inv_tab (more := more) (h' := t'.heap) (g' := t'.gens) (d' := t'.drawn) (t' := t'.toks) I1 tabH (fun b u nb q => mv.heap b u (apart b u q) (keep5 b u (keep3 b u nb q)))
          (by rw [← em]; exact mv.heap P _ (apart P _ tab1) (keep5 P _ tab3)) (AllBare.movedS (I1.bare.push bare) mv)
        rw [sh_eta s1 t' mv.os] at J
        exact ⟨upd H1 P (.tbl (ps ++ more)), ⟨⟨ps ++ more, upd_same, by rw [← em]; exact trip3⟩, fun b nb => upd_ne nb⟩, J⟩
  cases among : codeAmong gpos ps.toList with
  | none =>
    refine wpAny_genexprCodeX hcode (hd2.code tab2 trip) (hd2.tab tab2) among fun c' h' tk ext ge lt co _ tab' _ => ?_
    obtain ⟨_, _, _, _, _, _, _, _, _, _, _, _, _, _, _, _, _, _, _, tr, _⟩ := co
    exact go _ h' tk _ ext (by have ge' := ge; rw [size2] at ge'; exact Nat.le_trans ge' (Nat.le_of_lt lt)) tab'.2 ⟨_, rfl⟩ tr
  | some cv =>
    refine wpAny_genexprCode_hit hcode (hd2.code tab2 trip) among ?_
    exact go cv (s1.heap.push ob) s1.toks ps (Heap.ExtBut.refl _ _) (Nat.le_of_eq size2.symm) tab2 ⟨#[], by simp⟩ trip
/-! ### what an element says, without calls of defs -/
/-- a reading of an element: the walked values, the places of the def around, its heap -/
abbrev QT := List V → L2.St → Hp → (V → Prop) → Prop
structure QE (X : Cx) (scope : Scope) (ns : List Str) (e : Expr) (rd : QT) : Prop where
  run : ∀ {pins : List (Addr × Obj)} {σ : L2.St} {H1 : Hp} {s1 : Shared}, Inv X pins σ H1 s1 → ∀ {P : Addr} {ps : Array Value}, H1 P = some (.tbl ps) →
    ∀ {C : Addr} {code : Value} {A' : Around} {E' : Value → Shared → Prop} {t : Shared} {m : Str → Option Value} {vs : List V} {us : List Value}, A'.handled = none → t.heap.Ns C m → Vals vs us →
      (∀ (j : Nat) (n : Str), ns[j]? = some n → m n = us[j]?) → (∀ b o, b ≠ P → s1.heap.get? b = some o → t.heap.get? b = some o) → ∀ Q : V → Prop, rd vs σ H1 Q →
      wpAny (model X.prog X.w) A' (eval e (genEnv scope (cloFrom X.env.cells scope.names []) C code builtinsNs X.env)) (fun y t' => (∃ v, RelV v y ∧ Q v) ∧ Keeps t t') E' t
theorem kp_trans {s t u : Shared} (a : Keeps s t) (b : Keeps t u) : Keeps s u := by
  obtain ⟨h1, k1, rfl, f1⟩ := a
  obtain ⟨h2, k2, rfl, f2⟩ := b
  exact ⟨h2, k2, rfl, fun c o e => f2 c o (f1 c o e)⟩
theorem kp_heap {s t : Shared} (a : Keeps s t) : ∀ b o, s.heap.get? b = some o → t.heap.get? b = some o := by
  obtain ⟨h1, k1, rfl, f1⟩ := a
  exact f1
variable {scope : Scope} {ns : List Str} {a b c e : Expr} {ra rb rc : QT} {pos p : Pos}
/-- two in a row: the second one in a state that keeps the first one's -/
theorem q_then (hb : QE X scope ns b rb) {s1 : Shared} {H1 : Hp} {P : Addr} {ps : Array Value} (I : Inv X pins σ H1 s1) (hP : H1 P = some (.tbl ps)) {C : Addr} {code : Value} {A' : Around} {E' : Value → Shared → Prop} {t t1 : Shared} {m : Str → Option Value} {vs : List V} {us : List Value}
    (hA : A'.handled = none) (hn : t.heap.Ns C m) (hv : Vals vs us) (hm : ∀ (j : Nat) (n : Str), ns[j]? = some n → m n = us[j]?) (hk : ∀ b o, b ≠ P → s1.heap.get? b = some o → t.heap.get? b = some o) (k1 : Keeps t t1) {Q : V → Prop} (h : rb vs σ H1 Q) {R : Value → Shared → Prop}
    (hR : ∀ (v : V) (y : Value) (t2 : Shared), RelV v y → Q v → Keeps t t2 → R y t2) : wpAny (model X.prog X.w) A' (eval b (genEnv scope (cloFrom X.env.cells scope.names []) C code builtinsNs X.env)) R E' t1 :=
  wpAny_mono (hb.run I hP hA (hn.keeps (kp_heap k1)) hv hm (fun c o nc q => kp_heap k1 c o (hk c o nc q)) Q h) (fun y t2 r => by
    obtain ⟨⟨v, r1, r2⟩, k2⟩ := r
    exact hR v y t2 r1 r2 (kp_trans k1 k2)) fun _ _ z => z
def qVar (j : Nat) : QT := fun vs _ _ Q => ∃ v, vs[j]? = some v ∧ Q v
def qOut (i : Nat) : QT := fun _ σ _ Q => ∃ v, σ[i]? = some (some v) ∧ Q v
def qC (v : V) : QT := fun _ _ _ Q => Q v
theorem q_var {j : Nat} {n : Str} (hj : ns[j]? = some n) (hs : scope.kind = .function) (hl : scope.names.lookup n = some .local) (hd : (n == ("__debug__" : Str)) = false := by decide) : QE X scope ns (.Name n pos) (qVar j) := by
  refine ⟨fun {pins σ H1 s1} I {P ps} hP {C code A' E' t m vs us} hA hn hvs hm' hk Q h => ?_⟩
  obtain ⟨v, ev, q⟩ := h
  obtain ⟨u, eu, r⟩ := hvs.get ev
  exact wpAny_Name (wpAny_loadName_local hs hl hn ((hm' j n hj).trans eu) ⟨⟨v, r, q⟩, keeps_refl _⟩) hd
theorem q_out {i : Nat} {n : Str} (hi : X.N[i]? = some n) (hv : Vis X.env.scope n) (hc : X.env.kindOf n = some .cell ∨ X.env.kindOf n = some .free) (hs : scope.kind = .function) (hl : scope.names.lookup n = some .free)
    (hcl : (cloFrom X.env.cells scope.names []).lookup n = some ((X.env.cells.lookup n).getD 0)) (hd : (n == ("__debug__" : Str)) = false := by decide) (hcd : (n == ("__classdict__" : Str)) = false := by decide) : QE X scope ns (.Name n pos) (qOut i) := by
  refine ⟨fun {pins σ H1 s1} I {P ps} hP {C code A' E' t m vs us} hA hn hvs hm' hk Q h => ?_⟩
  obtain ⟨v, ev, q⟩ := h
  obtain ⟨m0, _, loc⟩ := I.loc
  obtain ⟨u, r, look⟩ := loc i n v hi ev hv
  rcases look with ⟨k, _⟩ | ⟨_, cl, ecl, cell⟩
  · rcases hc with z | z <;> rw [k] at z <;> cases z
  · have ne : cl ≠ P := fun z => by
      have y := I.freeC n cl ecl
      rw [z, hP] at y
      cases y
    have cell' : t.heap.IsCell cl (some u) := by
      obtain ⟨o, ho, rest⟩ := cell
      exact ⟨o, hk cl o ne ho, rest⟩
    exact wpAny_Name (wpAny_loadName_free hs hl (by show (cloFrom X.env.cells scope.names []).lookup n = _; rw [hcl, ecl]; rfl) cell' ⟨⟨v, r, q⟩, keeps_refl _⟩ hcd) hd
theorem q_int {i : Int} {j : Nat} : QE X scope ns (.Constant (.int i) j pos) (qC (.int i)) := ⟨fun {pins σ H1 s1} I {P ps} hP {C code A' E' t m vs us} hA hn hvs hm' hk Q h => wpAny_Constant_int ⟨⟨.int i, ⟨_, rfl⟩, h⟩, keeps_tok _ _⟩⟩
theorem q_bl {i : Bool} {j : Nat} : QE X scope ns (.Constant (.bool i) j pos) (qC (.bl i)) := ⟨fun {pins σ H1 s1} I {P ps} hP {C code A' E' t m vs us} hA hn hvs hm' hk Q h => Constant_bool ⟨⟨.bl i, rfl, h⟩, keeps_refl _⟩⟩
theorem q_glob {n : Str} {v : V} {u : Value} (hg : scope.names.lookup n = some .globalImplicit) (hs : scope.kind = .function) (hm : X.mg n = some u) (r : RelV v u) (hd : (n == ("__debug__" : Str)) = false := by decide) : QE X scope ns (.Name n pos) (qC v) := by
  refine ⟨fun {pins σ H1 s1} I {P ps} hP {C code A' E' t m vs us} hA hn hvs hm' hk Q h => ?_⟩
  refine Calls.Name_function_global hs hg (Calls.loadGlobal_global (mg := X.mg) ?_ hm ⟨⟨v, r, h⟩, keeps_refl _⟩) hd
  show Heap.Ns _ X.env.globals X.mg
  rw [I.ok.glob]
  have gl := I.mod.glob
  refine gl.at' fun o z => hk _ o (fun y => ?_) (I.bk _ o z)
  have f := (I.bs _ o z).2
  rw [y, hP] at f
  cases f
/-- an operation of two ints that gives an int -/
def q2 (ra rb : QT) (ok : Int → Int → Prop) (f : Int → Int → Int) : QT := fun vs σ H Q => ra vs σ H fun x => rb vs σ H fun y => ∃ i j, x = .int i ∧ y = .int j ∧ ok i j ∧ Q (.int (f i j))
theorem q_bin {op : Operator} {ok : Int → Int → Prop} {f : Int → Int → Int} (hop : ∀ {A : Around} {E : Value → Shared → Prop} {s : Shared} {i j : Int} {k l : Tok} {Q : Value → Shared → Prop}, A.handled = none → ok i j → Q (.int (f i j) s.toks) { s with toks := s.toks + 1 } → wpAny (model X.prog X.w) A (binaryOp op (.int i k) (.int j l)) Q E s)
    (ha : QE X scope ns a ra) (hb : QE X scope ns b rb) : QE X scope ns (.BinOp a op b pos) (q2 ra rb ok f) := by
  refine ⟨fun {pins σ H1 s1} I {P ps} hP {C code A' E' t m vs us} hA hn hv hm hk Q h => wpAny_BinOp ?_⟩
  refine wpAny_mono (ha.run I hP hA hn hv hm hk _ h) (fun y t1 r => ?_) fun _ _ z => z
  obtain ⟨⟨v, r1, q1⟩, k1⟩ := r
  refine q_then hb I hP hA hn hv hm hk k1 q1 fun v' y' t2 r2 q2 k2 => ?_
  obtain ⟨i, j, rfl, rfl, o, q⟩ := q2
  obtain ⟨_, rfl⟩ := r1
  obtain ⟨_, rfl⟩ := r2
  exact hop hA o ⟨⟨.int _, ⟨_, rfl⟩, q⟩, kp_trans k2 (keeps_tok _ _)⟩
/-- a comparison of two ints -/
def qc (ra rb : QT) (f : Int → Int → Bool) : QT := fun vs σ H Q => ra vs σ H fun x => rb vs σ H fun y => ∃ i j, x = .int i ∧ y = .int j ∧ Q (.bl (f i j))
def CmpI (X : Cx) (op : CmpOp) (f : Int → Int → Bool) : Prop := ∀ {A : Around} {E : Value → Shared → Prop} {s : Shared} {i j : Int} {k l : Tok} {Q : Value → Shared → Prop}, A.handled = none → Q (.bool (f i j)) s → wpAny (model X.prog X.w) A (compareOp op (.int i k) (.int j l)) Q E s
theorem ci_lt : CmpI X .Lt (fun i j => decide (i < j)) := fun _ h => PySem.P.lt_int h
theorem ci_le : CmpI X .LtE (fun i j => decide (i ≤ j)) := fun _ h => PySem.P.le_int h
theorem ci_gt : CmpI X .Gt (fun i j => decide (i > j)) := fun _ h => PySem.P.gt_int h
theorem ci_ge : CmpI X .GtE (fun i j => decide (i ≥ j)) := fun _ h => PySem.P.ge_int h
theorem ci_eq : CmpI X .Eq (fun i j => i == j) := fun _ h => PySem.P.eq_int h
theorem ci_ne : CmpI X .NotEq (fun i j => i != j) := fun _ h => PySem.P.ne_int h
theorem q_cmp {op : CmpOp} {f : Int → Int → Bool} (hop : CmpI X op f) (ha : QE X scope ns a ra) (hb : QE X scope ns b rb) (hmk : behindInMarks op b = false := by with_unfolding_all rfl) : QE X scope ns (.Compare a [op] [b] pos) (qc ra rb f) := by
  refine ⟨fun {pins σ H1 s1} I {P ps} hP {C code A' E' t m vs us} hA hn hv hm hk Q h => wpAny_Compare1 ?_ hmk⟩
  refine wpAny_mono (ha.run I hP hA hn hv hm hk _ h) (fun y t1 r => ?_) fun _ _ z => z
  obtain ⟨⟨v, r1, q1⟩, k1⟩ := r
  refine q_then hb I hP hA hn hv hm hk k1 q1 fun v' y' t2 r2 q2 k2 => ?_
  obtain ⟨i, j, rfl, rfl, q⟩ := q2
  obtain ⟨_, rfl⟩ := r1
  obtain ⟨_, rfl⟩ := r2
  exact hop hA ⟨⟨.bl _, rfl, q⟩, k2⟩
/-- a op b op' c, of ints -/
def qch (ra rb rc : QT) (f g : Int → Int → Bool) : QT := fun vs σ H Q => ra vs σ H fun x => rb vs σ H fun y => ∃ i j, x = .int i ∧ y = .int j ∧ if f i j = true then rc vs σ H fun z => ∃ k, z = .int k ∧ Q (.bl (g j k)) else Q (.bl false)
theorem q_chain {op op' : CmpOp} {f g : Int → Int → Bool} (hop : CmpI X op f) (hop' : CmpI X op' g) (ha : QE X scope ns a ra) (hb : QE X scope ns b rb) (hc : QE X scope ns c rc) (hmk : lastMarks [op, op'] [b, c] = false := by with_unfolding_all rfl) :
    QE X scope ns (.Compare a [op, op'] [b, c] pos) (qch ra rb rc f g) := by
  refine ⟨fun {pins σ H1 s1} I {P ps} hP {C code A' E' t m vs us} hA hn hv hm hk Q h => Compare_chain ?_ hmk⟩
  refine wpAny_mono (ha.run I hP hA hn hv hm hk _ h) (fun y t1 r => ?_) fun _ _ z => z
  obtain ⟨⟨v, r1, q1⟩, k1⟩ := r
  refine chain_link (q_then hb I hP hA hn hv hm hk k1 q1 fun v' y' t2 r2 q2 k2 => ?_)
  obtain ⟨i, j, rfl, rfl, q⟩ := q2
  obtain ⟨_, rfl⟩ := r1
  obtain ⟨_, rfl⟩ := r2
  refine hop hA (wpAny_truthy_bool ?_)
  cases z : f i j with
  | false =>
    rw [z] at q
    exact ite_ff ⟨⟨.bl false, rfl, by rw [if_neg Bool.false_ne_true] at q; exact q⟩, k2⟩
  | true =>
    rw [z, if_pos rfl] at q
    refine ite_tt (chain_last (q_then hc I hP hA hn hv hm hk k2 q fun v'' y'' t3 r3 q3 k3 => ?_))
    obtain ⟨k, rfl, q'⟩ := q3
    obtain ⟨_, rfl⟩ := r3
    exact hop' hA ⟨⟨.bl _, rfl, q'⟩, k3⟩
/-! ### any, all, sum of a generator expression over a list or a tuple -/
def SqB (K : PySem.W.Frag) (H : Hp) (a : Addr) (xs : List V) : Prop := SqL K H a xs ∨ SqT K H a xs
theorem walk_sq {H1 : Hp} {s1 : Shared} {P a : Addr} {ps : Array Value} {xs : List V} (I : Inv X pins σ H1 s1) (hP : H1 P = some (.tbl ps)) (h : SqB X.K H1 a xs) :
    ∃ its : List Value, Vals xs its ∧ WalkV X.prog X.w s1.heap P (.ref a) xs.length (fun i v => its[i]? = some v) := by
  have tab1 : s1.heap.get? P = some { cls := .none, data := .fields ps } := I.hok P _ hP
  have ne : ∀ {o : Obj} {T : String}, s1.heap.get? a = some o → o.cls = .type T → a ≠ P := fun {o T} e c z => by
    rw [z, tab1] at e
    cases e
    cases c
  rcases h with h | h
  · obtain ⟨its, r, pl, _⟩ := I.list h
    obtain ⟨o, e, c, q⟩ := pl.isList
    have w := walk_list (prog := X.prog) (w := X.w) (P := P) (l := a) ⟨o, e, c, q⟩ (Heap.lt_size tab1) (ne e c)
    refine ⟨its, r, ?_⟩
    simp only [List.size_toArray, List.getElem?_toArray] at w
    rw [r.length]
    exact w
  · obtain ⟨its, r, tp, _⟩ := I.tuple h
    obtain ⟨o, e, c, q⟩ := tp
    have w := walk_tuple (prog := X.prog) (w := X.w) (P := P) (l := a) ⟨o, e, c, q⟩ (Heap.lt_size tab1) (ne e c)
    refine ⟨its, r, ?_⟩
    simp only [List.size_toArray, List.getElem?_toArray] at w
    rw [r.length]
    exact w
theorem elt_of {scope : Scope} {x : Str} {elt : Expr} {rd : QT} (he : QE X scope [x] elt rd) {H1 : Hp} {s1 : Shared} {P : Addr} {ps : Array Value} (I : Inv X pins σ H1 s1) (hP : H1 P = some (.tbl ps)) {xs : List V} {its : List Value} (r : Vals xs its) {g : Nat → V}
    (h : ∀ i v, xs[i]? = some v → rd [v] σ H1 fun y => y = g i) : EltR X scope x elt P s1.heap (fun i v => its[i]? = some v) (fun i y => i < xs.length ∧ RelV (g i) y) := by
  intro C code A' E' i v t m hA hi hn hm hk
  have len := r.length
  obtain ⟨li, _⟩ := List.getElem?_eq_some_iff.mp hi
  have ex : xs[i]? = some (xs[i]'(by rw [len]; exact li)) := List.getElem?_eq_getElem _
  obtain ⟨u, eu, rel⟩ := r.get ex
  rw [hi] at eu
  cases eu
  refine wpAny_mono (he.run I hP hA hn (.cons rel .nil) (fun j n e => ?_) hk _ (h i _ ex)) (fun y t' q => ?_) fun _ _ z => z
  · cases j with
    | zero => cases e; exact hm
    | succ j => cases e
  · obtain ⟨⟨v', r', rfl⟩, k⟩ := q
    exact ⟨⟨by rw [len]; exact li, r'⟩, k⟩
/-- a generator expression of the def is consumed: the source, the elements, what is said of the answer -/
def tGen (P : Addr) (K : PySem.W.Frag) (rd : QT) (res : List V → (Nat → V) → (V → Prop) → Prop) (te : TE) : TE := fun σ H Q => te σ H fun v H1 => TabG H1 P ∧ ∃ (a : Addr) (xs : List V) (g : Nat → V), v = .ref a ∧ SqB K H1 a xs ∧
  (∀ i x, xs[i]? = some x → rd [x] σ H1 fun y => y = g i) ∧ res xs g fun r => ∀ H2, Tabbed P H1 H2 → Q r H2
/-- the consumer f of a walked generator -/
def Eats (X : Cx) (fn : String) (res : List V → (Nat → V) → (V → Prop) → Prop) : Prop :=
  ∀ {xs : List V} {g : Nat → V} {Z : V → Prop} {ga : Addr} {fp wr : List Addr} {G : Array GenState → Array GenState → Prop} {F' : Nat → Value → Prop} {St : Nat → Shared → Prop} {t : Shared} {E : Value → Shared → Prop} {Q : Value → Shared → Prop},
    res xs g Z → WalksS X.prog X.w X.A.in1 ga fp wr G xs.length F' St → (∀ j y, F' j y → j < xs.length ∧ RelV (g j) y) → St 0 t → (∀ b ∈ fp, b < t.heap.objs.size) →
    (∀ (r : V) (y : Value) (t' : Shared), Z r → RelV r y → Moved wr G t t' → Q y t') → wpAny (model X.prog X.w) X.A (call (.builtin fn) [.ref ga]) Q E t
theorem pe_gen {fn : String} {res : List V → (Nat → V) → (V → Prop) → Prop} {n : Str} {c P : Addr} {elt iter : Expr} {x : Str} {px p pos gpos : Pos} {scope : Scope} {rd : QT} {te : TE} {k : Nat} (hf : Eats X fn res)
    (hr : Room k X.A) (hg : Gl X n) (hm : X.mg n = none) (hb : bootBuiltins n = some (.builtin fn)) (TB : TabB X.base X.mg c P) (hcode : X.env.code = .ref c) (S : GenS X.env scope x) (hi : PE X iter te) (hel : QE X scope [x] elt rd)
    (hs : ∀ v, genFold iter X.env v = pure v) (hn : n ≠ "__name__" := by decide) (hdb : (n == ("__debug__" : Str)) = false := by decide)
    (he : starEach [.GeneratorExp elt [⟨.Name x px, iter, [], 0⟩] scope gpos] X.env = (false, eval (.GeneratorExp elt [⟨.Name x px, iter, [], 0⟩] scope gpos) X.env) :: starEach [] X.env := by rfl) :
    PE X (.Call (.Name n p) [.GeneratorExp elt [⟨.Name x px, iter, [], 0⟩] scope gpos] [] pos) (tGen P X.K rd res te) := by
  refine ⟨fun pins s σ H Q I h => ?_⟩
  refine wpAny_Call_Name_kw (ld_blt I hg hm hb ?_ hn hdb)
  refine PyProof.Rows.callWith_builtin1 ?_ he (by rfl)
  rw [he]
  refine Calls.spliced_cons (gen_seq hr TB hcode S hi hs I h fun v H1 all1 => ?_)
  obtain ⟨⟨ps, hP, trip⟩, a, xs, g, rfl, sq, els, rz⟩ := all1
  refine ⟨⟨ps, hP, trip⟩, fun s1 xv I1 rel => ?_⟩
  cases rel
  obtain ⟨its, vals, walk⟩ := walk_sq I1 hP sq
  refine ⟨_, _, _, walk, elt_of hel I1 hP vals els, fun ga t rdy => ?_⟩
  obtain ⟨fp, wr, G, F', St, W, hF, st, bnd, fin⟩ := rdy
  refine Calls.spliced_nil ?_
  refine hf rz W hF st bnd fun r y t' hZ ry mv => ?_
  obtain ⟨H2, tb, J⟩ := fin t' mv
  exact ⟨r, H2, J, ry, hZ H2 tb⟩
def resAny : List V → (Nat → V) → (V → Prop) → Prop := fun xs g Z => ∃ pb : Nat → Bool, (∀ i, i < xs.length → g i = .bl (pb i)) ∧ Z (.bl ((List.range xs.length).any pb))
def resAll : List V → (Nat → V) → (V → Prop) → Prop := fun xs g Z => ∃ pb : Nat → Bool, (∀ i, i < xs.length → g i = .bl (pb i)) ∧ Z (.bl ((List.range xs.length).all pb))
def resSum : List V → (Nat → V) → (V → Prop) → Prop := fun xs g Z => ∃ f : Nat → Int, (∀ i, i < xs.length → g i = .int (f i)) ∧ Z (.int (preSum f xs.length))
theorem eats_any : Eats X "any" resAny := by
  intro xs g Z ga fp wr G F' St t E Q hz W hF st bnd k
  obtain ⟨pb, hg, z⟩ := hz
  refine call_any_walkS (W.self 0 _ _ _ st ⟨ga, fp, wr, G, _, F', St, pb, rfl, W, st, fun i v s' Q' E' hi hQ => ?_, fun t' mv => k _ _ t' z rfl mv⟩)
  obtain ⟨li, r⟩ := hF i v hi
  rw [hg i li] at r
  cases r
  exact wpAny_truthy_bool hQ
theorem eats_all : Eats X "all" resAll := by
  intro xs g Z ga fp wr G F' St t E Q hz W hF st bnd k
  obtain ⟨pb, hg, z⟩ := hz
  refine call_all_walkS (W.self 0 _ _ _ st ⟨ga, fp, wr, G, _, F', St, pb, rfl, W, st, fun i v s' Q' E' hi hQ => ?_, fun t' mv => k _ _ t' z rfl mv⟩)
  obtain ⟨li, r⟩ := hF i v hi
  rw [hg i li] at r
  cases r
  exact wpAny_truthy_bool hQ
theorem eats_sum : Eats X "sum" resSum := by
  intro xs g Z ga fp wr G F' St t E Q hz W hF st bnd k
  obtain ⟨f, hg, z⟩ := hz
  refine call_sum_walkAnyS (W.self 0 _ _ _ st ⟨ga, fp, wr, G, _, F', St, f, rfl, W, st, bnd, fun i v hi => ?_, fun t' tk mv => k _ _ t' z ⟨_, rfl⟩ mv⟩)
  obtain ⟨li, r⟩ := hF i v hi
  rw [hg i li] at r
  exact r
/-! ### two names: for a, b in .. -/
structure GenP (env : Env) (scope : Scope) (xa xb : Str) : Prop where
  kind : scope.kind = .function
  co : scope.isCoroutine = false
  cell : ∀ y ∈ scope.names, y.2 ≠ .cell
  dot : scope.names.lookup (".0" : Str) = some NameKind.local
  loca : scope.names.lookup xa = some .local
  locb : scope.names.lookup xb = some .local
  ne : xa ≠ xb
  free : ∀ y ∈ scope.names, y.2 = .free → ∃ c, env.cells.lookup y.1 = some c
/-- the value xv in the heap h can be walked, its items are tuples -/
def WalkP (prog : Program) (w : World) (h : Heap) (P : Addr) (xv : Value) (n : Nat) (Pt : Nat → Array Value → Prop) : Prop :=
  ∀ (A : Around) (E : Value → Shared → Prop) (s : Shared) (Q : Value → Shared → Prop), s.heap = h →
    (∀ (ob : Obj) (fp : List Addr) (St : Nat → Heap → Prop) (Mid : Nat → Addr → Heap → Prop), (∀ A' : Around, A'.handled = none → WalksU prog w A' h.objs.size fp [h.objs.size] n Pt St Mid) → St 0 (h.push ob) → (∀ b ∈ fp, b ≠ P ∧ b ≤ h.objs.size) →
      Q (.ref h.objs.size) { s with heap := h.push ob }) → wpAny (model prog w) A (pyIter xv) Q E s
def EltP2 (X : Cx) (scope : Scope) (xa xb : Str) (elt : Expr) (P : Addr) (h : Heap) (Pt : Nat → Array Value → Prop) (F : Nat → Value → Prop) : Prop :=
  ∀ (C : Addr) (code : Value) (A' : Around) (E' : Value → Shared → Prop) (i : Nat) (va vb : Value) (t : Shared) (m : Str → Option Value), A'.handled = none → Pt i #[va, vb] → t.heap.Ns C m → m xa = some va → m xb = some vb →
    (∀ b o, b ≠ P → h.get? b = some o → t.heap.get? b = some o) → wpAny (model X.prog X.w) A' (eval elt (genEnv scope (cloFrom X.env.cells scope.names []) C code builtinsNs X.env)) (fun y t' => F i y ∧ Keeps t t') E' t
theorem gen_pair {c P : Addr} {elt iter : Expr} {xa xb : Str} {qa qb qt gpos : Pos} {kt : Nat} {scope : Scope} {te : TE} {k : Nat} {Q' : Value → Shared → Prop}
    (hr : Room k X.A) (TB : TabB X.base X.mg c P) (hcode : X.env.code = .ref c) (S : GenP X.env scope xa xb) (hi : PE X iter te) (hs : ∀ v, genFold iter X.env v = pure v) (I : Inv X pins σ H s)
    {R : VK} (h : te σ H R) (hR : ∀ v H1, R v H1 → TabG H1 P ∧ ∀ (s1 : Shared) (xv : Value), Inv X pins σ H1 s1 → RelV v xv → ∃ (n : Nat) (Pt : Nat → Array Value → Prop) (F : Nat → Value → Prop), WalkP X.prog X.w s1.heap P xv n Pt ∧ (∀ i vals, Pt i vals → ∃ va vb, vals = #[va, vb]) ∧ EltP2 X scope xa xb elt P s1.heap Pt F ∧ ∀ g t, RdyG X pins σ H1 P n F g t → Q' (.ref g) t) :
    wpAny (model X.prog X.w) X.A (eval (.GeneratorExp elt [⟨.Tuple [.Name xa qa, .Name xb qb] kt qt, iter, [], 0⟩] scope gpos) X.env) Q' X.xe s := by
  refine wpAny_GeneratorExp_walksQT hr.hd S.co (closure_ok S.free) S.cell S.dot S.loca S.locb S.ne S.kind (by have d := hr.dp; omega) ?_ hs
  refine thn (hi.run pins s σ H _ I h) fun xv s1 ⟨v, H1, I1, rel, all1⟩ => ?_
  obtain ⟨⟨ps, tabH, trip⟩, rest⟩ := hR v H1 all1
  obtain ⟨n, Pt, F, walk, two, hel, fin⟩ := rest s1 xv I1 rel
  refine walk _ _ _ _ rfl fun ob fp St Mid W st0 hfp => ?_
  have tab1 : s1.heap.get? P = some { cls := .none, data := .fields ps } := I1.hok P _ tabH
  have Plt : P < s1.heap.objs.size := Heap.lt_size tab1
  have tab2 : (s1.heap.push ob).get? P = some { cls := .none, data := .fields ps } := Heap.get?_push_of_some _ tab1
  have hd2 : PySem.W.CodeHd (s1.heap.push ob) c P := TB.code.keeps fun b u q => Heap.get?_push_of_some _ (I1.bk b u q)
  have lim2 : (s1.heap.push ob).NoLimit := I1.nolimit.push ob
  have size2 : (s1.heap.push ob).objs.size = s1.heap.objs.size + 1 := Heap.size_push ..
  refine ⟨lim2, ?_⟩
  -- behind the code object: the table holds ps and more
  have go : ∀ (code : Value) (h3 : Heap) (tk : Nat) (qs : Array Value), Heap.ExtBut P (s1.heap.push ob) h3 → s1.heap.objs.size + 1 ≤ h3.objs.size → h3.get? P = some { cls := .none, data := .fields qs } → (∃ more, qs = ps ++ more) → TriplesOk qs.toList →
      wpAny (model X.prog X.w) X.A (builtinsFor X.env.globals X.env.builtins) (fun bi s4 =>
        ∃ J fp' wr n₀ Pf St₀ Mid pz F', Value.ref s1.heap.objs.size = .ref J ∧ (∀ A' : Around, A'.handled = none → WalksU X.prog X.w A' J fp' wr n₀ Pf St₀ Mid) ∧ (∀ i vals, Pf i vals → ∃ va vb, vals = #[va, vb]) ∧ St₀ 0 s4.heap ∧ (∀ b ∈ fp', b < s4.heap.objs.size) ∧ s4.heap.NoLimit ∧ cStatics ∉ wr ∧
          (∀ hx : Heap, (∀ b o, s4.heap.get? b = some o → hx.get? b = some o) →
            QuietGenT X.prog X.w (genEnv scope (cloFrom X.env.cells scope.names []) s4.heap.objs.size code bi X.env) xa xb [] elt (List.range s4.heap.objs.size) wr Pf pz F' hx) ∧
          (∀ a h5 tk5 gs, gs.bare = true → s4.heap.objs.size < a → h5.objs.size = a + 1 → (∀ b o, s4.heap.get? b = some o → h5.get? b = some o) →
            WalksS X.prog X.w X.A.in4 a (a :: s4.heap.objs.size :: List.range s4.heap.objs.size) (s4.heap.objs.size :: wr) (GenOnlyQ s4.gens.size) (passing pz n₀ 0).length
              (fun j y => ∃ i, (passing pz n₀ 0)[j]? = some i ∧ F' i y) (GenAt X.prog X.w X.A.in4 a s4.gens.size s4.heap.objs.size (List.range s4.heap.objs.size) wr pz n₀ F') →
            GenAt X.prog X.w X.A.in4 a s4.gens.size s4.heap.objs.size (List.range s4.heap.objs.size) wr pz n₀ F' 0 { s4 with gens := s4.gens.push gs, toks := tk5, heap := h5 } →
            Q' (.ref a) { s4 with gens := s4.gens.push gs, toks := tk5, heap := h5 })) X.xe { s1 with heap := h3, toks := tk } := by
    intro code h3 tk qs ext le3 tab3 grown trip3
    obtain ⟨bm, bo, z1, z2, z3, z4, z5, z6, z7, z8⟩ := TB.bm
    have statP : cStatics ≠ P := fun q => by
      obtain ⟨_, hns, _⟩ := I1.nolimit
      obtain ⟨o', es, ep, ho, hd, _⟩ := hns
      rw [q, tab1] at ho
      cases ho
      cases hd
    have statLt : cStatics < s1.heap.objs.size := by
      obtain ⟨_, hns, _⟩ := I1.nolimit
      exact hns.lt
    have keep3 : ∀ b u, b ≠ P → s1.heap.get? b = some u → h3.get? b = some u := fun b u nb q => ext b u nb (Heap.get?_push_of_some _ q)
    refine wpAny_builtinsFor (m := X.mg) (by rw [I1.ok.glob]; exact ((I1.mod.glob.keeps I1.bk).push ob).extBut ext TB.gP) z1 z2 (keep3 _ _ z4 (I1.bk _ _ z5)) z6 z7 z8 ?_
    refine ⟨s1.heap.objs.size, fp, [s1.heap.objs.size], n, Pt, St, Mid, (fun _ => true), F, rfl, W, two, ?_, fun b hb => ?_, lim2.extBut ext statP, fun q => ?_, fun hx keepx => ?_, ?_⟩
    · exact (W X.A hr.hd).frame _ _ _ st0 fun b hb u q => ext b u (hfp b hb).1 q
    · exact Nat.lt_of_lt_of_le (Nat.lt_succ_of_le (hfp b hb).2) le3
    · rw [List.mem_singleton] at q
      exact Nat.ne_of_lt statLt q
    · refine ⟨fun A' E' i va vb t m hA hv hn hma hmb hk => ?_, fun A' E' i va vb t m hA hv hp hn hma hmb hk => ?_⟩
      · simp only [List.forIn_nil]
        exact wpAny_pure ⟨rfl, keeps_refl _⟩
      · refine hel _ _ A' E' i va vb t m hA hv hn hma hmb fun b o nb q => ?_
        have b1 : b < s1.heap.objs.size := Heap.lt_size q
        refine hk b (List.mem_range.mpr (Nat.lt_of_lt_of_le (Nat.lt_succ_of_lt b1) le3)) (fun q' => ?_) o (keepx b o (keep3 b o nb q))
        rw [List.mem_singleton] at q'
        exact Nat.ne_of_lt b1 q'
    · intro a h5 tk5 gs bare agt size5 keep5 W5 at5
      have pt : passing (fun _ => true) n 0 = List.range n := passing_true n
      have W6 := W5.in4_1
      rw [pt, List.length_range] at W6
      refine fin a _ ⟨_, _, _, _, _, W6, fun j y hy => ?_, at5, fun b hb => ?_, fun t' mv => ?_⟩
      · obtain ⟨i, hi', hF⟩ := hy
        obtain ⟨hj, ej⟩ := List.getElem?_eq_some_iff.mp hi'
        rw [List.getElem_range] at ej
        subst ej
        exact hF
      · have agt' : h3.objs.size < h5.objs.size := by
          rw [size5]
          exact Nat.lt_succ_of_lt agt
        simp only [List.mem_cons, List.mem_range] at hb
        rcases hb with rfl | rfl | hb
        · rw [size5]
          exact Nat.lt_succ_self _
        · exact agt'
        · exact Nat.lt_trans hb agt'
      · obtain ⟨more, em⟩ := grown
        have apart : ∀ b u, s1.heap.get? b = some u → b ∉ h3.objs.size :: [s1.heap.objs.size] := fun b u q hb => by
          have b1 : b < s1.heap.objs.size := Heap.lt_size q
          simp only [List.mem_cons, List.not_mem_nil, or_false] at hb
          rcases hb with e | e
          · exact Nat.ne_of_lt (Nat.lt_of_lt_of_le (Nat.lt_succ_of_lt b1) le3) e
          · exact Nat.ne_of_lt b1 e
        have J := inv_tab (more := more) (h' := t'.heap) (g' := t'.gens) (d' := t'.drawn) (t' := t'.toks) I1 tabH (fun b u nb q => mv.heap b u (apart b u q) (keep5 b u (keep3 b u nb q)))
          (by rw [← em]; exact mv.heap P _ (apart P _ tab1) (keep5 P _ tab3)) (AllBare.movedS (I1.bare.push bare) mv)
        rw [sh_eta s1 t' mv.os] at J
        exact ⟨upd H1 P (.tbl (ps ++ more)), ⟨⟨ps ++ more, upd_same, by rw [← em]; exact trip3⟩, fun b nb => upd_ne nb⟩, J⟩
  cases among : codeAmong gpos ps.toList with
  | none =>
    refine wpAny_genexprCodeX hcode (hd2.code tab2 trip) (hd2.tab tab2) among fun c' h' tk ext ge lt co _ tab' _ => ?_
    obtain ⟨_, _, _, _, _, _, _, _, _, _, _, _, _, _, _, _, _, _, _, tr, _⟩ := co
    exact go _ h' tk _ ext (by have ge' := ge; rw [size2] at ge'; exact Nat.le_trans ge' (Nat.le_of_lt lt)) tab'.2 ⟨_, rfl⟩ tr
  | some cv =>
    refine wpAny_genexprCode_hit hcode (hd2.code tab2 trip) among ?_
    exact go cv (s1.heap.push ob) s1.toks ps (Heap.ExtBut.refl _ _) (Nat.le_of_eq size2.symm) tab2 ⟨#[], by simp⟩ trip
theorem go_titer {elts : List Expr} {kt : Nat} {pos : Pos} {prog : Program} {w : World} {A : Around} {E : Value → Shared → Prop} {s : Shared} {I l T : Addr} {i : Nat} {Q : Unit → Shared → Prop} (hit : s.heap.IsTupleIter I l i) (hQ : Q () s) :
    wpAny (model prog w) A (letOwnedTupleGo (.Tuple elts kt pos) (.ref I) (.ref T)) Q E s := by
  obtain ⟨o, ho, hc, hd⟩ := hit
  unfold letOwnedTupleGo
  refine wpAny_bind (wpAny_load ho ?_)
  rw [hc, hd]
  have no : (["enumerate", "zip", "dict_itemiterator", "dict_reverseitemiterator", "odict_iterator", "itertools.zip_longest", "itertools.pairwise"].contains "tuple_iterator") = false := by decide
  show wpAny _ A (if ((["enumerate", "zip", "dict_itemiterator", "dict_reverseitemiterator", "odict_iterator", "itertools.zip_longest", "itertools.pairwise"].contains "tuple_iterator") && _) = true then _ else _) Q E s
  rw [no, Bool.false_and, if_neg Bool.false_ne_true]
  exact wpAny_pure hQ
/-- a tuple of tuples -/
theorem walkU_tuple {prog : Program} {w : World} {A : Around} (hh : A.handled = none) (I ax : Addr) (hne : ax ≠ I) (items : Array Value) (Ts : Nat → Addr) (vals : Nat → Array Value) (hit : ∀ j, j < items.size → items[j]? = some (.ref (Ts j))) (hTI : ∀ j, j < items.size → Ts j ≠ I) :
    WalksU prog w A I (I :: ax :: (List.range items.size).map Ts) [I] items.size (fun j v => v = vals j) (fun j h => h.IsTupleIter I ax j ∧ h.IsTuple ax items ∧ ∀ k, k < items.size → h.IsTuple (Ts k) (vals k))
      (fun j T h => (j < items.size ∧ T = Ts j) ∧ h.IsTupleIter I ax (j + 1) ∧ h.IsTuple ax items ∧ ∀ k, k < items.size → h.IsTuple (Ts k) (vals k)) where
  sub := fun b hb => by
    rw [List.mem_singleton] at hb
    rw [hb]
    exact List.mem_cons_self
  frame := fun i h h' st hk => by
    obtain ⟨a, b, c⟩ := st
    exact ⟨a.at fun o e => hk I List.mem_cons_self o e, b.at fun o e => hk ax (List.mem_cons_of_mem _ List.mem_cons_self) o e,
      fun k hk' => (c k hk').at fun o e => hk (Ts k) (List.mem_cons_of_mem _ (List.mem_cons_of_mem _ (List.mem_map_of_mem (List.mem_range.mpr hk')))) o e⟩
  item := fun i s Q E hi st hQ => by
    obtain ⟨a, b, c⟩ := st
    refine wpAny_pyNext_tuple_item a b (x := .ref (Ts i)) (hit i hi) fun h' a' same => ?_
    have c' : ∀ k, k < items.size → h'.IsTuple (Ts k) (vals k) := fun k hk' => (c k hk').extBut same.extBut (hTI k hk')
    exact hQ (Ts i) (vals i) h' s.toks rfl (c' i hi) ⟨⟨hi, rfl⟩, a', b.extBut same.extBut hne, c'⟩ fun d o nd e => same.extBut d o (fun z => nd (List.mem_singleton.mpr z)) e
  go := fun _ _ _ i T s Q E hm hQ => go_titer hm.2.1 (hQ s.heap hm.2 fun _ _ _ e => e)
  apart := fun j T h hm hmem => by
    rw [List.mem_singleton] at hmem
    exact hTI j hm.1.1 (hm.1.2 ▸ hmem)
  done := fun s Q E st hQ => by
    obtain ⟨a, b, _⟩ := st
    exact wpAny_pyNext_tuple_end hh a b (by simp) fun h' he => hQ h' s.toks fun d o nd e => he d o (fun z => nd (List.mem_singleton.mpr z)) e
  self := fun _ _ _ _ st hQ => wpAny_pyIter_tupleiter st.1 hQ
theorem walkU_n {prog : Program} {w : World} {A : Around} {I : Addr} {fp wr : List Addr} {n m : Nat} {vals : Nat → Array Value} {St : Nat → Heap → Prop} {Mid : Nat → Addr → Heap → Prop} (W : WalksU prog w A I fp wr n (fun j v => v = vals j) St Mid) (e : n = m) :
    WalksU prog w A I fp wr m (fun j v => j < m ∧ v = vals j) St Mid := by
  subst e
  exact {
    sub := W.sub
    frame := W.frame
    item := fun i s Q E hi st hQ => W.item i s Q E hi st fun T v h' tk hv => hQ T v h' tk ⟨hi, hv⟩
    go := W.go
    apart := W.apart
    done := W.done
    self := W.self }
/-- pairs at the items of xs -/
def PrB (K : PySem.W.Frag) (H : Hp) (xs : List V) (pr : Nat → V × V) : Prop := ∀ i x, xs[i]? = some x → ∃ t, x = .ref t ∧ SqT K H t [(pr i).1, (pr i).2]
theorem walk_pr {H1 : Hp} {s1 : Shared} {P a : Addr} {ps : Array Value} {xs : List V} {pr : Nat → V × V} (I : Inv X pins σ H1 s1) (hP : H1 P = some (.tbl ps)) (h : SqB X.K H1 a xs) (hpr : PrB X.K H1 xs pr) :
    ∃ vals : Nat → Array Value, (∀ i, i < xs.length → ∃ va vb, vals i = #[va, vb] ∧ RelV (pr i).1 va ∧ RelV (pr i).2 vb) ∧ WalkP X.prog X.w s1.heap P (.ref a) xs.length (fun i v => i < xs.length ∧ v = vals i) := by
  have tab1 : s1.heap.get? P = some { cls := .none, data := .fields ps } := I.hok P _ hP
  have Plt : P < s1.heap.objs.size := Heap.lt_size tab1
  have ne : ∀ {b : Addr} {o : Obj} {T : String}, s1.heap.get? b = some o → o.cls = .type T → b ≠ P := fun {b o T} e c z => by
    rw [z, tab1] at e
    cases e
    cases c
  have each : ∀ i, ∃ q : Addr × Array Value, i < xs.length → xs[i]? = some (.ref q.1) ∧ s1.heap.IsTuple q.1 q.2 ∧ ∃ va vb, q.2 = #[va, vb] ∧ RelV (pr i).1 va ∧ RelV (pr i).2 vb := fun i => by
    by_cases hi : i < xs.length
    · obtain ⟨t, e, sq⟩ := hpr i _ (List.getElem?_eq_getElem hi)
      obtain ⟨its, r, tp, _⟩ := I.tuple sq
      refine ⟨(t, its.toArray), fun _ => ⟨by rw [List.getElem?_eq_getElem hi, e], tp, ?_⟩⟩
      cases r with
      | cons r1 r => cases r with
        | cons r2 r =>
          cases r
          exact ⟨_, _, rfl, r1, r2⟩
    · exact ⟨(0, #[]), fun z => absurd z hi⟩
  obtain ⟨f, hf⟩ := Classical.skolem.mp each
  refine ⟨fun i => (f i).2, fun i hi => (hf i hi).2.2, ?_⟩
  have fin : ∀ (its : List Value), Vals xs its → (∀ j, j < its.toArray.size → its.toArray[j]? = some (.ref (f j).1)) ∧ its.toArray.size = xs.length := fun its r => by
    have len := r.length
    refine ⟨fun j hj => ?_, by simp [len]⟩
    have hj' : j < xs.length := by rw [len]; simpa using hj
    obtain ⟨u, eu, ru⟩ := r.get (hf j hj').1
    cases ru
    rw [List.getElem?_toArray]
    exact eu
  have lt : ∀ j, j < xs.length → (f j).1 < s1.heap.objs.size := fun j hj => by
    obtain ⟨o, e, _⟩ := (hf j hj).2.1
    exact Heap.lt_size e
  have nP : ∀ j, j < xs.length → (f j).1 ≠ P := fun j hj => by
    obtain ⟨o, e, c, _⟩ := (hf j hj).2.1
    exact ne e c
  have foot : ∀ {a : Addr}, a < s1.heap.objs.size → a ≠ P → ∀ {n : Nat}, n = xs.length → ∀ b ∈ s1.heap.objs.size :: a :: (List.range n).map (fun j => (f j).1), b ≠ P ∧ b ≤ s1.heap.objs.size := fun {a} la na {n} en b hb => by
    subst en
    rcases List.mem_cons.mp hb with rfl | hb
    · exact ⟨(Nat.ne_of_lt Plt).symm, Nat.le_refl _⟩
    · rcases List.mem_cons.mp hb with rfl | hb
      · exact ⟨na, Nat.le_of_lt la⟩
      · obtain ⟨j, hj, rfl⟩ := List.mem_map.mp hb
        have hj' := List.mem_range.mp hj
        exact ⟨nP j hj', Nat.le_of_lt (lt j hj')⟩
  rcases h with h | h
  · obtain ⟨its, r, pl, _⟩ := I.list h
    obtain ⟨o, e, c, q⟩ := pl.isList
    obtain ⟨at_, sz⟩ := fin its r
    intro A E s Q es k
    obtain ⟨hp, gs, dr, tk, os⟩ := s
    replace es : hp = s1.heap := es
    subst es
    have la : a < s1.heap.objs.size := Heap.lt_size e
    refine wpAny_pyIter_list ⟨o, e, c, q⟩ (k _ _ _ _ (fun A' hA => walkU_n (WalksU.listOfTuples (prog := X.prog) (w := X.w) hA s1.heap.objs.size a (Nat.ne_of_lt la) its.toArray (fun j => (f j).1) (fun j => (f j).2) at_ (fun j hj => Nat.ne_of_lt (lt j (by rw [← sz]; exact hj)))) sz) ?_ (foot la (ne e c) sz))
    · exact ⟨⟨_, Heap.get?_push_size _ rfl, rfl, rfl⟩, Heap.IsList.push ⟨o, e, c, q⟩ _, fun j hj => (hf j (by rw [← sz]; exact hj)).2.1.push _⟩
  · obtain ⟨its, r, tp, _⟩ := I.tuple h
    obtain ⟨o, e, c, q⟩ := tp
    obtain ⟨at_, sz⟩ := fin its r
    intro A E s Q es k
    obtain ⟨hp, gs, dr, tk, os⟩ := s
    replace es : hp = s1.heap := es
    subst es
    have la : a < s1.heap.objs.size := Heap.lt_size e
    refine wpAny_pyIter_tuple ⟨o, e, c, q⟩ (k _ _ _ _ (fun A' hA => walkU_n (walkU_tuple (prog := X.prog) (w := X.w) hA s1.heap.objs.size a (Nat.ne_of_lt la) its.toArray (fun j => (f j).1) (fun j => (f j).2) at_ (fun j hj => Nat.ne_of_lt (lt j (by rw [← sz]; exact hj)))) sz) ?_ (foot la (ne e c) sz))
    · exact ⟨⟨_, Heap.get?_push_size _ rfl, rfl, rfl⟩, Heap.IsTuple.push ⟨o, e, c, q⟩ _, fun j hj => (hf j (by rw [← sz]; exact hj)).2.1.push _⟩
theorem elt_ofP {scope : Scope} {xa xb : Str} {elt : Expr} {rd : QT} (he : QE X scope [xa, xb] elt rd) {H1 : Hp} {s1 : Shared} {P : Addr} {ps : Array Value} (I : Inv X pins σ H1 s1) (hP : H1 P = some (.tbl ps)) {n : Nat} {pr : Nat → V × V} {vals : Nat → Array Value}
    (hv : ∀ i, i < n → ∃ va vb, vals i = #[va, vb] ∧ RelV (pr i).1 va ∧ RelV (pr i).2 vb) {g : Nat → V} (h : ∀ i, i < n → rd [(pr i).1, (pr i).2] σ H1 fun y => y = g i) :
    EltP2 X scope xa xb elt P s1.heap (fun i v => i < n ∧ v = vals i) (fun i y => i < n ∧ RelV (g i) y) := by
  intro C code A' E' i va vb t m hA hi hn hma hmb hk
  obtain ⟨li, ei⟩ := hi
  obtain ⟨ua, ub, e, r1, r2⟩ := hv i li
  rw [e] at ei
  simp only [Array.mk.injEq, List.cons.injEq, and_true] at ei
  obtain ⟨rfl, rfl⟩ := ei
  refine wpAny_mono (he.run I hP hA hn (.cons r1 (.cons r2 .nil)) (fun j n' q => ?_) hk _ (h i li)) (fun y t' q => ?_) fun _ _ z => z
  · cases j with
    | zero => cases q; exact hma
    | succ j => cases j with
      | zero => cases q; exact hmb
      | succ j => cases q
  · obtain ⟨⟨v', r', rfl⟩, kk⟩ := q
    exact ⟨⟨li, r'⟩, kk⟩
/-- as tGen, over pairs -/
def tGenP (P : Addr) (K : PySem.W.Frag) (rd : QT) (res : List V → (Nat → V) → (V → Prop) → Prop) (te : TE) : TE := fun σ H Q => te σ H fun v H1 => TabG H1 P ∧ ∃ (a : Addr) (xs : List V) (pr : Nat → V × V) (g : Nat → V), v = .ref a ∧ SqB K H1 a xs ∧ PrB K H1 xs pr ∧
  (∀ i, i < xs.length → rd [(pr i).1, (pr i).2] σ H1 fun y => y = g i) ∧ res xs g fun r => ∀ H2, Tabbed P H1 H2 → Q r H2
theorem pe_genP {fn : String} {res : List V → (Nat → V) → (V → Prop) → Prop} {n : Str} {c P : Addr} {elt iter : Expr} {xa xb : Str} {qa qb qt p pos gpos : Pos} {kt : Nat} {scope : Scope} {rd : QT} {te : TE} {k : Nat} (hf : Eats X fn res)
    (hr : Room k X.A) (hg : Gl X n) (hm : X.mg n = none) (hb : bootBuiltins n = some (.builtin fn)) (TB : TabB X.base X.mg c P) (hcode : X.env.code = .ref c) (S : GenP X.env scope xa xb) (hi : PE X iter te) (hel : QE X scope [xa, xb] elt rd)
    (hs : ∀ v, genFold iter X.env v = pure v) (hn : n ≠ "__name__" := by decide) (hdb : (n == ("__debug__" : Str)) = false := by decide)
    (he : starEach [.GeneratorExp elt [⟨.Tuple [.Name xa qa, .Name xb qb] kt qt, iter, [], 0⟩] scope gpos] X.env = (false, eval (.GeneratorExp elt [⟨.Tuple [.Name xa qa, .Name xb qb] kt qt, iter, [], 0⟩] scope gpos) X.env) :: starEach [] X.env := by rfl) :
    PE X (.Call (.Name n p) [.GeneratorExp elt [⟨.Tuple [.Name xa qa, .Name xb qb] kt qt, iter, [], 0⟩] scope gpos] [] pos) (tGenP P X.K rd res te) := by
  refine ⟨fun pins s σ H Q I h => ?_⟩
  refine wpAny_Call_Name_kw (ld_blt I hg hm hb ?_ hn hdb)
  refine PyProof.Rows.callWith_builtin1 ?_ he (by rfl)
  rw [he]
  refine Calls.spliced_cons (gen_pair hr TB hcode S hi hs I h fun v H1 all1 => ?_)
  obtain ⟨⟨ps, hP, trip⟩, a, xs, pr, g, rfl, sq, hpr, els, rz⟩ := all1
  refine ⟨⟨ps, hP, trip⟩, fun s1 xv I1 rel => ?_⟩
  cases rel
  obtain ⟨vals, hv, walk⟩ := walk_pr I1 hP sq hpr
  refine ⟨_, _, _, walk, fun i v q => ?_, elt_ofP hel I1 hP hv els, fun ga t rdy => ?_⟩
  · obtain ⟨li, rfl⟩ := q
    obtain ⟨va, vb, e, _⟩ := hv i li
    exact ⟨va, vb, e⟩
  obtain ⟨fp, wr, G, F', St, W, hF, st, bnd, fin⟩ := rdy
  refine Calls.spliced_nil ?_
  refine hf rz W hF st bnd fun r y t' hZ ry mv => ?_
  obtain ⟨H2, tb, J⟩ := fin t' mv
  exact ⟨r, H2, J, ry, hZ H2 tb⟩
/-! ### more elements: items, and, or, not, shifts and bits -/
/-- an item of a list or a tuple, from its front -/
def qIx (K : PySem.W.Frag) (ra rb : QT) : QT := fun vs σ H Q => ra vs σ H fun x => rb vs σ H fun y => ∃ (q : Addr) (xs : List V) (j : Nat) (v : V), x = .ref q ∧ y = .int j ∧ SqB K H q xs ∧ xs[j]? = some v ∧ Q v
theorem q_ix {scope : Scope} {ns : List Str} {a b : Expr} {ra rb : QT} {pos : Pos} (ha : QE X scope ns a ra) (hb : QE X scope ns b rb) (hx : PlainIx b) : QE X scope ns (.Subscript a b pos) (qIx X.K ra rb) := by
  refine ⟨fun {pins σ H1 s1} I {P ps} hP {C code A' E' t m vs us} hA hn hv hm hk Q h => Subscript_ ?_⟩
  have tab1 : s1.heap.get? P = some { cls := .none, data := .fields ps } := I.hok P _ hP
  have ne : ∀ {b : Addr} {o : Obj} {T : String}, s1.heap.get? b = some o → o.cls = .type T → b ≠ P := fun {b o T} e c z => by
    rw [z, tab1] at e
    cases e
    cases c
  refine wpAny_mono (ha.run I hP hA hn hv hm hk _ h) (fun y t1 r => ?_) fun _ _ z => z
  obtain ⟨⟨v, r1, q1⟩, k1⟩ := r
  refine q_then hb I hP hA hn hv hm hk k1 q1 fun v' y' t2 r2 q2 k2 => ?_
  obtain ⟨q, xs, j, u, rfl, rfl, sq, at_, fin⟩ := q2
  cases r1
  obtain ⟨tk, rfl⟩ := r2
  have jl : j < xs.length := by
    rcases Nat.lt_or_ge j xs.length with z | z
    · exact z
    · rw [List.getElem?_eq_none z] at at_
      cases at_
  have big := line63
  rcases sq with sq | sq
  · obtain ⟨its, r, pl, hz⟩ := I.list sq
    obtain ⟨w, ew, rw'⟩ := r.get at_
    obtain ⟨o, e, c, d⟩ := pl.isList
    have pl2 : t2.heap.IsList q its.toArray := ⟨o, kp_heap k2 _ _ (hk _ _ (ne e c) e), c, d⟩
    exact item_listR pl2 (Int.natCast_nonneg j) (by omega) (by simpa using ew) ⟨⟨u, rw', fin⟩, k2⟩ (hx _ _)
  · obtain ⟨its, r, tp, hz⟩ := I.tuple sq
    obtain ⟨w, ew, rw'⟩ := r.get at_
    obtain ⟨o, e, c, d⟩ := tp
    have tp2 : IsTup t2.heap q its.toArray := ⟨o, kp_heap k2 _ _ (hk _ _ (ne e c) e), c, d⟩
    have len := r.length
    exact subscriptTail_builtinR (x := w) tp2.typeIs slot_tuple_getitem.lookup
      (getItem_tuple (j := j) (Q := fun r s' => r = w ∧ ((∃ v, RelV v r ∧ Q v) ∧ Keeps t s')) tp2 (by omega) (by omega) (by rw [List.size_toArray, ← len]; exact seqIndex_of (Int.natCast_nonneg j) (by omega)) (by simpa using ew) ⟨rfl, ⟨u, rw', fin⟩, k2⟩) (hx _ _)
def qAnd (ra rb : QT) : QT := fun vs σ H Q => ra vs σ H fun x => ∃ k, x = .bl k ∧ if k = true then rb vs σ H Q else Q (.bl false)
def qOr (ra rb : QT) : QT := fun vs σ H Q => ra vs σ H fun x => ∃ k, x = .bl k ∧ if k = true then Q (.bl true) else rb vs σ H Q
theorem q_one {op} {scope : Scope} {ns : List Str} {a : Expr} {ra : QT} {pos : Pos} (ha : QE X scope ns a ra) : QE X scope ns (.BoolOp op [a] pos) ra :=
  ⟨fun {pins σ H1 s1} I {P ps} hP {C code A' E' t m vs us} hA hn hv hm hk Q h => BoolOp_one (ha.run I hP hA hn hv hm hk Q h)⟩
theorem q_and {scope : Scope} {ns : List Str} {a b : Expr} {rest : List Expr} {ra rb : QT} {pos : Pos} (ha : QE X scope ns a ra) (hb : QE X scope ns (.BoolOp .And (b :: rest) pos) rb) : QE X scope ns (.BoolOp .And (a :: b :: rest) pos) (qAnd ra rb) := by
  refine ⟨fun {pins σ H1 s1} I {P ps} hP {C code A' E' t m vs us} hA hn hv hm hk Q h => BoolOp_and ?_⟩
  refine wpAny_mono (ha.run I hP hA hn hv hm hk _ h) (fun y t1 r => ?_) fun _ _ z => z
  obtain ⟨⟨v, r1, k, rfl, q1⟩, k1⟩ := r
  cases r1
  refine wpAny_truthy_bool ?_
  cases k with
  | false =>
    rw [if_neg Bool.false_ne_true] at q1
    exact ite_ff ⟨⟨.bl false, rfl, q1⟩, k1⟩
  | true =>
    rw [if_pos rfl] at q1
    exact ite_tt (q_then hb I hP hA hn hv hm hk k1 q1 fun v' y' t2 r2 q2 k2 => ⟨⟨v', r2, q2⟩, k2⟩)
theorem q_or {scope : Scope} {ns : List Str} {a b : Expr} {rest : List Expr} {ra rb : QT} {pos : Pos} (ha : QE X scope ns a ra) (hb : QE X scope ns (.BoolOp .Or (b :: rest) pos) rb) : QE X scope ns (.BoolOp .Or (a :: b :: rest) pos) (qOr ra rb) := by
  refine ⟨fun {pins σ H1 s1} I {P ps} hP {C code A' E' t m vs us} hA hn hv hm hk Q h => BoolOp_or ?_⟩
  refine wpAny_mono (ha.run I hP hA hn hv hm hk _ h) (fun y t1 r => ?_) fun _ _ z => z
  obtain ⟨⟨v, r1, k, rfl, q1⟩, k1⟩ := r
  cases r1
  refine wpAny_truthy_bool ?_
  cases k with
  | false =>
    rw [if_neg Bool.false_ne_true] at q1
    exact ite_ff (q_then hb I hP hA hn hv hm hk k1 q1 fun v' y' t2 r2 q2 k2 => ⟨⟨v', r2, q2⟩, k2⟩)
  | true =>
    rw [if_pos rfl] at q1
    exact ite_tt ⟨⟨.bl true, rfl, q1⟩, k1⟩
/-- operations of two ints -/
def BinI (X : Cx) (op : Operator) (ok : Int → Int → Prop) (f : Int → Int → Int) : Prop := ∀ {A : Around} {E : Value → Shared → Prop} {s : Shared} {i j : Int} {k l : Tok} {Q : Value → Shared → Prop}, A.handled = none → ok i j → Q (.int (f i j) s.toks) { s with toks := s.toks + 1 } → wpAny (model X.prog X.w) A (binaryOp op (.int i k) (.int j l)) Q E s
def okAll : Int → Int → Prop := fun _ _ => True
def okShl : Int → Int → Prop := fun i j => 0 ≤ j ∧ j ≤ 1000000 ∧ i.natAbs < 2 ^ 64
theorem bi_add : BinI X .Add okAll (· + ·) := fun _ _ h => PySem.P.add_int h
theorem bi_and : BinI X .BitAnd okAll Builtin.bitAnd := fun _ _ h => and_int h
theorem bi_or : BinI X .BitOr okAll Builtin.bitOr := fun _ _ h => or_int h
theorem bi_shl : BinI X .LShift okShl (fun i j => i * 2 ^ j.toNat) := fun _ o h => lshift_int_small o.1 o.2.1 o.2.2 h
theorem q_bi {op : Operator} {ok : Int → Int → Prop} {f : Int → Int → Int} {scope : Scope} {ns : List Str} {a b : Expr} {ra rb : QT} {pos : Pos} (hop : BinI X op ok f) (ha : QE X scope ns a ra) (hb : QE X scope ns b rb) : QE X scope ns (.BinOp a op b pos) (q2 ra rb ok f) := q_bin hop ha hb
/-! ### range(n) as the source -/
theorem WalkV.lt {prog : Program} {w : World} {h : Heap} {P : Addr} {xv : Value} {n : Nat} {Pi : Nat → Value → Prop} (W : WalkV prog w h P xv n Pi) : WalkV prog w h P xv n (fun i v => i < n ∧ Pi i v) := by
  intro A E s Q e k
  refine W A E s Q e fun ob fp St Ws st hfp => k ob fp St (fun A' hA => ?_) st hfp
  have Z := Ws A' hA
  exact {
    sub := Z.sub
    frame := Z.frame
    item := fun i s Q E hi st hQ => Z.item i s Q E hi st fun v h' tk hv => hQ v h' tk ⟨hi, hv⟩
    done := Z.done
    self := Z.self }
theorem cr_range1 : CallR X (.type "range") (fun vs H Q => ∃ n, vs = [V.int n] ∧ ∀ p, H p = none → Q (.ref p) (upd H p (.rng 0 n))) := by
  intro pins s σ H vs us Q I r h
  obtain ⟨n, rfl, q⟩ := h
  cases r with
  | cons r1 r =>
    cases r
    obtain ⟨t, rfl⟩ := r1
    have new := q s.heap.objs.size (I.hok.fresh (Nat.le_refl _))
    refine call_range_1 ⟨.ref s.heap.objs.size, _, I.laid (t' := s.toks + 1 + 1) (fun b o e => Heap.get?_push_of_some _ e) (Nat.le_refl _) ?_, rfl, new⟩
    exact ⟨s.toks, t, s.toks + 1, Heap.get?_push_size _ rfl⟩
theorem walk_rng {H1 : Hp} {s1 : Shared} {P r : Addr} {ps : Array Value} {n : Nat} (I : Inv X pins σ H1 s1) (hP : H1 P = some (.tbl ps)) (hr : H1 r = some (.rng 0 n)) (hn : n < 2 ^ 62) :
    WalkV X.prog X.w s1.heap P (.ref r) n (fun i v => ∃ t, v = .int i t) := by
  have tab1 : s1.heap.get? P = some { cls := .none, data := .fields ps } := I.hok P _ hP
  have Plt : P < s1.heap.objs.size := Heap.lt_size tab1
  obtain ⟨t, u, v, e⟩ := I.hok r _ hr
  intro A E s Q es k
  obtain ⟨hp, gs, dr, tk, os⟩ := s
  replace es : hp = s1.heap := es
  subst es
  have size : Builtin.Range.rangeSize 0 (n : Int) 1 = (n : Int) := by
    rw [rangeSize_one]
    split <;> omega
  refine wpAny_pyIter_range e (small_one (by decide) (by decide) (by omega) (by omega)) (k _ [s1.heap.objs.size] (fun i h' => IsRangeIter h' s1.heap.objs.size (0 + (i : Nat) * 1) ((n : Int) - (i : Nat)) 1) (fun A' hA => ?_) ?_ fun b hb => ?_)
  · have W := Walks.range (prog := X.prog) (w := X.w) hA s1.heap.objs.size 0 1 n
    exact {
      sub := W.sub
      frame := W.frame
      item := fun i s Q E hi st hQ => W.item i s Q E hi st fun v h' tk hv => hQ v h' tk (by
        obtain ⟨t', ev⟩ := hv
        exact ⟨t', by rw [ev]; congr 1; omega⟩)
      done := W.done
      self := W.self }
  · show IsRangeIter _ _ _ _ _
    rw [size]
    simp only [Int.natCast_zero, Int.zero_mul, Int.add_zero, Int.sub_zero]
    exact Heap.get?_push_size _ rfl
  · rw [List.mem_singleton] at hb
    subst hb
    exact ⟨(Nat.ne_of_lt Plt).symm, Nat.le_refl _⟩
/-- as tGen, over range(n) -/
def tGenR (P : Addr) (rd : QT) (res : List V → (Nat → V) → (V → Prop) → Prop) (te : TE) : TE := fun σ H Q => te σ H fun v H1 => TabG H1 P ∧ ∃ (r : Addr) (n : Nat) (g : Nat → V), v = .ref r ∧ H1 r = some (.rng 0 n) ∧ n < 2 ^ 62 ∧
  (∀ i, i < n → rd [.int i] σ H1 fun y => y = g i) ∧ res ((List.range n).map fun i : Nat => V.int (i : Int)) g fun r => ∀ H2, Tabbed P H1 H2 → Q r H2
theorem pe_genR {fn : String} {res : List V → (Nat → V) → (V → Prop) → Prop} {n : Str} {c P : Addr} {elt iter : Expr} {x : Str} {px p pos gpos : Pos} {scope : Scope} {rd : QT} {te : TE} {k : Nat} (hf : Eats X fn res)
    (hr : Room k X.A) (hg : Gl X n) (hm : X.mg n = none) (hb : bootBuiltins n = some (.builtin fn)) (TB : TabB X.base X.mg c P) (hcode : X.env.code = .ref c) (S : GenS X.env scope x) (hi : PE X iter te) (hel : QE X scope [x] elt rd)
    (hs : ∀ v, genFold iter X.env v = pure v) (hn : n ≠ "__name__" := by decide) (hdb : (n == ("__debug__" : Str)) = false := by decide)
    (he : starEach [.GeneratorExp elt [⟨.Name x px, iter, [], 0⟩] scope gpos] X.env = (false, eval (.GeneratorExp elt [⟨.Name x px, iter, [], 0⟩] scope gpos) X.env) :: starEach [] X.env := by rfl) :
    PE X (.Call (.Name n p) [.GeneratorExp elt [⟨.Name x px, iter, [], 0⟩] scope gpos] [] pos) (tGenR P rd res te) := by
  refine ⟨fun pins s σ H Q I h => ?_⟩
  refine wpAny_Call_Name_kw (ld_blt I hg hm hb ?_ hn hdb)
  refine PyProof.Rows.callWith_builtin1 ?_ he (by rfl)
  rw [he]
  refine Calls.spliced_cons (gen_seq hr TB hcode S hi hs I h fun v H1 all1 => ?_)
  obtain ⟨⟨ps, hP, trip⟩, r, m, g, rfl, er, hm2, els, rz⟩ := all1
  refine ⟨⟨ps, hP, trip⟩, fun s1 xv I1 rel => ?_⟩
  cases rel
  have len : ((List.range m).map fun i : Nat => V.int (i : Int)).length = m := by rw [List.length_map, List.length_range]
  refine ⟨m, _, fun i y => i < m ∧ RelV (g i) y, WalkV.lt (walk_rng I1 hP er hm2), fun C code A' E' i v t mm hA hv hn' hma hk => ?_, fun ga t rdy => ?_⟩
  · obtain ⟨li, tk, ev⟩ := hv
    subst ev
    refine wpAny_mono (hel.run I1 hP hA hn' (.cons (show RelV (V.int (i : Int)) (.int (i : Int) tk) from ⟨tk, rfl⟩) .nil) (fun j n' e => ?_) hk _ (els i li)) (fun y t' q => ?_) fun _ _ z => z
    · cases j with
      | zero => cases e; exact hma
      | succ j => cases e
    · obtain ⟨⟨v', r', rfl⟩, kk⟩ := q
      exact ⟨⟨li, r'⟩, kk⟩
  obtain ⟨fp, wr, G, F', St, W, hF, st, bnd, fin⟩ := rdy
  refine Calls.spliced_nil ?_
  refine hf rz (by rw [len]; exact W) (fun j y z => by rw [len]; exact hF j y z) st bnd fun r y t' hZ ry mv => ?_
  obtain ⟨H2, tb, J⟩ := fin t' mv
  exact ⟨r, H2, J, ry, hZ H2 tb⟩
/-! ### abs(..) of an element -/
def qAbs (ra : QT) : QT := fun vs σ H Q => ra vs σ H fun x => ∃ i, x = .int i ∧ Q (.int (if i < 0 then -i else i))
theorem q_bltn {n : Str} {v : V} {u : Value} {scope : Scope} {ns : List Str} {pos : Pos} (hg : scope.names.lookup n = some .globalImplicit) (hs : scope.kind = .function) (hm : X.mg n = none) (hb : bootBuiltins n = some u) (r : RelV v u) (hn : n ≠ "__name__" := by decide) (hd : (n == ("__debug__" : Str)) = false := by decide) : QE X scope ns (.Name n pos) (qC v) := by
  refine ⟨fun {pins σ H1 s1} I {P ps} hP {C code A' E' t m vs us} hA hn' hv hm' hk Q h => ?_⟩
  have keep : ∀ b o, X.base.get? b = some o → t.heap.get? b = some o := fun b o z => hk b o (fun y => by
    have f := (I.bs _ o z).2
    rw [y, hP] at f
    cases f) (I.bk _ o z)
  obtain ⟨mb, b1, b2⟩ := I.mod.blt
  refine Calls.Name_function_global hs hg (Calls.loadGlobal_builtin (mg := X.mg) (mb := mb) ?_ hm ?_ ((b2 n hn).trans hb) ⟨⟨v, r, h⟩, keeps_refl _⟩) hd
  · show Heap.Ns _ X.env.globals X.mg
    rw [I.ok.glob]
    exact I.mod.glob.keeps keep
  · exact b1.keeps keep
theorem q_abs {scope : Scope} {ns : List Str} {a : Expr} {ra : QT} {pos p : Pos} (hg : scope.names.lookup ("abs" : Str) = some .globalImplicit) (hs : scope.kind = .function) (hm : X.mg "abs" = none) (ha : QE X scope ns a ra)
    (he : ∀ env, starEach [a] env = (false, eval a env) :: starEach [] env := by intro _; rfl) : QE X scope ns (.Call (.Name "abs" p) [a] [] pos) (qAbs ra) := by
  refine ⟨fun {pins σ H1 s1} I {P ps} hP {C code A' E' t m vs us} hA hn hv hm' hk Q h => wpAny_Call_Name_kw ?_⟩
  have keep : ∀ b o, X.base.get? b = some o → t.heap.get? b = some o := fun b o z => hk b o (fun y => by
    have f := (I.bs _ o z).2
    rw [y, hP] at f
    cases f) (I.bk _ o z)
  obtain ⟨mb, b1, b2⟩ := I.mod.blt
  refine Calls.Name_function_global hs hg (Calls.loadGlobal_builtin (mg := X.mg) (mb := mb) ?_ hm ?_ ((b2 "abs" (by decide)).trans (show bootBuiltins "abs" = some (.builtin "abs") by decide +kernel)) ?_) (by decide)
  · show Heap.Ns _ X.env.globals X.mg
    rw [I.ok.glob]
    exact I.mod.glob.keeps keep
  · exact b1.keeps keep
  refine PyProof.Rows.callWith_builtin1 ?_ (he _) (by rfl)
  rw [he]
  refine Calls.spliced_cons (wpAny_mono (ha.run I hP hA hn hv hm' hk _ h) (fun y t1 r => ?_) fun _ _ z => z)
  obtain ⟨⟨v, r1, i, rfl, q⟩, k1⟩ := r
  obtain ⟨tk, rfl⟩ := r1
  refine Calls.spliced_nil (call_abs_int fun u tk' => ⟨⟨.int _, ⟨_, rfl⟩, q⟩, kp_trans k1 (keeps_tok _ _)⟩)
end
end Gq

namespace Gn
open PySem PySem.Spec PyProof.Rows L2 GxR Gq
/-! ### generator expressions with any tuple as their target -/
section
variable {prog : Program} {w : World} {A : Around}
/-- the store of a tuple binds the names -/
def Stores (prog : Program) (w : World) (ce : Env) (es : List Expr) (kt : Nat) (pt : Pos) (Pt : Nat → Array Value → Prop) (Bd : Nat → (Str → Option Value) → Prop) : Prop :=
  ∀ (A1 : Around) (E1 : Value → Shared → Prop) (i : Nat) (T : Addr) (vals : Array Value) (s : Shared) (m : Str → Option Value) (Q : Unit → Shared → Prop), A1.handled = none → Pt i vals → s.heap.IsTuple T vals → s.heap.Ns ce.locals m →
    (∀ (h2 : Heap) (m2 : Str → Option Value) (tk : Nat), h2.Ns ce.locals m2 → Bd i m2 → (∀ b o, b ≠ ce.locals → s.heap.get? b = some o → h2.get? b = some o) → Q () { s with heap := h2, toks := tk }) → wpAny (model prog w) A1 (assign (.Tuple es kt pt) ce (.ref T)) Q E1 s
structure Quiet (prog : Program) (w : World) (ce : Env) (ifs : List Expr) (elt : Expr) (fp wr : List Addr) (Bd : Nat → (Str → Option Value) → Prop) (pz : Nat → Bool) (F : Nat → Value → Prop) (h0 : Heap) : Prop where
  test : ∀ (A1 : Around) (E1 : Value → Shared → Prop) (i : Nat) (s2 : Shared) (m2 : Str → Option Value), A1.handled = none → s2.heap.Ns ce.locals m2 → Bd i m2 → (∀ b ∈ fp, b ∉ wr → ∀ o, h0.get? b = some o → s2.heap.get? b = some o) →
    wpAny (model prog w) A1 (forIn ifs true fun c r => if r = true then do let ok ← isTrue c ce (eval c ce); pure (ForInStep.yield ok) else pure (ForInStep.yield r)) (fun ok s3 => ok = pz i ∧ Keeps s2 s3) E1 s2
  elem : ∀ (A1 : Around) (E1 : Value → Shared → Prop) (i : Nat) (s2 : Shared) (m2 : Str → Option Value), A1.handled = none → pz i = true → s2.heap.Ns ce.locals m2 → Bd i m2 → (∀ b ∈ fp, b ∉ wr → ∀ o, h0.get? b = some o → s2.heap.get? b = some o) →
    wpAny (model prog w) A1 (eval elt ce) (fun y s3 => F i y ∧ Keeps s2 s3) E1 s2
abbrev gE (elt iter : Expr) (es : List Expr) (kt : Nat) (pt : Pos) (ifs : List Expr) (scope : Scope) (pos : Pos) : Expr := .GeneratorExp elt [⟨.Tuple es kt pt, iter, ifs, 0⟩] scope pos
theorem loopX {elt iter : Expr} {es : List Expr} {pt : Pos} {kt : Nat} {ifs : List Expr} {scope : Scope} {pos : Pos} {J : Addr} {fp wr : List Addr} {n : Nat} {Pt : Nat → Array Value → Prop} {Bd : Nat → (Str → Option Value) → Prop} {St : Nat → Heap → Prop} {Mid : Nat → Addr → Heap → Prop} {ce : Env}
    (hA : A.handled = none) (W : ∀ B : Around, B.handled = none → WalksU prog w B J fp wr n Pt St Mid) (pz : Nat → Bool) (F : Nat → Value → Prop) (h0 : Heap) (hst : Stores prog w ce es kt pt Pt Bd)
    (hc : ce.scope.isCoroutine = false) (hloc : ce.locals ∉ fp) (hq : Quiet prog w ce ifs elt fp wr Bd pz F h0) :
    ∀ (k i : Nat) (t0 s : Shared) (m : Str → Option Value), n - i = k → i ≤ n → St i s.heap → s.heap.Ns ce.locals m → GenSince ce.locals wr t0 s → (∀ b ∈ fp, b ∉ wr → ∀ o, h0.get? b = some o → s.heap.get? b = some o) →
      Seg (model prog w) A (fun c t1 r t2 => r = .ok .next ∧ (c = 0 ∧ GenSince ce.locals wr t1 t2)) (genProto ce.locals fp wr pz n F) (passing pz n i).length t0 (.compLoop (gE elt iter es kt pt ifs scope pos) 0 (.ref J) .none ce) ((model prog w).den (.compLoop (gE elt iter es kt pt ifs scope pos) 0 (.ref J) .none ce)) [] s := by
  have hA2 : (A.over (.compLoop (gE elt iter es kt pt ifs scope pos) 0 (.ref J) .none ce) []).handled = none := hA
  have locw : ce.locals ∉ wr := fun z => hloc ((W A hA).sub _ z)
  intro k
  induction k with
  | zero =>
    intro i t0 s m hk hi st hn hs hkp
    obtain rfl : i = n := by omega
    show Seg _ A _ _ _ t0 _ ((compTurn (gE elt iter es kt pt ifs scope pos) 0 (.ref J) .none ce).onRaise (leaving ce)) [] s
    rw [compTurn_gen, Sem.onRaise_eq_wrap]
    refine seg_bind_wrap (wpAny_standAt (seg_bind_wrap ((W _ hA2).done s _ _ st fun h' tk hk' => ?_)))
    exact seg_end (.ok .next) ⟨rfl, (by rw [passing_end]; rfl), hs.step fun b o _ hw e => hk' b o hw e⟩
  | succ k ih =>
    intro i t0 s m hk hi st hn hs hkp
    have hlt : i < n := by omega
    show Seg _ A _ _ _ t0 _ ((compTurn (gE elt iter es kt pt ifs scope pos) 0 (.ref J) .none ce).onRaise (leaving ce)) [] s
    rw [compTurn_gen, Sem.onRaise_eq_wrap]
    refine seg_bind_wrap (wpAny_standAt (seg_bind_wrap ((W _ hA2).item i s _ _ hlt st fun T vals h1 tk1 hPv hT1 hmid hk1 => ?_)))
    refine seg_bind_wrap ((W _ hA2).go _ _ _ i T _ _ _ hmid fun h2 st2 hk2 => ?_)
    have hT2 : h2.IsTuple T vals := let ⟨o, e, r⟩ := hT1; ⟨o, hk2 _ o ((W _ hA2).apart i T _ hmid) e, r⟩
    have hn2 : h2.Ns ce.locals m := hn.at' fun o e => hk2 _ o locw (hk1 _ o locw e)
    refine seg_bind_wrap (hst _ _ i T vals { s with heap := h2, toks := tk1 } m _ hA2 hPv hT2 hn2 fun h3 m3 tk3 hn3 hB hk3 => ?_)
    have hup : ∀ b o, b ≠ ce.locals → b ∉ wr → s.heap.get? b = some o → h3.get? b = some o := fun b o nb nw e => hk3 b o nb (hk2 b o nw (hk1 b o nw e))
    have ne : ∀ b, b ∈ fp → b ≠ ce.locals := fun b hb z => hloc (z ▸ hb)
    have st3 : St (i + 1) h3 := (W A hA).frame _ _ _ st2 fun b hb o e => hk3 b o (ne b hb) e
    have hkp3 : ∀ b ∈ fp, b ∉ wr → ∀ o, h0.get? b = some o → h3.get? b = some o := fun b hb nw o e => hup b o (ne b hb) nw (hkp b hb nw o e)
    refine seg_bind_wrap (wpAny_mono (hq.test _ _ i _ _ hA2 hn3 hB hkp3) (fun ok s4 h4 => ?_) fun _ _ e => e)
    obtain ⟨rfl, h4, tk4, rfl, hk4⟩ := h4
    have st4 : St (i + 1) h4 := (W A hA).frame _ _ _ st3 fun b _ o e => hk4 b o e
    have hn4 := hn3.keeps hk4
    have hs4 : GenSince ce.locals wr t0 { s with heap := h4, toks := tk4 } := hs.step fun b o nb nw e => hk4 b o (hup b o nb nw e)
    cases hz : pz i with
    | false =>
      rw [passing_false hlt hz]
      simp only [Bool.false_eq_true, if_false]
      exact seg_again rfl (ih (i + 1) t0 _ _ (by omega) hlt st4 hn4 hs4 fun b hb nw o e => hk4 b o (hkp3 b hb nw o e))
    | true =>
      rw [passing_true hlt hz, List.length_cons]
      simp only [if_true]
      have yo : ∀ v, yieldOut ce v = yieldValue v := fun v => by simp only [yieldOut, hc, Bool.false_eq_true, if_false]
      simp only [yo]
      rw [Sem.bind_eq_wrap', Sem.bind_eq_wrap', Sem.wrap_wrap, Sem.wrap_wrap]
      refine seg_wrap (wpAny_mono (hq.elem _ _ i _ _ hA2 hz hn4 hB fun b hb nw o e => hk4 b o (hkp3 b hb nw o e)) (fun y s5 h5 => ?_) fun _ _ e => e)
      obtain ⟨hF, h5, tk5, rfl, hk5⟩ := h5
      refine seg_at (seg_yield rfl rfl rfl ⟨⟨i, passing_here hlt hz, hF⟩, hs4.step fun b o _ _ e => hk5 b o e, fun u al => ?_⟩)
      exact seg_again rfl (ih (i + 1) u u _ (by omega) hlt ((W A hA).frame _ _ _ st4 fun b hb o e => al b (List.mem_cons_of_mem _ hb) o (hk5 b o e)) ((hn4.keeps hk5).at' fun o e => al _ (List.mem_cons_self ..) o e) (GenSince.refl _ _ _) fun b hb nw o e => al b (List.mem_cons_of_mem _ hb) o (hk5 b o (hk4 b o (hkp3 b hb nw o e))))
theorem startX {elt iter : Expr} {es : List Expr} {pt : Pos} {kt : Nat} {ifs : List Expr} {scope : Scope} {pos : Pos} {J : Addr} {fp wr : List Addr} {n : Nat} {Pt : Nat → Array Value → Prop} {Bd : Nat → (Str → Option Value) → Prop} {St : Nat → Heap → Prop} {Mid : Nat → Addr → Heap → Prop} {ce : Env}
    (hA : A.handled = none) (W : ∀ B : Around, B.handled = none → WalksU prog w B J fp wr n Pt St Mid) (pz : Nat → Bool) (F : Nat → Value → Prop) (h0 : Heap) (hst : Stores prog w ce es kt pt Pt Bd)
    (hc : ce.scope.isCoroutine = false) (hloc : ce.locals ∉ fp) (hq : Quiet prog w ce ifs elt fp wr Bd pz F h0) (t0 s : Shared) (m : Str → Option Value) (st : St 0 s.heap) (hn : s.heap.Ns ce.locals m) (hs : GenSince ce.locals wr t0 s) (hkp : ∀ b ∈ fp, b ∉ wr → ∀ o, h0.get? b = some o → s.heap.get? b = some o) :
    Seg (model prog w) A (fun c t1 r t2 => r = .ok .next ∧ (c = 0 ∧ GenSince ce.locals wr t1 t2)) (genProto ce.locals fp wr pz n F) (passing pz n 0).length t0 (.compStart (gE elt iter es kt pt ifs scope pos) 0 (.ref J) .none ce) ((model prog w).den (.compStart (gE elt iter es kt pt ifs scope pos) 0 (.ref J) .none ce)) [] s := by
  have hA2 : (A.over (.compStart (gE elt iter es kt pt ifs scope pos) 0 (.ref J) .none ce) []).handled = none := hA
  have lp := loopX (iter := iter) (pt := pt) (kt := kt) (scope := scope) (pos := pos) hA W pz F h0 hst hc hloc hq n 0 t0 s m (Nat.sub_zero _) (Nat.zero_le _) st hn hs hkp
  show Seg _ A _ _ _ t0 _ ((compStart (gE elt iter es kt pt ifs scope pos) 0 (.ref J) .none ce).onRaise (leaving ce)) [] s
  unfold compStart
  rw [Sem.onRaise_eq_wrap]
  show Seg _ A _ _ _ t0 _ ((ask >>= _).wrap _ _ _ _) [] s
  refine seg_bind_wrap (wpAny_askSetting ?_)
  split
  · exact seg_again rfl lp
  · first
      | exact seg_bind_wrap (wpAny_rule (seg_bind_wrap (wpAny_standAt (seg_bind_wrap ((W _ hA2).self 0 s _ _ st (seg_again rfl lp))))))
      | (refine seg_bind_wrap (wpAny_rule ?_)
         show Seg _ A _ _ _ t0 _ ((standAt iter.pos >>= _).wrap _ _ _ _) [] s
         exact seg_bind_wrap (wpAny_standAt (seg_bind_wrap ((W _ hA2).self 0 s _ _ st (seg_again rfl lp)))))
theorem freshX {elt iter : Expr} {es : List Expr} {pt : Pos} {kt : Nat} {ifs : List Expr} {scope : Scope} {pos : Pos} {J a : Addr} {g : Nat} {fp wr : List Addr} {n : Nat} {Pt : Nat → Array Value → Prop} {Bd : Nat → (Str → Option Value) → Prop} {St : Nat → Heap → Prop} {Mid : Nat → Addr → Heap → Prop} {ce : Env}
    (hA : A.handled = none) (W : ∀ B : Around, B.handled = none → WalksU prog w B J fp wr n Pt St Mid) (pz : Nat → Bool) (F : Nat → Value → Prop) (hst : Stores prog w ce es kt pt Pt Bd) (hc : ce.scope.isCoroutine = false) (hloc : ce.locals ∉ fp) {s : Shared} {m : Str → Option Value} (hq : Quiet prog w ce ifs elt fp wr Bd pz F s.heap)
    (hg : s.heap.IsGen a g) (hgs : s.gens[g]? = some (.fresh (.compStart (gE elt iter es kt pt ifs scope pos) 0 (.ref J) .none ce))) (st : St 0 s.heap) (hn : s.heap.Ns ce.locals m) (hl : s.heap.NoLimit) : GenAt prog w A a g ce.locals fp wr pz n F 0 s :=
  ⟨hg, hl, _, hgs, fun u al => ⟨rfl, startX (A := A.in1) hA W pz F s.heap hst hc hloc hq u u m ((W A hA).frame _ _ _ st fun b hb o e => al b (List.mem_cons_of_mem _ hb) o e) (hn.at' fun o e => al _ (List.mem_cons_self ..) o e) (GenSince.refl _ _ _) fun b hb _ o e => al b (List.mem_cons_of_mem _ hb) o e⟩⟩
theorem evalX {E : Value → Shared → Prop} {s : Shared} {env : Env} {elt iter : Expr} {es : List Expr} {pt : Pos} {kt : Nat} {ifs : List Expr} {scope : Scope} {cl : List (Str × Addr)} {pos : Pos} {Q : Value → Shared → Prop}
    (hA : A.handled = none) (hc : scope.isCoroutine = false) (hcl : closureFor scope env = pure cl) (hce : ∀ y ∈ scope.names, y.2 ≠ .cell) (hdot : scope.names.lookup (".0" : Str) = some NameKind.local) (hk : scope.kind = .function) (hr : A.depth < recursionLimit)
    (h : wpAny (model prog w) A (eval iter env) (fun xv s1 => wpAny (model prog w) A (pyIter xv) (fun it s2 => s2.heap.NoLimit ∧ wpAny (model prog w) A (genexprCode env pos (env.qual ++ "<genexpr>") scope) (fun code s3 => wpAny (model prog w) A (builtinsFor env.globals env.builtins) (fun bi s4 =>
        ∃ J fp wr n Pt Bd St Mid pz F, it = .ref J ∧ (∀ B : Around, B.handled = none → WalksU prog w B J fp wr n Pt St Mid) ∧ Stores prog w (genEnv scope cl s4.heap.objs.size code bi env) es kt pt Pt Bd ∧ St 0 s4.heap ∧ (∀ b ∈ fp, b < s4.heap.objs.size) ∧ s4.heap.NoLimit ∧ cStatics ∉ wr ∧
          (∀ hx : Heap, (∀ b o, s4.heap.get? b = some o → hx.get? b = some o) → Quiet prog w (genEnv scope cl s4.heap.objs.size code bi env) ifs elt (List.range s4.heap.objs.size) wr Bd pz F hx) ∧
          (∀ a h5 tk gs, gs.bare = true → s4.heap.objs.size < a → h5.objs.size = a + 1 → (∀ b o, s4.heap.get? b = some o → h5.get? b = some o) →
            WalksS prog w A.in4 a (a :: s4.heap.objs.size :: List.range s4.heap.objs.size) (s4.heap.objs.size :: wr) (GenOnlyQ s4.gens.size) (passing pz n 0).length (fun j y => ∃ i, (passing pz n 0)[j]? = some i ∧ F i y) (GenAt prog w A.in4 a s4.gens.size s4.heap.objs.size (List.range s4.heap.objs.size) wr pz n F) →
            GenAt prog w A.in4 a s4.gens.size s4.heap.objs.size (List.range s4.heap.objs.size) wr pz n F 0 { s4 with gens := s4.gens.push gs, toks := tk, heap := h5 } → Q (.ref a) { s4 with gens := s4.gens.push gs, toks := tk, heap := h5 })) E s3) E s2) E s1) E s)
    (hf : ∀ x, genFold iter env x = pure x) : wpAny (model prog w) A (eval (gE elt iter es kt pt ifs scope pos) env) Q E s := by
  refine wpAny_GeneratorExp_make hc hcl hce hdot hk hr (wpAny_mono h (fun xv s1 h1 => wpAny_mono h1 (fun it s2 h2 => ⟨h2.1, wpAny_mono h2.2 (fun code s3 h3 => wpAny_mono h3 (fun bi s4 h4 => ?_) fun _ _ e => e) fun _ _ e => e⟩) fun _ _ e => e) fun _ _ e => e) hf
  obtain ⟨J, fp, wr, n, Pt, Bd, St, Mid, pz, F, rfl, W, hst, st, hfp, hl4, hcw, hq, hQ⟩ := h4
  have clt : cStatics < s4.heap.objs.size := let ⟨_, z, _⟩ := hl4; z.lt
  intro h' hn' hs'
  have z' : h'.objs.size = s4.heap.objs.size + 1 := by rw [hs'.1, Heap.size_push]
  have kp : ∀ b o, s4.heap.get? b = some o → h'.get? b = some o := fun b o e => hs'.extBut b o (Nat.ne_of_lt (Heap.lt_size e)) (Heap.get?_push_of_some _ e)
  have sub : ∀ b ∈ wr, b ∈ List.range s4.heap.objs.size := fun b hb => List.mem_range.mpr (hfp b ((W A hA).sub b hb))
  have n1 : h'.objs.size ≠ s4.heap.objs.size := by rw [z']; exact Nat.succ_ne_self _
  have n2 : h'.objs.size ∉ List.range s4.heap.objs.size := fun z => by have := List.mem_range.mp z; omega
  have kp5 : ∀ b o, s4.heap.get? b = some o → (h'.push { cls := .type "generator", data := .fields #[.int s4.gens.size 0, .str "<genexpr>" (s4.toks + 1), .str (env.qual ++ "<genexpr>") (s4.toks + 1 + 1)] }).get? b = some o := fun b o e => Heap.get?_push_of_some _ (kp b o e)
  refine hQ _ _ _ _ rfl (by omega) (by rw [Heap.size_push]) kp5 (WalksS.genexpQ (A := A.in4) hA _ _ _ _ wr pz n F n1 n2 sub hr (List.mem_range.mpr clt) (Nat.ne_of_lt clt) hcw) ?_
  exact freshX (A := A.in4) (ce := genEnv scope cl s4.heap.objs.size code bi env) (m := fun y => if y = ".0" then some (.ref J) else none) hA (fun B hB => (W B hB).mono_fp fun b hb => List.mem_range.mpr (hfp b hb)) pz F hst hc (fun z => Nat.lt_irrefl _ (List.mem_range.mp z)) (hq _ kp5) ⟨_, _, _, Heap.get?_push_size _ rfl, rfl, rfl, rfl⟩ (Array.getElem?_push_size ..) ((W A hA).frame _ _ _ st fun b _ o e => kp5 b o e) (hn'.push _) (hl4.keeps kp5)
end
/-! ### over tuples of any size -/
structure GenN (env : Env) (scope : Scope) : Prop where
  kind : scope.kind = .function
  co : scope.isCoroutine = false
  cell : ∀ y ∈ scope.names, y.2 ≠ .cell
  dot : scope.names.lookup (".0" : Str) = some NameKind.local
  free : ∀ y ∈ scope.names, y.2 = .free → ∃ c, env.cells.lookup y.1 = some c
section
variable {X : Cx} {pins : List (Addr × Obj)} {σ : L2.St} {H : Hp} {s : Shared}
def EltX (X : Cx) (scope : Scope) (elt : Expr) (P : Addr) (h : Heap) (Bd : Nat → (Str → Option Value) → Prop) (F : Nat → Value → Prop) : Prop :=
  ∀ (C : Addr) (code : Value) (A1 : Around) (E1 : Value → Shared → Prop) (i : Nat) (t : Shared) (m : Str → Option Value), A1.handled = none → Bd i m → t.heap.Ns C m →
    (∀ b o, b ≠ P → h.get? b = some o → t.heap.get? b = some o) → wpAny (model X.prog X.w) A1 (eval elt (genEnv scope (cloFrom X.env.cells scope.names []) C code builtinsNs X.env)) (fun y t' => F i y ∧ Keeps t t') E1 t
theorem gen_tgt {c P : Addr} {elt iter : Expr} {es : List Expr} {qt gpos : Pos} {kt : Nat} {scope : Scope} {te : TE} {k : Nat} {Q' : Value → Shared → Prop} (hr : Room k X.A) (TB : TabB X.base X.mg c P) (hcode : X.env.code = .ref c) (S : GenN X.env scope) (hi : PE X iter te) (hs : ∀ v, genFold iter X.env v = pure v) (I : Inv X pins σ H s) {R : VK} (h : te σ H R)
    (hR : ∀ v H1, R v H1 → TabG H1 P ∧ ∀ (s1 : Shared) (xv : Value), Inv X pins σ H1 s1 → RelV v xv → ∃ (n : Nat) (Pt : Nat → Array Value → Prop) (Bd : Nat → (Str → Option Value) → Prop) (F : Nat → Value → Prop), WalkP X.prog X.w s1.heap P xv n Pt ∧ (∀ C code bi, Stores X.prog X.w (genEnv scope (cloFrom X.env.cells scope.names []) C code bi X.env) es kt qt Pt Bd) ∧ EltX X scope elt P s1.heap Bd F ∧ ∀ g t, RdyG X pins σ H1 P n F g t → Q' (.ref g) t) :
    wpAny (model X.prog X.w) X.A (eval (gE elt iter es kt qt [] scope gpos) X.env) Q' X.xe s := by
  refine evalX hr.hd S.co (closure_ok S.free) S.cell S.dot S.kind (by have d := hr.dp; omega) ?_ hs
  refine thn (hi.run pins s σ H _ I h) fun xv s1 ⟨v, H1, I1, rel, all1⟩ => ?_
  obtain ⟨⟨ps, tabH, trip⟩, rest⟩ := hR v H1 all1
  obtain ⟨n, Pt, Bd, F, walk, sto, hel, fin⟩ := rest s1 xv I1 rel
  refine walk _ _ _ _ rfl fun ob fp St Mid W st0 hfp => ?_
  have tab1 : s1.heap.get? P = some { cls := .none, data := .fields ps } := I1.hok P _ tabH
  have Plt : P < s1.heap.objs.size := Heap.lt_size tab1
  have tab2 : (s1.heap.push ob).get? P = some { cls := .none, data := .fields ps } := Heap.get?_push_of_some _ tab1
  have hd2 : PySem.W.CodeHd (s1.heap.push ob) c P := TB.code.keeps fun b u q => Heap.get?_push_of_some _ (I1.bk b u q)
  have lim2 : (s1.heap.push ob).NoLimit := I1.nolimit.push ob
  have size2 : (s1.heap.push ob).objs.size = s1.heap.objs.size + 1 := Heap.size_push ..
  refine ⟨lim2, ?_⟩
  have go : ∀ (code : Value) (h3 : Heap) (tk : Nat) (qs : Array Value), Heap.ExtBut P (s1.heap.push ob) h3 → s1.heap.objs.size + 1 ≤ h3.objs.size → h3.get? P = some { cls := .none, data := .fields qs } → (∃ more, qs = ps ++ more) → TriplesOk qs.toList →
      wpAny (model X.prog X.w) X.A (builtinsFor X.env.globals X.env.builtins) (fun bi s4 =>
        ∃ J fp wr n Pt Bd St Mid pz F, Value.ref s1.heap.objs.size = .ref J ∧ (∀ B : Around, B.handled = none → WalksU X.prog X.w B J fp wr n Pt St Mid) ∧ Stores X.prog X.w (genEnv scope (cloFrom X.env.cells scope.names []) s4.heap.objs.size code bi X.env) es kt qt Pt Bd ∧ St 0 s4.heap ∧ (∀ b ∈ fp, b < s4.heap.objs.size) ∧ s4.heap.NoLimit ∧ cStatics ∉ wr ∧
          (∀ hx : Heap, (∀ b o, s4.heap.get? b = some o → hx.get? b = some o) → Quiet X.prog X.w (genEnv scope (cloFrom X.env.cells scope.names []) s4.heap.objs.size code bi X.env) [] elt (List.range s4.heap.objs.size) wr Bd pz F hx) ∧
          (∀ a h5 tk gs, gs.bare = true → s4.heap.objs.size < a → h5.objs.size = a + 1 → (∀ b o, s4.heap.get? b = some o → h5.get? b = some o) →
            WalksS X.prog X.w X.A.in4 a (a :: s4.heap.objs.size :: List.range s4.heap.objs.size) (s4.heap.objs.size :: wr) (GenOnlyQ s4.gens.size) (passing pz n 0).length (fun j y => ∃ i, (passing pz n 0)[j]? = some i ∧ F i y) (GenAt X.prog X.w X.A.in4 a s4.gens.size s4.heap.objs.size (List.range s4.heap.objs.size) wr pz n F) →
            GenAt X.prog X.w X.A.in4 a s4.gens.size s4.heap.objs.size (List.range s4.heap.objs.size) wr pz n F 0 { s4 with gens := s4.gens.push gs, toks := tk, heap := h5 } → Q' (.ref a) { s4 with gens := s4.gens.push gs, toks := tk, heap := h5 })) X.xe { s1 with heap := h3, toks := tk } := by
    intro code h3 tk qs ext le3 tab3 grown trip3
    obtain ⟨bm, bo, z1, z2, z3, z4, z5, z6, z7, z8⟩ := TB.bm
    have statP : cStatics ≠ P := fun q => by
      obtain ⟨_, hns, _⟩ := I1.nolimit
      obtain ⟨o', es', ep, ho, hd, _⟩ := hns
      rw [q, tab1] at ho
      cases ho
      cases hd
    have statLt : cStatics < s1.heap.objs.size := by
      obtain ⟨_, hns, _⟩ := I1.nolimit
      exact hns.lt
    have keep3 : ∀ b u, b ≠ P → s1.heap.get? b = some u → h3.get? b = some u := fun b u nb q => ext b u nb (Heap.get?_push_of_some _ q)
    refine wpAny_builtinsFor (m := X.mg) (by rw [I1.ok.glob]; exact ((I1.mod.glob.keeps I1.bk).push ob).extBut ext TB.gP) z1 z2 (keep3 _ _ z4 (I1.bk _ _ z5)) z6 z7 z8 ?_
    refine ⟨s1.heap.objs.size, fp, [s1.heap.objs.size], n, Pt, Bd, St, Mid, (fun _ => true), F, rfl, W, sto _ _ _, ?_, fun b hb => ?_, lim2.extBut ext statP, fun q => ?_, fun hx keepx => ?_, ?_⟩
    · exact (W X.A hr.hd).frame _ _ _ st0 fun b hb u q => ext b u (hfp b hb).1 q
    · exact Nat.lt_of_lt_of_le (Nat.lt_succ_of_le (hfp b hb).2) le3
    · rw [List.mem_singleton] at q
      exact Nat.ne_of_lt statLt q
    · refine ⟨fun A1 E1 i t m hA hn hB hk => ?_, fun A1 E1 i t m hA hp hn hB hk => ?_⟩
      · simp only [List.forIn_nil]
        exact wpAny_pure ⟨rfl, keeps_refl _⟩
      · refine hel _ _ A1 E1 i t m hA hB hn fun b o nb q => ?_
        have b1 : b < s1.heap.objs.size := Heap.lt_size q
        refine hk b (List.mem_range.mpr (Nat.lt_of_lt_of_le (Nat.lt_succ_of_lt b1) le3)) (fun q' => ?_) o (keepx b o (keep3 b o nb q))
        rw [List.mem_singleton] at q'
        exact Nat.ne_of_lt b1 q'
    · intro a h5 tk5 gs bare agt size5 keep5 W5 at5
      have pt : passing (fun _ => true) n 0 = List.range n := passing_true n
      have W6 := W5.in4_1
      rw [pt, List.length_range] at W6
      refine fin a _ ⟨_, _, _, _, _, W6, fun j y hy => ?_, at5, fun b hb => ?_, fun t' mv => ?_⟩
      · obtain ⟨i, hi', hF⟩ := hy
        obtain ⟨hj, ej⟩ := List.getElem?_eq_some_iff.mp hi'
        rw [List.getElem_range] at ej
        subst ej
        exact hF
      · have agt' : h3.objs.size < h5.objs.size := by
          rw [size5]
          exact Nat.lt_succ_of_lt agt
        simp only [List.mem_cons, List.mem_range] at hb
        rcases hb with rfl | rfl | hb
        · rw [size5]
          exact Nat.lt_succ_self _
        · exact agt'
        · exact Nat.lt_trans hb agt'
      · obtain ⟨more, em⟩ := grown
        have apart : ∀ b u, s1.heap.get? b = some u → b ∉ h3.objs.size :: [s1.heap.objs.size] := fun b u q hb => by
          have b1 : b < s1.heap.objs.size := Heap.lt_size q
          simp only [List.mem_cons, List.not_mem_nil, or_false] at hb
          rcases hb with e | e
          · exact Nat.ne_of_lt (Nat.lt_of_lt_of_le (Nat.lt_succ_of_lt b1) le3) e
          · exact Nat.ne_of_lt b1 e
        have J := inv_tab (more := more) (h' := t'.heap) (g' := t'.gens) (d' := t'.drawn) (t' := t'.toks) I1 tabH (fun b u nb q => mv.heap b u (apart b u q) (keep5 b u (keep3 b u nb q)))
          (by rw [← em]; exact mv.heap P _ (apart P _ tab1) (keep5 P _ tab3)) (AllBare.movedS (I1.bare.push bare) mv)
        rw [sh_eta s1 t' mv.os] at J
        exact ⟨L2.upd H1 P (.tbl (ps ++ more)), ⟨⟨ps ++ more, upd_same, by rw [← em]; exact trip3⟩, fun b nb => upd_ne nb⟩, J⟩
  cases among : codeAmong gpos ps.toList with
  | none =>
    refine wpAny_genexprCodeX hcode (hd2.code tab2 trip) (hd2.tab tab2) among fun c' h' tk ext ge lt co _ tab' _ => ?_
    obtain ⟨_, _, _, _, _, _, _, _, _, _, _, _, _, _, _, _, _, _, _, tr, _⟩ := co
    exact go _ h' tk _ ext (by have ge' := ge; rw [size2] at ge'; exact Nat.le_trans ge' (Nat.le_of_lt lt)) tab'.2 ⟨_, rfl⟩ tr
  | some cv =>
    refine wpAny_genexprCode_hit hcode (hd2.code tab2 trip) among ?_
    exact go cv (s1.heap.push ob) s1.toks ps (Heap.ExtBut.refl _ _) (Nat.le_of_eq size2.symm) tab2 ⟨#[], by simp⟩ trip
/-- tuples of m values at the items of xs -/
def TrB (K : PySem.W.Frag) (H : Hp) (xs : List V) (tp : Nat → List V) : Prop := ∀ i x, xs[i]? = some x → ∃ t, x = .ref t ∧ SqT K H t (tp i)
theorem walk_tr {H1 : Hp} {s1 : Shared} {P a : Addr} {ps : Array Value} {xs : List V} {tp : Nat → List V} (I : Inv X pins σ H1 s1) (hP : H1 P = some (.tbl ps)) (h : SqB X.K H1 a xs) (hpr : TrB X.K H1 xs tp) :
    ∃ vals : Nat → List Value, (∀ i, i < xs.length → Vals (tp i) (vals i)) ∧ WalkP X.prog X.w s1.heap P (.ref a) xs.length (fun i v => i < xs.length ∧ v = (vals i).toArray) := by
  have tab1 : s1.heap.get? P = some { cls := .none, data := .fields ps } := I.hok P _ hP
  have Plt : P < s1.heap.objs.size := Heap.lt_size tab1
  have ne : ∀ {b : Addr} {o : Obj} {T : String}, s1.heap.get? b = some o → o.cls = .type T → b ≠ P := fun {b o T} e c z => by
    rw [z, tab1] at e
    cases e
    cases c
  have each : ∀ i, ∃ q : Addr × List Value, i < xs.length → xs[i]? = some (.ref q.1) ∧ s1.heap.IsTuple q.1 q.2.toArray ∧ Vals (tp i) q.2 := fun i => by
    by_cases hi : i < xs.length
    · obtain ⟨t, e, sq⟩ := hpr i _ (List.getElem?_eq_getElem hi)
      obtain ⟨its, r, tp', _⟩ := I.tuple sq
      exact ⟨(t, its), fun _ => ⟨by rw [List.getElem?_eq_getElem hi, e], tp', r⟩⟩
    · exact ⟨(0, []), fun z => absurd z hi⟩
  obtain ⟨f, hf⟩ := Classical.skolem.mp each
  refine ⟨fun i => (f i).2, fun i hi => (hf i hi).2.2, ?_⟩
  have fin : ∀ (its : List Value), Vals xs its → (∀ j, j < its.toArray.size → its.toArray[j]? = some (.ref (f j).1)) ∧ its.toArray.size = xs.length := fun its r => by
    have len := r.length
    refine ⟨fun j hj => ?_, by simp [len]⟩
    have hj' : j < xs.length := by rw [len]; simpa using hj
    obtain ⟨u, eu, ru⟩ := r.get (hf j hj').1
    cases ru
    rw [List.getElem?_toArray]
    exact eu
  have lt : ∀ j, j < xs.length → (f j).1 < s1.heap.objs.size := fun j hj => by
    obtain ⟨o, e, _⟩ := (hf j hj).2.1
    exact Heap.lt_size e
  have nP : ∀ j, j < xs.length → (f j).1 ≠ P := fun j hj => by
    obtain ⟨o, e, c, _⟩ := (hf j hj).2.1
    exact ne e c
  have foot : ∀ {a : Addr}, a < s1.heap.objs.size → a ≠ P → ∀ {n : Nat}, n = xs.length → ∀ b ∈ s1.heap.objs.size :: a :: (List.range n).map (fun j => (f j).1), b ≠ P ∧ b ≤ s1.heap.objs.size := fun {a} la na {n} en b hb => by
    subst en
    rcases List.mem_cons.mp hb with rfl | hb
    · exact ⟨(Nat.ne_of_lt Plt).symm, Nat.le_refl _⟩
    · rcases List.mem_cons.mp hb with rfl | hb
      · exact ⟨na, Nat.le_of_lt la⟩
      · obtain ⟨j, hj, rfl⟩ := List.mem_map.mp hb
        have hj' := List.mem_range.mp hj
        exact ⟨nP j hj', Nat.le_of_lt (lt j hj')⟩
  rcases h with h | h
  · obtain ⟨its, r, pl, _⟩ := I.list h
    obtain ⟨o, e, c, q⟩ := pl.isList
    obtain ⟨at_, sz⟩ := fin its r
    intro A E s Q es k
    obtain ⟨hp, gs, dr, tk, os⟩ := s
    replace es : hp = s1.heap := es
    subst es
    have la : a < s1.heap.objs.size := Heap.lt_size e
    refine wpAny_pyIter_list ⟨o, e, c, q⟩ (k _ _ _ _ (fun A' hA => walkU_n (WalksU.listOfTuples (prog := X.prog) (w := X.w) hA s1.heap.objs.size a (Nat.ne_of_lt la) its.toArray (fun j => (f j).1) (fun j => (f j).2.toArray) at_ (fun j hj => Nat.ne_of_lt (lt j (by rw [← sz]; exact hj)))) sz) ?_ (foot la (ne e c) sz))
    exact ⟨⟨_, Heap.get?_push_size _ rfl, rfl, rfl⟩, Heap.IsList.push ⟨o, e, c, q⟩ _, fun j hj => (hf j (by rw [← sz]; exact hj)).2.1.push _⟩
  · obtain ⟨its, r, tp', _⟩ := I.tuple h
    obtain ⟨o, e, c, q⟩ := tp'
    obtain ⟨at_, sz⟩ := fin its r
    intro A E s Q es k
    obtain ⟨hp, gs, dr, tk, os⟩ := s
    replace es : hp = s1.heap := es
    subst es
    have la : a < s1.heap.objs.size := Heap.lt_size e
    refine wpAny_pyIter_tuple ⟨o, e, c, q⟩ (k _ _ _ _ (fun A' hA => walkU_n (walkU_tuple (prog := X.prog) (w := X.w) hA s1.heap.objs.size a (Nat.ne_of_lt la) its.toArray (fun j => (f j).1) (fun j => (f j).2.toArray) at_ (fun j hj => Nat.ne_of_lt (lt j (by rw [← sz]; exact hj)))) sz) ?_ (foot la (ne e c) sz))
    exact ⟨⟨_, Heap.get?_push_size _ rfl, rfl, rfl⟩, Heap.IsTuple.push ⟨o, e, c, q⟩ _, fun j hj => (hf j (by rw [← sz]; exact hj)).2.1.push _⟩
/-- the names ns hold the values of the item -/
def Named (ns : List Str) (n : Nat) (vals : Nat → List Value) (i : Nat) (m : Str → Option Value) : Prop := i < n ∧ ∀ (j : Nat) (x : Str), ns[j]? = some x → m x = (vals i)[j]?
theorem elt_named {scope : Scope} {ns : List Str} {elt : Expr} {rd : QT} (he : QE X scope ns elt rd) {H1 : Hp} {s1 : Shared} {P : Addr} {ps : Array Value} (I : Inv X pins σ H1 s1) (hP : H1 P = some (.tbl ps)) {n : Nat} {tp : Nat → List V} {vals : Nat → List Value}
    (hv : ∀ i, i < n → Vals (tp i) (vals i)) {g : Nat → V} (h : ∀ i, i < n → rd (tp i) σ H1 fun y => y = g i) : EltX X scope elt P s1.heap (Named ns n vals) (fun i y => i < n ∧ RelV (g i) y) := by
  intro C code A1 E1 i t m hA hB hn hk
  refine wpAny_mono (he.run I hP hA hn (hv i hB.1) hB.2 hk _ (h i hB.1)) (fun y t' q => ?_) fun _ _ z => z
  obtain ⟨⟨v', r', rfl⟩, kk⟩ := q
  exact ⟨⟨hB.1, r'⟩, kk⟩
theorem stores3 {scope : Scope} {cl : List (Str × Addr)} {C : Addr} {code : Value} {bi : Addr} {env : Env} {xa xb xc : Str} {qa qb qc qt : Pos} {kt n : Nat} {vals : Nat → List Value} (hk : scope.kind = .function) (ha : scope.names.lookup xa = some .local) (hb : scope.names.lookup xb = some .local) (hc : scope.names.lookup xc = some .local) (ab : xa ≠ xb) (ac : xa ≠ xc) (bc : xb ≠ xc) (h3 : ∀ i, i < n → (vals i).length = 3) {prog : Program} {w : World} :
    Stores prog w (genEnv scope cl C code bi env) [.Name xa qa, .Name xb qb, .Name xc qc] kt qt (fun i v => i < n ∧ v = (vals i).toArray) (Named [xa, xb, xc] n vals) := by
  rintro A1 E1 i T v s m Q hA ⟨li, rfl⟩ hT hn k
  have l3 := h3 i li
  obtain ⟨ua, ub, uc, e⟩ : ∃ ua ub uc, vals i = [ua, ub, uc] := by
    match vals i, l3 with
    | [a, b, c], _ => exact ⟨a, b, c, rfl⟩
  rw [e] at hT
  have hp : ((genEnv scope cl C code bi env).scope.kind == .class || ((genEnv scope cl C code bi env).scope.kind == .module && (genEnv scope cl C code bi env).locals != (genEnv scope cl C code bi env).globals)) = false := by simp [genEnv, hk]
  refine wpAny_assign_Tuple hA hT rfl rfl fun h1 hx => ?_
  replace hx : Heap.ExtBut s.heap.objs.size s.heap h1 := hx
  have old : ∀ b o, s.heap.get? b = some o → h1.get? b = some o := fun b o e => hx b o (Nat.ne_of_lt (Heap.lt_size e)) e
  show wpAny _ _ (do holding [ub, uc] (assign (.Name xa qa) (genEnv scope cl C code bi env) ua); do holding [uc] (assign (.Name xb qb) (genEnv scope cl C code bi env) ub); do holding [] (assign (.Name xc qc) (genEnv scope cl C code bi env) uc); pure ()) _ _ _
  refine wpAny_bind (wpAny_holding (wpAny_assign_Name (wpAny_storeName_local ha (hn.at' fun o e => old _ o e) (fun h2 hn2 hs2 => ?_) hp)))
  replace hs2 : Heap.SameBut C h1 h2 := hs2
  refine wpAny_bind (wpAny_holding (wpAny_assign_Name (wpAny_storeName_local hb hn2 (fun h3 hn3 hs3 => ?_) hp)))
  replace hs3 : Heap.SameBut C h2 h3 := hs3
  refine wpAny_bind (wpAny_holding (wpAny_assign_Name (wpAny_storeName_local hc hn3 (fun h4 hn4 hs4 => wpAny_pure ?_) hp)))
  replace hs4 : Heap.SameBut C h3 h4 := hs4
  refine k h4 _ _ hn4 ⟨li, fun j x hj => ?_⟩ fun b o nb q => hs4.extBut b o nb (hs3.extBut b o nb (hs2.extBut b o nb (old b o q)))
  rw [e]
  match j, hj with
  | 0, hj => cases hj; simp [ab, ac]
  | 1, hj => cases hj; simp [bc]
  | 2, hj => cases hj; simp
  | j + 3, hj => cases hj
/-- as tGen, over tuples -/
def tGenT (P : Addr) (K : PySem.W.Frag) (rd : QT) (res : List V → (Nat → V) → (V → Prop) → Prop) (te : TE) : TE := fun σ H Q => te σ H fun v H1 => TabG H1 P ∧ ∃ (a : Addr) (xs : List V) (tp : Nat → List V) (g : Nat → V), v = .ref a ∧ SqB K H1 a xs ∧ TrB K H1 xs tp ∧ (∀ i, i < xs.length → (tp i).length = 3) ∧
  (∀ i, i < xs.length → rd (tp i) σ H1 fun y => y = g i) ∧ res xs g fun r => ∀ H2, Tabbed P H1 H2 → Q r H2
theorem pe_genT {fn : String} {res : List V → (Nat → V) → (V → Prop) → Prop} {n : Str} {c P : Addr} {elt iter : Expr} {xa xb xc : Str} {qa qb qc qt p pos gpos : Pos} {kt : Nat} {scope : Scope} {rd : QT} {te : TE} {k : Nat} (hf : Eats X fn res)
    (hr : Room k X.A) (hg : Gl X n) (hm : X.mg n = none) (hb : bootBuiltins n = some (.builtin fn)) (TB : TabB X.base X.mg c P) (hcode : X.env.code = .ref c) (S : GenN X.env scope) (la : scope.names.lookup xa = some .local) (lb : scope.names.lookup xb = some .local) (lc : scope.names.lookup xc = some .local) (ab : xa ≠ xb) (ac : xa ≠ xc) (bc : xb ≠ xc) (hi : PE X iter te) (hel : QE X scope [xa, xb, xc] elt rd)
    (hs : ∀ v, genFold iter X.env v = pure v) (hn : n ≠ "__name__" := by decide) (hdb : (n == ("__debug__" : Str)) = false := by decide)
    (he : starEach [gE elt iter [.Name xa qa, .Name xb qb, .Name xc qc] kt qt [] scope gpos] X.env = (false, eval (gE elt iter [.Name xa qa, .Name xb qb, .Name xc qc] kt qt [] scope gpos) X.env) :: starEach [] X.env := by rfl) :
    PE X (.Call (.Name n p) [gE elt iter [.Name xa qa, .Name xb qb, .Name xc qc] kt qt [] scope gpos] [] pos) (tGenT P X.K rd res te) := by
  refine ⟨fun pins s σ H Q I h => ?_⟩
  refine wpAny_Call_Name_kw (ld_blt I hg hm hb ?_ hn hdb)
  refine PyProof.Rows.callWith_builtin1 ?_ he (by rfl)
  rw [he]
  refine Calls.spliced_cons (gen_tgt hr TB hcode S hi hs I h fun v H1 all1 => ?_)
  obtain ⟨⟨ps, hP, trip⟩, a, xs, tp, g, rfl, sq, hpr, l3, els, rz⟩ := all1
  refine ⟨⟨ps, hP, trip⟩, fun s1 xv I1 rel => ?_⟩
  cases rel
  obtain ⟨vals, hv, walk⟩ := walk_tr I1 hP sq hpr
  refine ⟨_, _, _, _, walk, fun C code bi => stores3 S.kind la lb lc ab ac bc fun i li => ?_, elt_named hel I1 hP hv els, fun ga t rdy => ?_⟩
  · rw [← (hv i li).length]; exact l3 i li
  obtain ⟨fp, wr, G, F', St, W, hF, st, bnd, fin⟩ := rdy
  refine Calls.spliced_nil ?_
  refine hf rz W hF st bnd fun r y t' hZ ry mv => ?_
  obtain ⟨H2, tb, J⟩ := fin t' mv
  exact ⟨r, H2, J, ry, hZ H2 tb⟩
theorem bi_sub : BinI X .Sub okAll (· - ·) := fun _ _ h => PySem.P.sub_int h
def okMul : Int → Int → Prop := fun i j => IntMulOk i j
theorem bi_mul : BinI X .Mult okMul (· * ·) := fun _ o h => PySem.P.mul_int h o
def qMax3 (ra rb rc : QT) : QT := fun vs σ H Q => ra vs σ H fun x => rb vs σ H fun y => rc vs σ H fun z => ∃ i j k, x = .int i ∧ y = .int j ∧ z = .int k ∧ Q (.int (if j > i then (if k > j then k else j) else (if k > i then k else i)))
theorem q_max3 {scope : Scope} {ns : List Str} {a b d : Expr} {ra rb rc : QT} {pos p : Pos} (hg : scope.names.lookup ("max" : Str) = some .globalImplicit) (hs : scope.kind = .function) (hm : X.mg "max" = none) (ha : QE X scope ns a ra) (hb : QE X scope ns b rb) (hd : QE X scope ns d rc)
    (he : ∀ env, starEach [a, b, d] env = (false, eval a env) :: starEach [b, d] env := by intro _; rfl) (he2 : ∀ env, starEach [b, d] env = [(false, eval b env), (false, eval d env)] := by intro _; rfl) : QE X scope ns (.Call (.Name "max" p) [a, b, d] [] pos) (qMax3 ra rb rc) := by
  refine ⟨fun {pins σ H1 s1} I {P ps} hP {C code A' E' t m vs us} hA hn hv hm' hk Q h => wpAny_Call_Name_kw ?_⟩
  have keep : ∀ b o, X.base.get? b = some o → t.heap.get? b = some o := fun b o z => hk b o (fun y => by
    have f := (I.bs _ o z).2
    rw [y, hP] at f
    cases f) (I.bk _ o z)
  obtain ⟨mb, b1, b2⟩ := I.mod.blt
  refine Calls.Name_function_global hs hg (Calls.loadGlobal_builtin (mg := X.mg) (mb := mb) ?_ hm ?_ ((b2 "max" (by decide)).trans (show bootBuiltins "max" = some (.builtin "max") by decide +kernel)) ?_) (by decide)
  · show Heap.Ns _ X.env.globals X.mg
    rw [I.ok.glob]
    exact I.mod.glob.keeps keep
  · exact b1.keeps keep
  refine PyProof.Rows.callWith_builtin1 ?_ (he _) (by rw [he2]; rfl)
  rw [he, he2]
  refine Calls.spliced_cons (wpAny_mono (ha.run I hP hA hn hv hm' hk _ h) (fun y t1 r => ?_) fun _ _ z => z)
  obtain ⟨⟨v, r1, q⟩, k1⟩ := r
  refine Calls.spliced_cons (q_then hb I hP hA hn hv hm' hk k1 q fun v2 y2 t2 r2 q2 k2 => ?_)
  refine Calls.spliced_cons (q_then hd I hP hA hn hv hm' hk k2 q2 fun v3 y3 t3 r3 q3 k3 => ?_)
  obtain ⟨i, j, l, rfl, rfl, rfl, q⟩ := q3
  obtain ⟨x1, rfl⟩ := r1
  obtain ⟨x2, rfl⟩ := r2
  obtain ⟨x3, rfl⟩ := r3
  refine Calls.spliced_nil (max_three_ints hA fun h' tk kp => ⟨⟨.int _, ?_, q⟩, kp_trans k3 ⟨h', tk, rfl, kp⟩⟩)
  by_cases u1 : j > i <;> by_cases u2 : l > j <;> by_cases u3 : l > i <;> simp only [u1, u2, u3, if_true, if_false] <;> exact ⟨_, rfl⟩
end
end Gn

namespace My
open PySem L2 GxR Gq Gn
section
variable {P : Program} {w : World} {K : PySem.W.Frag} {mg : Str → Option Value} {base : Heap}
def top (i : Nat) : Stmt := PySem.Challenge.pw_counthall_k38_middle_span.main.body.getD i (.Pass ⟨0, 0, 0, 0⟩)
abbrev s_middle_span : Stmt := top 1
abbrev s_cost : Stmt := top 2
abbrev s_law_source : Stmt := top 4
abbrev s_law_draw : Stmt := top 5
abbrev s_law_between : Stmt := top 6
abbrev s_law_whole : Stmt := top 7
abbrev s_law_estimates : Stmt := top 8
abbrev s_law_far : Stmt := top 9
abbrev s_law_moved : Stmt := top 10
abbrev s_law_marks : Stmt := top 11
abbrev s_law_cost : Stmt := top 12
abbrev s_law_bounds : Stmt := top 13
abbrev s_law_same : Stmt := top 14
abbrev s_law : Stmt := top 15
theorem sc_middle_span : FnScope ["estimates", "bounds", "low", "high", "weight", "middle"] ["estimates"] (defScope s_middle_span) := ⟨rfl, rfl, rfl, by decide +kernel, rfl, by decide +kernel, by decide +kernel⟩
theorem sc_cost : FnScope ["estimates", "value", "low", "high", "weight"] ["estimates", "value"] (defScope s_cost) := ⟨rfl, rfl, rfl, by decide +kernel, rfl, by decide +kernel, by decide +kernel⟩
theorem sc_law_source : FnScope ["_law_script", "_law_place"] ["_law_script", "_law_place"] (defScope s_law_source) := ⟨rfl, rfl, rfl, by decide +kernel, rfl, by decide +kernel, by decide +kernel⟩
theorem sc_law_draw : FnScope ["_law_source_here", "_law_size", "_law_cell", "_law_mixed"] ["_law_source_here", "_law_size"] (defScope s_law_draw) := ⟨rfl, rfl, rfl, by decide +kernel, rfl, by decide +kernel, by decide +kernel⟩
theorem sc_law_between : FnScope ["_law_source_here", "_law_least", "_law_most"] ["_law_source_here", "_law_least", "_law_most"] (defScope s_law_between) := ⟨rfl, rfl, rfl, by decide +kernel, rfl, by decide +kernel, by decide +kernel⟩
theorem sc_law_whole : FnScope ["_law_actual"] ["_law_actual"] (defScope s_law_whole) := ⟨rfl, rfl, rfl, by decide +kernel, rfl, by decide +kernel, by decide +kernel⟩
theorem sc_law_estimates : FnScope ["_law_source_here", "_law_count", "_law_most", "_law_found", "_law_index", "_law_shape", "_law_low", "_law_mass", "_law_other", "_law_wide"] ["_law_source_here", "_law_count", "_law_most"] (defScope s_law_estimates) := ⟨rfl, rfl, rfl, by decide +kernel, rfl, by decide +kernel, by decide +kernel⟩
theorem sc_law_far : FnScope ["_law_source_here", "_law_shape"] ["_law_source_here"] (defScope s_law_far) := ⟨rfl, rfl, rfl, by decide +kernel, rfl, by decide +kernel, by decide +kernel⟩
theorem sc_law_moved : FnScope ["_law_source_here", "_law_rows", "_law_shape", "_law_one", "_law_other", "_law_moves", "_law_moved_here", "_law_row", "_law_group"] ["_law_source_here", "_law_rows"] (defScope s_law_moved) := ⟨rfl, rfl, rfl, by decide +kernel, rfl, by decide +kernel, by decide +kernel⟩
theorem sc_law_marks : FnScope ["_law_rows", "_law_marks_here", "_law_row"] ["_law_rows"] (defScope s_law_marks) := ⟨rfl, rfl, rfl, by decide +kernel, rfl, by decide +kernel, by decide +kernel⟩
theorem sc_law_cost : FnScope ["_law_rows", "_law_value", "_law_row"] ["_law_rows", "_law_value"] (defScope s_law_cost) := ⟨rfl, rfl, rfl, by decide +kernel, rfl, by decide +kernel, by decide +kernel⟩
theorem sc_law_bounds : FnScope ["_law_rows", "_law_bounds_here", "_law_row"] ["_law_rows"] (defScope s_law_bounds) := ⟨rfl, rfl, rfl, by decide +kernel, rfl, by decide +kernel, by decide +kernel⟩
theorem sc_law_same : FnScope ["_law_told", "_law_due", "_law_part"] ["_law_told", "_law_due"] (defScope s_law_same) := ⟨rfl, rfl, rfl, by decide +kernel, rfl, by decide +kernel, by decide +kernel⟩
theorem sc_law : FnScope ["_law_script", "_law_shaped", "_law_count", "_law_most", "_law_rows", "_law_handed", "_law_bounds_here", "_law_low", "_law_high", "_law_least", "_law_turn", "_law_values", "_law_value", "_law_cost_here", "_law_move"] ["_law_script"] (defScope s_law) := ⟨rfl, rfl, rfl, by decide +kernel, rfl, by decide +kernel, by decide +kernel⟩
/-! ### sources and draws -/
/-- a source of draws: a list of two whole numbers -/
def Src (H : Hp) (a : Addr) : Prop := ∃ c p : Int, H a = some (.lst [.int c, .int p])
/-- the heap without the listed objects -/
def wo (S : List Addr) (H : Hp) : Hp := fun b => if b ∈ S then none else H b
theorem wo_out {S : List Addr} {H : Hp} {b : Addr} (h : b ∉ S) : wo S H b = H b := if_neg h
theorem wo_in {S : List Addr} {H : Hp} {b : Addr} (h : b ∈ S) : wo S H b = none := if_pos h
theorem wo_same (S : List Addr) (H : Hp) : Same (wo S H) H := fun b o e => by
  by_cases h : b ∈ S
  · rw [wo_in h] at e; cases e
  · rw [wo_out h] at e; exact e
theorem Same.wo {S : List Addr} {H H' : Hp} (s : Same H H') : Same (wo S H) (wo S H') := fun b o e => by
  by_cases h : b ∈ S
  · rw [wo_in h] at e; cases e
  · rw [wo_out h] at e ⊢; exact s b o e
/-- only the object at a may have changed -/
def But (a : Addr) (H H' : Hp) : Prop := ∀ b o, b ≠ a → H b = some o → H' b = some o
theorem But.wo {a : Addr} {S : List Addr} {H H' : Hp} (s : But a H H') (h : a ∈ S) : Same (wo S H) (wo S H') := fun b o e => by
  by_cases k : b ∈ S
  · rw [wo_in k] at e; cases e
  · rw [wo_out k] at e ⊢
    exact s b o (fun z => k (z ▸ h)) e
theorem But.upd {a : Addr} {o : HO} {H : Hp} : But a H (upd H a o) := fun b o e h => by rw [upd_ne e]; exact h
theorem But.trans {a : Addr} {H H1 H2 : Hp} (s : But a H H1) (t : But a H1 H2) : But a H H2 := fun b o e h => t b o e (s b o e h)
theorem But.refl (a : Addr) (H : Hp) : But a H H := fun _ _ _ h => h
theorem Same.but {a : Addr} {H H' : Hp} (s : Same H H') : But a H H' := fun b o _ h => s b o h
theorem Same.new {H : Hp} {p : Addr} {o : HO} (h : H p = none) : Same H (upd H p o) := fun b u e => by
  rw [upd_ne (ne_of_none e h)]; exact e
theorem But.new {a : Addr} {H : Hp} {p : Addr} {o : HO} (h : H p = none) : But a H (L2.upd H p o) := fun b u _ e => Same.new h b u e
theorem small6 {n : Nat} (h : n ≤ 100000) : n < sizeLine := Nat.lt_of_le_of_lt h (by decide)
theorem small6' {n : Nat} (h : n ≤ 100000) : n ≤ sizeLine := Nat.le_of_lt (small6 h)
theorem Src.at {H H' : Hp} {a b : Addr} (h : Src H a) (s : But b H H') (n : a ≠ b) : Src H' a := by
  obtain ⟨c, p, e⟩ := h
  exact ⟨c, p, s a _ n e⟩
theorem Src.same {H H' : Hp} {a : Addr} (h : Src H a) (s : Same H H') : Src H' a := by
  obtain ⟨c, p, e⟩ := h
  exact ⟨c, p, s a _ e⟩
theorem Src.ne {H : Hp} {a p : Addr} (h : Src H a) (n : H p = none) : p ≠ a := fun z => by
  obtain ⟨c, q, e⟩ := h
  rw [z, e] at n; cases n
def spSource (K : PySem.W.Frag) : Sp := fun vs H Q _ => ∃ (a : Addr) (ns : List Int) (p : Int), vs = [.ref a, .int p] ∧ SqL K H a (ns.map V.int) ∧ 0 ≤ p ∧
  ∀ l H', H l = none → Same H H' → Src H' l → Q (.ref l) H'
def spDraw : Sp := fun vs H Q _ => ∃ (a : Addr) (n : Int), vs = [.ref a, .int n] ∧ Src H a ∧ 0 < n ∧ n < 1073741824 ∧
  ∀ (r : Int) (H' : Hp), 0 ≤ r → r < n → Src H' a → But a H H' → Q (.int r) H'
def spWhole : Sp := fun vs H Q _ => (∃ i : Int, vs = [.int i] ∧ Q (.bl true) H)
theorem But.mut {a l : Addr} {o : HO} {H H' : Hp} (s : But a H H') (h : H l = none) : But a H (L2.upd H' l o) := fun b u nb e => by
  rw [upd_ne (ne_of_none e h)]; exact s b u nb e
theorem Src.set {a l : Addr} {o : HO} {H : Hp} (s : Src H a) (h : l ≠ a) : Src (L2.upd H l o) a := by
  obtain ⟨c, p, e⟩ := s
  exact ⟨c, p, by rw [upd_ne h.symm]; exact e⟩
theorem But.free {a l : Addr} {H H' : Hp} (s : But a H H') (h : H' l = none) (n : l ≠ a) : H l = none := by
  cases e : H l with
  | none => rfl
  | some o => rw [s l o n e] at h; cases h
/-- a new source joins -/
theorem wo_join {S : List Addr} {s : Addr} {H H' : Hp} (e : Same H H') (h : H s = none) : Same (wo S H) (wo (s :: S) H') := fun b o q => by
  have n : b ≠ s := fun z => by
    have q' := wo_same S H b o q
    rw [z, h] at q'; cases q'
  by_cases k : b ∈ S
  · rw [wo_in k] at q; cases q
  · rw [wo_out k] at q
    rw [wo_out (by simp [n, k])]; exact e b o q
theorem wo_join0 {s : Addr} {H H' : Hp} (e : Same H H') (h : H s = none) : Same H (wo [s] H') := fun b o q => wo_join (S := []) e h b o (by rw [wo_out (by simp)]; exact q)
theorem wo_drop {S : List Addr} {s : Addr} {H : Hp} : Same (wo (s :: S) H) (wo S H) := fun b o q => by
  by_cases k : b ∈ s :: S
  · rw [wo_in k] at q; cases q
  · rw [wo_out k] at q
    rw [wo_out (fun z => k (List.mem_cons_of_mem _ z))]; exact q

/-! ### cuts, tests -/
theorem cutS {t u : TS} {D : Ends} {σ : L2.St} {H : Hp} (M : L2.St → Hp → Prop) (hk : ∀ σ' H', M σ' H' → u D σ' H') (h : (∀ σ' H', M σ' H' → u D σ' H') → tSeq t u D σ H) : tSeq t u D σ H := h hk
def PuT (t : TT) (σ : L2.St) (H : Hp) (b : Bool) : Prop := ∀ Q : Bool → Hp → Prop, Q b H → t σ H Q
theorem put_and {t u : TT} {σ : L2.St} {H : Hp} {a b : Bool} (h1 : PuT t σ H a) (h2 : a = true → PuT u σ H b) : PuT (tAnd t u) σ H (a && b) := fun Q q => h1 _ (by
  cases a with
  | true => exact iteT (h2 rfl Q q)
  | false => exact iteF q)
theorem put_or {t u : TT} {σ : L2.St} {H : Hp} {a b : Bool} (h1 : PuT t σ H a) (h2 : a = false → PuT u σ H b) : PuT (tOr t u) σ H (a || b) := fun Q q => h1 _ (by
  cases a with
  | true => exact iteT q
  | false => exact iteF (h2 rfl Q q))
theorem put_not {t : TT} {σ : L2.St} {H : Hp} {a : Bool} (h1 : PuT t σ H a) : PuT (tNot t) σ H (!a) := fun Q q => h1 _ q
theorem put_is {t : TT} {σ : L2.St} {H : Hp} {a b : Bool} (h : PuT t σ H a) (e : a = b) : PuT t σ H b := e ▸ h
theorem ifS_of {c : TT} {t u : TS} {D : Ends} {σ : L2.St} {H : Hp} {b : Bool} (h : PuT c σ H b) (h1 : b = true → t D σ H) (h2 : b = false → u D σ H) : tIfS c t u D σ H := h _ (by
  cases b with
  | true => exact iteT (h1 rfl)
  | false => exact iteF (h2 rfl))
theorem ifE_of {c : TT} {ta tb : TE} {σ : L2.St} {H : Hp} {Q : VK} {b : Bool} (h : PuT c σ H b) (h1 : b = true → ta σ H Q) (h2 : b = false → tb σ H Q) : tIf c ta tb σ H Q := h _ (by
  cases b with
  | true => exact iteT (h1 rfl)
  | false => exact iteF (h2 rfl))
/-- an optional bound -/
def vo : Option Int → V
  | none => .non
  | some i => .int i
theorem vo_non (o : Option Int) : decide (vo o = .non) = o.isNone := by cases o <;> rfl
theorem nxt {F : L2.St → Hp → Prop} {r b c} {σ : L2.St} {H : Hp} (h : F σ H) : tNext { nx := F, rt := r, bk := b, ct := c } σ H := h
theorem nxe {F : L2.St → Hp → Prop} {r b c} {σ : L2.St} {H : Hp} (h : F σ H) : Ends.nx { nx := F, rt := r, bk := b, ct := c } σ H := h
theorem sqIf {c : TT} {t u r : TS} {D : Ends} {σ : L2.St} {H : Hp} {b : Bool} (h : PuT c σ H b) (h1 : b = true → t { D with nx := r D } σ H) (h2 : b = false → u { D with nx := r D } σ H) : tSeq (tIfS c t u) r D σ H := ifS_of h h1 h2
theorem asg {F : L2.St → Hp → Prop} {r b c} {i : Nat} {v : V} {σ : L2.St} {H : Hp} (h : F (σ.set i (some v)) H) : gName i v σ H (Ends.nx { nx := F, rt := r, bk := b, ct := c }) := h
/-- an item of a written list of whole numbers -/
theorem pick : ∀ (vs : List Int) (r : Int), 0 ≤ r → r < vs.length → ∃ v, v ∈ vs ∧ atI (vs.map V.int) r = some (.int v) := fun vs r h0 h1 => by
  obtain ⟨j, rfl⟩ := Int.eq_ofNat_of_zero_le h0
  have hj : j < vs.length := by omega
  exact ⟨vs[j], List.getElem_mem hj, atI_nat (by rw [List.getElem?_map, List.getElem?_eq_getElem hj]; rfl)⟩
theorem dec_int {a b : Int} : decide (V.int a = V.int b) = decide (a = b) := by
  by_cases h : a = b
  · rw [h, decide_eq_true rfl, decide_eq_true rfl]
  · rw [decide_eq_false h, decide_eq_false (fun z => h (V.int.inj z))]
theorem atI0 {xs : List V} {i : Nat} {v : V} (h : xs[i]? = some v) : atI xs (0 + (i : Int)) = some v := by rw [Int.zero_add]; exact atI_nat h
theorem kit_self {K : PySem.W.Frag} {C : Addr} : PySem.W.kitOne K (.ref C) (.ref C) = some true := by
  unfold PySem.W.kitOne
  rw [if_pos (by simp)]
theorem But.same {a : Addr} {H H' : Hp} (b : But a H H') (h : H a = none) : Same H H' := fun c o e => b c o (ne_of_none e h) e
theorem wo_new {H : Hp} {r : Addr} {o : HO} (h : H r = none) : Same H (wo [r] (L2.upd H r o)) := fun b u e => by
  have n : b ≠ r := ne_of_none e h
  rw [wo_out (by simpa using n), upd_ne n]; exact e
theorem wo_upd {H H3 : Hp} {r : Addr} {o : HO} (s : Same H H3) : Same (wo [r] H) (wo [r] (L2.upd H3 r o)) := fun b u e => by
  by_cases n : b = r
  · rw [n, wo_in (by simp)] at e; cases e
  · rw [wo_out (by simpa using n)] at e
    rw [wo_out (by simpa using n), upd_ne n]; exact s b u e
theorem ixN_j {n j : Nat} (h : j < n) : ixN n (j : Int) = some j := by
  unfold ixN
  rw [if_pos (by omega), if_pos (by omega)]
  simp
theorem dp_ints {K : PySem.W.Frag} {H : Hp} : ∀ ns : List Int, DpAll K H (ns.map V.int) (ns.map PyData.int)
  | [] => .nil
  | n :: ns => .cons (.int n) (dp_ints ns)
theorem canLay_ints : ∀ ns : List Int, PyData.canLayAll0 (ns.map PyData.int) = true
  | [] => by simp [PyData.canLayAll0]
  | n :: ns => by simp [PyData.canLayAll0, PyData.canLay0, canLay_ints ns]
theorem depth_ints : ∀ ns : List Int, PyData.depthAll (ns.map PyData.int) ≤ 1
  | [] => by simp [PyData.depthAll]
  | n :: ns => by
    have := depth_ints ns
    simp only [List.map_cons, PyData.depthAll, PyData.depth]
    omega
theorem shaped_ints (ns : List Int) : SeqAt.shaped (.list (ns.map PyData.int)) = true := by
  unfold SeqAt.shaped
  have h := depth_ints ns
  exact Bool.and_eq_true_iff.mpr ⟨by simp [PyData.canLay0, canLay_ints], decide_eq_true (by simp only [PyData.depth]; omega)⟩
theorem eqv_ints (ns : List Int) : PyData.eqv (.list (ns.map PyData.int)) (.list (ns.map PyData.int)) = true :=
  SeqAt.eqv_refl _ (SeqAt.canLay_of_shaped (shaped_ints ns))
theorem dp_list {K : PySem.W.Frag} {H : Hp} {a : Addr} {ns : List Int} (h : SqL K H a (ns.map V.int)) : Dp K H (.ref a) (.list (ns.map PyData.int)) := .lst h (dp_ints ns)
theorem yesT {σ : L2.St} {H : Hp} {A B : Bool → Hp → Prop} (h : A true H) : tYes σ H fun b H3 => if b = true then A b H3 else B b H3 := by
  show if true = true then A true H else B true H
  rw [if_pos rfl]; exact h

theorem pi_or {X : Cx} {tg e : Expr} {t1 t2 : TI} (h1 : PI X tg e t1) (h2 : PI X tg e t2) : PI X tg e (fun σ H R => t1 σ H R ∨ t2 σ H R) := ⟨fun pins s σ H R I h => h.elim (h1.run pins s σ H R I) (h2.run pins s σ H R I)⟩
theorem SqT.keep {K : PySem.W.Frag} {H H' : Hp} {a : Addr} {xs : List V} (h : SqT K H a xs) (s : Same H H') : SqT K H' a xs := by
  rcases h with (h | ⟨o, h⟩) | h
  · exact .inl (.inl (s _ _ h))
  · exact .inl (.inr ⟨o, s _ _ h⟩)
  · exact .inr h
/-- a list or a tuple -/
def SqA (K : PySem.W.Frag) (H : Hp) (a : Addr) (xs : List V) : Prop := SqL K H a xs ∨ SqT K H a xs
theorem SqA.keep {K : PySem.W.Frag} {H H' : Hp} {a : Addr} {xs : List V} (h : SqA K H a xs) (e : Same H H') : SqA K H' a xs := h.elim (fun h => .inl (e.seq h)) (fun h => .inr (SqT.keep h e))
theorem rIx_a {K : PySem.W.Frag} {H : Hp} {p : Addr} {xs : List V} {i : Int} {v : V} {Q : VK} (h : SqA K H p xs) (e : atI xs i = some v) (q : Q v H) : rIx K (.ref p) (.int i) H Q :=
  h.elim (fun h => .inl ⟨p, xs, i, v, rfl, rfl, h, e, q⟩) (fun h => .inr (.inl ⟨p, xs, i, v, rfl, rfl, h, e, q⟩))
/-- places as values -/
def iv (hs : List Nat) : List V := hs.map fun h : Nat => V.int (h : Int)
theorem iv_at {hs : List Nat} {i : Nat} {x : V} (h : (iv hs)[i]? = some x) : ∃ n : Nat, hs[i]? = some n ∧ x = V.int (n : Int) := by
  unfold iv at h
  rw [List.getElem?_map] at h
  cases e : hs[i]? with
  | none => rw [e] at h; cases h
  | some n => rw [e] at h; exact ⟨n, rfl, (Option.some.inj h).symm⟩
theorem iv_len (hs : List Nat) : (iv hs).length = hs.length := List.length_map ..
theorem iv_app (a b : List Nat) : iv (a ++ b) = iv a ++ iv b := List.map_append ..
theorem int_at {ls : List Int} {n : Nat} (h : n < ls.length) : atI (ls.map V.int) (n : Int) = some (V.int (ls.getD n 0)) := by
  refine atI_nat ?_
  rw [List.getElem?_map, List.getD_eq_getElem?_getD, List.getElem?_eq_getElem h]; rfl
theorem iv_get {hs : List Nat} {n : Nat} (h : n < hs.length) : atI (iv hs) (n : Int) = some (V.int ((hs.getD n 0 : Nat) : Int)) := by
  refine atI_nat ?_
  unfold iv
  rw [List.getElem?_map, List.getD_eq_getElem?_getD, List.getElem?_eq_getElem h]; rfl
theorem getD_mem {hs : List Nat} {n : Nat} (h : n < hs.length) : hs.getD n 0 ∈ hs := by
  rw [List.getD_eq_getElem?_getD, List.getElem?_eq_getElem h]; exact List.getElem_mem h
theorem take_snoc {α : Type} {l : List α} {i : Nat} {x : α} (h : l[i]? = some x) : l.take (i + 1) = l.take i ++ [x] := by
  rw [List.take_succ, h]; rfl
def spBetween : Sp := fun vs H Q _ => ∃ (a : Addr) (lo hi : Int), vs = [.ref a, .int lo, .int hi] ∧ Src H a ∧ lo ≤ hi ∧ hi - lo < 1000000000 ∧
  ∀ (r : Int) (H' : Hp), lo ≤ r → r ≤ hi → Src H' a → But a H H' → Q (.int r) H'
theorem seqIx {i : Int} {n k : Nat} (h : i = (k : Int)) (hk : k < n) : seqIndex? i n = some k := by
  subst h
  unfold seqIndex?
  have h0 : ¬ ((k : Int) < 0) := by omega
  simp [h0, hk]
theorem iv_erase : ∀ (hs : List Nat) (k : Nat), (iv hs).eraseIdx k = iv (hs.eraseIdx k)
  | [], _ => rfl
  | _ :: _, 0 => rfl
  | h :: hs, k + 1 => congrArg (V.int (h : Int) :: ·) (iv_erase hs k)
theorem _root_.L2.Same.but' {H H1 H2 : Hp} {s : Addr} (e : Same H H1) (n : H s = none) (b : But s H1 H2) : Same H H2 := fun c o q => b c o (ne_of_none q n) (e c o q)
theorem _root_.L2.Same.upd' {H H1 : Hp} {l : Addr} {o : HO} (e : Same H H1) (n : H l = none) : Same H (L2.upd H1 l o) := fun c u q => by
  rw [upd_ne (ne_of_none q n)]; exact e c u q
theorem iv_ints (hs : List Nat) : iv hs = (hs.map fun h : Nat => (h : Int)).map V.int := by unfold iv; rw [List.map_map]; rfl
theorem at0 (h0 : Nat) (t : List Nat) : atI (iv (h0 :: t)) 0 = some (.int (h0 : Int)) := iv_get (hs := h0 :: t) (n := 0) (by simp)
/-- a comprehension over n turns of anything -/
theorem lc_any {J : It} {n : Nat} {g : TG} {tt : TT} {te : TE} {vs : List Nat} {σ : L2.St} {H1 : Hp} {D : Addr} {Qd : Hp → Prop} (Pv : Nat → Hp → Prop) (h0 : Pv 0 (L2.upd H1 D (.lst []))) (hgo : ∀ i H, i < n → Pv i H → J.go i H) (hst : ∀ H, Pv n H → J.stop n H)
    (hs : ∀ i x H H', i < n → Pv i H → J.yld i H x H' → g x (wipe σ vs) H' fun σ2 H2 => wipe σ2 vs = wipe σ vs ∧ tt σ2 H2 fun b H3 => if b = true then te σ2 H3 fun y H4 => ∃ acc, H4 D = some (.lst acc) ∧ acc.length < sizeLine ∧ Pv (i + 1) (L2.upd H4 D (.lst (acc ++ [y]))) else Pv (i + 1) H3) (hd : ∀ H, Pv n H → Qd H) :
    ∃ W : Nat → Nat → Hp → Prop, (∃ m, W 0 m (L2.upd H1 D (.lst []))) ∧ ∀ i m H, W i m H → (J.stop i H ∧ Qd H) ∨ (J.go i H ∧ ∃ Nx : Hp → Prop, (∀ H', Nx H' → ∃ m', m' < m ∧ W (i + 1) m' H') ∧ ∀ x H', J.yld i H x H' → g x (wipe σ vs) H' fun σ2 H2 => wipe σ2 vs = wipe σ vs ∧ tt σ2 H2 fun b H3 => if b = true then te σ2 H3 fun y H4 => ∃ acc, H4 D = some (.lst acc) ∧ acc.length < sizeLine ∧ Nx (L2.upd H4 D (.lst (acc ++ [y]))) else Nx H3) := by
  refine ⟨fun i m H => m = n - i ∧ i ≤ n ∧ Pv i H, ⟨n, rfl, Nat.zero_le _, h0⟩, ?_⟩
  rintro i m H ⟨rfl, hi, p⟩
  by_cases hl : i < n
  · exact .inr ⟨hgo i H hl p, Pv (i + 1), fun H' q => ⟨n - (i + 1), by omega, rfl, hl, q⟩, fun x H' y => hs i x H H' hl p y⟩
  · obtain rfl : i = n := by omega
    exact .inl ⟨hst H p, hd H p⟩

/-! ### defs with a table of their own -/
/-- the rule for a def whose code object is known -/
theorem ok_code {P : Program} {w : World} {K : PySem.W.Frag} {mg : Str → Option Value} {base : Heap} {x qual : Str} {params : Arguments} {body : List Stmt} {scope : Scope} {dvs : List V} {kws : List (Str × V)} {f : Addr} {fd : FuncData} {CX : CXT} {N ps : List Str} {k : Nat} {sp : Sp} {c : Addr} (F : FunD K x qual params body scope dvs kws f fd) (hc : fd.code = .ref c) (S : FnScope N ps scope) (len : ∀ vs H Q E, sp vs H Q E → vs.length = ps.length)
    (hbody : ∀ (A : Around) (outer : List Env) (s : Shared) (H : Hp) (vs : List V) (Q : VK) (E : XK), Room k (A.deeper (PyProof.Rows.envOfC qual scope s.heap.objs.size f (.ref c))) → sp vs H Q E →
      ∃ t, PSs (cxOf CX P w K mg base N qual scope f (.ref c) A outer s H E) body t ∧ t { nx := fun _ H' => Q .non H', rt := Q } (start N vs) H) : FnOk P w K mg base CX (k + 1) f fd ps sp := by
  obtain ⟨oc, od, dV, kV, doc, pm, an, cdv, ct, osl, rfl, lk, hcd, _, _⟩ := F.ex
  have e : cdv = .ref c := hc
  subst e
  exact fn_of lk hcd S len fun A outer s H vs Q E hr h => hbody A outer s H vs Q E hr h
theorem no_free {l : List (Str × NameKind)} {cells : List (Str × Addr)} (h : (l.all fun y => match y.2 with | .free => false | _ => true) = true) : ∀ y ∈ l, y.2 = .free → ∃ c, cells.lookup y.1 = some c := fun y hy e => by
  have q := List.all_eq_true.mp h y hy
  rw [e] at q
  cases q
theorem some_free {l : List (Str × NameKind)} {cells : List (Str × Addr)} (h : (l.all fun y => match y.2 with | .free => (cells.lookup y.1).isSome | _ => true) = true) : ∀ y ∈ l, y.2 = .free → ∃ c, cells.lookup y.1 = some c := fun y hy e => by
  have q := List.all_eq_true.mp h y hy
  rw [e] at q
  exact Option.isSome_iff_exists.mp q
theorem TabG.same {H H' : Hp} {T : Addr} (h : TabG H T) (e : Same H H') : TabG H' T := by
  obtain ⟨ps, a, b⟩ := h
  exact ⟨ps, e _ _ a, b⟩
theorem TabG.ne {H : Hp} {T a : Addr} {xs : List V} (h : TabG H T) (e : H a = some (.lst xs)) : a ≠ T := fun z => by
  obtain ⟨ps, q, _⟩ := h
  rw [z, q] at e; cases e
theorem TabG.but {H H' : Hp} {T s : Addr} (h : TabG H T) (b : But s H H') (hs : Src H s) : TabG H' T := by
  obtain ⟨ps, a, z⟩ := h
  obtain ⟨c, p, e⟩ := hs
  exact ⟨ps, b _ _ (fun y => by rw [y, e] at a; cases a) a, z⟩
theorem TabG.set {H : Hp} {T l : Addr} {o : HO} {xs : List V} (h : TabG H T) (e : H l = some (.lst xs)) : TabG (L2.upd H l o) T := by
  have n := TabG.ne h e
  obtain ⟨ps, a, z⟩ := h
  exact ⟨ps, by rw [upd_ne n.symm]; exact a, z⟩
theorem tabbed_but {T : Addr} {H H' : Hp} (h : Tabbed T H H') : But T H H' := fun b o n e => by rw [h.2 b n]; exact e
theorem sql_off {K : PySem.W.Frag} {H : Hp} {T a : Addr} {xs : List V} (h : SqL K H a xs) (t : TabG H T) : SqL K (wo [T] H) a xs := by
  obtain ⟨ps, e, _⟩ := t
  rcases h with (h | ⟨o, h⟩) | h
  · exact .inl (.inl (by rw [wo_out (by simp only [List.mem_singleton]; intro z; rw [z, e] at h; cases h)]; exact h))
  · exact .inl (.inr ⟨o, by rw [wo_out (by simp only [List.mem_singleton]; intro z; rw [z, e] at h; cases h)]; exact h⟩)
  · exact .inr h
theorem sqt_off {K : PySem.W.Frag} {H : Hp} {T a : Addr} {xs : List V} (h : SqT K H a xs) (t : TabG H T) : SqT K (wo [T] H) a xs := by
  obtain ⟨ps, e, _⟩ := t
  rcases h with (h | ⟨o, h⟩) | h
  · exact .inl (.inl (by rw [wo_out (by simp only [List.mem_singleton]; intro z; rw [z, e] at h; cases h)]; exact h))
  · exact .inl (.inr ⟨o, by rw [wo_out (by simp only [List.mem_singleton]; intro z; rw [z, e] at h; cases h)]; exact h⟩)
  · exact .inr h
theorem sql_but {K : PySem.W.Frag} {H H' : Hp} {T a : Addr} {xs : List V} (h : SqL K H a xs) (t : TabG H T) (b : But T H H') : SqL K H' a xs := (wo_same [T] H').seq ((b.wo (by simp)).seq (sql_off h t))
theorem sqt_but {K : PySem.W.Frag} {H H' : Hp} {T a : Addr} {xs : List V} (h : SqT K H a xs) (t : TabG H T) (b : But T H H') : SqT K H' a xs := SqT.keep (SqT.keep (sqt_off h t) (b.wo (by simp))) (wo_same [T] H')
theorem sqa_but {K : PySem.W.Frag} {H H' : Hp} {T a : Addr} {xs : List V} (h : SqA K H a xs) (t : TabG H T) (b : But T H H') : SqA K H' a xs := h.elim (fun h => .inl (sql_but h t b)) (fun h => .inr (sqt_but h t b))
/-- a loop over n turns of anything -/
theorem for_any {J : It} {n : Nat} {g : TG} {tb : TS} {D : Ends} {σ : L2.St} {H : Hp} (Pv : Nat → L2.St → Hp → Prop) (h0 : Pv 0 σ H) (hgo : ∀ i σ H, i < n → Pv i σ H → J.go i H) (hst : ∀ σ H, Pv n σ H → J.stop n H)
    (hs : ∀ i x σ H H', i < n → Pv i σ H → J.yld i H x H' → g x σ H' fun σ2 H2 => tb { D with nx := Pv (i + 1), ct := Pv (i + 1), bk := D.nx } σ2 H2) (hd : ∀ σ H, Pv n σ H → D.nx σ H) :
    ∃ W : Nat → Nat → L2.St → Hp → Prop, (∃ m, W 0 m σ H) ∧ ∀ i m σ H, W i m σ H → (J.stop i H ∧ D.nx σ H) ∨ (J.go i H ∧ ∃ N : L2.St → Hp → Prop, (∀ σ' H', N σ' H' → ∃ m', m' < m ∧ W (i + 1) m' σ' H') ∧ ∀ x H', J.yld i H x H' → g x σ H' fun σ2 H2 => tb { D with nx := N, ct := N, bk := D.nx } σ2 H2) := by
  refine ⟨fun i m σ H => m = n - i ∧ i ≤ n ∧ Pv i σ H, ⟨n, rfl, Nat.zero_le _, h0⟩, ?_⟩
  rintro i m σ H ⟨rfl, hi, p⟩
  by_cases hl : i < n
  · exact .inr ⟨hgo i σ H hl p, Pv (i + 1), fun σ' H' q => ⟨n - (i + 1), by omega, rfl, hl, q⟩, fun x H' y => hs i x σ H H' hl p y⟩
  · obtain rfl : i = n := by omega
    exact .inl ⟨hst σ H p, hd σ H p⟩
/-- a list or a tuple, walked -/
theorem or_iter {K : PySem.W.Frag} {i : Nat} {σ : L2.St} {H0 H : Hp} {a : Addr} {xs : List V} {R : It → Hp → Prop} (e : σ[i]? = some (some (.ref a))) (h0 : SqA K H0 a xs) (s : Same H0 H)
    (k : ∀ J : It, (∀ j H1, Same H0 H1 → j < xs.length → J.go j H1) → (∀ H1, Same H0 H1 → J.stop xs.length H1) → (∀ j H1 x H2, Same H0 H1 → J.yld j H1 x H2 → H2 = H1 ∧ xs[j]? = some x) → R J H) : iList K (tVar i) σ H R ∨ iTup K (tVar i) σ H R := by
  rcases h0 with h | h
  · exact .inl ⟨_, e, a, rfl, ⟨_, s.seq h⟩, k _ (fun j H1 q hj => ⟨xs, xs[j], q.seq h, List.getElem?_eq_getElem hj⟩) (fun H1 q => ⟨xs, q.seq h, Nat.le_refl _⟩) fun j H1 x H2 q y => ⟨y.1, y.2 xs (q.seq h)⟩⟩
  · exact .inr ⟨_, e, a, rfl, ⟨_, SqT.keep h s⟩, k _ (fun j H1 q hj => ⟨xs, xs[j], SqT.keep h q, List.getElem?_eq_getElem hj⟩) (fun H1 q => ⟨xs, SqT.keep h q, Nat.le_refl _⟩) fun j H1 x H2 q y => ⟨y.1, y.2 xs (SqT.keep h q)⟩⟩
theorem call_max3i {X : Cx} (hc : X.calm = true) : CallR X (.builtin "max") (fun xs H Q => ∃ i j l, xs = [.int i, .int j, .int l] ∧ Q (.int (if j > i then (if l > j then l else j) else (if l > i then l else i))) H) := by
  intro pins s σ H xs us Q I r h
  obtain ⟨i, j, l, rfl, q⟩ := h
  obtain ⟨u, v, z, rfl, ⟨t1, rfl⟩, ⟨t2, rfl⟩, ⟨t3, rfl⟩⟩ : ∃ u v z, us = [u, v, z] ∧ RelV (.int i) u ∧ RelV (.int j) v ∧ RelV (.int l) z := by
    cases r with
    | cons r1 r => cases r with
      | cons r2 r => cases r with
        | cons r3 r => cases r; exact ⟨_, _, _, rfl, r1, r2, r3⟩
  refine max_three_ints (I.ok.hd hc) fun h' tk k => ⟨_, H, I.kept k, ?_, q⟩
  by_cases u1 : j > i <;> by_cases u2 : l > j <;> by_cases u3 : l > i <;> simp only [u1, u2, u3, if_true, if_false] <;> exact ⟨_, rfl⟩

/-! ### the middle of the bounds -/
/-- an estimate: low, high, weight -/
structure Es where
  l : Int
  h : Int
  w : Nat
def mx3 (i j k : Int) : Int := if j > i then (if k > j then k else j) else (if k > i then k else i)
def off (e : Es) (v : Int) : Int := mx3 (e.l - v) (v - e.h) 0
def cst (es : List Es) (v : Int) : Int := (es.map fun e => (e.w : Int) * off e v).sum
def bnd (es : List Es) : List Int := es.flatMap fun e => (List.replicate e.w [e.l, e.h]).flatten
def dst (b : List Int) (v : Int) : Nat := (b.map fun x => (v - x).natAbs).sum
theorem dst_perm {a b : List Int} (p : a.Perm b) (v : Int) : dst a v = dst b v := by
  unfold dst
  induction p with
  | nil => rfl
  | cons x _ ih => simp only [List.map_cons, List.sum_cons]; omega
  | swap x y l => simp only [List.map_cons, List.sum_cons]; omega
  | trans _ _ h1 h2 => omega
theorem dst_app (a b : List Int) (v : Int) : dst (a ++ b) v = dst a v + dst b v := by
  unfold dst
  rw [List.map_append]
  induction a with
  | nil => simp
  | cons x a ih => simp only [List.map_cons, List.cons_append, List.sum_cons]; omega
theorem dst_rep (l h v : Int) : ∀ w : Nat, dst (List.replicate w [l, h]).flatten v = w * ((v - l).natAbs + (v - h).natAbs)
  | 0 => by simp [dst]
  | w + 1 => by
    rw [List.replicate_succ, List.flatten_cons, dst_app, dst_rep l h v w, Nat.succ_mul]
    simp [dst]
    omega
theorem off_abs {e : Es} (h : e.l ≤ e.h) (v : Int) : (((v - e.l).natAbs + (v - e.h).natAbs : Nat) : Int) = (e.h - e.l) + 2 * off e v := by
  unfold off mx3
  (repeat' split) <;> omega
def wide (es : List Es) : Int := (es.map fun e => (e.w : Int) * (e.h - e.l)).sum
theorem dst_bnd : ∀ (es : List Es), (∀ e, e ∈ es → e.l ≤ e.h) → ∀ v, ((dst (bnd es) v : Nat) : Int) = wide es + 2 * cst es v
  | [], _, v => by simp [dst, bnd, wide, cst]
  | e :: es, h, v => by
    have ih := dst_bnd es (fun x hx => h x (List.mem_cons_of_mem _ hx)) v
    have o := off_abs (h e List.mem_cons_self) v
    have e1 : bnd (e :: es) = (List.replicate e.w [e.l, e.h]).flatten ++ bnd es := by simp [bnd]
    rw [e1, dst_app, dst_rep]
    have e2 : wide (e :: es) = (e.w : Int) * (e.h - e.l) + wide es := by simp [wide]
    have e3 : cst (e :: es) v = (e.w : Int) * off e v + cst es v := by simp [cst]
    rw [e2, e3, Int.natCast_add, Int.natCast_mul, o, Int.mul_add, ih]
    have e4 : (e.w : Int) * (2 * off e v) = 2 * ((e.w : Int) * off e v) := by rw [← Int.mul_assoc, Int.mul_comm (e.w : Int) 2, Int.mul_assoc]
    omega
theorem snoc_of {α : Type} : ∀ {l : List α}, l ≠ [] → ∃ m y, l = m ++ [y]
  | [], h => absurd rfl h
  | [x], _ => ⟨[], x, rfl⟩
  | x :: y :: t, _ => by
    obtain ⟨m, z, e⟩ := snoc_of (l := y :: t) (List.cons_ne_nil _ _)
    exact ⟨x :: m, z, by rw [e]; rfl⟩
theorem getD_app {a b : List Int} {i : Nat} (h : i < a.length) : (a ++ b).getD i 0 = a.getD i 0 := by
  rw [List.getD_eq_getElem?_getD, List.getD_eq_getElem?_getD, List.getElem?_append_left h]
theorem getD_in {b : List Int} {i : Nat} (h : i < b.length) : b.getD i 0 ∈ b := by
  rw [List.getD_eq_getElem?_getD, List.getElem?_eq_getElem h]; exact List.getElem_mem h
theorem mid : ∀ (n : Nat) (b : List Int), b.length = 2 * (n + 1) → b.Pairwise (· ≤ ·) → b.getD n 0 ≤ b.getD (n + 1) 0 ∧ ∀ v, dst b (b.getD n 0) ≤ dst b v ∧ (dst b v = dst b (b.getD n 0) ↔ b.getD n 0 ≤ v ∧ v ≤ b.getD (n + 1) 0)
  | 0, b, hl, hs => by
    match b, hl with
    | [x, y], _ =>
      have hxy : x ≤ y := by simpa using hs
      refine ⟨hxy, fun v => ?_⟩
      show dst [x, y] x ≤ dst [x, y] v ∧ (dst [x, y] v = dst [x, y] x ↔ x ≤ v ∧ v ≤ y)
      simp only [dst, List.map_cons, List.map_nil, List.sum_cons, List.sum_nil]
      omega
  | n + 1, b, hl, hs => by
    cases b with
    | nil => simp at hl
    | cons x t =>
      have ht : t ≠ [] := fun z => by
        subst z
        simp only [List.length_cons, List.length_nil] at hl
        omega
      obtain ⟨m, y, rfl⟩ := snoc_of ht
      have hm : m.length = 2 * (n + 1) := by simp at hl; omega
      obtain ⟨h1, h2⟩ := List.pairwise_cons.mp hs
      obtain ⟨h3, _, h5⟩ := List.pairwise_append.mp h2
      obtain ⟨i0, ih⟩ := mid n m hm h3
      have a0 : (x :: (m ++ [y])).getD (n + 1) 0 = m.getD n 0 := getD_app (by omega)
      have a1 : (x :: (m ++ [y])).getD (n + 1 + 1) 0 = m.getD (n + 1) 0 := getD_app (by omega)
      have m0 := getD_in (b := m) (i := n) (by omega)
      have m1 := getD_in (b := m) (i := n + 1) (by omega)
      have x0 := h1 _ (List.mem_append_left _ m0)
      have y0 := h5 _ m0 y List.mem_cons_self
      have x1 := h1 _ (List.mem_append_left _ m1)
      have y1 := h5 _ m1 y List.mem_cons_self
      rw [a0, a1]
      refine ⟨i0, fun v => ?_⟩
      obtain ⟨q1, q2⟩ := ih v
      have e : ∀ u, dst (x :: (m ++ [y])) u = (u - x).natAbs + dst m u + (u - y).natAbs := fun u => by
        have := dst_app m [y] u
        simp only [dst, List.map_cons, List.map_nil, List.sum_cons, List.sum_nil] at this ⊢
        omega
      rw [e, e]
      generalize m.getD n 0 = lo at *
      generalize m.getD (n + 1) 0 = hi at *
      refine ⟨by omega, ?_⟩
      constructor
      · intro z
        have : dst m v = dst m lo := by omega
        exact q2.mp this
      · intro z
        have := q2.mpr z
        omega
def tot (es : List Es) : Nat := (es.map fun e => e.w).sum
theorem bnd_len : ∀ es : List Es, (bnd es).length = 2 * tot es
  | [] => rfl
  | e :: es => by
    have ih := bnd_len es
    have e1 : bnd (e :: es) = (List.replicate e.w [e.l, e.h]).flatten ++ bnd es := by simp [bnd]
    rw [e1, List.length_append, ih]
    simp [tot]
    omega
theorem tot_pos {es : List Es} (h : es ≠ []) (hw : ∀ e, e ∈ es → 1 ≤ e.w) : 1 ≤ tot es := by
  cases es with
  | nil => exact absurd rfl h
  | cons e es =>
    have := hw e List.mem_cons_self
    simp [tot]
    omega
theorem tot_le : ∀ {es : List Es}, (∀ e, e ∈ es → e.w ≤ 99) → tot es ≤ 99 * es.length
  | [], _ => by simp [tot]
  | e :: es, h => by
    have ih := tot_le (es := es) fun x hx => h x (List.mem_cons_of_mem _ hx)
    have := h e List.mem_cons_self
    simp [tot] at ih ⊢
    omega
/-- the two in the middle of the sorted bounds -/
theorem middle {es : List Es} (h : es ≠ []) (hw : ∀ e, e ∈ es → 1 ≤ e.w) (hl : ∀ e, e ∈ es → e.l ≤ e.h) {b : List Int} (p : b.Perm (bnd es)) (hs : b.Pairwise (· ≤ ·)) :
    b.length = 2 * tot es ∧ b.getD (tot es - 1) 0 ≤ b.getD (tot es) 0 ∧ ∀ v, cst es (b.getD (tot es - 1) 0) ≤ cst es v ∧ (cst es v = cst es (b.getD (tot es - 1) 0) ↔ b.getD (tot es - 1) 0 ≤ v ∧ v ≤ b.getD (tot es) 0) := by
  have hL : b.length = 2 * tot es := by rw [p.length_eq, bnd_len]
  have hp := tot_pos h hw
  obtain ⟨n, hn⟩ : ∃ n, tot es = n + 1 := ⟨tot es - 1, by omega⟩
  rw [hn] at hL
  rw [hn, Nat.add_sub_cancel]
  obtain ⟨a, q⟩ := mid n b hL hs
  refine ⟨hL, a, fun v => ?_⟩
  have d : ∀ u, ((dst b u : Nat) : Int) = wide es + 2 * cst es u := fun u => by rw [dst_perm p u, dst_bnd es hl u]
  obtain ⟨q1, q2⟩ := q v
  have d1 := d v
  have d2 := d (b.getD n 0)
  rw [← q2]
  omega
theorem same_sorted {a b : List Int} (p : a.Perm b) (ha : a.Pairwise (· ≤ ·)) (hb : b.Pairwise (· ≤ ·)) : a = b :=
  List.Perm.eq_of_pairwise (le := (· ≤ ·)) (fun _ _ _ _ h1 h2 => Int.le_antisymm h1 h2) ha hb p

def etup (e : Es) : List V := [.int e.l, .int e.h, .int (e.w : Int)]
/-- triples at these places -/
def Tri (K : PySem.W.Frag) (H : Hp) (ts : List Addr) (es : List Es) : Prop := ts.length = es.length ∧ ∀ (i : Nat) (t : Addr) (e : Es), ts[i]? = some t → es[i]? = some e → SqT K H t (etup e)
def Rw (K : PySem.W.Frag) (H : Hp) (a : Addr) (es : List Es) : Prop := ∃ ts : List Addr, SqA K H a (ts.map V.ref) ∧ Tri K H ts es
theorem Tri.same {K : PySem.W.Frag} {H H' : Hp} {ts : List Addr} {es : List Es} (h : Tri K H ts es) (e : Same H H') : Tri K H' ts es := ⟨h.1, fun i t x h1 h2 => SqT.keep (h.2 i t x h1 h2) e⟩
theorem Tri.but {K : PySem.W.Frag} {H H' : Hp} {T : Addr} {ts : List Addr} {es : List Es} (h : Tri K H ts es) (t : TabG H T) (b : But T H H') : Tri K H' ts es := ⟨h.1, fun i u x h1 h2 => sqt_but (h.2 i u x h1 h2) t b⟩
theorem Tri.at {K : PySem.W.Frag} {H : Hp} {ts : List Addr} {es : List Es} (h : Tri K H ts es) {i : Nat} {x : V} (e : (ts.map V.ref)[i]? = some x) : ∃ t en, x = .ref t ∧ es[i]? = some en ∧ SqT K H t (etup en) := by
  rw [List.getElem?_map] at e
  cases q : ts[i]? with
  | none => rw [q] at e; cases e
  | some t =>
    rw [q] at e
    have hi : i < es.length := by rw [← h.1]; exact (List.getElem?_eq_some_iff.mp q).1
    exact ⟨t, es[i], (Option.some.inj e).symm, List.getElem?_eq_getElem hi, h.2 i t _ q (List.getElem?_eq_getElem hi)⟩
theorem Rw.same {K : PySem.W.Frag} {H H' : Hp} {a : Addr} {es : List Es} (h : Rw K H a es) (e : Same H H') : Rw K H' a es := let ⟨ts, h1, h2⟩ := h; ⟨ts, h1.keep e, h2.same e⟩
theorem Rw.but {K : PySem.W.Frag} {H H' : Hp} {T a : Addr} {es : List Es} (h : Rw K H a es) (t : TabG H T) (b : But T H H') : Rw K H' a es := let ⟨ts, h1, h2⟩ := h; ⟨ts, sqa_but h1 t b, h2.but t b⟩
def OkE (es : List Es) : Prop := ∀ e, e ∈ es → e.l ≤ e.h ∧ 1 ≤ e.w ∧ e.w ≤ 99
def spCost (K : PySem.W.Frag) (T : Addr) : Sp := fun vs H Q _ => ∃ (a : Addr) (v : Int) (es : List Es), vs = [.ref a, .int v] ∧ Rw K H a es ∧ OkE es ∧ TabG H T ∧ ∀ H2, Tabbed T H H2 → Q (.int (cst es v)) H2
def spMiddle (K : PySem.W.Frag) (T : Addr) : Sp := fun vs H Q _ => ∃ (a : Addr) (es : List Es), vs = [.ref a] ∧ Rw K H a es ∧ OkE es ∧ es ≠ [] ∧ es.length ≤ 100 ∧ TabG H T ∧
  ∀ (q : Addr) (b : List Int) (H' : Hp), b.Perm (bnd es) → b.Pairwise (· ≤ ·) → H q = none → H' q = some (.tup [.int (cst es (b.getD (tot es) 0)), .int (b.getD (tot es - 1) 0), .int (b.getD (tot es) 0)]) → But T H H' → TabG H' T → Q (.ref q) H'
theorem pre_sum {es : List Es} {F : Es → Int} {f : Nat → Int} : ∀ n, n ≤ es.length → (∀ i e, es[i]? = some e → f i = F e) → preSum f n = ((es.take n).map F).sum
  | 0, _, _ => by simp [preSum]
  | n + 1, h, hf => by
    have ih := pre_sum (es := es) (F := F) (f := f) n (by omega) hf
    have e : es[n]? = some es[n] := List.getElem?_eq_getElem (by omega)
    show preSum f n + f n = _
    rw [ih, take_snoc e, List.map_append, List.sum_append, hf n _ e]
    simp
theorem bits99 {w : Nat} (h : w ≤ 99) : Builtin.Int.intBits (w : Int) ≤ 64 := by
  unfold Builtin.Int.intBits
  split
  · omega
  · rename_i z
    have z' : w ≠ 0 := fun y => by subst y; simp at z
    have : w.log2 < 63 := (Nat.log2_lt z').mpr (Nat.lt_of_le_of_lt h (by decide))
    simp
    omega
/-- triples made by the law -/
def TriX (H : Hp) (ts : List Addr) (es : List Es) : Prop := ts.length = es.length ∧ ∀ (i : Nat) (t : Addr) (e : Es), ts[i]? = some t → es[i]? = some e → H t = some (.tup (etup e))
theorem TriX.tri {K : PySem.W.Frag} {H : Hp} {ts : List Addr} {es : List Es} (h : TriX H ts es) : Tri K H ts es := ⟨h.1, fun i t e h1 h2 => .inl (.inl (h.2 i t e h1 h2))⟩
theorem TriX.same {H H' : Hp} {ts : List Addr} {es : List Es} (h : TriX H ts es) (e : Same H H') : TriX H' ts es := ⟨h.1, fun i t x h1 h2 => e _ _ (h.2 i t x h1 h2)⟩
theorem TriX.but {H H' : Hp} {a : Addr} {ts : List Addr} {es : List Es} (h : TriX H ts es) (b : But a H H') (hs : Src H a) : TriX H' ts es := ⟨h.1, fun i t x h1 h2 => b _ _ (fun z => by
  obtain ⟨c, p, e⟩ := hs
  have q := h.2 i t x h1 h2
  rw [z, e] at q; cases q) (h.2 i t x h1 h2)⟩
theorem TriX.upd {H : Hp} {f : Addr} {o : HO} {xs : List V} {ts : List Addr} {es : List Es} (h : TriX H ts es) (hf : H f = some (.lst xs)) : TriX (L2.upd H f o) ts es := ⟨h.1, fun i t x h1 h2 => by
  have q := h.2 i t x h1 h2
  rw [upd_ne (fun z => by rw [z, hf] at q; cases q)]; exact q⟩
theorem TriX.snoc {H : Hp} {ts : List Addr} {es : List Es} {t : Addr} {e : Es} (h : TriX H ts es) (ht : H t = some (.tup (etup e))) : TriX H (ts ++ [t]) (es ++ [e]) := by
  refine ⟨by simp [h.1], fun i u x h1 h2 => ?_⟩
  by_cases z : i < ts.length
  · rw [List.getElem?_append_left z] at h1
    rw [List.getElem?_append_left (by rw [← h.1]; exact z)] at h2
    exact h.2 i u x h1 h2
  · have hl := (List.getElem?_eq_some_iff.mp h1).1
    rw [List.length_append, List.length_singleton] at hl
    obtain rfl : i = ts.length := by omega
    rw [List.getElem?_append_right (Nat.le_refl _), Nat.sub_self] at h1
    rw [h.1, List.getElem?_append_right (Nat.le_refl _), Nat.sub_self] at h2
    cases h1
    cases h2
    exact ht
theorem TriX.at {H : Hp} {ts : List Addr} {es : List Es} (h : TriX H ts es) {i : Nat} {x : V} (e : (ts.map V.ref)[i]? = some x) : ∃ t en, x = .ref t ∧ es[i]? = some en ∧ H t = some (.tup (etup en)) := by
  rw [List.getElem?_map] at e
  cases q : ts[i]? with
  | none => rw [q] at e; cases e
  | some t =>
    rw [q] at e
    have hi : i < es.length := by rw [← h.1]; exact (List.getElem?_eq_some_iff.mp q).1
    exact ⟨t, es[i], (Option.some.inj e).symm, List.getElem?_eq_getElem hi, h.2 i t _ q (List.getElem?_eq_getElem hi)⟩
/-- the law's list of triples -/
structure RwX (H : Hp) (r : Addr) (ts : List Addr) (es : List Es) : Prop where
  li : H r = some (.lst (ts.map V.ref))
  tr : TriX H ts es
  ok : OkE es
  le : es.length ≤ 100
theorem RwX.same {H H' : Hp} {r : Addr} {ts : List Addr} {es : List Es} (h : RwX H r ts es) (e : Same H H') : RwX H' r ts es := ⟨e _ _ h.li, h.tr.same e, h.ok, h.le⟩
theorem RwX.but {H H' : Hp} {r a : Addr} {ts : List Addr} {es : List Es} (h : RwX H r ts es) (b : But a H H') (hs : Src H a) (n : r ≠ a) : RwX H' r ts es := ⟨b _ _ n h.li, h.tr.but b hs, h.ok, h.le⟩
theorem RwX.tab {H H' : Hp} {r T : Addr} {ts : List Addr} {es : List Es} (h : RwX H r ts es) (b : But T H H') (t : TabG H T) : RwX H' r ts es :=
  ⟨b _ _ (TabG.ne t h.li) h.li, ⟨h.tr.1, fun i u x h1 h2 => b _ _ (fun z => by
    obtain ⟨ps, e, _⟩ := t
    have q := h.tr.2 i u x h1 h2
    rw [z, e] at q; cases q) (h.tr.2 i u x h1 h2)⟩, h.ok, h.le⟩
theorem RwX.len {H : Hp} {r : Addr} {ts : List Addr} {es : List Es} (h : RwX H r ts es) : (ts.map V.ref).length = es.length := by rw [List.length_map]; exact h.tr.1
def spEsts : Sp := fun vs H Q _ => ∃ (a : Addr) (n : Nat) (m : Int), vs = [.ref a, .int (n : Int), .int m] ∧ Src H a ∧ n ≤ 100 ∧ 1 ≤ m ∧ m ≤ 99 ∧
  ∀ (f : Addr) (ts : List Addr) (es : List Es) (H' : Hp), H f = none → RwX H' f ts es → es.length = n → Src H' a → But a H H' → Q (.ref f) H'
def spFar : Sp := fun vs H Q _ => ∃ a : Addr, vs = [.ref a] ∧ Src H a ∧ ∀ (r : Int) (H' : Hp), Src H' a → But a H H' → Q (.int r) H'
def spMoved : Sp := fun vs H Q _ => ∃ (a r : Addr) (ts : List Addr) (es : List Es), vs = [.ref a, .ref r] ∧ Src H a ∧ r ≠ a ∧ RwX H r ts es ∧
  ∀ (r' : Addr) (ts' : List Addr) (es' : List Es) (H' : Hp), RwX H' r' ts' es' → es'.length = es.length → Src H' a → But a H H' → (r' = r ∨ H r' = none) → Q (.ref r') H'
def spMarks : Sp := fun vs H Q _ => ∃ (r : Addr) (ts : List Addr) (es : List Es), vs = [.ref r] ∧ RwX H r ts es ∧
  ∀ (l : Addr) (ns : List Int) (H' : Hp), H l = none → H' l = some (.lst (ns.map V.int)) → ns.length ≤ 1000 → Same H H' → Q (.ref l) H'
def spLCost : Sp := fun vs H Q _ => ∃ (r : Addr) (v : Int) (ts : List Addr) (es : List Es), vs = [.ref r, .int v] ∧ RwX H r ts es ∧ ∀ H', Same H H' → Q (.int (cst es v)) H'
def spBounds : Sp := fun vs H Q _ => ∃ (r : Addr) (ts : List Addr) (es : List Es), vs = [.ref r] ∧ RwX H r ts es ∧
  ∀ (l : Addr) (b : List Int) (H' : Hp), b.Perm (bnd es) → b.Pairwise (· ≤ ·) → H l = none → H' l = some (.lst (b.map V.int)) → Same H H' → Q (.ref l) H'
def spSame : Sp := fun vs H Q _ => ∃ (p q : Addr) (x y z : Int), vs = [.ref p, .ref q] ∧ H p = some (.tup [.int x, .int y, .int z]) ∧ H q = some (.tup [.int x, .int y, .int z]) ∧ Q (.bl true) H
def spLaw (K : PySem.W.Frag) (T : Addr) : Sp := fun vs H Q _ => ∃ (a : Addr) (ns : List Int), vs = [.ref a] ∧ SqL K H a (ns.map V.int) ∧ ns.length ≤ 63 ∧ H T = some (.tbl #[]) ∧ ∀ H', Q (.bl true) H'
theorem rep_map (l h : Int) : ∀ w : Nat, (List.replicate w [V.int l, V.int h]).flatten = ((List.replicate w [l, h]).flatten).map V.int
  | 0 => rfl
  | w + 1 => by rw [List.replicate_succ, List.flatten_cons, rep_map l h w, List.replicate_succ, List.flatten_cons, List.map_append]; rfl
theorem bnd_snoc (es : List Es) (e : Es) : bnd (es ++ [e]) = bnd es ++ (List.replicate e.w [e.l, e.h]).flatten := by simp [bnd]
theorem bnd_take {es : List Es} {i : Nat} {e : Es} (h : es[i]? = some e) : (bnd (es.take (i + 1))).map V.int = (bnd (es.take i)).map V.int ++ (List.replicate e.w [V.int e.l, V.int e.h]).flatten := by
  rw [take_snoc h, bnd_snoc, List.map_append, rep_map]
theorem rep_len {α : Type} (a b : α) : ∀ w : Nat, (List.replicate w [a, b]).flatten.length = 2 * w
  | 0 => rfl
  | w + 1 => by
    rw [List.replicate_succ, List.flatten_cons, List.length_append, rep_len a b w]
    simp
    omega
theorem bnd_short {es : List Es} (ok : OkE es) (hl : es.length ≤ 100) (i : Nat) : (bnd (es.take i)).length ≤ 19800 := by
  have h := bnd_len (es.take i)
  have t := tot_le (es := es.take i) fun e he => (ok e (List.mem_of_mem_take he)).2.2
  have l := List.length_take (i := i) (l := es)
  omega
/-- the estimates made so far -/
structure EsI (H : Hp) (a f : Addr) (H' : Hp) (ts : List Addr) (es : List Es) : Prop where
  hf : H' f = some (.lst (ts.map V.ref))
  tri : TriX H' ts es
  ok : OkE es
  src : Src H' a
  but : But a H H'
theorem EsI.draw {H : Hp} {a f : Addr} {H' H2 : Hp} {ts : List Addr} {es : List Es} (h : EsI H a f H' ts es) (b : But a H' H2) (hs : Src H2 a) (n : f ≠ a) : EsI H a f H2 ts es :=
  ⟨b _ _ n h.hf, h.tri.but b h.src, h.ok, hs, h.but.trans b⟩
theorem EsI.push {H : Hp} {a f t : Addr} {H' : Hp} {ts : List Addr} {es : List Es} {e : Es} (h : EsI H a f H' ts es) (n : f ≠ a) (hf0 : H f = none) (ht : H' t = none) (he : e.l ≤ e.h ∧ 1 ≤ e.w ∧ e.w ≤ 99) :
    EsI H a f (L2.upd (L2.upd H' t (.tup (etup e))) f (.lst (ts.map V.ref ++ [.ref t]))) (ts ++ [t]) (es ++ [e]) := by
  have tf : f ≠ t := ne_of_none h.hf ht
  have s1 : Same H' (L2.upd H' t (.tup (etup e))) := Same.new ht
  refine ⟨by rw [upd_same, List.map_append]; rfl, ?_, fun x hx => ?_, (h.src.same s1).set n, (h.but.trans (But.new ht)).mut hf0⟩
  · exact ((h.tri.same s1).upd (s1 _ _ h.hf)).snoc (by rw [upd_ne tf.symm, upd_same])
  · rcases List.mem_append.mp hx with z | z
    · exact h.ok x z
    · rw [List.mem_singleton.mp z]; exact he
theorem mv_step {H H6 : Hp} {a f r mv tn : Addr} {us ts : List Addr} {fs es : List Es} {x y p q : Int} {e : Es} (I : EsI H a f H6 us fs) (R : RwX H6 r ts es) (hmv : H6 mv = some (.lst [.int x, .int y])) (fa : f ≠ a) (f0 : H f = none) (rf : r ≠ f) (mvf : mv ≠ f) (ht : H6 tn = none) (he : e.l ≤ e.h ∧ 1 ≤ e.w ∧ e.w ≤ 99) (hpq : p ≤ q) :
    EsI H a f (L2.upd (L2.upd H6 tn (.tup [.int (e.l + p), .int (e.h + q), .int (e.w : Int)])) f (.lst (us.map V.ref ++ [.ref tn]))) (us ++ [tn]) (fs ++ [Es.mk (e.l + p) (e.h + q) e.w]) ∧ RwX (L2.upd (L2.upd H6 tn (.tup [.int (e.l + p), .int (e.h + q), .int (e.w : Int)])) f (.lst (us.map V.ref ++ [.ref tn]))) r ts es ∧
      (L2.upd (L2.upd H6 tn (.tup [.int (e.l + p), .int (e.h + q), .int (e.w : Int)])) f (.lst (us.map V.ref ++ [.ref tn]))) mv = some (.lst [.int x, .int y]) := by
  have s7 : Same H6 (L2.upd H6 tn (.tup [.int (e.l + p), .int (e.h + q), .int (e.w : Int)])) := Same.new ht
  exact ⟨I.push (e := Es.mk (e.l + p) (e.h + q) e.w) fa f0 ht ⟨by show e.l + p ≤ e.h + q; omega, he.2⟩, ⟨(upd_ne rf).trans (s7 _ _ R.li), (R.tr.same s7).upd (s7 _ _ I.hf), R.ok, R.le⟩, (upd_ne mvf).trans (s7 _ _ hmv)⟩
def ed (e : Es) : PyData := .tuple [.int e.l, .int e.h, .int (e.w : Int)]
theorem dp_es {K : PySem.W.Frag} {H : Hp} : ∀ {ts : List Addr} {es : List Es}, Tri K H ts es → DpAll K H (ts.map V.ref) (es.map ed)
  | [], [], _ => .nil
  | [], _ :: _, h => by have := h.1; simp at this
  | _ :: _, [], h => by have := h.1; simp at this
  | t :: ts, e :: es, h => .cons (.tup (h.2 0 t e rfl rfl) (.cons (.int _) (.cons (.int _) (.cons (.int _) .nil)))) (dp_es ⟨by have := h.1; simpa using this, fun i u x h1 h2 => h.2 (i + 1) u x h1 h2⟩)
theorem canLay_es : ∀ es : List Es, PyData.canLayAll0 (es.map ed) = true
  | [] => by simp [PyData.canLayAll0]
  | e :: es => by simp [PyData.canLayAll0, PyData.canLay0, ed, canLay_es es]
theorem depth_es : ∀ es : List Es, PyData.depthAll (es.map ed) ≤ 3
  | [] => by simp [PyData.depthAll]
  | e :: es => by
    have := depth_es es
    simp only [List.map_cons, PyData.depthAll, PyData.depth, ed]
    omega
theorem shaped_es (es : List Es) : SeqAt.shaped (.list (es.map ed)) = true := by
  unfold SeqAt.shaped
  have h := depth_es es
  exact Bool.and_eq_true_iff.mpr ⟨by simp [PyData.canLay0, canLay_es], decide_eq_true (by simp only [PyData.depth]; omega)⟩
theorem eqv_es (es : List Es) : PyData.eqv (.list (es.map ed)) (.list (es.map ed)) = true := SeqAt.eqv_refl _ (SeqAt.canLay_of_shaped (shaped_es es))
theorem shaped_t3 (x y z : Int) : SeqAt.shaped (.tuple [.int x, .int y, .int z]) = true := by
  have := shaped_es [Es.mk 0 0 0]
  unfold SeqAt.shaped
  exact Bool.and_eq_true_iff.mpr ⟨by simp [PyData.canLay0, PyData.canLayAll0], decide_eq_true (by simp [PyData.depth, PyData.depthAll])⟩
theorem dp_t3 {K : PySem.W.Frag} {H : Hp} {p : Addr} {x y z : Int} (h : H p = some (.tup [.int x, .int y, .int z])) : Dp K H (.ref p) (.tuple [.int x, .int y, .int z]) := .tup (.inl (.inl h)) (.cons (.int _) (.cons (.int _) (.cons (.int _) .nil)))
/-- what stands while the law asks -/
structure LwI (K : PySem.W.Frag) (T r hd : Addr) (ts : List Addr) (es : List Es) (H' : Hp) : Prop where
  r : RwX H' r ts es
  h : SqA K H' hd (ts.map V.ref)
  t : TabG H' T

structure Txt (P : Program) (K : PySem.W.Frag) (mg : Str → Option Value) where
  a_middle_span : Addr
  d_middle_span : FuncData
  F_middle_span : Fun K "middle_span" "middle_span" s_middle_span a_middle_span d_middle_span
  b_middle_span : Binds K d_middle_span ["estimates"] []
  m_middle_span : mg "middle_span" = some (.ref a_middle_span)
  a_cost : Addr
  d_cost : FuncData
  F_cost : FunD K "_cost" "_cost" (defArgs s_cost) (defBody s_cost) (defScope s_cost) [] [] a_cost d_cost
  b_cost : Binds K d_cost ["estimates", "value"] []
  c_cost : Addr
  P_cost : Addr
  hc_cost : d_cost.code = .ref c_cost
  m_cost : mg "_cost" = some (.ref a_cost)
  a_law_source : Addr
  d_law_source : FuncData
  F_law_source : Fun K "_law_source" "_law_source" s_law_source a_law_source d_law_source
  b_law_source : Binds K d_law_source ["_law_script", "_law_place"] []
  m_law_source : mg "_law_source" = some (.ref a_law_source)
  a_law_draw : Addr
  d_law_draw : FuncData
  F_law_draw : Fun K "_law_draw" "_law_draw" s_law_draw a_law_draw d_law_draw
  b_law_draw : Binds K d_law_draw ["_law_source_here", "_law_size"] []
  m_law_draw : mg "_law_draw" = some (.ref a_law_draw)
  a_law_between : Addr
  d_law_between : FuncData
  F_law_between : Fun K "_law_between" "_law_between" s_law_between a_law_between d_law_between
  b_law_between : Binds K d_law_between ["_law_source_here", "_law_least", "_law_most"] []
  m_law_between : mg "_law_between" = some (.ref a_law_between)
  a_law_whole : Addr
  d_law_whole : FuncData
  F_law_whole : Fun K "_law_whole" "_law_whole" s_law_whole a_law_whole d_law_whole
  b_law_whole : Binds K d_law_whole ["_law_actual"] []
  m_law_whole : mg "_law_whole" = some (.ref a_law_whole)
  a_law_estimates : Addr
  d_law_estimates : FuncData
  F_law_estimates : Fun K "_law_estimates" "_law_estimates" s_law_estimates a_law_estimates d_law_estimates
  b_law_estimates : Binds K d_law_estimates ["_law_source_here", "_law_count", "_law_most"] []
  m_law_estimates : mg "_law_estimates" = some (.ref a_law_estimates)
  a_law_far : Addr
  d_law_far : FuncData
  F_law_far : Fun K "_law_far" "_law_far" s_law_far a_law_far d_law_far
  b_law_far : Binds K d_law_far ["_law_source_here"] []
  m_law_far : mg "_law_far" = some (.ref a_law_far)
  a_law_moved : Addr
  d_law_moved : FuncData
  F_law_moved : Fun K "_law_moved" "_law_moved" s_law_moved a_law_moved d_law_moved
  b_law_moved : Binds K d_law_moved ["_law_source_here", "_law_rows"] []
  m_law_moved : mg "_law_moved" = some (.ref a_law_moved)
  a_law_marks : Addr
  d_law_marks : FuncData
  F_law_marks : Fun K "_law_marks" "_law_marks" s_law_marks a_law_marks d_law_marks
  b_law_marks : Binds K d_law_marks ["_law_rows"] []
  m_law_marks : mg "_law_marks" = some (.ref a_law_marks)
  a_law_cost : Addr
  d_law_cost : FuncData
  F_law_cost : Fun K "_law_cost" "_law_cost" s_law_cost a_law_cost d_law_cost
  b_law_cost : Binds K d_law_cost ["_law_rows", "_law_value"] []
  m_law_cost : mg "_law_cost" = some (.ref a_law_cost)
  a_law_bounds : Addr
  d_law_bounds : FuncData
  F_law_bounds : Fun K "_law_bounds" "_law_bounds" s_law_bounds a_law_bounds d_law_bounds
  b_law_bounds : Binds K d_law_bounds ["_law_rows"] []
  m_law_bounds : mg "_law_bounds" = some (.ref a_law_bounds)
  a_law_same : Addr
  d_law_same : FuncData
  F_law_same : Fun K "_law_same" "_law_same" s_law_same a_law_same d_law_same
  b_law_same : Binds K d_law_same ["_law_told", "_law_due"] []
  m_law_same : mg "_law_same" = some (.ref a_law_same)
  a_law : Addr
  d_law : FuncData
  F_law : Fun K "law" "law" s_law a_law d_law
  b_law : Binds K d_law ["_law_script"] []
  m_law : mg "law" = some (.ref a_law)
  z_abs : mg "abs" = none
  z_bool : mg "bool" = none
  z_int : mg "int" = none
  z_isinstance : mg "isinstance" = none
  z_len : mg "len" = none
  z_list : mg "list" = none
  z_max : mg "max" = none
  z_min : mg "min" = none
  z_range : mg "range" = none
  z_sorted : mg "sorted" = none
  z_sum : mg "sum" = none
  z_tuple : mg "tuple" = none
structure Tb {P : Program} {K : PySem.W.Frag} {mg : Str → Option Value} (T : Txt P K mg) (base : Heap) : Prop where
  tb_cost : TabB base mg T.c_cost T.P_cost
theorem atI_int {ns : List Int} {j : Nat} (h : j < ns.length) : atI (ns.map V.int) (j : Int) = some (.int ns[j]) :=
  atI_nat (by rw [List.getElem?_map, List.getElem?_eq_getElem h]; rfl)
theorem sz1 : 1 ≤ sizeLine := by decide
theorem sz2 : 2 ≤ sizeLine := by decide
theorem sz3 : 3 ≤ sizeLine := by decide
theorem sz4 : 4 ≤ sizeLine := by decide
theorem sz5 : 5 ≤ sizeLine := by decide
theorem sz6 : 6 ≤ sizeLine := by decide
theorem ok_law_source (T : Txt P K mg) (B : Tb T base) : FnOk P w K mg base CX0 1 T.a_law_source T.d_law_source ["_law_script", "_law_place"] (spSource K) := by
  refine T.F_law_source.ok sc_law_source (fun vs H Q E h => ?_) (fun cdv A outer s H vs Q E hr h => ?_)
  · obtain ⟨a, ns, p, rfl, _⟩ := h
    rfl
  refine ⟨_, (pss_cons (ps_if (pt_cmpR op_lt (pv 1) (pe_callB call_len_seq (by rfl) T.z_len (by decide +kernel) (pa_cons (pv 0) pa_nil)) (nomark _)) (pss_one (ps_ret (pe_lst (pa_cons (pe_callB call_abs (by rfl) T.z_abs (by decide +kernel) (pa_cons (pe_ix ix_list (pv 0) (pv 1) (fun _ _ => rfl)) pa_nil)) (pa_cons (pv 1) pa_nil))))) pss_nil) (pss_cons (ps_if (pt_cmpR op_eq (pe_callB call_len_seq (by rfl) T.z_len (by decide +kernel) (pa_cons (pv 0) pa_nil)) pe_int (nomark _)) (pss_one (ps_ret (pe_lst (pa_cons (pe_op op_add (pe_op op_mul pe_int (pv 1)) pe_int) (pa_cons (pv 1) pa_nil))))) pss_nil) (pss_one (ps_ret (pe_lst (pa_cons (pe_op op_add (pe_op op_add (pe_op op_mul pe_int (pe_callB call_abs (by rfl) T.z_abs (by decide +kernel) (pa_cons (pe_ix ix_list (pv 0) (pe_op op_mod (pe_callTy call_int1 (by rfl) T.z_int (by decide +kernel) (pa_cons (pv 1) pa_nil)) (pe_callB call_len_seq (by rfl) T.z_len (by decide +kernel) (pa_cons (pv 0) pa_nil))) (fun _ _ => rfl)) pa_nil))) (pe_op op_mul pe_int (pv 1))) pe_int) (pa_cons (pv 1) pa_nil))))))), ?_⟩
  obtain ⟨a, ns, p, rfl, hS, hp, k⟩ := h
  refine ⟨_, rfl, _, rfl, a, _, rfl, .inl hS, _, _, rfl, rfl, _, rfl, ?_⟩
  refine ite2 (fun c => ?_) (fun c => ?_)
  · have c := of_decide_eq_true c
    rw [List.length_map] at c
    obtain ⟨j, rfl⟩ := Int.eq_ofNat_of_zero_le hp
    have hj : j < ns.length := by omega
    refine ⟨_, rfl, _, rfl, a, _, _, _, rfl, rfl, hS, atI_int hj, _, rfl, _, rfl, sz2, fun l hl => ?_⟩
    exact k l _ hl (Same.new hl) ⟨_, _, upd_same⟩
  · refine ⟨_, rfl, a, _, rfl, .inl hS, rfl, _, rfl, ?_⟩
    refine ite2 (fun c2 => ?_) (fun c2 => ?_)
    · refine ⟨_, rfl, _, _, rfl, rfl, .inl ⟨by decide, by decide⟩, _, _, rfl, rfl, _, rfl, sz2, fun l hl => ?_⟩
      exact k l _ hl (Same.new hl) ⟨_, _, upd_same⟩
    · have c2 := of_decide_eq_false (Bool.eq_false_iff.mpr c2)
      have hpos : 0 < ns.length := by
        cases ns with
        | nil => exact absurd rfl c2
        | cons _ _ => exact Nat.succ_pos _
      have hm : (0 : Int) < ((ns.map V.int).length : Int) := by rw [List.length_map]; omega
      have h0 := Int.emod_nonneg p (Int.ne_of_gt hm)
      have h1 := Int.emod_lt_of_pos p hm
      obtain ⟨j, hj⟩ := Int.eq_ofNat_of_zero_le h0
      rw [List.length_map] at h1 hj
      have hj2 : j < ns.length := by omega
      refine ⟨_, rfl, _, rfl, .inl ⟨_, rfl, _, rfl, a, _, rfl, .inl hS, _, _, rfl, rfl, hm, ?_⟩⟩
      refine ⟨a, _, _, _, rfl, rfl, hS, (by rw [List.length_map, hj]; exact atI_int hj2), _, rfl, _, _, rfl, rfl, .inl ⟨by decide, by decide⟩, _, rfl, _, _, rfl, rfl, .inl ⟨by decide, by decide⟩, _, _, rfl, rfl, _, _, rfl, rfl, _, rfl, sz2, fun l hl => ?_⟩
      exact k l _ hl (Same.new hl) ⟨_, _, upd_same⟩
theorem ok_law_draw (T : Txt P K mg) (B : Tb T base) : FnOk P w K mg base CX0 1 T.a_law_draw T.d_law_draw ["_law_source_here", "_law_size"] (spDraw) := by
  refine T.F_law_draw.ok sc_law_draw (fun vs H Q E h => ?_) (fun cdv A outer s H vs Q E hr h => ?_)
  · obtain ⟨a, n, rfl, _⟩ := h
    rfl
  refine ⟨_, (pss_cons (ps_set (i := 2) sc_law_draw.nd rfl (Or.inl rfl) (pe_ix ix_list (pv 0) pe_int (fun _ _ => rfl))) (pss_cons (ps_if (pt_cmpR op_ge (pv 2) (pe_op op_pow pe_int pe_int) (nomark _)) (pss_cons (ps_asg (pe_op op_fdiv (pv 2) (pv 1)) (pg_sub (pv 0) pe_int set_list)) (pss_one (ps_ret (pe_op op_mod (pe_callTy call_int1 (by rfl) T.z_int (by decide +kernel) (pa_cons (pv 2) pa_nil)) (pv 1))))) pss_nil) (pss_cons (ps_asg (pe_op op_add (pe_ix ix_list (pv 0) pe_int (fun _ _ => rfl)) pe_int) (pg_sub (pv 0) pe_int set_list)) (pss_cons (ps_set (i := 3) sc_law_draw.nd rfl (Or.inl rfl) (pe_op op_mod (pe_callTy call_int1 (by rfl) T.z_int (by decide +kernel) (pa_cons (pe_op op_add (pe_op op_add (pv 2) (pe_op op_mul pe_int (pe_ix ix_list (pv 0) pe_int (fun _ _ => rfl)))) pe_int) pa_nil)) pe_int)) (pss_cons (ps_set (i := 3) sc_law_draw.nd rfl (Or.inl rfl) (pe_op op_mod (pe_callTy call_int1 (by rfl) T.z_int (by decide +kernel) (pa_cons (pe_op op_mul (pv 3) (pe_op op_add (pv 3) pe_int)) pa_nil)) pe_int)) (pss_cons (ps_set (i := 3) sc_law_draw.nd rfl (Or.inl rfl) (pe_op op_mod (pe_callTy call_int1 (by rfl) T.z_int (by decide +kernel) (pa_cons (pe_op op_add (pe_op op_mul (pv 3) (pe_op op_add (pv 3) pe_int)) (pe_op op_mul pe_int (pe_ix ix_list (pv 0) pe_int (fun _ _ => rfl)))) pa_nil)) pe_int)) (pss_one (ps_ret (pe_op op_mod (pe_callTy call_int1 (by rfl) T.z_int (by decide +kernel) (pa_cons (pe_op op_fdiv (pv 3) pe_int) pa_nil)) (pv 1)))))))))), ?_⟩
  obtain ⟨a, n, rfl, ⟨c, p, hS⟩, n0, n1, k⟩ := h
  refine ⟨_, rfl, _, _, _, _, rfl, rfl, .inl (.inl hS), rfl, ?_⟩
  refine ⟨_, rfl, _, _, rfl, rfl, ⟨by decide, by decide, by decide⟩, _, _, rfl, rfl, _, rfl, ?_⟩
  refine ite2 (fun c1 => ?_) (fun c1 => ?_)
  · refine ⟨_, rfl, _, rfl, _, _, rfl, rfl, ⟨n0, n1⟩, _, rfl, _, _, _, 0, rfl, rfl, hS, rfl, ?_⟩
    refine ⟨_, rfl, .inl ⟨_, rfl, _, rfl, _, _, rfl, rfl, n0, ?_⟩⟩
    exact k _ _ (Int.emod_nonneg c (Int.ne_of_gt n0)) (Int.emod_lt_of_pos c n0) ⟨_, _, upd_same⟩ But.upd
  · refine ⟨_, rfl, _, _, _, _, rfl, rfl, .inl (.inl hS), rfl, _, _, rfl, rfl, _, rfl, _, _, _, 1, rfl, rfl, hS, rfl, ?_⟩
    have hS1 : upd H a (.lst [.int c, .int (p + 1)]) a = some (.lst [.int c, .int (p + 1)]) := upd_same
    refine ⟨_, rfl, _, rfl, _, _, _, _, rfl, rfl, .inl (.inl hS1), rfl, _, _, rfl, rfl, .inl ⟨by decide, by decide⟩, _, _, rfl, rfl, _, _, rfl, rfl, .inl ⟨_, rfl, _, _, rfl, rfl, (show (0 : Int) < 2147483647 by decide), ?_⟩⟩
    have m0 := Int.emod_nonneg (c + 7919 * (p + 1) + 13) (show (2147483647 : Int) ≠ 0 by decide)
    have m1 := Int.emod_lt_of_pos (c + 7919 * (p + 1) + 13) (show (0 : Int) < 2147483647 by decide)
    generalize (c + 7919 * (p + 1) + 13) % 2147483647 = m at m0 m1 ⊢
    refine ⟨_, rfl, _, rfl, _, _, rfl, rfl, _, _, rfl, rfl, .inl ⟨by omega, by omega⟩, .inl ⟨_, rfl, _, _, rfl, rfl, (show (0 : Int) < 2147483629 by decide), ?_⟩⟩
    have m2 := Int.emod_nonneg (m * (m + 48271)) (show (2147483629 : Int) ≠ 0 by decide)
    have m3 := Int.emod_lt_of_pos (m * (m + 48271)) (show (0 : Int) < 2147483629 by decide)
    generalize m * (m + 48271) % 2147483629 = m' at m2 m3 ⊢
    refine ⟨_, rfl, _, rfl, _, _, rfl, rfl, _, _, rfl, rfl, .inl ⟨by omega, by omega⟩, _, rfl, _, _, _, _, rfl, rfl, .inl (.inl hS1), rfl, _, _, rfl, rfl, .inl ⟨by decide, by decide⟩, _, _, rfl, rfl, .inl ⟨_, rfl, _, _, rfl, rfl, (show (0 : Int) < 2147483647 by decide), ?_⟩⟩
    refine ⟨_, rfl, _, _, rfl, rfl, ⟨by decide, by decide⟩, .inl ⟨_, rfl, _, rfl, _, _, rfl, rfl, n0, ?_⟩⟩
    exact k _ _ (Int.emod_nonneg _ (Int.ne_of_gt n0)) (Int.emod_lt_of_pos _ n0) ⟨_, _, hS1⟩ But.upd
theorem isi_ty {K : PySem.W.Frag} {x : V} {H : Hp} {Q : VK} {a c : String} {b : Bool} (hx : TyOf K H x (.type a)) (hb : kitB a c = some b) (h : Q (.bl b) H) : rIsi K [x, .ty c] H Q :=
  ⟨_, _, _, _, _, rfl, .ty _, .base hx, kit_ty hb, h⟩
theorem kit_int_int : kitB "int" "int" = some true := by decide +kernel
theorem kit_int_bool : kitB "int" "bool" = some false := by decide +kernel
theorem kit_bool_bool : kitB "bool" "bool" = some true := by decide +kernel
theorem kit_bool_int : kitB "bool" "int" = some true := by decide +kernel
theorem kit_tup_tup : kitB "tuple" "tuple" = some true := by decide +kernel
theorem kit_lst_lst : kitB "list" "list" = some true := by decide +kernel
theorem kit_str_str : kitB "str" "str" = some true := by decide +kernel
theorem ok_law_whole (T : Txt P K mg) (B : Tb T base) : FnOk P w K mg base CX0 1 T.a_law_whole T.d_law_whole ["_law_actual"] (spWhole) := by
  refine T.F_law_whole.ok sc_law_whole (fun vs H Q E h => ?_) (fun cdv A outer s H vs Q E hr h => ?_)
  · obtain ⟨i, rfl, _⟩ := h
    rfl
  refine ⟨_, (pss_one (ps_ret (pe_and (pe_callB call_isi (by rfl) T.z_isinstance (by decide +kernel) (pa_cons (pv 0) (pa_cons (pe_bltn (v := .ty "int") (u := .type "int") (by rfl) T.z_int (by decide +kernel) rfl) pa_nil))) (pe_one (pe_not (pe_callB call_isi (by rfl) T.z_isinstance (by decide +kernel) (pa_cons (pv 0) (pa_cons (pe_bltn (v := .ty "bool") (u := .type "bool") (by rfl) T.z_bool (by decide +kernel) rfl) pa_nil)))))))), ?_⟩
  obtain ⟨i, rfl, k⟩ := h
  refine ⟨_, rfl, _, _, _, _, _, rfl, .ty _, .base (.int i), kit_ty kit_int_int, _, rfl, iteT ?_⟩
  refine ⟨_, rfl, _, _, _, _, _, rfl, .ty _, .base (.int i), kit_ty kit_int_bool, _, rfl, ?_⟩
  exact k

theorem ok_law_between (T : Txt P K mg) (B : Tb T base) : FnOk P w K mg base CX0 2 T.a_law_between T.d_law_between ["_law_source_here", "_law_least", "_law_most"] (spBetween) := by
  refine T.F_law_between.ok sc_law_between (fun vs H Q E h => ?_) (fun cdv A outer s H vs Q E hr h => ?_)
  · obtain ⟨a, lo, hi, rfl, _⟩ := h
    rfl
  refine ⟨_, (pss_one (ps_ret (pe_op op_add (pv 1) (pe_call (ok_law_draw T B) (hr.mono (by decide)) (by rfl) T.m_law_draw T.F_law_draw.kp T.b_law_draw .nil pass0 (pa_cons (pv 0) (pa_cons (pe_op op_add (pe_op op_sub (pv 2) (pv 1)) pe_int) pa_nil)))))), ?_⟩
  obtain ⟨a, lo, hi, rfl, hs, h1, h2, k⟩ := h
  refine ⟨_, rfl, _, rfl, _, rfl, _, rfl, _, _, rfl, rfl, _, _, rfl, rfl, _, _, rfl, hs, by omega, by omega, fun r H1 r0 r1 hs1 b1 => ?_⟩
  exact ⟨_, _, rfl, rfl, k _ _ (by omega) (by omega) hs1 b1⟩

theorem ok_cost (T : Txt P K mg) (B : Tb T base) : FnOk P w K mg base CX0 1 T.a_cost T.d_cost ["estimates", "value"] (spCost K T.P_cost) := by
  refine ok_code T.F_cost T.hc_cost sc_cost (fun vs H Q E h => ?_) (fun A outer s H vs Q E hr h => ?_)
  · obtain ⟨a, v, es, rfl, _⟩ := h
    rfl
  refine ⟨_, PSs.nox ((pss_one (ps_ret (pe_genT (xa := "low") (xb := "high") (xc := "weight") eats_sum hr (by rfl) T.z_sum (by decide +kernel) B.tb_cost rfl ⟨rfl, rfl, by decide +kernel, rfl, some_free rfl⟩ rfl rfl rfl (by decide) (by decide) (by decide) (pv 0) (q_bi bi_mul (q_var (j := 2) rfl rfl rfl) (q_max3 rfl rfl T.z_max (q_bi bi_sub (q_var (j := 0) rfl rfl rfl) (q_out (i := 1) rfl (.inr (.inl rfl)) (.inl rfl) rfl rfl rfl)) (q_bi bi_sub (q_out (i := 1) rfl (.inr (.inl rfl)) (.inl rfl) rfl rfl rfl) (q_var (j := 1) rfl rfl rfl)) q_int)) (fun _ => rfl))))), ?_⟩
  obtain ⟨a, v, es, rfl, ⟨ts, hA, hT⟩, ok, tab, k⟩ := h
  have hb : SqB K H a (ts.map V.ref) := hA
  have hn : (ts.map V.ref).length = es.length := by rw [List.length_map]; exact hT.1
  refine ⟨_, rfl, tab, a, ts.map V.ref, fun i => etup (es.getD i ⟨0, 0, 0⟩), fun i => .int (((es.getD i ⟨0, 0, 0⟩).w : Int) * off (es.getD i ⟨0, 0, 0⟩) v), rfl, hb, fun i x e => ?_, fun i _ => rfl, fun i hi => ?_, fun i => ((es.getD i ⟨0, 0, 0⟩).w : Int) * off (es.getD i ⟨0, 0, 0⟩) v, fun i _ => rfl, fun H2 tb => ?_⟩
  · obtain ⟨t, en, rfl, h1, h2⟩ := hT.at e
    refine ⟨t, rfl, ?_⟩
    show SqT K H t (etup (es.getD i ⟨0, 0, 0⟩))
    rw [List.getD_eq_getElem?_getD, h1]
    exact h2
  · rw [hn] at hi
    have e : es[i]? = some es[i] := List.getElem?_eq_getElem hi
    have o := ok _ (List.getElem_mem hi)
    have g : es.getD i ⟨0, 0, 0⟩ = es[i] := by rw [List.getD_eq_getElem?_getD, e]; rfl
    dsimp only
    rw [g]
    generalize es[i] = en at o
    exact ⟨_, rfl, _, rfl, _, rfl, _, _, rfl, rfl, trivial, _, rfl, _, rfl, _, _, rfl, rfl, trivial, _, _, _, rfl, rfl, rfl, _, _, rfl, rfl, IntMulOk.of_left (bits99 o.2.2), rfl⟩
  · rw [hn, pre_sum (es := es) (F := fun e => (e.w : Int) * off e v) es.length (Nat.le_refl _) (fun i e h => by rw [List.getD_eq_getElem?_getD, h]; rfl), List.take_length]
    exact k H2 tb
theorem ok_middle_span (T : Txt P K mg) (B : Tb T base) : FnOk P w K mg base CX0 2 T.a_middle_span T.d_middle_span ["estimates"] (spMiddle K T.P_cost) := by
  refine T.F_middle_span.ok sc_middle_span (fun vs H Q E h => ?_) (fun cdv A outer s H vs Q E hr h => ?_)
  · obtain ⟨a, es, rfl, _⟩ := h
    rfl
  refine ⟨_, (pss_cons (ps_set (i := 1) sc_middle_span.nd rfl (Or.inl rfl) (pe_lst pa_nil)) (pss_cons (ps_for PassesOwn.never rfl (pi_or (pi_list (pv 0)) (pi_tup (pv 0))) (pg_tup rfl (pgs_cons (pg_name (i := 2) sc_middle_span.nd rfl (Or.inl rfl)) (pgs_cons (pg_name (i := 3) sc_middle_span.nd rfl (Or.inl rfl)) (pgs_cons (pg_name (i := 4) sc_middle_span.nd rfl (Or.inl rfl)) pgs_nil)))) (pss_one (ps_expr (pe_bm PySem.F.plainAttrs_list PySem.F.slot_list_extend PySem.F.type_list_extend mt_extend (pv 1) (pa_cons (pe_op op_rep (pe_lst (pa_cons (pv 2) (pa_cons (pv 3) pa_nil))) (pv 4)) pa_nil))))) (pss_cons (ps_set (i := 1) sc_middle_span.nd rfl (Or.inl rfl) (pe_callB cr_sortedI (by rfl) T.z_sorted (by decide +kernel) (pa_cons (pv 1) pa_nil))) (pss_cons (ps_set (i := 5) sc_middle_span.nd rfl (Or.inl rfl) (pe_op op_fdiv (pe_callB call_len_seq (by rfl) T.z_len (by decide +kernel) (pa_cons (pv 1) pa_nil)) pe_int)) (pss_one (ps_ret (pe_tup (pa_cons (pe_call (ok_cost T B) (hr.mono (by decide)) (by rfl) T.m_cost T.F_cost.kp T.b_cost .nil pass0 (pa_cons (pv 0) (pa_cons (pe_ix ix_list (pv 1) (pv 5) (fun _ _ => rfl)) pa_nil))) (pa_cons (pe_ix ix_list (pv 1) (pe_op op_sub (pv 5) pe_int) (fun _ _ => rfl)) (pa_cons (pe_ix ix_list (pv 1) (pv 5) (fun _ _ => rfl)) pa_nil)))))))))), ?_⟩
  obtain ⟨a, es, rfl, ⟨ts, hA, hT⟩, ok, ne, hz, tab, k⟩ := h
  have hn : (ts.map V.ref).length = es.length := by rw [List.length_map]; exact hT.1
  refine ⟨Nat.zero_le _, fun b hb => asg ?_⟩
  have e1 : Same H (upd H b (.lst [])) := Same.new hb
  refine or_iter rfl hA e1 fun J go stop yld => for_any (n := (ts.map V.ref).length) (fun i σ H' => ∃ v2 v3 v4, σ = [some (.ref a), some (.ref b), v2, v3, v4, none] ∧ H' b = some (.lst ((bnd (es.take i)).map V.int)) ∧ Same H H')
    ⟨none, none, none, rfl, upd_same, e1⟩ (fun i σ H' hi ⟨_, _, _, _, _, s⟩ => go i H' s hi) (fun σ H' ⟨_, _, _, _, _, s⟩ => stop H' s) ?_ ?_
  · rintro i x σ H1 H2 hi ⟨v2, v3, v4, rfl, hB, s1⟩ y
    obtain ⟨rfl, hx⟩ := yld i H1 x H2 s1 y
    obtain ⟨t, en, rfl, h1, h2⟩ := hT.at hx
    have o := ok _ (List.mem_of_getElem? h1)
    refine ⟨t, etup en, rfl, SqT.keep h2 s1, rfl, _, _, rfl, _, _, rfl, _, _, rfl, rfl, ?_⟩
    refine ⟨_, rfl, .inl ⟨rfl, _, .inl (.inl hB)⟩, _, rfl, _, rfl, sz2, fun d hd => ?_⟩
    have bd : b ≠ d := ne_of_none hB hd
    refine ⟨_, rfl, d, _, _, rfl, rfl, upd_same, by omega, by omega, small6' (by show 2 * ((en.w : Int)).toNat ≤ 100000; omega), fun e he => ?_⟩
    have hB1 : upd H2 d (.lst [.int en.l, .int en.h]) b = some (.lst ((bnd (es.take i)).map V.int)) := (upd_ne bd).trans hB
    have be : b ≠ e := ne_of_none hB1 he
    have sh := bnd_short ok hz i
    refine ⟨b, e, _, _, rfl, rfl, (upd_ne be).trans hB1, upd_same, small6' (by rw [List.length_map, rep_len]; show _ + 2 * ((en.w : Int)).toNat ≤ 100000; omega), ?_⟩
    refine ⟨_, _, _, rfl, ?_, (((s1.trans (Same.new hd)).trans (Same.new he)).upd' hb)⟩
    rw [upd_same, bnd_take h1]; rfl
  · rintro σ H1 ⟨v2, v3, v4, rfl, hB, s1⟩
    rw [hn, List.take_length] at hB
    refine ⟨_, rfl, b, bnd es, rfl, .inl (.inl hB), fun b' q hperm hs hq => asg ?_⟩
    obtain ⟨hL, _, _⟩ := middle ne (fun e he => (ok e he).2.1) (fun e he => (ok e he).1) hperm hs
    have tp := tot_pos ne (fun e he => (ok e he).2.1)
    have s2 := s1.trans (Same.new (o := .lst (b'.map V.int)) hq)
    have hq2 := upd_same (H := H1) (a := q) (o := .lst (b'.map V.int))
    generalize upd H1 q (.lst (b'.map V.int)) = H2 at s2 hq2 ⊢
    refine ⟨_, rfl, q, _, rfl, .inl (.inl (.inl hq2)), _, _, rfl, rfl, ⟨by decide, by decide⟩, asg ?_⟩
    have hm : ((b'.map V.int).length : Int) / 2 = (tot es : Int) := by rw [List.length_map, hL]; omega
    have t2 := TabG.same tab s2
    refine ⟨_, rfl, _, rfl, _, rfl, _, _, _, _, rfl, rfl, .inl (.inl hq2), by rw [hm]; exact int_at (n := tot es) (by omega), a, _, es, rfl, ⟨ts, hA.keep s2, hT.same s2⟩, ok, t2, fun H3 tb => ?_⟩
    have hq3 := tabbed_but tb _ _ (TabG.ne t2 hq2) hq2
    refine ⟨_, rfl, _, rfl, _, _, rfl, rfl, _, _, _, _, rfl, rfl, .inl (.inl hq3), by rw [hm, show (tot es : Int) - 1 = ((tot es - 1 : Nat) : Int) by omega]; exact int_at (n := tot es - 1) (by omega), _, rfl, _, rfl, _, _, _, _, rfl, rfl, .inl (.inl hq3), by rw [hm]; exact int_at (n := tot es) (by omega), sz3, fun r hr => ?_⟩
    have r3 : H3 r = none := hr
    have rT : r ≠ T.P_cost := fun z => by
      obtain ⟨ps, e, _⟩ := tb.1
      rw [z, e] at r3; cases r3
    exact k r b' _ hperm hs (s2.free (by rw [← tb.2 r rT]; exact r3)) upd_same (((Same.but (a := T.P_cost) s2).trans (tabbed_but tb)).trans (But.new hr)) (TabG.same tb.1 (Same.new hr))

theorem ok_law_far (T : Txt P K mg) (B : Tb T base) : FnOk P w K mg base CX0 3 T.a_law_far T.d_law_far ["_law_source_here"] (spFar) := by
  refine T.F_law_far.ok sc_law_far (fun vs H Q E h => ?_) (fun cdv A outer s H vs Q E hr h => ?_)
  · obtain ⟨a, rfl, _⟩ := h
    rfl
  refine ⟨_, (pss_cons (ps_set (i := 1) sc_law_far.nd rfl (Or.inl rfl) (pe_call (ok_law_draw T B) (hr.mono (by decide)) (by rfl) T.m_law_draw T.F_law_draw.kp T.b_law_draw .nil pass0 (pa_cons (pv 0) (pa_cons pe_int pa_nil)))) (pss_cons (ps_if (pt_cmpR op_eq (pv 1) pe_int (nomark _)) (pss_one (ps_ret (pe_op op_sub pe_int (pe_op op_pow pe_int pe_int)))) pss_nil) (pss_cons (ps_if (pt_cmpR op_eq (pv 1) pe_int (nomark _)) (pss_one (ps_ret (pe_op op_sub (pe_op op_pow pe_int pe_int) pe_int))) pss_nil) (pss_one (ps_ret (pe_call (ok_law_between T B) (hr.mono (by decide)) (by rfl) T.m_law_between T.F_law_between.kp T.b_law_between .nil pass0 (pa_cons (pv 0) (pa_cons (pe_op op_sub pe_int (pe_op op_pow pe_int pe_int)) (pa_cons (pe_op op_pow pe_int pe_int) pa_nil))))))))), ?_⟩
  obtain ⟨a, rfl, hs, k⟩ := h
  refine ⟨_, rfl, _, _, rfl, hs, by decide, by decide, fun sh H1 _ _ hs1 b1 => asg ?_⟩
  refine sqIf (b := decide (V.int sh = V.int 0)) (fun Q' q => ⟨_, rfl, rfl, _, rfl, q⟩) (fun c => ?_) (fun c => nxt ?_)
  · exact ⟨_, _, rfl, rfl, ⟨by decide, by decide, by decide⟩, _, _, rfl, rfl, k _ H1 hs1 b1⟩
  refine sqIf (b := decide (V.int sh = V.int 1)) (fun Q' q => ⟨_, rfl, rfl, _, rfl, q⟩) (fun c => ?_) (fun c => nxt ?_)
  · exact ⟨_, _, rfl, rfl, ⟨by decide, by decide, by decide⟩, _, _, rfl, rfl, k _ H1 hs1 b1⟩
  refine ⟨_, rfl, _, _, rfl, rfl, ⟨by decide, by decide, by decide⟩, _, _, rfl, rfl, _, _, rfl, rfl, ⟨by decide, by decide, by decide⟩, a, _, _, rfl, hs1, by decide, by decide, fun r H2 _ _ hs2 b2 => ?_⟩
  exact k r H2 hs2 (b1.trans b2)
theorem ok_law_estimates (T : Txt P K mg) (B : Tb T base) : FnOk P w K mg base CX0 3 T.a_law_estimates T.d_law_estimates ["_law_source_here", "_law_count", "_law_most"] (spEsts) := by
  refine T.F_law_estimates.ok sc_law_estimates (fun vs H Q E h => ?_) (fun cdv A outer s H vs Q E hr h => ?_)
  · obtain ⟨a, n, m, rfl, _⟩ := h
    rfl
  refine ⟨_, (pss_cons (ps_set (i := 3) sc_law_estimates.nd rfl (Or.inl rfl) (pe_lst pa_nil)) (pss_cons (ps_for PassesOwn.never rfl (pi_range1 (by rfl) T.z_range (pa_cons (pv 1) pa_nil)) (pg_name (i := 4) sc_law_estimates.nd rfl (Or.inl rfl)) (pss_cons (ps_set (i := 5) sc_law_estimates.nd rfl (Or.inl rfl) (pe_call (ok_law_draw T B) (hr.mono (by decide)) (by rfl) T.m_law_draw T.F_law_draw.kp T.b_law_draw .nil pass0 (pa_cons (pv 0) (pa_cons pe_int pa_nil)))) (pss_cons (ps_set (i := 6) sc_law_estimates.nd rfl (Or.inl rfl) (pe_call (ok_law_between T B) (hr.mono (by decide)) (by rfl) T.m_law_between T.F_law_between.kp T.b_law_between .nil pass0 (pa_cons (pv 0) (pa_cons (pe_op op_sub pe_int pe_int) (pa_cons pe_int pa_nil))))) (pss_cons (ps_set (i := 7) sc_law_estimates.nd rfl (Or.inl rfl) (pe_op op_add pe_int (pe_call (ok_law_draw T B) (hr.mono (by decide)) (by rfl) T.m_law_draw T.F_law_draw.kp T.b_law_draw .nil pass0 (pa_cons (pv 0) (pa_cons (pv 2) pa_nil))))) (pss_cons (ps_if (pt_cmpR op_gt (pv 4) pe_int (nomark _)) (pss_cons (ps_set (i := 8) sc_law_estimates.nd rfl (Or.inl rfl) (pe_ix ix_list (pv 3) (pe_call (ok_law_draw T B) (hr.mono (by decide)) (by rfl) T.m_law_draw T.F_law_draw.kp T.b_law_draw .nil pass0 (pa_cons (pv 0) (pa_cons (pv 4) pa_nil))) (fun _ _ => rfl))) (pss_cons (ps_if (PW.pt (pw_or (pt_cmpR op_eq (pv 5) pe_int (nomark _)) (pw_or1 (pt_cmpR op_eq (pv 5) pe_int (nomark _))))) (pss_one (ps_set (i := 7) sc_law_estimates.nd rfl (Or.inl rfl) (pe_ix ix_tup (pv 8) pe_int (fun _ _ => rfl)))) pss_nil) (pss_cons (ps_if (pt_cmpR op_eq (pv 5) pe_int (nomark _)) (pss_one (ps_set (i := 6) sc_law_estimates.nd rfl (Or.inl rfl) (pe_op op_add (pe_ix ix_tup (pv 8) pe_int (fun _ _ => rfl)) pe_int))) pss_nil) (pss_one (ps_if (pt_cmpR op_eq (pv 5) pe_int (nomark _)) (pss_one (ps_set (i := 6) sc_law_estimates.nd rfl (Or.inl rfl) (pe_ix ix_tup (pv 8) pe_int (fun _ _ => rfl)))) pss_nil))))) pss_nil) (pss_cons (ps_if (pt_cmpR op_gt (pv 6) pe_int (nomark _)) (pss_one (ps_set (i := 6) sc_law_estimates.nd rfl (Or.inl rfl) (pe_op op_sub (pv 6) pe_int))) pss_nil) (pss_cons (ps_set (i := 9) sc_law_estimates.nd rfl (Or.inl rfl) (pe_call (ok_law_draw T B) (hr.mono (by decide)) (by rfl) T.m_law_draw T.F_law_draw.kp T.b_law_draw .nil pass0 (pa_cons (pv 0) (pa_cons (pe_op op_add pe_int (pe_call (ok_law_draw T B) (hr.mono (by decide)) (by rfl) T.m_law_draw T.F_law_draw.kp T.b_law_draw .nil pass0 (pa_cons (pv 0) (pa_cons pe_int pa_nil)))) pa_nil)))) (pss_one (ps_expr (pe_bm PySem.F.plainAttrs_list PySem.F.slot_list_append PySem.F.type_list_append mt_append (pv 3) (pa_cons (pe_tup (pa_cons (pv 6) (pa_cons (pe_op op_add (pv 6) (pv 9)) (pa_cons (pv 7) pa_nil)))) pa_nil))))))))))) (pss_one (ps_ret (pv 3))))), ?_⟩
  obtain ⟨a, n, m, rfl, hs, hn, m1, m99, k⟩ := h
  refine ⟨Nat.zero_le _, fun f hf => asg ?_⟩
  have fa : f ≠ a := hs.ne hf
  refine ⟨_, rfl, _, rfl, by omega, by omega, for_range (lo := 0) (n := n) (fun i σ H' => ∃ (ts : List Addr) (es : List Es) (v4 v5 v6 v7 v8 v9 : Option V), σ = [some (.ref a), some (.int (n : Int)), some (.int m), some (.ref f), v4, v5, v6, v7, v8, v9] ∧ es.length = i ∧ EsI H a f H' ts es)
    ⟨[], [], none, none, none, none, none, none, rfl, rfl, upd_same, ⟨rfl, fun i t e h => by simp at h⟩, (fun e he => nomatch he), hs.same (Same.new hf), But.new hf⟩ ?_ ?_⟩
  · rintro i σ H1 hi ⟨ts, es, v4, v5, v6, v7, v8, v9, rfl, hes, I⟩
    refine ⟨_, rfl, _, _, rfl, I.src, by decide, by decide, fun sh H2 _ _ hs2 b2 => asg ?_⟩
    have I2 := I.draw b2 hs2 fa
    refine ⟨_, rfl, _, _, rfl, rfl, a, _, _, rfl, hs2, by decide, by decide, fun lo H3 _ _ hs3 b3 => asg ?_⟩
    have I3 := I2.draw b3 hs3 fa
    refine ⟨_, rfl, _, rfl, _, _, rfl, hs3, by omega, by omega, fun r H4 r0 r1 hs4 b4 => ⟨_, _, rfl, rfl, asg ?_⟩⟩
    have I4 := I3.draw b4 hs4 fa
    refine cutS (M := fun σ' H' => ∃ (lo : Int) (w : Nat) (v8 : Option V), σ' = [some (.ref a), some (.int (n : Int)), some (.int m), some (.ref f), some (.int (0 + (i : Int))), some (.int sh), some (.int lo), some (.int (w : Int)), v8, v9] ∧ 1 ≤ w ∧ w ≤ 99 ∧ EsI H a f H' ts es) ?_ (fun M => ?_)
    rotate_left
    · refine sqIf (b := decide ((0 : Int) < 0 + (i : Int))) (fun Q' q => ⟨_, rfl, _, _, rfl, rfl, _, rfl, q⟩) (fun c => ?_) (fun c => nxt (M _ _ ⟨lo, (1 + r).toNat, v8, ?_, by omega, by omega, I4⟩))
      rotate_left
      · exact congrArg (fun z : Int => [some (V.ref a), some (V.int (n : Int)), some (V.int m), some (V.ref f), some (V.int (0 + (i : Int))), some (V.int sh), some (V.int lo), some (V.int z), v8, v9]) (show 1 + r = (((1 + r).toNat : Nat) : Int) by omega)
      have ci := of_decide_eq_true c
      refine ⟨_, rfl, _, rfl, _, rfl, _, _, rfl, hs4, by omega, by omega, fun r5 H5 r50 r51 hs5 b5 => ?_⟩
      have I5 := I4.draw b5 hs5 fa
      obtain ⟨j, rfl⟩ := Int.eq_ofNat_of_zero_le r50
      have hj : j < es.length := by omega
      have hjt : j < ts.length := by rw [I5.tri.1]; exact hj
      have et : ts[j]? = some ts[j] := List.getElem?_eq_getElem hjt
      have ht := I5.tri.2 j _ _ et (List.getElem?_eq_getElem hj)
      have oe := I5.ok _ (List.getElem_mem hj)
      refine ⟨_, _, _, _, rfl, rfl, .inl (.inl I5.hf), atI_nat (by rw [List.getElem?_map, et]; rfl), asg ?_⟩
      generalize ts[j] = t at ht
      generalize es[j] = e at ht oe
      refine cutS (M := fun σ' H' => ∃ (w : Nat), σ' = [some (.ref a), some (.int (n : Int)), some (.int m), some (.ref f), some (.int (0 + (i : Int))), some (.int sh), some (.int lo), some (.int (w : Int)), some (.ref t), v9] ∧ 1 ≤ w ∧ w ≤ 99 ∧ H5 = H') ?_ (fun M1 => ?_)
      rotate_left
      · refine sqIf (put_or (a := decide (V.int sh = V.int 1)) (b := decide (V.int sh = V.int 2)) (fun Q' q => ⟨_, rfl, rfl, _, rfl, q⟩) (fun _ Q' q => ⟨_, rfl, rfl, _, rfl, q⟩)) (fun _ => ?_) (fun _ => nxt (M1 _ _ ⟨(1 + r).toNat, ?_, by omega, by omega, rfl⟩))
        · exact ⟨_, rfl, _, _, 2, _, rfl, rfl, .inl (.inl ht), rfl, asg (M1 _ _ ⟨e.w, rfl, oe.2.1, oe.2.2, rfl⟩)⟩
        · exact congrArg (fun z : Int => [some (V.ref a), some (V.int (n : Int)), some (V.int m), some (V.ref f), some (V.int (0 + (i : Int))), some (V.int sh), some (V.int lo), some (V.int z), some (V.ref t), v9]) (show 1 + r = (((1 + r).toNat : Nat) : Int) by omega)
      rintro σ' H' ⟨w, rfl, w1, w99, rfl⟩
      refine cutS (M := fun σ' H' => ∃ (lo : Int), σ' = [some (.ref a), some (.int (n : Int)), some (.int m), some (.ref f), some (.int (0 + (i : Int))), some (.int sh), some (.int lo), some (.int (w : Int)), some (.ref t), v9] ∧ H5 = H') ?_ (fun M2 => ?_)
      rotate_left
      · refine sqIf (b := decide (V.int sh = V.int 2)) (fun Q' q => ⟨_, rfl, rfl, _, rfl, q⟩) (fun _ => ?_) (fun _ => nxt (M2 _ _ ⟨lo, rfl, rfl⟩))
        exact ⟨_, rfl, _, _, 1, _, rfl, rfl, .inl (.inl ht), rfl, _, _, rfl, rfl, asg (M2 _ _ ⟨_, rfl, rfl⟩)⟩
      rintro σ' H' ⟨lo2, rfl, rfl⟩
      refine ifS_of (b := decide (V.int sh = V.int 3)) (fun Q' q => ⟨_, rfl, rfl, _, rfl, q⟩) (fun _ => ?_) (fun _ => nxt (M _ _ ⟨lo2, w, _, rfl, w1, w99, I5⟩))
      exact ⟨_, rfl, _, _, 0, _, rfl, rfl, .inl (.inl ht), rfl, asg (M _ _ ⟨_, w, _, rfl, w1, w99, I5⟩)⟩
    rintro σ' H5 ⟨lo, w, v8, rfl, w1, w99, I5⟩
    refine cutS (M := fun σ' H' => ∃ (lo : Int), σ' = [some (.ref a), some (.int (n : Int)), some (.int m), some (.ref f), some (.int (0 + (i : Int))), some (.int sh), some (.int lo), some (.int (w : Int)), v8, v9] ∧ H5 = H') ?_ (fun M => ?_)
    rotate_left
    · refine sqIf (b := decide ((12 : Int) < lo)) (fun Q' q => ⟨_, rfl, _, _, rfl, rfl, _, rfl, q⟩) (fun _ => ?_) (fun _ => nxt (M _ _ ⟨lo, rfl, rfl⟩))
      exact ⟨_, rfl, _, _, rfl, rfl, asg (M _ _ ⟨_, rfl, rfl⟩)⟩
    rintro σ' H5' ⟨lo, rfl, rfl⟩
    refine ⟨_, rfl, _, rfl, _, _, rfl, I5.src, by decide, by decide, fun r6 H6 r60 r61 hs6 b6 => ?_⟩
    have I6 := I5.draw b6 hs6 fa
    refine ⟨_, _, rfl, rfl, _, _, rfl, hs6, by omega, by omega, fun r7 H7 r70 r71 hs7 b7 => asg ?_⟩
    have I7 := I6.draw b7 hs7 fa
    refine ⟨_, rfl, .inl ⟨rfl, _, .inl (.inl I7.hf)⟩, _, rfl, _, rfl, _, rfl, _, _, rfl, rfl, _, rfl, sz3, fun t ht => ?_⟩
    have s8 : Same H7 (upd H7 t (.tup [.int lo, .int (lo + r7), .int (w : Int)])) := Same.new ht
    refine ⟨f, _, _, rfl, rfl, s8 _ _ I7.hf, small6 (by rw [List.length_map, I7.tri.1]; omega), ?_⟩
    have P7 := I7.push (e := Es.mk lo (lo + r7) w) fa hf ht ⟨by show lo ≤ lo + r7; omega, w1, w99⟩
    exact ⟨ts ++ [t], es ++ [Es.mk lo (lo + r7) w], _, _, _, _, _, _, rfl, by simp [hes], P7⟩
  · rintro σ H1 ⟨ts, es, v4, v5, v6, v7, v8, v9, rfl, hes, I⟩
    exact ⟨_, rfl, k f ts es H1 hf ⟨I.hf, I.tri, I.ok, by omega⟩ hes I.src I.but⟩
theorem ok_law_moved (T : Txt P K mg) (B : Tb T base) : FnOk P w K mg base CX0 4 T.a_law_moved T.d_law_moved ["_law_source_here", "_law_rows"] (spMoved) := by
  refine T.F_law_moved.ok sc_law_moved (fun vs H Q E h => ?_) (fun cdv A outer s H vs Q E hr h => ?_)
  · obtain ⟨a, r, ts, es, rfl, _⟩ := h
    rfl
  refine ⟨_, (pss_cons (ps_set (i := 2) sc_law_moved.nd rfl (Or.inl rfl) (pe_call (ok_law_draw T B) (hr.mono (by decide)) (by rfl) T.m_law_draw T.F_law_draw.kp T.b_law_draw .nil pass0 (pa_cons (pv 0) (pa_cons pe_int pa_nil)))) (pss_cons (ps_if (pt_cmpR op_gt (pv 2) pe_int (nomark _)) (pss_one (ps_ret (pv 1))) pss_nil) (pss_cons (ps_set (i := 3) sc_law_moved.nd rfl (Or.inl rfl) (pe_call (ok_law_far T B) (hr.mono (by decide)) (by rfl) T.m_law_far T.F_law_far.kp T.b_law_far .nil pass0 (pa_cons (pv 0) pa_nil))) (pss_cons (ps_set (i := 4) sc_law_moved.nd rfl (Or.inl rfl) (pv 3)) (pss_cons (ps_if (pt_cmpR op_eq (pv 2) pe_int (nomark _)) (pss_one (ps_set (i := 4) sc_law_moved.nd rfl (Or.inl rfl) (pe_call (ok_law_far T B) (hr.mono (by decide)) (by rfl) T.m_law_far T.F_law_far.kp T.b_law_far .nil pass0 (pa_cons (pv 0) pa_nil)))) pss_nil) (pss_cons (ps_set (i := 5) sc_law_moved.nd rfl (Or.inl rfl) (pe_callB cr_sortedI (by rfl) T.z_sorted (by decide +kernel) (pa_cons (pe_lst (pa_cons (pv 3) (pa_cons (pv 4) pa_nil))) pa_nil))) (pss_cons (ps_set (i := 6) sc_law_moved.nd rfl (Or.inl rfl) (pe_lst pa_nil)) (pss_cons (ps_for PassesOwn.never rfl (pi_list (pv 1)) (pg_name (i := 7) sc_law_moved.nd rfl (Or.inl rfl)) (pss_cons (ps_set (i := 8) sc_law_moved.nd rfl (Or.inl rfl) (pe_call (ok_law_draw T B) (hr.mono (by decide)) (by rfl) T.m_law_draw T.F_law_draw.kp T.b_law_draw .nil pass0 (pa_cons (pv 0) (pa_cons pe_int pa_nil)))) (pss_one (ps_expr (pe_bm PySem.F.plainAttrs_list PySem.F.slot_list_append PySem.F.type_list_append mt_append (pv 6) (pa_cons (pe_tup (pa_cons (pe_op op_add (pe_ix ix_tup (pv 7) pe_int (fun _ _ => rfl)) (pe_ix ix_list (pv 5) (pe_op op_fdiv (pv 8) pe_int) (fun _ _ => rfl))) (pa_cons (pe_op op_add (pe_ix ix_tup (pv 7) pe_int (fun _ _ => rfl)) (pe_ix ix_list (pv 5) (pe_callB (call_min2 rfl) (by rfl) T.z_min (by decide +kernel) (pa_cons (pv 8) (pa_cons pe_int pa_nil))) (fun _ _ => rfl))) (pa_cons (pe_ix ix_tup (pv 7) pe_int (fun _ _ => rfl)) pa_nil)))) pa_nil)))))) (pss_one (ps_ret (pv 6))))))))))), ?_⟩
  obtain ⟨a, r, ts, es, rfl, hs, ra, R, k⟩ := h
  refine ⟨_, rfl, _, _, rfl, hs, by decide, by decide, fun sh H1 _ _ hs1 b1 => asg ?_⟩
  have R1 := R.but b1 hs ra
  refine sqIf (b := decide ((1 : Int) < sh)) (fun Q' q => ⟨_, rfl, _, _, rfl, rfl, _, rfl, q⟩) (fun c => ⟨_, rfl, k r ts es H1 R1 rfl hs1 b1 (.inl rfl)⟩) (fun c => nxt ?_)
  refine ⟨_, rfl, a, rfl, hs1, fun one H2 hs2 b2 => asg ⟨_, rfl, asg ?_⟩⟩
  have R2 := R1.but b2 hs1 ra
  have B2 := b1.trans b2
  refine cutS (M := fun σ' H' => ∃ (oth : Int), σ' = [some (.ref a), some (.ref r), some (.int sh), some (.int one), some (.int oth), none, none, none, none] ∧ RwX H' r ts es ∧ Src H' a ∧ But a H H') ?_ (fun M => ?_)
  rotate_left
  · refine sqIf (b := decide (V.int sh = V.int 1)) (fun Q' q => ⟨_, rfl, rfl, _, rfl, q⟩) (fun _ => ?_) (fun _ => nxt (M _ _ ⟨one, rfl, R2, hs2, B2⟩))
    exact ⟨_, rfl, a, rfl, hs2, fun oth H3 hs3 b3 => asg (M _ _ ⟨oth, rfl, R2.but b3 hs2 ra, hs3, B2.trans b3⟩)⟩
  rintro σ' H3 ⟨oth, rfl, R3, hs3, B3⟩
  refine ⟨_, rfl, _, rfl, sz2, fun d hd => ⟨d, [one, oth], rfl, .inl (.inl upd_same), fun ms mv hp hpw hmv => asg ?_⟩⟩
  have s4 : Same H3 (upd (upd H3 d (.lst [.int one, .int oth])) mv (.lst (ms.map V.int))) := (Same.new hd).trans (Same.new hmv)
  have hm4 := upd_same (H := upd H3 d (.lst [.int one, .int oth])) (a := mv) (o := .lst (ms.map V.int))
  have mva : mv ≠ a := (hs3.same (Same.new (o := .lst [V.int one, V.int oth]) hd)).ne hmv
  obtain ⟨x, y, rfl, hxy⟩ : ∃ x y, ms = [x, y] ∧ x ≤ y := by
    have l2 := hp.length_eq
    match ms, l2, hpw with
    | [x, y], _, hpw => exact ⟨x, y, rfl, by simpa using hpw⟩
  generalize upd (upd H3 d (.lst [.int one, .int oth])) mv (.lst ([x, y].map V.int)) = H4 at s4 hm4 ⊢
  have hs4 := hs3.same s4
  have B4 : But a H H4 := B3.trans (Same.but s4)
  have R4 := R3.same s4
  refine ⟨Nat.zero_le _, fun f hf => asg ?_⟩
  have fa : f ≠ a := hs4.ne hf
  have mvf : mv ≠ f := ne_of_none hm4 hf
  have rf : r ≠ f := ne_of_none R4.li hf
  have f0 : H f = none := B4.free hf fa
  refine ⟨_, rfl, r, rfl, ⟨_, .inl (.inl (Same.new hf _ _ R4.li))⟩, for_list (K := K) (a := r) (xs := ts.map V.ref) (fun i σ H' => ∃ (us : List Addr) (fs : List Es) (v7 v8 : Option V), σ = [some (.ref a), some (.ref r), some (.int sh), some (.int one), some (.int oth), some (.ref mv), some (.ref f), v7, v8] ∧ fs.length = i ∧ EsI H a f H' us fs ∧ RwX H' r ts es ∧ H' mv = some (.lst [.int x, .int y]))
    ⟨[], [], none, none, rfl, rfl, ⟨upd_same, ⟨rfl, fun i t e h => by simp at h⟩, (fun e he => nomatch he), hs4.same (Same.new hf), B4.trans (But.new hf)⟩, R4.same (Same.new hf), (upd_ne mvf).trans hm4⟩ (fun i σ H' _ ⟨_, _, _, _, _, _, _, q, _⟩ => .inl (.inl q.li)) ?_ ?_⟩
  · rintro i z σ H5 hz ⟨us, fs, v7, v8, rfl, hfs, I, R5, hmv5⟩
    obtain ⟨t, e, rfl, he, ht⟩ := R5.tr.at hz
    have oe := R5.ok _ (List.mem_of_getElem? he)
    have hi : i < 100 := by
      have := (List.getElem?_eq_some_iff.mp he).1
      have := R5.le
      omega
    refine ⟨_, rfl, _, _, rfl, I.src, by decide, by decide, fun g H6 g0 g1 hs6 b6 => asg ?_⟩
    have I6 := I.draw b6 hs6 fa
    have R6 := R5.but b6 I.src ra
    have hmv6 := b6 _ _ mva hmv5
    have ht6 : H6 t = some (.tup (etup e)) := by
      obtain ⟨t', e', h1, h2, h3⟩ := R6.tr.at hz
      cases h1
      rw [he] at h2
      cases h2
      exact h3
    have hg : g = 0 ∨ g = 1 ∨ g = 2 := by omega
    have smf : (us.map V.ref).length < sizeLine := small6 (by rw [List.length_map, I6.tri.1]; omega)
    rcases hg with rfl | rfl | rfl
    · refine ⟨_, rfl, .inl ⟨rfl, _, .inl (.inl I6.hf)⟩, _, rfl, _, _, 0, _, rfl, rfl, .inl (.inl ht6), rfl, _, rfl, _, rfl, _, _, rfl, rfl, ⟨by decide, by decide⟩, _, _, _, _, rfl, rfl, .inl (.inl hmv6), rfl, _, _, rfl, rfl, ?_⟩
      refine ⟨_, rfl, _, _, 1, _, rfl, rfl, .inl (.inl ht6), rfl, _, rfl, _, rfl, _, _, rfl, _, _, _, _, rfl, rfl, .inl (.inl hmv6), rfl, _, _, rfl, rfl, _, rfl, _, _, 2, _, rfl, rfl, .inl (.inl ht6), rfl, sz3, fun tn htn => ?_⟩
      obtain ⟨P1, P2, P3⟩ := mv_step (p := x) (q := x) I6 R6 hmv6 fa f0 rf mvf htn oe (Int.le_refl _)
      refine ⟨f, _, _, rfl, rfl, Same.new htn _ _ I6.hf, smf, ?_⟩
      exact ⟨us ++ [tn], fs ++ [Es.mk (e.l + x) (e.h + x) e.w], _, _, rfl, by simp [hfs], P1, P2, P3⟩
    · refine ⟨_, rfl, .inl ⟨rfl, _, .inl (.inl I6.hf)⟩, _, rfl, _, _, 0, _, rfl, rfl, .inl (.inl ht6), rfl, _, rfl, _, rfl, _, _, rfl, rfl, ⟨by decide, by decide⟩, _, _, _, _, rfl, rfl, .inl (.inl hmv6), rfl, _, _, rfl, rfl, ?_⟩
      refine ⟨_, rfl, _, _, 1, _, rfl, rfl, .inl (.inl ht6), rfl, _, rfl, _, rfl, _, _, rfl, _, _, _, _, rfl, rfl, .inl (.inl hmv6), rfl, _, _, rfl, rfl, _, rfl, _, _, 2, _, rfl, rfl, .inl (.inl ht6), rfl, sz3, fun tn htn => ?_⟩
      obtain ⟨P1, P2, P3⟩ := mv_step (p := x) (q := y) I6 R6 hmv6 fa f0 rf mvf htn oe (hxy)
      refine ⟨f, _, _, rfl, rfl, Same.new htn _ _ I6.hf, smf, ?_⟩
      exact ⟨us ++ [tn], fs ++ [Es.mk (e.l + x) (e.h + y) e.w], _, _, rfl, by simp [hfs], P1, P2, P3⟩
    · refine ⟨_, rfl, .inl ⟨rfl, _, .inl (.inl I6.hf)⟩, _, rfl, _, _, 0, _, rfl, rfl, .inl (.inl ht6), rfl, _, rfl, _, rfl, _, _, rfl, rfl, ⟨by decide, by decide⟩, _, _, _, _, rfl, rfl, .inl (.inl hmv6), rfl, _, _, rfl, rfl, ?_⟩
      refine ⟨_, rfl, _, _, 1, _, rfl, rfl, .inl (.inl ht6), rfl, _, rfl, _, rfl, _, _, rfl, _, _, _, _, rfl, rfl, .inl (.inl hmv6), rfl, _, _, rfl, rfl, _, rfl, _, _, 2, _, rfl, rfl, .inl (.inl ht6), rfl, sz3, fun tn htn => ?_⟩
      obtain ⟨P1, P2, P3⟩ := mv_step (p := y) (q := y) I6 R6 hmv6 fa f0 rf mvf htn oe (Int.le_refl _)
      refine ⟨f, _, _, rfl, rfl, Same.new htn _ _ I6.hf, smf, ?_⟩
      exact ⟨us ++ [tn], fs ++ [Es.mk (e.l + y) (e.h + y) e.w], _, _, rfl, by simp [hfs], P1, P2, P3⟩
  · rintro σ H5 ⟨us, fs, v7, v8, rfl, hfs, I, R5, _⟩
    exact ⟨_, rfl, k f us fs H5 ⟨I.hf, I.tri, I.ok, by rw [hfs, R.len]; exact R.le⟩ (by rw [hfs, R.len]) I.src I.but (.inr f0)⟩

theorem ok_law_marks (T : Txt P K mg) (B : Tb T base) : FnOk P w K mg base CX0 1 T.a_law_marks T.d_law_marks ["_law_rows"] (spMarks) := by
  refine T.F_law_marks.ok sc_law_marks (fun vs H Q E h => ?_) (fun cdv A outer s H vs Q E hr h => ?_)
  · obtain ⟨r, ts, es, rfl, _⟩ := h
    rfl
  refine ⟨_, (pss_cons (ps_set (i := 1) sc_law_marks.nd rfl (Or.inl rfl) (pe_lst pa_nil)) (pss_cons (ps_for PassesOwn.never rfl (pi_list (pv 0)) (pg_name (i := 2) sc_law_marks.nd rfl (Or.inl rfl)) (pss_one (ps_expr (pe_bm PySem.F.plainAttrs_list PySem.F.slot_list_extend PySem.F.type_list_extend mt_extend (pv 1) (pa_cons (pe_lst (pa_cons (pe_op op_sub (pe_ix ix_tup (pv 2) pe_int (fun _ _ => rfl)) pe_int) (pa_cons (pe_ix ix_tup (pv 2) pe_int (fun _ _ => rfl)) (pa_cons (pe_ix ix_tup (pv 2) pe_int (fun _ _ => rfl)) (pa_cons (pe_op op_add (pe_ix ix_tup (pv 2) pe_int (fun _ _ => rfl)) pe_int) pa_nil))))) pa_nil))))) (pss_one (ps_ret (pe_callB cr_sortedI (by rfl) T.z_sorted (by decide +kernel) (pa_cons (pv 1) pa_nil)))))), ?_⟩
  obtain ⟨r, ts, es, rfl, R, k⟩ := h
  refine ⟨Nat.zero_le _, fun b hb => asg ?_⟩
  refine ⟨_, rfl, r, rfl, ⟨_, .inl (.inl (Same.new hb _ _ R.li))⟩, for_list (K := K) (a := r) (xs := ts.map V.ref) (fun i σ H' => ∃ (ns : List Int) (v2 : Option V), σ = [some (.ref r), some (.ref b), v2] ∧ ns.length = 4 * i ∧ H' b = some (.lst (ns.map V.int)) ∧ Same H H')
    ⟨[], none, rfl, rfl, upd_same, Same.new hb⟩ (fun i σ H' _ ⟨_, _, _, _, _, s⟩ => .inl (.inl (s _ _ R.li))) ?_ ?_⟩
  · rintro i z σ H1 hz ⟨ns, v2, rfl, hn, hB, s1⟩
    obtain ⟨t, e, rfl, he, ht⟩ := (R.same s1).tr.at hz
    have hi : i < es.length := (List.getElem?_eq_some_iff.mp he).1
    have le := R.le
    refine ⟨_, rfl, .inl ⟨rfl, _, .inl (.inl hB)⟩, _, rfl, _, _, 0, _, rfl, rfl, .inl (.inl ht), rfl, _, _, rfl, rfl, _, rfl, _, _, 0, _, rfl, rfl, .inl (.inl ht), rfl, _, rfl, _, _, 1, _, rfl, rfl, .inl (.inl ht), rfl, _, rfl, _, _, 1, _, rfl, rfl, .inl (.inl ht), rfl, _, _, rfl, rfl, sz4, fun d hd => ?_⟩
    refine ⟨b, d, _, _, rfl, rfl, (upd_ne (ne_of_none hB hd)).trans hB, upd_same, small6' (by rw [List.length_map]; show ns.length + 4 ≤ 100000; omega), ?_⟩
    exact ⟨ns ++ [e.l - 1, e.l, e.h, e.h + 1], _, rfl, by simp [hn]; omega, by rw [upd_same, List.map_append]; rfl, (s1.trans (Same.new hd)).upd' hb⟩
  · rintro σ H1 ⟨ns, v2, rfl, hn, hB, s1⟩
    refine ⟨_, rfl, b, ns, rfl, .inl (.inl hB), fun ms l hp hs hl => ?_⟩
    have le := R.le
    rw [R.len] at hn
    exact k l ms _ (s1.free hl) upd_same (by rw [hp.length_eq, hn]; omega) (s1.trans (Same.new hl))
theorem ok_law_cost (T : Txt P K mg) (B : Tb T base) : FnOk P w K mg base CX0 1 T.a_law_cost T.d_law_cost ["_law_rows", "_law_value"] (spLCost) := by
  refine T.F_law_cost.ok sc_law_cost (fun vs H Q E h => ?_) (fun cdv A outer s H vs Q E hr h => ?_)
  · obtain ⟨r, v, ts, es, rfl, _⟩ := h
    rfl
  refine ⟨_, (pss_one (ps_ret (pe_callB (cr_sum rfl) (by rfl) T.z_sum (by decide +kernel) (pa_cons (pe_lc (own := [("_law_row", 2)]) (g := gName 2) (tt := tYes) (by rfl) sc_law_cost.nd (pi_list (pv 0)) (blkOk_by (own := [("_law_row", 2)]) (N := ["_law_rows", "_law_value", "_law_row"]) (sc := defScope s_law_cost) (by decide +kernel)) (fun _ _ _ _ _ => pg_name (i := 2) sc_law_cost.nd rfl (Or.inl rfl)) (fun _ _ _ _ _ => pts_nil) (fun _ _ _ _ _ => (pe_op op_mul (pe_ix (show IxR _ (rIxT K) from ix_tup) (pv 2) pe_int (fun _ _ => rfl)) (pe_callB (call_max3i rfl) (by rfl) T.z_max (by decide +kernel) (pa_cons (pe_op op_sub (pe_ix (show IxR _ (rIxT K) from ix_tup) (pv 2) pe_int (fun _ _ => rfl)) (pv 1)) (pa_cons (pe_op op_sub (pv 1) (pe_ix (show IxR _ (rIxT K) from ix_tup) (pv 2) pe_int (fun _ _ => rfl))) (pa_cons pe_int pa_nil))))))) pa_nil)))), ?_⟩
  obtain ⟨r, v, ts, es, rfl, R, k⟩ := h
  refine ⟨_, rfl, r, rfl, ⟨_, .inl (.inl R.li)⟩, fun D hD => lc_list (K := K) (a := r) (xs := ts.map V.ref) (fun i H' => H' D = some (.lst (((es.take i).map fun e => (e.w : Int) * off e v).map V.int)) ∧ But D H H') ⟨by rw [upd_same]; rfl, But.upd⟩ (fun i H' _ q => .inl (.inl (q.2.same hD _ _ R.li))) ?_ ?_⟩
  · rintro i z H1 hz ⟨hd, bb⟩
    obtain ⟨t, e, rfl, he, ht⟩ := (R.same (bb.same hD)).tr.at hz
    have oe := R.ok _ (List.mem_of_getElem? he)
    have hi : i < es.length := (List.getElem?_eq_some_iff.mp he).1
    have le := R.le
    refine ⟨rfl, yesT ?_⟩
    refine ⟨_, rfl, _, _, 2, _, rfl, rfl, .inl (.inl ht), rfl, _, rfl, _, _, 0, _, rfl, rfl, .inl (.inl ht), rfl, _, rfl, _, _, rfl, rfl, _, rfl, _, rfl, _, _, 1, _, rfl, rfl, .inl (.inl ht), rfl, _, _, rfl, rfl, _, _, _, rfl, _, _, rfl, rfl, .inl ⟨by omega, by omega⟩, _, hd, small6 (by rw [List.length_map, List.length_map, List.length_take]; omega), ?_, bb.trans But.upd⟩
    rw [upd_same, take_snoc he, List.map_append, List.map_append]; rfl
  · rintro H1 ⟨hd, bb⟩
    rw [R.len, List.take_length] at hd
    exact ⟨D, _, rfl, .inl (.inl hd), k H1 (bb.same hD)⟩
theorem ok_law_bounds (T : Txt P K mg) (B : Tb T base) : FnOk P w K mg base CX0 1 T.a_law_bounds T.d_law_bounds ["_law_rows"] (spBounds) := by
  refine T.F_law_bounds.ok sc_law_bounds (fun vs H Q E h => ?_) (fun cdv A outer s H vs Q E hr h => ?_)
  · obtain ⟨r, ts, es, rfl, _⟩ := h
    rfl
  refine ⟨_, (pss_cons (ps_set (i := 1) sc_law_bounds.nd rfl (Or.inl rfl) (pe_lst pa_nil)) (pss_cons (ps_for PassesOwn.never rfl (pi_list (pv 0)) (pg_name (i := 2) sc_law_bounds.nd rfl (Or.inl rfl)) (pss_one (ps_expr (pe_bm PySem.F.plainAttrs_list PySem.F.slot_list_extend PySem.F.type_list_extend mt_extend (pv 1) (pa_cons (pe_op op_rep (pe_lst (pa_cons (pe_ix ix_tup (pv 2) pe_int (fun _ _ => rfl)) (pa_cons (pe_ix ix_tup (pv 2) pe_int (fun _ _ => rfl)) pa_nil))) (pe_ix ix_tup (pv 2) pe_int (fun _ _ => rfl))) pa_nil))))) (pss_one (ps_ret (pe_callB cr_sortedI (by rfl) T.z_sorted (by decide +kernel) (pa_cons (pv 1) pa_nil)))))), ?_⟩
  obtain ⟨r, ts, es, rfl, R, k⟩ := h
  refine ⟨Nat.zero_le _, fun b hb => asg ?_⟩
  refine ⟨_, rfl, r, rfl, ⟨_, .inl (.inl (Same.new hb _ _ R.li))⟩, for_list (K := K) (a := r) (xs := ts.map V.ref) (fun i σ H' => ∃ (v2 : Option V), σ = [some (.ref r), some (.ref b), v2] ∧ H' b = some (.lst ((bnd (es.take i)).map V.int)) ∧ Same H H')
    ⟨none, rfl, upd_same, Same.new hb⟩ (fun i σ H' _ ⟨_, _, _, s⟩ => .inl (.inl (s _ _ R.li))) ?_ ?_⟩
  · rintro i z σ H1 hz ⟨v2, rfl, hB, s1⟩
    obtain ⟨t, e, rfl, he, ht⟩ := (R.same s1).tr.at hz
    have oe := R.ok _ (List.mem_of_getElem? he)
    have sh := bnd_short R.ok R.le i
    refine ⟨_, rfl, .inl ⟨rfl, _, .inl (.inl hB)⟩, _, rfl, _, _, 0, _, rfl, rfl, .inl (.inl ht), rfl, _, rfl, _, _, 1, _, rfl, rfl, .inl (.inl ht), rfl, sz2, fun d hd => ?_⟩
    have bd : b ≠ d := ne_of_none hB hd
    refine ⟨_, rfl, _, _, 2, _, rfl, rfl, .inl (.inl (Same.new hd _ _ ht)), rfl, d, _, _, rfl, rfl, upd_same, by omega, by omega, small6' (by show 2 * ((e.w : Int)).toNat ≤ 100000; omega), fun u hu => ?_⟩
    have hB1 : upd H1 d (.lst [.int e.l, .int e.h]) b = some (.lst ((bnd (es.take i)).map V.int)) := (upd_ne bd).trans hB
    have bu : b ≠ u := ne_of_none hB1 hu
    refine ⟨b, u, _, _, rfl, rfl, (upd_ne bu).trans hB1, upd_same, small6' (by rw [List.length_map, rep_len]; show _ + 2 * ((e.w : Int)).toNat ≤ 100000; omega), ?_⟩
    refine ⟨_, rfl, ?_, (((s1.trans (Same.new hd)).trans (Same.new hu)).upd' hb)⟩
    rw [upd_same, bnd_take he]; rfl
  · rintro σ H1 ⟨v2, rfl, hB, s1⟩
    rw [R.len, List.take_length] at hB
    refine ⟨_, rfl, b, bnd es, rfl, .inl (.inl hB), fun ms l hp hs hl => ?_⟩
    exact k l ms _ hp hs (s1.free hl) upd_same (s1.trans (Same.new hl))
theorem ok_law_same (T : Txt P K mg) (B : Tb T base) : FnOk P w K mg base CX0 2 T.a_law_same T.d_law_same ["_law_told", "_law_due"] (spSame) := by
  refine T.F_law_same.ok sc_law_same (fun vs H Q E h => ?_) (fun cdv A outer s H vs Q E hr h => ?_)
  · obtain ⟨p, q, x, y, z, rfl, _⟩ := h
    rfl
  refine ⟨_, (pss_cons (ps_if (PW.pt (pw_or (pt_not (pt_val (pe_callB call_isi (by rfl) T.z_isinstance (by decide +kernel) (pa_cons (pv 0) (pa_cons (pe_bltn (v := .ty "tuple") (u := .type "tuple") (by rfl) T.z_tuple (by decide +kernel) rfl) pa_nil))))) (pw_or1 (pt_cmpR op_ne (pe_callB call_len_seq (by rfl) T.z_len (by decide +kernel) (pa_cons (pv 0) pa_nil)) pe_int (nomark _))))) (pss_one (ps_ret pe_bl)) pss_nil) (pss_cons (ps_for PassesOwn.never rfl (pi_tup (pv 0)) (pg_name (i := 2) sc_law_same.nd rfl (Or.inl rfl)) (pss_one (ps_if (pt_not (pt_val (pe_call (ok_law_whole T B) (hr.mono (by decide)) (by rfl) T.m_law_whole T.F_law_whole.kp T.b_law_whole .nil pass0 (pa_cons (pv 2) pa_nil)))) (pss_one (ps_ret pe_bl)) pss_nil))) (pss_one (ps_ret (pe_cmpR (op_eqD hr.units) (pv 0) (pv 1) (nomark _)))))), ?_⟩
  obtain ⟨p, q, x, y, z, rfl, hp, hq, k⟩ := h
  refine sqIf (put_is (b := false) (put_or (put_not (a := true) (fun Q' q => ⟨_, rfl, _, _, _, _, _, rfl, .ty _, .base (.tup hp), kit_ty kit_tup_tup, _, rfl, q⟩)) (fun _ Q' q => ⟨_, rfl, p, _, rfl, .inr (.inl (.inl hp)), rfl, _, rfl, q⟩)) (by rw [dec_int]; rfl)) (fun z => nomatch z) (fun _ => nxt ?_)
  have sq : SqT K H p [.int x, .int y, .int z] := .inl (.inl hp)
  refine ⟨_, rfl, p, rfl, ⟨_, sq⟩, for_any (n := 3) (fun i σ H' => H' = H ∧ ∃ v, σ = [some (.ref p), some (.ref q), v]) ⟨rfl, none, rfl⟩ (fun i σ H' hi e => ⟨_, [V.int x, V.int y, V.int z][i], e.1 ▸ sq, List.getElem?_eq_getElem hi⟩) (fun σ H' e => ⟨_, e.1 ▸ sq, Nat.le_refl _⟩) ?_ ?_⟩
  · rintro i u σ H1 H2 hi ⟨rfl, v, rfl⟩ ⟨rfl, hu⟩
    have hu := hu _ sq
    obtain ⟨n, rfl⟩ : ∃ n, u = V.int n := by
      match i, hu with
      | 0, hu => exact ⟨x, (Option.some.inj hu).symm⟩
      | 1, hu => exact ⟨y, (Option.some.inj hu).symm⟩
      | 2, hu => exact ⟨z, (Option.some.inj hu).symm⟩
    refine ifS_of (b := false) (put_not (a := true) (fun Q' q => ⟨_, rfl, _, rfl, _, rfl, q⟩)) (fun z => nomatch z) (fun _ => nxt ⟨rfl, some (.int n), rfl⟩)
  · rintro σ H' ⟨rfl, v, rfl⟩
    refine ⟨_, rfl, _, rfl, _, _, dp_t3 hp, dp_t3 hq, shaped_t3 x y z, shaped_t3 x y z, ?_⟩
    rw [SeqAt.eqv_refl _ (SeqAt.canLay_of_shaped (shaped_t3 x y z))]
    exact k
theorem ok_law (T : Txt P K mg) (B : Tb T base) : FnOk P w K mg base CX0 5 T.a_law T.d_law ["_law_script"] (spLaw K T.P_cost) := by
  refine T.F_law.ok sc_law (fun vs H Q E h => ?_) (fun cdv A outer s H vs Q E hr h => ?_)
  · obtain ⟨a, ns, rfl, _⟩ := h
    rfl
  refine ⟨_, (pss_cons (ps_set (i := 1) sc_law.nd rfl (Or.inl rfl) (pe_call (ok_law_source T B) (hr.mono (by decide)) (by rfl) T.m_law_source T.F_law_source.kp T.b_law_source .nil pass0 (pa_cons (pv 0) (pa_cons pe_int pa_nil)))) (pss_cons (ps_set (i := 2) sc_law.nd rfl (Or.inl rfl) (pe_op op_add pe_int (pe_call (ok_law_draw T B) (hr.mono (by decide)) (by rfl) T.m_law_draw T.F_law_draw.kp T.b_law_draw .nil pass0 (pa_cons (pv 1) (pa_cons pe_int pa_nil))))) (pss_cons (ps_if (pt_cmpR op_eq (pe_call (ok_law_draw T B) (hr.mono (by decide)) (by rfl) T.m_law_draw T.F_law_draw.kp T.b_law_draw .nil pass0 (pa_cons (pv 1) (pa_cons pe_int pa_nil))) pe_int (nomark _)) (pss_one (ps_set (i := 2) sc_law.nd rfl (Or.inl rfl) (pe_op op_add pe_int (pe_call (ok_law_draw T B) (hr.mono (by decide)) (by rfl) T.m_law_draw T.F_law_draw.kp T.b_law_draw .nil pass0 (pa_cons (pv 1) (pa_cons pe_int pa_nil)))))) pss_nil) (pss_cons (ps_set (i := 3) sc_law.nd rfl (Or.inl rfl) pe_int) (pss_cons (ps_if (pt_cmpR op_eq (pe_call (ok_law_draw T B) (hr.mono (by decide)) (by rfl) T.m_law_draw T.F_law_draw.kp T.b_law_draw .nil pass0 (pa_cons (pv 1) (pa_cons pe_int pa_nil))) pe_int (nomark _)) (pss_one (ps_set (i := 3) sc_law.nd rfl (Or.inl rfl) pe_int)) pss_nil) (pss_cons (ps_set (i := 4) sc_law.nd rfl (Or.inl rfl) (pe_call (ok_law_moved T B) (hr.mono (by decide)) (by rfl) T.m_law_moved T.F_law_moved.kp T.b_law_moved .nil pass0 (pa_cons (pe_call (ok_law_source T B) (hr.mono (by decide)) (by rfl) T.m_law_source T.F_law_source.kp T.b_law_source .nil pass0 (pa_cons (pv 0) (pa_cons pe_int pa_nil))) (pa_cons (pe_call (ok_law_estimates T B) (hr.mono (by decide)) (by rfl) T.m_law_estimates T.F_law_estimates.kp T.b_law_estimates .nil pass0 (pa_cons (pe_call (ok_law_source T B) (hr.mono (by decide)) (by rfl) T.m_law_source T.F_law_source.kp T.b_law_source .nil pass0 (pa_cons (pv 0) (pa_cons pe_int pa_nil))) (pa_cons (pv 2) (pa_cons (pv 3) pa_nil)))) pa_nil)))) (pss_cons (ps_set (i := 5) sc_law.nd rfl (Or.inl rfl) (pe_callTy call_list_of (by rfl) T.z_list (by decide +kernel) (pa_cons (pv 4) pa_nil))) (pss_cons (ps_if (pt_cmpR op_eq (pe_call (ok_law_draw T B) (hr.mono (by decide)) (by rfl) T.m_law_draw T.F_law_draw.kp T.b_law_draw .nil pass0 (pa_cons (pv 1) (pa_cons pe_int pa_nil))) pe_int (nomark _)) (pss_one (ps_set (i := 5) sc_law.nd rfl (Or.inl rfl) (pe_callTy call_tuple_of (by rfl) T.z_tuple (by decide +kernel) (pa_cons (pv 4) pa_nil)))) pss_nil) (pss_cons (ps_set (i := 6) sc_law.nd rfl (Or.inl rfl) (pe_call (ok_law_bounds T B) (hr.mono (by decide)) (by rfl) T.m_law_bounds T.F_law_bounds.kp T.b_law_bounds .nil pass0 (pa_cons (pv 4) pa_nil))) (pss_cons (ps_set (i := 7) sc_law.nd rfl (Or.inr rfl) (pe_ix ix_list (pv 6) (pe_op op_sub (pe_op op_fdiv (pe_callB call_len_seq (by rfl) T.z_len (by decide +kernel) (pa_cons (pv 6) pa_nil)) pe_int) pe_int) (fun _ _ => rfl))) (pss_cons (ps_set (i := 8) sc_law.nd rfl (Or.inl rfl) (pe_ix ix_list (pv 6) (pe_op op_fdiv (pe_callB call_len_seq (by rfl) T.z_len (by decide +kernel) (pa_cons (pv 6) pa_nil)) pe_int) (fun _ _ => rfl))) (pss_cons (ps_set (i := 9) sc_law.nd rfl (Or.inl rfl) (pe_call (ok_law_cost T B) (hr.mono (by decide)) (by rfl) T.m_law_cost T.F_law_cost.kp T.b_law_cost .nil pass0 (pa_cons (pv 4) (pa_cons (pv 7) pa_nil)))) (pss_cons (ps_for PassesOwn.never rfl (pi_range1 (by rfl) T.z_range (pa_cons pe_int pa_nil)) (pg_name (i := 10) sc_law.nd rfl (Or.inl rfl)) (pss_one (ps_if (PW.pt (pw_or (pt_not (pt_val (pe_call (ok_law_same T B) (hr.mono (by decide)) (by rfl) T.m_law_same T.F_law_same.kp T.b_law_same .nil pass0 (pa_cons (pe_call (ok_middle_span T B) (hr.mono (by decide)) (by rfl) T.m_middle_span T.F_middle_span.kp T.b_middle_span .nil pass0 (pa_cons (pv 5) pa_nil)) (pa_cons (pe_tup (pa_cons (pv 9) (pa_cons (pv 7) (pa_cons (pv 8) pa_nil)))) pa_nil))))) (pw_or1 (pt_cmpR (op_neD hr.units) (pe_callTy call_list_of (by rfl) T.z_list (by decide +kernel) (pa_cons (pv 5) pa_nil)) (pv 4) (nomark _))))) (pss_one (ps_ret pe_bl)) pss_nil))) (pss_cons (ps_set (i := 11) sc_law.nd rfl (Or.inl rfl) (pe_op op_cat (pe_call (ok_law_marks T B) (hr.mono (by decide)) (by rfl) T.m_law_marks T.F_law_marks.kp T.b_law_marks .nil pass0 (pa_cons (pv 4) pa_nil)) (pe_lc (own := [("_law_move", 14)]) (g := gName 14) (tt := tYes) (by rfl) sc_law.nd (pi_range2 (by rfl) T.z_range (pa_cons (pe_op op_sub pe_int pe_int) (pa_cons pe_int pa_nil))) (blkOk_by (own := [("_law_move", 14)]) (N := ["_law_script", "_law_shaped", "_law_count", "_law_most", "_law_rows", "_law_handed", "_law_bounds_here", "_law_low", "_law_high", "_law_least", "_law_turn", "_law_values", "_law_value", "_law_cost_here", "_law_move"]) (sc := defScope s_law) (by decide +kernel)) (fun _ _ _ _ _ => pg_name (i := 14) sc_law.nd rfl (Or.inl rfl)) (fun _ _ _ _ _ => pts_nil) (fun _ _ _ _ _ => (pe_op op_add (pv 7) (pv 14)))))) (pss_cons (ps_for PassesOwn.never rfl (pi_list (pe_op op_cat (pv 11) (pe_lst (pa_cons (pe_op op_fdiv (pe_op op_add (pv 7) (pv 8)) pe_int) (pa_cons (pe_op op_sub (pv 8) pe_int) (pa_cons (pe_op op_add (pv 8) pe_int) pa_nil)))))) (pg_name (i := 12) sc_law.nd rfl (Or.inl rfl)) (pss_cons (ps_set (i := 13) sc_law.nd rfl (Or.inl rfl) (pe_call (ok_law_cost T B) (hr.mono (by decide)) (by rfl) T.m_law_cost T.F_law_cost.kp T.b_law_cost .nil pass0 (pa_cons (pv 4) (pa_cons (pv 12) pa_nil)))) (pss_one (ps_if (PW.pt (pw_or (pt_cmpR op_lt (pv 13) (pv 9) (nomark _)) (pw_or1 (pt_cmpR op_ne (pe_cmpR op_eq (pv 13) (pv 9) (nomark _)) (pe_and (pe_cmpR op_le (pv 7) (pv 12) (nomark _)) (pe_one (pe_cmpR op_le (pv 12) (pv 8) (nomark _)))) (nomark _))))) (pss_one (ps_ret pe_bl)) pss_nil)))) (pss_one (ps_ret pe_bl))))))))))))))))), ?_⟩
  obtain ⟨a, sc, rfl, hS, _, hTb, k⟩ := h
  have tab0 : TabG H T.P_cost := ⟨#[], hTb, True.intro⟩
  refine ⟨_, rfl, a, sc, 0, rfl, hS, by decide, fun s1 H1 n1 e1 hs1 => asg ?_⟩
  refine ⟨_, rfl, _, _, rfl, hs1, by decide, by decide, fun r2 H2 r20 r21 hs2 b2 => ⟨_, _, rfl, rfl, asg ?_⟩⟩
  have Z2 := e1.but' n1 b2
  refine cutS (M := fun σ' H' => ∃ n : Nat, σ' = [some (.ref a), some (.ref s1), some (.int (n : Int)), none, none, none, none, none, none, none, none, none, none, none, none] ∧ 1 ≤ n ∧ n ≤ 40 ∧ Src H' s1 ∧ Same H H') ?_ (fun M => ?_)
  rotate_left
  · refine ⟨_, rfl, _, _, rfl, hs2, by decide, by decide, fun r3 H3 _ _ hs3 b3 => ?_⟩
    refine ⟨rfl, _, rfl, ite2 (fun _ => ?_) (fun _ => ?_)⟩
    · refine ⟨_, rfl, _, _, rfl, hs3, by decide, by decide, fun r4 H4 r40 r41 hs4 b4 => ⟨_, _, rfl, rfl, asg (M _ _ ⟨(1 + r4).toNat, ?_, by omega, by omega, hs4, (Z2.but' n1 b3).but' n1 b4⟩)⟩⟩
      exact congrArg (fun z : Int => [some (V.ref a), some (V.ref s1), some (V.int z), none, none, none, none, none, none, none, none, none, none, none, none]) (show 1 + r4 = (((1 + r4).toNat : Nat) : Int) by omega)
    · refine nxt (M _ _ ⟨(1 + r2).toNat, ?_, by omega, by omega, hs3, Z2.but' n1 b3⟩)
      exact congrArg (fun z : Int => [some (V.ref a), some (V.ref s1), some (V.int z), none, none, none, none, none, none, none, none, none, none, none, none]) (show 1 + r2 = (((1 + r2).toNat : Nat) : Int) by omega)
  rintro σ' H3 ⟨n, rfl, hn1, hn40, hs3, Z3⟩
  refine asg ?_
  refine cutS (M := fun σ' H' => ∃ m : Int, σ' = [some (.ref a), some (.ref s1), some (.int (n : Int)), some (.int m), none, none, none, none, none, none, none, none, none, none, none] ∧ 1 ≤ m ∧ m ≤ 99 ∧ Src H' s1 ∧ Same H H') ?_ (fun M => ?_)
  rotate_left
  · refine ⟨_, rfl, _, _, rfl, hs3, by decide, by decide, fun r4 H4 _ _ hs4 b4 => ?_⟩
    refine ⟨rfl, _, rfl, ite2 (fun _ => ?_) (fun _ => ?_)⟩
    · exact asg (M _ _ ⟨99, rfl, by decide, by decide, hs4, Z3.but' n1 b4⟩)
    · exact nxt (M _ _ ⟨4, rfl, by decide, by decide, hs4, Z3.but' n1 b4⟩)
  rintro σ' H4 ⟨m, rfl, m1, m99, hs4, Z4⟩
  refine ⟨_, rfl, a, sc, 2, rfl, Z4.seq hS, by decide, fun s2 H5 n5 e5 hs5 => ?_⟩
  have Z5 := Z4.trans e5
  have s2H : H s2 = none := Z4.free n5
  have s12 : s1 ≠ s2 := fun z => by
    obtain ⟨c, q, e⟩ := hs4
    rw [← z, e] at n5; cases n5
  have hs51 := hs4.same e5
  refine ⟨_, rfl, a, sc, 1, rfl, Z5.seq hS, by decide, fun s3 H6 n6 e6 hs6 => ?_⟩
  have Z6 := Z5.trans e6
  have s3H : H s3 = none := Z5.free n6
  have s23 : s2 ≠ s3 := fun z => by
    obtain ⟨c, q, e⟩ := hs5
    rw [← z, e] at n6; cases n6
  have s13 : s1 ≠ s3 := fun z => by
    obtain ⟨c, q, e⟩ := hs51
    rw [← z, e] at n6; cases n6
  have hs62 := hs5.same e6
  have hs61 := hs51.same e6
  refine ⟨_, rfl, _, rfl, s3, n, m, rfl, hs6, by omega, m1, m99, fun f ts0 es0 H7 f0 R7 hlen7 hs73 b7 => ?_⟩
  have Z7 := Z6.but' s3H b7
  have hs72 := hs62.at b7 s23
  have hs71 := hs61.at b7 s13
  have fs2 : f ≠ s2 := hs62.ne f0
  have fs1 : f ≠ s1 := hs61.ne f0
  refine ⟨s2, f, ts0, es0, rfl, hs72, fs2, R7, fun r ts es H8 R8 hlen8 hs82 b8 hr => asg ?_⟩
  have Z8 := Z7.but' s2H b8
  have hs81 := hs71.at b8 s12
  have rs1 : r ≠ s1 := by
    rcases hr with z | z
    · rw [z]; exact fs1
    · exact hs71.ne z
  have tab8 := TabG.same tab0 Z8
  have ne8 : es ≠ [] := fun z => by rw [z, hlen7] at hlen8; simp at hlen8; omega
  refine ⟨_, rfl, r, _, rfl, .inl (.inl (.inl R8.li)), fun hd hhd => asg ?_⟩
  have e9 : Same H8 (upd H8 hd (.lst (ts.map V.ref))) := Same.new hhd
  have hh9 := upd_same (H := H8) (a := hd) (o := .lst (ts.map V.ref))
  have hs91 := hs81.same e9
  have R9 := R8.same e9
  have tab9 := TabG.same tab8 e9
  have hds1 : hd ≠ s1 := hs81.ne hhd
  generalize upd H8 hd (.lst (ts.map V.ref)) = H9 at e9 hh9 hs91 R9 tab9 ⊢
  refine cutS (M := fun σ' H' => ∃ hd : Addr, σ' = [some (.ref a), some (.ref s1), some (.int (n : Int)), some (.int m), some (.ref r), some (.ref hd), none, none, none, none, none, none, none, none, none] ∧ LwI K T.P_cost r hd ts es H') ?_ (fun M => ?_)
  rotate_left
  · refine ⟨_, rfl, _, _, rfl, hs91, by decide, by decide, fun r10 H10 _ _ hs10 b10 => ?_⟩
    have R10 := R9.but b10 hs91 rs1
    have tab10 := TabG.but tab9 b10 hs91
    have hh10 := b10 _ _ hds1 hh9
    refine ⟨rfl, _, rfl, ite2 (fun _ => ?_) (fun _ => nxt (M _ _ ⟨hd, rfl, R10, .inl (.inl (.inl hh10)), tab10⟩))⟩
    refine ⟨_, rfl, r, _, rfl, .inl ⟨.inl (.inl R10.li), fun tp htp => asg (M _ _ ⟨tp, rfl, R10.same (Same.new htp), .inr (.inl (.inl upd_same)), TabG.same tab10 (Same.new htp)⟩)⟩⟩
  rintro σ' H10 ⟨hd, rfl, L⟩
  refine ⟨_, rfl, r, ts, es, rfl, L.r, fun bl b H11 hperm hsort bl0 hbl e11 => asg ?_⟩
  have ok := L.r.ok
  obtain ⟨hL, hlh, hmid⟩ := middle ne8 (fun e he => (ok e he).2.1) (fun e he => (ok e he).1) hperm hsort
  have tp := tot_pos ne8 (fun e he => (ok e he).2.1)
  have L11 : LwI K T.P_cost r hd ts es H11 := ⟨L.r.same e11, L.h.keep e11, TabG.same L.t e11⟩
  have hm : ((b.map V.int).length : Int) / 2 = (tot es : Int) := by rw [List.length_map, hL]; omega
  refine ⟨_, rfl, _, rfl, bl, _, rfl, .inl (.inl (.inl hbl)), _, _, rfl, rfl, ⟨by decide, by decide⟩, _, _, rfl, rfl, _, _, _, _, rfl, rfl, .inl (.inl hbl), by rw [hm, show (tot es : Int) - 1 = ((tot es - 1 : Nat) : Int) by omega]; exact int_at (n := tot es - 1) (by omega), asg ?_⟩
  refine ⟨_, rfl, _, rfl, bl, _, rfl, .inl (.inl (.inl hbl)), _, _, rfl, rfl, ⟨by decide, by decide⟩, _, _, _, _, rfl, rfl, .inl (.inl hbl), by rw [hm]; exact int_at (n := tot es) (by omega), asg ?_⟩
  refine ⟨_, rfl, _, rfl, r, _, ts, es, rfl, L11.r, fun H12 e12 => asg ?_⟩
  have L12 : LwI K T.P_cost r hd ts es H12 := ⟨L11.r.same e12, L11.h.keep e12, TabG.same L11.t e12⟩
  have same_hi : cst es (b.getD (tot es) 0) = cst es (b.getD (tot es - 1) 0) := ((hmid _).2.mpr ⟨hlh, Int.le_refl _⟩)
  have hbu : ∀ b' : List Int, b'.Perm (bnd es) → b'.Pairwise (· ≤ ·) → b' = b := fun b' p q => same_sorted (p.trans hperm.symm) q hsort
  generalize hlo : b.getD (tot es - 1) 0 = lo at hmid same_hi hlh
  generalize hhi : b.getD (tot es) 0 = hi at hmid same_hi hlh
  refine ⟨2, rfl, by decide, by decide, for_range (lo := 0) (n := 2) (fun i σ H' => ∃ v10, σ = [some (.ref a), some (.ref s1), some (.int (n : Int)), some (.int m), some (.ref r), some (.ref hd), some (.ref bl), some (.int lo), some (.int hi), some (.int (cst es lo)), v10, none, none, none, none] ∧ LwI K T.P_cost r hd ts es H') ⟨none, rfl, L12⟩ ?_ ?_⟩
  · rintro i σ H13 hi2 ⟨v10, rfl, L13⟩
    refine ⟨_, rfl, hd, es, rfl, ⟨ts, L13.h, L13.r.tr.tri⟩, ok, ne8, L13.r.le, L13.t, fun q b' H14 hp' hs' q0 hq bt tb => ?_⟩
    obtain rfl := hbu b' hp' hs'
    rw [hlo, hhi, same_hi] at hq
    refine ⟨_, rfl, _, rfl, _, rfl, sz3, fun d hd' => ?_⟩
    have L14 : LwI K T.P_cost r hd ts es H14 := ⟨L13.r.tab bt L13.t, sqa_but L13.h L13.t bt, tb⟩
    have e15 : Same H14 (upd H14 d (.tup [.int (cst es lo), .int lo, .int hi])) := Same.new hd'
    have L15 : LwI K T.P_cost r hd ts es _ := ⟨L14.r.same e15, L14.h.keep e15, TabG.same L14.t e15⟩
    refine ⟨q, d, _, _, _, rfl, e15 _ _ hq, upd_same, _, rfl, iteF ?_⟩
    refine ⟨_, rfl, hd, _, rfl, L15.h, fun l hl => ?_⟩
    have e16 := Same.new (o := .lst (ts.map V.ref)) hl
    refine ⟨_, rfl, _, _, .lst (.inl (.inl upd_same)) (dp_es (L15.r.tr.same e16).tri), .lst (.inl (.inl (e16 _ _ L15.r.li))) (dp_es (L15.r.tr.same e16).tri), shaped_es es, shaped_es es, _, rfl, ?_⟩
    rw [eqv_es]
    exact iteF (nxt ⟨_, rfl, L15.r.same e16, L15.h.keep e16, TabG.same L15.t e16⟩)
  · rintro σ H13 ⟨v10, rfl, L13⟩
    refine ⟨_, rfl, r, ts, es, rfl, L13.r, fun ml ms H14 ml0 hml hms e14 => ?_⟩
    refine ⟨_, _, rfl, rfl, _, _, rfl, ⟨by decide, by decide, by decide, by decide⟩, fun D hD => lc_any (n := 15) (fun i H' => ∃ ks : List Int, ks.length = i ∧ H' D = some (.lst (ks.map V.int)) ∧ But D H14 H') ⟨[], rfl, upd_same, But.upd⟩ (fun i H' hi _ => hi) (fun H' _ => Nat.le_refl _) ?_ ?_⟩
    · rintro i x H15 H16 hi' ⟨ks, hk, hD1, bb⟩ ⟨rfl, rfl⟩
      refine ⟨rfl, yesT ?_⟩
      exact ⟨_, rfl, _, rfl, _, _, rfl, rfl, _, hD1, small6 (by rw [List.length_map]; omega), ks ++ [lo + (0 - 3 + (i : Int))], by simp [hk], by rw [upd_same, List.map_append]; rfl, bb.trans But.upd⟩
    · rintro H15 ⟨ks, hk, hD1, bb⟩
      have e15 := bb.same hD
      have L15 : LwI K T.P_cost r hd ts es H15 := ⟨(L13.r.same e14).same e15, (L13.h.keep e14).keep e15, TabG.same (TabG.same L13.t e14) e15⟩
      refine ⟨_, _, _, _, rfl, rfl, e15 _ _ hml, hD1, small6' (by rw [List.length_map, List.length_map]; omega), fun vl hvl => asg ?_⟩
      rw [← List.map_append]
      have e16 := Same.new (o := .lst ((ms ++ ks).map V.int)) hvl
      have hv16 := upd_same (H := H15) (a := vl) (o := .lst ((ms ++ ks).map V.int))
      have L16 : LwI K T.P_cost r hd ts es _ := ⟨L15.r.same e16, L15.h.keep e16, TabG.same L15.t e16⟩
      have hlen : (ms ++ ks).length ≤ 2000 := by rw [List.length_append]; omega
      generalize ms ++ ks = vs at hv16 L16 hlen ⊢
      generalize upd H15 vl (.lst (vs.map V.int)) = H16 at hv16 L16 ⊢
      refine ⟨_, rfl, _, rfl, _, rfl, _, _, rfl, rfl, _, _, rfl, rfl, ⟨by decide, by decide⟩, _, rfl, _, _, rfl, rfl, _, rfl, _, _, rfl, rfl, sz3, fun d hd' => ?_⟩
      have e17 := Same.new (o := .lst [.int ((lo + hi) / 2), .int (hi - 1), .int (hi + 1)]) hd'
      refine ⟨_, _, _, _, rfl, rfl, e17 _ _ hv16, upd_same, small6' (by rw [List.length_map]; show vs.length + 3 ≤ 100000; omega), fun wl hwl => ?_⟩
      have e18 := Same.new (o := .lst (vs.map V.int ++ [.int ((lo + hi) / 2), .int (hi - 1), .int (hi + 1)])) hwl
      have L18 : LwI K T.P_cost r hd ts es _ := ⟨(L16.r.same e17).same e18, (L16.h.keep e17).keep e18, TabG.same (TabG.same L16.t e17) e18⟩
      refine ⟨wl, rfl, ⟨_, .inl (.inl upd_same)⟩, for_list (K := K) (a := wl) (xs := (vs ++ [(lo + hi) / 2, hi - 1, hi + 1]).map V.int) (fun i σ H' => ∃ v12 v13, σ = [some (.ref a), some (.ref s1), some (.int (n : Int)), some (.int m), some (.ref r), some (.ref hd), some (.ref bl), some (.int lo), some (.int hi), some (.int (cst es lo)), v10, some (.ref vl), v12, v13, none] ∧ RwX H' r ts es ∧ SqL K H' wl ((vs ++ [(lo + hi) / 2, hi - 1, hi + 1]).map V.int))
        ⟨none, none, rfl, L18.r, .inl (.inl (by rw [upd_same, List.map_append]; rfl))⟩ (fun i σ H' _ ⟨_, _, _, _, q⟩ => q) ?_ ?_⟩
      · rintro i x σ H19 hx ⟨v12, v13, rfl, R19, q19⟩
        obtain ⟨v, rfl⟩ : ∃ v, x = V.int v := by
          rw [List.getElem?_map] at hx
          cases e : (vs ++ [(lo + hi) / 2, hi - 1, hi + 1])[i]? with
          | none => rw [e] at hx; cases hx
          | some v => rw [e] at hx; exact ⟨v, (Option.some.inj hx).symm⟩
        refine ⟨_, rfl, _, rfl, r, v, ts, es, rfl, R19, fun H20 e20 => asg ?_⟩
        obtain ⟨g1, g2⟩ := hmid v
        refine ifS_of (put_is (b := false) (put_or (a := decide (cst es v < cst es lo)) (b := !decide (V.bl (decide (V.int (cst es v) = V.int (cst es lo))) = V.bl (decide (lo ≤ v) && decide (v ≤ hi)))) (fun Q' q => ⟨_, rfl, _, rfl, _, _, rfl, rfl, _, rfl, q⟩) (fun _ Q' q => ⟨_, rfl, _, rfl, rfl, _, rfl, _, rfl, _, _, rfl, rfl, _, rfl, ite2 (fun z => ?_) (fun z => ?_)⟩)) ?_) (fun z => nomatch z) (fun _ => nxt ⟨_, _, rfl, R19.same e20, e20.seq q19⟩)
        · have z' : decide (lo ≤ v) = true := z
          rw [z', Bool.true_and] at q
          exact ⟨_, rfl, _, rfl, _, _, rfl, rfl, rfl, _, rfl, q⟩
        · have z' : decide (lo ≤ v) = false := Bool.eq_false_iff.mpr z
          rw [z', Bool.false_and] at q
          exact ⟨rfl, _, rfl, q⟩
        · rw [decide_eq_false (p := cst es v < cst es lo) (by omega), dec_int]
          by_cases z : cst es v = cst es lo
          · obtain ⟨y1, y2⟩ := g2.mp z
            rw [decide_eq_true z, decide_eq_true y1, decide_eq_true y2]; rfl
          · rw [decide_eq_false z]
            have : (decide (lo ≤ v) && decide (v ≤ hi)) = false := by
              rw [Bool.eq_false_iff]
              intro y
              obtain ⟨y1, y2⟩ := Bool.and_eq_true_iff.mp y
              exact z (g2.mpr ⟨of_decide_eq_true y1, of_decide_eq_true y2⟩)
            rw [this]; rfl
      · rintro σ H19 ⟨v12, v13, rfl, R19, q19⟩
        exact k _

end
theorem fun_of {K : PySem.W.Frag} {x qual : Str} {st : Stmt} {f : Addr} {fd : FuncData} (F : FunD K x qual (defArgs st) (defBody st) (defScope st) [] [] f fd) : Fun K x qual st f fd := by
  obtain ⟨⟨oc, od, dV, kV, doc, pm, an, cdv, ct, osl, rfl, lk, hcd, hD, _⟩, kp⟩ := F
  rcases hD with ⟨_, rfl⟩ | ⟨e, _⟩
  · exact fun_mk lk hcd kp
  · exact absurd rfl e
theorem code_at {K : PySem.W.Frag} {x qual : Str} {params : Arguments} {body : List Stmt} {scope : Scope} {p : Str × Option Str} {fd : FuncData} {dvs : List V} {kws : List (Str × V)} (F : FunD K x qual params body scope dvs kws (He.fAd K p) fd) : fd.code = .ref (He.cT K p).1 := by
  obtain ⟨⟨oc, od, dV, kV, doc, pm, an, cdv, ct, osl, rfl, lk, hcd, _, _⟩, _⟩ := F
  obtain ⟨c, e⟩ := He.codeIn_ref hcd
  subst e
  show Value.ref c = .ref (He.codeOf K p)
  rw [He.codeOf_eq lk rfl]
def dd_middle_span : He.DefD := ⟨("middle_span", none), "middle_span", "middle_span", defArgs s_middle_span, defBody s_middle_span, defScope s_middle_span, [], []⟩
def dd_cost : He.DefD := ⟨("_cost", none), "_cost", "_cost", defArgs s_cost, defBody s_cost, defScope s_cost, [], []⟩
def dd_law_source : He.DefD := ⟨("_law_source", none), "_law_source", "_law_source", defArgs s_law_source, defBody s_law_source, defScope s_law_source, [], []⟩
def dd_law_draw : He.DefD := ⟨("_law_draw", none), "_law_draw", "_law_draw", defArgs s_law_draw, defBody s_law_draw, defScope s_law_draw, [], []⟩
def dd_law_between : He.DefD := ⟨("_law_between", none), "_law_between", "_law_between", defArgs s_law_between, defBody s_law_between, defScope s_law_between, [], []⟩
def dd_law_whole : He.DefD := ⟨("_law_whole", none), "_law_whole", "_law_whole", defArgs s_law_whole, defBody s_law_whole, defScope s_law_whole, [], []⟩
def dd_law_estimates : He.DefD := ⟨("_law_estimates", none), "_law_estimates", "_law_estimates", defArgs s_law_estimates, defBody s_law_estimates, defScope s_law_estimates, [], []⟩
def dd_law_far : He.DefD := ⟨("_law_far", none), "_law_far", "_law_far", defArgs s_law_far, defBody s_law_far, defScope s_law_far, [], []⟩
def dd_law_moved : He.DefD := ⟨("_law_moved", none), "_law_moved", "_law_moved", defArgs s_law_moved, defBody s_law_moved, defScope s_law_moved, [], []⟩
def dd_law_marks : He.DefD := ⟨("_law_marks", none), "_law_marks", "_law_marks", defArgs s_law_marks, defBody s_law_marks, defScope s_law_marks, [], []⟩
def dd_law_cost : He.DefD := ⟨("_law_cost", none), "_law_cost", "_law_cost", defArgs s_law_cost, defBody s_law_cost, defScope s_law_cost, [], []⟩
def dd_law_bounds : He.DefD := ⟨("_law_bounds", none), "_law_bounds", "_law_bounds", defArgs s_law_bounds, defBody s_law_bounds, defScope s_law_bounds, [], []⟩
def dd_law_same : He.DefD := ⟨("_law_same", none), "_law_same", "_law_same", defArgs s_law_same, defBody s_law_same, defScope s_law_same, [], []⟩
def dd_law : He.DefD := ⟨("law", none), "law", "law", defArgs s_law, defBody s_law, defScope s_law, [], []⟩
theorem bind_law {K : PySem.W.Frag} {f : Addr} {fd : FuncData} (F : FunD K "law" "law" (defArgs s_law) (defBody s_law) (defScope s_law) [] [] f fd) (s : Shared) (v : Value) : BindsTo s fd ⟨[v], []⟩ [("_law_script", v)] := by
  obtain ⟨⟨oc, od, dV, kV, doc, pm, an, cdv, ct, osl, rfl, lk, hcd, hD, _⟩, kp⟩ := F
  rcases hD with ⟨_, rfl⟩ | ⟨e, _⟩
  · exact .of_eq rfl
  · exact absurd rfl e
def hfn : List He.DefD := [dd_middle_span, dd_cost, dd_law_source, dd_law_draw, dd_law_between, dd_law_whole, dd_law_estimates, dd_law_far, dd_law_moved, dd_law_marks, dd_law_cost, dd_law_bounds, dd_law_same, dd_law]
def hfa : List He.Fa := [.glo "middle_span", .glo "_cost", .glo "_law_source", .glo "_law_draw", .glo "_law_between", .glo "_law_whole", .glo "_law_estimates", .glo "_law_far", .glo "_law_moved", .glo "_law_marks", .glo "_law_cost", .glo "_law_bounds", .glo "_law_same", .glo "law", .free "abs", .free "bool", .free "int", .free "isinstance", .free "len", .free "list", .free "max", .free "min", .free "range", .free "sorted", .free "sum", .free "tuple"]
def htf : List He.Defn := [("_cost", none)]
theorem tst {l : PySem.W.OpenLaw} {w : World} {K : PySem.W.Frag} {h : Heap} {mg : Str → Option Value} {fa : Addr} (X : K.In h) (G : h.Ns mainGlobals mg) (hmg : mg "law" = some (.ref fa)) (c : He.SaysX hfa hfn [] htf (fun _ => true) w h K) : LamX.LawAtS l w K CX0 5 63 "_law_script" mg fa h := by
  obtain ⟨fd_middle_span, D_middle_span⟩ := c.t.d.def_ 0 (d := dd_middle_span)
  obtain ⟨fd_cost, D_cost⟩ := c.t.d.def_ 1 (d := dd_cost)
  obtain ⟨fd_law_source, D_law_source⟩ := c.t.d.def_ 2 (d := dd_law_source)
  obtain ⟨fd_law_draw, D_law_draw⟩ := c.t.d.def_ 3 (d := dd_law_draw)
  obtain ⟨fd_law_between, D_law_between⟩ := c.t.d.def_ 4 (d := dd_law_between)
  obtain ⟨fd_law_whole, D_law_whole⟩ := c.t.d.def_ 5 (d := dd_law_whole)
  obtain ⟨fd_law_estimates, D_law_estimates⟩ := c.t.d.def_ 6 (d := dd_law_estimates)
  obtain ⟨fd_law_far, D_law_far⟩ := c.t.d.def_ 7 (d := dd_law_far)
  obtain ⟨fd_law_moved, D_law_moved⟩ := c.t.d.def_ 8 (d := dd_law_moved)
  obtain ⟨fd_law_marks, D_law_marks⟩ := c.t.d.def_ 9 (d := dd_law_marks)
  obtain ⟨fd_law_cost, D_law_cost⟩ := c.t.d.def_ 10 (d := dd_law_cost)
  obtain ⟨fd_law_bounds, D_law_bounds⟩ := c.t.d.def_ 11 (d := dd_law_bounds)
  obtain ⟨fd_law_same, D_law_same⟩ := c.t.d.def_ 12 (d := dd_law_same)
  obtain ⟨fd_law, D_law⟩ := c.t.d.def_ 13 (d := dd_law)
  let T : Txt l.prog K mg := {
    a_middle_span := He.fAd K ("middle_span", none)
    d_middle_span := fd_middle_span
    F_middle_span := fun_of D_middle_span
    b_middle_span := (fun_of (st := s_middle_span) D_middle_span).binds (ps := ["estimates"]) fun _ _ _ _ _ _ us hl => match us, hl with | [_], _ => rfl
    m_middle_span := He.glo_ok X G (c.t.d.fact 0)
    a_cost := He.fAd K ("_cost", none)
    d_cost := fd_cost
    F_cost := D_cost
    b_cost := (fun_of (st := s_cost) D_cost).binds (ps := ["estimates", "value"]) fun _ _ _ _ _ _ us hl => match us, hl with | [_, _], _ => rfl
    c_cost := (He.cT K ("_cost", none)).1
    P_cost := (He.cT K ("_cost", none)).2
    hc_cost := code_at D_cost
    m_cost := He.glo_ok X G (c.t.d.fact 1)
    a_law_source := He.fAd K ("_law_source", none)
    d_law_source := fd_law_source
    F_law_source := fun_of D_law_source
    b_law_source := (fun_of (st := s_law_source) D_law_source).binds (ps := ["_law_script", "_law_place"]) fun _ _ _ _ _ _ us hl => match us, hl with | [_, _], _ => rfl
    m_law_source := He.glo_ok X G (c.t.d.fact 2)
    a_law_draw := He.fAd K ("_law_draw", none)
    d_law_draw := fd_law_draw
    F_law_draw := fun_of D_law_draw
    b_law_draw := (fun_of (st := s_law_draw) D_law_draw).binds (ps := ["_law_source_here", "_law_size"]) fun _ _ _ _ _ _ us hl => match us, hl with | [_, _], _ => rfl
    m_law_draw := He.glo_ok X G (c.t.d.fact 3)
    a_law_between := He.fAd K ("_law_between", none)
    d_law_between := fd_law_between
    F_law_between := fun_of D_law_between
    b_law_between := (fun_of (st := s_law_between) D_law_between).binds (ps := ["_law_source_here", "_law_least", "_law_most"]) fun _ _ _ _ _ _ us hl => match us, hl with | [_, _, _], _ => rfl
    m_law_between := He.glo_ok X G (c.t.d.fact 4)
    a_law_whole := He.fAd K ("_law_whole", none)
    d_law_whole := fd_law_whole
    F_law_whole := fun_of D_law_whole
    b_law_whole := (fun_of (st := s_law_whole) D_law_whole).binds (ps := ["_law_actual"]) fun _ _ _ _ _ _ us hl => match us, hl with | [_], _ => rfl
    m_law_whole := He.glo_ok X G (c.t.d.fact 5)
    a_law_estimates := He.fAd K ("_law_estimates", none)
    d_law_estimates := fd_law_estimates
    F_law_estimates := fun_of D_law_estimates
    b_law_estimates := (fun_of (st := s_law_estimates) D_law_estimates).binds (ps := ["_law_source_here", "_law_count", "_law_most"]) fun _ _ _ _ _ _ us hl => match us, hl with | [_, _, _], _ => rfl
    m_law_estimates := He.glo_ok X G (c.t.d.fact 6)
    a_law_far := He.fAd K ("_law_far", none)
    d_law_far := fd_law_far
    F_law_far := fun_of D_law_far
    b_law_far := (fun_of (st := s_law_far) D_law_far).binds (ps := ["_law_source_here"]) fun _ _ _ _ _ _ us hl => match us, hl with | [_], _ => rfl
    m_law_far := He.glo_ok X G (c.t.d.fact 7)
    a_law_moved := He.fAd K ("_law_moved", none)
    d_law_moved := fd_law_moved
    F_law_moved := fun_of D_law_moved
    b_law_moved := (fun_of (st := s_law_moved) D_law_moved).binds (ps := ["_law_source_here", "_law_rows"]) fun _ _ _ _ _ _ us hl => match us, hl with | [_, _], _ => rfl
    m_law_moved := He.glo_ok X G (c.t.d.fact 8)
    a_law_marks := He.fAd K ("_law_marks", none)
    d_law_marks := fd_law_marks
    F_law_marks := fun_of D_law_marks
    b_law_marks := (fun_of (st := s_law_marks) D_law_marks).binds (ps := ["_law_rows"]) fun _ _ _ _ _ _ us hl => match us, hl with | [_], _ => rfl
    m_law_marks := He.glo_ok X G (c.t.d.fact 9)
    a_law_cost := He.fAd K ("_law_cost", none)
    d_law_cost := fd_law_cost
    F_law_cost := fun_of D_law_cost
    b_law_cost := (fun_of (st := s_law_cost) D_law_cost).binds (ps := ["_law_rows", "_law_value"]) fun _ _ _ _ _ _ us hl => match us, hl with | [_, _], _ => rfl
    m_law_cost := He.glo_ok X G (c.t.d.fact 10)
    a_law_bounds := He.fAd K ("_law_bounds", none)
    d_law_bounds := fd_law_bounds
    F_law_bounds := fun_of D_law_bounds
    b_law_bounds := (fun_of (st := s_law_bounds) D_law_bounds).binds (ps := ["_law_rows"]) fun _ _ _ _ _ _ us hl => match us, hl with | [_], _ => rfl
    m_law_bounds := He.glo_ok X G (c.t.d.fact 11)
    a_law_same := He.fAd K ("_law_same", none)
    d_law_same := fd_law_same
    F_law_same := fun_of D_law_same
    b_law_same := (fun_of (st := s_law_same) D_law_same).binds (ps := ["_law_told", "_law_due"]) fun _ _ _ _ _ _ us hl => match us, hl with | [_, _], _ => rfl
    m_law_same := He.glo_ok X G (c.t.d.fact 12)
    a_law := He.fAd K ("law", none)
    d_law := fd_law
    F_law := fun_of D_law
    b_law := (fun_of (st := s_law) D_law).binds (ps := ["_law_script"]) fun _ _ _ _ _ _ us hl => match us, hl with | [_], _ => rfl
    m_law := He.glo_ok X G (c.t.d.fact 13)
    z_abs := He.free_ok X G (c.t.d.fact 14)
    z_bool := He.free_ok X G (c.t.d.fact 15)
    z_int := He.free_ok X G (c.t.d.fact 16)
    z_isinstance := He.free_ok X G (c.t.d.fact 17)
    z_len := He.free_ok X G (c.t.d.fact 18)
    z_list := He.free_ok X G (c.t.d.fact 19)
    z_max := He.free_ok X G (c.t.d.fact 20)
    z_min := He.free_ok X G (c.t.d.fact 21)
    z_range := He.free_ok X G (c.t.d.fact 22)
    z_sorted := He.free_ok X G (c.t.d.fact 23)
    z_sum := He.free_ok X G (c.t.d.fact 24)
    z_tuple := He.free_ok X G (c.t.d.fact 25) }
  have ea : fa = T.a_law := by
    have e := hmg.symm.trans T.m_law
    cases e
    rfl
  subst ea
  refine ⟨T.d_law, htf.map (He.cT K), spLaw K T.P_cost, ?_, ?_, ?_, fun s v => ?_, fun H a ns hl hb hT hS => ?_, fun base KB GB TB => ok_law T ⟨(fun t => ⟨t.code, t.bm, t.gP⟩) (TB _ (List.mem_map_of_mem (show (("_cost", none) : He.Defn) ∈ htf from List.mem_cons_self)))⟩⟩
  · rintro p hp; obtain ⟨q, hq, rfl⟩ := List.mem_map.mp hp; exact c.empty q hq
  · rintro p hp; obtain ⟨q, hq, rfl⟩ := List.mem_map.mp hp; exact c.out q hq
  · rintro p hp; obtain ⟨q, hq, rfl⟩ := List.mem_map.mp hp; exact PySem.W.codeHd_of_K X (c.hd q hq)
  · exact bind_law D_law s v
  · exact ⟨a, ns, rfl, hS, hl, hT _ (List.mem_map_of_mem (show (("_cost", none) : He.Defn) ∈ htf from List.mem_cons_self)), fun _ => rfl⟩
end My

open PySem PySem.W PyProof.Rows in
set_option maxRecDepth 100000 in
set_option maxHeartbeats 0 in
theorem PySem.Challenge.cw_counthall_k38_middle_span_holds : PySem.Challenge.rw_counthall_k38_middle_span.Holds := by
  w_on; o_law; o_head (He.hookX 4 My.hfa My.hfn [] My.htf (fun _ => true)); (case hw => w_witness2)
  refine LamX.walk_ofTsE (l := PySem.Challenge.rw_counthall_k38_middle_span) (n := 63) (k := 5) (x := "_law_script") (CX := fun _ => L2.CX0) rfl (by decide) rfl ⟨rfl, by decide, by decide⟩ ?F fun _ _ _ _ _ z => z
  intro w mg fa h Y G hmg
  obtain ⟨K, KX, c⟩ := Y
  exact ⟨K, KX, My.tst KX G hmg c⟩
#print axioms PySem.Challenge.cw_counthall_k38_middle_span_holds

