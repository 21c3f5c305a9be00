import PyProof.Rows.All
import Wide.All
import OpenK.AllK
import Wide.FinOn
import HandS.ForMost
import HandS.MakeKwOnly
import HandS.IsInst
import HandS.Conv
import HandS.SetFor
import HandS.Defaults
import HandS.AnyAll
import HandS.Sort
import HandS.SortInts
import HandS.EndTab
import HandS.HeadHook4
import HandS.HeadWalk
import PyProof.GenCompT
import PyProof.WalksPairs
import KE.GoesMore
import KE.KDictZip
import KE.KDictLaws
import HandS.Zip
import HandS.DictComp
import HandS.Star
import HandS.Iter
import PySem.Challenge.RW_counthall_k35_weight_pieces
set_option Elab.async false
set_option linter.all false
set_option maxRecDepth 100000
set_option maxHeartbeats 4000000

namespace Gq
open PySem PySem.Spec PyProof.Rows L2 GxR
/-! ### generator expressions over lists and tuples, their elements without calls of defs -/
/-- the value xv in the heap h can be walked; P is no part of the walk -/
def WalkV (prog : Program) (w : World) (h : Heap) (P : Addr) (xv : Value) (n : Nat) (Pi : Nat → Value → Prop) : Prop :=
  ∀ (A : Around) (E : Value → Shared → Prop) (s : Shared) (Q : Value → Shared → Prop), s.heap = h →
    (∀ (ob : Obj) (fp : List Addr) (St : Nat → Heap → Prop), (∀ A' : Around, A'.handled = none → Walks prog w A' h.objs.size fp [h.objs.size] n Pi St) → St 0 (h.push ob) → (∀ b ∈ fp, b ≠ P ∧ b ≤ h.objs.size) →
      Q (.ref h.objs.size) { s with heap := h.push ob }) → wpAny (model prog w) A (pyIter xv) Q E s
theorem walk_list {prog : Program} {w : World} {h : Heap} {P l : Addr} {its : Array Value} (hl : h.IsList l its) (hP : P < h.objs.size) (n : l ≠ P) : WalkV prog w h P (.ref l) its.size (fun i v => its[i]? = some v) := by
  intro A E s Q e k
  subst e
  have hlt : l < s.heap.objs.size := by
    obtain ⟨o, ho, _⟩ := hl
    exact Heap.lt_size ho
  refine wpAny_pyIter_list hl (k _ [s.heap.objs.size, l] (fun i h' => h'.IsListIter s.heap.objs.size l i ∧ h'.IsList l its) (fun A' hA => Walks.list hA _ _ (Nat.ne_of_lt hlt) its) ⟨⟨_, Heap.get?_push_size _ rfl, rfl, rfl⟩, hl.push _⟩ fun b hb => ?_)
  simp only [List.mem_cons, List.not_mem_nil, or_false] at hb
  rcases hb with rfl | rfl
  · exact ⟨(Nat.ne_of_lt hP).symm, Nat.le_refl _⟩
  · exact ⟨n, Nat.le_of_lt hlt⟩
theorem walk_tuple {prog : Program} {w : World} {h : Heap} {P l : Addr} {its : Array Value} (hl : h.IsTuple l its) (hP : P < h.objs.size) (n : l ≠ P) : WalkV prog w h P (.ref l) its.size (fun i v => its[i]? = some v) := by
  intro A E s Q e k
  subst e
  have hlt : l < s.heap.objs.size := by
    obtain ⟨o, ho, _⟩ := hl
    exact Heap.lt_size ho
  refine wpAny_pyIter_tuple hl (k _ [s.heap.objs.size, l] (fun i h' => h'.IsTupleIter s.heap.objs.size l i ∧ h'.IsTuple l its) (fun A' hA => Walks.tuple hA _ _ (Nat.ne_of_lt hlt) its) ⟨⟨_, Heap.get?_push_size _ rfl, rfl, rfl⟩, hl.push _⟩ fun b hb => ?_)
  simp only [List.mem_cons, List.not_mem_nil, or_false] at hb
  rcases hb with rfl | rfl
  · exact ⟨(Nat.ne_of_lt hP).symm, Nat.le_refl _⟩
  · exact ⟨n, Nat.le_of_lt hlt⟩
section
variable {X : Cx} {pins : List (Addr × Obj)} {σ : L2.St} {H : Hp} {s : Shared}
/-- the element of the item i is known, in each heap that keeps h but for P -/
def EltR (X : Cx) (scope : Scope) (x : Str) (elt : Expr) (P : Addr) (h : Heap) (Pi F : Nat → Value → Prop) : Prop :=
  ∀ (C : Addr) (code : Value) (A' : Around) (E' : Value → Shared → Prop) (i : Nat) (v : Value) (t : Shared) (m : Str → Option Value), A'.handled = none → Pi i v → t.heap.Ns C m → m x = some v →
    (∀ b o, b ≠ P → h.get? b = some o → t.heap.get? b = some o) → wpAny (model X.prog X.w) A' (eval elt (genEnv scope (cloFrom X.env.cells scope.names []) C code builtinsNs X.env)) (fun y t' => F i y ∧ Keeps t t') E' t
/-- the generator g stands ready, its n elements known by F -/
def RdyG (X : Cx) (pins : List (Addr × Obj)) (σ : L2.St) (H1 : Hp) (P : Addr) (n : Nat) (F : Nat → Value → Prop) (g : Addr) (t : Shared) : Prop :=
  ∃ (fp wr : List Addr) (G : Array GenState → Array GenState → Prop) (F' : Nat → Value → Prop) (St : Nat → Shared → Prop), WalksS X.prog X.w X.A.in1 g fp wr G n F' St ∧ (∀ j y, F' j y → F j y) ∧ St 0 t ∧ (∀ b ∈ fp, b < t.heap.objs.size) ∧
    ∀ t', Moved wr G t t' → ∃ H2, Tabbed P H1 H2 ∧ Inv X pins σ H2 t'
theorem gen_seq {c P : Addr} {elt iter : Expr} {x : Str} {px gpos : Pos} {scope : Scope} {te : TE} {k : Nat} {Q' : Value → Shared → Prop}
    (hr : Room k X.A) (TB : TabB X.base X.mg c P) (hcode : X.env.code = .ref c) (S : GenS X.env scope x) (hi : PE X iter te) (hs : ∀ v, genFold iter X.env v = pure v) (I : Inv X pins σ H s)
    {R : VK} (h : te σ H R) (hR : ∀ v H1, R v H1 → TabG H1 P ∧ ∀ (s1 : Shared) (xv : Value), Inv X pins σ H1 s1 → RelV v xv → ∃ (n : Nat) (Pi F : Nat → Value → Prop), WalkV X.prog X.w s1.heap P xv n Pi ∧ EltR X scope x elt P s1.heap Pi F ∧ ∀ g t, RdyG X pins σ H1 P n F g t → Q' (.ref g) t) :
    wpAny (model X.prog X.w) X.A (eval (.GeneratorExp elt [⟨.Name x px, iter, [], 0⟩] scope gpos) X.env) Q' X.xe s := by
  refine wpAny_GeneratorExp_walksQ hr.hd S.co (closure_ok S.free) S.cell S.dot S.loc S.kind (by have d := hr.dp; omega) ?_ hs
  refine thn (hi.run pins s σ H _ I h) fun xv s1 ⟨v, H1, I1, rel, all1⟩ => ?_
  obtain ⟨⟨ps, tabH, trip⟩, rest⟩ := hR v H1 all1
  obtain ⟨n, Pi, F, walk, hel, fin⟩ := rest s1 xv I1 rel
  refine walk _ _ _ _ rfl fun ob fp St W st0 hfp => ?_
  have tab1 : s1.heap.get? P = some { cls := .none, data := .fields ps } := I1.hok P _ tabH
  have Plt : P < s1.heap.objs.size := Heap.lt_size tab1
  have tab2 : (s1.heap.push ob).get? P = some { cls := .none, data := .fields ps } := Heap.get?_push_of_some _ tab1
  have hd2 : PySem.W.CodeHd (s1.heap.push ob) c P := TB.code.keeps fun b u q => Heap.get?_push_of_some _ (I1.bk b u q)
  have lim2 : (s1.heap.push ob).NoLimit := I1.nolimit.push ob
  have size2 : (s1.heap.push ob).objs.size = s1.heap.objs.size + 1 := Heap.size_push ..
  refine ⟨lim2, ?_⟩
  -- behind the code object: the table holds ps and more
  have go : ∀ (code : Value) (h3 : Heap) (tk : Nat) (qs : Array Value), Heap.ExtBut P (s1.heap.push ob) h3 → s1.heap.objs.size + 1 ≤ h3.objs.size → h3.get? P = some { cls := .none, data := .fields qs } → (∃ more, qs = ps ++ more) → TriplesOk qs.toList →
      wpAny (model X.prog X.w) X.A (builtinsFor X.env.globals X.env.builtins) (fun bi s4 =>
        ∃ J fp' wr n₀ Pf St₀ pz F', Value.ref s1.heap.objs.size = .ref J ∧ (∀ A' : Around, A'.handled = none → Walks X.prog X.w A' J fp' wr n₀ Pf St₀) ∧ St₀ 0 s4.heap ∧ (∀ b ∈ fp', b < s4.heap.objs.size) ∧ s4.heap.NoLimit ∧ cStatics ∉ wr ∧
          (∀ hx : Heap, (∀ b o, s4.heap.get? b = some o → hx.get? b = some o) →
            QuietGen X.prog X.w (genEnv scope (cloFrom X.env.cells scope.names []) s4.heap.objs.size code bi X.env) x [] elt (List.range s4.heap.objs.size) wr Pf pz F' hx) ∧
          (∀ a h5 tk5 gs, gs.bare = true → s4.heap.objs.size < a → h5.objs.size = a + 1 → (∀ b o, s4.heap.get? b = some o → h5.get? b = some o) →
            WalksS X.prog X.w X.A.in4 a (a :: s4.heap.objs.size :: List.range s4.heap.objs.size) (s4.heap.objs.size :: wr) (GenOnlyQ s4.gens.size) (passing pz n₀ 0).length
              (fun j y => ∃ i, (passing pz n₀ 0)[j]? = some i ∧ F' i y) (GenAt X.prog X.w X.A.in4 a s4.gens.size s4.heap.objs.size (List.range s4.heap.objs.size) wr pz n₀ F') →
            GenAt X.prog X.w X.A.in4 a s4.gens.size s4.heap.objs.size (List.range s4.heap.objs.size) wr pz n₀ F' 0 { s4 with gens := s4.gens.push gs, toks := tk5, heap := h5 } →
            Q' (.ref a) { s4 with gens := s4.gens.push gs, toks := tk5, heap := h5 })) X.xe { s1 with heap := h3, toks := tk } := by
    intro code h3 tk qs ext le3 tab3 grown trip3
    obtain ⟨bm, bo, z1, z2, z3, z4, z5, z6, z7, z8⟩ := TB.bm
    have statP : cStatics ≠ P := fun q => by
      obtain ⟨_, hns, _⟩ := I1.nolimit
      obtain ⟨o', es, ep, ho, hd, _⟩ := hns
      rw [q, tab1] at ho
      cases ho
      cases hd
    have statLt : cStatics < s1.heap.objs.size := by
      obtain ⟨_, hns, _⟩ := I1.nolimit
      exact hns.lt
    have keep3 : ∀ b u, b ≠ P → s1.heap.get? b = some u → h3.get? b = some u := fun b u nb q => ext b u nb (Heap.get?_push_of_some _ q)
    refine wpAny_builtinsFor (m := X.mg) (by rw [I1.ok.glob]; exact ((I1.mod.glob.keeps I1.bk).push ob).extBut ext TB.gP) z1 z2 (keep3 _ _ z4 (I1.bk _ _ z5)) z6 z7 z8 ?_
    refine ⟨s1.heap.objs.size, fp, [s1.heap.objs.size], n, Pi, St, (fun _ => true), F, rfl, W, ?_, fun b hb => ?_, lim2.extBut ext statP, fun q => ?_, fun hx keepx => ?_, ?_⟩
    · exact (W X.A hr.hd).frame _ _ _ st0 fun b hb u q => ext b u (hfp b hb).1 q
    · exact Nat.lt_of_lt_of_le (Nat.lt_succ_of_le (hfp b hb).2) le3
    · rw [List.mem_singleton] at q
      exact Nat.ne_of_lt statLt q
    · refine ⟨fun A' E' i v t m hA hv hn hm hk => ?_, fun A' E' i v t m hA hv hp hn hm hk => ?_⟩
      · simp only [List.forIn_nil]
        exact wpAny_pure ⟨rfl, keeps_refl _⟩
      · refine hel _ _ A' E' i v t m hA hv hn hm fun b o nb q => ?_
        have b1 : b < s1.heap.objs.size := Heap.lt_size q
        refine hk b (List.mem_range.mpr (Nat.lt_of_lt_of_le (Nat.lt_succ_of_lt b1) le3)) (fun q' => ?_) o (keepx b o (keep3 b o nb q))
        rw [List.mem_singleton] at q'
        exact Nat.ne_of_lt b1 q'
    · intro a h5 tk5 gs bare agt size5 keep5 W5 at5
      have pt : passing (fun _ => true) n 0 = List.range n := passing_true n
      have W6 := W5.in4_1
      rw [pt, List.length_range] at W6
      refine fin a _ ⟨_, _, _, _, _, W6, fun j y hy => ?_, at5, fun b hb => ?_, fun t' mv => ?_⟩
      · obtain ⟨i, hi', hF⟩ := hy
        obtain ⟨hj, ej⟩ := List.getElem?_eq_some_iff.mp hi'
        rw [List.getElem_range] at ej
        subst ej
        exact hF
      · have agt' : h3.objs.size < h5.objs.size := by
          rw [size5]
          exact Nat.lt_succ_of_lt agt
        simp only [List.mem_cons, List.mem_range] at hb
        rcases hb with rfl | rfl | hb
        · rw [size5]
          exact Nat.lt_succ_self _
        · exact agt'
        · exact Nat.lt_trans hb agt'
      · obtain ⟨more, em⟩ := grown
        have apart : ∀ b u, s1.heap.get? b = some u → b ∉ h3.objs.size :: [s1.heap.objs.size] := fun b u q hb => by
          have b1 : b < s1.heap.objs.size := Heap.lt_size q
          simp only [List.mem_cons, List.not_mem_nil, or_false] at hb
          rcases hb with e | e
          · exact Nat.ne_of_lt (Nat.lt_of_lt_of_le (Nat.lt_succ_of_lt b1) le3) e
          · exact Nat.ne_of_lt b1 e
        have J := inv_tab (more := more) (h' := t'.heap) (g' := t'.gens) (d' := t'.drawn) (t' := t'.toks) I1 tabH (fun b u nb q => mv.heap b u (apart b u q) (keep5 b u (keep3 b u nb q)))
          (by rw [← em]; exact mv.heap P _ (apart P _ tab1) (keep5 P _ tab3)) (AllBare.movedS (I1.bare.push bare) mv)
        rw [sh_eta s1 t' mv.os] at J
        exact ⟨upd H1 P (.tbl (ps ++ more)), ⟨⟨ps ++ more, upd_same, by rw [← em]; exact trip3⟩, fun b nb => upd_ne nb⟩, J⟩
  cases among : codeAmong gpos ps.toList with
  | none =>
    refine wpAny_genexprCodeX hcode (hd2.code tab2 trip) (hd2.tab tab2) among fun c' h' tk ext ge lt co _ tab' _ => ?_
    obtain ⟨_, _, _, _, _, _, _, _, _, _, _, _, _, _, _, _, _, _, _, tr, _⟩ := co
    exact go _ h' tk _ ext (by have ge' := ge; rw [size2] at ge'; exact Nat.le_trans ge' (Nat.le_of_lt lt)) tab'.2 ⟨_, rfl⟩ tr
  | some cv =>
    refine wpAny_genexprCode_hit hcode (hd2.code tab2 trip) among ?_
    exact go cv (s1.heap.push ob) s1.toks ps (Heap.ExtBut.refl _ _) (Nat.le_of_eq size2.symm) tab2 ⟨#[], by simp⟩ trip
/-! ### what an element says, without calls of defs -/
/-- a reading of an element: the walked values, the places of the def around, its heap -/
abbrev QT := List V → L2.St → Hp → (V → Prop) → Prop
structure QE (X : Cx) (scope : Scope) (ns : List Str) (e : Expr) (rd : QT) : Prop where
  run : ∀ {pins : List (Addr × Obj)} {σ : L2.St} {H1 : Hp} {s1 : Shared}, Inv X pins σ H1 s1 → ∀ {P : Addr} {ps : Array Value}, H1 P = some (.tbl ps) →
    ∀ {C : Addr} {code : Value} {A' : Around} {E' : Value → Shared → Prop} {t : Shared} {m : Str → Option Value} {vs : List V} {us : List Value}, A'.handled = none → t.heap.Ns C m → Vals vs us →
      (∀ (j : Nat) (n : Str), ns[j]? = some n → m n = us[j]?) → (∀ b o, b ≠ P → s1.heap.get? b = some o → t.heap.get? b = some o) → ∀ Q : V → Prop, rd vs σ H1 Q →
      wpAny (model X.prog X.w) A' (eval e (genEnv scope (cloFrom X.env.cells scope.names []) C code builtinsNs X.env)) (fun y t' => (∃ v, RelV v y ∧ Q v) ∧ Keeps t t') E' t
theorem kp_trans {s t u : Shared} (a : Keeps s t) (b : Keeps t u) : Keeps s u := by
  obtain ⟨h1, k1, rfl, f1⟩ := a
  obtain ⟨h2, k2, rfl, f2⟩ := b
  exact ⟨h2, k2, rfl, fun c o e => f2 c o (f1 c o e)⟩
theorem kp_heap {s t : Shared} (a : Keeps s t) : ∀ b o, s.heap.get? b = some o → t.heap.get? b = some o := by
  obtain ⟨h1, k1, rfl, f1⟩ := a
  exact f1
variable {scope : Scope} {ns : List Str} {a b c e : Expr} {ra rb rc : QT} {pos p : Pos}
/-- two in a row: the second one in a state that keeps the first one's -/
theorem q_then (hb : QE X scope ns b rb) {s1 : Shared} {H1 : Hp} {P : Addr} {ps : Array Value} (I : Inv X pins σ H1 s1) (hP : H1 P = some (.tbl ps)) {C : Addr} {code : Value} {A' : Around} {E' : Value → Shared → Prop} {t t1 : Shared} {m : Str → Option Value} {vs : List V} {us : List Value}
    (hA : A'.handled = none) (hn : t.heap.Ns C m) (hv : Vals vs us) (hm : ∀ (j : Nat) (n : Str), ns[j]? = some n → m n = us[j]?) (hk : ∀ b o, b ≠ P → s1.heap.get? b = some o → t.heap.get? b = some o) (k1 : Keeps t t1) {Q : V → Prop} (h : rb vs σ H1 Q) {R : Value → Shared → Prop}
    (hR : ∀ (v : V) (y : Value) (t2 : Shared), RelV v y → Q v → Keeps t t2 → R y t2) : wpAny (model X.prog X.w) A' (eval b (genEnv scope (cloFrom X.env.cells scope.names []) C code builtinsNs X.env)) R E' t1 :=
  wpAny_mono (hb.run I hP hA (hn.keeps (kp_heap k1)) hv hm (fun c o nc q => kp_heap k1 c o (hk c o nc q)) Q h) (fun y t2 r => by
    obtain ⟨⟨v, r1, r2⟩, k2⟩ := r
    exact hR v y t2 r1 r2 (kp_trans k1 k2)) fun _ _ z => z
def qVar (j : Nat) : QT := fun vs _ _ Q => ∃ v, vs[j]? = some v ∧ Q v
def qOut (i : Nat) : QT := fun _ σ _ Q => ∃ v, σ[i]? = some (some v) ∧ Q v
def qC (v : V) : QT := fun _ _ _ Q => Q v
theorem q_var {j : Nat} {n : Str} (hj : ns[j]? = some n) (hs : scope.kind = .function) (hl : scope.names.lookup n = some .local) (hd : (n == ("__debug__" : Str)) = false := by decide) : QE X scope ns (.Name n pos) (qVar j) := by
  refine ⟨fun {pins σ H1 s1} I {P ps} hP {C code A' E' t m vs us} hA hn hvs hm' hk Q h => ?_⟩
  obtain ⟨v, ev, q⟩ := h
  obtain ⟨u, eu, r⟩ := hvs.get ev
  exact wpAny_Name (wpAny_loadName_local hs hl hn ((hm' j n hj).trans eu) ⟨⟨v, r, q⟩, keeps_refl _⟩) hd
theorem q_out {i : Nat} {n : Str} (hi : X.N[i]? = some n) (hv : Vis X.env.scope n) (hc : X.env.kindOf n = some .cell ∨ X.env.kindOf n = some .free) (hs : scope.kind = .function) (hl : scope.names.lookup n = some .free)
    (hcl : (cloFrom X.env.cells scope.names []).lookup n = some ((X.env.cells.lookup n).getD 0)) (hd : (n == ("__debug__" : Str)) = false := by decide) (hcd : (n == ("__classdict__" : Str)) = false := by decide) : QE X scope ns (.Name n pos) (qOut i) := by
  refine ⟨fun {pins σ H1 s1} I {P ps} hP {C code A' E' t m vs us} hA hn hvs hm' hk Q h => ?_⟩
  obtain ⟨v, ev, q⟩ := h
  obtain ⟨m0, _, loc⟩ := I.loc
  obtain ⟨u, r, look⟩ := loc i n v hi ev hv
  rcases look with ⟨k, _⟩ | ⟨_, cl, ecl, cell⟩
  · rcases hc with z | z <;> rw [k] at z <;> cases z
  · have ne : cl ≠ P := fun z => by
      have y := I.freeC n cl ecl
      rw [z, hP] at y
      cases y
    have cell' : t.heap.IsCell cl (some u) := by
      obtain ⟨o, ho, rest⟩ := cell
      exact ⟨o, hk cl o ne ho, rest⟩
    exact wpAny_Name (wpAny_loadName_free hs hl (by show (cloFrom X.env.cells scope.names []).lookup n = _; rw [hcl, ecl]; rfl) cell' ⟨⟨v, r, q⟩, keeps_refl _⟩ hcd) hd
theorem q_int {i : Int} {j : Nat} : QE X scope ns (.Constant (.int i) j pos) (qC (.int i)) := ⟨fun {pins σ H1 s1} I {P ps} hP {C code A' E' t m vs us} hA hn hvs hm' hk Q h => wpAny_Constant_int ⟨⟨.int i, ⟨_, rfl⟩, h⟩, keeps_tok _ _⟩⟩
theorem q_bl {i : Bool} {j : Nat} : QE X scope ns (.Constant (.bool i) j pos) (qC (.bl i)) := ⟨fun {pins σ H1 s1} I {P ps} hP {C code A' E' t m vs us} hA hn hvs hm' hk Q h => Constant_bool ⟨⟨.bl i, rfl, h⟩, keeps_refl _⟩⟩
theorem q_glob {n : Str} {v : V} {u : Value} (hg : scope.names.lookup n = some .globalImplicit) (hs : scope.kind = .function) (hm : X.mg n = some u) (r : RelV v u) (hd : (n == ("__debug__" : Str)) = false := by decide) : QE X scope ns (.Name n pos) (qC v) := by
  refine ⟨fun {pins σ H1 s1} I {P ps} hP {C code A' E' t m vs us} hA hn hvs hm' hk Q h => ?_⟩
  refine Calls.Name_function_global hs hg (Calls.loadGlobal_global (mg := X.mg) ?_ hm ⟨⟨v, r, h⟩, keeps_refl _⟩) hd
  show Heap.Ns _ X.env.globals X.mg
  rw [I.ok.glob]
  have gl := I.mod.glob
  refine gl.at' fun o z => hk _ o (fun y => ?_) (I.bk _ o z)
  have f := (I.bs _ o z).2
  rw [y, hP] at f
  cases f
/-- an operation of two ints that gives an int -/
def q2 (ra rb : QT) (ok : Int → Int → Prop) (f : Int → Int → Int) : QT := fun vs σ H Q => ra vs σ H fun x => rb vs σ H fun y => ∃ i j, x = .int i ∧ y = .int j ∧ ok i j ∧ Q (.int (f i j))
theorem q_bin {op : Operator} {ok : Int → Int → Prop} {f : Int → Int → Int} (hop : ∀ {A : Around} {E : Value → Shared → Prop} {s : Shared} {i j : Int} {k l : Tok} {Q : Value → Shared → Prop}, A.handled = none → ok i j → Q (.int (f i j) s.toks) { s with toks := s.toks + 1 } → wpAny (model X.prog X.w) A (binaryOp op (.int i k) (.int j l)) Q E s)
    (ha : QE X scope ns a ra) (hb : QE X scope ns b rb) : QE X scope ns (.BinOp a op b pos) (q2 ra rb ok f) := by
  refine ⟨fun {pins σ H1 s1} I {P ps} hP {C code A' E' t m vs us} hA hn hv hm hk Q h => wpAny_BinOp ?_⟩
  refine wpAny_mono (ha.run I hP hA hn hv hm hk _ h) (fun y t1 r => ?_) fun _ _ z => z
  obtain ⟨⟨v, r1, q1⟩, k1⟩ := r
  refine q_then hb I hP hA hn hv hm hk k1 q1 fun v' y' t2 r2 q2 k2 => ?_
  obtain ⟨i, j, rfl, rfl, o, q⟩ := q2
  obtain ⟨_, rfl⟩ := r1
  obtain ⟨_, rfl⟩ := r2
  exact hop hA o ⟨⟨.int _, ⟨_, rfl⟩, q⟩, kp_trans k2 (keeps_tok _ _)⟩
/-- a comparison of two ints -/
def qc (ra rb : QT) (f : Int → Int → Bool) : QT := fun vs σ H Q => ra vs σ H fun x => rb vs σ H fun y => ∃ i j, x = .int i ∧ y = .int j ∧ Q (.bl (f i j))
def CmpI (X : Cx) (op : CmpOp) (f : Int → Int → Bool) : Prop := ∀ {A : Around} {E : Value → Shared → Prop} {s : Shared} {i j : Int} {k l : Tok} {Q : Value → Shared → Prop}, A.handled = none → Q (.bool (f i j)) s → wpAny (model X.prog X.w) A (compareOp op (.int i k) (.int j l)) Q E s
theorem ci_lt : CmpI X .Lt (fun i j => decide (i < j)) := fun _ h => PySem.P.lt_int h
theorem ci_le : CmpI X .LtE (fun i j => decide (i ≤ j)) := fun _ h => PySem.P.le_int h
theorem ci_gt : CmpI X .Gt (fun i j => decide (i > j)) := fun _ h => PySem.P.gt_int h
theorem ci_ge : CmpI X .GtE (fun i j => decide (i ≥ j)) := fun _ h => PySem.P.ge_int h
theorem ci_eq : CmpI X .Eq (fun i j => i == j) := fun _ h => PySem.P.eq_int h
theorem ci_ne : CmpI X .NotEq (fun i j => i != j) := fun _ h => PySem.P.ne_int h
theorem q_cmp {op : CmpOp} {f : Int → Int → Bool} (hop : CmpI X op f) (ha : QE X scope ns a ra) (hb : QE X scope ns b rb) (hmk : behindInMarks op b = false := by with_unfolding_all rfl) : QE X scope ns (.Compare a [op] [b] pos) (qc ra rb f) := by
  refine ⟨fun {pins σ H1 s1} I {P ps} hP {C code A' E' t m vs us} hA hn hv hm hk Q h => wpAny_Compare1 ?_ hmk⟩
  refine wpAny_mono (ha.run I hP hA hn hv hm hk _ h) (fun y t1 r => ?_) fun _ _ z => z
  obtain ⟨⟨v, r1, q1⟩, k1⟩ := r
  refine q_then hb I hP hA hn hv hm hk k1 q1 fun v' y' t2 r2 q2 k2 => ?_
  obtain ⟨i, j, rfl, rfl, q⟩ := q2
  obtain ⟨_, rfl⟩ := r1
  obtain ⟨_, rfl⟩ := r2
  exact hop hA ⟨⟨.bl _, rfl, q⟩, k2⟩
/-- a op b op' c, of ints -/
def qch (ra rb rc : QT) (f g : Int → Int → Bool) : QT := fun vs σ H Q => ra vs σ H fun x => rb vs σ H fun y => ∃ i j, x = .int i ∧ y = .int j ∧ if f i j = true then rc vs σ H fun z => ∃ k, z = .int k ∧ Q (.bl (g j k)) else Q (.bl false)
theorem q_chain {op op' : CmpOp} {f g : Int → Int → Bool} (hop : CmpI X op f) (hop' : CmpI X op' g) (ha : QE X scope ns a ra) (hb : QE X scope ns b rb) (hc : QE X scope ns c rc) (hmk : lastMarks [op, op'] [b, c] = false := by with_unfolding_all rfl) :
    QE X scope ns (.Compare a [op, op'] [b, c] pos) (qch ra rb rc f g) := by
  refine ⟨fun {pins σ H1 s1} I {P ps} hP {C code A' E' t m vs us} hA hn hv hm hk Q h => Compare_chain ?_ hmk⟩
  refine wpAny_mono (ha.run I hP hA hn hv hm hk _ h) (fun y t1 r => ?_) fun _ _ z => z
  obtain ⟨⟨v, r1, q1⟩, k1⟩ := r
  refine chain_link (q_then hb I hP hA hn hv hm hk k1 q1 fun v' y' t2 r2 q2 k2 => ?_)
  obtain ⟨i, j, rfl, rfl, q⟩ := q2
  obtain ⟨_, rfl⟩ := r1
  obtain ⟨_, rfl⟩ := r2
  refine hop hA (wpAny_truthy_bool ?_)
  cases z : f i j with
  | false =>
    rw [z] at q
    exact ite_ff ⟨⟨.bl false, rfl, by rw [if_neg Bool.false_ne_true] at q; exact q⟩, k2⟩
  | true =>
    rw [z, if_pos rfl] at q
    refine ite_tt (chain_last (q_then hc I hP hA hn hv hm hk k2 q fun v'' y'' t3 r3 q3 k3 => ?_))
    obtain ⟨k, rfl, q'⟩ := q3
    obtain ⟨_, rfl⟩ := r3
    exact hop' hA ⟨⟨.bl _, rfl, q'⟩, k3⟩
/-! ### any, all, sum of a generator expression over a list or a tuple -/
def SqB (K : PySem.W.Frag) (H : Hp) (a : Addr) (xs : List V) : Prop := SqL K H a xs ∨ SqT K H a xs
theorem walk_sq {H1 : Hp} {s1 : Shared} {P a : Addr} {ps : Array Value} {xs : List V} (I : Inv X pins σ H1 s1) (hP : H1 P = some (.tbl ps)) (h : SqB X.K H1 a xs) :
    ∃ its : List Value, Vals xs its ∧ WalkV X.prog X.w s1.heap P (.ref a) xs.length (fun i v => its[i]? = some v) := by
  have tab1 : s1.heap.get? P = some { cls := .none, data := .fields ps } := I.hok P _ hP
  have ne : ∀ {o : Obj} {T : String}, s1.heap.get? a = some o → o.cls = .type T → a ≠ P := fun {o T} e c z => by
    rw [z, tab1] at e
    cases e
    cases c
  rcases h with h | h
  · obtain ⟨its, r, pl, _⟩ := I.list h
    obtain ⟨o, e, c, q⟩ := pl.isList
    have w := walk_list (prog := X.prog) (w := X.w) (P := P) (l := a) ⟨o, e, c, q⟩ (Heap.lt_size tab1) (ne e c)
    refine ⟨its, r, ?_⟩
    simp only [List.size_toArray, List.getElem?_toArray] at w
    rw [r.length]
    exact w
  · obtain ⟨its, r, tp, _⟩ := I.tuple h
    obtain ⟨o, e, c, q⟩ := tp
    have w := walk_tuple (prog := X.prog) (w := X.w) (P := P) (l := a) ⟨o, e, c, q⟩ (Heap.lt_size tab1) (ne e c)
    refine ⟨its, r, ?_⟩
    simp only [List.size_toArray, List.getElem?_toArray] at w
    rw [r.length]
    exact w
theorem elt_of {scope : Scope} {x : Str} {elt : Expr} {rd : QT} (he : QE X scope [x] elt rd) {H1 : Hp} {s1 : Shared} {P : Addr} {ps : Array Value} (I : Inv X pins σ H1 s1) (hP : H1 P = some (.tbl ps)) {xs : List V} {its : List Value} (r : Vals xs its) {g : Nat → V}
    (h : ∀ i v, xs[i]? = some v → rd [v] σ H1 fun y => y = g i) : EltR X scope x elt P s1.heap (fun i v => its[i]? = some v) (fun i y => i < xs.length ∧ RelV (g i) y) := by
  intro C code A' E' i v t m hA hi hn hm hk
  have len := r.length
  obtain ⟨li, _⟩ := List.getElem?_eq_some_iff.mp hi
  have ex : xs[i]? = some (xs[i]'(by rw [len]; exact li)) := List.getElem?_eq_getElem _
  obtain ⟨u, eu, rel⟩ := r.get ex
  rw [hi] at eu
  cases eu
  refine wpAny_mono (he.run I hP hA hn (.cons rel .nil) (fun j n e => ?_) hk _ (h i _ ex)) (fun y t' q => ?_) fun _ _ z => z
  · cases j with
    | zero => cases e; exact hm
    | succ j => cases e
  · obtain ⟨⟨v', r', rfl⟩, k⟩ := q
    exact ⟨⟨by rw [len]; exact li, r'⟩, k⟩
/-- a generator expression of the def is consumed: the source, the elements, what is said of the answer -/
def tGen (P : Addr) (K : PySem.W.Frag) (rd : QT) (res : List V → (Nat → V) → (V → Prop) → Prop) (te : TE) : TE := fun σ H Q => te σ H fun v H1 => TabG H1 P ∧ ∃ (a : Addr) (xs : List V) (g : Nat → V), v = .ref a ∧ SqB K H1 a xs ∧
  (∀ i x, xs[i]? = some x → rd [x] σ H1 fun y => y = g i) ∧ res xs g fun r => ∀ H2, Tabbed P H1 H2 → Q r H2
/-- the consumer f of a walked generator -/
def Eats (X : Cx) (fn : String) (res : List V → (Nat → V) → (V → Prop) → Prop) : Prop :=
  ∀ {xs : List V} {g : Nat → V} {Z : V → Prop} {ga : Addr} {fp wr : List Addr} {G : Array GenState → Array GenState → Prop} {F' : Nat → Value → Prop} {St : Nat → Shared → Prop} {t : Shared} {E : Value → Shared → Prop} {Q : Value → Shared → Prop},
    res xs g Z → WalksS X.prog X.w X.A.in1 ga fp wr G xs.length F' St → (∀ j y, F' j y → j < xs.length ∧ RelV (g j) y) → St 0 t → (∀ b ∈ fp, b < t.heap.objs.size) →
    (∀ (r : V) (y : Value) (t' : Shared), Z r → RelV r y → Moved wr G t t' → Q y t') → wpAny (model X.prog X.w) X.A (call (.builtin fn) [.ref ga]) Q E t
theorem pe_gen {fn : String} {res : List V → (Nat → V) → (V → Prop) → Prop} {n : Str} {c P : Addr} {elt iter : Expr} {x : Str} {px p pos gpos : Pos} {scope : Scope} {rd : QT} {te : TE} {k : Nat} (hf : Eats X fn res)
    (hr : Room k X.A) (hg : Gl X n) (hm : X.mg n = none) (hb : bootBuiltins n = some (.builtin fn)) (TB : TabB X.base X.mg c P) (hcode : X.env.code = .ref c) (S : GenS X.env scope x) (hi : PE X iter te) (hel : QE X scope [x] elt rd)
    (hs : ∀ v, genFold iter X.env v = pure v) (hn : n ≠ "__name__" := by decide) (hdb : (n == ("__debug__" : Str)) = false := by decide)
    (he : starEach [.GeneratorExp elt [⟨.Name x px, iter, [], 0⟩] scope gpos] X.env = (false, eval (.GeneratorExp elt [⟨.Name x px, iter, [], 0⟩] scope gpos) X.env) :: starEach [] X.env := by rfl) :
    PE X (.Call (.Name n p) [.GeneratorExp elt [⟨.Name x px, iter, [], 0⟩] scope gpos] [] pos) (tGen P X.K rd res te) := by
  refine ⟨fun pins s σ H Q I h => ?_⟩
  refine wpAny_Call_Name_kw (ld_blt I hg hm hb ?_ hn hdb)
  refine PyProof.Rows.callWith_builtin1 ?_ he (by rfl)
  rw [he]
  refine Calls.spliced_cons (gen_seq hr TB hcode S hi hs I h fun v H1 all1 => ?_)
  obtain ⟨⟨ps, hP, trip⟩, a, xs, g, rfl, sq, els, rz⟩ := all1
  refine ⟨⟨ps, hP, trip⟩, fun s1 xv I1 rel => ?_⟩
  cases rel
  obtain ⟨its, vals, walk⟩ := walk_sq I1 hP sq
  refine ⟨_, _, _, walk, elt_of hel I1 hP vals els, fun ga t rdy => ?_⟩
  obtain ⟨fp, wr, G, F', St, W, hF, st, bnd, fin⟩ := rdy
  refine Calls.spliced_nil ?_
  refine hf rz W hF st bnd fun r y t' hZ ry mv => ?_
  obtain ⟨H2, tb, J⟩ := fin t' mv
  exact ⟨r, H2, J, ry, hZ H2 tb⟩
def resAny : List V → (Nat → V) → (V → Prop) → Prop := fun xs g Z => ∃ pb : Nat → Bool, (∀ i, i < xs.length → g i = .bl (pb i)) ∧ Z (.bl ((List.range xs.length).any pb))
def resAll : List V → (Nat → V) → (V → Prop) → Prop := fun xs g Z => ∃ pb : Nat → Bool, (∀ i, i < xs.length → g i = .bl (pb i)) ∧ Z (.bl ((List.range xs.length).all pb))
def resSum : List V → (Nat → V) → (V → Prop) → Prop := fun xs g Z => ∃ f : Nat → Int, (∀ i, i < xs.length → g i = .int (f i)) ∧ Z (.int (preSum f xs.length))
theorem eats_any : Eats X "any" resAny := by
  intro xs g Z ga fp wr G F' St t E Q hz W hF st bnd k
  obtain ⟨pb, hg, z⟩ := hz
  refine call_any_walkS (W.self 0 _ _ _ st ⟨ga, fp, wr, G, _, F', St, pb, rfl, W, st, fun i v s' Q' E' hi hQ => ?_, fun t' mv => k _ _ t' z rfl mv⟩)
  obtain ⟨li, r⟩ := hF i v hi
  rw [hg i li] at r
  cases r
  exact wpAny_truthy_bool hQ
theorem eats_all : Eats X "all" resAll := by
  intro xs g Z ga fp wr G F' St t E Q hz W hF st bnd k
  obtain ⟨pb, hg, z⟩ := hz
  refine call_all_walkS (W.self 0 _ _ _ st ⟨ga, fp, wr, G, _, F', St, pb, rfl, W, st, fun i v s' Q' E' hi hQ => ?_, fun t' mv => k _ _ t' z rfl mv⟩)
  obtain ⟨li, r⟩ := hF i v hi
  rw [hg i li] at r
  cases r
  exact wpAny_truthy_bool hQ
theorem eats_sum : Eats X "sum" resSum := by
  intro xs g Z ga fp wr G F' St t E Q hz W hF st bnd k
  obtain ⟨f, hg, z⟩ := hz
  refine call_sum_walkAnyS (W.self 0 _ _ _ st ⟨ga, fp, wr, G, _, F', St, f, rfl, W, st, bnd, fun i v hi => ?_, fun t' tk mv => k _ _ t' z ⟨_, rfl⟩ mv⟩)
  obtain ⟨li, r⟩ := hF i v hi
  rw [hg i li] at r
  exact r
/-! ### two names: for a, b in .. -/
structure GenP (env : Env) (scope : Scope) (xa xb : Str) : Prop where
  kind : scope.kind = .function
  co : scope.isCoroutine = false
  cell : ∀ y ∈ scope.names, y.2 ≠ .cell
  dot : scope.names.lookup (".0" : Str) = some NameKind.local
  loca : scope.names.lookup xa = some .local
  locb : scope.names.lookup xb = some .local
  ne : xa ≠ xb
  free : ∀ y ∈ scope.names, y.2 = .free → ∃ c, env.cells.lookup y.1 = some c
/-- the value xv in the heap h can be walked, its items are tuples -/
def WalkP (prog : Program) (w : World) (h : Heap) (P : Addr) (xv : Value) (n : Nat) (Pt : Nat → Array Value → Prop) : Prop :=
  ∀ (A : Around) (E : Value → Shared → Prop) (s : Shared) (Q : Value → Shared → Prop), s.heap = h →
    (∀ (ob : Obj) (fp : List Addr) (St : Nat → Heap → Prop) (Mid : Nat → Addr → Heap → Prop), (∀ A' : Around, A'.handled = none → WalksU prog w A' h.objs.size fp [h.objs.size] n Pt St Mid) → St 0 (h.push ob) → (∀ b ∈ fp, b ≠ P ∧ b ≤ h.objs.size) →
      Q (.ref h.objs.size) { s with heap := h.push ob }) → wpAny (model prog w) A (pyIter xv) Q E s
def EltP2 (X : Cx) (scope : Scope) (xa xb : Str) (elt : Expr) (P : Addr) (h : Heap) (Pt : Nat → Array Value → Prop) (F : Nat → Value → Prop) : Prop :=
  ∀ (C : Addr) (code : Value) (A' : Around) (E' : Value → Shared → Prop) (i : Nat) (va vb : Value) (t : Shared) (m : Str → Option Value), A'.handled = none → Pt i #[va, vb] → t.heap.Ns C m → m xa = some va → m xb = some vb →
    (∀ b o, b ≠ P → h.get? b = some o → t.heap.get? b = some o) → wpAny (model X.prog X.w) A' (eval elt (genEnv scope (cloFrom X.env.cells scope.names []) C code builtinsNs X.env)) (fun y t' => F i y ∧ Keeps t t') E' t
theorem gen_pair {c P : Addr} {elt iter : Expr} {xa xb : Str} {qa qb qt gpos : Pos} {kt : Nat} {scope : Scope} {te : TE} {k : Nat} {Q' : Value → Shared → Prop}
    (hr : Room k X.A) (TB : TabB X.base X.mg c P) (hcode : X.env.code = .ref c) (S : GenP X.env scope xa xb) (hi : PE X iter te) (hs : ∀ v, genFold iter X.env v = pure v) (I : Inv X pins σ H s)
    {R : VK} (h : te σ H R) (hR : ∀ v H1, R v H1 → TabG H1 P ∧ ∀ (s1 : Shared) (xv : Value), Inv X pins σ H1 s1 → RelV v xv → ∃ (n : Nat) (Pt : Nat → Array Value → Prop) (F : Nat → Value → Prop), WalkP X.prog X.w s1.heap P xv n Pt ∧ (∀ i vals, Pt i vals → ∃ va vb, vals = #[va, vb]) ∧ EltP2 X scope xa xb elt P s1.heap Pt F ∧ ∀ g t, RdyG X pins σ H1 P n F g t → Q' (.ref g) t) :
    wpAny (model X.prog X.w) X.A (eval (.GeneratorExp elt [⟨.Tuple [.Name xa qa, .Name xb qb] kt qt, iter, [], 0⟩] scope gpos) X.env) Q' X.xe s := by
  refine wpAny_GeneratorExp_walksQT hr.hd S.co (closure_ok S.free) S.cell S.dot S.loca S.locb S.ne S.kind (by have d := hr.dp; omega) ?_ hs
  refine thn (hi.run pins s σ H _ I h) fun xv s1 ⟨v, H1, I1, rel, all1⟩ => ?_
  obtain ⟨⟨ps, tabH, trip⟩, rest⟩ := hR v H1 all1
  obtain ⟨n, Pt, F, walk, two, hel, fin⟩ := rest s1 xv I1 rel
  refine walk _ _ _ _ rfl fun ob fp St Mid W st0 hfp => ?_
  have tab1 : s1.heap.get? P = some { cls := .none, data := .fields ps } := I1.hok P _ tabH
  have Plt : P < s1.heap.objs.size := Heap.lt_size tab1
  have tab2 : (s1.heap.push ob).get? P = some { cls := .none, data := .fields ps } := Heap.get?_push_of_some _ tab1
  have hd2 : PySem.W.CodeHd (s1.heap.push ob) c P := TB.code.keeps fun b u q => Heap.get?_push_of_some _ (I1.bk b u q)
  have lim2 : (s1.heap.push ob).NoLimit := I1.nolimit.push ob
  have size2 : (s1.heap.push ob).objs.size = s1.heap.objs.size + 1 := Heap.size_push ..
  refine ⟨lim2, ?_⟩
  -- behind the code object: the table holds ps and more
  have go : ∀ (code : Value) (h3 : Heap) (tk : Nat) (qs : Array Value), Heap.ExtBut P (s1.heap.push ob) h3 → s1.heap.objs.size + 1 ≤ h3.objs.size → h3.get? P = some { cls := .none, data := .fields qs } → (∃ more, qs = ps ++ more) → TriplesOk qs.toList →
      wpAny (model X.prog X.w) X.A (builtinsFor X.env.globals X.env.builtins) (fun bi s4 =>
        ∃ J fp' wr n₀ Pf St₀ Mid pz F', Value.ref s1.heap.objs.size = .ref J ∧ (∀ A' : Around, A'.handled = none → WalksU X.prog X.w A' J fp' wr n₀ Pf St₀ Mid) ∧ (∀ i vals, Pf i vals → ∃ va vb, vals = #[va, vb]) ∧ St₀ 0 s4.heap ∧ (∀ b ∈ fp', b < s4.heap.objs.size) ∧ s4.heap.NoLimit ∧ cStatics ∉ wr ∧
          (∀ hx : Heap, (∀ b o, s4.heap.get? b = some o → hx.get? b = some o) →
            QuietGenT X.prog X.w (genEnv scope (cloFrom X.env.cells scope.names []) s4.heap.objs.size code bi X.env) xa xb [] elt (List.range s4.heap.objs.size) wr Pf pz F' hx) ∧
          (∀ a h5 tk5 gs, gs.bare = true → s4.heap.objs.size < a → h5.objs.size = a + 1 → (∀ b o, s4.heap.get? b = some o → h5.get? b = some o) →
            WalksS X.prog X.w X.A.in4 a (a :: s4.heap.objs.size :: List.range s4.heap.objs.size) (s4.heap.objs.size :: wr) (GenOnlyQ s4.gens.size) (passing pz n₀ 0).length
              (fun j y => ∃ i, (passing pz n₀ 0)[j]? = some i ∧ F' i y) (GenAt X.prog X.w X.A.in4 a s4.gens.size s4.heap.objs.size (List.range s4.heap.objs.size) wr pz n₀ F') →
            GenAt X.prog X.w X.A.in4 a s4.gens.size s4.heap.objs.size (List.range s4.heap.objs.size) wr pz n₀ F' 0 { s4 with gens := s4.gens.push gs, toks := tk5, heap := h5 } →
            Q' (.ref a) { s4 with gens := s4.gens.push gs, toks := tk5, heap := h5 })) X.xe { s1 with heap := h3, toks := tk } := by
    intro code h3 tk qs ext le3 tab3 grown trip3
    obtain ⟨bm, bo, z1, z2, z3, z4, z5, z6, z7, z8⟩ := TB.bm
    have statP : cStatics ≠ P := fun q => by
      obtain ⟨_, hns, _⟩ := I1.nolimit
      obtain ⟨o', es, ep, ho, hd, _⟩ := hns
      rw [q, tab1] at ho
      cases ho
      cases hd
    have statLt : cStatics < s1.heap.objs.size := by
      obtain ⟨_, hns, _⟩ := I1.nolimit
      exact hns.lt
    have keep3 : ∀ b u, b ≠ P → s1.heap.get? b = some u → h3.get? b = some u := fun b u nb q => ext b u nb (Heap.get?_push_of_some _ q)
    refine wpAny_builtinsFor (m := X.mg) (by rw [I1.ok.glob]; exact ((I1.mod.glob.keeps I1.bk).push ob).extBut ext TB.gP) z1 z2 (keep3 _ _ z4 (I1.bk _ _ z5)) z6 z7 z8 ?_
    refine ⟨s1.heap.objs.size, fp, [s1.heap.objs.size], n, Pt, St, Mid, (fun _ => true), F, rfl, W, two, ?_, fun b hb => ?_, lim2.extBut ext statP, fun q => ?_, fun hx keepx => ?_, ?_⟩
    · exact (W X.A hr.hd).frame _ _ _ st0 fun b hb u q => ext b u (hfp b hb).1 q
    · exact Nat.lt_of_lt_of_le (Nat.lt_succ_of_le (hfp b hb).2) le3
    · rw [List.mem_singleton] at q
      exact Nat.ne_of_lt statLt q
    · refine ⟨fun A' E' i va vb t m hA hv hn hma hmb hk => ?_, fun A' E' i va vb t m hA hv hp hn hma hmb hk => ?_⟩
      · simp only [List.forIn_nil]
        exact wpAny_pure ⟨rfl, keeps_refl _⟩
      · refine hel _ _ A' E' i va vb t m hA hv hn hma hmb fun b o nb q => ?_
        have b1 : b < s1.heap.objs.size := Heap.lt_size q
        refine hk b (List.mem_range.mpr (Nat.lt_of_lt_of_le (Nat.lt_succ_of_lt b1) le3)) (fun q' => ?_) o (keepx b o (keep3 b o nb q))
        rw [List.mem_singleton] at q'
        exact Nat.ne_of_lt b1 q'
    · intro a h5 tk5 gs bare agt size5 keep5 W5 at5
      have pt : passing (fun _ => true) n 0 = List.range n := passing_true n
      have W6 := W5.in4_1
      rw [pt, List.length_range] at W6
      refine fin a _ ⟨_, _, _, _, _, W6, fun j y hy => ?_, at5, fun b hb => ?_, fun t' mv => ?_⟩
      · obtain ⟨i, hi', hF⟩ := hy
        obtain ⟨hj, ej⟩ := List.getElem?_eq_some_iff.mp hi'
        rw [List.getElem_range] at ej
        subst ej
        exact hF
      · have agt' : h3.objs.size < h5.objs.size := by
          rw [size5]
          exact Nat.lt_succ_of_lt agt
        simp only [List.mem_cons, List.mem_range] at hb
        rcases hb with rfl | rfl | hb
        · rw [size5]
          exact Nat.lt_succ_self _
        · exact agt'
        · exact Nat.lt_trans hb agt'
      · obtain ⟨more, em⟩ := grown
        have apart : ∀ b u, s1.heap.get? b = some u → b ∉ h3.objs.size :: [s1.heap.objs.size] := fun b u q hb => by
          have b1 : b < s1.heap.objs.size := Heap.lt_size q
          simp only [List.mem_cons, List.not_mem_nil, or_false] at hb
          rcases hb with e | e
          · exact Nat.ne_of_lt (Nat.lt_of_lt_of_le (Nat.lt_succ_of_lt b1) le3) e
          · exact Nat.ne_of_lt b1 e
        have J := inv_tab (more := more) (h' := t'.heap) (g' := t'.gens) (d' := t'.drawn) (t' := t'.toks) I1 tabH (fun b u nb q => mv.heap b u (apart b u q) (keep5 b u (keep3 b u nb q)))
          (by rw [← em]; exact mv.heap P _ (apart P _ tab1) (keep5 P _ tab3)) (AllBare.movedS (I1.bare.push bare) mv)
        rw [sh_eta s1 t' mv.os] at J
        exact ⟨upd H1 P (.tbl (ps ++ more)), ⟨⟨ps ++ more, upd_same, by rw [← em]; exact trip3⟩, fun b nb => upd_ne nb⟩, J⟩
  cases among : codeAmong gpos ps.toList with
  | none =>
    refine wpAny_genexprCodeX hcode (hd2.code tab2 trip) (hd2.tab tab2) among fun c' h' tk ext ge lt co _ tab' _ => ?_
    obtain ⟨_, _, _, _, _, _, _, _, _, _, _, _, _, _, _, _, _, _, _, tr, _⟩ := co
    exact go _ h' tk _ ext (by have ge' := ge; rw [size2] at ge'; exact Nat.le_trans ge' (Nat.le_of_lt lt)) tab'.2 ⟨_, rfl⟩ tr
  | some cv =>
    refine wpAny_genexprCode_hit hcode (hd2.code tab2 trip) among ?_
    exact go cv (s1.heap.push ob) s1.toks ps (Heap.ExtBut.refl _ _) (Nat.le_of_eq size2.symm) tab2 ⟨#[], by simp⟩ trip
theorem go_titer {elts : List Expr} {kt : Nat} {pos : Pos} {prog : Program} {w : World} {A : Around} {E : Value → Shared → Prop} {s : Shared} {I l T : Addr} {i : Nat} {Q : Unit → Shared → Prop} (hit : s.heap.IsTupleIter I l i) (hQ : Q () s) :
    wpAny (model prog w) A (letOwnedTupleGo (.Tuple elts kt pos) (.ref I) (.ref T)) Q E s := by
  obtain ⟨o, ho, hc, hd⟩ := hit
  unfold letOwnedTupleGo
  refine wpAny_bind (wpAny_load ho ?_)
  rw [hc, hd]
  have no : (["enumerate", "zip", "dict_itemiterator", "dict_reverseitemiterator", "odict_iterator", "itertools.zip_longest", "itertools.pairwise"].contains "tuple_iterator") = false := by decide
  show wpAny _ A (if ((["enumerate", "zip", "dict_itemiterator", "dict_reverseitemiterator", "odict_iterator", "itertools.zip_longest", "itertools.pairwise"].contains "tuple_iterator") && _) = true then _ else _) Q E s
  rw [no, Bool.false_and, if_neg Bool.false_ne_true]
  exact wpAny_pure hQ
/-- a tuple of tuples -/
theorem walkU_tuple {prog : Program} {w : World} {A : Around} (hh : A.handled = none) (I ax : Addr) (hne : ax ≠ I) (items : Array Value) (Ts : Nat → Addr) (vals : Nat → Array Value) (hit : ∀ j, j < items.size → items[j]? = some (.ref (Ts j))) (hTI : ∀ j, j < items.size → Ts j ≠ I) :
    WalksU prog w A I (I :: ax :: (List.range items.size).map Ts) [I] items.size (fun j v => v = vals j) (fun j h => h.IsTupleIter I ax j ∧ h.IsTuple ax items ∧ ∀ k, k < items.size → h.IsTuple (Ts k) (vals k))
      (fun j T h => (j < items.size ∧ T = Ts j) ∧ h.IsTupleIter I ax (j + 1) ∧ h.IsTuple ax items ∧ ∀ k, k < items.size → h.IsTuple (Ts k) (vals k)) where
  sub := fun b hb => by
    rw [List.mem_singleton] at hb
    rw [hb]
    exact List.mem_cons_self
  frame := fun i h h' st hk => by
    obtain ⟨a, b, c⟩ := st
    exact ⟨a.at fun o e => hk I List.mem_cons_self o e, b.at fun o e => hk ax (List.mem_cons_of_mem _ List.mem_cons_self) o e,
      fun k hk' => (c k hk').at fun o e => hk (Ts k) (List.mem_cons_of_mem _ (List.mem_cons_of_mem _ (List.mem_map_of_mem (List.mem_range.mpr hk')))) o e⟩
  item := fun i s Q E hi st hQ => by
    obtain ⟨a, b, c⟩ := st
    refine wpAny_pyNext_tuple_item a b (x := .ref (Ts i)) (hit i hi) fun h' a' same => ?_
    have c' : ∀ k, k < items.size → h'.IsTuple (Ts k) (vals k) := fun k hk' => (c k hk').extBut same.extBut (hTI k hk')
    exact hQ (Ts i) (vals i) h' s.toks rfl (c' i hi) ⟨⟨hi, rfl⟩, a', b.extBut same.extBut hne, c'⟩ fun d o nd e => same.extBut d o (fun z => nd (List.mem_singleton.mpr z)) e
  go := fun _ _ _ i T s Q E hm hQ => go_titer hm.2.1 (hQ s.heap hm.2 fun _ _ _ e => e)
  apart := fun j T h hm hmem => by
    rw [List.mem_singleton] at hmem
    exact hTI j hm.1.1 (hm.1.2 ▸ hmem)
  done := fun s Q E st hQ => by
    obtain ⟨a, b, _⟩ := st
    exact wpAny_pyNext_tuple_end hh a b (by simp) fun h' he => hQ h' s.toks fun d o nd e => he d o (fun z => nd (List.mem_singleton.mpr z)) e
  self := fun _ _ _ _ st hQ => wpAny_pyIter_tupleiter st.1 hQ
theorem walkU_n {prog : Program} {w : World} {A : Around} {I : Addr} {fp wr : List Addr} {n m : Nat} {vals : Nat → Array Value} {St : Nat → Heap → Prop} {Mid : Nat → Addr → Heap → Prop} (W : WalksU prog w A I fp wr n (fun j v => v = vals j) St Mid) (e : n = m) :
    WalksU prog w A I fp wr m (fun j v => j < m ∧ v = vals j) St Mid := by
  subst e
  exact {
    sub := W.sub
    frame := W.frame
    item := fun i s Q E hi st hQ => W.item i s Q E hi st fun T v h' tk hv => hQ T v h' tk ⟨hi, hv⟩
    go := W.go
    apart := W.apart
    done := W.done
    self := W.self }
/-- pairs at the items of xs -/
def PrB (K : PySem.W.Frag) (H : Hp) (xs : List V) (pr : Nat → V × V) : Prop := ∀ i x, xs[i]? = some x → ∃ t, x = .ref t ∧ SqT K H t [(pr i).1, (pr i).2]
theorem walk_pr {H1 : Hp} {s1 : Shared} {P a : Addr} {ps : Array Value} {xs : List V} {pr : Nat → V × V} (I : Inv X pins σ H1 s1) (hP : H1 P = some (.tbl ps)) (h : SqB X.K H1 a xs) (hpr : PrB X.K H1 xs pr) :
    ∃ vals : Nat → Array Value, (∀ i, i < xs.length → ∃ va vb, vals i = #[va, vb] ∧ RelV (pr i).1 va ∧ RelV (pr i).2 vb) ∧ WalkP X.prog X.w s1.heap P (.ref a) xs.length (fun i v => i < xs.length ∧ v = vals i) := by
  have tab1 : s1.heap.get? P = some { cls := .none, data := .fields ps } := I.hok P _ hP
  have Plt : P < s1.heap.objs.size := Heap.lt_size tab1
  have ne : ∀ {b : Addr} {o : Obj} {T : String}, s1.heap.get? b = some o → o.cls = .type T → b ≠ P := fun {b o T} e c z => by
    rw [z, tab1] at e
    cases e
    cases c
  have each : ∀ i, ∃ q : Addr × Array Value, i < xs.length → xs[i]? = some (.ref q.1) ∧ s1.heap.IsTuple q.1 q.2 ∧ ∃ va vb, q.2 = #[va, vb] ∧ RelV (pr i).1 va ∧ RelV (pr i).2 vb := fun i => by
    by_cases hi : i < xs.length
    · obtain ⟨t, e, sq⟩ := hpr i _ (List.getElem?_eq_getElem hi)
      obtain ⟨its, r, tp, _⟩ := I.tuple sq
      refine ⟨(t, its.toArray), fun _ => ⟨by rw [List.getElem?_eq_getElem hi, e], tp, ?_⟩⟩
      cases r with
      | cons r1 r => cases r with
        | cons r2 r =>
          cases r
          exact ⟨_, _, rfl, r1, r2⟩
    · exact ⟨(0, #[]), fun z => absurd z hi⟩
  obtain ⟨f, hf⟩ := Classical.skolem.mp each
  refine ⟨fun i => (f i).2, fun i hi => (hf i hi).2.2, ?_⟩
  have fin : ∀ (its : List Value), Vals xs its → (∀ j, j < its.toArray.size → its.toArray[j]? = some (.ref (f j).1)) ∧ its.toArray.size = xs.length := fun its r => by
    have len := r.length
    refine ⟨fun j hj => ?_, by simp [len]⟩
    have hj' : j < xs.length := by rw [len]; simpa using hj
    obtain ⟨u, eu, ru⟩ := r.get (hf j hj').1
    cases ru
    rw [List.getElem?_toArray]
    exact eu
  have lt : ∀ j, j < xs.length → (f j).1 < s1.heap.objs.size := fun j hj => by
    obtain ⟨o, e, _⟩ := (hf j hj).2.1
    exact Heap.lt_size e
  have nP : ∀ j, j < xs.length → (f j).1 ≠ P := fun j hj => by
    obtain ⟨o, e, c, _⟩ := (hf j hj).2.1
    exact ne e c
  have foot : ∀ {a : Addr}, a < s1.heap.objs.size → a ≠ P → ∀ {n : Nat}, n = xs.length → ∀ b ∈ s1.heap.objs.size :: a :: (List.range n).map (fun j => (f j).1), b ≠ P ∧ b ≤ s1.heap.objs.size := fun {a} la na {n} en b hb => by
    subst en
    rcases List.mem_cons.mp hb with rfl | hb
    · exact ⟨(Nat.ne_of_lt Plt).symm, Nat.le_refl _⟩
    · rcases List.mem_cons.mp hb with rfl | hb
      · exact ⟨na, Nat.le_of_lt la⟩
      · obtain ⟨j, hj, rfl⟩ := List.mem_map.mp hb
        have hj' := List.mem_range.mp hj
        exact ⟨nP j hj', Nat.le_of_lt (lt j hj')⟩
  rcases h with h | h
  · obtain ⟨its, r, pl, _⟩ := I.list h
    obtain ⟨o, e, c, q⟩ := pl.isList
    obtain ⟨at_, sz⟩ := fin its r
    intro A E s Q es k
    obtain ⟨hp, gs, dr, tk, os⟩ := s
    replace es : hp = s1.heap := es
    subst es
    have la : a < s1.heap.objs.size := Heap.lt_size e
    refine wpAny_pyIter_list ⟨o, e, c, q⟩ (k _ _ _ _ (fun A' hA => walkU_n (WalksU.listOfTuples (prog := X.prog) (w := X.w) hA s1.heap.objs.size a (Nat.ne_of_lt la) its.toArray (fun j => (f j).1) (fun j => (f j).2) at_ (fun j hj => Nat.ne_of_lt (lt j (by rw [← sz]; exact hj)))) sz) ?_ (foot la (ne e c) sz))
    · exact ⟨⟨_, Heap.get?_push_size _ rfl, rfl, rfl⟩, Heap.IsList.push ⟨o, e, c, q⟩ _, fun j hj => (hf j (by rw [← sz]; exact hj)).2.1.push _⟩
  · obtain ⟨its, r, tp, _⟩ := I.tuple h
    obtain ⟨o, e, c, q⟩ := tp
    obtain ⟨at_, sz⟩ := fin its r
    intro A E s Q es k
    obtain ⟨hp, gs, dr, tk, os⟩ := s
    replace es : hp = s1.heap := es
    subst es
    have la : a < s1.heap.objs.size := Heap.lt_size e
    refine wpAny_pyIter_tuple ⟨o, e, c, q⟩ (k _ _ _ _ (fun A' hA => walkU_n (walkU_tuple (prog := X.prog) (w := X.w) hA s1.heap.objs.size a (Nat.ne_of_lt la) its.toArray (fun j => (f j).1) (fun j => (f j).2) at_ (fun j hj => Nat.ne_of_lt (lt j (by rw [← sz]; exact hj)))) sz) ?_ (foot la (ne e c) sz))
    · exact ⟨⟨_, Heap.get?_push_size _ rfl, rfl, rfl⟩, Heap.IsTuple.push ⟨o, e, c, q⟩ _, fun j hj => (hf j (by rw [← sz]; exact hj)).2.1.push _⟩
theorem elt_ofP {scope : Scope} {xa xb : Str} {elt : Expr} {rd : QT} (he : QE X scope [xa, xb] elt rd) {H1 : Hp} {s1 : Shared} {P : Addr} {ps : Array Value} (I : Inv X pins σ H1 s1) (hP : H1 P = some (.tbl ps)) {n : Nat} {pr : Nat → V × V} {vals : Nat → Array Value}
    (hv : ∀ i, i < n → ∃ va vb, vals i = #[va, vb] ∧ RelV (pr i).1 va ∧ RelV (pr i).2 vb) {g : Nat → V} (h : ∀ i, i < n → rd [(pr i).1, (pr i).2] σ H1 fun y => y = g i) :
    EltP2 X scope xa xb elt P s1.heap (fun i v => i < n ∧ v = vals i) (fun i y => i < n ∧ RelV (g i) y) := by
  intro C code A' E' i va vb t m hA hi hn hma hmb hk
  obtain ⟨li, ei⟩ := hi
  obtain ⟨ua, ub, e, r1, r2⟩ := hv i li
  rw [e] at ei
  simp only [Array.mk.injEq, List.cons.injEq, and_true] at ei
  obtain ⟨rfl, rfl⟩ := ei
  refine wpAny_mono (he.run I hP hA hn (.cons r1 (.cons r2 .nil)) (fun j n' q => ?_) hk _ (h i li)) (fun y t' q => ?_) fun _ _ z => z
  · cases j with
    | zero => cases q; exact hma
    | succ j => cases j with
      | zero => cases q; exact hmb
      | succ j => cases q
  · obtain ⟨⟨v', r', rfl⟩, kk⟩ := q
    exact ⟨⟨li, r'⟩, kk⟩
/-- as tGen, over pairs -/
def tGenP (P : Addr) (K : PySem.W.Frag) (rd : QT) (res : List V → (Nat → V) → (V → Prop) → Prop) (te : TE) : TE := fun σ H Q => te σ H fun v H1 => TabG H1 P ∧ ∃ (a : Addr) (xs : List V) (pr : Nat → V × V) (g : Nat → V), v = .ref a ∧ SqB K H1 a xs ∧ PrB K H1 xs pr ∧
  (∀ i, i < xs.length → rd [(pr i).1, (pr i).2] σ H1 fun y => y = g i) ∧ res xs g fun r => ∀ H2, Tabbed P H1 H2 → Q r H2
theorem pe_genP {fn : String} {res : List V → (Nat → V) → (V → Prop) → Prop} {n : Str} {c P : Addr} {elt iter : Expr} {xa xb : Str} {qa qb qt p pos gpos : Pos} {kt : Nat} {scope : Scope} {rd : QT} {te : TE} {k : Nat} (hf : Eats X fn res)
    (hr : Room k X.A) (hg : Gl X n) (hm : X.mg n = none) (hb : bootBuiltins n = some (.builtin fn)) (TB : TabB X.base X.mg c P) (hcode : X.env.code = .ref c) (S : GenP X.env scope xa xb) (hi : PE X iter te) (hel : QE X scope [xa, xb] elt rd)
    (hs : ∀ v, genFold iter X.env v = pure v) (hn : n ≠ "__name__" := by decide) (hdb : (n == ("__debug__" : Str)) = false := by decide)
    (he : starEach [.GeneratorExp elt [⟨.Tuple [.Name xa qa, .Name xb qb] kt qt, iter, [], 0⟩] scope gpos] X.env = (false, eval (.GeneratorExp elt [⟨.Tuple [.Name xa qa, .Name xb qb] kt qt, iter, [], 0⟩] scope gpos) X.env) :: starEach [] X.env := by rfl) :
    PE X (.Call (.Name n p) [.GeneratorExp elt [⟨.Tuple [.Name xa qa, .Name xb qb] kt qt, iter, [], 0⟩] scope gpos] [] pos) (tGenP P X.K rd res te) := by
  refine ⟨fun pins s σ H Q I h => ?_⟩
  refine wpAny_Call_Name_kw (ld_blt I hg hm hb ?_ hn hdb)
  refine PyProof.Rows.callWith_builtin1 ?_ he (by rfl)
  rw [he]
  refine Calls.spliced_cons (gen_pair hr TB hcode S hi hs I h fun v H1 all1 => ?_)
  obtain ⟨⟨ps, hP, trip⟩, a, xs, pr, g, rfl, sq, hpr, els, rz⟩ := all1
  refine ⟨⟨ps, hP, trip⟩, fun s1 xv I1 rel => ?_⟩
  cases rel
  obtain ⟨vals, hv, walk⟩ := walk_pr I1 hP sq hpr
  refine ⟨_, _, _, walk, fun i v q => ?_, elt_ofP hel I1 hP hv els, fun ga t rdy => ?_⟩
  · obtain ⟨li, rfl⟩ := q
    obtain ⟨va, vb, e, _⟩ := hv i li
    exact ⟨va, vb, e⟩
  obtain ⟨fp, wr, G, F', St, W, hF, st, bnd, fin⟩ := rdy
  refine Calls.spliced_nil ?_
  refine hf rz W hF st bnd fun r y t' hZ ry mv => ?_
  obtain ⟨H2, tb, J⟩ := fin t' mv
  exact ⟨r, H2, J, ry, hZ H2 tb⟩
/-! ### more elements: items, and, or, not, shifts and bits -/
/-- an item of a list or a tuple, from its front -/
def qIx (K : PySem.W.Frag) (ra rb : QT) : QT := fun vs σ H Q => ra vs σ H fun x => rb vs σ H fun y => ∃ (q : Addr) (xs : List V) (j : Nat) (v : V), x = .ref q ∧ y = .int j ∧ SqB K H q xs ∧ xs[j]? = some v ∧ Q v
theorem q_ix {scope : Scope} {ns : List Str} {a b : Expr} {ra rb : QT} {pos : Pos} (ha : QE X scope ns a ra) (hb : QE X scope ns b rb) (hx : PlainIx b) : QE X scope ns (.Subscript a b pos) (qIx X.K ra rb) := by
  refine ⟨fun {pins σ H1 s1} I {P ps} hP {C code A' E' t m vs us} hA hn hv hm hk Q h => Subscript_ ?_⟩
  have tab1 : s1.heap.get? P = some { cls := .none, data := .fields ps } := I.hok P _ hP
  have ne : ∀ {b : Addr} {o : Obj} {T : String}, s1.heap.get? b = some o → o.cls = .type T → b ≠ P := fun {b o T} e c z => by
    rw [z, tab1] at e
    cases e
    cases c
  refine wpAny_mono (ha.run I hP hA hn hv hm hk _ h) (fun y t1 r => ?_) fun _ _ z => z
  obtain ⟨⟨v, r1, q1⟩, k1⟩ := r
  refine q_then hb I hP hA hn hv hm hk k1 q1 fun v' y' t2 r2 q2 k2 => ?_
  obtain ⟨q, xs, j, u, rfl, rfl, sq, at_, fin⟩ := q2
  cases r1
  obtain ⟨tk, rfl⟩ := r2
  have jl : j < xs.length := by
    rcases Nat.lt_or_ge j xs.length with z | z
    · exact z
    · rw [List.getElem?_eq_none z] at at_
      cases at_
  have big := line63
  rcases sq with sq | sq
  · obtain ⟨its, r, pl, hz⟩ := I.list sq
    obtain ⟨w, ew, rw'⟩ := r.get at_
    obtain ⟨o, e, c, d⟩ := pl.isList
    have pl2 : t2.heap.IsList q its.toArray := ⟨o, kp_heap k2 _ _ (hk _ _ (ne e c) e), c, d⟩
    exact item_listR pl2 (Int.natCast_nonneg j) (by omega) (by simpa using ew) ⟨⟨u, rw', fin⟩, k2⟩ (hx _ _)
  · obtain ⟨its, r, tp, hz⟩ := I.tuple sq
    obtain ⟨w, ew, rw'⟩ := r.get at_
    obtain ⟨o, e, c, d⟩ := tp
    have tp2 : IsTup t2.heap q its.toArray := ⟨o, kp_heap k2 _ _ (hk _ _ (ne e c) e), c, d⟩
    have len := r.length
    exact subscriptTail_builtinR (x := w) tp2.typeIs slot_tuple_getitem.lookup
      (getItem_tuple (j := j) (Q := fun r s' => r = w ∧ ((∃ v, RelV v r ∧ Q v) ∧ Keeps t s')) tp2 (by omega) (by omega) (by rw [List.size_toArray, ← len]; exact seqIndex_of (Int.natCast_nonneg j) (by omega)) (by simpa using ew) ⟨rfl, ⟨u, rw', fin⟩, k2⟩) (hx _ _)
def qAnd (ra rb : QT) : QT := fun vs σ H Q => ra vs σ H fun x => ∃ k, x = .bl k ∧ if k = true then rb vs σ H Q else Q (.bl false)
def qOr (ra rb : QT) : QT := fun vs σ H Q => ra vs σ H fun x => ∃ k, x = .bl k ∧ if k = true then Q (.bl true) else rb vs σ H Q
theorem q_one {op} {scope : Scope} {ns : List Str} {a : Expr} {ra : QT} {pos : Pos} (ha : QE X scope ns a ra) : QE X scope ns (.BoolOp op [a] pos) ra :=
  ⟨fun {pins σ H1 s1} I {P ps} hP {C code A' E' t m vs us} hA hn hv hm hk Q h => BoolOp_one (ha.run I hP hA hn hv hm hk Q h)⟩
theorem q_and {scope : Scope} {ns : List Str} {a b : Expr} {rest : List Expr} {ra rb : QT} {pos : Pos} (ha : QE X scope ns a ra) (hb : QE X scope ns (.BoolOp .And (b :: rest) pos) rb) : QE X scope ns (.BoolOp .And (a :: b :: rest) pos) (qAnd ra rb) := by
  refine ⟨fun {pins σ H1 s1} I {P ps} hP {C code A' E' t m vs us} hA hn hv hm hk Q h => BoolOp_and ?_⟩
  refine wpAny_mono (ha.run I hP hA hn hv hm hk _ h) (fun y t1 r => ?_) fun _ _ z => z
  obtain ⟨⟨v, r1, k, rfl, q1⟩, k1⟩ := r
  cases r1
  refine wpAny_truthy_bool ?_
  cases k with
  | false =>
    rw [if_neg Bool.false_ne_true] at q1
    exact ite_ff ⟨⟨.bl false, rfl, q1⟩, k1⟩
  | true =>
    rw [if_pos rfl] at q1
    exact ite_tt (q_then hb I hP hA hn hv hm hk k1 q1 fun v' y' t2 r2 q2 k2 => ⟨⟨v', r2, q2⟩, k2⟩)
theorem q_or {scope : Scope} {ns : List Str} {a b : Expr} {rest : List Expr} {ra rb : QT} {pos : Pos} (ha : QE X scope ns a ra) (hb : QE X scope ns (.BoolOp .Or (b :: rest) pos) rb) : QE X scope ns (.BoolOp .Or (a :: b :: rest) pos) (qOr ra rb) := by
  refine ⟨fun {pins σ H1 s1} I {P ps} hP {C code A' E' t m vs us} hA hn hv hm hk Q h => BoolOp_or ?_⟩
  refine wpAny_mono (ha.run I hP hA hn hv hm hk _ h) (fun y t1 r => ?_) fun _ _ z => z
  obtain ⟨⟨v, r1, k, rfl, q1⟩, k1⟩ := r
  cases r1
  refine wpAny_truthy_bool ?_
  cases k with
  | false =>
    rw [if_neg Bool.false_ne_true] at q1
    exact ite_ff (q_then hb I hP hA hn hv hm hk k1 q1 fun v' y' t2 r2 q2 k2 => ⟨⟨v', r2, q2⟩, k2⟩)
  | true =>
    rw [if_pos rfl] at q1
    exact ite_tt ⟨⟨.bl true, rfl, q1⟩, k1⟩
/-- operations of two ints -/
def BinI (X : Cx) (op : Operator) (ok : Int → Int → Prop) (f : Int → Int → Int) : Prop := ∀ {A : Around} {E : Value → Shared → Prop} {s : Shared} {i j : Int} {k l : Tok} {Q : Value → Shared → Prop}, A.handled = none → ok i j → Q (.int (f i j) s.toks) { s with toks := s.toks + 1 } → wpAny (model X.prog X.w) A (binaryOp op (.int i k) (.int j l)) Q E s
def okAll : Int → Int → Prop := fun _ _ => True
def okShl : Int → Int → Prop := fun i j => 0 ≤ j ∧ j ≤ 1000000 ∧ i.natAbs < 2 ^ 64
theorem bi_add : BinI X .Add okAll (· + ·) := fun _ _ h => PySem.P.add_int h
theorem bi_and : BinI X .BitAnd okAll Builtin.bitAnd := fun _ _ h => and_int h
theorem bi_or : BinI X .BitOr okAll Builtin.bitOr := fun _ _ h => or_int h
theorem bi_shl : BinI X .LShift okShl (fun i j => i * 2 ^ j.toNat) := fun _ o h => lshift_int_small o.1 o.2.1 o.2.2 h
theorem q_bi {op : Operator} {ok : Int → Int → Prop} {f : Int → Int → Int} {scope : Scope} {ns : List Str} {a b : Expr} {ra rb : QT} {pos : Pos} (hop : BinI X op ok f) (ha : QE X scope ns a ra) (hb : QE X scope ns b rb) : QE X scope ns (.BinOp a op b pos) (q2 ra rb ok f) := q_bin hop ha hb
/-! ### range(n) as the source -/
theorem WalkV.lt {prog : Program} {w : World} {h : Heap} {P : Addr} {xv : Value} {n : Nat} {Pi : Nat → Value → Prop} (W : WalkV prog w h P xv n Pi) : WalkV prog w h P xv n (fun i v => i < n ∧ Pi i v) := by
  intro A E s Q e k
  refine W A E s Q e fun ob fp St Ws st hfp => k ob fp St (fun A' hA => ?_) st hfp
  have Z := Ws A' hA
  exact {
    sub := Z.sub
    frame := Z.frame
    item := fun i s Q E hi st hQ => Z.item i s Q E hi st fun v h' tk hv => hQ v h' tk ⟨hi, hv⟩
    done := Z.done
    self := Z.self }
theorem cr_range1 : CallR X (.type "range") (fun vs H Q => ∃ n, vs = [V.int n] ∧ ∀ p, H p = none → Q (.ref p) (upd H p (.rng 0 n))) := by
  intro pins s σ H vs us Q I r h
  obtain ⟨n, rfl, q⟩ := h
  cases r with
  | cons r1 r =>
    cases r
    obtain ⟨t, rfl⟩ := r1
    have new := q s.heap.objs.size (I.hok.fresh (Nat.le_refl _))
    refine call_range_1 ⟨.ref s.heap.objs.size, _, I.laid (t' := s.toks + 1 + 1) (fun b o e => Heap.get?_push_of_some _ e) (Nat.le_refl _) ?_, rfl, new⟩
    exact ⟨s.toks, t, s.toks + 1, Heap.get?_push_size _ rfl⟩
theorem walk_rng {H1 : Hp} {s1 : Shared} {P r : Addr} {ps : Array Value} {n : Nat} (I : Inv X pins σ H1 s1) (hP : H1 P = some (.tbl ps)) (hr : H1 r = some (.rng 0 n)) (hn : n < 2 ^ 62) :
    WalkV X.prog X.w s1.heap P (.ref r) n (fun i v => ∃ t, v = .int i t) := by
  have tab1 : s1.heap.get? P = some { cls := .none, data := .fields ps } := I.hok P _ hP
  have Plt : P < s1.heap.objs.size := Heap.lt_size tab1
  obtain ⟨t, u, v, e⟩ := I.hok r _ hr
  intro A E s Q es k
  obtain ⟨hp, gs, dr, tk, os⟩ := s
  replace es : hp = s1.heap := es
  subst es
  have size : Builtin.Range.rangeSize 0 (n : Int) 1 = (n : Int) := by
    rw [rangeSize_one]
    split <;> omega
  refine wpAny_pyIter_range e (small_one (by decide) (by decide) (by omega) (by omega)) (k _ [s1.heap.objs.size] (fun i h' => IsRangeIter h' s1.heap.objs.size (0 + (i : Nat) * 1) ((n : Int) - (i : Nat)) 1) (fun A' hA => ?_) ?_ fun b hb => ?_)
  · have W := Walks.range (prog := X.prog) (w := X.w) hA s1.heap.objs.size 0 1 n
    exact {
      sub := W.sub
      frame := W.frame
      item := fun i s Q E hi st hQ => W.item i s Q E hi st fun v h' tk hv => hQ v h' tk (by
        obtain ⟨t', ev⟩ := hv
        exact ⟨t', by rw [ev]; congr 1; omega⟩)
      done := W.done
      self := W.self }
  · show IsRangeIter _ _ _ _ _
    rw [size]
    simp only [Int.natCast_zero, Int.zero_mul, Int.add_zero, Int.sub_zero]
    exact Heap.get?_push_size _ rfl
  · rw [List.mem_singleton] at hb
    subst hb
    exact ⟨(Nat.ne_of_lt Plt).symm, Nat.le_refl _⟩
/-- as tGen, over range(n) -/
def tGenR (P : Addr) (rd : QT) (res : List V → (Nat → V) → (V → Prop) → Prop) (te : TE) : TE := fun σ H Q => te σ H fun v H1 => TabG H1 P ∧ ∃ (r : Addr) (n : Nat) (g : Nat → V), v = .ref r ∧ H1 r = some (.rng 0 n) ∧ n < 2 ^ 62 ∧
  (∀ i, i < n → rd [.int i] σ H1 fun y => y = g i) ∧ res ((List.range n).map fun i : Nat => V.int (i : Int)) g fun r => ∀ H2, Tabbed P H1 H2 → Q r H2
theorem pe_genR {fn : String} {res : List V → (Nat → V) → (V → Prop) → Prop} {n : Str} {c P : Addr} {elt iter : Expr} {x : Str} {px p pos gpos : Pos} {scope : Scope} {rd : QT} {te : TE} {k : Nat} (hf : Eats X fn res)
    (hr : Room k X.A) (hg : Gl X n) (hm : X.mg n = none) (hb : bootBuiltins n = some (.builtin fn)) (TB : TabB X.base X.mg c P) (hcode : X.env.code = .ref c) (S : GenS X.env scope x) (hi : PE X iter te) (hel : QE X scope [x] elt rd)
    (hs : ∀ v, genFold iter X.env v = pure v) (hn : n ≠ "__name__" := by decide) (hdb : (n == ("__debug__" : Str)) = false := by decide)
    (he : starEach [.GeneratorExp elt [⟨.Name x px, iter, [], 0⟩] scope gpos] X.env = (false, eval (.GeneratorExp elt [⟨.Name x px, iter, [], 0⟩] scope gpos) X.env) :: starEach [] X.env := by rfl) :
    PE X (.Call (.Name n p) [.GeneratorExp elt [⟨.Name x px, iter, [], 0⟩] scope gpos] [] pos) (tGenR P rd res te) := by
  refine ⟨fun pins s σ H Q I h => ?_⟩
  refine wpAny_Call_Name_kw (ld_blt I hg hm hb ?_ hn hdb)
  refine PyProof.Rows.callWith_builtin1 ?_ he (by rfl)
  rw [he]
  refine Calls.spliced_cons (gen_seq hr TB hcode S hi hs I h fun v H1 all1 => ?_)
  obtain ⟨⟨ps, hP, trip⟩, r, m, g, rfl, er, hm2, els, rz⟩ := all1
  refine ⟨⟨ps, hP, trip⟩, fun s1 xv I1 rel => ?_⟩
  cases rel
  have len : ((List.range m).map fun i : Nat => V.int (i : Int)).length = m := by rw [List.length_map, List.length_range]
  refine ⟨m, _, fun i y => i < m ∧ RelV (g i) y, WalkV.lt (walk_rng I1 hP er hm2), fun C code A' E' i v t mm hA hv hn' hma hk => ?_, fun ga t rdy => ?_⟩
  · obtain ⟨li, tk, ev⟩ := hv
    subst ev
    refine wpAny_mono (hel.run I1 hP hA hn' (.cons (show RelV (V.int (i : Int)) (.int (i : Int) tk) from ⟨tk, rfl⟩) .nil) (fun j n' e => ?_) hk _ (els i li)) (fun y t' q => ?_) fun _ _ z => z
    · cases j with
      | zero => cases e; exact hma
      | succ j => cases e
    · obtain ⟨⟨v', r', rfl⟩, kk⟩ := q
      exact ⟨⟨li, r'⟩, kk⟩
  obtain ⟨fp, wr, G, F', St, W, hF, st, bnd, fin⟩ := rdy
  refine Calls.spliced_nil ?_
  refine hf rz (by rw [len]; exact W) (fun j y z => by rw [len]; exact hF j y z) st bnd fun r y t' hZ ry mv => ?_
  obtain ⟨H2, tb, J⟩ := fin t' mv
  exact ⟨r, H2, J, ry, hZ H2 tb⟩
/-! ### abs(..) of an element -/
def qAbs (ra : QT) : QT := fun vs σ H Q => ra vs σ H fun x => ∃ i, x = .int i ∧ Q (.int (if i < 0 then -i else i))
theorem q_bltn {n : Str} {v : V} {u : Value} {scope : Scope} {ns : List Str} {pos : Pos} (hg : scope.names.lookup n = some .globalImplicit) (hs : scope.kind = .function) (hm : X.mg n = none) (hb : bootBuiltins n = some u) (r : RelV v u) (hn : n ≠ "__name__" := by decide) (hd : (n == ("__debug__" : Str)) = false := by decide) : QE X scope ns (.Name n pos) (qC v) := by
  refine ⟨fun {pins σ H1 s1} I {P ps} hP {C code A' E' t m vs us} hA hn' hv hm' hk Q h => ?_⟩
  have keep : ∀ b o, X.base.get? b = some o → t.heap.get? b = some o := fun b o z => hk b o (fun y => by
    have f := (I.bs _ o z).2
    rw [y, hP] at f
    cases f) (I.bk _ o z)
  obtain ⟨mb, b1, b2⟩ := I.mod.blt
  refine Calls.Name_function_global hs hg (Calls.loadGlobal_builtin (mg := X.mg) (mb := mb) ?_ hm ?_ ((b2 n hn).trans hb) ⟨⟨v, r, h⟩, keeps_refl _⟩) hd
  · show Heap.Ns _ X.env.globals X.mg
    rw [I.ok.glob]
    exact I.mod.glob.keeps keep
  · exact b1.keeps keep
theorem q_abs {scope : Scope} {ns : List Str} {a : Expr} {ra : QT} {pos p : Pos} (hg : scope.names.lookup ("abs" : Str) = some .globalImplicit) (hs : scope.kind = .function) (hm : X.mg "abs" = none) (ha : QE X scope ns a ra)
    (he : ∀ env, starEach [a] env = (false, eval a env) :: starEach [] env := by intro _; rfl) : QE X scope ns (.Call (.Name "abs" p) [a] [] pos) (qAbs ra) := by
  refine ⟨fun {pins σ H1 s1} I {P ps} hP {C code A' E' t m vs us} hA hn hv hm' hk Q h => wpAny_Call_Name_kw ?_⟩
  have keep : ∀ b o, X.base.get? b = some o → t.heap.get? b = some o := fun b o z => hk b o (fun y => by
    have f := (I.bs _ o z).2
    rw [y, hP] at f
    cases f) (I.bk _ o z)
  obtain ⟨mb, b1, b2⟩ := I.mod.blt
  refine Calls.Name_function_global hs hg (Calls.loadGlobal_builtin (mg := X.mg) (mb := mb) ?_ hm ?_ ((b2 "abs" (by decide)).trans (show bootBuiltins "abs" = some (.builtin "abs") by decide +kernel)) ?_) (by decide)
  · show Heap.Ns _ X.env.globals X.mg
    rw [I.ok.glob]
    exact I.mod.glob.keeps keep
  · exact b1.keeps keep
  refine PyProof.Rows.callWith_builtin1 ?_ (he _) (by rfl)
  rw [he]
  refine Calls.spliced_cons (wpAny_mono (ha.run I hP hA hn hv hm' hk _ h) (fun y t1 r => ?_) fun _ _ z => z)
  obtain ⟨⟨v, r1, i, rfl, q⟩, k1⟩ := r
  obtain ⟨tk, rfl⟩ := r1
  refine Calls.spliced_nil (call_abs_int fun u tk' => ⟨⟨.int _, ⟨_, rfl⟩, q⟩, kp_trans k1 (keeps_tok _ _)⟩)
end
end Gq

namespace Gn
open PySem PySem.Spec PyProof.Rows L2 GxR Gq
/-! ### generator expressions with any tuple as their target -/
section
variable {prog : Program} {w : World} {A : Around}
/-- the store of a tuple binds the names -/
def Stores (prog : Program) (w : World) (ce : Env) (es : List Expr) (kt : Nat) (pt : Pos) (Pt : Nat → Array Value → Prop) (Bd : Nat → (Str → Option Value) → Prop) : Prop :=
  ∀ (A1 : Around) (E1 : Value → Shared → Prop) (i : Nat) (T : Addr) (vals : Array Value) (s : Shared) (m : Str → Option Value) (Q : Unit → Shared → Prop), A1.handled = none → Pt i vals → s.heap.IsTuple T vals → s.heap.Ns ce.locals m →
    (∀ (h2 : Heap) (m2 : Str → Option Value) (tk : Nat), h2.Ns ce.locals m2 → Bd i m2 → (∀ b o, b ≠ ce.locals → s.heap.get? b = some o → h2.get? b = some o) → Q () { s with heap := h2, toks := tk }) → wpAny (model prog w) A1 (assign (.Tuple es kt pt) ce (.ref T)) Q E1 s
structure Quiet (prog : Program) (w : World) (ce : Env) (ifs : List Expr) (elt : Expr) (fp wr : List Addr) (Bd : Nat → (Str → Option Value) → Prop) (pz : Nat → Bool) (F : Nat → Value → Prop) (h0 : Heap) : Prop where
  test : ∀ (A1 : Around) (E1 : Value → Shared → Prop) (i : Nat) (s2 : Shared) (m2 : Str → Option Value), A1.handled = none → s2.heap.Ns ce.locals m2 → Bd i m2 → (∀ b ∈ fp, b ∉ wr → ∀ o, h0.get? b = some o → s2.heap.get? b = some o) →
    wpAny (model prog w) A1 (forIn ifs true fun c r => if r = true then do let ok ← isTrue c ce (eval c ce); pure (ForInStep.yield ok) else pure (ForInStep.yield r)) (fun ok s3 => ok = pz i ∧ Keeps s2 s3) E1 s2
  elem : ∀ (A1 : Around) (E1 : Value → Shared → Prop) (i : Nat) (s2 : Shared) (m2 : Str → Option Value), A1.handled = none → pz i = true → s2.heap.Ns ce.locals m2 → Bd i m2 → (∀ b ∈ fp, b ∉ wr → ∀ o, h0.get? b = some o → s2.heap.get? b = some o) →
    wpAny (model prog w) A1 (eval elt ce) (fun y s3 => F i y ∧ Keeps s2 s3) E1 s2
abbrev gE (elt iter : Expr) (es : List Expr) (kt : Nat) (pt : Pos) (ifs : List Expr) (scope : Scope) (pos : Pos) : Expr := .GeneratorExp elt [⟨.Tuple es kt pt, iter, ifs, 0⟩] scope pos
theorem loopX {elt iter : Expr} {es : List Expr} {pt : Pos} {kt : Nat} {ifs : List Expr} {scope : Scope} {pos : Pos} {J : Addr} {fp wr : List Addr} {n : Nat} {Pt : Nat → Array Value → Prop} {Bd : Nat → (Str → Option Value) → Prop} {St : Nat → Heap → Prop} {Mid : Nat → Addr → Heap → Prop} {ce : Env}
    (hA : A.handled = none) (W : ∀ B : Around, B.handled = none → WalksU prog w B J fp wr n Pt St Mid) (pz : Nat → Bool) (F : Nat → Value → Prop) (h0 : Heap) (hst : Stores prog w ce es kt pt Pt Bd)
    (hc : ce.scope.isCoroutine = false) (hloc : ce.locals ∉ fp) (hq : Quiet prog w ce ifs elt fp wr Bd pz F h0) :
    ∀ (k i : Nat) (t0 s : Shared) (m : Str → Option Value), n - i = k → i ≤ n → St i s.heap → s.heap.Ns ce.locals m → GenSince ce.locals wr t0 s → (∀ b ∈ fp, b ∉ wr → ∀ o, h0.get? b = some o → s.heap.get? b = some o) →
      Seg (model prog w) A (fun c t1 r t2 => r = .ok .next ∧ (c = 0 ∧ GenSince ce.locals wr t1 t2)) (genProto ce.locals fp wr pz n F) (passing pz n i).length t0 (.compLoop (gE elt iter es kt pt ifs scope pos) 0 (.ref J) .none ce) ((model prog w).den (.compLoop (gE elt iter es kt pt ifs scope pos) 0 (.ref J) .none ce)) [] s := by
  have hA2 : (A.over (.compLoop (gE elt iter es kt pt ifs scope pos) 0 (.ref J) .none ce) []).handled = none := hA
  have locw : ce.locals ∉ wr := fun z => hloc ((W A hA).sub _ z)
  intro k
  induction k with
  | zero =>
    intro i t0 s m hk hi st hn hs hkp
    obtain rfl : i = n := by omega
    show Seg _ A _ _ _ t0 _ ((compTurn (gE elt iter es kt pt ifs scope pos) 0 (.ref J) .none ce).onRaise (leaving ce)) [] s
    rw [compTurn_gen, Sem.onRaise_eq_wrap]
    refine seg_bind_wrap (wpAny_standAt (seg_bind_wrap ((W _ hA2).done s _ _ st fun h' tk hk' => ?_)))
    exact seg_end (.ok .next) ⟨rfl, (by rw [passing_end]; rfl), hs.step fun b o _ hw e => hk' b o hw e⟩
  | succ k ih =>
    intro i t0 s m hk hi st hn hs hkp
    have hlt : i < n := by omega
    show Seg _ A _ _ _ t0 _ ((compTurn (gE elt iter es kt pt ifs scope pos) 0 (.ref J) .none ce).onRaise (leaving ce)) [] s
    rw [compTurn_gen, Sem.onRaise_eq_wrap]
    refine seg_bind_wrap (wpAny_standAt (seg_bind_wrap ((W _ hA2).item i s _ _ hlt st fun T vals h1 tk1 hPv hT1 hmid hk1 => ?_)))
    refine seg_bind_wrap ((W _ hA2).go _ _ _ i T _ _ _ hmid fun h2 st2 hk2 => ?_)
    have hT2 : h2.IsTuple T vals := let ⟨o, e, r⟩ := hT1; ⟨o, hk2 _ o ((W _ hA2).apart i T _ hmid) e, r⟩
    have hn2 : h2.Ns ce.locals m := hn.at' fun o e => hk2 _ o locw (hk1 _ o locw e)
    refine seg_bind_wrap (hst _ _ i T vals { s with heap := h2, toks := tk1 } m _ hA2 hPv hT2 hn2 fun h3 m3 tk3 hn3 hB hk3 => ?_)
    have hup : ∀ b o, b ≠ ce.locals → b ∉ wr → s.heap.get? b = some o → h3.get? b = some o := fun b o nb nw e => hk3 b o nb (hk2 b o nw (hk1 b o nw e))
    have ne : ∀ b, b ∈ fp → b ≠ ce.locals := fun b hb z => hloc (z ▸ hb)
    have st3 : St (i + 1) h3 := (W A hA).frame _ _ _ st2 fun b hb o e => hk3 b o (ne b hb) e
    have hkp3 : ∀ b ∈ fp, b ∉ wr → ∀ o, h0.get? b = some o → h3.get? b = some o := fun b hb nw o e => hup b o (ne b hb) nw (hkp b hb nw o e)
    refine seg_bind_wrap (wpAny_mono (hq.test _ _ i _ _ hA2 hn3 hB hkp3) (fun ok s4 h4 => ?_) fun _ _ e => e)
    obtain ⟨rfl, h4, tk4, rfl, hk4⟩ := h4
    have st4 : St (i + 1) h4 := (W A hA).frame _ _ _ st3 fun b _ o e => hk4 b o e
    have hn4 := hn3.keeps hk4
    have hs4 : GenSince ce.locals wr t0 { s with heap := h4, toks := tk4 } := hs.step fun b o nb nw e => hk4 b o (hup b o nb nw e)
    cases hz : pz i with
    | false =>
      rw [passing_false hlt hz]
      simp only [Bool.false_eq_true, if_false]
      exact seg_again rfl (ih (i + 1) t0 _ _ (by omega) hlt st4 hn4 hs4 fun b hb nw o e => hk4 b o (hkp3 b hb nw o e))
    | true =>
      rw [passing_true hlt hz, List.length_cons]
      simp only [if_true]
      have yo : ∀ v, yieldOut ce v = yieldValue v := fun v => by simp only [yieldOut, hc, Bool.false_eq_true, if_false]
      simp only [yo]
      rw [Sem.bind_eq_wrap', Sem.bind_eq_wrap', Sem.wrap_wrap, Sem.wrap_wrap]
      refine seg_wrap (wpAny_mono (hq.elem _ _ i _ _ hA2 hz hn4 hB fun b hb nw o e => hk4 b o (hkp3 b hb nw o e)) (fun y s5 h5 => ?_) fun _ _ e => e)
      obtain ⟨hF, h5, tk5, rfl, hk5⟩ := h5
      refine seg_at (seg_yield rfl rfl rfl ⟨⟨i, passing_here hlt hz, hF⟩, hs4.step fun b o _ _ e => hk5 b o e, fun u al => ?_⟩)
      exact seg_again rfl (ih (i + 1) u u _ (by omega) hlt ((W A hA).frame _ _ _ st4 fun b hb o e => al b (List.mem_cons_of_mem _ hb) o (hk5 b o e)) ((hn4.keeps hk5).at' fun o e => al _ (List.mem_cons_self ..) o e) (GenSince.refl _ _ _) fun b hb nw o e => al b (List.mem_cons_of_mem _ hb) o (hk5 b o (hk4 b o (hkp3 b hb nw o e))))
theorem startX {elt iter : Expr} {es : List Expr} {pt : Pos} {kt : Nat} {ifs : List Expr} {scope : Scope} {pos : Pos} {J : Addr} {fp wr : List Addr} {n : Nat} {Pt : Nat → Array Value → Prop} {Bd : Nat → (Str → Option Value) → Prop} {St : Nat → Heap → Prop} {Mid : Nat → Addr → Heap → Prop} {ce : Env}
    (hA : A.handled = none) (W : ∀ B : Around, B.handled = none → WalksU prog w B J fp wr n Pt St Mid) (pz : Nat → Bool) (F : Nat → Value → Prop) (h0 : Heap) (hst : Stores prog w ce es kt pt Pt Bd)
    (hc : ce.scope.isCoroutine = false) (hloc : ce.locals ∉ fp) (hq : Quiet prog w ce ifs elt fp wr Bd pz F h0) (t0 s : Shared) (m : Str → Option Value) (st : St 0 s.heap) (hn : s.heap.Ns ce.locals m) (hs : GenSince ce.locals wr t0 s) (hkp : ∀ b ∈ fp, b ∉ wr → ∀ o, h0.get? b = some o → s.heap.get? b = some o) :
    Seg (model prog w) A (fun c t1 r t2 => r = .ok .next ∧ (c = 0 ∧ GenSince ce.locals wr t1 t2)) (genProto ce.locals fp wr pz n F) (passing pz n 0).length t0 (.compStart (gE elt iter es kt pt ifs scope pos) 0 (.ref J) .none ce) ((model prog w).den (.compStart (gE elt iter es kt pt ifs scope pos) 0 (.ref J) .none ce)) [] s := by
  have hA2 : (A.over (.compStart (gE elt iter es kt pt ifs scope pos) 0 (.ref J) .none ce) []).handled = none := hA
  have lp := loopX (iter := iter) (pt := pt) (kt := kt) (scope := scope) (pos := pos) hA W pz F h0 hst hc hloc hq n 0 t0 s m (Nat.sub_zero _) (Nat.zero_le _) st hn hs hkp
  show Seg _ A _ _ _ t0 _ ((compStart (gE elt iter es kt pt ifs scope pos) 0 (.ref J) .none ce).onRaise (leaving ce)) [] s
  unfold compStart
  rw [Sem.onRaise_eq_wrap]
  show Seg _ A _ _ _ t0 _ ((ask >>= _).wrap _ _ _ _) [] s
  refine seg_bind_wrap (wpAny_askSetting ?_)
  split
  · exact seg_again rfl lp
  · first
      | exact seg_bind_wrap (wpAny_rule (seg_bind_wrap (wpAny_standAt (seg_bind_wrap ((W _ hA2).self 0 s _ _ st (seg_again rfl lp))))))
      | (refine seg_bind_wrap (wpAny_rule ?_)
         show Seg _ A _ _ _ t0 _ ((standAt iter.pos >>= _).wrap _ _ _ _) [] s
         exact seg_bind_wrap (wpAny_standAt (seg_bind_wrap ((W _ hA2).self 0 s _ _ st (seg_again rfl lp)))))
theorem freshX {elt iter : Expr} {es : List Expr} {pt : Pos} {kt : Nat} {ifs : List Expr} {scope : Scope} {pos : Pos} {J a : Addr} {g : Nat} {fp wr : List Addr} {n : Nat} {Pt : Nat → Array Value → Prop} {Bd : Nat → (Str → Option Value) → Prop} {St : Nat → Heap → Prop} {Mid : Nat → Addr → Heap → Prop} {ce : Env}
    (hA : A.handled = none) (W : ∀ B : Around, B.handled = none → WalksU prog w B J fp wr n Pt St Mid) (pz : Nat → Bool) (F : Nat → Value → Prop) (hst : Stores prog w ce es kt pt Pt Bd) (hc : ce.scope.isCoroutine = false) (hloc : ce.locals ∉ fp) {s : Shared} {m : Str → Option Value} (hq : Quiet prog w ce ifs elt fp wr Bd pz F s.heap)
    (hg : s.heap.IsGen a g) (hgs : s.gens[g]? = some (.fresh (.compStart (gE elt iter es kt pt ifs scope pos) 0 (.ref J) .none ce))) (st : St 0 s.heap) (hn : s.heap.Ns ce.locals m) (hl : s.heap.NoLimit) : GenAt prog w A a g ce.locals fp wr pz n F 0 s :=
  ⟨hg, hl, _, hgs, fun u al => ⟨rfl, startX (A := A.in1) hA W pz F s.heap hst hc hloc hq u u m ((W A hA).frame _ _ _ st fun b hb o e => al b (List.mem_cons_of_mem _ hb) o e) (hn.at' fun o e => al _ (List.mem_cons_self ..) o e) (GenSince.refl _ _ _) fun b hb _ o e => al b (List.mem_cons_of_mem _ hb) o e⟩⟩
theorem evalX {E : Value → Shared → Prop} {s : Shared} {env : Env} {elt iter : Expr} {es : List Expr} {pt : Pos} {kt : Nat} {ifs : List Expr} {scope : Scope} {cl : List (Str × Addr)} {pos : Pos} {Q : Value → Shared → Prop}
    (hA : A.handled = none) (hc : scope.isCoroutine = false) (hcl : closureFor scope env = pure cl) (hce : ∀ y ∈ scope.names, y.2 ≠ .cell) (hdot : scope.names.lookup (".0" : Str) = some NameKind.local) (hk : scope.kind = .function) (hr : A.depth < recursionLimit)
    (h : wpAny (model prog w) A (eval iter env) (fun xv s1 => wpAny (model prog w) A (pyIter xv) (fun it s2 => s2.heap.NoLimit ∧ wpAny (model prog w) A (genexprCode env pos (env.qual ++ "<genexpr>") scope) (fun code s3 => wpAny (model prog w) A (builtinsFor env.globals env.builtins) (fun bi s4 =>
        ∃ J fp wr n Pt Bd St Mid pz F, it = .ref J ∧ (∀ B : Around, B.handled = none → WalksU prog w B J fp wr n Pt St Mid) ∧ Stores prog w (genEnv scope cl s4.heap.objs.size code bi env) es kt pt Pt Bd ∧ St 0 s4.heap ∧ (∀ b ∈ fp, b < s4.heap.objs.size) ∧ s4.heap.NoLimit ∧ cStatics ∉ wr ∧
          (∀ hx : Heap, (∀ b o, s4.heap.get? b = some o → hx.get? b = some o) → Quiet prog w (genEnv scope cl s4.heap.objs.size code bi env) ifs elt (List.range s4.heap.objs.size) wr Bd pz F hx) ∧
          (∀ a h5 tk gs, gs.bare = true → s4.heap.objs.size < a → h5.objs.size = a + 1 → (∀ b o, s4.heap.get? b = some o → h5.get? b = some o) →
            WalksS prog w A.in4 a (a :: s4.heap.objs.size :: List.range s4.heap.objs.size) (s4.heap.objs.size :: wr) (GenOnlyQ s4.gens.size) (passing pz n 0).length (fun j y => ∃ i, (passing pz n 0)[j]? = some i ∧ F i y) (GenAt prog w A.in4 a s4.gens.size s4.heap.objs.size (List.range s4.heap.objs.size) wr pz n F) →
            GenAt prog w A.in4 a s4.gens.size s4.heap.objs.size (List.range s4.heap.objs.size) wr pz n F 0 { s4 with gens := s4.gens.push gs, toks := tk, heap := h5 } → Q (.ref a) { s4 with gens := s4.gens.push gs, toks := tk, heap := h5 })) E s3) E s2) E s1) E s)
    (hf : ∀ x, genFold iter env x = pure x) : wpAny (model prog w) A (eval (gE elt iter es kt pt ifs scope pos) env) Q E s := by
  refine wpAny_GeneratorExp_make hc hcl hce hdot hk hr (wpAny_mono h (fun xv s1 h1 => wpAny_mono h1 (fun it s2 h2 => ⟨h2.1, wpAny_mono h2.2 (fun code s3 h3 => wpAny_mono h3 (fun bi s4 h4 => ?_) fun _ _ e => e) fun _ _ e => e⟩) fun _ _ e => e) fun _ _ e => e) hf
  obtain ⟨J, fp, wr, n, Pt, Bd, St, Mid, pz, F, rfl, W, hst, st, hfp, hl4, hcw, hq, hQ⟩ := h4
  have clt : cStatics < s4.heap.objs.size := let ⟨_, z, _⟩ := hl4; z.lt
  intro h' hn' hs'
  have z' : h'.objs.size = s4.heap.objs.size + 1 := by rw [hs'.1, Heap.size_push]
  have kp : ∀ b o, s4.heap.get? b = some o → h'.get? b = some o := fun b o e => hs'.extBut b o (Nat.ne_of_lt (Heap.lt_size e)) (Heap.get?_push_of_some _ e)
  have sub : ∀ b ∈ wr, b ∈ List.range s4.heap.objs.size := fun b hb => List.mem_range.mpr (hfp b ((W A hA).sub b hb))
  have n1 : h'.objs.size ≠ s4.heap.objs.size := by rw [z']; exact Nat.succ_ne_self _
  have n2 : h'.objs.size ∉ List.range s4.heap.objs.size := fun z => by have := List.mem_range.mp z; omega
  have kp5 : ∀ b o, s4.heap.get? b = some o → (h'.push { cls := .type "generator", data := .fields #[.int s4.gens.size 0, .str "<genexpr>" (s4.toks + 1), .str (env.qual ++ "<genexpr>") (s4.toks + 1 + 1)] }).get? b = some o := fun b o e => Heap.get?_push_of_some _ (kp b o e)
  refine hQ _ _ _ _ rfl (by omega) (by rw [Heap.size_push]) kp5 (WalksS.genexpQ (A := A.in4) hA _ _ _ _ wr pz n F n1 n2 sub hr (List.mem_range.mpr clt) (Nat.ne_of_lt clt) hcw) ?_
  exact freshX (A := A.in4) (ce := genEnv scope cl s4.heap.objs.size code bi env) (m := fun y => if y = ".0" then some (.ref J) else none) hA (fun B hB => (W B hB).mono_fp fun b hb => List.mem_range.mpr (hfp b hb)) pz F hst hc (fun z => Nat.lt_irrefl _ (List.mem_range.mp z)) (hq _ kp5) ⟨_, _, _, Heap.get?_push_size _ rfl, rfl, rfl, rfl⟩ (Array.getElem?_push_size ..) ((W A hA).frame _ _ _ st fun b _ o e => kp5 b o e) (hn'.push _) (hl4.keeps kp5)
end
/-! ### over tuples of any size -/
structure GenN (env : Env) (scope : Scope) : Prop where
  kind : scope.kind = .function
  co : scope.isCoroutine = false
  cell : ∀ y ∈ scope.names, y.2 ≠ .cell
  dot : scope.names.lookup (".0" : Str) = some NameKind.local
  free : ∀ y ∈ scope.names, y.2 = .free → ∃ c, env.cells.lookup y.1 = some c
section
variable {X : Cx} {pins : List (Addr × Obj)} {σ : L2.St} {H : Hp} {s : Shared}
def EltX (X : Cx) (scope : Scope) (elt : Expr) (P : Addr) (h : Heap) (Bd : Nat → (Str → Option Value) → Prop) (F : Nat → Value → Prop) : Prop :=
  ∀ (C : Addr) (code : Value) (A1 : Around) (E1 : Value → Shared → Prop) (i : Nat) (t : Shared) (m : Str → Option Value), A1.handled = none → Bd i m → t.heap.Ns C m →
    (∀ b o, b ≠ P → h.get? b = some o → t.heap.get? b = some o) → wpAny (model X.prog X.w) A1 (eval elt (genEnv scope (cloFrom X.env.cells scope.names []) C code builtinsNs X.env)) (fun y t' => F i y ∧ Keeps t t') E1 t
theorem gen_tgt {c P : Addr} {elt iter : Expr} {es : List Expr} {qt gpos : Pos} {kt : Nat} {scope : Scope} {te : TE} {k : Nat} {Q' : Value → Shared → Prop} (hr : Room k X.A) (TB : TabB X.base X.mg c P) (hcode : X.env.code = .ref c) (S : GenN X.env scope) (hi : PE X iter te) (hs : ∀ v, genFold iter X.env v = pure v) (I : Inv X pins σ H s) {R : VK} (h : te σ H R)
    (hR : ∀ v H1, R v H1 → TabG H1 P ∧ ∀ (s1 : Shared) (xv : Value), Inv X pins σ H1 s1 → RelV v xv → ∃ (n : Nat) (Pt : Nat → Array Value → Prop) (Bd : Nat → (Str → Option Value) → Prop) (F : Nat → Value → Prop), WalkP X.prog X.w s1.heap P xv n Pt ∧ (∀ C code bi, Stores X.prog X.w (genEnv scope (cloFrom X.env.cells scope.names []) C code bi X.env) es kt qt Pt Bd) ∧ EltX X scope elt P s1.heap Bd F ∧ ∀ g t, RdyG X pins σ H1 P n F g t → Q' (.ref g) t) :
    wpAny (model X.prog X.w) X.A (eval (gE elt iter es kt qt [] scope gpos) X.env) Q' X.xe s := by
  refine evalX hr.hd S.co (closure_ok S.free) S.cell S.dot S.kind (by have d := hr.dp; omega) ?_ hs
  refine thn (hi.run pins s σ H _ I h) fun xv s1 ⟨v, H1, I1, rel, all1⟩ => ?_
  obtain ⟨⟨ps, tabH, trip⟩, rest⟩ := hR v H1 all1
  obtain ⟨n, Pt, Bd, F, walk, sto, hel, fin⟩ := rest s1 xv I1 rel
  refine walk _ _ _ _ rfl fun ob fp St Mid W st0 hfp => ?_
  have tab1 : s1.heap.get? P = some { cls := .none, data := .fields ps } := I1.hok P _ tabH
  have Plt : P < s1.heap.objs.size := Heap.lt_size tab1
  have tab2 : (s1.heap.push ob).get? P = some { cls := .none, data := .fields ps } := Heap.get?_push_of_some _ tab1
  have hd2 : PySem.W.CodeHd (s1.heap.push ob) c P := TB.code.keeps fun b u q => Heap.get?_push_of_some _ (I1.bk b u q)
  have lim2 : (s1.heap.push ob).NoLimit := I1.nolimit.push ob
  have size2 : (s1.heap.push ob).objs.size = s1.heap.objs.size + 1 := Heap.size_push ..
  refine ⟨lim2, ?_⟩
  have go : ∀ (code : Value) (h3 : Heap) (tk : Nat) (qs : Array Value), Heap.ExtBut P (s1.heap.push ob) h3 → s1.heap.objs.size + 1 ≤ h3.objs.size → h3.get? P = some { cls := .none, data := .fields qs } → (∃ more, qs = ps ++ more) → TriplesOk qs.toList →
      wpAny (model X.prog X.w) X.A (builtinsFor X.env.globals X.env.builtins) (fun bi s4 =>
        ∃ J fp wr n Pt Bd St Mid pz F, Value.ref s1.heap.objs.size = .ref J ∧ (∀ B : Around, B.handled = none → WalksU X.prog X.w B J fp wr n Pt St Mid) ∧ Stores X.prog X.w (genEnv scope (cloFrom X.env.cells scope.names []) s4.heap.objs.size code bi X.env) es kt qt Pt Bd ∧ St 0 s4.heap ∧ (∀ b ∈ fp, b < s4.heap.objs.size) ∧ s4.heap.NoLimit ∧ cStatics ∉ wr ∧
          (∀ hx : Heap, (∀ b o, s4.heap.get? b = some o → hx.get? b = some o) → Quiet X.prog X.w (genEnv scope (cloFrom X.env.cells scope.names []) s4.heap.objs.size code bi X.env) [] elt (List.range s4.heap.objs.size) wr Bd pz F hx) ∧
          (∀ a h5 tk gs, gs.bare = true → s4.heap.objs.size < a → h5.objs.size = a + 1 → (∀ b o, s4.heap.get? b = some o → h5.get? b = some o) →
            WalksS X.prog X.w X.A.in4 a (a :: s4.heap.objs.size :: List.range s4.heap.objs.size) (s4.heap.objs.size :: wr) (GenOnlyQ s4.gens.size) (passing pz n 0).length (fun j y => ∃ i, (passing pz n 0)[j]? = some i ∧ F i y) (GenAt X.prog X.w X.A.in4 a s4.gens.size s4.heap.objs.size (List.range s4.heap.objs.size) wr pz n F) →
            GenAt X.prog X.w X.A.in4 a s4.gens.size s4.heap.objs.size (List.range s4.heap.objs.size) wr pz n F 0 { s4 with gens := s4.gens.push gs, toks := tk, heap := h5 } → Q' (.ref a) { s4 with gens := s4.gens.push gs, toks := tk, heap := h5 })) X.xe { s1 with heap := h3, toks := tk } := by
    intro code h3 tk qs ext le3 tab3 grown trip3
    obtain ⟨bm, bo, z1, z2, z3, z4, z5, z6, z7, z8⟩ := TB.bm
    have statP : cStatics ≠ P := fun q => by
      obtain ⟨_, hns, _⟩ := I1.nolimit
      obtain ⟨o', es', ep, ho, hd, _⟩ := hns
      rw [q, tab1] at ho
      cases ho
      cases hd
    have statLt : cStatics < s1.heap.objs.size := by
      obtain ⟨_, hns, _⟩ := I1.nolimit
      exact hns.lt
    have keep3 : ∀ b u, b ≠ P → s1.heap.get? b = some u → h3.get? b = some u := fun b u nb q => ext b u nb (Heap.get?_push_of_some _ q)
    refine wpAny_builtinsFor (m := X.mg) (by rw [I1.ok.glob]; exact ((I1.mod.glob.keeps I1.bk).push ob).extBut ext TB.gP) z1 z2 (keep3 _ _ z4 (I1.bk _ _ z5)) z6 z7 z8 ?_
    refine ⟨s1.heap.objs.size, fp, [s1.heap.objs.size], n, Pt, Bd, St, Mid, (fun _ => true), F, rfl, W, sto _ _ _, ?_, fun b hb => ?_, lim2.extBut ext statP, fun q => ?_, fun hx keepx => ?_, ?_⟩
    · exact (W X.A hr.hd).frame _ _ _ st0 fun b hb u q => ext b u (hfp b hb).1 q
    · exact Nat.lt_of_lt_of_le (Nat.lt_succ_of_le (hfp b hb).2) le3
    · rw [List.mem_singleton] at q
      exact Nat.ne_of_lt statLt q
    · refine ⟨fun A1 E1 i t m hA hn hB hk => ?_, fun A1 E1 i t m hA hp hn hB hk => ?_⟩
      · simp only [List.forIn_nil]
        exact wpAny_pure ⟨rfl, keeps_refl _⟩
      · refine hel _ _ A1 E1 i t m hA hB hn fun b o nb q => ?_
        have b1 : b < s1.heap.objs.size := Heap.lt_size q
        refine hk b (List.mem_range.mpr (Nat.lt_of_lt_of_le (Nat.lt_succ_of_lt b1) le3)) (fun q' => ?_) o (keepx b o (keep3 b o nb q))
        rw [List.mem_singleton] at q'
        exact Nat.ne_of_lt b1 q'
    · intro a h5 tk5 gs bare agt size5 keep5 W5 at5
      have pt : passing (fun _ => true) n 0 = List.range n := passing_true n
      have W6 := W5.in4_1
      rw [pt, List.length_range] at W6
      refine fin a _ ⟨_, _, _, _, _, W6, fun j y hy => ?_, at5, fun b hb => ?_, fun t' mv => ?_⟩
      · obtain ⟨i, hi', hF⟩ := hy
        obtain ⟨hj, ej⟩ := List.getElem?_eq_some_iff.mp hi'
        rw [List.getElem_range] at ej
        subst ej
        exact hF
      · have agt' : h3.objs.size < h5.objs.size := by
          rw [size5]
          exact Nat.lt_succ_of_lt agt
        simp only [List.mem_cons, List.mem_range] at hb
        rcases hb with rfl | rfl | hb
        · rw [size5]
          exact Nat.lt_succ_self _
        · exact agt'
        · exact Nat.lt_trans hb agt'
      · obtain ⟨more, em⟩ := grown
        have apart : ∀ b u, s1.heap.get? b = some u → b ∉ h3.objs.size :: [s1.heap.objs.size] := fun b u q hb => by
          have b1 : b < s1.heap.objs.size := Heap.lt_size q
          simp only [List.mem_cons, List.not_mem_nil, or_false] at hb
          rcases hb with e | e
          · exact Nat.ne_of_lt (Nat.lt_of_lt_of_le (Nat.lt_succ_of_lt b1) le3) e
          · exact Nat.ne_of_lt b1 e
        have J := inv_tab (more := more) (h' := t'.heap) (g' := t'.gens) (d' := t'.drawn) (t' := t'.toks) I1 tabH (fun b u nb q => mv.heap b u (apart b u q) (keep5 b u (keep3 b u nb q)))
          (by rw [← em]; exact mv.heap P _ (apart P _ tab1) (keep5 P _ tab3)) (AllBare.movedS (I1.bare.push bare) mv)
        rw [sh_eta s1 t' mv.os] at J
        exact ⟨L2.upd H1 P (.tbl (ps ++ more)), ⟨⟨ps ++ more, upd_same, by rw [← em]; exact trip3⟩, fun b nb => upd_ne nb⟩, J⟩
  cases among : codeAmong gpos ps.toList with
  | none =>
    refine wpAny_genexprCodeX hcode (hd2.code tab2 trip) (hd2.tab tab2) among fun c' h' tk ext ge lt co _ tab' _ => ?_
    obtain ⟨_, _, _, _, _, _, _, _, _, _, _, _, _, _, _, _, _, _, _, tr, _⟩ := co
    exact go _ h' tk _ ext (by have ge' := ge; rw [size2] at ge'; exact Nat.le_trans ge' (Nat.le_of_lt lt)) tab'.2 ⟨_, rfl⟩ tr
  | some cv =>
    refine wpAny_genexprCode_hit hcode (hd2.code tab2 trip) among ?_
    exact go cv (s1.heap.push ob) s1.toks ps (Heap.ExtBut.refl _ _) (Nat.le_of_eq size2.symm) tab2 ⟨#[], by simp⟩ trip
/-- tuples of m values at the items of xs -/
def TrB (K : PySem.W.Frag) (H : Hp) (xs : List V) (tp : Nat → List V) : Prop := ∀ i x, xs[i]? = some x → ∃ t, x = .ref t ∧ SqT K H t (tp i)
theorem walk_tr {H1 : Hp} {s1 : Shared} {P a : Addr} {ps : Array Value} {xs : List V} {tp : Nat → List V} (I : Inv X pins σ H1 s1) (hP : H1 P = some (.tbl ps)) (h : SqB X.K H1 a xs) (hpr : TrB X.K H1 xs tp) :
    ∃ vals : Nat → List Value, (∀ i, i < xs.length → Vals (tp i) (vals i)) ∧ WalkP X.prog X.w s1.heap P (.ref a) xs.length (fun i v => i < xs.length ∧ v = (vals i).toArray) := by
  have tab1 : s1.heap.get? P = some { cls := .none, data := .fields ps } := I.hok P _ hP
  have Plt : P < s1.heap.objs.size := Heap.lt_size tab1
  have ne : ∀ {b : Addr} {o : Obj} {T : String}, s1.heap.get? b = some o → o.cls = .type T → b ≠ P := fun {b o T} e c z => by
    rw [z, tab1] at e
    cases e
    cases c
  have each : ∀ i, ∃ q : Addr × List Value, i < xs.length → xs[i]? = some (.ref q.1) ∧ s1.heap.IsTuple q.1 q.2.toArray ∧ Vals (tp i) q.2 := fun i => by
    by_cases hi : i < xs.length
    · obtain ⟨t, e, sq⟩ := hpr i _ (List.getElem?_eq_getElem hi)
      obtain ⟨its, r, tp', _⟩ := I.tuple sq
      exact ⟨(t, its), fun _ => ⟨by rw [List.getElem?_eq_getElem hi, e], tp', r⟩⟩
    · exact ⟨(0, []), fun z => absurd z hi⟩
  obtain ⟨f, hf⟩ := Classical.skolem.mp each
  refine ⟨fun i => (f i).2, fun i hi => (hf i hi).2.2, ?_⟩
  have fin : ∀ (its : List Value), Vals xs its → (∀ j, j < its.toArray.size → its.toArray[j]? = some (.ref (f j).1)) ∧ its.toArray.size = xs.length := fun its r => by
    have len := r.length
    refine ⟨fun j hj => ?_, by simp [len]⟩
    have hj' : j < xs.length := by rw [len]; simpa using hj
    obtain ⟨u, eu, ru⟩ := r.get (hf j hj').1
    cases ru
    rw [List.getElem?_toArray]
    exact eu
  have lt : ∀ j, j < xs.length → (f j).1 < s1.heap.objs.size := fun j hj => by
    obtain ⟨o, e, _⟩ := (hf j hj).2.1
    exact Heap.lt_size e
  have nP : ∀ j, j < xs.length → (f j).1 ≠ P := fun j hj => by
    obtain ⟨o, e, c, _⟩ := (hf j hj).2.1
    exact ne e c
  have foot : ∀ {a : Addr}, a < s1.heap.objs.size → a ≠ P → ∀ {n : Nat}, n = xs.length → ∀ b ∈ s1.heap.objs.size :: a :: (List.range n).map (fun j => (f j).1), b ≠ P ∧ b ≤ s1.heap.objs.size := fun {a} la na {n} en b hb => by
    subst en
    rcases List.mem_cons.mp hb with rfl | hb
    · exact ⟨(Nat.ne_of_lt Plt).symm, Nat.le_refl _⟩
    · rcases List.mem_cons.mp hb with rfl | hb
      · exact ⟨na, Nat.le_of_lt la⟩
      · obtain ⟨j, hj, rfl⟩ := List.mem_map.mp hb
        have hj' := List.mem_range.mp hj
        exact ⟨nP j hj', Nat.le_of_lt (lt j hj')⟩
  rcases h with h | h
  · obtain ⟨its, r, pl, _⟩ := I.list h
    obtain ⟨o, e, c, q⟩ := pl.isList
    obtain ⟨at_, sz⟩ := fin its r
    intro A E s Q es k
    obtain ⟨hp, gs, dr, tk, os⟩ := s
    replace es : hp = s1.heap := es
    subst es
    have la : a < s1.heap.objs.size := Heap.lt_size e
    refine wpAny_pyIter_list ⟨o, e, c, q⟩ (k _ _ _ _ (fun A' hA => walkU_n (WalksU.listOfTuples (prog := X.prog) (w := X.w) hA s1.heap.objs.size a (Nat.ne_of_lt la) its.toArray (fun j => (f j).1) (fun j => (f j).2.toArray) at_ (fun j hj => Nat.ne_of_lt (lt j (by rw [← sz]; exact hj)))) sz) ?_ (foot la (ne e c) sz))
    exact ⟨⟨_, Heap.get?_push_size _ rfl, rfl, rfl⟩, Heap.IsList.push ⟨o, e, c, q⟩ _, fun j hj => (hf j (by rw [← sz]; exact hj)).2.1.push _⟩
  · obtain ⟨its, r, tp', _⟩ := I.tuple h
    obtain ⟨o, e, c, q⟩ := tp'
    obtain ⟨at_, sz⟩ := fin its r
    intro A E s Q es k
    obtain ⟨hp, gs, dr, tk, os⟩ := s
    replace es : hp = s1.heap := es
    subst es
    have la : a < s1.heap.objs.size := Heap.lt_size e
    refine wpAny_pyIter_tuple ⟨o, e, c, q⟩ (k _ _ _ _ (fun A' hA => walkU_n (walkU_tuple (prog := X.prog) (w := X.w) hA s1.heap.objs.size a (Nat.ne_of_lt la) its.toArray (fun j => (f j).1) (fun j => (f j).2.toArray) at_ (fun j hj => Nat.ne_of_lt (lt j (by rw [← sz]; exact hj)))) sz) ?_ (foot la (ne e c) sz))
    exact ⟨⟨_, Heap.get?_push_size _ rfl, rfl, rfl⟩, Heap.IsTuple.push ⟨o, e, c, q⟩ _, fun j hj => (hf j (by rw [← sz]; exact hj)).2.1.push _⟩
/-- the names ns hold the values of the item -/
def Named (ns : List Str) (n : Nat) (vals : Nat → List Value) (i : Nat) (m : Str → Option Value) : Prop := i < n ∧ ∀ (j : Nat) (x : Str), ns[j]? = some x → m x = (vals i)[j]?
theorem elt_named {scope : Scope} {ns : List Str} {elt : Expr} {rd : QT} (he : QE X scope ns elt rd) {H1 : Hp} {s1 : Shared} {P : Addr} {ps : Array Value} (I : Inv X pins σ H1 s1) (hP : H1 P = some (.tbl ps)) {n : Nat} {tp : Nat → List V} {vals : Nat → List Value}
    (hv : ∀ i, i < n → Vals (tp i) (vals i)) {g : Nat → V} (h : ∀ i, i < n → rd (tp i) σ H1 fun y => y = g i) : EltX X scope elt P s1.heap (Named ns n vals) (fun i y => i < n ∧ RelV (g i) y) := by
  intro C code A1 E1 i t m hA hB hn hk
  refine wpAny_mono (he.run I hP hA hn (hv i hB.1) hB.2 hk _ (h i hB.1)) (fun y t' q => ?_) fun _ _ z => z
  obtain ⟨⟨v', r', rfl⟩, kk⟩ := q
  exact ⟨⟨hB.1, r'⟩, kk⟩
theorem stores3 {scope : Scope} {cl : List (Str × Addr)} {C : Addr} {code : Value} {bi : Addr} {env : Env} {xa xb xc : Str} {qa qb qc qt : Pos} {kt n : Nat} {vals : Nat → List Value} (hk : scope.kind = .function) (ha : scope.names.lookup xa = some .local) (hb : scope.names.lookup xb = some .local) (hc : scope.names.lookup xc = some .local) (ab : xa ≠ xb) (ac : xa ≠ xc) (bc : xb ≠ xc) (h3 : ∀ i, i < n → (vals i).length = 3) {prog : Program} {w : World} :
    Stores prog w (genEnv scope cl C code bi env) [.Name xa qa, .Name xb qb, .Name xc qc] kt qt (fun i v => i < n ∧ v = (vals i).toArray) (Named [xa, xb, xc] n vals) := by
  rintro A1 E1 i T v s m Q hA ⟨li, rfl⟩ hT hn k
  have l3 := h3 i li
  obtain ⟨ua, ub, uc, e⟩ : ∃ ua ub uc, vals i = [ua, ub, uc] := by
    match vals i, l3 with
    | [a, b, c], _ => exact ⟨a, b, c, rfl⟩
  rw [e] at hT
  have hp : ((genEnv scope cl C code bi env).scope.kind == .class || ((genEnv scope cl C code bi env).scope.kind == .module && (genEnv scope cl C code bi env).locals != (genEnv scope cl C code bi env).globals)) = false := by simp [genEnv, hk]
  refine wpAny_assign_Tuple hA hT rfl rfl fun h1 hx => ?_
  replace hx : Heap.ExtBut s.heap.objs.size s.heap h1 := hx
  have old : ∀ b o, s.heap.get? b = some o → h1.get? b = some o := fun b o e => hx b o (Nat.ne_of_lt (Heap.lt_size e)) e
  show wpAny _ _ (do holding [ub, uc] (assign (.Name xa qa) (genEnv scope cl C code bi env) ua); do holding [uc] (assign (.Name xb qb) (genEnv scope cl C code bi env) ub); do holding [] (assign (.Name xc qc) (genEnv scope cl C code bi env) uc); pure ()) _ _ _
  refine wpAny_bind (wpAny_holding (wpAny_assign_Name (wpAny_storeName_local ha (hn.at' fun o e => old _ o e) (fun h2 hn2 hs2 => ?_) hp)))
  replace hs2 : Heap.SameBut C h1 h2 := hs2
  refine wpAny_bind (wpAny_holding (wpAny_assign_Name (wpAny_storeName_local hb hn2 (fun h3 hn3 hs3 => ?_) hp)))
  replace hs3 : Heap.SameBut C h2 h3 := hs3
  refine wpAny_bind (wpAny_holding (wpAny_assign_Name (wpAny_storeName_local hc hn3 (fun h4 hn4 hs4 => wpAny_pure ?_) hp)))
  replace hs4 : Heap.SameBut C h3 h4 := hs4
  refine k h4 _ _ hn4 ⟨li, fun j x hj => ?_⟩ fun b o nb q => hs4.extBut b o nb (hs3.extBut b o nb (hs2.extBut b o nb (old b o q)))
  rw [e]
  match j, hj with
  | 0, hj => cases hj; simp [ab, ac]
  | 1, hj => cases hj; simp [bc]
  | 2, hj => cases hj; simp
  | j + 3, hj => cases hj
/-- as tGen, over tuples -/
def tGenT (P : Addr) (K : PySem.W.Frag) (rd : QT) (res : List V → (Nat → V) → (V → Prop) → Prop) (te : TE) : TE := fun σ H Q => te σ H fun v H1 => TabG H1 P ∧ ∃ (a : Addr) (xs : List V) (tp : Nat → List V) (g : Nat → V), v = .ref a ∧ SqB K H1 a xs ∧ TrB K H1 xs tp ∧ (∀ i, i < xs.length → (tp i).length = 3) ∧
  (∀ i, i < xs.length → rd (tp i) σ H1 fun y => y = g i) ∧ res xs g fun r => ∀ H2, Tabbed P H1 H2 → Q r H2
theorem pe_genT {fn : String} {res : List V → (Nat → V) → (V → Prop) → Prop} {n : Str} {c P : Addr} {elt iter : Expr} {xa xb xc : Str} {qa qb qc qt p pos gpos : Pos} {kt : Nat} {scope : Scope} {rd : QT} {te : TE} {k : Nat} (hf : Eats X fn res)
    (hr : Room k X.A) (hg : Gl X n) (hm : X.mg n = none) (hb : bootBuiltins n = some (.builtin fn)) (TB : TabB X.base X.mg c P) (hcode : X.env.code = .ref c) (S : GenN X.env scope) (la : scope.names.lookup xa = some .local) (lb : scope.names.lookup xb = some .local) (lc : scope.names.lookup xc = some .local) (ab : xa ≠ xb) (ac : xa ≠ xc) (bc : xb ≠ xc) (hi : PE X iter te) (hel : QE X scope [xa, xb, xc] elt rd)
    (hs : ∀ v, genFold iter X.env v = pure v) (hn : n ≠ "__name__" := by decide) (hdb : (n == ("__debug__" : Str)) = false := by decide)
    (he : starEach [gE elt iter [.Name xa qa, .Name xb qb, .Name xc qc] kt qt [] scope gpos] X.env = (false, eval (gE elt iter [.Name xa qa, .Name xb qb, .Name xc qc] kt qt [] scope gpos) X.env) :: starEach [] X.env := by rfl) :
    PE X (.Call (.Name n p) [gE elt iter [.Name xa qa, .Name xb qb, .Name xc qc] kt qt [] scope gpos] [] pos) (tGenT P X.K rd res te) := by
  refine ⟨fun pins s σ H Q I h => ?_⟩
  refine wpAny_Call_Name_kw (ld_blt I hg hm hb ?_ hn hdb)
  refine PyProof.Rows.callWith_builtin1 ?_ he (by rfl)
  rw [he]
  refine Calls.spliced_cons (gen_tgt hr TB hcode S hi hs I h fun v H1 all1 => ?_)
  obtain ⟨⟨ps, hP, trip⟩, a, xs, tp, g, rfl, sq, hpr, l3, els, rz⟩ := all1
  refine ⟨⟨ps, hP, trip⟩, fun s1 xv I1 rel => ?_⟩
  cases rel
  obtain ⟨vals, hv, walk⟩ := walk_tr I1 hP sq hpr
  refine ⟨_, _, _, _, walk, fun C code bi => stores3 S.kind la lb lc ab ac bc fun i li => ?_, elt_named hel I1 hP hv els, fun ga t rdy => ?_⟩
  · rw [← (hv i li).length]; exact l3 i li
  obtain ⟨fp, wr, G, F', St, W, hF, st, bnd, fin⟩ := rdy
  refine Calls.spliced_nil ?_
  refine hf rz W hF st bnd fun r y t' hZ ry mv => ?_
  obtain ⟨H2, tb, J⟩ := fin t' mv
  exact ⟨r, H2, J, ry, hZ H2 tb⟩
theorem bi_sub : BinI X .Sub okAll (· - ·) := fun _ _ h => PySem.P.sub_int h
def okMul : Int → Int → Prop := fun i j => IntMulOk i j
theorem bi_mul : BinI X .Mult okMul (· * ·) := fun _ o h => PySem.P.mul_int h o
def qMax3 (ra rb rc : QT) : QT := fun vs σ H Q => ra vs σ H fun x => rb vs σ H fun y => rc vs σ H fun z => ∃ i j k, x = .int i ∧ y = .int j ∧ z = .int k ∧ Q (.int (if j > i then (if k > j then k else j) else (if k > i then k else i)))
theorem q_max3 {scope : Scope} {ns : List Str} {a b d : Expr} {ra rb rc : QT} {pos p : Pos} (hg : scope.names.lookup ("max" : Str) = some .globalImplicit) (hs : scope.kind = .function) (hm : X.mg "max" = none) (ha : QE X scope ns a ra) (hb : QE X scope ns b rb) (hd : QE X scope ns d rc)
    (he : ∀ env, starEach [a, b, d] env = (false, eval a env) :: starEach [b, d] env := by intro _; rfl) (he2 : ∀ env, starEach [b, d] env = [(false, eval b env), (false, eval d env)] := by intro _; rfl) : QE X scope ns (.Call (.Name "max" p) [a, b, d] [] pos) (qMax3 ra rb rc) := by
  refine ⟨fun {pins σ H1 s1} I {P ps} hP {C code A' E' t m vs us} hA hn hv hm' hk Q h => wpAny_Call_Name_kw ?_⟩
  have keep : ∀ b o, X.base.get? b = some o → t.heap.get? b = some o := fun b o z => hk b o (fun y => by
    have f := (I.bs _ o z).2
    rw [y, hP] at f
    cases f) (I.bk _ o z)
  obtain ⟨mb, b1, b2⟩ := I.mod.blt
  refine Calls.Name_function_global hs hg (Calls.loadGlobal_builtin (mg := X.mg) (mb := mb) ?_ hm ?_ ((b2 "max" (by decide)).trans (show bootBuiltins "max" = some (.builtin "max") by decide +kernel)) ?_) (by decide)
  · show Heap.Ns _ X.env.globals X.mg
    rw [I.ok.glob]
    exact I.mod.glob.keeps keep
  · exact b1.keeps keep
  refine PyProof.Rows.callWith_builtin1 ?_ (he _) (by rw [he2]; rfl)
  rw [he, he2]
  refine Calls.spliced_cons (wpAny_mono (ha.run I hP hA hn hv hm' hk _ h) (fun y t1 r => ?_) fun _ _ z => z)
  obtain ⟨⟨v, r1, q⟩, k1⟩ := r
  refine Calls.spliced_cons (q_then hb I hP hA hn hv hm' hk k1 q fun v2 y2 t2 r2 q2 k2 => ?_)
  refine Calls.spliced_cons (q_then hd I hP hA hn hv hm' hk k2 q2 fun v3 y3 t3 r3 q3 k3 => ?_)
  obtain ⟨i, j, l, rfl, rfl, rfl, q⟩ := q3
  obtain ⟨x1, rfl⟩ := r1
  obtain ⟨x2, rfl⟩ := r2
  obtain ⟨x3, rfl⟩ := r3
  refine Calls.spliced_nil (max_three_ints hA fun h' tk kp => ⟨⟨.int _, ?_, q⟩, kp_trans k3 ⟨h', tk, rfl, kp⟩⟩)
  by_cases u1 : j > i <;> by_cases u2 : l > j <;> by_cases u3 : l > i <;> simp only [u1, u2, u3, if_true, if_false] <;> exact ⟨_, rfl⟩
end
end Gn

namespace Gf
open PySem PySem.Spec PyProof.Rows L2 GxR Gq Gn
/-! ### .. with a filter -/
section
variable {X : Cx} {pins : List (Addr × Obj)} {σ : L2.St} {H : Hp} {s : Shared}
def EltF (X : Cx) (scope : Scope) (elt : Expr) (P : Addr) (h : Heap) (Bd : Nat → (Str → Option Value) → Prop) (pz : Nat → Bool) (F : Nat → Value → Prop) : Prop :=
  ∀ (C : Addr) (code : Value) (A1 : Around) (E1 : Value → Shared → Prop) (i : Nat) (t : Shared) (m : Str → Option Value), A1.handled = none → pz i = true → Bd i m → t.heap.Ns C m →
    (∀ b o, b ≠ P → h.get? b = some o → t.heap.get? b = some o) → wpAny (model X.prog X.w) A1 (eval elt (genEnv scope (cloFrom X.env.cells scope.names []) C code builtinsNs X.env)) (fun y t' => F i y ∧ Keeps t t') E1 t
def TstX (X : Cx) (scope : Scope) (ifs : List Expr) (P : Addr) (h : Heap) (Bd : Nat → (Str → Option Value) → Prop) (pz : Nat → Bool) : Prop :=
  ∀ (C : Addr) (code : Value) (A1 : Around) (E1 : Value → Shared → Prop) (i : Nat) (t : Shared) (m : Str → Option Value), A1.handled = none → Bd i m → t.heap.Ns C m →
    (∀ b o, b ≠ P → h.get? b = some o → t.heap.get? b = some o) →
    wpAny (model X.prog X.w) A1 (forIn ifs true fun c r => if r = true then do let ok ← isTrue c (genEnv scope (cloFrom X.env.cells scope.names []) C code builtinsNs X.env) (eval c (genEnv scope (cloFrom X.env.cells scope.names []) C code builtinsNs X.env)); pure (ForInStep.yield ok) else pure (ForInStep.yield r)) (fun ok t' => ok = pz i ∧ Keeps t t') E1 t
theorem gen_tgtF {c P : Addr} {elt iter : Expr} {es ifs : List Expr} {qt gpos : Pos} {kt : Nat} {scope : Scope} {te : TE} {k : Nat} {Q' : Value → Shared → Prop} (hr : Room k X.A) (TB : TabB X.base X.mg c P) (hcode : X.env.code = .ref c) (S : GenN X.env scope) (hi : PE X iter te) (hs : ∀ v, genFold iter X.env v = pure v) (I : Inv X pins σ H s) {R : VK} (h : te σ H R)
    (hR : ∀ v H1, R v H1 → TabG H1 P ∧ ∀ (s1 : Shared) (xv : Value), Inv X pins σ H1 s1 → RelV v xv → ∃ (n : Nat) (Pt : Nat → Array Value → Prop) (Bd : Nat → (Str → Option Value) → Prop) (pz : Nat → Bool) (F : Nat → Value → Prop), WalkP X.prog X.w s1.heap P xv n Pt ∧ (∀ C code bi, Stores X.prog X.w (genEnv scope (cloFrom X.env.cells scope.names []) C code bi X.env) es kt qt Pt Bd) ∧ TstX X scope ifs P s1.heap Bd pz ∧ EltF X scope elt P s1.heap Bd pz F ∧ ∀ g t, RdyG X pins σ H1 P (passing pz n 0).length (fun j y => ∃ i, (passing pz n 0)[j]? = some i ∧ F i y) g t → Q' (.ref g) t) :
    wpAny (model X.prog X.w) X.A (eval (gE elt iter es kt qt ifs scope gpos) X.env) Q' X.xe s := by
  refine evalX hr.hd S.co (closure_ok S.free) S.cell S.dot S.kind (by have d := hr.dp; omega) ?_ hs
  refine thn (hi.run pins s σ H _ I h) fun xv s1 ⟨v, H1, I1, rel, all1⟩ => ?_
  obtain ⟨⟨ps, tabH, trip⟩, rest⟩ := hR v H1 all1
  obtain ⟨n, Pt, Bd, pz, F, walk, sto, htst, hel, fin⟩ := rest s1 xv I1 rel
  refine walk _ _ _ _ rfl fun ob fp St Mid W st0 hfp => ?_
  have tab1 : s1.heap.get? P = some { cls := .none, data := .fields ps } := I1.hok P _ tabH
  have Plt : P < s1.heap.objs.size := Heap.lt_size tab1
  have tab2 : (s1.heap.push ob).get? P = some { cls := .none, data := .fields ps } := Heap.get?_push_of_some _ tab1
  have hd2 : PySem.W.CodeHd (s1.heap.push ob) c P := TB.code.keeps fun b u q => Heap.get?_push_of_some _ (I1.bk b u q)
  have lim2 : (s1.heap.push ob).NoLimit := I1.nolimit.push ob
  have size2 : (s1.heap.push ob).objs.size = s1.heap.objs.size + 1 := Heap.size_push ..
  refine ⟨lim2, ?_⟩
  have go : ∀ (code : Value) (h3 : Heap) (tk : Nat) (qs : Array Value), Heap.ExtBut P (s1.heap.push ob) h3 → s1.heap.objs.size + 1 ≤ h3.objs.size → h3.get? P = some { cls := .none, data := .fields qs } → (∃ more, qs = ps ++ more) → TriplesOk qs.toList →
      wpAny (model X.prog X.w) X.A (builtinsFor X.env.globals X.env.builtins) (fun bi s4 =>
        ∃ J fp wr n Pt Bd St Mid pz F, Value.ref s1.heap.objs.size = .ref J ∧ (∀ B : Around, B.handled = none → WalksU X.prog X.w B J fp wr n Pt St Mid) ∧ Stores X.prog X.w (genEnv scope (cloFrom X.env.cells scope.names []) s4.heap.objs.size code bi X.env) es kt qt Pt Bd ∧ St 0 s4.heap ∧ (∀ b ∈ fp, b < s4.heap.objs.size) ∧ s4.heap.NoLimit ∧ cStatics ∉ wr ∧
          (∀ hx : Heap, (∀ b o, s4.heap.get? b = some o → hx.get? b = some o) → Quiet X.prog X.w (genEnv scope (cloFrom X.env.cells scope.names []) s4.heap.objs.size code bi X.env) ifs elt (List.range s4.heap.objs.size) wr Bd pz F hx) ∧
          (∀ a h5 tk gs, gs.bare = true → s4.heap.objs.size < a → h5.objs.size = a + 1 → (∀ b o, s4.heap.get? b = some o → h5.get? b = some o) →
            WalksS X.prog X.w X.A.in4 a (a :: s4.heap.objs.size :: List.range s4.heap.objs.size) (s4.heap.objs.size :: wr) (GenOnlyQ s4.gens.size) (passing pz n 0).length (fun j y => ∃ i, (passing pz n 0)[j]? = some i ∧ F i y) (GenAt X.prog X.w X.A.in4 a s4.gens.size s4.heap.objs.size (List.range s4.heap.objs.size) wr pz n F) →
            GenAt X.prog X.w X.A.in4 a s4.gens.size s4.heap.objs.size (List.range s4.heap.objs.size) wr pz n F 0 { s4 with gens := s4.gens.push gs, toks := tk, heap := h5 } → Q' (.ref a) { s4 with gens := s4.gens.push gs, toks := tk, heap := h5 })) X.xe { s1 with heap := h3, toks := tk } := by
    intro code h3 tk qs ext le3 tab3 grown trip3
    obtain ⟨bm, bo, z1, z2, z3, z4, z5, z6, z7, z8⟩ := TB.bm
    have statP : cStatics ≠ P := fun q => by
      obtain ⟨_, hns, _⟩ := I1.nolimit
      obtain ⟨o', es', ep, ho, hd, _⟩ := hns
      rw [q, tab1] at ho
      cases ho
      cases hd
    have statLt : cStatics < s1.heap.objs.size := by
      obtain ⟨_, hns, _⟩ := I1.nolimit
      exact hns.lt
    have keep3 : ∀ b u, b ≠ P → s1.heap.get? b = some u → h3.get? b = some u := fun b u nb q => ext b u nb (Heap.get?_push_of_some _ q)
    refine wpAny_builtinsFor (m := X.mg) (by rw [I1.ok.glob]; exact ((I1.mod.glob.keeps I1.bk).push ob).extBut ext TB.gP) z1 z2 (keep3 _ _ z4 (I1.bk _ _ z5)) z6 z7 z8 ?_
    refine ⟨s1.heap.objs.size, fp, [s1.heap.objs.size], n, Pt, Bd, St, Mid, pz, F, rfl, W, sto _ _ _, ?_, fun b hb => ?_, lim2.extBut ext statP, fun q => ?_, fun hx keepx => ?_, ?_⟩
    · exact (W X.A hr.hd).frame _ _ _ st0 fun b hb u q => ext b u (hfp b hb).1 q
    · exact Nat.lt_of_lt_of_le (Nat.lt_succ_of_le (hfp b hb).2) le3
    · rw [List.mem_singleton] at q
      exact Nat.ne_of_lt statLt q
    · refine ⟨fun A1 E1 i t m hA hn hB hk => ?_, fun A1 E1 i t m hA hp hn hB hk => ?_⟩
      · refine htst _ _ A1 E1 i t m hA hB hn fun b o nb q => ?_
        have b1 : b < s1.heap.objs.size := Heap.lt_size q
        refine hk b (List.mem_range.mpr (Nat.lt_of_lt_of_le (Nat.lt_succ_of_lt b1) le3)) (fun q' => ?_) o (keepx b o (keep3 b o nb q))
        rw [List.mem_singleton] at q'
        exact Nat.ne_of_lt b1 q'
      · refine hel _ _ A1 E1 i t m hA hp hB hn fun b o nb q => ?_
        have b1 : b < s1.heap.objs.size := Heap.lt_size q
        refine hk b (List.mem_range.mpr (Nat.lt_of_lt_of_le (Nat.lt_succ_of_lt b1) le3)) (fun q' => ?_) o (keepx b o (keep3 b o nb q))
        rw [List.mem_singleton] at q'
        exact Nat.ne_of_lt b1 q'
    · intro a h5 tk5 gs bare agt size5 keep5 W5 at5
      refine fin a _ ⟨_, _, _, _, _, W5.in4_1, fun j y hy => hy, at5, fun b hb => ?_, fun t' mv => ?_⟩
      · have agt' : h3.objs.size < h5.objs.size := by
          rw [size5]
          exact Nat.lt_succ_of_lt agt
        simp only [List.mem_cons, List.mem_range] at hb
        rcases hb with rfl | rfl | hb
        · rw [size5]
          exact Nat.lt_succ_self _
        · exact agt'
        · exact Nat.lt_trans hb agt'
      · obtain ⟨more, em⟩ := grown
        have apart : ∀ b u, s1.heap.get? b = some u → b ∉ h3.objs.size :: [s1.heap.objs.size] := fun b u q hb => by
          have b1 : b < s1.heap.objs.size := Heap.lt_size q
          simp only [List.mem_cons, List.not_mem_nil, or_false] at hb
          rcases hb with e | e
          · exact Nat.ne_of_lt (Nat.lt_of_lt_of_le (Nat.lt_succ_of_lt b1) le3) e
          · exact Nat.ne_of_lt b1 e
        have J := inv_tab (more := more) (h' := t'.heap) (g' := t'.gens) (d' := t'.drawn) (t' := t'.toks) I1 tabH (fun b u nb q => mv.heap b u (apart b u q) (keep5 b u (keep3 b u nb q)))
          (by rw [← em]; exact mv.heap P _ (apart P _ tab1) (keep5 P _ tab3)) (AllBare.movedS (I1.bare.push bare) mv)
        rw [sh_eta s1 t' mv.os] at J
        exact ⟨L2.upd H1 P (.tbl (ps ++ more)), ⟨⟨ps ++ more, upd_same, by rw [← em]; exact trip3⟩, fun b nb => upd_ne nb⟩, J⟩
  cases among : codeAmong gpos ps.toList with
  | none =>
    refine wpAny_genexprCodeX hcode (hd2.code tab2 trip) (hd2.tab tab2) among fun c' h' tk ext ge lt co _ tab' _ => ?_
    obtain ⟨_, _, _, _, _, _, _, _, _, _, _, _, _, _, _, _, _, _, _, tr, _⟩ := co
    exact go _ h' tk _ ext (by have ge' := ge; rw [size2] at ge'; exact Nat.le_trans ge' (Nat.le_of_lt lt)) tab'.2 ⟨_, rfl⟩ tr
  | some cv =>
    refine wpAny_genexprCode_hit hcode (hd2.code tab2 trip) among ?_
    exact go cv (s1.heap.push ob) s1.toks ps (Heap.ExtBut.refl _ _) (Nat.le_of_eq size2.symm) tab2 ⟨#[], by simp⟩ trip
/-- what a test says of a turn -/
abbrev QB := List V → L2.St → Hp → (Bool → Prop) → Prop
structure QT1 (X : Cx) (scope : Scope) (ns : List Str) (e : Expr) (rd : QB) : Prop where
  run : ∀ {pins : List (Addr × Obj)} {σ : L2.St} {H1 : Hp} {s1 : Shared}, Inv X pins σ H1 s1 → ∀ {P : Addr} {ps : Array Value}, H1 P = some (.tbl ps) →
    ∀ {C : Addr} {code : Value} {A' : Around} {E' : Value → Shared → Prop} {t : Shared} {m : Str → Option Value} {vs : List V} {us : List Value}, A'.handled = none → t.heap.Ns C m → Vals vs us →
      (∀ (j : Nat) (n : Str), ns[j]? = some n → m n = us[j]?) → (∀ b o, b ≠ P → s1.heap.get? b = some o → t.heap.get? b = some o) → ∀ Q : Bool → Prop, rd vs σ H1 Q →
      wpAny (model X.prog X.w) A' (isTrue e (genEnv scope (cloFrom X.env.cells scope.names []) C code builtinsNs X.env) (eval e (genEnv scope (cloFrom X.env.cells scope.names []) C code builtinsNs X.env))) (fun b t' => Q b ∧ Keeps t t') E' t
theorem t_not {scope : Scope} {ns : List Str} {e : Expr} {rd : QB} {pos : Pos} (h : QT1 X scope ns e rd) : QT1 X scope ns (.UnaryOp .Not e pos) (fun vs σ H Q => rd vs σ H fun b => Q (!b)) :=
  ⟨fun {pins σ H1 s1} I {P ps} hP {C code A' E' t m vs us} hA hn hv hm hk Q r => wpAny_isTrue_Not (h.run I hP hA hn hv hm hk (fun b => Q (!b)) r)⟩
theorem t_chain {scope : Scope} {ns : List Str} {a b c : Expr} {ra rb rc : QT} {op op' : CmpOp} {pos : Pos} {f g : Int → Int → Bool} (hop : CmpI X op f) (hop' : CmpI X op' g) (ha : QE X scope ns a ra) (hb : QE X scope ns b rb) (hc : QE X scope ns c rc) (hmk : lastMarks [op, op'] [b, c] = false := by with_unfolding_all rfl) :
    QT1 X scope ns (.Compare a [op, op'] [b, c] pos) (fun vs σ H Q => ra vs σ H fun x => rb vs σ H fun y => ∃ i j, x = .int i ∧ y = .int j ∧ if f i j = true then rc vs σ H fun z => ∃ k, z = .int k ∧ Q (g j k) else Q false) := by
  refine ⟨fun {pins σ H1 s1} I {P ps} hP {C code A' E' t m vs us} hA hn hv hm hk Q h => isTrue_chain ?_ hmk⟩
  refine wpAny_mono (ha.run I hP hA hn hv hm hk _ h) (fun y t1 r => ?_) fun _ _ z => z
  obtain ⟨⟨v, r1, q1⟩, k1⟩ := r
  refine test_link (q_then hb I hP hA hn hv hm hk k1 q1 fun v' y' t2 r2 q2 k2 => ?_)
  obtain ⟨i, j, rfl, rfl, q⟩ := q2
  obtain ⟨_, rfl⟩ := r1
  obtain ⟨_, rfl⟩ := r2
  refine hop hA (wpAny_truthy_bool ?_)
  cases z : f i j with
  | false =>
    rw [z] at q
    exact ite_ff ⟨by rw [if_neg Bool.false_ne_true] at q; exact q, k2⟩
  | true =>
    rw [z, if_pos rfl] at q
    refine ite_tt (test_last (q_then hc I hP hA hn hv hm hk k2 q fun v'' y'' t3 r3 q3 k3 => ?_))
    obtain ⟨k, rfl, q'⟩ := q3
    obtain ⟨_, rfl⟩ := r3
    exact hop' hA (wpAny_truthy_bool ⟨q', k3⟩)
theorem tst_named {scope : Scope} {ns : List Str} {tst : Expr} {rd : QB} (he : QT1 X scope ns tst rd) {H1 : Hp} {s1 : Shared} {P : Addr} {ps : Array Value} (I : Inv X pins σ H1 s1) (hP : H1 P = some (.tbl ps)) {n : Nat} {tp : Nat → List V} {vals : Nat → List Value}
    (hv : ∀ i, i < n → Vals (tp i) (vals i)) {pz : Nat → Bool} (h : ∀ i, i < n → rd (tp i) σ H1 fun b => b = pz i) : TstX X scope [tst] P s1.heap (Named ns n vals) pz := by
  intro C code A1 E1 i t m hA hB hn hk
  simp only [List.forIn_cons, List.forIn_nil, if_true]
  refine wpAny_bind (wpAny_bind (wpAny_mono (he.run I hP hA hn (hv i hB.1) hB.2 hk _ (h i hB.1)) (fun b t' q => ?_) fun _ _ z => z))
  exact wpAny_pure (wpAny_pure q)
theorem elf_named {scope : Scope} {ns : List Str} {elt : Expr} {rd : QT} (he : QE X scope ns elt rd) {H1 : Hp} {s1 : Shared} {P : Addr} {ps : Array Value} (I : Inv X pins σ H1 s1) (hP : H1 P = some (.tbl ps)) {n : Nat} {tp : Nat → List V} {vals : Nat → List Value}
    (hv : ∀ i, i < n → Vals (tp i) (vals i)) {g : Nat → V} {pz : Nat → Bool} (h : ∀ i, i < n → pz i = true → rd (tp i) σ H1 fun y => y = g i) : EltF X scope elt P s1.heap (Named ns n vals) pz (fun i y => i < n ∧ RelV (g i) y) := by
  intro C code A1 E1 i t m hA hp hB hn hk
  refine wpAny_mono (he.run I hP hA hn (hv i hB.1) hB.2 hk _ (h i hB.1 hp)) (fun y t' q => ?_) fun _ _ z => z
  obtain ⟨⟨v', r', rfl⟩, kk⟩ := q
  exact ⟨⟨hB.1, r'⟩, kk⟩
/-- as tGenT, only those that pass -/
def tGenTF (P : Addr) (K : PySem.W.Frag) (rd : QT) (rt : QB) (res : List V → (Nat → V) → (V → Prop) → Prop) (te : TE) : TE := fun σ H Q => te σ H fun v H1 => TabG H1 P ∧ ∃ (a : Addr) (xs : List V) (tp : Nat → List V) (g : Nat → V) (pz : Nat → Bool), v = .ref a ∧ SqB K H1 a xs ∧ TrB K H1 xs tp ∧ (∀ i, i < xs.length → (tp i).length = 3) ∧
  (∀ i, i < xs.length → rt (tp i) σ H1 fun b => b = pz i) ∧ (∀ i, i < xs.length → pz i = true → rd (tp i) σ H1 fun y => y = g i) ∧ res (List.replicate (passing pz xs.length 0).length .non) (fun j => g ((passing pz xs.length 0).getD j 0)) fun r => ∀ H2, Tabbed P H1 H2 → Q r H2
theorem pe_genTF {fn : String} {res : List V → (Nat → V) → (V → Prop) → Prop} {n : Str} {c P : Addr} {elt iter tst : Expr} {xa xb xc : Str} {qa qb qc qt p pos gpos : Pos} {kt : Nat} {scope : Scope} {rd : QT} {rt : QB} {te : TE} {k : Nat} (hf : Eats X fn res)
    (hr : Room k X.A) (hg : Gl X n) (hm : X.mg n = none) (hb : bootBuiltins n = some (.builtin fn)) (TB : TabB X.base X.mg c P) (hcode : X.env.code = .ref c) (S : GenN X.env scope) (la : scope.names.lookup xa = some .local) (lb : scope.names.lookup xb = some .local) (lc : scope.names.lookup xc = some .local) (ab : xa ≠ xb) (ac : xa ≠ xc) (bc : xb ≠ xc) (hi : PE X iter te) (hel : QE X scope [xa, xb, xc] elt rd) (hts : QT1 X scope [xa, xb, xc] tst rt)
    (hs : ∀ v, genFold iter X.env v = pure v) (hn : n ≠ "__name__" := by decide) (hdb : (n == ("__debug__" : Str)) = false := by decide)
    (he : starEach [gE elt iter [.Name xa qa, .Name xb qb, .Name xc qc] kt qt [tst] scope gpos] X.env = (false, eval (gE elt iter [.Name xa qa, .Name xb qb, .Name xc qc] kt qt [tst] scope gpos) X.env) :: starEach [] X.env := by rfl) :
    PE X (.Call (.Name n p) [gE elt iter [.Name xa qa, .Name xb qb, .Name xc qc] kt qt [tst] scope gpos] [] pos) (tGenTF P X.K rd rt res te) := by
  refine ⟨fun pins s σ H Q I h => ?_⟩
  refine wpAny_Call_Name_kw (ld_blt I hg hm hb ?_ hn hdb)
  refine PyProof.Rows.callWith_builtin1 ?_ he (by rfl)
  rw [he]
  refine Calls.spliced_cons (gen_tgtF hr TB hcode S hi hs I h fun v H1 all1 => ?_)
  obtain ⟨⟨ps, hP, trip⟩, a, xs, tp, g, pz, rfl, sq, hpr, l3, tss, els, rz⟩ := all1
  refine ⟨⟨ps, hP, trip⟩, fun s1 xv I1 rel => ?_⟩
  cases rel
  obtain ⟨vals, hv, walk⟩ := walk_tr I1 hP sq hpr
  refine ⟨_, _, _, pz, _, walk, fun C code bi => stores3 S.kind la lb lc ab ac bc fun i li => ?_, tst_named hts I1 hP hv tss, elf_named hel I1 hP hv els, fun ga t rdy => ?_⟩
  · rw [← (hv i li).length]; exact l3 i li
  obtain ⟨fp, wr, G, F', St, W, hF, st, bnd, fin⟩ := rdy
  refine Calls.spliced_nil ?_
  refine hf rz (by rw [List.length_replicate]; exact W) (fun j y hy => ?_) st bnd fun r y t' hZ ry mv => ?_
  · obtain ⟨i, hi, _, r⟩ := hF j y hy
    obtain ⟨hj, ej⟩ := List.getElem?_eq_some_iff.mp hi
    refine ⟨by rw [List.length_replicate]; exact hj, ?_⟩
    show RelV (g ((passing pz xs.length 0).getD j 0)) y
    rw [List.getD_eq_getElem?_getD, hi]
    exact r
  · obtain ⟨H2, tb, J⟩ := fin t' mv
    exact ⟨r, H2, J, ry, hZ H2 tb⟩
end
end Gf

namespace Lz
open PySem PySem.Spec PyProof.Rows L2 GxR
/-! ### list(zip(a, b)) of two lists -/
theorem in5 {b z TO i1 i2 S : Addr} (q : b ∈ [z, TO, i1, i2]) : b ∈ [z, TO, i1, i2, S] := by
  simp only [List.mem_cons, List.not_mem_nil, or_false] at q ⊢
  rcases q with h | h | h | h <;> simp [h]
theorem in7 {b z TI TO i1 i2 l1 l2 : Addr} (q : b ∈ [z, TO, i1, i2]) : b ∈ [z, TI, TO, i1, i2, l1, l2] := by
  simp only [List.mem_cons, List.not_mem_nil, or_false] at q ⊢
  rcases q with h | h | h | h <;> simp [h]
structure ZG (xs ys : Array Value) (lo : Addr) (h : Heap) (ts : List Addr) : Prop where
  rise : ts.Pairwise (· < ·)
  above : ∀ a ∈ ts, lo < a
  pairs : ∀ (j : Nat) (a : Addr), ts[j]? = some a → ∃ x y, xs[j]? = some x ∧ ys[j]? = some y ∧ h.get? a = some { cls := .type "tuple", data := .seq #[x, y] }
theorem ZG.there {xs ys : Array Value} {lo : Addr} {h : Heap} {ts : List Addr} (g : ZG xs ys lo h ts) {a : Addr} (ha : a ∈ ts) : a < h.objs.size := by
  obtain ⟨j, hj⟩ := List.mem_iff_getElem?.mp ha
  obtain ⟨_, _, _, _, e⟩ := g.pairs j a hj
  exact Heap.lt_size e
/-- the zip z over the lists l1, l2, i turns done; S is not among its things -/
structure ZS (h : Heap) (S z TI TO i1 i2 l1 l2 : Addr) (xs ys : Array Value) (i : Nat) : Prop where
  ti : IsPair h TI (.ref i1) (.ref i2)
  it1 : h.IsListIter i1 l1 i
  it2 : h.IsListIter i2 l2 i
  li1 : h.IsList l1 xs
  li2 : h.IsList l2 ys
  st : (IsZip h z TI TO .none ∧ ∃ a b, IsPair h TO a b) ∨ ∃ T f oT, IsZipHeld h z TI TO T f ∧ h.get? T = some oT ∧ T ≠ z ∧ T ≠ i1 ∧ T ≠ i2 ∧ T ≠ S
theorem ZS.keep {h h' : Heap} {S z TI TO i1 i2 l1 l2 : Addr} {xs ys : Array Value} {i : Nat} (x : ZS h S z TI TO i1 i2 l1 l2 xs ys i) (lt : ∀ b ∈ [z, TI, TO, i1, i2, l1, l2], b < S) (k : ∀ b o, b ≠ S → h.get? b = some o → h'.get? b = some o) : ZS h' S z TI TO i1 i2 l1 l2 xs ys i := by
  have ne : ∀ b ∈ [z, TI, TO, i1, i2, l1, l2], b ≠ S := fun b hb => Nat.ne_of_lt (lt b hb)
  refine ⟨k _ _ (ne _ (by simp)) x.ti, x.it1.at fun o e => k _ o (ne _ (by simp)) e, x.it2.at fun o e => k _ o (ne _ (by simp)) e, x.li1.at fun o e => k _ o (ne _ (by simp)) e, x.li2.at fun o e => k _ o (ne _ (by simp)) e, ?_⟩
  rcases x.st with ⟨a, b, c, d⟩ | ⟨T, f, oT, a, b, c1, c2, c3, c4⟩
  · exact .inl ⟨k _ _ (ne _ (by simp)) a, b, c, k _ _ (ne _ (by simp)) d⟩
  · exact .inr ⟨T, f, oT, k _ _ (ne _ (by simp)) a, k _ _ c4 b, c1, c2, c3, c4⟩
section
variable {prog : Program} {w : World} {A : Around} {E : Value → Shared → Prop} {s : Shared}
theorem zs_item {S z TI TO i1 i2 l1 l2 : Addr} {xs ys : Array Value} {i : Nat} {x y : Value} {Q : Option Value → Shared → Prop} (D : ZipApart z TI TO i1 i2 l1 l2) (Z : ZS s.heap S z TI TO i1 i2 l1 l2 xs ys i) (hS : S < s.heap.objs.size) (hx : xs[i]? = some x) (hy : ys[i]? = some y)
    (hQ : ∀ h', ZS h' S z TI TO i1 i2 l1 l2 xs ys (i + 1) → h'.get? s.heap.objs.size = some { cls := .type "tuple", data := .seq #[x, y] } → h'.objs.size = s.heap.objs.size + 1 → (∀ b o, b ∉ [z, TO, i1, i2] → s.heap.get? b = some o → h'.get? b = some o) → Q (some (.ref s.heap.objs.size)) { s with heap := h' }) :
    wpAny (model prog w) A (pyNext (.ref z)) Q E s := by
  obtain ⟨hTI, h1, h2, hl1, hl2, hz⟩ := Z
  have lt : ∀ {c : Addr} {o : Obj}, s.heap.get? c = some o → s.heap.objs.size ≠ c := fun e => Nat.ne_of_gt (Heap.lt_size e)
  have n1 : s.heap.objs.size ≠ i1 := let ⟨_, e, _⟩ := h1; lt e
  have n2 : s.heap.objs.size ≠ i2 := let ⟨_, e, _⟩ := h2; lt e
  rcases hz with ⟨hz, a, b, hTO⟩ | ⟨T, f, oT, hz, hT, r1, r2, r3, r4⟩
  · refine wpAny_pyNext_zip_item D hz hTI hTO h1 h2 hl1 hl2 hx hy fun h' a1 a2 a3 a4 a5 a6 hk => ?_
    exact hQ h' ⟨hk _ _ D.TIz D.TITO D.TIi1 D.TIi2 hTI, a3, a4, hl1.at fun o e => hk _ o D.l1z D.l1TO D.l1i1 D.l1i2 e, hl2.at fun o e => hk _ o D.l2z D.l2TO D.l2i1 D.l2i2 e, .inr ⟨s.heap.objs.size, false, _, a1, a5, lt hz, n1, n2, Nat.ne_of_gt hS⟩⟩ a5 a6
      fun c o hc e => hk c o (fun x => hc (by simp [x])) (fun x => hc (by simp [x])) (fun x => hc (by simp [x])) (fun x => hc (by simp [x])) e
  · refine wpAny_pyNext_zip_item_held D hz hT hTI h1 h2 hl1 hl2 hx hy fun h' a1 a3 a4 a5 a6 hk => ?_
    exact hQ h' ⟨hk _ _ D.TIz D.TIi1 D.TIi2 hTI, a3, a4, hl1.at fun o e => hk _ o D.l1z D.l1i1 D.l1i2 e, hl2.at fun o e => hk _ o D.l2z D.l2i1 D.l2i2 e, .inr ⟨T, true, oT, a1, hk _ _ r1 r2 r3 hT, r1, r2, r3, r4⟩⟩ a5 a6
      fun c o hc e => hk c o (fun x => hc (by simp [x])) (fun x => hc (by simp [x])) (fun x => hc (by simp [x])) e
theorem zs_end {S z TI TO i1 i2 l1 l2 : Addr} {xs ys : Array Value} {i : Nat} {Q : Option Value → Shared → Prop} (hh : A.handled = none) (D : ZipApart z TI TO i1 i2 l1 l2) (Z : ZS s.heap S z TI TO i1 i2 l1 l2 xs ys i) (hx : xs[i]? = none ∨ ys[i]? = none)
    (hQ : ∀ h', (∀ b o, b ∉ [z, TO, i1, i2] → s.heap.get? b = some o → h'.get? b = some o) → Q none { s with heap := h' }) : wpAny (model prog w) A (pyNext (.ref z)) Q E s := by
  obtain ⟨hTI, h1, h2, hl1, hl2, hz⟩ := Z
  rcases hz with ⟨hz, a, b, hTO⟩ | ⟨T, f, oT, hz, hT, r1, r2, r3, r4⟩
  · exact wpAny_pyNext_zip_end hh D hz hTI hTO h1 h2 hl1 hl2 hx fun h' hk => hQ h' fun c o hc e => hk c o (fun x => hc (by simp [x])) (fun x => hc (by simp [x])) (fun x => hc (by simp [x])) (fun x => hc (by simp [x])) e
  · exact wpAny_pyNext_zip_end_held hh D hz hT hTI h1 h2 hl1 hl2 hx fun h' hk => hQ h' fun c o hc e => hk c o (fun x => hc (by simp [x])) (fun x => hc (by simp [x])) (fun x => hc (by simp [x])) e
theorem zl_loop {S z TI TO i1 i2 l1 l2 : Addr} {xs ys : Array Value} {R : Result → Shared → Prop} (hh : A.handled = none) (D : ZipApart z TI TO i1 i2 l1 l2) (lt : ∀ b ∈ [z, TI, TO, i1, i2, l1, l2], b < S) (hxy : xs.size = ys.size) (hn : xs.size ≤ sizeLine) (res : Value) {h₁ : Heap} (new : ∀ b ∈ [z, TO, i1, i2, S], h₁.objs.size ≤ b)
    (hR : ∀ h' tk acc c ts, (∀ b o, h₁.get? b = some o → h'.get? b = some o) → h'.get? S = some { cls := .type "list", dict := none, data := .seq acc c, slots := #[] } → ts.length = xs.size → ZG xs ys S h' ts → acc.toList = ts.map Value.ref → R (.ok (.ret res)) { s with heap := h', toks := tk }) :
    ∀ (k i : Nat) (h : Heap) (tk c : Nat) (acc : Array Value) (ts : List Addr), xs.size - i = k → i ≤ xs.size → ZS h S z TI TO i1 i2 l1 l2 xs ys i → (∀ b o, h₁.get? b = some o → h.get? b = some o) →
      h.get? S = some { cls := .type "list", dict := none, data := .seq acc c, slots := #[] } → acc.toList = ts.map Value.ref → ts.length = i → ZG xs ys S h ts →
      codeAny (model prog w) A (.builtin "list.extend.loop" ⟨[.ref S, .ref z, res], []⟩) R { s with heap := h, toks := tk } := by
  have low : ∀ b o, h₁.get? b = some o → b ∉ [z, TO, i1, i2] ∧ b ≠ S := fun b o e => ⟨fun q => absurd (Heap.lt_size e) (Nat.not_lt.mpr (new b (in5 q))), fun q => absurd (Heap.lt_size e) (Nat.not_lt.mpr (new b (by simp [q])))⟩
  have nS : S ∉ [z, TO, i1, i2] := fun q => Nat.lt_irrefl S (lt S (in7 q))
  have far : ∀ {h : Heap} {ts : List Addr}, ZG xs ys S h ts → ∀ a ∈ ts, a ∉ [z, TO, i1, i2] ∧ a ≠ S := fun g a ha => ⟨fun q => absurd (g.above a ha) (Nat.not_lt.mpr (Nat.le_of_lt (lt a (in7 q)))), Nat.ne_of_gt (g.above a ha)⟩
  intro k
  induction k with
  | zero =>
    intro i h tk c acc ts hk hi hst hkeep hS hacc hal hG
    refine codeAny_builtin PySem.F.entry_extend_loop ?_
    rw [Around.under_plainId PySem.F.plain_extend_loop _]
    show wpAny _ A.in1 (pyNext (.ref z) >>= _) _ _ _
    refine wpAny_bind (zs_end (s := { s with heap := h, toks := tk }) (A := A.in1) hh D hst (.inl (by rw [Array.getElem?_eq_none (by omega)])) fun h' he => ?_)
    refine wpAny_pure (hR h' tk acc c ts (fun b o e => he b o (low b o e).1 (hkeep b o e)) (he S _ nS hS) (by omega) ⟨hG.rise, hG.above, fun j a hj => ?_⟩ hacc)
    obtain ⟨x, y, e1, e2, e3⟩ := hG.pairs j a hj
    exact ⟨x, y, e1, e2, he a _ (far hG a (List.mem_of_getElem? hj)).1 e3⟩
  | succ k ih =>
    intro i h tk c acc ts hk hi hst hkeep hS hacc hal hG
    have hlt : i < xs.size := by omega
    have hx := Array.getElem?_eq_getElem hlt
    have hy := Array.getElem?_eq_getElem (show i < ys.size by omega)
    have hsz : acc.size = i := by rw [← Array.length_toList, hacc, List.length_map, hal]
    have hSl : S < h.objs.size := Heap.lt_size hS
    refine codeAny_builtin PySem.F.entry_extend_loop ?_
    rw [Around.under_plainId PySem.F.plain_extend_loop _]
    show wpAny _ A.in1 (pyNext (.ref z) >>= _) _ _ _
    refine wpAny_bind (zs_item (s := { s with heap := h, toks := tk }) D hst hSl hx hy fun h' hst' ht hz hkp => ?_)
    dsimp only at ht hz hkp ⊢
    have hS' := hkp S _ nS hS
    have up : ∀ b o, b ≠ S → h'.get? b = some o → (h'.update S (Obj.mapSeq (·.push (Value.ref h.objs.size)))).get? b = some o := fun b o hb e => (Heap.get?_update_other _ _ (Ne.symm hb)).trans e
    show wpAny _ A.in1 (updateSeq S (·.push (Value.ref h.objs.size)) >>= _) _ _ _
    refine wpAny_bind ?_
    refine wpAny_updateSeq hS' rfl (wpAny_pure ⟨plainId_quiet PySem.F.plain_extend_loop _, ih (i + 1) _ tk _ (acc.push (Value.ref h.objs.size)) (ts ++ [h.objs.size]) (by omega) hlt (hst'.keep lt up)
      (fun b o e => up b o (low b o e).2 (hkp b o (low b o e).1 (hkeep b o e))) (Heap.get?_update_self _ hS' rfl) (by rw [Array.toList_push, hacc, List.map_append]; rfl) (by rw [List.length_append, hal]; rfl) ⟨?_, ?_, ?_⟩⟩) (by rw [hsz]; omega) (by show (acc.push (Value.ref h.objs.size)).size ≤ sizeLine + 1; rw [Array.size_push, hsz]; omega)
    · refine List.pairwise_append.mpr ⟨hG.rise, List.pairwise_singleton _ _, fun a ha b hb => ?_⟩
      rw [List.mem_singleton.mp hb]
      exact hG.there ha
    · intro a ha
      rcases List.mem_append.mp ha with q | q
      · exact hG.above a q
      · rw [List.mem_singleton.mp q]; exact hSl
    · intro j a hj
      by_cases hjl : j < ts.length
      · rw [List.getElem?_append_left hjl] at hj
        obtain ⟨x, y, e1, e2, e3⟩ := hG.pairs j a hj
        obtain ⟨f1, f2⟩ := far hG a (List.mem_of_getElem? hj)
        exact ⟨x, y, e1, e2, up a _ f2 (hkp a _ f1 e3)⟩
      · have hl := (List.getElem?_eq_some_iff.mp hj).1
        rw [List.length_append, List.length_singleton] at hl
        obtain rfl : j = i := by omega
        rw [List.getElem?_append_right (by omega), hal, Nat.sub_self] at hj
        cases hj
        exact ⟨_, _, hx, hy, up _ _ (Nat.ne_of_gt hSl) ht⟩
theorem zip_no_len : typeLookup (.type "zip") "__len__" = pure none := am_miss_of_fast (by decide +kernel)
theorem zip_no_hint : typeLookup (.type "zip") "__length_hint__" = pure none := am_miss_of_fast (by decide +kernel)
theorem zl_call {z TI TO i1 i2 l1 l2 : Addr} {xs ys : Array Value} {Q : Value → Shared → Prop} (hh : A.handled = none) (D : ZipApart z TI TO i1 i2 l1 l2) {h₁ : Heap} (new : ∀ b ∈ [z, TO, i1, i2], h₁.objs.size ≤ b) (old : ∀ b o, h₁.get? b = some o → s.heap.get? b = some o) (hxy : xs.size = ys.size) (hn : xs.size ≤ sizeLine)
    (hz : IsZip s.heap z TI TO .none) (hTI : IsPair s.heap TI (.ref i1) (.ref i2)) (hTO : ∃ a b, IsPair s.heap TO a b) (h1 : s.heap.IsListIter i1 l1 0) (h2 : s.heap.IsListIter i2 l2 0) (hl1 : s.heap.IsList l1 xs) (hl2 : s.heap.IsList l2 ys) (hle : h₁.objs.size ≤ s.heap.objs.size)
    (hR : ∀ h' tk acc c ts, (∀ b o, h₁.get? b = some o → h'.get? b = some o) → h'.get? s.heap.objs.size = some { cls := .type "list", dict := none, data := .seq acc c, slots := #[] } → ts.length = xs.size → ZG xs ys s.heap.objs.size h' ts → acc.toList = ts.map Value.ref → Q (.ref s.heap.objs.size) { s with heap := h', toks := tk }) :
    wpAny (model prog w) A (call (.type "list") [.ref z]) Q E s := by
  have lt : ∀ b ∈ [z, TI, TO, i1, i2, l1, l2], b < s.heap.objs.size := fun b hb => by
    obtain ⟨a, b', hTO⟩ := hTO
    obtain ⟨o1, g1, _⟩ := h1
    obtain ⟨o2, g2, _⟩ := h2
    obtain ⟨o3, g3, _⟩ := hl1
    obtain ⟨o4, g4, _⟩ := hl2
    simp only [List.mem_cons, List.not_mem_nil, or_false] at hb
    rcases hb with rfl | rfl | rfl | rfl | rfl | rfl | rfl
    all_goals first | exact Heap.lt_size hz | exact Heap.lt_size hTI | exact Heap.lt_size hTO | exact Heap.lt_size g1 | exact Heap.lt_size g2 | exact Heap.lt_size g3 | exact Heap.lt_size g4
  refine callType_codes (Q₁ := fun obj s₁ => obj = .ref s.heap.objs.size ∧ s₁ = { s with heap := s.heap.push { cls := .type "list", data := .seq #[] } }) PySem.F.called_list (PySem.F.typeCall_list_1 _) PySem.F.entry_list_init
    (code_list_new _ ⟨rfl, rfl⟩) fun obj s₁ q₁ => ?_
  obtain ⟨rfl, rfl⟩ := q₁
  have hS : (s.heap.push { cls := .type "list", data := .seq #[] }).get? s.heap.objs.size = some { cls := .type "list", data := .seq #[] } := Heap.get?_push_size _ rfl
  have hSz : s.heap.objs.size ≠ z := Nat.ne_of_gt (lt z (by simp))
  refine ⟨⟨_, hS, rfl⟩, PySem.F.args_list_init_2 _ _, ?_⟩
  show wpAny _ A.in1.in1 (do let old ← Builtin.List.listItems (.ref s.heap.objs.size); Builtin.List.listUpdate (.ref s.heap.objs.size) (fun _ => #[]); letGo old.toList.reverse; Builtin.List.listExtendWith (.ref s.heap.objs.size) (.ref z) .none) _ _ _
  refine wpAny_bind ?_
  unfold Builtin.List.listItems
  refine wpAny_bind (wpAny_seqItems hS rfl (wpAny_pure ?_))
  show wpAny _ A.in1.in1 (updateSeq s.heap.objs.size (fun _ => #[]) >>= fun _ => letGo (#[] : Array Value).toList.reverse >>= fun _ => Builtin.List.listExtendWith (.ref s.heap.objs.size) (.ref z) .none) _ _ _
  refine wpAny_bind (wpAny_updateSeq hS rfl ?_)
  have hS2 := Heap.get?_update_self (Obj.mapSeq (fun _ => (#[] : Array Value))) hS rfl
  refine wpAny_bind (wpAny_letGo ?_)
  unfold Builtin.List.listExtendWith
  have up : ∀ (h : Heap) (f : Obj → Obj), (∀ b o, s.heap.get? b = some o → h.get? b = some o) → ∀ b o, s.heap.get? b = some o → (h.update s.heap.objs.size f).get? b = some o := fun h f q b o e =>
    (Heap.get?_update_other _ _ (Ne.symm (Nat.ne_of_lt (Heap.lt_size e)))).trans (q b o e)
  have k1 : ∀ b o, s.heap.get? b = some o → (s.heap.push { cls := .type "list", data := .seq #[] }).get? b = some o := fun b o e => Heap.get?_push_of_some _ e
  have k2 := up _ (Obj.mapSeq (fun _ => (#[] : Array Value))) k1
  have hTy : ∀ {t : Shared}, (∀ b o, s.heap.get? b = some o → t.heap.get? b = some o) → t.TypeIs (.ref z) "zip" := fun {t} q => ⟨_, q _ _ hz, rfl⟩
  refine wpAny_bind (wpAny_typeOf (hTy k2) ?_)
  have e1 : Builtin.List.listSameRef (.ref s.heap.objs.size) (.ref z) = false := by simp [Builtin.List.listSameRef, hSz]
  have e2 : (Value.type "zip" == Value.type "list") = false := by decide
  have e3 : (Value.type "zip" == Value.type "tuple") = false := by decide
  simp only [e1, e2, e3, Bool.or_false, Bool.false_eq_true, if_false]
  refine wpAny_bind (wpAny_pyIter_zip (k2 _ _ hz) ?_)
  refine wpAny_bind (wpAny_holding ?_)
  unfold Builtin.List.listLengthHint
  refine wpAny_bind (wpAny_specialOf (hTy k2) zip_no_len ?_)
  show wpAny _ A.in1.in1 (specialOf (Value.ref z) (Str.ofString "__length_hint__") >>= _) _ _ _
  refine wpAny_bind (wpAny_specialOf (hTy k2) zip_no_hint ?_)
  refine wpAny_pure ?_
  show wpAny _ A.in1.in1 (rule "list.extend.makes-room" >>= fun _ => Builtin.List.listTouch (.ref s.heap.objs.size) >>= fun _ =>
    again (.builtin "list.extend.loop" ⟨[.ref s.heap.objs.size, .ref z, .none], []⟩)) _ _ _
  refine wpAny_bind (wpAny_rule ?_)
  refine wpAny_bind ?_
  show wpAny _ A.in1.in1 (updateSeq s.heap.objs.size (·.push .none) >>= fun _ => updateSeq s.heap.objs.size (·.pop)) _ _ _
  refine wpAny_bind (wpAny_updateSeq hS2 rfl ?_)
  have hS3 := Heap.get?_update_self (Obj.mapSeq (·.push Value.none)) hS2 rfl
  refine wpAny_updateSeq (hz := by seq_fits) hS3 rfl ?_
  have hS4 := Heap.get?_update_self (Obj.mapSeq (·.pop)) hS3 rfl
  have k4 := up _ (Obj.mapSeq (·.pop)) (up _ (Obj.mapSeq (·.push Value.none)) k2)
  refine wpAny_pure ⟨plainId_quiet PySem.F.plain_extend_loop _, ?_⟩
  refine zl_loop (s := s) (A := A.in1) (h₁ := h₁) hh D lt hxy hn .none (fun b hb => ?_) (fun h' tk acc c ts q1 q2 q3 q4 q5 => ⟨rfl, hR h' tk acc c ts q1 q2 q3 q4 q5⟩) xs.size 0 _ s.toks _ #[] [] (Nat.sub_zero _) (Nat.zero_le _)
    ⟨k4 _ _ hTI, h1.at fun o e => k4 _ o e, h2.at fun o e => k4 _ o e, hl1.at fun o e => k4 _ o e, hl2.at fun o e => k4 _ o e, .inl ⟨k4 _ _ hz, let ⟨a, b, e⟩ := hTO; ⟨a, b, k4 _ _ e⟩⟩⟩ (fun b o e => k4 b o (old b o e)) hS4 rfl rfl ⟨List.Pairwise.nil, (fun _ ha => nomatch ha), (fun j a hj => by simp at hj)⟩
  rcases (show b ∈ [z, TO, i1, i2] ∨ b = s.heap.objs.size by
    simp only [List.mem_cons, List.not_mem_nil, or_false] at hb ⊢
    rcases hb with h | h | h | h | h <;> simp [h]) with q | q
  · exact new b q
  · rw [q]; exact hle
end
def putZ (H : Hp) : List Addr → List (V × V) → Hp
  | t :: ts, p :: ps => L2.upd (putZ H ts ps) t (.tup [p.1, p.2])
  | _, _ => H
theorem refs_vals : ∀ ts : List Addr, Vals (ts.map V.ref) (ts.map Value.ref)
  | [] => .nil
  | _ :: ts => .cons rfl (refs_vals ts)
theorem putZ_off {H : Hp} {a : Addr} : ∀ {ts : List Addr} {ps : List (V × V)}, a ∉ ts → putZ H ts ps a = H a
  | [], _, _ => by simp [putZ]
  | _ :: _, [], _ => by simp [putZ]
  | t :: ts, p :: ps, h => by
    unfold putZ
    rw [upd_ne (fun e => h (by rw [e]; exact List.mem_cons_self))]
    exact putZ_off fun q => h (List.mem_cons_of_mem _ q)
theorem putZ_at {H : Hp} : ∀ {ts : List Addr} {ps : List (V × V)} {j : Nat} {t : Addr} {p : V × V}, ts.Nodup → ts[j]? = some t → ps[j]? = some p → putZ H ts ps t = some (.tup [p.1, p.2])
  | [], _, _, _, _, _, h, _ => by simp at h
  | _ :: _, [], _, _, _, _, _, h => by simp at h
  | t :: ts, p :: ps, 0, u, q, _, h1, h2 => by
    cases h1
    cases h2
    unfold putZ
    exact upd_same
  | t :: ts, p :: ps, j + 1, u, q, nd, h1, h2 => by
    have h1' : ts[j]? = some u := h1
    have z := List.nodup_cons.mp nd
    unfold putZ
    rw [upd_ne (fun e => z.1 (by rw [← e]; exact List.mem_of_getElem? h1'))]
    exact putZ_at z.2 h1' h2
section
variable {X : Cx} {pins : List (Addr × Obj)} {σ : L2.St} {H : Hp} {s : Shared}
theorem zip_laid {h' : Heap} {tk : Nat} {S : Addr} {xs ys : List V} {us vs : List Value} {acc : Array Value} {c : Nat} {ts : List Addr} (I : Inv X pins σ H s) (rx : Vals xs us) (ry : Vals ys vs) (hlen : xs.length = ys.length) (hz : xs.length ≤ sizeLine) (hle : s.heap.objs.size ≤ S)
    (hk : ∀ b o, s.heap.get? b = some o → h'.get? b = some o) (hS : h'.get? S = some { cls := .type "list", dict := none, data := .seq acc c, slots := #[] }) (hl : ts.length = us.toArray.size) (hG : ZG us.toArray vs.toArray S h' ts) (hacc : acc.toList = ts.map Value.ref) :
    ∃ H' : Hp, (∀ b o, H b = some o → H' b = some o) ∧ H S = none ∧ H' S = some (.lst (ts.map V.ref)) ∧ ts.length = xs.length ∧ (∀ (j : Nat) (t : Addr), ts[j]? = some t → ∃ x y, xs[j]? = some x ∧ ys[j]? = some y ∧ H' t = some (.tup [x, y])) ∧ Inv X pins σ H' { s with heap := h', toks := tk } := by
  have lx : ts.length = xs.length := by rw [hl, rx.length]; simp
  have lz : (xs.zip ys).length = ts.length := by rw [List.length_zip, ← hlen, Nat.min_self, lx]
  have hSn : S ∉ ts := fun z => Nat.lt_irrefl _ (hG.above _ z)
  have nd : ts.Nodup := List.Pairwise.imp (fun {a b} (h : a < b) => Nat.ne_of_lt h) hG.rise
  have new : ∀ t ∈ ts, H t = none := fun t ht => I.hok.fresh (Nat.le_trans hle (Nat.le_of_lt (hG.above t ht)))
  have newS : H S = none := I.hok.fresh hle
  have off : ∀ b, b ∉ ts → b ≠ S → putZ (L2.upd H S (.lst (ts.map V.ref))) ts (xs.zip ys) b = H b := fun b h1 h2 => by rw [putZ_off h1, upd_ne h2]
  have low : ∀ b o, s.heap.get? b = some o → b ∉ ts ∧ b ≠ S := fun b o e => ⟨fun z => absurd (Heap.lt_size e) (Nat.not_lt.mpr (Nat.le_trans hle (Nat.le_of_lt (hG.above b z)))), Nat.ne_of_lt (Nat.lt_of_lt_of_le (Heap.lt_size e) hle)⟩
  have kp : ∀ b u, H b = some u → (putZ (L2.upd H S (.lst (ts.map V.ref))) ts (xs.zip ys)) b = some u := fun b u e => by
    rw [off b (fun z => by rw [new b z] at e; cases e) (fun z => by rw [z, newS] at e; cases e)]
    exact e
  have eS : putZ (L2.upd H S (.lst (ts.map V.ref))) ts (xs.zip ys) S = some (.lst (ts.map V.ref)) := by rw [putZ_off hSn, upd_same]
  have at_ : ∀ (j : Nat) (t : Addr), ts[j]? = some t → ∃ x y, xs[j]? = some x ∧ ys[j]? = some y ∧ putZ (L2.upd H S (.lst (ts.map V.ref))) ts (xs.zip ys) t = some (.tup [x, y]) := fun j t e => by
    have hj : j < ts.length := (List.getElem?_eq_some_iff.mp e).1
    have hx : xs[j]? = some xs[j] := List.getElem?_eq_getElem (by omega)
    have hy : ys[j]? = some ys[j] := List.getElem?_eq_getElem (by omega)
    exact ⟨_, _, hx, hy, putZ_at (p := (xs[j], ys[j])) nd e (by rw [List.getElem?_zip_eq_some]; exact ⟨hx, hy⟩)⟩
  refine ⟨_, kp, newS, eS, lx, at_, ?_⟩
  refine I.call' (ch := []) rfl ⟨fun b o q _ _ _ => hk b o q, fun b o q _ _ _ => ⟨o.slots, hk b o q⟩, fun b o q n _ => ?_, fun b o q _ => ⟨o, hk b o q⟩, fun b xs q => kp b _ q, fun b o u q => kp b _ q, fun b ps q => ⟨#[], by rw [kp b _ q]; simp⟩⟩ (fun b u q => ?_) I.bare fun b z => by simp at z
  · obtain ⟨z1, z2⟩ := low b o q
    rw [off b z1 z2]
    exact n
  · by_cases hb : b ∈ ts
    · obtain ⟨j, e1⟩ := List.mem_iff_getElem?.mp hb
      obtain ⟨x, y, f1, f2, f3⟩ := at_ j b e1
      rw [f3] at q
      cases q
      obtain ⟨u, v, g1, g2, g3⟩ := hG.pairs j b e1
      obtain ⟨u', w1, w2⟩ := rx.get f1
      obtain ⟨v', w3, w4⟩ := ry.get f2
      rw [List.getElem?_toArray, w1] at g1
      rw [List.getElem?_toArray, w3] at g2
      cases g1
      cases g2
      exact ⟨by show 2 ≤ sizeLine; decide, [u, v], .cons w2 (.cons w4 .nil), ⟨_, g3, rfl, _, rfl⟩⟩
    · by_cases hb2 : b = S
      · rw [hb2] at q ⊢
        rw [eS] at q
        cases q
        refine ⟨by rw [List.length_map]; omega, acc.toList, c, by rw [hacc]; exact refs_vals ts, ?_⟩
        rw [Array.toArray_toList]
        exact hS
      · rw [off b hb hb2] at q
        exact (I.hok b u q).stay (fun d v _ y => hk d v y) (fun d y => kp d _ y) fun d xs y => kp d _ y
/-- list(zip(a, b)) of two lists of the same length -/
def tListZip (K : PySem.W.Frag) (ta : TA) : TE := fun σ H Q => ta σ H fun vs H1 => ∃ (a b : Addr) (xs ys : List V), vs = [.ref a, .ref b] ∧ SqL K H1 a xs ∧ SqL K H1 b ys ∧ xs.length = ys.length ∧
  ∀ (S : Addr) (ts : List Addr) (H2 : Hp), (∀ b o, H1 b = some o → H2 b = some o) → H1 S = none → H2 S = some (.lst (ts.map V.ref)) → ts.length = xs.length → (∀ (j : Nat) (t : Addr), ts[j]? = some t → ∃ x y, xs[j]? = some x ∧ ys[j]? = some y ∧ H2 t = some (.tup [x, y])) → Q (.ref S) H2
theorem pe_listZip {a b : Expr} {ta : TA} {p q pos cpos : Pos} (hc : X.calm = true) (hg : Gl X "list") (hm : X.mg "list" = none) (hg2 : Gl X "zip") (hm2 : X.mg "zip" = none) (ha : PA X [a, b] ta)
    (hs : starEach [.Call (.Name "zip" q) [a, b] [] cpos] X.env = (false, eval (.Call (.Name "zip" q) [a, b] [] cpos) X.env) :: starEach [] X.env := by rfl)
    (hs2 : starEach [a, b] X.env = (false, eval a X.env) :: starEach [b] X.env := by rfl) (hpl : (backTo cpos (starEach [b] X.env)).any (·.1) = false := by rfl) :
    PE X (.Call (.Name "list" p) [.Call (.Name "zip" q) [a, b] [] cpos] [] pos) (tListZip X.K ta) := by
  refine ⟨fun pins s σ H Q I hq => ?_⟩
  refine wpAny_Call_Name_kw (ld_blt I hg hm (show bootBuiltins "list" = some (.type "list") by decide +kernel) ?_)
  refine PyProof.Rows.callWith_type1 ?_ hs rfl
  rw [hs]
  show wpAny _ _ (spliced ((false, eval (.Call (.Name "zip" q) [a, b] [] cpos) X.env) :: backTo pos (starEach [] X.env))) _ _ s
  refine Calls.spliced_cons ?_
  refine Call_ (ld_blt I hg2 hm2 PyProof.Rows.boot_zip (PyProof.Rows.callWith_type1 (thn (ha.run cpos pins s σ H _ I hq) fun us s1 ⟨vs, H1, I1, r1, q1⟩ => ?_) hs2 hpl))
  obtain ⟨a, b, xs, ys, ex, hqx, hqy, hlen, q⟩ := q1
  subst ex
  cases r1 with
  | cons r rr =>
    cases rr with
    | cons r' rr =>
      cases rr
      cases r
      cases r'
      obtain ⟨its, rv, p1, hz1⟩ := I1.list hqx
      obtain ⟨its2, rv2, p2, _⟩ := I1.list hqy
      have la : a < s1.heap.objs.size := p1.lt
      have lb : b < s1.heap.objs.size := p2.lt
      refine call_zip_2 p1.isList p2.isList fun h' hz hTI hTO h1 h2 hsz hk => ?_
      refine Calls.spliced_nil ?_
      have l1 := rv.length
      have l2 := rv2.length
      refine zl_call (s := { s1 with heap := h' }) (h₁ := s1.heap) (I1.ok.hd hc) (PySem.W.ktu_apart s1.heap.objs.size a b la lb) (fun c hcm => ?_) hk (by simp; omega) (by simp; omega) hz hTI ⟨_, _, hTO⟩ h1 h2 (p1.isList.at fun o e => hk _ o e) (p2.isList.at fun o e => hk _ o e) (by show s1.heap.objs.size ≤ h'.objs.size; omega) fun h2' tk acc c ts k1 k2 k3 k4 k5 => ?_
      · have e' : c = s1.heap.objs.size + 4 ∨ c = s1.heap.objs.size + 3 ∨ c = s1.heap.objs.size ∨ c = s1.heap.objs.size + 1 := by simpa using hcm
        rcases e' with z | z | z | z
        · rw [z]; exact Nat.le_add_right _ _
        · rw [z]; exact Nat.le_add_right _ _
        · rw [z]; exact Nat.le_refl _
        · rw [z]; exact Nat.le_add_right _ _
      · obtain ⟨H', m1, m2, m3, m4, m5, J⟩ := zip_laid (tk := tk) (S := h'.objs.size) I1 rv rv2 hlen hz1 (by omega) k1 k2 k3 k4 k5
        exact ⟨.ref _, H', J, rfl, q _ ts H' m1 m2 m3 m4 m5⟩
/-! ### d.update(e) of two dicts -/
def mrgK (kvs more : List (Key × V)) : List (Key × V) := more.foldl (fun acc kv => putK acc kv.1 kv.2) kvs
theorem mrg_kv : ∀ {more : List (Key × V)} {ms : List (Key × Value)} {kvs : List (Key × V)} {vs : List (Key × Value)}, KV kvs vs → KV more ms → KV (mrgK kvs more) (merged vs ms)
  | _, _, _, _, r, .nil => r
  | (k, v) :: more, (k', u) :: ms, kvs, vs, r, .cons q t => by
    obtain ⟨e, q⟩ := q
    have e' : k = k' := e
    subst e'
    exact mrg_kv (more := more) (ms := ms) (kvs := putK kvs k v) (vs := stored vs k u) (r.put k q) t
theorem mrg_len : ∀ (more kvs : List (Key × V)), (mrgK kvs more).length ≤ kvs.length + more.length
  | [], kvs => Nat.le_refl _
  | (k, v) :: more, kvs => by
    have := mrg_len more (putK kvs k v)
    have := length_putK kvs k v
    show (mrgK (putK kvs k v) more).length ≤ _
    simp only [List.length_cons]
    omega
def rUpd : V → List V → Hp → VK → Prop := fun x vs H Q => ∃ (d e : Addr) (kvs more : List (Key × V)), x = .ref d ∧ vs = [.ref e] ∧ d ≠ e ∧ H d = some (.dK kvs) ∧ H e = some (.dK more) ∧ kvs.length + more.length ≤ sizeLine ∧ Q .non (L2.upd H d (.dK (mrgK kvs more)))
theorem mt_update : MtR X "dict.update" rUpd := by
  intro pins s σ H x vs v us Q I rx rv h
  obtain ⟨d, e, kvs, more, rfl, rfl, ne, hd, he, hz, q⟩ := h
  cases rx
  obtain ⟨u, rfl, ru⟩ := Vals.one rv
  cases ru
  obtain ⟨z1, s1, vs1, r1, d1⟩ := dk_of I.hok hd
  obtain ⟨z2, s2, vs2, r2, d2⟩ := dk_of I.hok he
  have l1 := r1.length
  have l2 := r2.length
  refine call_meetsIn PySem.F.slot_dict_update d1.typeIs PySem.F.entry_dict_update (PySem.F.args_dict_update_2 _ _) (meets_dict_update (mixKind X.prog X.w) d e ne s2) ⟨vs1, vs2, d1, d2, by omega, fun h' hd' he' hs => ?_⟩
  have hl := mrg_len more kvs
  refine ⟨.non, _, d_write (t' := s.toks) I (by rw [hd]; exact True.intro) hs (let ⟨q, _, _, hq, _⟩ := hd'; ⟨q, hq⟩) (dk_new (by omega) s1 (mrg_kv r1 r2) hd'), rfl, q⟩
end
end Lz

namespace My
open PySem L2 GxR Gq Gn
section
variable {P : Program} {w : World} {K : PySem.W.Frag} {mg : Str → Option Value} {base : Heap}
def top (i : Nat) : Stmt := PySem.Challenge.pw_counthall_k35_weight_pieces.main.body.getD i (.Pass ⟨0, 0, 0, 0⟩)
abbrev s_untrue_weight : Stmt := top 1
abbrev s_weight_pieces : Stmt := top 2
abbrev s_even_runs : Stmt := top 3
abbrev s_law_source : Stmt := top 5
abbrev s_law_draw : Stmt := top 6
abbrev s_law_between : Stmt := top 7
abbrev s_law_whole : Stmt := top 8
abbrev s_law_estimates : Stmt := top 9
abbrev s_law_far : Stmt := top 10
abbrev s_law_moved : Stmt := top 11
abbrev s_law_marks : Stmt := top 12
abbrev s_law_untrue_mass : Stmt := top 13
abbrev s_law_end : Stmt := top 14
abbrev s_law_pieces : Stmt := top 15
abbrev s_law_same : Stmt := top 16
abbrev s_law : Stmt := top 17
theorem sc_untrue_weight : FnScope ["estimates", "value", "low", "high", "weight"] ["estimates", "value"] (defScope s_untrue_weight) := ⟨rfl, rfl, rfl, by decide +kernel, rfl, by decide +kernel, by decide +kernel⟩
theorem sc_weight_pieces : FnScope ["estimates", "first", "last", "pieces", "low", "high", "weight"] ["estimates", "first", "last"] (defScope s_weight_pieces) := ⟨rfl, rfl, rfl, by decide +kernel, rfl, by decide +kernel, by decide +kernel⟩
theorem sc_even_runs : FnScope ["estimates", "first", "last", "starts", "inner", "low", "_", "high", "start"] ["estimates", "first", "last"] (defScope s_even_runs) := ⟨rfl, rfl, rfl, by decide +kernel, rfl, by decide +kernel, by decide +kernel⟩
theorem sc_law_source : FnScope ["_law_script", "_law_place"] ["_law_script", "_law_place"] (defScope s_law_source) := ⟨rfl, rfl, rfl, by decide +kernel, rfl, by decide +kernel, by decide +kernel⟩
theorem sc_law_draw : FnScope ["_law_source_here", "_law_size", "_law_cell", "_law_mixed"] ["_law_source_here", "_law_size"] (defScope s_law_draw) := ⟨rfl, rfl, rfl, by decide +kernel, rfl, by decide +kernel, by decide +kernel⟩
theorem sc_law_between : FnScope ["_law_source_here", "_law_least", "_law_most"] ["_law_source_here", "_law_least", "_law_most"] (defScope s_law_between) := ⟨rfl, rfl, rfl, by decide +kernel, rfl, by decide +kernel, by decide +kernel⟩
theorem sc_law_whole : FnScope ["_law_actual"] ["_law_actual"] (defScope s_law_whole) := ⟨rfl, rfl, rfl, by decide +kernel, rfl, by decide +kernel, by decide +kernel⟩
theorem sc_law_estimates : FnScope ["_law_source_here", "_law_count", "_law_most", "_law_found", "_law_index", "_law_shape", "_law_low", "_law_mass", "_law_other", "_law_wide"] ["_law_source_here", "_law_count", "_law_most"] (defScope s_law_estimates) := ⟨rfl, rfl, rfl, by decide +kernel, rfl, by decide +kernel, by decide +kernel⟩
theorem sc_law_far : FnScope ["_law_source_here", "_law_shape"] ["_law_source_here"] (defScope s_law_far) := ⟨rfl, rfl, rfl, by decide +kernel, rfl, by decide +kernel, by decide +kernel⟩
theorem sc_law_moved : FnScope ["_law_source_here", "_law_rows", "_law_shape", "_law_one", "_law_other", "_law_moves", "_law_moved_here", "_law_row", "_law_group"] ["_law_source_here", "_law_rows"] (defScope s_law_moved) := ⟨rfl, rfl, rfl, by decide +kernel, rfl, by decide +kernel, by decide +kernel⟩
theorem sc_law_marks : FnScope ["_law_rows", "_law_marks_here", "_law_row"] ["_law_rows"] (defScope s_law_marks) := ⟨rfl, rfl, rfl, by decide +kernel, rfl, by decide +kernel, by decide +kernel⟩
theorem sc_law_untrue_mass : FnScope ["_law_rows", "_law_value", "_law_row"] ["_law_rows", "_law_value"] (defScope s_law_untrue_mass) := ⟨rfl, rfl, rfl, by decide +kernel, rfl, by decide +kernel, by decide +kernel⟩
theorem sc_law_end : FnScope ["_law_source_here", "_law_rows", "_law_shape", "_law_row"] ["_law_source_here", "_law_rows"] (defScope s_law_end) := ⟨rfl, rfl, rfl, by decide +kernel, rfl, by decide +kernel, by decide +kernel⟩
theorem sc_law_pieces : FnScope ["_law_rows", "_law_first", "_law_last", "_law_due", "_law_value", "_law_mass"] ["_law_rows", "_law_first", "_law_last"] (defScope s_law_pieces) := ⟨rfl, rfl, rfl, by decide +kernel, rfl, by decide +kernel, by decide +kernel⟩
theorem sc_law_same : FnScope ["_law_told", "_law_due", "_law_piece"] ["_law_told", "_law_due"] (defScope s_law_same) := ⟨rfl, rfl, rfl, by decide +kernel, rfl, by decide +kernel, by decide +kernel⟩
theorem sc_law : FnScope ["_law_script", "_law_shaped", "_law_count", "_law_rows", "_law_handed", "_law_asked", "_law_ends", "_law_first", "_law_last", "_law_due", "_law_told", "_law_values", "_law_piece", "_law_value", "_law_mass"] ["_law_script"] (defScope s_law) := ⟨rfl, rfl, rfl, by decide +kernel, rfl, by decide +kernel, by decide +kernel⟩
/-! ### sources and draws -/
/-- a source of draws: a list of two whole numbers -/
def Src (H : Hp) (a : Addr) : Prop := ∃ c p : Int, H a = some (.lst [.int c, .int p])
/-- the heap without the listed objects -/
def wo (S : List Addr) (H : Hp) : Hp := fun b => if b ∈ S then none else H b
theorem wo_out {S : List Addr} {H : Hp} {b : Addr} (h : b ∉ S) : wo S H b = H b := if_neg h
theorem wo_in {S : List Addr} {H : Hp} {b : Addr} (h : b ∈ S) : wo S H b = none := if_pos h
theorem wo_same (S : List Addr) (H : Hp) : Same (wo S H) H := fun b o e => by
  by_cases h : b ∈ S
  · rw [wo_in h] at e; cases e
  · rw [wo_out h] at e; exact e
theorem Same.wo {S : List Addr} {H H' : Hp} (s : Same H H') : Same (wo S H) (wo S H') := fun b o e => by
  by_cases h : b ∈ S
  · rw [wo_in h] at e; cases e
  · rw [wo_out h] at e ⊢; exact s b o e
/-- only the object at a may have changed -/
def But (a : Addr) (H H' : Hp) : Prop := ∀ b o, b ≠ a → H b = some o → H' b = some o
theorem But.wo {a : Addr} {S : List Addr} {H H' : Hp} (s : But a H H') (h : a ∈ S) : Same (wo S H) (wo S H') := fun b o e => by
  by_cases k : b ∈ S
  · rw [wo_in k] at e; cases e
  · rw [wo_out k] at e ⊢
    exact s b o (fun z => k (z ▸ h)) e
theorem But.upd {a : Addr} {o : HO} {H : Hp} : But a H (upd H a o) := fun b o e h => by rw [upd_ne e]; exact h
theorem But.trans {a : Addr} {H H1 H2 : Hp} (s : But a H H1) (t : But a H1 H2) : But a H H2 := fun b o e h => t b o e (s b o e h)
theorem But.refl (a : Addr) (H : Hp) : But a H H := fun _ _ _ h => h
theorem Same.but {a : Addr} {H H' : Hp} (s : Same H H') : But a H H' := fun b o _ h => s b o h
theorem Same.new {H : Hp} {p : Addr} {o : HO} (h : H p = none) : Same H (upd H p o) := fun b u e => by
  rw [upd_ne (ne_of_none e h)]; exact e
theorem But.new {a : Addr} {H : Hp} {p : Addr} {o : HO} (h : H p = none) : But a H (L2.upd H p o) := fun b u _ e => Same.new h b u e
theorem small6 {n : Nat} (h : n ≤ 100000) : n < sizeLine := Nat.lt_of_le_of_lt h (by decide)
theorem small6' {n : Nat} (h : n ≤ 100000) : n ≤ sizeLine := Nat.le_of_lt (small6 h)
theorem Src.at {H H' : Hp} {a b : Addr} (h : Src H a) (s : But b H H') (n : a ≠ b) : Src H' a := by
  obtain ⟨c, p, e⟩ := h
  exact ⟨c, p, s a _ n e⟩
theorem Src.same {H H' : Hp} {a : Addr} (h : Src H a) (s : Same H H') : Src H' a := by
  obtain ⟨c, p, e⟩ := h
  exact ⟨c, p, s a _ e⟩
theorem Src.ne {H : Hp} {a p : Addr} (h : Src H a) (n : H p = none) : p ≠ a := fun z => by
  obtain ⟨c, q, e⟩ := h
  rw [z, e] at n; cases n
def spSource (K : PySem.W.Frag) : Sp := fun vs H Q _ => ∃ (a : Addr) (ns : List Int) (p : Int), vs = [.ref a, .int p] ∧ SqL K H a (ns.map V.int) ∧ 0 ≤ p ∧
  ∀ l H', H l = none → Same H H' → Src H' l → Q (.ref l) H'
def spDraw : Sp := fun vs H Q _ => ∃ (a : Addr) (n : Int), vs = [.ref a, .int n] ∧ Src H a ∧ 0 < n ∧ n < 1073741824 ∧
  ∀ (r : Int) (H' : Hp), 0 ≤ r → r < n → Src H' a → But a H H' → Q (.int r) H'
def spWhole : Sp := fun vs H Q _ => (∃ i : Int, vs = [.int i] ∧ Q (.bl true) H)
theorem But.mut {a l : Addr} {o : HO} {H H' : Hp} (s : But a H H') (h : H l = none) : But a H (L2.upd H' l o) := fun b u nb e => by
  rw [upd_ne (ne_of_none e h)]; exact s b u nb e
theorem Src.set {a l : Addr} {o : HO} {H : Hp} (s : Src H a) (h : l ≠ a) : Src (L2.upd H l o) a := by
  obtain ⟨c, p, e⟩ := s
  exact ⟨c, p, by rw [upd_ne h.symm]; exact e⟩
theorem But.free {a l : Addr} {H H' : Hp} (s : But a H H') (h : H' l = none) (n : l ≠ a) : H l = none := by
  cases e : H l with
  | none => rfl
  | some o => rw [s l o n e] at h; cases h
/-- a new source joins -/
theorem wo_join {S : List Addr} {s : Addr} {H H' : Hp} (e : Same H H') (h : H s = none) : Same (wo S H) (wo (s :: S) H') := fun b o q => by
  have n : b ≠ s := fun z => by
    have q' := wo_same S H b o q
    rw [z, h] at q'; cases q'
  by_cases k : b ∈ S
  · rw [wo_in k] at q; cases q
  · rw [wo_out k] at q
    rw [wo_out (by simp [n, k])]; exact e b o q
theorem wo_join0 {s : Addr} {H H' : Hp} (e : Same H H') (h : H s = none) : Same H (wo [s] H') := fun b o q => wo_join (S := []) e h b o (by rw [wo_out (by simp)]; exact q)
theorem wo_drop {S : List Addr} {s : Addr} {H : Hp} : Same (wo (s :: S) H) (wo S H) := fun b o q => by
  by_cases k : b ∈ s :: S
  · rw [wo_in k] at q; cases q
  · rw [wo_out k] at q
    rw [wo_out (fun z => k (List.mem_cons_of_mem _ z))]; exact q

/-! ### cuts, tests -/
theorem cutS {t u : TS} {D : Ends} {σ : L2.St} {H : Hp} (M : L2.St → Hp → Prop) (hk : ∀ σ' H', M σ' H' → u D σ' H') (h : (∀ σ' H', M σ' H' → u D σ' H') → tSeq t u D σ H) : tSeq t u D σ H := h hk
def PuT (t : TT) (σ : L2.St) (H : Hp) (b : Bool) : Prop := ∀ Q : Bool → Hp → Prop, Q b H → t σ H Q
theorem put_and {t u : TT} {σ : L2.St} {H : Hp} {a b : Bool} (h1 : PuT t σ H a) (h2 : a = true → PuT u σ H b) : PuT (tAnd t u) σ H (a && b) := fun Q q => h1 _ (by
  cases a with
  | true => exact iteT (h2 rfl Q q)
  | false => exact iteF q)
theorem put_or {t u : TT} {σ : L2.St} {H : Hp} {a b : Bool} (h1 : PuT t σ H a) (h2 : a = false → PuT u σ H b) : PuT (tOr t u) σ H (a || b) := fun Q q => h1 _ (by
  cases a with
  | true => exact iteT q
  | false => exact iteF (h2 rfl Q q))
theorem put_not {t : TT} {σ : L2.St} {H : Hp} {a : Bool} (h1 : PuT t σ H a) : PuT (tNot t) σ H (!a) := fun Q q => h1 _ q
theorem put_is {t : TT} {σ : L2.St} {H : Hp} {a b : Bool} (h : PuT t σ H a) (e : a = b) : PuT t σ H b := e ▸ h
theorem ifS_of {c : TT} {t u : TS} {D : Ends} {σ : L2.St} {H : Hp} {b : Bool} (h : PuT c σ H b) (h1 : b = true → t D σ H) (h2 : b = false → u D σ H) : tIfS c t u D σ H := h _ (by
  cases b with
  | true => exact iteT (h1 rfl)
  | false => exact iteF (h2 rfl))
theorem ifE_of {c : TT} {ta tb : TE} {σ : L2.St} {H : Hp} {Q : VK} {b : Bool} (h : PuT c σ H b) (h1 : b = true → ta σ H Q) (h2 : b = false → tb σ H Q) : tIf c ta tb σ H Q := h _ (by
  cases b with
  | true => exact iteT (h1 rfl)
  | false => exact iteF (h2 rfl))
/-- an optional bound -/
def vo : Option Int → V
  | none => .non
  | some i => .int i
theorem vo_non (o : Option Int) : decide (vo o = .non) = o.isNone := by cases o <;> rfl
theorem nxt {F : L2.St → Hp → Prop} {r b c} {σ : L2.St} {H : Hp} (h : F σ H) : tNext { nx := F, rt := r, bk := b, ct := c } σ H := h
theorem nxe {F : L2.St → Hp → Prop} {r b c} {σ : L2.St} {H : Hp} (h : F σ H) : Ends.nx { nx := F, rt := r, bk := b, ct := c } σ H := h
theorem sqIf {c : TT} {t u r : TS} {D : Ends} {σ : L2.St} {H : Hp} {b : Bool} (h : PuT c σ H b) (h1 : b = true → t { D with nx := r D } σ H) (h2 : b = false → u { D with nx := r D } σ H) : tSeq (tIfS c t u) r D σ H := ifS_of h h1 h2
theorem asg {F : L2.St → Hp → Prop} {r b c} {i : Nat} {v : V} {σ : L2.St} {H : Hp} (h : F (σ.set i (some v)) H) : gName i v σ H (Ends.nx { nx := F, rt := r, bk := b, ct := c }) := h
/-- an item of a written list of whole numbers -/
theorem pick : ∀ (vs : List Int) (r : Int), 0 ≤ r → r < vs.length → ∃ v, v ∈ vs ∧ atI (vs.map V.int) r = some (.int v) := fun vs r h0 h1 => by
  obtain ⟨j, rfl⟩ := Int.eq_ofNat_of_zero_le h0
  have hj : j < vs.length := by omega
  exact ⟨vs[j], List.getElem_mem hj, atI_nat (by rw [List.getElem?_map, List.getElem?_eq_getElem hj]; rfl)⟩
theorem dec_int {a b : Int} : decide (V.int a = V.int b) = decide (a = b) := by
  by_cases h : a = b
  · rw [h, decide_eq_true rfl, decide_eq_true rfl]
  · rw [decide_eq_false h, decide_eq_false (fun z => h (V.int.inj z))]
theorem atI0 {xs : List V} {i : Nat} {v : V} (h : xs[i]? = some v) : atI xs (0 + (i : Int)) = some v := by rw [Int.zero_add]; exact atI_nat h
theorem kit_self {K : PySem.W.Frag} {C : Addr} : PySem.W.kitOne K (.ref C) (.ref C) = some true := by
  unfold PySem.W.kitOne
  rw [if_pos (by simp)]
theorem But.same {a : Addr} {H H' : Hp} (b : But a H H') (h : H a = none) : Same H H' := fun c o e => b c o (ne_of_none e h) e
theorem wo_new {H : Hp} {r : Addr} {o : HO} (h : H r = none) : Same H (wo [r] (L2.upd H r o)) := fun b u e => by
  have n : b ≠ r := ne_of_none e h
  rw [wo_out (by simpa using n), upd_ne n]; exact e
theorem wo_upd {H H3 : Hp} {r : Addr} {o : HO} (s : Same H H3) : Same (wo [r] H) (wo [r] (L2.upd H3 r o)) := fun b u e => by
  by_cases n : b = r
  · rw [n, wo_in (by simp)] at e; cases e
  · rw [wo_out (by simpa using n)] at e
    rw [wo_out (by simpa using n), upd_ne n]; exact s b u e
theorem ixN_j {n j : Nat} (h : j < n) : ixN n (j : Int) = some j := by
  unfold ixN
  rw [if_pos (by omega), if_pos (by omega)]
  simp
theorem dp_ints {K : PySem.W.Frag} {H : Hp} : ∀ ns : List Int, DpAll K H (ns.map V.int) (ns.map PyData.int)
  | [] => .nil
  | n :: ns => .cons (.int n) (dp_ints ns)
theorem canLay_ints : ∀ ns : List Int, PyData.canLayAll0 (ns.map PyData.int) = true
  | [] => by simp [PyData.canLayAll0]
  | n :: ns => by simp [PyData.canLayAll0, PyData.canLay0, canLay_ints ns]
theorem depth_ints : ∀ ns : List Int, PyData.depthAll (ns.map PyData.int) ≤ 1
  | [] => by simp [PyData.depthAll]
  | n :: ns => by
    have := depth_ints ns
    simp only [List.map_cons, PyData.depthAll, PyData.depth]
    omega
theorem shaped_ints (ns : List Int) : SeqAt.shaped (.list (ns.map PyData.int)) = true := by
  unfold SeqAt.shaped
  have h := depth_ints ns
  exact Bool.and_eq_true_iff.mpr ⟨by simp [PyData.canLay0, canLay_ints], decide_eq_true (by simp only [PyData.depth]; omega)⟩
theorem eqv_ints (ns : List Int) : PyData.eqv (.list (ns.map PyData.int)) (.list (ns.map PyData.int)) = true :=
  SeqAt.eqv_refl _ (SeqAt.canLay_of_shaped (shaped_ints ns))
theorem dp_list {K : PySem.W.Frag} {H : Hp} {a : Addr} {ns : List Int} (h : SqL K H a (ns.map V.int)) : Dp K H (.ref a) (.list (ns.map PyData.int)) := .lst h (dp_ints ns)
theorem yesT {σ : L2.St} {H : Hp} {A B : Bool → Hp → Prop} (h : A true H) : tYes σ H fun b H3 => if b = true then A b H3 else B b H3 := by
  show if true = true then A true H else B true H
  rw [if_pos rfl]; exact h

theorem pi_or {X : Cx} {tg e : Expr} {t1 t2 : TI} (h1 : PI X tg e t1) (h2 : PI X tg e t2) : PI X tg e (fun σ H R => t1 σ H R ∨ t2 σ H R) := ⟨fun pins s σ H R I h => h.elim (h1.run pins s σ H R I) (h2.run pins s σ H R I)⟩
theorem SqT.keep {K : PySem.W.Frag} {H H' : Hp} {a : Addr} {xs : List V} (h : SqT K H a xs) (s : Same H H') : SqT K H' a xs := by
  rcases h with (h | ⟨o, h⟩) | h
  · exact .inl (.inl (s _ _ h))
  · exact .inl (.inr ⟨o, s _ _ h⟩)
  · exact .inr h
/-- a list or a tuple -/
def SqA (K : PySem.W.Frag) (H : Hp) (a : Addr) (xs : List V) : Prop := SqL K H a xs ∨ SqT K H a xs
theorem SqA.keep {K : PySem.W.Frag} {H H' : Hp} {a : Addr} {xs : List V} (h : SqA K H a xs) (e : Same H H') : SqA K H' a xs := h.elim (fun h => .inl (e.seq h)) (fun h => .inr (SqT.keep h e))
theorem rIx_a {K : PySem.W.Frag} {H : Hp} {p : Addr} {xs : List V} {i : Int} {v : V} {Q : VK} (h : SqA K H p xs) (e : atI xs i = some v) (q : Q v H) : rIx K (.ref p) (.int i) H Q :=
  h.elim (fun h => .inl ⟨p, xs, i, v, rfl, rfl, h, e, q⟩) (fun h => .inr (.inl ⟨p, xs, i, v, rfl, rfl, h, e, q⟩))
/-- places as values -/
def iv (hs : List Nat) : List V := hs.map fun h : Nat => V.int (h : Int)
theorem iv_at {hs : List Nat} {i : Nat} {x : V} (h : (iv hs)[i]? = some x) : ∃ n : Nat, hs[i]? = some n ∧ x = V.int (n : Int) := by
  unfold iv at h
  rw [List.getElem?_map] at h
  cases e : hs[i]? with
  | none => rw [e] at h; cases h
  | some n => rw [e] at h; exact ⟨n, rfl, (Option.some.inj h).symm⟩
theorem iv_len (hs : List Nat) : (iv hs).length = hs.length := List.length_map ..
theorem iv_app (a b : List Nat) : iv (a ++ b) = iv a ++ iv b := List.map_append ..
theorem int_at {ls : List Int} {n : Nat} (h : n < ls.length) : atI (ls.map V.int) (n : Int) = some (V.int (ls.getD n 0)) := by
  refine atI_nat ?_
  rw [List.getElem?_map, List.getD_eq_getElem?_getD, List.getElem?_eq_getElem h]; rfl
theorem iv_get {hs : List Nat} {n : Nat} (h : n < hs.length) : atI (iv hs) (n : Int) = some (V.int ((hs.getD n 0 : Nat) : Int)) := by
  refine atI_nat ?_
  unfold iv
  rw [List.getElem?_map, List.getD_eq_getElem?_getD, List.getElem?_eq_getElem h]; rfl
theorem getD_mem {hs : List Nat} {n : Nat} (h : n < hs.length) : hs.getD n 0 ∈ hs := by
  rw [List.getD_eq_getElem?_getD, List.getElem?_eq_getElem h]; exact List.getElem_mem h
theorem take_snoc {α : Type} {l : List α} {i : Nat} {x : α} (h : l[i]? = some x) : l.take (i + 1) = l.take i ++ [x] := by
  rw [List.take_succ, h]; rfl
def spBetween : Sp := fun vs H Q _ => ∃ (a : Addr) (lo hi : Int), vs = [.ref a, .int lo, .int hi] ∧ Src H a ∧ lo ≤ hi ∧ hi - lo < 1000000000 ∧
  ∀ (r : Int) (H' : Hp), lo ≤ r → r ≤ hi → Src H' a → But a H H' → Q (.int r) H'
theorem seqIx {i : Int} {n k : Nat} (h : i = (k : Int)) (hk : k < n) : seqIndex? i n = some k := by
  subst h
  unfold seqIndex?
  have h0 : ¬ ((k : Int) < 0) := by omega
  simp [h0, hk]
theorem iv_erase : ∀ (hs : List Nat) (k : Nat), (iv hs).eraseIdx k = iv (hs.eraseIdx k)
  | [], _ => rfl
  | _ :: _, 0 => rfl
  | h :: hs, k + 1 => congrArg (V.int (h : Int) :: ·) (iv_erase hs k)
theorem _root_.L2.Same.but' {H H1 H2 : Hp} {s : Addr} (e : Same H H1) (n : H s = none) (b : But s H1 H2) : Same H H2 := fun c o q => b c o (ne_of_none q n) (e c o q)
theorem _root_.L2.Same.upd' {H H1 : Hp} {l : Addr} {o : HO} (e : Same H H1) (n : H l = none) : Same H (L2.upd H1 l o) := fun c u q => by
  rw [upd_ne (ne_of_none q n)]; exact e c u q
theorem iv_ints (hs : List Nat) : iv hs = (hs.map fun h : Nat => (h : Int)).map V.int := by unfold iv; rw [List.map_map]; rfl
theorem at0 (h0 : Nat) (t : List Nat) : atI (iv (h0 :: t)) 0 = some (.int (h0 : Int)) := iv_get (hs := h0 :: t) (n := 0) (by simp)
/-- a comprehension over n turns of anything -/
theorem lc_any {J : It} {n : Nat} {g : TG} {tt : TT} {te : TE} {vs : List Nat} {σ : L2.St} {H1 : Hp} {D : Addr} {Qd : Hp → Prop} (Pv : Nat → Hp → Prop) (h0 : Pv 0 (L2.upd H1 D (.lst []))) (hgo : ∀ i H, i < n → Pv i H → J.go i H) (hst : ∀ H, Pv n H → J.stop n H)
    (hs : ∀ i x H H', i < n → Pv i H → J.yld i H x H' → g x (wipe σ vs) H' fun σ2 H2 => wipe σ2 vs = wipe σ vs ∧ tt σ2 H2 fun b H3 => if b = true then te σ2 H3 fun y H4 => ∃ acc, H4 D = some (.lst acc) ∧ acc.length < sizeLine ∧ Pv (i + 1) (L2.upd H4 D (.lst (acc ++ [y]))) else Pv (i + 1) H3) (hd : ∀ H, Pv n H → Qd H) :
    ∃ W : Nat → Nat → Hp → Prop, (∃ m, W 0 m (L2.upd H1 D (.lst []))) ∧ ∀ i m H, W i m H → (J.stop i H ∧ Qd H) ∨ (J.go i H ∧ ∃ Nx : Hp → Prop, (∀ H', Nx H' → ∃ m', m' < m ∧ W (i + 1) m' H') ∧ ∀ x H', J.yld i H x H' → g x (wipe σ vs) H' fun σ2 H2 => wipe σ2 vs = wipe σ vs ∧ tt σ2 H2 fun b H3 => if b = true then te σ2 H3 fun y H4 => ∃ acc, H4 D = some (.lst acc) ∧ acc.length < sizeLine ∧ Nx (L2.upd H4 D (.lst (acc ++ [y]))) else Nx H3) := by
  refine ⟨fun i m H => m = n - i ∧ i ≤ n ∧ Pv i H, ⟨n, rfl, Nat.zero_le _, h0⟩, ?_⟩
  rintro i m H ⟨rfl, hi, p⟩
  by_cases hl : i < n
  · exact .inr ⟨hgo i H hl p, Pv (i + 1), fun H' q => ⟨n - (i + 1), by omega, rfl, hl, q⟩, fun x H' y => hs i x H H' hl p y⟩
  · obtain rfl : i = n := by omega
    exact .inl ⟨hst H p, hd H p⟩

/-! ### defs with a table of their own -/
/-- the rule for a def whose code object is known -/
theorem ok_code {P : Program} {w : World} {K : PySem.W.Frag} {mg : Str → Option Value} {base : Heap} {x qual : Str} {params : Arguments} {body : List Stmt} {scope : Scope} {dvs : List V} {kws : List (Str × V)} {f : Addr} {fd : FuncData} {CX : CXT} {N ps : List Str} {k : Nat} {sp : Sp} {c : Addr} (F : FunD K x qual params body scope dvs kws f fd) (hc : fd.code = .ref c) (S : FnScope N ps scope) (len : ∀ vs H Q E, sp vs H Q E → vs.length = ps.length)
    (hbody : ∀ (A : Around) (outer : List Env) (s : Shared) (H : Hp) (vs : List V) (Q : VK) (E : XK), Room k (A.deeper (PyProof.Rows.envOfC qual scope s.heap.objs.size f (.ref c))) → sp vs H Q E →
      ∃ t, PSs (cxOf CX P w K mg base N qual scope f (.ref c) A outer s H E) body t ∧ t { nx := fun _ H' => Q .non H', rt := Q } (start N vs) H) : FnOk P w K mg base CX (k + 1) f fd ps sp := by
  obtain ⟨oc, od, dV, kV, doc, pm, an, cdv, ct, osl, rfl, lk, hcd, _, _⟩ := F.ex
  have e : cdv = .ref c := hc
  subst e
  exact fn_of lk hcd S len fun A outer s H vs Q E hr h => hbody A outer s H vs Q E hr h
theorem no_free {l : List (Str × NameKind)} {cells : List (Str × Addr)} (h : (l.all fun y => match y.2 with | .free => false | _ => true) = true) : ∀ y ∈ l, y.2 = .free → ∃ c, cells.lookup y.1 = some c := fun y hy e => by
  have q := List.all_eq_true.mp h y hy
  rw [e] at q
  cases q
theorem some_free {l : List (Str × NameKind)} {cells : List (Str × Addr)} (h : (l.all fun y => match y.2 with | .free => (cells.lookup y.1).isSome | _ => true) = true) : ∀ y ∈ l, y.2 = .free → ∃ c, cells.lookup y.1 = some c := fun y hy e => by
  have q := List.all_eq_true.mp h y hy
  rw [e] at q
  exact Option.isSome_iff_exists.mp q
theorem TabG.same {H H' : Hp} {T : Addr} (h : TabG H T) (e : Same H H') : TabG H' T := by
  obtain ⟨ps, a, b⟩ := h
  exact ⟨ps, e _ _ a, b⟩
theorem TabG.ne {H : Hp} {T a : Addr} {xs : List V} (h : TabG H T) (e : H a = some (.lst xs)) : a ≠ T := fun z => by
  obtain ⟨ps, q, _⟩ := h
  rw [z, q] at e; cases e
theorem TabG.but {H H' : Hp} {T s : Addr} (h : TabG H T) (b : But s H H') (hs : Src H s) : TabG H' T := by
  obtain ⟨ps, a, z⟩ := h
  obtain ⟨c, p, e⟩ := hs
  exact ⟨ps, b _ _ (fun y => by rw [y, e] at a; cases a) a, z⟩
theorem TabG.set {H : Hp} {T l : Addr} {o : HO} {xs : List V} (h : TabG H T) (e : H l = some (.lst xs)) : TabG (L2.upd H l o) T := by
  have n := TabG.ne h e
  obtain ⟨ps, a, z⟩ := h
  exact ⟨ps, by rw [upd_ne n.symm]; exact a, z⟩
theorem tabbed_but {T : Addr} {H H' : Hp} (h : Tabbed T H H') : But T H H' := fun b o n e => by rw [h.2 b n]; exact e
theorem sql_off {K : PySem.W.Frag} {H : Hp} {T a : Addr} {xs : List V} (h : SqL K H a xs) (t : TabG H T) : SqL K (wo [T] H) a xs := by
  obtain ⟨ps, e, _⟩ := t
  rcases h with (h | ⟨o, h⟩) | h
  · exact .inl (.inl (by rw [wo_out (by simp only [List.mem_singleton]; intro z; rw [z, e] at h; cases h)]; exact h))
  · exact .inl (.inr ⟨o, by rw [wo_out (by simp only [List.mem_singleton]; intro z; rw [z, e] at h; cases h)]; exact h⟩)
  · exact .inr h
theorem sqt_off {K : PySem.W.Frag} {H : Hp} {T a : Addr} {xs : List V} (h : SqT K H a xs) (t : TabG H T) : SqT K (wo [T] H) a xs := by
  obtain ⟨ps, e, _⟩ := t
  rcases h with (h | ⟨o, h⟩) | h
  · exact .inl (.inl (by rw [wo_out (by simp only [List.mem_singleton]; intro z; rw [z, e] at h; cases h)]; exact h))
  · exact .inl (.inr ⟨o, by rw [wo_out (by simp only [List.mem_singleton]; intro z; rw [z, e] at h; cases h)]; exact h⟩)
  · exact .inr h
theorem sql_but {K : PySem.W.Frag} {H H' : Hp} {T a : Addr} {xs : List V} (h : SqL K H a xs) (t : TabG H T) (b : But T H H') : SqL K H' a xs := (wo_same [T] H').seq ((b.wo (by simp)).seq (sql_off h t))
theorem sqt_but {K : PySem.W.Frag} {H H' : Hp} {T a : Addr} {xs : List V} (h : SqT K H a xs) (t : TabG H T) (b : But T H H') : SqT K H' a xs := SqT.keep (SqT.keep (sqt_off h t) (b.wo (by simp))) (wo_same [T] H')
theorem sqa_but {K : PySem.W.Frag} {H H' : Hp} {T a : Addr} {xs : List V} (h : SqA K H a xs) (t : TabG H T) (b : But T H H') : SqA K H' a xs := h.elim (fun h => .inl (sql_but h t b)) (fun h => .inr (sqt_but h t b))
/-- a loop over n turns of anything -/
theorem for_any {J : It} {n : Nat} {g : TG} {tb : TS} {D : Ends} {σ : L2.St} {H : Hp} (Pv : Nat → L2.St → Hp → Prop) (h0 : Pv 0 σ H) (hgo : ∀ i σ H, i < n → Pv i σ H → J.go i H) (hst : ∀ σ H, Pv n σ H → J.stop n H)
    (hs : ∀ i x σ H H', i < n → Pv i σ H → J.yld i H x H' → g x σ H' fun σ2 H2 => tb { D with nx := Pv (i + 1), ct := Pv (i + 1), bk := D.nx } σ2 H2) (hd : ∀ σ H, Pv n σ H → D.nx σ H) :
    ∃ W : Nat → Nat → L2.St → Hp → Prop, (∃ m, W 0 m σ H) ∧ ∀ i m σ H, W i m σ H → (J.stop i H ∧ D.nx σ H) ∨ (J.go i H ∧ ∃ N : L2.St → Hp → Prop, (∀ σ' H', N σ' H' → ∃ m', m' < m ∧ W (i + 1) m' σ' H') ∧ ∀ x H', J.yld i H x H' → g x σ H' fun σ2 H2 => tb { D with nx := N, ct := N, bk := D.nx } σ2 H2) := by
  refine ⟨fun i m σ H => m = n - i ∧ i ≤ n ∧ Pv i σ H, ⟨n, rfl, Nat.zero_le _, h0⟩, ?_⟩
  rintro i m σ H ⟨rfl, hi, p⟩
  by_cases hl : i < n
  · exact .inr ⟨hgo i σ H hl p, Pv (i + 1), fun σ' H' q => ⟨n - (i + 1), by omega, rfl, hl, q⟩, fun x H' y => hs i x σ H H' hl p y⟩
  · obtain rfl : i = n := by omega
    exact .inl ⟨hst σ H p, hd σ H p⟩
/-- a list or a tuple, walked -/
theorem or_iter {K : PySem.W.Frag} {i : Nat} {σ : L2.St} {H0 H : Hp} {a : Addr} {xs : List V} {R : It → Hp → Prop} (e : σ[i]? = some (some (.ref a))) (h0 : SqA K H0 a xs) (s : Same H0 H)
    (k : ∀ J : It, (∀ j H1, Same H0 H1 → j < xs.length → J.go j H1) → (∀ H1, Same H0 H1 → J.stop xs.length H1) → (∀ j H1 x H2, Same H0 H1 → J.yld j H1 x H2 → H2 = H1 ∧ xs[j]? = some x) → R J H) : iList K (tVar i) σ H R ∨ iTup K (tVar i) σ H R := by
  rcases h0 with h | h
  · exact .inl ⟨_, e, a, rfl, ⟨_, s.seq h⟩, k _ (fun j H1 q hj => ⟨xs, xs[j], q.seq h, List.getElem?_eq_getElem hj⟩) (fun H1 q => ⟨xs, q.seq h, Nat.le_refl _⟩) fun j H1 x H2 q y => ⟨y.1, y.2 xs (q.seq h)⟩⟩
  · exact .inr ⟨_, e, a, rfl, ⟨_, SqT.keep h s⟩, k _ (fun j H1 q hj => ⟨xs, xs[j], SqT.keep h q, List.getElem?_eq_getElem hj⟩) (fun H1 q => ⟨xs, SqT.keep h q, Nat.le_refl _⟩) fun j H1 x H2 q y => ⟨y.1, y.2 xs (SqT.keep h q)⟩⟩
theorem call_max3i {X : Cx} (hc : X.calm = true) : CallR X (.builtin "max") (fun xs H Q => ∃ i j l, xs = [.int i, .int j, .int l] ∧ Q (.int (if j > i then (if l > j then l else j) else (if l > i then l else i))) H) := by
  intro pins s σ H xs us Q I r h
  obtain ⟨i, j, l, rfl, q⟩ := h
  obtain ⟨u, v, z, rfl, ⟨t1, rfl⟩, ⟨t2, rfl⟩, ⟨t3, rfl⟩⟩ : ∃ u v z, us = [u, v, z] ∧ RelV (.int i) u ∧ RelV (.int j) v ∧ RelV (.int l) z := by
    cases r with
    | cons r1 r => cases r with
      | cons r2 r => cases r with
        | cons r3 r => cases r; exact ⟨_, _, _, rfl, r1, r2, r3⟩
  refine max_three_ints (I.ok.hd hc) fun h' tk k => ⟨_, H, I.kept k, ?_, q⟩
  by_cases u1 : j > i <;> by_cases u2 : l > j <;> by_cases u3 : l > i <;> simp only [u1, u2, u3, if_true, if_false] <;> exact ⟨_, rfl⟩

/-! ### the middle of the bounds -/
/-- an estimate: low, high, weight -/
structure Es where
  l : Int
  h : Int
  w : Nat
def etup (e : Es) : List V := [.int e.l, .int e.h, .int (e.w : Int)]
/-- triples at these places -/
def Tri (K : PySem.W.Frag) (H : Hp) (ts : List Addr) (es : List Es) : Prop := ts.length = es.length ∧ ∀ (i : Nat) (t : Addr) (e : Es), ts[i]? = some t → es[i]? = some e → SqT K H t (etup e)
def Rw (K : PySem.W.Frag) (H : Hp) (a : Addr) (es : List Es) : Prop := ∃ ts : List Addr, SqA K H a (ts.map V.ref) ∧ Tri K H ts es
theorem Tri.same {K : PySem.W.Frag} {H H' : Hp} {ts : List Addr} {es : List Es} (h : Tri K H ts es) (e : Same H H') : Tri K H' ts es := ⟨h.1, fun i t x h1 h2 => SqT.keep (h.2 i t x h1 h2) e⟩
theorem Tri.but {K : PySem.W.Frag} {H H' : Hp} {T : Addr} {ts : List Addr} {es : List Es} (h : Tri K H ts es) (t : TabG H T) (b : But T H H') : Tri K H' ts es := ⟨h.1, fun i u x h1 h2 => sqt_but (h.2 i u x h1 h2) t b⟩
theorem Tri.at {K : PySem.W.Frag} {H : Hp} {ts : List Addr} {es : List Es} (h : Tri K H ts es) {i : Nat} {x : V} (e : (ts.map V.ref)[i]? = some x) : ∃ t en, x = .ref t ∧ es[i]? = some en ∧ SqT K H t (etup en) := by
  rw [List.getElem?_map] at e
  cases q : ts[i]? with
  | none => rw [q] at e; cases e
  | some t =>
    rw [q] at e
    have hi : i < es.length := by rw [← h.1]; exact (List.getElem?_eq_some_iff.mp q).1
    exact ⟨t, es[i], (Option.some.inj e).symm, List.getElem?_eq_getElem hi, h.2 i t _ q (List.getElem?_eq_getElem hi)⟩
theorem Rw.same {K : PySem.W.Frag} {H H' : Hp} {a : Addr} {es : List Es} (h : Rw K H a es) (e : Same H H') : Rw K H' a es := let ⟨ts, h1, h2⟩ := h; ⟨ts, h1.keep e, h2.same e⟩
theorem Rw.but {K : PySem.W.Frag} {H H' : Hp} {T a : Addr} {es : List Es} (h : Rw K H a es) (t : TabG H T) (b : But T H H') : Rw K H' a es := let ⟨ts, h1, h2⟩ := h; ⟨ts, sqa_but h1 t b, h2.but t b⟩
def OkE (es : List Es) : Prop := ∀ e, e ∈ es → e.l ≤ e.h ∧ 1 ≤ e.w ∧ e.w ≤ 99
theorem pre_sum {es : List Es} {F : Es → Int} {f : Nat → Int} : ∀ n, n ≤ es.length → (∀ i e, es[i]? = some e → f i = F e) → preSum f n = ((es.take n).map F).sum
  | 0, _, _ => by simp [preSum]
  | n + 1, h, hf => by
    have ih := pre_sum (es := es) (F := F) (f := f) n (by omega) hf
    have e : es[n]? = some es[n] := List.getElem?_eq_getElem (by omega)
    show preSum f n + f n = _
    rw [ih, take_snoc e, List.map_append, List.sum_append, hf n _ e]
    simp
/-- triples made by the law -/
def TriX (H : Hp) (ts : List Addr) (es : List Es) : Prop := ts.length = es.length ∧ ∀ (i : Nat) (t : Addr) (e : Es), ts[i]? = some t → es[i]? = some e → H t = some (.tup (etup e))
theorem TriX.tri {K : PySem.W.Frag} {H : Hp} {ts : List Addr} {es : List Es} (h : TriX H ts es) : Tri K H ts es := ⟨h.1, fun i t e h1 h2 => .inl (.inl (h.2 i t e h1 h2))⟩
theorem TriX.same {H H' : Hp} {ts : List Addr} {es : List Es} (h : TriX H ts es) (e : Same H H') : TriX H' ts es := ⟨h.1, fun i t x h1 h2 => e _ _ (h.2 i t x h1 h2)⟩
theorem TriX.but {H H' : Hp} {a : Addr} {ts : List Addr} {es : List Es} (h : TriX H ts es) (b : But a H H') (hs : Src H a) : TriX H' ts es := ⟨h.1, fun i t x h1 h2 => b _ _ (fun z => by
  obtain ⟨c, p, e⟩ := hs
  have q := h.2 i t x h1 h2
  rw [z, e] at q; cases q) (h.2 i t x h1 h2)⟩
theorem TriX.upd {H : Hp} {f : Addr} {o : HO} {xs : List V} {ts : List Addr} {es : List Es} (h : TriX H ts es) (hf : H f = some (.lst xs)) : TriX (L2.upd H f o) ts es := ⟨h.1, fun i t x h1 h2 => by
  have q := h.2 i t x h1 h2
  rw [upd_ne (fun z => by rw [z, hf] at q; cases q)]; exact q⟩
theorem TriX.snoc {H : Hp} {ts : List Addr} {es : List Es} {t : Addr} {e : Es} (h : TriX H ts es) (ht : H t = some (.tup (etup e))) : TriX H (ts ++ [t]) (es ++ [e]) := by
  refine ⟨by simp [h.1], fun i u x h1 h2 => ?_⟩
  by_cases z : i < ts.length
  · rw [List.getElem?_append_left z] at h1
    rw [List.getElem?_append_left (by rw [← h.1]; exact z)] at h2
    exact h.2 i u x h1 h2
  · have hl := (List.getElem?_eq_some_iff.mp h1).1
    rw [List.length_append, List.length_singleton] at hl
    obtain rfl : i = ts.length := by omega
    rw [List.getElem?_append_right (Nat.le_refl _), Nat.sub_self] at h1
    rw [h.1, List.getElem?_append_right (Nat.le_refl _), Nat.sub_self] at h2
    cases h1
    cases h2
    exact ht
theorem TriX.at {H : Hp} {ts : List Addr} {es : List Es} (h : TriX H ts es) {i : Nat} {x : V} (e : (ts.map V.ref)[i]? = some x) : ∃ t en, x = .ref t ∧ es[i]? = some en ∧ H t = some (.tup (etup en)) := by
  rw [List.getElem?_map] at e
  cases q : ts[i]? with
  | none => rw [q] at e; cases e
  | some t =>
    rw [q] at e
    have hi : i < es.length := by rw [← h.1]; exact (List.getElem?_eq_some_iff.mp q).1
    exact ⟨t, es[i], (Option.some.inj e).symm, List.getElem?_eq_getElem hi, h.2 i t _ q (List.getElem?_eq_getElem hi)⟩
/-- the law's list of triples -/
structure RwX (H : Hp) (r : Addr) (ts : List Addr) (es : List Es) : Prop where
  li : H r = some (.lst (ts.map V.ref))
  tr : TriX H ts es
  ok : OkE es
  le : es.length ≤ 100
theorem RwX.same {H H' : Hp} {r : Addr} {ts : List Addr} {es : List Es} (h : RwX H r ts es) (e : Same H H') : RwX H' r ts es := ⟨e _ _ h.li, h.tr.same e, h.ok, h.le⟩
theorem RwX.but {H H' : Hp} {r a : Addr} {ts : List Addr} {es : List Es} (h : RwX H r ts es) (b : But a H H') (hs : Src H a) (n : r ≠ a) : RwX H' r ts es := ⟨b _ _ n h.li, h.tr.but b hs, h.ok, h.le⟩
theorem RwX.tab {H H' : Hp} {r T : Addr} {ts : List Addr} {es : List Es} (h : RwX H r ts es) (b : But T H H') (t : TabG H T) : RwX H' r ts es :=
  ⟨b _ _ (TabG.ne t h.li) h.li, ⟨h.tr.1, fun i u x h1 h2 => b _ _ (fun z => by
    obtain ⟨ps, e, _⟩ := t
    have q := h.tr.2 i u x h1 h2
    rw [z, e] at q; cases q) (h.tr.2 i u x h1 h2)⟩, h.ok, h.le⟩
theorem RwX.len {H : Hp} {r : Addr} {ts : List Addr} {es : List Es} (h : RwX H r ts es) : (ts.map V.ref).length = es.length := by rw [List.length_map]; exact h.tr.1
def spEsts : Sp := fun vs H Q _ => ∃ (a : Addr) (n : Nat) (m : Int), vs = [.ref a, .int (n : Int), .int m] ∧ Src H a ∧ n ≤ 100 ∧ 1 ≤ m ∧ m ≤ 99 ∧
  ∀ (f : Addr) (ts : List Addr) (es : List Es) (H' : Hp), H f = none → RwX H' f ts es → es.length = n → Src H' a → But a H H' → Q (.ref f) H'
def spFar : Sp := fun vs H Q _ => ∃ a : Addr, vs = [.ref a] ∧ Src H a ∧ ∀ (r : Int) (H' : Hp), Src H' a → But a H H' → Q (.int r) H'
def spMoved : Sp := fun vs H Q _ => ∃ (a r : Addr) (ts : List Addr) (es : List Es), vs = [.ref a, .ref r] ∧ Src H a ∧ r ≠ a ∧ RwX H r ts es ∧
  ∀ (r' : Addr) (ts' : List Addr) (es' : List Es) (H' : Hp), RwX H' r' ts' es' → es'.length = es.length → Src H' a → But a H H' → (r' = r ∨ H r' = none) → Q (.ref r') H'
/-- the estimates made so far -/
structure EsI (H : Hp) (a f : Addr) (H' : Hp) (ts : List Addr) (es : List Es) : Prop where
  hf : H' f = some (.lst (ts.map V.ref))
  tri : TriX H' ts es
  ok : OkE es
  src : Src H' a
  but : But a H H'
theorem EsI.draw {H : Hp} {a f : Addr} {H' H2 : Hp} {ts : List Addr} {es : List Es} (h : EsI H a f H' ts es) (b : But a H' H2) (hs : Src H2 a) (n : f ≠ a) : EsI H a f H2 ts es :=
  ⟨b _ _ n h.hf, h.tri.but b h.src, h.ok, hs, h.but.trans b⟩
theorem EsI.push {H : Hp} {a f t : Addr} {H' : Hp} {ts : List Addr} {es : List Es} {e : Es} (h : EsI H a f H' ts es) (n : f ≠ a) (hf0 : H f = none) (ht : H' t = none) (he : e.l ≤ e.h ∧ 1 ≤ e.w ∧ e.w ≤ 99) :
    EsI H a f (L2.upd (L2.upd H' t (.tup (etup e))) f (.lst (ts.map V.ref ++ [.ref t]))) (ts ++ [t]) (es ++ [e]) := by
  have tf : f ≠ t := ne_of_none h.hf ht
  have s1 : Same H' (L2.upd H' t (.tup (etup e))) := Same.new ht
  refine ⟨by rw [upd_same, List.map_append]; rfl, ?_, fun x hx => ?_, (h.src.same s1).set n, (h.but.trans (But.new ht)).mut hf0⟩
  · exact ((h.tri.same s1).upd (s1 _ _ h.hf)).snoc (by rw [upd_ne tf.symm, upd_same])
  · rcases List.mem_append.mp hx with z | z
    · exact h.ok x z
    · rw [List.mem_singleton.mp z]; exact he
theorem mv_step {H H6 : Hp} {a f r mv tn : Addr} {us ts : List Addr} {fs es : List Es} {x y p q : Int} {e : Es} (I : EsI H a f H6 us fs) (R : RwX H6 r ts es) (hmv : H6 mv = some (.lst [.int x, .int y])) (fa : f ≠ a) (f0 : H f = none) (rf : r ≠ f) (mvf : mv ≠ f) (ht : H6 tn = none) (he : e.l ≤ e.h ∧ 1 ≤ e.w ∧ e.w ≤ 99) (hpq : p ≤ q) :
    EsI H a f (L2.upd (L2.upd H6 tn (.tup [.int (e.l + p), .int (e.h + q), .int (e.w : Int)])) f (.lst (us.map V.ref ++ [.ref tn]))) (us ++ [tn]) (fs ++ [Es.mk (e.l + p) (e.h + q) e.w]) ∧ RwX (L2.upd (L2.upd H6 tn (.tup [.int (e.l + p), .int (e.h + q), .int (e.w : Int)])) f (.lst (us.map V.ref ++ [.ref tn]))) r ts es ∧
      (L2.upd (L2.upd H6 tn (.tup [.int (e.l + p), .int (e.h + q), .int (e.w : Int)])) f (.lst (us.map V.ref ++ [.ref tn]))) mv = some (.lst [.int x, .int y]) := by
  have s7 : Same H6 (L2.upd H6 tn (.tup [.int (e.l + p), .int (e.h + q), .int (e.w : Int)])) := Same.new ht
  exact ⟨I.push (e := Es.mk (e.l + p) (e.h + q) e.w) fa f0 ht ⟨by show e.l + p ≤ e.h + q; omega, he.2⟩, ⟨(upd_ne rf).trans (s7 _ _ R.li), (R.tr.same s7).upd (s7 _ _ I.hf), R.ok, R.le⟩, (upd_ne mvf).trans (s7 _ _ hmv)⟩
def ed (e : Es) : PyData := .tuple [.int e.l, .int e.h, .int (e.w : Int)]
theorem dp_es {K : PySem.W.Frag} {H : Hp} : ∀ {ts : List Addr} {es : List Es}, Tri K H ts es → DpAll K H (ts.map V.ref) (es.map ed)
  | [], [], _ => .nil
  | [], _ :: _, h => by have := h.1; simp at this
  | _ :: _, [], h => by have := h.1; simp at this
  | t :: ts, e :: es, h => .cons (.tup (h.2 0 t e rfl rfl) (.cons (.int _) (.cons (.int _) (.cons (.int _) .nil)))) (dp_es ⟨by have := h.1; simpa using this, fun i u x h1 h2 => h.2 (i + 1) u x h1 h2⟩)
theorem canLay_es : ∀ es : List Es, PyData.canLayAll0 (es.map ed) = true
  | [] => by simp [PyData.canLayAll0]
  | e :: es => by simp [PyData.canLayAll0, PyData.canLay0, ed, canLay_es es]
theorem depth_es : ∀ es : List Es, PyData.depthAll (es.map ed) ≤ 3
  | [] => by simp [PyData.depthAll]
  | e :: es => by
    have := depth_es es
    simp only [List.map_cons, PyData.depthAll, PyData.depth, ed]
    omega
theorem shaped_es (es : List Es) : SeqAt.shaped (.list (es.map ed)) = true := by
  unfold SeqAt.shaped
  have h := depth_es es
  exact Bool.and_eq_true_iff.mpr ⟨by simp [PyData.canLay0, canLay_es], decide_eq_true (by simp only [PyData.depth]; omega)⟩
theorem eqv_es (es : List Es) : PyData.eqv (.list (es.map ed)) (.list (es.map ed)) = true := SeqAt.eqv_refl _ (SeqAt.canLay_of_shaped (shaped_es es))
theorem shaped_t3 (x y z : Int) : SeqAt.shaped (.tuple [.int x, .int y, .int z]) = true := by
  have := shaped_es [Es.mk 0 0 0]
  unfold SeqAt.shaped
  exact Bool.and_eq_true_iff.mpr ⟨by simp [PyData.canLay0, PyData.canLayAll0], decide_eq_true (by simp [PyData.depth, PyData.depthAll])⟩
theorem dp_t3 {K : PySem.W.Frag} {H : Hp} {p : Addr} {x y z : Int} (h : H p = some (.tup [.int x, .int y, .int z])) : Dp K H (.ref p) (.tuple [.int x, .int y, .int z]) := .tup (.inl (.inl h)) (.cons (.int _) (.cons (.int _) (.cons (.int _) .nil)))

/-! ### pieces of equal weight -/
/-- a piece: first value, last value, weight -/
structure Pc where
  a : Int
  b : Int
  c : Int
def out (e : Es) (v : Int) : Bool := !(decide (e.l ≤ v) && decide (v ≤ e.h))
def uw (es : List Es) (v : Int) : Int := ((es.filter fun e => out e v).map fun e => (e.w : Int)).sum
def addP (ps : List Pc) (lo hi m : Int) : List Pc :=
  match ps.getLast? with
  | some q => if q.c = m then ps.set (ps.length - 1) ⟨q.a, hi, m⟩ else ps ++ [⟨lo, hi, m⟩]
  | none => ps ++ [⟨lo, hi, m⟩]
theorem snoc_of {α : Type} : ∀ {l : List α}, l ≠ [] → ∃ m y, l = m ++ [y]
  | [], h => absurd rfl h
  | [x], _ => ⟨[], x, rfl⟩
  | x :: y :: t, _ => by
    obtain ⟨m, z, e⟩ := snoc_of (l := y :: t) (List.cons_ne_nil _ _)
    exact ⟨x :: m, z, by rw [e]; rfl⟩
theorem addP_nil (lo hi m : Int) : addP [] lo hi m = [⟨lo, hi, m⟩] := rfl
theorem addP_snoc (qs : List Pc) (q : Pc) (lo hi m : Int) : addP (qs ++ [q]) lo hi m = if q.c = m then qs ++ [⟨q.a, hi, m⟩] else qs ++ [q] ++ [⟨lo, hi, m⟩] := by
  unfold addP
  rw [List.getLast?_concat]
  simp
theorem addP_add (ps : List Pc) (a b c d m : Int) : addP (addP ps a b m) c d m = addP ps a d m := by
  by_cases h : ps = []
  · subst h
    rw [addP_nil, addP_nil]
    exact (addP_snoc [] _ _ _ _).trans (by rw [if_pos rfl]; rfl)
  · obtain ⟨qs, q, rfl⟩ := snoc_of h
    rw [addP_snoc, addP_snoc]
    by_cases z : q.c = m
    · rw [if_pos z, if_pos z, addP_snoc, if_pos rfl]
    · rw [if_neg z, if_neg z, addP_snoc, if_pos rfl]
theorem addP_fold (u : Int → Int) (m a : Int) : ∀ (vs : List Int) (ps : List Pc) (b : Int), (∀ v, v ∈ vs → u v = m) → vs.foldl (fun ps v => addP ps v v (u v)) (addP ps a b m) = addP ps a ((b :: vs).getLast (List.cons_ne_nil _ _)) m
  | [], ps, b, _ => rfl
  | v :: vs, ps, b, h => by
    rw [List.foldl_cons, h v List.mem_cons_self, addP_add, addP_fold u m a vs ps v (fun x hx => h x (List.mem_cons_of_mem _ hx))]
    congr 1
def runs (last : Int) : Int → List Int → List (Int × Int)
  | s, [] => [(s, last)]
  | s, t :: ts => (s, t - 1) :: runs last t ts
theorem runs_zip (last : Int) : ∀ (s : Int) (ts : List Int), runs last s ts = (s :: ts).zip (ts.map (fun t => t - 1) ++ [last])
  | s, [] => rfl
  | s, t :: ts => by rw [runs, runs_zip last t ts]; rfl
theorem split_lt (t : Int) : ∀ (vs : List Int), vs.Pairwise (· ≤ ·) → vs = vs.filter (fun v => decide (v < t)) ++ vs.filter (fun v => !decide (v < t))
  | [], _ => rfl
  | v :: vs, h => by
    obtain ⟨h1, h2⟩ := List.pairwise_cons.mp h
    by_cases z : v < t
    · rw [List.filter_cons_of_pos (by simpa using z), List.filter_cons_of_neg (by simpa using z), List.cons_append, ← split_lt t vs h2]
    · have e : vs.filter (fun v => decide (v < t)) = [] := by
        rw [List.filter_eq_nil_iff]
        intro x hx y
        have := h1 x hx
        have := of_decide_eq_true y
        omega
      have e2 : vs.filter (fun v => !decide (v < t)) = vs := by
        rw [List.filter_eq_self]
        intro x hx
        have := h1 x hx
        simp
        omega
      rw [List.filter_cons_of_neg (by simpa using z), List.filter_cons_of_pos (by simpa using z), e, e2]
      rfl
theorem one_run (u : Int → Int) (s e : Int) (vs : List Int) (ps : List Pc) (hs : vs.Pairwise (· ≤ ·)) (hb : ∀ v, v ∈ vs → s ≤ v ∧ v ≤ e) (h1 : s ∈ vs) (h2 : e ∈ vs) (hu : ∀ v, v ∈ vs → u v = u s) : vs.foldl (fun ps v => addP ps v v (u v)) ps = addP ps s e (u s) := by
  match vs, hs, hb, h1, h2, hu with
  | v :: vs, hs, hb, h1, h2, hu =>
    obtain ⟨p1, p2⟩ := List.pairwise_cons.mp hs
    have hv : v = s := by
      have := (hb v List.mem_cons_self).1
      rcases List.mem_cons.mp h1 with q | q
      · exact q.symm
      · have := p1 s q
        omega
    subst hv
    have hl : (v :: vs).getLast (List.cons_ne_nil _ _) = e := by
      have m := List.getLast_mem (List.cons_ne_nil v vs)
      have g := (hb _ m).2
      obtain ⟨qs, y, eq⟩ := snoc_of (List.cons_ne_nil v vs)
      have gl : (v :: vs).getLast (List.cons_ne_nil _ _) = y := by simp [eq]
      rw [eq] at h2 hs
      rw [gl] at g ⊢
      rcases List.mem_append.mp h2 with q | q
      · have := (List.pairwise_append.mp hs).2.2 e q y (by simp)
        omega
      · exact (List.mem_singleton.mp q).symm
    rw [List.foldl_cons, addP_fold u (u v) v vs ps v (fun x hx => hu x (List.mem_cons_of_mem _ hx)), hl]
theorem many_runs (u : Int → Int) (last : Int) : ∀ (ts : List Int) (s : Int) (vs : List Int) (ps : List Pc), vs.Pairwise (· ≤ ·) → (∀ v, v ∈ vs → s ≤ v ∧ v ≤ last) → (s :: ts).Pairwise (· < ·) → (∀ t, t ∈ ts → t ≤ last) → s ∈ vs → last ∈ vs → (∀ t, t ∈ ts → t ∈ vs ∧ t - 1 ∈ vs) →
    (∀ v w, s ≤ v → v ≤ w → w ≤ last → (∀ t, t ∈ ts → ¬ (v < t ∧ t ≤ w)) → u v = u w) → vs.foldl (fun ps v => addP ps v v (u v)) ps = (runs last s ts).foldl (fun ps r => addP ps r.1 r.2 (u r.1)) ps
  | [], s, vs, ps, hs, hb, _, _, h1, h2, _, hu => one_run u s last vs ps hs hb h1 h2 fun v hv => (hu s v (Int.le_refl _) (hb v hv).1 (hb v hv).2 (fun t ht => nomatch ht)).symm
  | t :: ts, s, vs, ps, hs, hb, hts, hl, h1, h2, hm, hu => by
    obtain ⟨q1, q2⟩ := List.pairwise_cons.mp hts
    obtain ⟨q3, q4⟩ := List.pairwise_cons.mp q2
    have st := q1 t List.mem_cons_self
    have tl := hl t List.mem_cons_self
    have mlo : ∀ v, v ∈ vs.filter (fun v => decide (v < t)) ↔ v ∈ vs ∧ v < t := fun v => by simp [List.mem_filter]
    have mhi : ∀ v, v ∈ vs.filter (fun v => !decide (v < t)) ↔ v ∈ vs ∧ t ≤ v := fun v => by simp [List.mem_filter]
    rw [split_lt t vs hs, List.foldl_append, runs, List.foldl_cons]
    rw [one_run u s (t - 1) _ ps (hs.filter _) (fun v hv => by
      obtain ⟨a, b⟩ := (mlo v).mp hv
      have := hb v a
      omega) ((mlo s).mpr ⟨h1, st⟩) ((mlo _).mpr ⟨(hm t List.mem_cons_self).2, by omega⟩) fun v hv => by
      obtain ⟨a, b⟩ := (mlo v).mp hv
      have := hb v a
      refine (hu s v (Int.le_refl _) this.1 this.2 fun x hx z => ?_).symm
      rcases List.mem_cons.mp hx with y | y
      · omega
      · have := q3 x y
        omega]
    refine many_runs u last ts t _ _ (hs.filter _) (fun v hv => ?_) q2 (fun x hx => hl x (List.mem_cons_of_mem _ hx)) ((mhi t).mpr ⟨(hm t List.mem_cons_self).1, Int.le_refl _⟩) ((mhi last).mpr ⟨h2, tl⟩) (fun x hx => ?_) fun v w a b c d => ?_
    · obtain ⟨a, b⟩ := (mhi v).mp hv
      exact ⟨b, (hb v a).2⟩
    · have y := q3 x hx
      obtain ⟨a, b⟩ := hm x (List.mem_cons_of_mem _ hx)
      exact ⟨(mhi x).mpr ⟨a, by omega⟩, (mhi _).mpr ⟨b, by omega⟩⟩
    · refine hu v w (by omega) b c fun x hx z => ?_
      rcases List.mem_cons.mp hx with y | y
      · omega
      · exact d x y z
/-- where runs of equal weight may begin -/
def brk (es : List Es) : List Int := es.map (fun e => e.l) ++ es.map (fun e => e.h + 1)
def mks (es : List Es) : List Int := es.flatMap fun e => [e.l - 1, e.l, e.h, e.h + 1]
theorem mks_mem {es : List Es} {e : Es} (h : e ∈ es) : e.l - 1 ∈ mks es ∧ e.l ∈ mks es ∧ e.h ∈ mks es ∧ e.h + 1 ∈ mks es := by
  unfold mks
  refine ⟨?_, ?_, ?_, ?_⟩ <;> exact List.mem_flatMap.mpr ⟨e, h, by simp⟩
theorem brk_mks {es : List Es} {t : Int} (h : t ∈ brk es) : t ∈ mks es ∧ t - 1 ∈ mks es := by
  unfold brk at h
  rcases List.mem_append.mp h with q | q
  · obtain ⟨e, he, rfl⟩ := List.mem_map.mp q
    exact ⟨(mks_mem he).2.1, (mks_mem he).1⟩
  · obtain ⟨e, he, rfl⟩ := List.mem_map.mp q
    refine ⟨(mks_mem he).2.2.2, ?_⟩
    have : e.h + 1 - 1 = e.h := by omega
    rw [this]
    exact (mks_mem he).2.2.1
theorem uw_eq {es : List Es} {v w : Int} (hv : v ≤ w) (h : ∀ t, t ∈ brk es → ¬ (v < t ∧ t ≤ w)) : uw es v = uw es w := by
  unfold uw
  have e : es.filter (fun e => out e v) = es.filter (fun e => out e w) := by
    refine List.filter_congr fun e he => ?_
    have h1 := h e.l (by unfold brk; exact List.mem_append_left _ (List.mem_map.mpr ⟨e, he, rfl⟩))
    have h2 := h (e.h + 1) (by unfold brk; exact List.mem_append_right _ (List.mem_map.mpr ⟨e, he, rfl⟩))
    unfold out
    congr 1
    by_cases a : e.l ≤ v <;> by_cases b : v ≤ e.h <;> by_cases c : e.l ≤ w <;> by_cases d : w ≤ e.h <;> simp only [a, b, c, d, decide_true, decide_false, Bool.and_true, Bool.and_false] <;> omega
  rw [e]
/-- what the program tells -/
def pcs (es : List Es) (first last : Int) (inner : List Int) : List Pc := (runs last first inner).foldl (fun ps r => addP ps r.1 r.2 (uw es r.1)) []
/-- what the law reckons from the values ms -/
def dueP (es : List Es) (first last : Int) (ms : List Int) : List Pc := ms.foldl (fun ps v => if first ≤ v ∧ v ≤ last then addP ps v v (uw es v) else ps) []
theorem due_filter (es : List Es) (first last : Int) : ∀ (ms : List Int) (ps : List Pc), ms.foldl (fun ps v => if first ≤ v ∧ v ≤ last then addP ps v v (uw es v) else ps) ps = (ms.filter fun v => decide (first ≤ v ∧ v ≤ last)).foldl (fun ps v => addP ps v v (uw es v)) ps
  | [], _ => rfl
  | v :: ms, ps => by
    rw [List.foldl_cons]
    by_cases h : first ≤ v ∧ v ≤ last
    · rw [if_pos h, List.filter_cons_of_pos (by simpa using h), List.foldl_cons, due_filter es first last ms]
    · rw [if_neg h, List.filter_cons_of_neg (by simpa using h), due_filter es first last ms]
theorem pieces_due {es : List Es} {first last : Int} {inner ms : List Int} (hfl : first ≤ last) (hi : inner.Pairwise (· < ·)) (hin : ∀ t, t ∈ inner ↔ t ∈ brk es ∧ first < t ∧ t ≤ last) (hms : ms.Pairwise (· ≤ ·)) (hp : ∀ v, v ∈ ms ↔ v ∈ mks es ∨ v = first ∨ v = last) : pcs es first last inner = dueP es first last ms := by
  unfold pcs dueP
  rw [due_filter]
  have mem : ∀ v, v ∈ ms.filter (fun v => decide (first ≤ v ∧ v ≤ last)) ↔ (v ∈ mks es ∨ v = first ∨ v = last) ∧ first ≤ v ∧ v ≤ last := fun v => by rw [List.mem_filter, hp]; simp
  refine (many_runs (uw es) last inner first _ [] (hms.filter _) (fun v hv => ((mem v).mp hv).2) (List.pairwise_cons.mpr ⟨fun t ht => ((hin t).mp ht).2.1, hi⟩) (fun t ht => ((hin t).mp ht).2.2) ((mem _).mpr ⟨.inr (.inl rfl), Int.le_refl _, hfl⟩) ((mem _).mpr ⟨.inr (.inr rfl), hfl, Int.le_refl _⟩) (fun t ht => ?_) fun v w a b c d => uw_eq b fun t ht z => d t ((hin t).mpr ⟨ht, by omega, by omega⟩) z).symm
  obtain ⟨q1, q2, q3⟩ := (hin t).mp ht
  obtain ⟨m1, m2⟩ := brk_mks q1
  exact ⟨(mem _).mpr ⟨.inl m1, by omega, q3⟩, (mem _).mpr ⟨.inl m2, by omega, by omega⟩⟩

/-! ### what the defs promise -/
def Prs (H : Hp) (ts : List Addr) (rs : List (Int × Int)) : Prop := ts.length = rs.length ∧ ∀ (j : Nat) (t : Addr) (r : Int × Int), ts[j]? = some t → rs[j]? = some r → H t = some (.tup [.int r.1, .int r.2])
def etri (q : Pc) : List V := [.int q.a, .int q.b, .int q.c]
def Tr3 (H : Hp) (ts : List Addr) (ps : List Pc) : Prop := ts.length = ps.length ∧ ∀ (j : Nat) (t : Addr) (q : Pc), ts[j]? = some t → ps[j]? = some q → H t = some (.tup (etri q))
theorem Tr3.same {H H' : Hp} {ts : List Addr} {ps : List Pc} (h : Tr3 H ts ps) (e : Same H H') : Tr3 H' ts ps := ⟨h.1, fun j t q h1 h2 => e _ _ (h.2 j t q h1 h2)⟩
theorem Tr3.upd {H : Hp} {f : Addr} {o : HO} {xs : List V} {ts : List Addr} {ps : List Pc} (h : Tr3 H ts ps) (hf : H f = some (.lst xs)) : Tr3 (L2.upd H f o) ts ps := ⟨h.1, fun j t q h1 h2 => by
  have z := h.2 j t q h1 h2
  rw [upd_ne (fun y => by rw [y, hf] at z; cases z)]; exact z⟩
theorem Tr3.tab {H H' : Hp} {T : Addr} {ts : List Addr} {ps : List Pc} (h : Tr3 H ts ps) (b : But T H H') (t : TabG H T) : Tr3 H' ts ps := ⟨h.1, fun j u q h1 h2 => b _ _ (fun z => by
  obtain ⟨l, e, _⟩ := t
  have y := h.2 j u q h1 h2
  rw [z, e] at y; cases y) (h.2 j u q h1 h2)⟩
theorem Tr3.at {H : Hp} {ts : List Addr} {ps : List Pc} (h : Tr3 H ts ps) {i : Nat} {x : V} (e : (ts.map V.ref)[i]? = some x) : ∃ t q, x = .ref t ∧ ts[i]? = some t ∧ ps[i]? = some q ∧ H t = some (.tup (etri q)) := by
  rw [List.getElem?_map] at e
  cases z : ts[i]? with
  | none => rw [z] at e; cases e
  | some t =>
    rw [z] at e
    have hi : i < ps.length := by rw [← h.1]; exact (List.getElem?_eq_some_iff.mp z).1
    exact ⟨t, ps[i], (Option.some.inj e).symm, rfl, List.getElem?_eq_getElem hi, h.2 i t _ z (List.getElem?_eq_getElem hi)⟩
/-- a list of pieces -/
structure Pcs (H : Hp) (p : Addr) (ts : List Addr) (ps : List Pc) : Prop where
  li : H p = some (.lst (ts.map V.ref))
  tr : Tr3 H ts ps
theorem Pcs.same {H H' : Hp} {p : Addr} {ts : List Addr} {ps : List Pc} (h : Pcs H p ts ps) (e : Same H H') : Pcs H' p ts ps := ⟨e _ _ h.li, h.tr.same e⟩
theorem Pcs.tab {H H' : Hp} {p T : Addr} {ts : List Addr} {ps : List Pc} (h : Pcs H p ts ps) (b : But T H H') (t : TabG H T) : Pcs H' p ts ps := ⟨b _ _ (TabG.ne t h.li) h.li, h.tr.tab b t⟩
theorem Pcs.len {H : Hp} {p : Addr} {ts : List Addr} {ps : List Pc} (h : Pcs H p ts ps) : (ts.map V.ref).length = ps.length := by rw [List.length_map]; exact h.tr.1
/-- the next value of a piece: into the last piece or behind it -/
theorem Pcs.new {H : Hp} {p t : Addr} {ts : List Addr} {ps : List Pc} {q : Pc} (h : Pcs H p ts ps) (ht : H t = none) : Pcs (L2.upd (L2.upd H t (.tup (etri q))) p (.lst (ts.map V.ref ++ [.ref t]))) p (ts ++ [t]) (ps ++ [q]) := by
  have s1 : Same H (L2.upd H t (.tup (etri q))) := Same.new ht
  have pt : t ≠ p := (ne_of_none h.li ht).symm
  refine ⟨by rw [upd_same, List.map_append]; rfl, by simp [h.tr.1], fun j u x h1 h2 => ?_⟩
  by_cases z : j < ts.length
  · rw [List.getElem?_append_left z] at h1
    rw [List.getElem?_append_left (by rw [← h.tr.1]; exact z)] at h2
    exact ((h.tr.same s1).upd (s1 _ _ h.li)).2 j u x h1 h2
  · have hl := (List.getElem?_eq_some_iff.mp h1).1
    rw [List.length_append, List.length_singleton] at hl
    obtain rfl : j = ts.length := by omega
    rw [List.getElem?_append_right (Nat.le_refl _), Nat.sub_self] at h1
    rw [h.tr.1, List.getElem?_append_right (Nat.le_refl _), Nat.sub_self] at h2
    cases h1
    cases h2
    rw [upd_ne pt, upd_same]
theorem Pcs.put {H : Hp} {p t : Addr} {ts : List Addr} {ps : List Pc} {q : Pc} {k : Nat} (h : Pcs H p ts ps) (ht : H t = none) : Pcs (L2.upd (L2.upd H t (.tup (etri q))) p (.lst ((ts.map V.ref).set k (.ref t)))) p (ts.set k t) (ps.set k q) := by
  have s1 : Same H (L2.upd H t (.tup (etri q))) := Same.new ht
  have pt : t ≠ p := (ne_of_none h.li ht).symm
  refine ⟨by rw [upd_same, List.map_set], by simp [h.tr.1], fun j u x h1 h2 => ?_⟩
  have hj : j < ts.length := by
    have := (List.getElem?_eq_some_iff.mp h1).1
    rw [List.length_set] at this
    exact this
  by_cases z : k = j
  · subst z
    rw [List.getElem?_set_self hj] at h1
    rw [List.getElem?_set_self (by rw [← h.tr.1]; exact hj)] at h2
    cases h1
    cases h2
    rw [upd_ne pt, upd_same]
  · rw [List.getElem?_set_ne z] at h1 h2
    exact ((h.tr.same s1).upd (s1 _ _ h.li)).2 j u x h1 h2
def spUw (K : PySem.W.Frag) (T : Addr) : Sp := fun vs H Q _ => ∃ (a : Addr) (v : Int) (es : List Es), vs = [.ref a, .int v] ∧ Rw K H a es ∧ TabG H T ∧ ∀ H2, Tabbed T H H2 → Q (.int (uw es v)) H2
def spRuns (K : PySem.W.Frag) : Sp := fun vs H Q _ => ∃ (a : Addr) (first last : Int) (es : List Es), vs = [.ref a, .int first, .int last] ∧ Rw K H a es ∧ es.length ≤ 100 ∧ first ≤ last ∧
  ∀ (S : Addr) (ts : List Addr) (inner : List Int) (H' : Hp), inner.Pairwise (· < ·) → (∀ t, t ∈ inner ↔ t ∈ brk es ∧ first < t ∧ t ≤ last) → inner.length ≤ 200 → H S = none → H' S = some (.lst (ts.map V.ref)) → Prs H' ts (runs last first inner) → Same H H' → Q (.ref S) H'
def spWp (K : PySem.W.Frag) (T : Addr) : Sp := fun vs H Q _ => ∃ (a : Addr) (first last : Int) (es : List Es), vs = [.ref a, .int first, .int last] ∧ Rw K H a es ∧ es.length ≤ 100 ∧ first ≤ last ∧ TabG H T ∧
  ∀ (p : Addr) (ts : List Addr) (inner : List Int) (H' : Hp), inner.Pairwise (· < ·) → (∀ t, t ∈ inner ↔ t ∈ brk es ∧ first < t ∧ t ≤ last) → Pcs H' p ts (pcs es first last inner) → H p = none → But T H H' → TabG H' T → Q (.ref p) H'
def spMarks : Sp := fun vs H Q _ => ∃ (r : Addr) (ts : List Addr) (es : List Es), vs = [.ref r] ∧ RwX H r ts es ∧
  ∀ (l : Addr) (ns : List Int) (H' : Hp), ns.Perm (mks es) → H l = none → H' l = some (.lst (ns.map V.int)) → ns.length ≤ 1000 → Same H H' → Q (.ref l) H'
def spMass : Sp := fun vs H Q _ => ∃ (r : Addr) (v : Int) (ts : List Addr) (es : List Es), vs = [.ref r, .int v] ∧ RwX H r ts es ∧ ∀ H', Same H H' → Q (.int (uw es v)) H'
def spEnd : Sp := fun vs H Q _ => ∃ (a r : Addr) (ts : List Addr) (es : List Es), vs = [.ref a, .ref r] ∧ Src H a ∧ r ≠ a ∧ RwX H r ts es ∧ ∀ (x : Int) (H' : Hp), Src H' a → But a H H' → Q (.int x) H'
def spPieces : Sp := fun vs H Q _ => ∃ (r : Addr) (first last : Int) (ts : List Addr) (es : List Es), vs = [.ref r, .int first, .int last] ∧ RwX H r ts es ∧
  ∀ (d : Addr) (us : List Addr) (ms : List Int) (H' : Hp), ms.Pairwise (· ≤ ·) → (∀ v, v ∈ ms ↔ v ∈ mks es ∨ v = first ∨ v = last) → H d = none → Pcs H' d us (dueP es first last ms) → us.length ≤ 2000 → Same H H' → Q (.ref d) H'
def spSame : Sp := fun vs H Q _ => ∃ (p q : Addr) (ts us : List Addr) (ps : List Pc), vs = [.ref p, .ref q] ∧ Pcs H p ts ps ∧ Pcs H q us ps ∧ ps.length ≤ 2000 ∧ Q (.bl true) H
def spLaw (K : PySem.W.Frag) (T : Addr) : Sp := fun vs H Q _ => ∃ (a : Addr) (ns : List Int), vs = [.ref a] ∧ SqL K H a (ns.map V.int) ∧ ns.length ≤ 63 ∧ H T = some (.tbl #[]) ∧ ∀ H', Q (.bl true) H'
/-! ### keys of the dict of starts -/
structure DkP (kvs : List (Key × V)) (S : List Int) : Prop where
  le : kvs.length ≤ S.length
  ks : ∃ ks : List Int, kvs.map (·.1) = ks.map Sum.inl ∧ ks.Nodup ∧ ∀ t, t ∈ ks ↔ t ∈ S
theorem DkP.nil : DkP [] [] := ⟨Nat.le_refl _, [], rfl, List.nodup_nil, fun _ => Iff.rfl⟩
theorem key_mem {kvs : List (Key × V)} {ks : List Int} (e : kvs.map (·.1) = ks.map Sum.inl) (k : Int) : (kvs.any fun kv => decide (kv.1 = (Sum.inl k : Key))) = true ↔ k ∈ ks := by
  rw [List.any_eq_true]
  constructor
  · rintro ⟨kv, h1, h2⟩
    have m : kv.1 ∈ ks.map Sum.inl := by rw [← e]; exact List.mem_map.mpr ⟨kv, h1, rfl⟩
    rw [of_decide_eq_true h2] at m
    obtain ⟨t, ht, q⟩ := List.mem_map.mp m
    cases q
    exact ht
  · intro h
    have m : (Sum.inl k : Key) ∈ kvs.map (·.1) := by rw [e]; exact List.mem_map.mpr ⟨k, h, rfl⟩
    obtain ⟨kv, h1, h2⟩ := List.mem_map.mp m
    exact ⟨kv, h1, decide_eq_true h2⟩
theorem DkP.put {kvs : List (Key × V)} {S : List Int} (h : DkP kvs S) (k : Int) (v : V) : DkP (putK kvs (.inl k) v) (S ++ [k]) := by
  obtain ⟨le, ks, e, nd, m⟩ := h
  have hl := length_putK kvs (.inl k) v
  refine ⟨by simp only [List.length_append, List.length_singleton]; omega, ?_⟩
  unfold putK
  by_cases z : (kvs.any fun kv => decide (kv.1 = (Sum.inl k : Key))) = true
  · rw [if_pos z]
    refine ⟨ks, ?_, nd, fun t => ?_⟩
    · rw [← e, List.map_map]
      refine List.map_congr_left fun kv _ => ?_
      show (if kv.1 = (Sum.inl k : Key) then (kv.1, v) else kv).1 = kv.1
      split <;> rfl
    · have := (key_mem e k).mp z
      rw [m t, List.mem_append, List.mem_singleton]
      constructor
      · exact .inl
      · rintro (q | rfl)
        · exact q
        · exact (m t).mp this
  · rw [if_neg z]
    have nk : k ∉ ks := fun q => z ((key_mem e k).mpr q)
    refine ⟨ks ++ [k], by rw [List.map_append, List.map_append, e]; rfl, ?_, fun t => by simp [m t]⟩
    exact List.nodup_append.mpr ⟨nd, by simp, fun a ha b hb => by
      rw [List.mem_singleton.mp hb]
      intro q
      rw [q] at ha
      exact nk ha⟩
theorem DkP.mrg : ∀ {more : List (Key × V)} {ks : List Int}, more.map (·.1) = ks.map Sum.inl → ∀ {kvs : List (Key × V)} {S : List Int}, DkP kvs S → DkP (Lz.mrgK kvs more) (S ++ ks)
  | [], [], _, kvs, S, h => by rw [List.append_nil]; exact h
  | [], _ :: _, e, _, _, _ => by simp at e
  | _ :: _, [], e, _, _, _ => by simp at e
  | (k, v) :: more, t :: ks, e, kvs, S, h => by
    simp only [List.map_cons, List.cons.injEq] at e
    obtain ⟨rfl, e2⟩ := e
    have := DkP.mrg e2 (h.put t v)
    rw [List.append_assoc] at this
    exact this

structure Txt (P : Program) (K : PySem.W.Frag) (mg : Str → Option Value) where
  a_untrue_weight : Addr
  d_untrue_weight : FuncData
  F_untrue_weight : FunD K "untrue_weight" "untrue_weight" (defArgs s_untrue_weight) (defBody s_untrue_weight) (defScope s_untrue_weight) [] [] a_untrue_weight d_untrue_weight
  b_untrue_weight : Binds K d_untrue_weight ["estimates", "value"] []
  c_untrue_weight : Addr
  P_untrue_weight : Addr
  hc_untrue_weight : d_untrue_weight.code = .ref c_untrue_weight
  m_untrue_weight : mg "untrue_weight" = some (.ref a_untrue_weight)
  a_weight_pieces : Addr
  d_weight_pieces : FuncData
  F_weight_pieces : Fun K "weight_pieces" "weight_pieces" s_weight_pieces a_weight_pieces d_weight_pieces
  b_weight_pieces : Binds K d_weight_pieces ["estimates", "first", "last"] []
  m_weight_pieces : mg "weight_pieces" = some (.ref a_weight_pieces)
  a_even_runs : Addr
  d_even_runs : FuncData
  F_even_runs : Fun K "_even_runs" "_even_runs" s_even_runs a_even_runs d_even_runs
  b_even_runs : Binds K d_even_runs ["estimates", "first", "last"] []
  m_even_runs : mg "_even_runs" = some (.ref a_even_runs)
  a_law_source : Addr
  d_law_source : FuncData
  F_law_source : Fun K "_law_source" "_law_source" s_law_source a_law_source d_law_source
  b_law_source : Binds K d_law_source ["_law_script", "_law_place"] []
  m_law_source : mg "_law_source" = some (.ref a_law_source)
  a_law_draw : Addr
  d_law_draw : FuncData
  F_law_draw : Fun K "_law_draw" "_law_draw" s_law_draw a_law_draw d_law_draw
  b_law_draw : Binds K d_law_draw ["_law_source_here", "_law_size"] []
  m_law_draw : mg "_law_draw" = some (.ref a_law_draw)
  a_law_between : Addr
  d_law_between : FuncData
  F_law_between : Fun K "_law_between" "_law_between" s_law_between a_law_between d_law_between
  b_law_between : Binds K d_law_between ["_law_source_here", "_law_least", "_law_most"] []
  m_law_between : mg "_law_between" = some (.ref a_law_between)
  a_law_whole : Addr
  d_law_whole : FuncData
  F_law_whole : Fun K "_law_whole" "_law_whole" s_law_whole a_law_whole d_law_whole
  b_law_whole : Binds K d_law_whole ["_law_actual"] []
  m_law_whole : mg "_law_whole" = some (.ref a_law_whole)
  a_law_estimates : Addr
  d_law_estimates : FuncData
  F_law_estimates : Fun K "_law_estimates" "_law_estimates" s_law_estimates a_law_estimates d_law_estimates
  b_law_estimates : Binds K d_law_estimates ["_law_source_here", "_law_count", "_law_most"] []
  m_law_estimates : mg "_law_estimates" = some (.ref a_law_estimates)
  a_law_far : Addr
  d_law_far : FuncData
  F_law_far : Fun K "_law_far" "_law_far" s_law_far a_law_far d_law_far
  b_law_far : Binds K d_law_far ["_law_source_here"] []
  m_law_far : mg "_law_far" = some (.ref a_law_far)
  a_law_moved : Addr
  d_law_moved : FuncData
  F_law_moved : Fun K "_law_moved" "_law_moved" s_law_moved a_law_moved d_law_moved
  b_law_moved : Binds K d_law_moved ["_law_source_here", "_law_rows"] []
  m_law_moved : mg "_law_moved" = some (.ref a_law_moved)
  a_law_marks : Addr
  d_law_marks : FuncData
  F_law_marks : Fun K "_law_marks" "_law_marks" s_law_marks a_law_marks d_law_marks
  b_law_marks : Binds K d_law_marks ["_law_rows"] []
  m_law_marks : mg "_law_marks" = some (.ref a_law_marks)
  a_law_untrue_mass : Addr
  d_law_untrue_mass : FuncData
  F_law_untrue_mass : Fun K "_law_untrue_mass" "_law_untrue_mass" s_law_untrue_mass a_law_untrue_mass d_law_untrue_mass
  b_law_untrue_mass : Binds K d_law_untrue_mass ["_law_rows", "_law_value"] []
  m_law_untrue_mass : mg "_law_untrue_mass" = some (.ref a_law_untrue_mass)
  a_law_end : Addr
  d_law_end : FuncData
  F_law_end : Fun K "_law_end" "_law_end" s_law_end a_law_end d_law_end
  b_law_end : Binds K d_law_end ["_law_source_here", "_law_rows"] []
  m_law_end : mg "_law_end" = some (.ref a_law_end)
  a_law_pieces : Addr
  d_law_pieces : FuncData
  F_law_pieces : Fun K "_law_pieces" "_law_pieces" s_law_pieces a_law_pieces d_law_pieces
  b_law_pieces : Binds K d_law_pieces ["_law_rows", "_law_first", "_law_last"] []
  m_law_pieces : mg "_law_pieces" = some (.ref a_law_pieces)
  a_law_same : Addr
  d_law_same : FuncData
  F_law_same : Fun K "_law_same" "_law_same" s_law_same a_law_same d_law_same
  b_law_same : Binds K d_law_same ["_law_told", "_law_due"] []
  m_law_same : mg "_law_same" = some (.ref a_law_same)
  a_law : Addr
  d_law : FuncData
  F_law : Fun K "law" "law" s_law a_law d_law
  b_law : Binds K d_law ["_law_script"] []
  m_law : mg "law" = some (.ref a_law)
  z_abs : mg "abs" = none
  z_bool : mg "bool" = none
  z_int : mg "int" = none
  z_isinstance : mg "isinstance" = none
  z_len : mg "len" = none
  z_list : mg "list" = none
  z_min : mg "min" = none
  z_range : mg "range" = none
  z_sorted : mg "sorted" = none
  z_sum : mg "sum" = none
  z_tuple : mg "tuple" = none
  z_zip : mg "zip" = none
structure Tb {P : Program} {K : PySem.W.Frag} {mg : Str → Option Value} (T : Txt P K mg) (base : Heap) : Prop where
  tb_untrue_weight : TabB base mg T.c_untrue_weight T.P_untrue_weight
theorem atI_int {ns : List Int} {j : Nat} (h : j < ns.length) : atI (ns.map V.int) (j : Int) = some (.int ns[j]) :=
  atI_nat (by rw [List.getElem?_map, List.getElem?_eq_getElem h]; rfl)
theorem sz1 : 1 ≤ sizeLine := by decide
theorem sz2 : 2 ≤ sizeLine := by decide
theorem sz3 : 3 ≤ sizeLine := by decide
theorem sz4 : 4 ≤ sizeLine := by decide
theorem sz5 : 5 ≤ sizeLine := by decide
theorem sz6 : 6 ≤ sizeLine := by decide
theorem ok_law_source (T : Txt P K mg) (B : Tb T base) : FnOk P w K mg base CX0 1 T.a_law_source T.d_law_source ["_law_script", "_law_place"] (spSource K) := by
  refine T.F_law_source.ok sc_law_source (fun vs H Q E h => ?_) (fun cdv A outer s H vs Q E hr h => ?_)
  · obtain ⟨a, ns, p, rfl, _⟩ := h
    rfl
  refine ⟨_, (pss_cons (ps_if (pt_cmpR op_lt (pv 1) (pe_callB call_len_seq (by rfl) T.z_len (by decide +kernel) (pa_cons (pv 0) pa_nil)) (nomark _)) (pss_one (ps_ret (pe_lst (pa_cons (pe_callB call_abs (by rfl) T.z_abs (by decide +kernel) (pa_cons (pe_ix ix_list (pv 0) (pv 1) (fun _ _ => rfl)) pa_nil)) (pa_cons (pv 1) pa_nil))))) pss_nil) (pss_cons (ps_if (pt_cmpR op_eq (pe_callB call_len_seq (by rfl) T.z_len (by decide +kernel) (pa_cons (pv 0) pa_nil)) pe_int (nomark _)) (pss_one (ps_ret (pe_lst (pa_cons (pe_op op_add (pe_op op_mul pe_int (pv 1)) pe_int) (pa_cons (pv 1) pa_nil))))) pss_nil) (pss_one (ps_ret (pe_lst (pa_cons (pe_op op_add (pe_op op_add (pe_op op_mul pe_int (pe_callB call_abs (by rfl) T.z_abs (by decide +kernel) (pa_cons (pe_ix ix_list (pv 0) (pe_op op_mod (pe_callTy call_int1 (by rfl) T.z_int (by decide +kernel) (pa_cons (pv 1) pa_nil)) (pe_callB call_len_seq (by rfl) T.z_len (by decide +kernel) (pa_cons (pv 0) pa_nil))) (fun _ _ => rfl)) pa_nil))) (pe_op op_mul pe_int (pv 1))) pe_int) (pa_cons (pv 1) pa_nil))))))), ?_⟩
  obtain ⟨a, ns, p, rfl, hS, hp, k⟩ := h
  refine ⟨_, rfl, _, rfl, a, _, rfl, .inl hS, _, _, rfl, rfl, _, rfl, ?_⟩
  refine ite2 (fun c => ?_) (fun c => ?_)
  · have c := of_decide_eq_true c
    rw [List.length_map] at c
    obtain ⟨j, rfl⟩ := Int.eq_ofNat_of_zero_le hp
    have hj : j < ns.length := by omega
    refine ⟨_, rfl, _, rfl, a, _, _, _, rfl, rfl, hS, atI_int hj, _, rfl, _, rfl, sz2, fun l hl => ?_⟩
    exact k l _ hl (Same.new hl) ⟨_, _, upd_same⟩
  · refine ⟨_, rfl, a, _, rfl, .inl hS, rfl, _, rfl, ?_⟩
    refine ite2 (fun c2 => ?_) (fun c2 => ?_)
    · refine ⟨_, rfl, _, _, rfl, rfl, .inl ⟨by decide, by decide⟩, _, _, rfl, rfl, _, rfl, sz2, fun l hl => ?_⟩
      exact k l _ hl (Same.new hl) ⟨_, _, upd_same⟩
    · have c2 := of_decide_eq_false (Bool.eq_false_iff.mpr c2)
      have hpos : 0 < ns.length := by
        cases ns with
        | nil => exact absurd rfl c2
        | cons _ _ => exact Nat.succ_pos _
      have hm : (0 : Int) < ((ns.map V.int).length : Int) := by rw [List.length_map]; omega
      have h0 := Int.emod_nonneg p (Int.ne_of_gt hm)
      have h1 := Int.emod_lt_of_pos p hm
      obtain ⟨j, hj⟩ := Int.eq_ofNat_of_zero_le h0
      rw [List.length_map] at h1 hj
      have hj2 : j < ns.length := by omega
      refine ⟨_, rfl, _, rfl, .inl ⟨_, rfl, _, rfl, a, _, rfl, .inl hS, _, _, rfl, rfl, hm, ?_⟩⟩
      refine ⟨a, _, _, _, rfl, rfl, hS, (by rw [List.length_map, hj]; exact atI_int hj2), _, rfl, _, _, rfl, rfl, .inl ⟨by decide, by decide⟩, _, rfl, _, _, rfl, rfl, .inl ⟨by decide, by decide⟩, _, _, rfl, rfl, _, _, rfl, rfl, _, rfl, sz2, fun l hl => ?_⟩
      exact k l _ hl (Same.new hl) ⟨_, _, upd_same⟩
theorem ok_law_draw (T : Txt P K mg) (B : Tb T base) : FnOk P w K mg base CX0 1 T.a_law_draw T.d_law_draw ["_law_source_here", "_law_size"] (spDraw) := by
  refine T.F_law_draw.ok sc_law_draw (fun vs H Q E h => ?_) (fun cdv A outer s H vs Q E hr h => ?_)
  · obtain ⟨a, n, rfl, _⟩ := h
    rfl
  refine ⟨_, (pss_cons (ps_set (i := 2) sc_law_draw.nd rfl (Or.inl rfl) (pe_ix ix_list (pv 0) pe_int (fun _ _ => rfl))) (pss_cons (ps_if (pt_cmpR op_ge (pv 2) (pe_op op_pow pe_int pe_int) (nomark _)) (pss_cons (ps_asg (pe_op op_fdiv (pv 2) (pv 1)) (pg_sub (pv 0) pe_int set_list)) (pss_one (ps_ret (pe_op op_mod (pe_callTy call_int1 (by rfl) T.z_int (by decide +kernel) (pa_cons (pv 2) pa_nil)) (pv 1))))) pss_nil) (pss_cons (ps_asg (pe_op op_add (pe_ix ix_list (pv 0) pe_int (fun _ _ => rfl)) pe_int) (pg_sub (pv 0) pe_int set_list)) (pss_cons (ps_set (i := 3) sc_law_draw.nd rfl (Or.inl rfl) (pe_op op_mod (pe_callTy call_int1 (by rfl) T.z_int (by decide +kernel) (pa_cons (pe_op op_add (pe_op op_add (pv 2) (pe_op op_mul pe_int (pe_ix ix_list (pv 0) pe_int (fun _ _ => rfl)))) pe_int) pa_nil)) pe_int)) (pss_cons (ps_set (i := 3) sc_law_draw.nd rfl (Or.inl rfl) (pe_op op_mod (pe_callTy call_int1 (by rfl) T.z_int (by decide +kernel) (pa_cons (pe_op op_mul (pv 3) (pe_op op_add (pv 3) pe_int)) pa_nil)) pe_int)) (pss_cons (ps_set (i := 3) sc_law_draw.nd rfl (Or.inl rfl) (pe_op op_mod (pe_callTy call_int1 (by rfl) T.z_int (by decide +kernel) (pa_cons (pe_op op_add (pe_op op_mul (pv 3) (pe_op op_add (pv 3) pe_int)) (pe_op op_mul pe_int (pe_ix ix_list (pv 0) pe_int (fun _ _ => rfl)))) pa_nil)) pe_int)) (pss_one (ps_ret (pe_op op_mod (pe_callTy call_int1 (by rfl) T.z_int (by decide +kernel) (pa_cons (pe_op op_fdiv (pv 3) pe_int) pa_nil)) (pv 1)))))))))), ?_⟩
  obtain ⟨a, n, rfl, ⟨c, p, hS⟩, n0, n1, k⟩ := h
  refine ⟨_, rfl, _, _, _, _, rfl, rfl, .inl (.inl hS), rfl, ?_⟩
  refine ⟨_, rfl, _, _, rfl, rfl, ⟨by decide, by decide, by decide⟩, _, _, rfl, rfl, _, rfl, ?_⟩
  refine ite2 (fun c1 => ?_) (fun c1 => ?_)
  · refine ⟨_, rfl, _, rfl, _, _, rfl, rfl, ⟨n0, n1⟩, _, rfl, _, _, _, 0, rfl, rfl, hS, rfl, ?_⟩
    refine ⟨_, rfl, .inl ⟨_, rfl, _, rfl, _, _, rfl, rfl, n0, ?_⟩⟩
    exact k _ _ (Int.emod_nonneg c (Int.ne_of_gt n0)) (Int.emod_lt_of_pos c n0) ⟨_, _, upd_same⟩ But.upd
  · refine ⟨_, rfl, _, _, _, _, rfl, rfl, .inl (.inl hS), rfl, _, _, rfl, rfl, _, rfl, _, _, _, 1, rfl, rfl, hS, rfl, ?_⟩
    have hS1 : upd H a (.lst [.int c, .int (p + 1)]) a = some (.lst [.int c, .int (p + 1)]) := upd_same
    refine ⟨_, rfl, _, rfl, _, _, _, _, rfl, rfl, .inl (.inl hS1), rfl, _, _, rfl, rfl, .inl ⟨by decide, by decide⟩, _, _, rfl, rfl, _, _, rfl, rfl, .inl ⟨_, rfl, _, _, rfl, rfl, (show (0 : Int) < 2147483647 by decide), ?_⟩⟩
    have m0 := Int.emod_nonneg (c + 7919 * (p + 1) + 13) (show (2147483647 : Int) ≠ 0 by decide)
    have m1 := Int.emod_lt_of_pos (c + 7919 * (p + 1) + 13) (show (0 : Int) < 2147483647 by decide)
    generalize (c + 7919 * (p + 1) + 13) % 2147483647 = m at m0 m1 ⊢
    refine ⟨_, rfl, _, rfl, _, _, rfl, rfl, _, _, rfl, rfl, .inl ⟨by omega, by omega⟩, .inl ⟨_, rfl, _, _, rfl, rfl, (show (0 : Int) < 2147483629 by decide), ?_⟩⟩
    have m2 := Int.emod_nonneg (m * (m + 48271)) (show (2147483629 : Int) ≠ 0 by decide)
    have m3 := Int.emod_lt_of_pos (m * (m + 48271)) (show (0 : Int) < 2147483629 by decide)
    generalize m * (m + 48271) % 2147483629 = m' at m2 m3 ⊢
    refine ⟨_, rfl, _, rfl, _, _, rfl, rfl, _, _, rfl, rfl, .inl ⟨by omega, by omega⟩, _, rfl, _, _, _, _, rfl, rfl, .inl (.inl hS1), rfl, _, _, rfl, rfl, .inl ⟨by decide, by decide⟩, _, _, rfl, rfl, .inl ⟨_, rfl, _, _, rfl, rfl, (show (0 : Int) < 2147483647 by decide), ?_⟩⟩
    refine ⟨_, rfl, _, _, rfl, rfl, ⟨by decide, by decide⟩, .inl ⟨_, rfl, _, rfl, _, _, rfl, rfl, n0, ?_⟩⟩
    exact k _ _ (Int.emod_nonneg _ (Int.ne_of_gt n0)) (Int.emod_lt_of_pos _ n0) ⟨_, _, hS1⟩ But.upd
theorem isi_ty {K : PySem.W.Frag} {x : V} {H : Hp} {Q : VK} {a c : String} {b : Bool} (hx : TyOf K H x (.type a)) (hb : kitB a c = some b) (h : Q (.bl b) H) : rIsi K [x, .ty c] H Q :=
  ⟨_, _, _, _, _, rfl, .ty _, .base hx, kit_ty hb, h⟩
theorem kit_int_int : kitB "int" "int" = some true := by decide +kernel
theorem kit_int_bool : kitB "int" "bool" = some false := by decide +kernel
theorem kit_bool_bool : kitB "bool" "bool" = some true := by decide +kernel
theorem kit_bool_int : kitB "bool" "int" = some true := by decide +kernel
theorem kit_tup_tup : kitB "tuple" "tuple" = some true := by decide +kernel
theorem kit_lst_lst : kitB "list" "list" = some true := by decide +kernel
theorem kit_str_str : kitB "str" "str" = some true := by decide +kernel
theorem ok_law_whole (T : Txt P K mg) (B : Tb T base) : FnOk P w K mg base CX0 1 T.a_law_whole T.d_law_whole ["_law_actual"] (spWhole) := by
  refine T.F_law_whole.ok sc_law_whole (fun vs H Q E h => ?_) (fun cdv A outer s H vs Q E hr h => ?_)
  · obtain ⟨i, rfl, _⟩ := h
    rfl
  refine ⟨_, (pss_one (ps_ret (pe_and (pe_callB call_isi (by rfl) T.z_isinstance (by decide +kernel) (pa_cons (pv 0) (pa_cons (pe_bltn (v := .ty "int") (u := .type "int") (by rfl) T.z_int (by decide +kernel) rfl) pa_nil))) (pe_one (pe_not (pe_callB call_isi (by rfl) T.z_isinstance (by decide +kernel) (pa_cons (pv 0) (pa_cons (pe_bltn (v := .ty "bool") (u := .type "bool") (by rfl) T.z_bool (by decide +kernel) rfl) pa_nil)))))))), ?_⟩
  obtain ⟨i, rfl, k⟩ := h
  refine ⟨_, rfl, _, _, _, _, _, rfl, .ty _, .base (.int i), kit_ty kit_int_int, _, rfl, iteT ?_⟩
  refine ⟨_, rfl, _, _, _, _, _, rfl, .ty _, .base (.int i), kit_ty kit_int_bool, _, rfl, ?_⟩
  exact k

theorem ok_law_between (T : Txt P K mg) (B : Tb T base) : FnOk P w K mg base CX0 2 T.a_law_between T.d_law_between ["_law_source_here", "_law_least", "_law_most"] (spBetween) := by
  refine T.F_law_between.ok sc_law_between (fun vs H Q E h => ?_) (fun cdv A outer s H vs Q E hr h => ?_)
  · obtain ⟨a, lo, hi, rfl, _⟩ := h
    rfl
  refine ⟨_, (pss_one (ps_ret (pe_op op_add (pv 1) (pe_call (ok_law_draw T B) (hr.mono (by decide)) (by rfl) T.m_law_draw T.F_law_draw.kp T.b_law_draw .nil pass0 (pa_cons (pv 0) (pa_cons (pe_op op_add (pe_op op_sub (pv 2) (pv 1)) pe_int) pa_nil)))))), ?_⟩
  obtain ⟨a, lo, hi, rfl, hs, h1, h2, k⟩ := h
  refine ⟨_, rfl, _, rfl, _, rfl, _, rfl, _, _, rfl, rfl, _, _, rfl, rfl, _, _, rfl, hs, by omega, by omega, fun r H1 r0 r1 hs1 b1 => ?_⟩
  exact ⟨_, _, rfl, rfl, k _ _ (by omega) (by omega) hs1 b1⟩

theorem ok_law_far (T : Txt P K mg) (B : Tb T base) : FnOk P w K mg base CX0 3 T.a_law_far T.d_law_far ["_law_source_here"] (spFar) := by
  refine T.F_law_far.ok sc_law_far (fun vs H Q E h => ?_) (fun cdv A outer s H vs Q E hr h => ?_)
  · obtain ⟨a, rfl, _⟩ := h
    rfl
  refine ⟨_, (pss_cons (ps_set (i := 1) sc_law_far.nd rfl (Or.inl rfl) (pe_call (ok_law_draw T B) (hr.mono (by decide)) (by rfl) T.m_law_draw T.F_law_draw.kp T.b_law_draw .nil pass0 (pa_cons (pv 0) (pa_cons pe_int pa_nil)))) (pss_cons (ps_if (pt_cmpR op_eq (pv 1) pe_int (nomark _)) (pss_one (ps_ret (pe_op op_sub pe_int (pe_op op_pow pe_int pe_int)))) pss_nil) (pss_cons (ps_if (pt_cmpR op_eq (pv 1) pe_int (nomark _)) (pss_one (ps_ret (pe_op op_sub (pe_op op_pow pe_int pe_int) pe_int))) pss_nil) (pss_one (ps_ret (pe_call (ok_law_between T B) (hr.mono (by decide)) (by rfl) T.m_law_between T.F_law_between.kp T.b_law_between .nil pass0 (pa_cons (pv 0) (pa_cons (pe_op op_sub pe_int (pe_op op_pow pe_int pe_int)) (pa_cons (pe_op op_pow pe_int pe_int) pa_nil))))))))), ?_⟩
  obtain ⟨a, rfl, hs, k⟩ := h
  refine ⟨_, rfl, _, _, rfl, hs, by decide, by decide, fun sh H1 _ _ hs1 b1 => asg ?_⟩
  refine sqIf (b := decide (V.int sh = V.int 0)) (fun Q' q => ⟨_, rfl, rfl, _, rfl, q⟩) (fun c => ?_) (fun c => nxt ?_)
  · exact ⟨_, _, rfl, rfl, ⟨by decide, by decide, by decide⟩, _, _, rfl, rfl, k _ H1 hs1 b1⟩
  refine sqIf (b := decide (V.int sh = V.int 1)) (fun Q' q => ⟨_, rfl, rfl, _, rfl, q⟩) (fun c => ?_) (fun c => nxt ?_)
  · exact ⟨_, _, rfl, rfl, ⟨by decide, by decide, by decide⟩, _, _, rfl, rfl, k _ H1 hs1 b1⟩
  refine ⟨_, rfl, _, _, rfl, rfl, ⟨by decide, by decide, by decide⟩, _, _, rfl, rfl, _, _, rfl, rfl, ⟨by decide, by decide, by decide⟩, a, _, _, rfl, hs1, by decide, by decide, fun r H2 _ _ hs2 b2 => ?_⟩
  exact k r H2 hs2 (b1.trans b2)
theorem ok_law_estimates (T : Txt P K mg) (B : Tb T base) : FnOk P w K mg base CX0 3 T.a_law_estimates T.d_law_estimates ["_law_source_here", "_law_count", "_law_most"] (spEsts) := by
  refine T.F_law_estimates.ok sc_law_estimates (fun vs H Q E h => ?_) (fun cdv A outer s H vs Q E hr h => ?_)
  · obtain ⟨a, n, m, rfl, _⟩ := h
    rfl
  refine ⟨_, (pss_cons (ps_set (i := 3) sc_law_estimates.nd rfl (Or.inl rfl) (pe_lst pa_nil)) (pss_cons (ps_for PassesOwn.never rfl (pi_range1 (by rfl) T.z_range (pa_cons (pv 1) pa_nil)) (pg_name (i := 4) sc_law_estimates.nd rfl (Or.inl rfl)) (pss_cons (ps_set (i := 5) sc_law_estimates.nd rfl (Or.inl rfl) (pe_call (ok_law_draw T B) (hr.mono (by decide)) (by rfl) T.m_law_draw T.F_law_draw.kp T.b_law_draw .nil pass0 (pa_cons (pv 0) (pa_cons pe_int pa_nil)))) (pss_cons (ps_set (i := 6) sc_law_estimates.nd rfl (Or.inl rfl) (pe_call (ok_law_between T B) (hr.mono (by decide)) (by rfl) T.m_law_between T.F_law_between.kp T.b_law_between .nil pass0 (pa_cons (pv 0) (pa_cons (pe_op op_sub pe_int pe_int) (pa_cons pe_int pa_nil))))) (pss_cons (ps_set (i := 7) sc_law_estimates.nd rfl (Or.inl rfl) (pe_op op_add pe_int (pe_call (ok_law_draw T B) (hr.mono (by decide)) (by rfl) T.m_law_draw T.F_law_draw.kp T.b_law_draw .nil pass0 (pa_cons (pv 0) (pa_cons (pv 2) pa_nil))))) (pss_cons (ps_if (pt_cmpR op_gt (pv 4) pe_int (nomark _)) (pss_cons (ps_set (i := 8) sc_law_estimates.nd rfl (Or.inl rfl) (pe_ix ix_list (pv 3) (pe_call (ok_law_draw T B) (hr.mono (by decide)) (by rfl) T.m_law_draw T.F_law_draw.kp T.b_law_draw .nil pass0 (pa_cons (pv 0) (pa_cons (pv 4) pa_nil))) (fun _ _ => rfl))) (pss_cons (ps_if (PW.pt (pw_or (pt_cmpR op_eq (pv 5) pe_int (nomark _)) (pw_or1 (pt_cmpR op_eq (pv 5) pe_int (nomark _))))) (pss_one (ps_set (i := 7) sc_law_estimates.nd rfl (Or.inl rfl) (pe_ix ix_tup (pv 8) pe_int (fun _ _ => rfl)))) pss_nil) (pss_cons (ps_if (pt_cmpR op_eq (pv 5) pe_int (nomark _)) (pss_one (ps_set (i := 6) sc_law_estimates.nd rfl (Or.inl rfl) (pe_op op_add (pe_ix ix_tup (pv 8) pe_int (fun _ _ => rfl)) pe_int))) pss_nil) (pss_one (ps_if (pt_cmpR op_eq (pv 5) pe_int (nomark _)) (pss_one (ps_set (i := 6) sc_law_estimates.nd rfl (Or.inl rfl) (pe_ix ix_tup (pv 8) pe_int (fun _ _ => rfl)))) pss_nil))))) pss_nil) (pss_cons (ps_if (pt_cmpR op_gt (pv 6) pe_int (nomark _)) (pss_one (ps_set (i := 6) sc_law_estimates.nd rfl (Or.inl rfl) (pe_op op_sub (pv 6) pe_int))) pss_nil) (pss_cons (ps_set (i := 9) sc_law_estimates.nd rfl (Or.inl rfl) (pe_call (ok_law_draw T B) (hr.mono (by decide)) (by rfl) T.m_law_draw T.F_law_draw.kp T.b_law_draw .nil pass0 (pa_cons (pv 0) (pa_cons (pe_op op_add pe_int (pe_call (ok_law_draw T B) (hr.mono (by decide)) (by rfl) T.m_law_draw T.F_law_draw.kp T.b_law_draw .nil pass0 (pa_cons (pv 0) (pa_cons pe_int pa_nil)))) pa_nil)))) (pss_one (ps_expr (pe_bm PySem.F.plainAttrs_list PySem.F.slot_list_append PySem.F.type_list_append mt_append (pv 3) (pa_cons (pe_tup (pa_cons (pv 6) (pa_cons (pe_op op_add (pv 6) (pv 9)) (pa_cons (pv 7) pa_nil)))) pa_nil))))))))))) (pss_one (ps_ret (pv 3))))), ?_⟩
  obtain ⟨a, n, m, rfl, hs, hn, m1, m99, k⟩ := h
  refine ⟨Nat.zero_le _, fun f hf => asg ?_⟩
  have fa : f ≠ a := hs.ne hf
  refine ⟨_, rfl, _, rfl, by omega, by omega, for_range (lo := 0) (n := n) (fun i σ H' => ∃ (ts : List Addr) (es : List Es) (v4 v5 v6 v7 v8 v9 : Option V), σ = [some (.ref a), some (.int (n : Int)), some (.int m), some (.ref f), v4, v5, v6, v7, v8, v9] ∧ es.length = i ∧ EsI H a f H' ts es)
    ⟨[], [], none, none, none, none, none, none, rfl, rfl, upd_same, ⟨rfl, fun i t e h => by simp at h⟩, (fun e he => nomatch he), hs.same (Same.new hf), But.new hf⟩ ?_ ?_⟩
  · rintro i σ H1 hi ⟨ts, es, v4, v5, v6, v7, v8, v9, rfl, hes, I⟩
    refine ⟨_, rfl, _, _, rfl, I.src, by decide, by decide, fun sh H2 _ _ hs2 b2 => asg ?_⟩
    have I2 := I.draw b2 hs2 fa
    refine ⟨_, rfl, _, _, rfl, rfl, a, _, _, rfl, hs2, by decide, by decide, fun lo H3 _ _ hs3 b3 => asg ?_⟩
    have I3 := I2.draw b3 hs3 fa
    refine ⟨_, rfl, _, rfl, _, _, rfl, hs3, by omega, by omega, fun r H4 r0 r1 hs4 b4 => ⟨_, _, rfl, rfl, asg ?_⟩⟩
    have I4 := I3.draw b4 hs4 fa
    refine cutS (M := fun σ' H' => ∃ (lo : Int) (w : Nat) (v8 : Option V), σ' = [some (.ref a), some (.int (n : Int)), some (.int m), some (.ref f), some (.int (0 + (i : Int))), some (.int sh), some (.int lo), some (.int (w : Int)), v8, v9] ∧ 1 ≤ w ∧ w ≤ 99 ∧ EsI H a f H' ts es) ?_ (fun M => ?_)
    rotate_left
    · refine sqIf (b := decide ((0 : Int) < 0 + (i : Int))) (fun Q' q => ⟨_, rfl, _, _, rfl, rfl, _, rfl, q⟩) (fun c => ?_) (fun c => nxt (M _ _ ⟨lo, (1 + r).toNat, v8, ?_, by omega, by omega, I4⟩))
      rotate_left
      · exact congrArg (fun z : Int => [some (V.ref a), some (V.int (n : Int)), some (V.int m), some (V.ref f), some (V.int (0 + (i : Int))), some (V.int sh), some (V.int lo), some (V.int z), v8, v9]) (show 1 + r = (((1 + r).toNat : Nat) : Int) by omega)
      have ci := of_decide_eq_true c
      refine ⟨_, rfl, _, rfl, _, rfl, _, _, rfl, hs4, by omega, by omega, fun r5 H5 r50 r51 hs5 b5 => ?_⟩
      have I5 := I4.draw b5 hs5 fa
      obtain ⟨j, rfl⟩ := Int.eq_ofNat_of_zero_le r50
      have hj : j < es.length := by omega
      have hjt : j < ts.length := by rw [I5.tri.1]; exact hj
      have et : ts[j]? = some ts[j] := List.getElem?_eq_getElem hjt
      have ht := I5.tri.2 j _ _ et (List.getElem?_eq_getElem hj)
      have oe := I5.ok _ (List.getElem_mem hj)
      refine ⟨_, _, _, _, rfl, rfl, .inl (.inl I5.hf), atI_nat (by rw [List.getElem?_map, et]; rfl), asg ?_⟩
      generalize ts[j] = t at ht
      generalize es[j] = e at ht oe
      refine cutS (M := fun σ' H' => ∃ (w : Nat), σ' = [some (.ref a), some (.int (n : Int)), some (.int m), some (.ref f), some (.int (0 + (i : Int))), some (.int sh), some (.int lo), some (.int (w : Int)), some (.ref t), v9] ∧ 1 ≤ w ∧ w ≤ 99 ∧ H5 = H') ?_ (fun M1 => ?_)
      rotate_left
      · refine sqIf (put_or (a := decide (V.int sh = V.int 1)) (b := decide (V.int sh = V.int 2)) (fun Q' q => ⟨_, rfl, rfl, _, rfl, q⟩) (fun _ Q' q => ⟨_, rfl, rfl, _, rfl, q⟩)) (fun _ => ?_) (fun _ => nxt (M1 _ _ ⟨(1 + r).toNat, ?_, by omega, by omega, rfl⟩))
        · exact ⟨_, rfl, _, _, 2, _, rfl, rfl, .inl (.inl ht), rfl, asg (M1 _ _ ⟨e.w, rfl, oe.2.1, oe.2.2, rfl⟩)⟩
        · exact congrArg (fun z : Int => [some (V.ref a), some (V.int (n : Int)), some (V.int m), some (V.ref f), some (V.int (0 + (i : Int))), some (V.int sh), some (V.int lo), some (V.int z), some (V.ref t), v9]) (show 1 + r = (((1 + r).toNat : Nat) : Int) by omega)
      rintro σ' H' ⟨w, rfl, w1, w99, rfl⟩
      refine cutS (M := fun σ' H' => ∃ (lo : Int), σ' = [some (.ref a), some (.int (n : Int)), some (.int m), some (.ref f), some (.int (0 + (i : Int))), some (.int sh), some (.int lo), some (.int (w : Int)), some (.ref t), v9] ∧ H5 = H') ?_ (fun M2 => ?_)
      rotate_left
      · refine sqIf (b := decide (V.int sh = V.int 2)) (fun Q' q => ⟨_, rfl, rfl, _, rfl, q⟩) (fun _ => ?_) (fun _ => nxt (M2 _ _ ⟨lo, rfl, rfl⟩))
        exact ⟨_, rfl, _, _, 1, _, rfl, rfl, .inl (.inl ht), rfl, _, _, rfl, rfl, asg (M2 _ _ ⟨_, rfl, rfl⟩)⟩
      rintro σ' H' ⟨lo2, rfl, rfl⟩
      refine ifS_of (b := decide (V.int sh = V.int 3)) (fun Q' q => ⟨_, rfl, rfl, _, rfl, q⟩) (fun _ => ?_) (fun _ => nxt (M _ _ ⟨lo2, w, _, rfl, w1, w99, I5⟩))
      exact ⟨_, rfl, _, _, 0, _, rfl, rfl, .inl (.inl ht), rfl, asg (M _ _ ⟨_, w, _, rfl, w1, w99, I5⟩)⟩
    rintro σ' H5 ⟨lo, w, v8, rfl, w1, w99, I5⟩
    refine cutS (M := fun σ' H' => ∃ (lo : Int), σ' = [some (.ref a), some (.int (n : Int)), some (.int m), some (.ref f), some (.int (0 + (i : Int))), some (.int sh), some (.int lo), some (.int (w : Int)), v8, v9] ∧ H5 = H') ?_ (fun M => ?_)
    rotate_left
    · refine sqIf (b := decide ((12 : Int) < lo)) (fun Q' q => ⟨_, rfl, _, _, rfl, rfl, _, rfl, q⟩) (fun _ => ?_) (fun _ => nxt (M _ _ ⟨lo, rfl, rfl⟩))
      exact ⟨_, rfl, _, _, rfl, rfl, asg (M _ _ ⟨_, rfl, rfl⟩)⟩
    rintro σ' H5' ⟨lo, rfl, rfl⟩
    refine ⟨_, rfl, _, rfl, _, _, rfl, I5.src, by decide, by decide, fun r6 H6 r60 r61 hs6 b6 => ?_⟩
    have I6 := I5.draw b6 hs6 fa
    refine ⟨_, _, rfl, rfl, _, _, rfl, hs6, by omega, by omega, fun r7 H7 r70 r71 hs7 b7 => asg ?_⟩
    have I7 := I6.draw b7 hs7 fa
    refine ⟨_, rfl, .inl ⟨rfl, _, .inl (.inl I7.hf)⟩, _, rfl, _, rfl, _, rfl, _, _, rfl, rfl, _, rfl, sz3, fun t ht => ?_⟩
    have s8 : Same H7 (upd H7 t (.tup [.int lo, .int (lo + r7), .int (w : Int)])) := Same.new ht
    refine ⟨f, _, _, rfl, rfl, s8 _ _ I7.hf, small6 (by rw [List.length_map, I7.tri.1]; omega), ?_⟩
    have P7 := I7.push (e := Es.mk lo (lo + r7) w) fa hf ht ⟨by show lo ≤ lo + r7; omega, w1, w99⟩
    exact ⟨ts ++ [t], es ++ [Es.mk lo (lo + r7) w], _, _, _, _, _, _, rfl, by simp [hes], P7⟩
  · rintro σ H1 ⟨ts, es, v4, v5, v6, v7, v8, v9, rfl, hes, I⟩
    exact ⟨_, rfl, k f ts es H1 hf ⟨I.hf, I.tri, I.ok, by omega⟩ hes I.src I.but⟩
theorem ok_law_moved (T : Txt P K mg) (B : Tb T base) : FnOk P w K mg base CX0 4 T.a_law_moved T.d_law_moved ["_law_source_here", "_law_rows"] (spMoved) := by
  refine T.F_law_moved.ok sc_law_moved (fun vs H Q E h => ?_) (fun cdv A outer s H vs Q E hr h => ?_)
  · obtain ⟨a, r, ts, es, rfl, _⟩ := h
    rfl
  refine ⟨_, (pss_cons (ps_set (i := 2) sc_law_moved.nd rfl (Or.inl rfl) (pe_call (ok_law_draw T B) (hr.mono (by decide)) (by rfl) T.m_law_draw T.F_law_draw.kp T.b_law_draw .nil pass0 (pa_cons (pv 0) (pa_cons pe_int pa_nil)))) (pss_cons (ps_if (pt_cmpR op_gt (pv 2) pe_int (nomark _)) (pss_one (ps_ret (pv 1))) pss_nil) (pss_cons (ps_set (i := 3) sc_law_moved.nd rfl (Or.inl rfl) (pe_call (ok_law_far T B) (hr.mono (by decide)) (by rfl) T.m_law_far T.F_law_far.kp T.b_law_far .nil pass0 (pa_cons (pv 0) pa_nil))) (pss_cons (ps_set (i := 4) sc_law_moved.nd rfl (Or.inl rfl) (pv 3)) (pss_cons (ps_if (pt_cmpR op_eq (pv 2) pe_int (nomark _)) (pss_one (ps_set (i := 4) sc_law_moved.nd rfl (Or.inl rfl) (pe_call (ok_law_far T B) (hr.mono (by decide)) (by rfl) T.m_law_far T.F_law_far.kp T.b_law_far .nil pass0 (pa_cons (pv 0) pa_nil)))) pss_nil) (pss_cons (ps_set (i := 5) sc_law_moved.nd rfl (Or.inl rfl) (pe_callB cr_sortedI (by rfl) T.z_sorted (by decide +kernel) (pa_cons (pe_lst (pa_cons (pv 3) (pa_cons (pv 4) pa_nil))) pa_nil))) (pss_cons (ps_set (i := 6) sc_law_moved.nd rfl (Or.inl rfl) (pe_lst pa_nil)) (pss_cons (ps_for PassesOwn.never rfl (pi_list (pv 1)) (pg_name (i := 7) sc_law_moved.nd rfl (Or.inl rfl)) (pss_cons (ps_set (i := 8) sc_law_moved.nd rfl (Or.inl rfl) (pe_call (ok_law_draw T B) (hr.mono (by decide)) (by rfl) T.m_law_draw T.F_law_draw.kp T.b_law_draw .nil pass0 (pa_cons (pv 0) (pa_cons pe_int pa_nil)))) (pss_one (ps_expr (pe_bm PySem.F.plainAttrs_list PySem.F.slot_list_append PySem.F.type_list_append mt_append (pv 6) (pa_cons (pe_tup (pa_cons (pe_op op_add (pe_ix ix_tup (pv 7) pe_int (fun _ _ => rfl)) (pe_ix ix_list (pv 5) (pe_op op_fdiv (pv 8) pe_int) (fun _ _ => rfl))) (pa_cons (pe_op op_add (pe_ix ix_tup (pv 7) pe_int (fun _ _ => rfl)) (pe_ix ix_list (pv 5) (pe_callB (call_min2 rfl) (by rfl) T.z_min (by decide +kernel) (pa_cons (pv 8) (pa_cons pe_int pa_nil))) (fun _ _ => rfl))) (pa_cons (pe_ix ix_tup (pv 7) pe_int (fun _ _ => rfl)) pa_nil)))) pa_nil)))))) (pss_one (ps_ret (pv 6))))))))))), ?_⟩
  obtain ⟨a, r, ts, es, rfl, hs, ra, R, k⟩ := h
  refine ⟨_, rfl, _, _, rfl, hs, by decide, by decide, fun sh H1 _ _ hs1 b1 => asg ?_⟩
  have R1 := R.but b1 hs ra
  refine sqIf (b := decide ((1 : Int) < sh)) (fun Q' q => ⟨_, rfl, _, _, rfl, rfl, _, rfl, q⟩) (fun c => ⟨_, rfl, k r ts es H1 R1 rfl hs1 b1 (.inl rfl)⟩) (fun c => nxt ?_)
  refine ⟨_, rfl, a, rfl, hs1, fun one H2 hs2 b2 => asg ⟨_, rfl, asg ?_⟩⟩
  have R2 := R1.but b2 hs1 ra
  have B2 := b1.trans b2
  refine cutS (M := fun σ' H' => ∃ (oth : Int), σ' = [some (.ref a), some (.ref r), some (.int sh), some (.int one), some (.int oth), none, none, none, none] ∧ RwX H' r ts es ∧ Src H' a ∧ But a H H') ?_ (fun M => ?_)
  rotate_left
  · refine sqIf (b := decide (V.int sh = V.int 1)) (fun Q' q => ⟨_, rfl, rfl, _, rfl, q⟩) (fun _ => ?_) (fun _ => nxt (M _ _ ⟨one, rfl, R2, hs2, B2⟩))
    exact ⟨_, rfl, a, rfl, hs2, fun oth H3 hs3 b3 => asg (M _ _ ⟨oth, rfl, R2.but b3 hs2 ra, hs3, B2.trans b3⟩)⟩
  rintro σ' H3 ⟨oth, rfl, R3, hs3, B3⟩
  refine ⟨_, rfl, _, rfl, sz2, fun d hd => ⟨d, [one, oth], rfl, .inl (.inl upd_same), fun ms mv hp hpw hmv => asg ?_⟩⟩
  have s4 : Same H3 (upd (upd H3 d (.lst [.int one, .int oth])) mv (.lst (ms.map V.int))) := (Same.new hd).trans (Same.new hmv)
  have hm4 := upd_same (H := upd H3 d (.lst [.int one, .int oth])) (a := mv) (o := .lst (ms.map V.int))
  have mva : mv ≠ a := (hs3.same (Same.new (o := .lst [V.int one, V.int oth]) hd)).ne hmv
  obtain ⟨x, y, rfl, hxy⟩ : ∃ x y, ms = [x, y] ∧ x ≤ y := by
    have l2 := hp.length_eq
    match ms, l2, hpw with
    | [x, y], _, hpw => exact ⟨x, y, rfl, by simpa using hpw⟩
  generalize upd (upd H3 d (.lst [.int one, .int oth])) mv (.lst ([x, y].map V.int)) = H4 at s4 hm4 ⊢
  have hs4 := hs3.same s4
  have B4 : But a H H4 := B3.trans (Same.but s4)
  have R4 := R3.same s4
  refine ⟨Nat.zero_le _, fun f hf => asg ?_⟩
  have fa : f ≠ a := hs4.ne hf
  have mvf : mv ≠ f := ne_of_none hm4 hf
  have rf : r ≠ f := ne_of_none R4.li hf
  have f0 : H f = none := B4.free hf fa
  refine ⟨_, rfl, r, rfl, ⟨_, .inl (.inl (Same.new hf _ _ R4.li))⟩, for_list (K := K) (a := r) (xs := ts.map V.ref) (fun i σ H' => ∃ (us : List Addr) (fs : List Es) (v7 v8 : Option V), σ = [some (.ref a), some (.ref r), some (.int sh), some (.int one), some (.int oth), some (.ref mv), some (.ref f), v7, v8] ∧ fs.length = i ∧ EsI H a f H' us fs ∧ RwX H' r ts es ∧ H' mv = some (.lst [.int x, .int y]))
    ⟨[], [], none, none, rfl, rfl, ⟨upd_same, ⟨rfl, fun i t e h => by simp at h⟩, (fun e he => nomatch he), hs4.same (Same.new hf), B4.trans (But.new hf)⟩, R4.same (Same.new hf), (upd_ne mvf).trans hm4⟩ (fun i σ H' _ ⟨_, _, _, _, _, _, _, q, _⟩ => .inl (.inl q.li)) ?_ ?_⟩
  · rintro i z σ H5 hz ⟨us, fs, v7, v8, rfl, hfs, I, R5, hmv5⟩
    obtain ⟨t, e, rfl, he, ht⟩ := R5.tr.at hz
    have oe := R5.ok _ (List.mem_of_getElem? he)
    have hi : i < 100 := by
      have := (List.getElem?_eq_some_iff.mp he).1
      have := R5.le
      omega
    refine ⟨_, rfl, _, _, rfl, I.src, by decide, by decide, fun g H6 g0 g1 hs6 b6 => asg ?_⟩
    have I6 := I.draw b6 hs6 fa
    have R6 := R5.but b6 I.src ra
    have hmv6 := b6 _ _ mva hmv5
    have ht6 : H6 t = some (.tup (etup e)) := by
      obtain ⟨t', e', h1, h2, h3⟩ := R6.tr.at hz
      cases h1
      rw [he] at h2
      cases h2
      exact h3
    have hg : g = 0 ∨ g = 1 ∨ g = 2 := by omega
    have smf : (us.map V.ref).length < sizeLine := small6 (by rw [List.length_map, I6.tri.1]; omega)
    rcases hg with rfl | rfl | rfl
    · refine ⟨_, rfl, .inl ⟨rfl, _, .inl (.inl I6.hf)⟩, _, rfl, _, _, 0, _, rfl, rfl, .inl (.inl ht6), rfl, _, rfl, _, rfl, _, _, rfl, rfl, ⟨by decide, by decide⟩, _, _, _, _, rfl, rfl, .inl (.inl hmv6), rfl, _, _, rfl, rfl, ?_⟩
      refine ⟨_, rfl, _, _, 1, _, rfl, rfl, .inl (.inl ht6), rfl, _, rfl, _, rfl, _, _, rfl, _, _, _, _, rfl, rfl, .inl (.inl hmv6), rfl, _, _, rfl, rfl, _, rfl, _, _, 2, _, rfl, rfl, .inl (.inl ht6), rfl, sz3, fun tn htn => ?_⟩
      obtain ⟨P1, P2, P3⟩ := mv_step (p := x) (q := x) I6 R6 hmv6 fa f0 rf mvf htn oe (Int.le_refl _)
      refine ⟨f, _, _, rfl, rfl, Same.new htn _ _ I6.hf, smf, ?_⟩
      exact ⟨us ++ [tn], fs ++ [Es.mk (e.l + x) (e.h + x) e.w], _, _, rfl, by simp [hfs], P1, P2, P3⟩
    · refine ⟨_, rfl, .inl ⟨rfl, _, .inl (.inl I6.hf)⟩, _, rfl, _, _, 0, _, rfl, rfl, .inl (.inl ht6), rfl, _, rfl, _, rfl, _, _, rfl, rfl, ⟨by decide, by decide⟩, _, _, _, _, rfl, rfl, .inl (.inl hmv6), rfl, _, _, rfl, rfl, ?_⟩
      refine ⟨_, rfl, _, _, 1, _, rfl, rfl, .inl (.inl ht6), rfl, _, rfl, _, rfl, _, _, rfl, _, _, _, _, rfl, rfl, .inl (.inl hmv6), rfl, _, _, rfl, rfl, _, rfl, _, _, 2, _, rfl, rfl, .inl (.inl ht6), rfl, sz3, fun tn htn => ?_⟩
      obtain ⟨P1, P2, P3⟩ := mv_step (p := x) (q := y) I6 R6 hmv6 fa f0 rf mvf htn oe (hxy)
      refine ⟨f, _, _, rfl, rfl, Same.new htn _ _ I6.hf, smf, ?_⟩
      exact ⟨us ++ [tn], fs ++ [Es.mk (e.l + x) (e.h + y) e.w], _, _, rfl, by simp [hfs], P1, P2, P3⟩
    · refine ⟨_, rfl, .inl ⟨rfl, _, .inl (.inl I6.hf)⟩, _, rfl, _, _, 0, _, rfl, rfl, .inl (.inl ht6), rfl, _, rfl, _, rfl, _, _, rfl, rfl, ⟨by decide, by decide⟩, _, _, _, _, rfl, rfl, .inl (.inl hmv6), rfl, _, _, rfl, rfl, ?_⟩
      refine ⟨_, rfl, _, _, 1, _, rfl, rfl, .inl (.inl ht6), rfl, _, rfl, _, rfl, _, _, rfl, _, _, _, _, rfl, rfl, .inl (.inl hmv6), rfl, _, _, rfl, rfl, _, rfl, _, _, 2, _, rfl, rfl, .inl (.inl ht6), rfl, sz3, fun tn htn => ?_⟩
      obtain ⟨P1, P2, P3⟩ := mv_step (p := y) (q := y) I6 R6 hmv6 fa f0 rf mvf htn oe (Int.le_refl _)
      refine ⟨f, _, _, rfl, rfl, Same.new htn _ _ I6.hf, smf, ?_⟩
      exact ⟨us ++ [tn], fs ++ [Es.mk (e.l + y) (e.h + y) e.w], _, _, rfl, by simp [hfs], P1, P2, P3⟩
  · rintro σ H5 ⟨us, fs, v7, v8, rfl, hfs, I, R5, _⟩
    exact ⟨_, rfl, k f us fs H5 ⟨I.hf, I.tri, I.ok, by rw [hfs, R.len]; exact R.le⟩ (by rw [hfs, R.len]) I.src I.but (.inr f0)⟩

/-- a dict comprehension over n turns of anything -/
theorem dc_any {J : It} {n : Nat} {g : TG} {tt : TT} {tk tv : TE} {vs : List Nat} {σ : L2.St} {H1 : Hp} {D : Addr} {Qd : Hp → Prop} (Pv : Nat → Hp → Prop) (h0 : Pv 0 (L2.upd H1 D (.dK []))) (hgo : ∀ i H, i < n → Pv i H → J.go i H) (hst : ∀ H, Pv n H → J.stop n H)
    (hs : ∀ i x H H', i < n → Pv i H → J.yld i H x H' → g x (wipe σ vs) H' fun σ2 H2 => wipe σ2 vs = wipe σ vs ∧ tt σ2 H2 fun b H3 => if b = true then tk σ2 H3 fun y H4 => tv σ2 H4 fun z H5 => ∃ kvs k, y = kV k ∧ H5 D = some (.dK kvs) ∧ kvs.length < sizeLine ∧ Pv (i + 1) (L2.upd H5 D (.dK (putK kvs k z))) else Pv (i + 1) H3) (hd : ∀ H, Pv n H → Qd H) :
    ∃ W : Nat → Nat → Hp → Prop, (∃ m, W 0 m (L2.upd H1 D (.dK []))) ∧ ∀ i m H, W i m H → (J.stop i H ∧ Qd H) ∨ (J.go i H ∧ ∃ Nx : Hp → Prop, (∀ H', Nx H' → ∃ m', m' < m ∧ W (i + 1) m' H') ∧ ∀ x H', J.yld i H x H' → g x (wipe σ vs) H' fun σ2 H2 => wipe σ2 vs = wipe σ vs ∧ tt σ2 H2 fun b H3 => if b = true then tk σ2 H3 fun y H4 => tv σ2 H4 fun z H5 => ∃ kvs k, y = kV k ∧ H5 D = some (.dK kvs) ∧ kvs.length < sizeLine ∧ Nx (L2.upd H5 D (.dK (putK kvs k z))) else Nx H3) := by
  refine ⟨fun i m H => m = n - i ∧ i ≤ n ∧ Pv i H, ⟨n, rfl, Nat.zero_le _, h0⟩, ?_⟩
  rintro i m H ⟨rfl, hi, p⟩
  by_cases hl : i < n
  · exact .inr ⟨hgo i H hl p, Pv (i + 1), fun H' q => ⟨n - (i + 1), by omega, rfl, hl, q⟩, fun x H' y => hs i x H H' hl p y⟩
  · obtain rfl : i = n := by omega
    exact .inl ⟨hst H p, hd H p⟩
/-- name = {..} on one line, the name a local -/
theorem ps_setDc {X : Cx} {i : Nat} {y : Str} {py : Pos} {kx vx tg iter : Expr} {ifs : List Expr} {scope : Scope} {own : List (Str × Nat)} {pos spos : Pos} {wi : TI} {g : TG} {tt : TT} {tk tv : TE} (hc : X.calm = true) (hN : X.N.Nodup) (hy : X.N[i]? = some y) (hyl : X.env.scope.names.lookup y = some .local)
    (hsw : swapsWith (.DictComp kx vx [⟨tg, iter, ifs, 0⟩] scope pos) (some (.Name y py)) spos.line X.env = pure true) (hi : PI X tg iter wi) (ok : BlkOk X.N X.env.scope scope own)
    (hg : ∀ (s : Shared) (H : Hp) (C : Addr) (cl : List (Str × Addr)) (fp : List Addr), PG (X.blk s H scope (compEnvC scope cl C X.env) fp) tg g) (ht : ∀ (s : Shared) (H : Hp) (C : Addr) (cl : List (Str × Addr)) (fp : List Addr), PTs (X.blk s H scope (compEnvC scope cl C X.env) fp) ifs tt)
    (hk : ∀ (s : Shared) (H : Hp) (C : Addr) (cl : List (Str × Addr)) (fp : List Addr), PE (X.blk s H scope (compEnvC scope cl C X.env) fp) kx tk)
    (he : ∀ (s : Shared) (H : Hp) (C : Addr) (cl : List (Str × Addr)) (fp : List Addr), PE (X.blk s H scope (compEnvC scope cl C X.env) fp) vx tv) (hs : ∀ x, foldedSetIterable iter X.env x = pure x := by intro _; rfl) :
    PS X (.Assign [.Name y py] (.DictComp kx vx [⟨tg, iter, ifs, 0⟩] scope pos) spos) (tAsg (tDc wi g tt tk tv (own.map (·.2))) (gName i)) := by
  refine ⟨fun pins s σ H D I h => ?_⟩
  rw [exec_Assign_Name_used _ _ _ _ hsw]
  refine wpAny_bind (wpAny_standAt (wpAny_bind ?_))
  show wpAny _ X.A (do let _ ← comprehension (.DictComp kx vx [⟨tg, iter, ifs, 0⟩] scope pos) scope X.env (firstIterPos [⟨tg, iter, ifs, 0⟩] pos) newDict false (eval iter X.env) (some (assign (.Name y py) X.env))) _ _ s
  have h : tDc wi g tt tk tv (own.map (·.2)) σ H (fun x H1 => gName i x σ H1 D.nx) := h
  refine wpAny_bind (thn (dc_core (Qf := fun _ s' => SP X pins D .next s') hc hN I hi ok hg ht hk he hs h fun L C s' m H' I' q hn f => ?_) fun _ s' hq => wpAny_pure (wpAny_pure hq))
  show wpAny _ _ (assign (.Name y py) X.env (.ref L)) _ _ _
  refine wpAny_assign_Name (store_ok2 (v := V.ref L) I' hN hy (.inl hyl) rfl (fun s2 I2 ⟨a, sb, ha⟩ => ?_) (.inr hyl))
  obtain ⟨f0, f1, f2, f3, f4, f5⟩ := f
  have haC : C ≠ a := by
    rcases ha with z | z
    · rw [z]; exact f1
    · exact fun e => f4 y a z e.symm
  refine ⟨m, hn.sameBut sb haC, fun h3 sb3 => ?_⟩
  exact ⟨_, H', I2.turned (t' := s2.toks) (fun b o hb e => (sb3.2 b hb).trans e) f0 f1 f3 f4 f5, q⟩
theorem sw_dict {kx vx : Expr} {gs : List Comprehension} {scope : Scope} {pos py : Pos} {y : Str} {l : Nat} {env : Env} (hk : env.scope.kind = .function) (hy : env.scope.names.lookup y = some .local) (hl : (py.line == pos.line) = true)
    (ha : (scope.names.any fun (n, k) => n == y && (k == .local || k == .cell)) = false) : swapsWith (.DictComp kx vx gs scope pos) (some (.Name y py)) l env = pure true := by
  have ky : env.kindOf y = some .local := hy
  have hb : env.blockKind = .function := by unfold Env.blockKind; rw [hk]; rfl
  unfold swapsWith
  simp only [hb, ky, ha, Expr.pos, hl]
  rfl

theorem pre_sumN {l : List Nat} {F : Nat → Int} : ∀ n, n ≤ l.length → preSum (fun j => F (l.getD j 0)) n = ((l.take n).map F).sum
  | 0, _ => by simp [preSum]
  | n + 1, h => by
    have ih := pre_sumN (l := l) (F := F) n (by omega)
    have e : l[n]? = some l[n] := List.getElem?_eq_getElem (by omega)
    show preSum (fun j => F (l.getD j 0)) n + F (l.getD n 0) = _
    rw [ih, take_snoc e, List.map_append, List.sum_append, List.getD_eq_getElem?_getD, e]
    simp
theorem range_get (es : List Es) : (List.range es.length).map (fun i => es.getD i ⟨0, 0, 0⟩) = es := by
  refine List.ext_getElem? fun i => ?_
  rw [List.getElem?_map]
  by_cases h : i < es.length
  · rw [List.getElem?_range h, Option.map_some, List.getD_eq_getElem?_getD, List.getElem?_eq_getElem h]; rfl
  · rw [List.getElem?_eq_none (by simpa using h), List.getElem?_eq_none (by simpa using h)]; rfl
theorem pass_uw (es : List Es) (v : Int) : preSum (fun j => ((es.getD ((passing (fun i => out (es.getD i ⟨0, 0, 0⟩) v) es.length 0).getD j 0) ⟨0, 0, 0⟩).w : Int)) (passing (fun i => out (es.getD i ⟨0, 0, 0⟩) v) es.length 0).length = uw es v := by
  rw [pre_sumN (F := fun i => ((es.getD i ⟨0, 0, 0⟩).w : Int)) _ (Nat.le_refl _), List.take_length]
  unfold uw passing
  rw [List.drop_zero]
  conv => rhs; rw [← range_get es, List.filter_map, List.map_map]
  rfl
theorem ok_untrue_weight (T : Txt P K mg) (B : Tb T base) : FnOk P w K mg base CX0 1 T.a_untrue_weight T.d_untrue_weight ["estimates", "value"] (spUw K T.P_untrue_weight) := by
  refine ok_code T.F_untrue_weight T.hc_untrue_weight sc_untrue_weight (fun vs H Q E h => ?_) (fun A outer s H vs Q E hr h => ?_)
  · obtain ⟨a, v, es, rfl, _⟩ := h
    rfl
  refine ⟨_, PSs.nox ((pss_one (ps_ret (Gf.pe_genTF (xa := "low") (xb := "high") (xc := "weight") eats_sum hr (by rfl) T.z_sum (by decide +kernel) B.tb_untrue_weight rfl ⟨rfl, rfl, by decide +kernel, rfl, some_free rfl⟩ rfl rfl rfl (by decide) (by decide) (by decide) (pv 0) (q_var (j := 2) rfl rfl rfl) (Gf.t_not (Gf.t_chain ci_le ci_le (q_var (j := 0) rfl rfl rfl) (q_out (i := 1) rfl (.inr (.inl rfl)) (.inl rfl) rfl rfl rfl) (q_var (j := 1) rfl rfl rfl))) (fun _ => rfl))))), ?_⟩
  obtain ⟨a, v, es, rfl, ⟨ts, hA, hT⟩, tab, k⟩ := h
  have hb : SqB K H a (ts.map V.ref) := hA
  have hn : (ts.map V.ref).length = es.length := by rw [List.length_map]; exact hT.1
  refine ⟨_, rfl, tab, a, ts.map V.ref, fun i => etup (es.getD i ⟨0, 0, 0⟩), fun i => .int ((es.getD i ⟨0, 0, 0⟩).w : Int), fun i => out (es.getD i ⟨0, 0, 0⟩) v, rfl, hb, fun i x e => ?_, fun i _ => rfl, fun i hi => ?_, fun i hi _ => ⟨_, rfl, rfl⟩, fun j => ((es.getD ((passing (fun i => out (es.getD i ⟨0, 0, 0⟩) v) (ts.map V.ref).length 0).getD j 0) ⟨0, 0, 0⟩).w : Int), fun i _ => rfl, fun H2 tb => ?_⟩
  · obtain ⟨t, en, rfl, h1, h2⟩ := hT.at e
    refine ⟨t, rfl, ?_⟩
    show SqT K H t (etup (es.getD i ⟨0, 0, 0⟩))
    rw [List.getD_eq_getElem?_getD, h1]
    exact h2
  · dsimp only
    generalize es.getD i ⟨0, 0, 0⟩ = en
    refine ⟨_, rfl, _, rfl, _, _, rfl, rfl, ?_⟩
    unfold out
    by_cases z : en.l ≤ v
    · rw [if_pos (by simpa using z)]
      refine ⟨_, rfl, _, rfl, ?_⟩
      simp [z]
    · rw [if_neg (by simpa using z)]
      simp [z]
  · rw [List.length_replicate, hn, pass_uw]
    exact k H2 tb
theorem ok_even_runs (T : Txt P K mg) (B : Tb T base) : FnOk P w K mg base CX0 1 T.a_even_runs T.d_even_runs ["estimates", "first", "last"] (spRuns K) := by
  refine T.F_even_runs.ok sc_even_runs (fun vs H Q E h => ?_) (fun cdv A outer s H vs Q E hr h => ?_)
  · obtain ⟨a, first, last, es, rfl, _⟩ := h
    rfl
  refine ⟨_, (pss_cons (ps_setDc (i := 3) (own := [("low", 5), ("_", 6)]) (g := (gTup K 3 (gCons (gName 5) (gCons (gName 6) (gCons (gName 6) gNil))))) (tt := tYes) (by rfl) sc_even_runs.nd rfl rfl (sw_dict rfl rfl rfl (by decide +kernel)) (pi_or (pi_list (pv 0)) (pi_tup (pv 0))) (blkOk_by (own := [("low", 5), ("_", 6)]) (N := ["estimates", "first", "last", "starts", "inner", "low", "_", "high", "start"]) (sc := defScope s_even_runs) (by decide +kernel)) (fun _ _ _ _ _ => pg_tup rfl (pgs_cons (pg_name (i := 5) sc_even_runs.nd rfl (Or.inl rfl)) (pgs_cons (pg_name (i := 6) sc_even_runs.nd rfl (Or.inl rfl)) (pgs_cons (pg_name (i := 6) sc_even_runs.nd rfl (Or.inl rfl)) pgs_nil)))) (fun _ _ _ _ _ => pts_nil) (fun _ _ _ _ _ => (pv 5)) (fun _ _ _ _ _ => pe_bl)) (pss_cons (ps_expr (pe_bm PySem.F.plainAttrs_dict PySem.F.slot_dict_update PySem.F.type_dict_update Lz.mt_update (pv 3) (pa_cons (pe_dc (own := [("_", 6), ("high", 7)]) (g := (gTup K 3 (gCons (gName 6) (gCons (gName 7) (gCons (gName 6) gNil))))) (tt := tYes) (by rfl) sc_even_runs.nd (pi_or (pi_list (pv 0)) (pi_tup (pv 0))) (blkOk_by (own := [("_", 6), ("high", 7)]) (N := ["estimates", "first", "last", "starts", "inner", "low", "_", "high", "start"]) (sc := defScope s_even_runs) (by decide +kernel)) (fun _ _ _ _ _ => pg_tup rfl (pgs_cons (pg_name (i := 6) sc_even_runs.nd rfl (Or.inl rfl)) (pgs_cons (pg_name (i := 7) sc_even_runs.nd rfl (Or.inl rfl)) (pgs_cons (pg_name (i := 6) sc_even_runs.nd rfl (Or.inl rfl)) pgs_nil)))) (fun _ _ _ _ _ => pts_nil) (fun _ _ _ _ _ => (pe_op op_add (pv 7) pe_int)) (fun _ _ _ _ _ => pe_bl)) pa_nil))) (pss_cons (ps_set (i := 4) sc_even_runs.nd rfl (Or.inl rfl) (pe_callB cr_sortedI (by rfl) T.z_sorted (by decide +kernel) (pa_cons (pe_lock (pe_lc (own := [("start", 8)]) (g := gName 8) (by rfl) sc_even_runs.nd (pi_keys (pv 3)) (blkOk_by (own := [("start", 8)]) (N := ["estimates", "first", "last", "starts", "inner", "low", "_", "high", "start"]) (sc := defScope s_even_runs) (by decide +kernel)) (fun _ _ _ _ _ => pg_name (i := 8) sc_even_runs.nd rfl (Or.inl rfl)) (fun _ _ _ _ _ => pts_one (pt_chain op_lt op_le (pv 1) (pv 8) (pv 2))) (fun _ _ _ _ _ => (pv 8)))) pa_nil))) (pss_cons (ps_if (pt_cmpR op_gt (pv 1) (pv 2) (nomark _)) (pss_one (ps_ret (pe_lst pa_nil))) pss_nil) (pss_one (ps_ret (Lz.pe_listZip (by rfl) (by rfl) T.z_list (by rfl) T.z_zip (pa_cons (pe_lst (pa_cons (pv 1) (StX.pa_star (pv 4) pa_nil))) (pa_cons (pe_lst (StX.pa_star (pe_lc (own := [("start", 8)]) (g := gName 8) (tt := tYes) (by rfl) sc_even_runs.nd (pi_list (pv 4)) (blkOk_by (own := [("start", 8)]) (N := ["estimates", "first", "last", "starts", "inner", "low", "_", "high", "start"]) (sc := defScope s_even_runs) (by decide +kernel)) (fun _ _ _ _ _ => pg_name (i := 8) sc_even_runs.nd rfl (Or.inl rfl)) (fun _ _ _ _ _ => pts_nil) (fun _ _ _ _ _ => (pe_op op_sub (pv 8) pe_int))) (pa_cons (pv 2) pa_nil))) pa_nil))))))))), ?_⟩
  obtain ⟨a, first, last, es, rfl, ⟨ts, hA, hT⟩, hz, hfl, k⟩ := h
  have hn : (ts.map V.ref).length = es.length := by rw [List.length_map]; exact hT.1
  have sl : ∀ n, n ≤ es.length → n < sizeLine := fun n h => small6 (by omega)
  refine or_iter rfl hA (fun _ _ e => e) fun J go stop yld D hD => ?_
  refine dc_any (n := (ts.map V.ref).length) (fun i H' => ∃ kvs, H' D = some (.dK kvs) ∧ DkP kvs ((es.take i).map fun e => e.l) ∧ Same H H') ⟨[], upd_same, DkP.nil, Same.new hD⟩ (fun i H' hi ⟨_, _, _, s⟩ => go i H' s hi) (fun H' ⟨_, _, _, s⟩ => stop H' s) ?_ ?_
  · rintro i x H1 H2 hi ⟨kvs, hK, dk, s1⟩ y
    obtain ⟨rfl, hx⟩ := yld i H1 x H2 s1 y
    obtain ⟨t, en, rfl, h1, h2⟩ := hT.at hx
    refine ⟨t, etup en, rfl, SqT.keep h2 s1, rfl, _, _, rfl, _, _, rfl, _, _, rfl, rfl, rfl, yesT ?_⟩
    have l1 := dk.le
    rw [List.length_map, List.length_take] at l1
    refine ⟨_, rfl, kvs, .inl en.l, rfl, hK, sl _ (by omega), _, upd_same, ?_, s1.upd' hD⟩
    rw [take_snoc h1, List.map_append]
    exact dk.put en.l _
  rintro H1 ⟨kv1, hK1, dk1, s1⟩
  rw [hn, List.take_length] at dk1
  refine asg ⟨_, rfl, .inr (.inr (.inl ⟨rfl, .inl ⟨_, hK1⟩⟩)), ?_⟩
  refine or_iter rfl hA s1 fun J go stop yld E hE => ?_
  have DE : D ≠ E := ne_of_none hK1 hE
  refine dc_any (n := (ts.map V.ref).length) (fun i H' => ∃ kvs, H' E = some (.dK kvs) ∧ DkP kvs ((es.take i).map fun e => e.h + 1) ∧ Same H1 H') ⟨[], upd_same, DkP.nil, Same.new hE⟩ (fun i H' hi ⟨_, _, _, s⟩ => go i H' (s1.trans s) hi) (fun H' ⟨_, _, _, s⟩ => stop H' (s1.trans s)) ?_ ?_
  · rintro i x H2 H3 hi ⟨kvs, hK, dk, s2⟩ y
    obtain ⟨rfl, hx⟩ := yld i H2 x H3 (s1.trans s2) y
    obtain ⟨t, en, rfl, h1, h2⟩ := hT.at hx
    refine ⟨t, etup en, rfl, SqT.keep h2 (s1.trans s2), rfl, _, _, rfl, _, _, rfl, _, _, rfl, rfl, rfl, yesT ?_⟩
    have l1 := dk.le
    rw [List.length_map, List.length_take] at l1
    refine ⟨_, rfl, _, _, rfl, rfl, kvs, .inl (en.h + 1), rfl, hK, sl _ (by omega), _, upd_same, ?_, s2.upd' hE⟩
    rw [take_snoc h1, List.map_append]
    exact dk.put (en.h + 1) _
  rintro H2 ⟨kv2, hK2, dk2, s2⟩
  rw [hn, List.take_length] at dk2
  obtain ⟨ks2, e2, nd2, m2⟩ := dk2.ks
  have l1 := dk1.le
  have l2 := dk2.le
  rw [List.length_map] at l1 l2
  have dk3 := DkP.mrg e2 dk1
  refine ⟨D, E, kv1, kv2, rfl, rfl, DE, s2 _ _ hK1, hK2, Nat.le_of_lt (small6 (by omega)), nxe ?_⟩
  have hK3 := upd_same (H := H2) (a := D) (o := .dK (Lz.mrgK kv1 kv2))
  have s3 : Same H (upd H2 D (.dK (Lz.mrgK kv1 kv2))) := (s1.trans s2).upd' hD
  have hl3 := Lz.mrg_len kv2 kv1
  generalize upd H2 D (.dK (Lz.mrgK kv1 kv2)) = H3 at hK3 s3 ⊢
  generalize Lz.mrgK kv1 kv2 = kv3 at dk3 hK3 hl3
  obtain ⟨ks3, e3, nd3, m3⟩ := dk3.ks
  have kl : kv3.length = ks3.length := by rw [← List.length_map (f := (·.1)), e3, List.length_map]
  refine ⟨D, _, hK3, trivial, fun od => ?_⟩
  refine ⟨_, rfl, D, od, rfl, .inl ⟨kv3, upd_same, fun F hF => ?_⟩⟩
  have DF : D ≠ F := ne_of_none upd_same hF
  have kkey : ∀ (i : Nat) (kk : Key) (vv : V), kv3[i]? = some (kk, vv) → ∃ t : Int, kk = Sum.inl t ∧ ks3[i]? = some t := fun i kk vv q => by
    have z : (kv3.map (·.1))[i]? = some kk := by rw [List.getElem?_map, q]; rfl
    rw [e3, List.getElem?_map] at z
    cases y : ks3[i]? with
    | none => rw [y] at z; cases z
    | some t => rw [y] at z; exact ⟨t, (Option.some.inj z).symm, rfl⟩
  refine lc_any (n := kv3.length) (fun i H' => H' F = some (.lst (((ks3.take i).filter fun t => decide (first < t) && decide (t ≤ last)).map V.int)) ∧ Same (upd H3 D (.frz od (.dK kv3))) H') ⟨upd_same, Same.new hF⟩ (fun i H' hi ⟨_, s⟩ => ⟨s _ _ upd_same, hi⟩) (fun H' ⟨_, s⟩ => ⟨s _ _ upd_same, Nat.le_refl _⟩) ?_ ?_
  · rintro i x H4 H5 hi ⟨hF4, s4⟩ ⟨rfl, kk, vv, hkv, rfl⟩
    obtain ⟨t, rfl, hkt⟩ := kkey i kk vv hkv
    have lf : (((ks3.take i).filter fun t => decide (first < t) && decide (t ≤ last)).map V.int).length < sizeLine := by
      have := List.length_filter_le (fun t => decide (first < t) && decide (t ≤ last)) (ks3.take i)
      rw [List.length_map]
      rw [List.length_take] at this
      exact small6 (by omega)
    have no : ¬ (first < t ∧ t ≤ last) → H5 F = some (.lst (((ks3.take (i + 1)).filter fun t => decide (first < t) && decide (t ≤ last)).map V.int)) := fun c => by
      rw [take_snoc hkt, List.filter_append, List.filter_cons_of_neg (by simpa using c), List.filter_nil, List.append_nil]
      exact hF4
    refine ⟨rfl, ?_⟩
    by_cases c1 : first < t
    · refine ⟨_, rfl, _, rfl, _, _, rfl, rfl, _, rfl, ?_⟩
      rw [decide_eq_true c1]
      refine iteT ⟨_, rfl, _, _, rfl, rfl, _, rfl, ite2 (fun c2 => ?_) (fun c2 => ?_)⟩
      · refine ⟨_, rfl, _, hF4, lf, ?_, s4.upd' hF⟩
        rw [upd_same, take_snoc hkt, List.filter_append, List.filter_cons_of_pos (by simpa using ⟨c1, of_decide_eq_true c2⟩), List.filter_nil, List.map_append]
        rfl
      · exact ⟨no fun z => c2 (decide_eq_true z.2), s4⟩
    · refine ⟨_, rfl, _, rfl, _, _, rfl, rfl, _, rfl, ?_⟩
      rw [decide_eq_false c1]
      exact iteF ⟨_, rfl, iteF ⟨no fun z => c1 z.1, s4⟩⟩
  rintro H4 ⟨hF4, s4⟩
  rw [kl, List.take_length] at hF4
  have hF5 : upd H4 D (.dK kv3) F = some (.lst ((ks3.filter fun t => decide (first < t) && decide (t ≤ last)).map V.int)) := (upd_ne DF.symm).trans hF4
  have s5 : Same H3 (upd H4 D (.dK kv3)) := fun b o e => by
    by_cases hb : b = D
    · rw [hb] at e ⊢
      rw [upd_same]
      rw [hK3] at e
      exact e
    · rw [upd_ne hb]
      exact s4 b o (by rw [upd_ne hb]; exact e)
  have s6 := s3.trans s5
  refine ⟨s4 _ _ upd_same, F, _, rfl, .inl (.inl hF5), fun inner G hperm hsort hG => asg ?_⟩
  have imem : ∀ t, t ∈ inner ↔ t ∈ brk es ∧ first < t ∧ t ≤ last := fun t => by
    rw [hperm.mem_iff, List.mem_filter, m3 t, List.mem_append, m2 t]
    unfold brk
    rw [List.mem_append]
    simp
  have ind : inner.Nodup := hperm.nodup_iff.mpr (nd3.filter _)
  have ilt : inner.Pairwise (· < ·) := (List.Pairwise.and hsort ind).imp fun {a b} h => by
    have := h.1
    have := h.2
    omega
  have ilen : inner.length ≤ 200 := by
    have := hperm.length_eq
    have := List.length_filter_le (fun t => decide (first < t) && decide (t ≤ last)) ks3
    omega
  have s7 := s6.trans (Same.new (o := .lst (inner.map V.int)) hG)
  have hG7 := upd_same (H := upd H4 D (.dK kv3)) (a := G) (o := .lst (inner.map V.int))
  generalize upd (upd H4 D (.dK kv3)) G (.lst (inner.map V.int)) = H7 at s7 hG7 ⊢
  refine sqIf (b := decide (last < first)) (fun Q' q => ⟨_, rfl, _, rfl, _, _, rfl, rfl, _, rfl, q⟩) (fun c => absurd (of_decide_eq_true c) (by omega)) (fun _ => nxt ?_)
  refine ⟨_, rfl, _, rfl, G, inner.map V.int, rfl, .inr (.inl (.inl hG7)), small6' (by simp only [List.length_cons, List.length_append, List.length_map, List.length_nil]; omega), fun L hL => ?_⟩
  have s8 : Same H7 (upd H7 L (.lst (V.int first :: (inner.map V.int ++ [])))) := Same.new hL
  have hG8 := s8 _ _ hG7
  have hL8 := upd_same (H := H7) (a := L) (o := .lst (V.int first :: (inner.map V.int ++ [])))
  generalize upd H7 L (.lst (V.int first :: (inner.map V.int ++ []))) = H8 at s8 hG8 hL8 ⊢
  refine ⟨_, rfl, G, rfl, ⟨_, .inl (.inl hG8)⟩, fun M hM => lc_list (K := K) (a := G) (xs := inner.map V.int) (fun i H' => H' M = some (.lst (((inner.take i).map fun t => t - 1).map V.int)) ∧ Same H8 H') ⟨upd_same, Same.new hM⟩ (fun i H' _ ⟨_, s⟩ => .inl (.inl (s _ _ hG8))) ?_ ?_⟩
  · rintro i x H9 hx ⟨hM9, s9⟩
    obtain ⟨t, rfl, ht⟩ : ∃ t, x = V.int t ∧ inner[i]? = some t := by
      rw [List.getElem?_map] at hx
      cases e : inner[i]? with
      | none => rw [e] at hx; cases hx
      | some t => rw [e] at hx; exact ⟨t, (Option.some.inj hx).symm, rfl⟩
    have hi := (List.getElem?_eq_some_iff.mp ht).1
    refine ⟨rfl, yesT ⟨_, rfl, _, _, rfl, rfl, _, hM9, small6 (by rw [List.length_map, List.length_map, List.length_take]; omega), ?_, s9.upd' hM⟩⟩
    rw [upd_same, take_snoc ht, List.map_append, List.map_append]
    rfl
  rintro H9 ⟨hM9, s9⟩
  rw [List.length_map, List.take_length] at hM9
  refine ⟨M, _, rfl, .inr (.inl (.inl hM9)), _, rfl, small6' (by simp only [List.length_cons, List.length_append, List.length_map, List.length_nil]; omega), fun N hN => ?_⟩
  have s10 : Same H9 (upd H9 N (.lst ((inner.map fun t => t - 1).map V.int ++ [V.int last]))) := Same.new hN
  refine ⟨L, N, _, _, rfl, .inl (.inl (s10 _ _ (s9 _ _ hL8))), .inl (.inl upd_same), by simp, fun S us H11 s11 hS0 hS hul hup => ?_⟩
  have s12 := ((s7.trans s8).trans s9).trans s10
  refine k S us inner H11 ilt imem ilen (s12.free hS0) hS ⟨?_, fun j t r h1 h2 => ?_⟩ (s12.trans s11)
  · rw [hul, runs_zip]
    simp
  · obtain ⟨x, y, hx, hy, ht⟩ := hup j t h1
    rw [runs_zip, List.getElem?_zip_eq_some] at h2
    have ex : x = V.int r.1 := by
      have e : (V.int first :: (inner.map V.int ++ [])) = (first :: inner).map V.int := by simp
      rw [e, List.getElem?_map, h2.1] at hx
      exact (Option.some.inj hx).symm
    have ey : y = V.int r.2 := by
      have e : ((inner.map fun t => t - 1).map V.int ++ [V.int last]) = ((inner.map fun t => t - 1) ++ [last]).map V.int := by simp
      rw [e, List.getElem?_map, h2.2] at hy
      exact (Option.some.inj hy).symm
    rw [ht, ex, ey]
theorem ixN_end {n : Nat} (h : 0 < n) : ixN n (-1) = some (n - 1) := by
  unfold ixN
  rw [if_neg (by decide), if_pos (by omega)]
  congr 1
  omega
theorem Pcs.last {H : Hp} {p : Addr} {ts : List Addr} {qs : List Pc} {q : Pc} (h : Pcs H p ts (qs ++ [q])) : ∃ us u, ts = us ++ [u] ∧ us.length = qs.length ∧ H u = some (.tup (etri q)) := by
  have hl := h.tr.1
  rw [List.length_append, List.length_singleton] at hl
  obtain ⟨us, u, rfl⟩ := snoc_of (l := ts) (fun e => by rw [e] at hl; simp at hl)
  rw [List.length_append, List.length_singleton] at hl
  have le : us.length = qs.length := by omega
  exact ⟨us, u, rfl, le, h.tr.2 us.length u q (by simp) (by rw [le]; simp)⟩
/-- the piece that the next value goes into -/
inductive Nxt (ps : List Pc) (m : Int) : Bool → Prop where
  | new : (ps = [] ∨ ∃ qs q, ps = qs ++ [q] ∧ q.c ≠ m) → (∀ lo hi, addP ps lo hi m = ps ++ [⟨lo, hi, m⟩]) → Nxt ps m false
  | old (qs : List Pc) (q : Pc) : ps = qs ++ [q] → q.c = m → (∀ lo hi, addP ps lo hi m = ps.set (ps.length - 1) ⟨q.a, hi, m⟩) → Nxt ps m true
theorem nxt_of (ps : List Pc) (m : Int) : ∃ b, Nxt ps m b := by
  by_cases h : ps = []
  · exact ⟨false, .new (.inl h) fun lo hi => by rw [h]; rfl⟩
  · obtain ⟨qs, q, rfl⟩ := snoc_of h
    by_cases z : q.c = m
    · exact ⟨true, .old qs q rfl z fun lo hi => by rw [addP_snoc, if_pos z]; simp⟩
    · exact ⟨false, .new (.inr ⟨qs, q, rfl, z⟩) fun lo hi => by rw [addP_snoc, if_neg z]⟩
theorem ok_weight_pieces (T : Txt P K mg) (B : Tb T base) : FnOk P w K mg base CX0 2 T.a_weight_pieces T.d_weight_pieces ["estimates", "first", "last"] (spWp K T.P_untrue_weight) := by
  refine T.F_weight_pieces.ok sc_weight_pieces (fun vs H Q E h => ?_) (fun cdv A outer s H vs Q E hr h => ?_)
  · obtain ⟨a, first, last, es, rfl, _⟩ := h
    rfl
  refine ⟨_, (pss_cons (ps_set (i := 3) sc_weight_pieces.nd rfl (Or.inl rfl) (pe_lst pa_nil)) (pss_cons (ps_for PassesOwn.never rfl (pi_list (pe_call (ok_even_runs T B) (hr.mono (by decide)) (by rfl) T.m_even_runs T.F_even_runs.kp T.b_even_runs .nil pass0 (pa_cons (pv 0) (pa_cons (pv 1) (pa_cons (pv 2) pa_nil))))) (pg_tup rfl (pgs_cons (pg_name (i := 4) sc_weight_pieces.nd rfl (Or.inl rfl)) (pgs_cons (pg_name (i := 5) sc_weight_pieces.nd rfl (Or.inl rfl)) pgs_nil))) (pss_cons (ps_set (i := 6) sc_weight_pieces.nd rfl (Or.inl rfl) (pe_call (ok_untrue_weight T B) (hr.mono (by decide)) (by rfl) T.m_untrue_weight T.F_untrue_weight.kp T.b_untrue_weight .nil pass0 (pa_cons (pv 0) (pa_cons (pv 4) pa_nil)))) (pss_one (ps_if (PW.pt (pw_and (pt_truth (pv 3) (by intro _; rfl)) (pw_and1 (pt_cmpR op_eq (pe_ix ix_tup (pe_ix ix_list (pv 3) (pe_un un_neg pe_int) (fun _ _ => rfl)) pe_int (fun _ _ => rfl)) (pv 6) (nomark _))))) (pss_one (ps_asg (pe_tup (pa_cons (pe_ix ix_tup (pe_ix ix_list (pv 3) (pe_un un_neg pe_int) (fun _ _ => rfl)) pe_int (fun _ _ => rfl)) (pa_cons (pv 5) (pa_cons (pv 6) pa_nil)))) (pg_sub (pv 3) (pe_un un_neg pe_int) set_list))) (pss_one (ps_expr (pe_bm PySem.F.plainAttrs_list PySem.F.slot_list_append PySem.F.type_list_append mt_append (pv 3) (pa_cons (pe_tup (pa_cons (pv 4) (pa_cons (pv 5) (pa_cons (pv 6) pa_nil)))) pa_nil)))))))) (pss_one (ps_ret (pv 3))))), ?_⟩
  obtain ⟨a, first, last, es, rfl, hR, hz, hfl, tab, k⟩ := h
  refine ⟨Nat.zero_le _, fun p hp => asg ?_⟩
  have s0 : Same H (upd H p (.lst [])) := Same.new hp
  refine ⟨_, rfl, _, rfl, _, rfl, a, first, last, es, rfl, hR.same s0, hz, hfl, fun S ts inner H1 ilt imem ilen hS0 hS prs s1 => ⟨S, rfl, ⟨_, .inl (.inl hS)⟩, ?_⟩⟩
  have sS : S ≠ p := fun e => by rw [e, upd_same] at hS0; cases hS0
  have tab1 := TabG.same (TabG.same tab s0) s1
  have rl : (runs last first inner).length ≤ 201 := by
    rw [runs_zip, List.length_zip]
    simp
    omega
  have hn : (ts.map V.ref).length = (runs last first inner).length := by rw [List.length_map]; exact prs.1
  refine for_list (K := K) (a := S) (xs := ts.map V.ref) (fun i σ H' => ∃ (us : List Addr) (ps : List Pc) (v4 v5 v6 : Option V), σ = [some (.ref a), some (.int first), some (.int last), some (.ref p), v4, v5, v6] ∧ ps = ((runs last first inner).take i).foldl (fun ps r => addP ps r.1 r.2 (uw es r.1)) [] ∧ ps.length ≤ i ∧ Pcs H' p us ps ∧ H' S = some (.lst (ts.map V.ref)) ∧ Prs H' ts (runs last first inner) ∧ Rw K H' a es ∧ TabG H' T.P_untrue_weight ∧ But T.P_untrue_weight H H')
    ⟨[], [], none, none, none, rfl, rfl, Nat.le_refl _, ⟨s1 _ _ upd_same, rfl, fun j t q h1 => by simp at h1⟩, hS, prs, (hR.same s0).same s1, tab1, Same.but (s0.trans s1)⟩ (fun i σ H' _ ⟨_, _, _, _, _, _, _, _, _, q, _⟩ => .inl (.inl q)) ?_ ?_
  · rintro i x σ H2 hx ⟨us, ps, v4, v5, v6, rfl, hps, hpl, P2, hS2, prs2, hR2, tab2, b2⟩
    obtain ⟨t, r, rfl, ht, hr2, htr⟩ : ∃ t r, x = .ref t ∧ ts[i]? = some t ∧ (runs last first inner)[i]? = some r ∧ H2 t = some (.tup [.int r.1, .int r.2]) := by
      rw [List.getElem?_map] at hx
      cases e : ts[i]? with
      | none => rw [e] at hx; cases hx
      | some t =>
        rw [e] at hx
        have hi : i < (runs last first inner).length := by rw [← prs2.1]; exact (List.getElem?_eq_some_iff.mp e).1
        exact ⟨t, _, (Option.some.inj hx).symm, rfl, List.getElem?_eq_getElem hi, prs2.2 i t _ e (List.getElem?_eq_getElem hi)⟩
    have hi : i < 201 := by
      have := (List.getElem?_eq_some_iff.mp hr2).1
      omega
    refine ⟨t, [.int r.1, .int r.2], rfl, .inl (.inl htr), rfl, _, _, rfl, _, _, rfl, rfl, ?_⟩
    refine ⟨_, rfl, _, rfl, a, r.1, es, rfl, hR2, tab2, fun H3 tb => asg ?_⟩
    have b3 := tabbed_but tb
    have P3 := P2.tab b3 tab2
    have hS3 := b3 _ _ (TabG.ne tab2 hS2) hS2
    have prs3 : Prs H3 ts (runs last first inner) := ⟨prs2.1, fun j u q h1 h2 => b3 _ _ (fun z => by
      obtain ⟨l, e, _⟩ := tab2
      have y := prs2.2 j u q h1 h2
      rw [z, e] at y; cases y) (prs2.2 j u q h1 h2)⟩
    have hR3 := hR2.but tab2 b3
    have tab3 := tb.1
    have B3 := b2.trans b3
    obtain ⟨m, hm⟩ : ∃ m, m = uw es r.1 := ⟨_, rfl⟩
    rw [← hm]
    have hps' : ((runs last first inner).take (i + 1)).foldl (fun ps r => addP ps r.1 r.2 (uw es r.1)) [] = addP ps r.1 r.2 m := by
      rw [take_snoc hr2, List.foldl_append, ← hps, hm]
      rfl
    have hul : us.length < sizeLine := small6 (by rw [P3.tr.1]; omega)
    have fin : ∀ (q : Addr) (o : HO) (l : List V), H3 q = none → upd (upd H3 q o) p (.lst l) S = some (.lst (ts.map V.ref)) ∧ Prs (upd (upd H3 q o) p (.lst l)) ts (runs last first inner) ∧ Rw K (upd (upd H3 q o) p (.lst l)) a es ∧ TabG (upd (upd H3 q o) p (.lst l)) T.P_untrue_weight ∧ But T.P_untrue_weight H (upd (upd H3 q o) p (.lst l)) := fun q o l hq => by
      have B5 : But T.P_untrue_weight H (upd (upd H3 q o) p (.lst l)) := (B3.trans (But.new hq)).mut hp
      have s4 : Same H3 (upd H3 q o) := Same.new hq
      exact ⟨by rw [upd_ne sS]; exact s4 _ _ hS3, ⟨prs3.1, fun j u r h1 h2 => by
        have y := prs3.2 j u r h1 h2
        rw [upd_ne (fun z => by rw [z, P3.li] at y; cases y)]
        exact s4 _ _ y⟩, hR.but tab B5, TabG.set (TabG.same tab3 s4) (s4 _ _ P3.li), B5⟩
    obtain ⟨b, nx⟩ := nxt_of ps m
    cases nx with
    | new e ha =>
      refine ifS_of (b := false) (fun Q' q => ?_) (fun c => nomatch c) (fun _ => ?_)
      · rcases e with rfl | ⟨qs, q', rfl, ne⟩
        · have u0 : us = [] := List.length_eq_zero_iff.mp P3.tr.1
          exact ⟨_, rfl, false, .inl ⟨_, .inl (.inl P3.li), by rw [u0]; rfl⟩, iteF q⟩
        · obtain ⟨us', u, rfl, hl, hu⟩ := P3.last
          exact ⟨_, rfl, true, .inl ⟨_, .inl (.inl P3.li), by simp⟩, iteT ⟨_, rfl, _, rfl, _, _, _, _, rfl, rfl, .inl (.inl P3.li), by rw [List.map_append]; exact atI_last _ _, _, _, _, _, rfl, rfl, .inl (.inl hu), rfl, _, rfl, rfl, _, rfl, by rw [dec_int, decide_eq_false ne]; exact q⟩⟩
      · refine ⟨_, rfl, .inl ⟨rfl, _, .inl (.inl P3.li)⟩, _, rfl, _, rfl, _, rfl, sz3, fun q hq => ?_⟩
        have s4 : Same H3 (upd H3 q (.tup [.int r.1, .int r.2, .int m])) := Same.new hq
        refine ⟨_, _, _, rfl, rfl, s4 _ _ P3.li, by rw [List.length_map]; exact hul, ?_⟩
        exact ⟨us ++ [q], ps ++ [Pc.mk r.1 r.2 m], _, _, _, rfl, by rw [hps', ha], by simp; omega, P3.new (q := Pc.mk r.1 r.2 m) hq, fin q _ _ hq⟩
    | old qs q' e1 e2 ha =>
      subst e1
      obtain ⟨us', u, rfl, hl, hu⟩ := P3.last
      have lpos : 0 < ((us' ++ [u]).map V.ref).length := by simp
      refine ifS_of (b := true) (fun Q' q => ?_) (fun _ => ?_) (fun c => nomatch c)
      · exact ⟨_, rfl, true, .inl ⟨_, .inl (.inl P3.li), by simp⟩, iteT ⟨_, rfl, _, rfl, _, _, _, _, rfl, rfl, .inl (.inl P3.li), by rw [List.map_append]; exact atI_last _ _, _, _, _, _, rfl, rfl, .inl (.inl hu), rfl, _, rfl, rfl, _, rfl, by rw [dec_int, decide_eq_true e2]; exact q⟩⟩
      · refine ⟨_, rfl, _, rfl, _, _, _, _, rfl, rfl, .inl (.inl P3.li), by rw [List.map_append]; exact atI_last _ _, _, _, _, _, rfl, rfl, .inl (.inl hu), rfl, _, rfl, _, rfl, sz3, fun q hq => ?_⟩
        have s4 : Same H3 (upd H3 q (.tup [.int q'.a, .int r.2, .int m])) := Same.new hq
        refine ⟨_, rfl, _, rfl, _, _, _, _, rfl, rfl, s4 _ _ P3.li, ixN_end lpos, ?_⟩
        have P4 := P3.put (q := Pc.mk q'.a r.2 m) (k := ((us' ++ [u]).map V.ref).length - 1) hq
        exact ⟨(us' ++ [u]).set (((us' ++ [u]).map V.ref).length - 1) q, (qs ++ [q']).set (((us' ++ [u]).map V.ref).length - 1) (Pc.mk q'.a r.2 m), _, _, _, rfl, by rw [hps', ha, P3.len], by rw [List.length_set]; omega, P4, fin q _ _ hq⟩
  · rintro σ H2 ⟨us, ps, v4, v5, v6, rfl, hps, hpl, P2, hS2, prs2, hR2, tab2, b2⟩
    rw [hn, List.take_length] at hps
    refine ⟨_, rfl, k p us inner H2 ilt imem ?_ hp b2 tab2⟩
    unfold pcs
    rw [← hps]
    exact P2

theorem mks_take {es : List Es} {i : Nat} {e : Es} (h : es[i]? = some e) : mks (es.take (i + 1)) = mks (es.take i) ++ [e.l - 1, e.l, e.h, e.h + 1] := by
  rw [take_snoc h]
  simp [mks]
theorem out_or (e : Es) (v : Int) : (decide (v < e.l) || decide (v > e.h)) = out e v := by
  unfold out
  by_cases a : v < e.l <;> by_cases b : e.h < v <;> simp [a, b] <;> omega
theorem ok_law_marks (T : Txt P K mg) (B : Tb T base) : FnOk P w K mg base CX0 1 T.a_law_marks T.d_law_marks ["_law_rows"] (spMarks) := by
  refine T.F_law_marks.ok sc_law_marks (fun vs H Q E h => ?_) (fun cdv A outer s H vs Q E hr h => ?_)
  · obtain ⟨r, ts, es, rfl, _⟩ := h
    rfl
  refine ⟨_, (pss_cons (ps_set (i := 1) sc_law_marks.nd rfl (Or.inl rfl) (pe_lst pa_nil)) (pss_cons (ps_for PassesOwn.never rfl (pi_list (pv 0)) (pg_name (i := 2) sc_law_marks.nd rfl (Or.inl rfl)) (pss_one (ps_expr (pe_bm PySem.F.plainAttrs_list PySem.F.slot_list_extend PySem.F.type_list_extend mt_extend (pv 1) (pa_cons (pe_lst (pa_cons (pe_op op_sub (pe_ix ix_tup (pv 2) pe_int (fun _ _ => rfl)) pe_int) (pa_cons (pe_ix ix_tup (pv 2) pe_int (fun _ _ => rfl)) (pa_cons (pe_ix ix_tup (pv 2) pe_int (fun _ _ => rfl)) (pa_cons (pe_op op_add (pe_ix ix_tup (pv 2) pe_int (fun _ _ => rfl)) pe_int) pa_nil))))) pa_nil))))) (pss_one (ps_ret (pe_callB cr_sortedI (by rfl) T.z_sorted (by decide +kernel) (pa_cons (pv 1) pa_nil)))))), ?_⟩
  obtain ⟨r, ts, es, rfl, R, k⟩ := h
  refine ⟨Nat.zero_le _, fun b hb => asg ?_⟩
  refine ⟨_, rfl, r, rfl, ⟨_, .inl (.inl (Same.new hb _ _ R.li))⟩, for_list (K := K) (a := r) (xs := ts.map V.ref) (fun i σ H' => ∃ (v2 : Option V), σ = [some (.ref r), some (.ref b), v2] ∧ (mks (es.take i)).length = 4 * i ∧ H' b = some (.lst ((mks (es.take i)).map V.int)) ∧ Same H H')
    ⟨none, rfl, rfl, upd_same, Same.new hb⟩ (fun i σ H' _ ⟨_, _, _, _, s⟩ => .inl (.inl (s _ _ R.li))) ?_ ?_⟩
  · rintro i z σ H1 hz ⟨v2, rfl, hn, hB, s1⟩
    obtain ⟨t, e, rfl, he, ht⟩ := (R.same s1).tr.at hz
    have hi : i < es.length := (List.getElem?_eq_some_iff.mp he).1
    have le := R.le
    refine ⟨_, rfl, .inl ⟨rfl, _, .inl (.inl hB)⟩, _, rfl, _, _, 0, _, rfl, rfl, .inl (.inl ht), rfl, _, _, rfl, rfl, _, rfl, _, _, 0, _, rfl, rfl, .inl (.inl ht), rfl, _, rfl, _, _, 1, _, rfl, rfl, .inl (.inl ht), rfl, _, rfl, _, _, 1, _, rfl, rfl, .inl (.inl ht), rfl, _, _, rfl, rfl, sz4, fun d hd => ?_⟩
    refine ⟨b, d, _, _, rfl, rfl, (upd_ne (ne_of_none hB hd)).trans hB, upd_same, small6' (by rw [List.length_map]; show (mks (es.take i)).length + 4 ≤ 100000; omega), ?_⟩
    exact ⟨_, rfl, by rw [mks_take he, List.length_append, hn]; rfl, by rw [upd_same, mks_take he, List.map_append]; rfl, (s1.trans (Same.new hd)).upd' hb⟩
  · rintro σ H1 ⟨v2, rfl, hn, hB, s1⟩
    rw [R.len, List.take_length] at hB hn
    refine ⟨_, rfl, b, _, rfl, .inl (.inl hB), fun ms l hp hs hl => ?_⟩
    have le := R.le
    exact k l ms _ hp (s1.free hl) upd_same (by rw [hp.length_eq, hn]; omega) (s1.trans (Same.new hl))
theorem ok_law_untrue_mass (T : Txt P K mg) (B : Tb T base) : FnOk P w K mg base CX0 1 T.a_law_untrue_mass T.d_law_untrue_mass ["_law_rows", "_law_value"] (spMass) := by
  refine T.F_law_untrue_mass.ok sc_law_untrue_mass (fun vs H Q E h => ?_) (fun cdv A outer s H vs Q E hr h => ?_)
  · obtain ⟨r, v, ts, es, rfl, _⟩ := h
    rfl
  refine ⟨_, (pss_one (ps_ret (pe_callB (cr_sum rfl) (by rfl) T.z_sum (by decide +kernel) (pa_cons (pe_lc (own := [("_law_row", 2)]) (g := gName 2) (by rfl) sc_law_untrue_mass.nd (pi_list (pv 0)) (blkOk_by (own := [("_law_row", 2)]) (N := ["_law_rows", "_law_value", "_law_row"]) (sc := defScope s_law_untrue_mass) (by decide +kernel)) (fun _ _ _ _ _ => pg_name (i := 2) sc_law_untrue_mass.nd rfl (Or.inl rfl)) (fun _ _ _ _ _ => pts_one (PW.pt (pw_or (pt_cmpR op_lt (pv 1) (pe_ix (show IxR _ (rIxT K) from ix_tup) (pv 2) pe_int (fun _ _ => rfl)) (nomark _)) (pw_or1 (pt_cmpR op_gt (pv 1) (pe_ix (show IxR _ (rIxT K) from ix_tup) (pv 2) pe_int (fun _ _ => rfl)) (nomark _)))))) (fun _ _ _ _ _ => (pe_ix (show IxR _ (rIxT K) from ix_tup) (pv 2) pe_int (fun _ _ => rfl)))) pa_nil)))), ?_⟩
  obtain ⟨r, v, ts, es, rfl, R, k⟩ := h
  refine ⟨_, rfl, r, rfl, ⟨_, .inl (.inl R.li)⟩, fun D hD => lc_list (K := K) (a := r) (xs := ts.map V.ref) (fun i H' => H' D = some (.lst ((((es.take i).filter fun e => out e v).map fun e => (e.w : Int)).map V.int)) ∧ But D H H') ⟨by rw [upd_same]; rfl, But.upd⟩ (fun i H' _ q => .inl (.inl (q.2.same hD _ _ R.li))) ?_ ?_⟩
  · rintro i z H1 hz ⟨hd, bb⟩
    obtain ⟨t, e, rfl, he, ht⟩ := (R.same (bb.same hD)).tr.at hz
    have hi : i < es.length := (List.getElem?_eq_some_iff.mp he).1
    have le := R.le
    have lf : ((((es.take i).filter fun e => out e v).map fun e => (e.w : Int)).map V.int).length < sizeLine := by
      have := List.length_filter_le (fun e => out e v) (es.take i)
      rw [List.length_map, List.length_map]
      rw [List.length_take] at this
      exact small6 (by omega)
    refine ⟨rfl, (put_is (put_or (a := decide (v < e.l)) (b := decide (v > e.h)) (fun Q' q => ⟨_, rfl, _, rfl, _, _, 0, _, rfl, rfl, .inl (.inl ht), rfl, _, _, rfl, rfl, _, rfl, q⟩) (fun _ Q' q => ⟨_, rfl, _, rfl, _, _, 1, _, rfl, rfl, .inl (.inl ht), rfl, _, _, rfl, rfl, _, rfl, q⟩)) (out_or e v)) _ ?_⟩
    refine ite2 (fun c => ?_) (fun c => ?_)
    · refine ⟨_, rfl, _, _, 2, _, rfl, rfl, .inl (.inl ht), rfl, _, hd, lf, ?_, bb.trans But.upd⟩
      rw [upd_same, take_snoc he, List.filter_append, List.filter_cons_of_pos (p := fun e => out e v) c, List.filter_nil, List.map_append, List.map_append]
      rfl
    · refine ⟨?_, bb⟩
      rw [take_snoc he, List.filter_append, List.filter_cons_of_neg (p := fun e => out e v) c, List.filter_nil, List.append_nil]
      exact hd
  · rintro H1 ⟨hd, bb⟩
    rw [R.len, List.take_length] at hd
    exact ⟨D, _, rfl, .inl (.inl hd), k H1 (bb.same hD)⟩
theorem ok_law_end (T : Txt P K mg) (B : Tb T base) : FnOk P w K mg base CX0 3 T.a_law_end T.d_law_end ["_law_source_here", "_law_rows"] (spEnd) := by
  refine T.F_law_end.ok sc_law_end (fun vs H Q E h => ?_) (fun cdv A outer s H vs Q E hr h => ?_)
  · obtain ⟨a, r, ts, es, rfl, _⟩ := h
    rfl
  refine ⟨_, (pss_cons (ps_set (i := 2) sc_law_end.nd rfl (Or.inl rfl) (pe_call (ok_law_draw T B) (hr.mono (by decide)) (by rfl) T.m_law_draw T.F_law_draw.kp T.b_law_draw .nil pass0 (pa_cons (pv 0) (pa_cons pe_int pa_nil)))) (pss_cons (ps_if (PW.pt (pw_or (pt_cmpR op_eq (pv 2) pe_int (nomark _)) (pw_or1 (pt_cmpR op_eq (pe_callB call_len_seq (by rfl) T.z_len (by decide +kernel) (pa_cons (pv 1) pa_nil)) pe_int (nomark _))))) (pss_one (ps_ret (pe_op op_add (pe_op op_mul pe_int (pe_call (ok_law_between T B) (hr.mono (by decide)) (by rfl) T.m_law_between T.F_law_between.kp T.b_law_between .nil pass0 (pa_cons (pv 0) (pa_cons (pe_op op_sub pe_int (pe_op op_pow pe_int pe_int)) (pa_cons (pe_op op_pow pe_int pe_int) pa_nil))))) (pe_call (ok_law_draw T B) (hr.mono (by decide)) (by rfl) T.m_law_draw T.F_law_draw.kp T.b_law_draw .nil pass0 (pa_cons (pv 0) (pa_cons pe_int pa_nil)))))) pss_nil) (pss_cons (ps_set (i := 3) sc_law_end.nd rfl (Or.inl rfl) (pe_ix ix_list (pv 1) (pe_call (ok_law_draw T B) (hr.mono (by decide)) (by rfl) T.m_law_draw T.F_law_draw.kp T.b_law_draw .nil pass0 (pa_cons (pv 0) (pa_cons (pe_callB call_len_seq (by rfl) T.z_len (by decide +kernel) (pa_cons (pv 1) pa_nil)) pa_nil))) (fun _ _ => rfl))) (pss_one (ps_ret (pe_op op_add (pe_ix ix_tup (pv 3) (pe_op op_fdiv (pv 2) pe_int) (fun _ _ => rfl)) (pe_call (ok_law_between T B) (hr.mono (by decide)) (by rfl) T.m_law_between T.F_law_between.kp T.b_law_between .nil pass0 (pa_cons (pv 0) (pa_cons (pe_op op_sub pe_int pe_int) (pa_cons pe_int pa_nil)))))))))), ?_⟩
  obtain ⟨a, r, ts, es, rfl, hs, ra, R, k⟩ := h
  refine ⟨_, rfl, _, _, rfl, hs, by decide, by decide, fun sh H1 sh0 sh8 hs1 b1 => asg ?_⟩
  have R1 := R.but b1 hs ra
  refine sqIf (put_or (a := decide (V.int sh = V.int 0)) (b := decide (V.int ((ts.map V.ref).length : Int) = V.int 0)) (fun Q' q => ⟨_, rfl, rfl, _, rfl, q⟩) (fun _ Q' q => ⟨_, rfl, r, _, rfl, .inl (.inl (.inl R1.li)), rfl, _, rfl, q⟩)) (fun _ => ?_) (fun c => nxt ?_)
  · refine ⟨_, rfl, _, _, rfl, rfl, ⟨by decide, by decide, by decide⟩, _, _, rfl, rfl, _, _, rfl, rfl, ⟨by decide, by decide, by decide⟩, a, _, _, rfl, hs1, by decide, by decide, fun x H2 _ _ hs2 b2 => ?_⟩
    refine ⟨_, _, rfl, rfl, .inl ⟨by decide, by decide⟩, _, rfl, _, _, rfl, hs2, by decide, by decide, fun y H3 _ _ hs3 b3 => ⟨_, _, rfl, rfl, k _ H3 hs3 ((b1.trans b2).trans b3)⟩⟩
  have hne : 0 < ts.length := by
    rw [Bool.or_eq_false_iff, dec_int, dec_int, List.length_map] at c
    have := of_decide_eq_false c.2
    omega
  have hn := R.tr.1
  have le := R.le
  refine ⟨_, rfl, _, rfl, _, rfl, r, _, rfl, .inl (.inl (.inl R1.li)), _, _, rfl, hs1, by rw [List.length_map]; omega, by rw [List.length_map]; omega, fun x H2 x0 x1 hs2 b2 => ?_⟩
  have R2 := R1.but b2 hs1 ra
  obtain ⟨j, rfl⟩ := Int.eq_ofNat_of_zero_le x0
  have hj : j < ts.length := by rw [List.length_map] at x1; omega
  have et : ts[j]? = some ts[j] := List.getElem?_eq_getElem hj
  have ht := R2.tr.2 j _ _ et (List.getElem?_eq_getElem (by omega))
  refine ⟨_, _, _, _, rfl, rfl, .inl (.inl R2.li), atI_nat (by rw [List.getElem?_map, et]; rfl), asg ?_⟩
  have hh : sh / 4 = 0 ∨ sh / 4 = 1 := by omega
  rcases hh with h4 | h4
  · refine ⟨_, rfl, _, rfl, _, _, rfl, rfl, ⟨by decide, by decide⟩, _, _, _, _, rfl, rfl, .inl (.inl ht), by rw [h4]; rfl, _, rfl, _, _, rfl, rfl, a, _, _, rfl, hs2, by decide, by decide, fun y H3 _ _ hs3 b3 => ⟨_, _, rfl, rfl, k _ H3 hs3 ((b1.trans b2).trans b3)⟩⟩
  · refine ⟨_, rfl, _, rfl, _, _, rfl, rfl, ⟨by decide, by decide⟩, _, _, _, _, rfl, rfl, .inl (.inl ht), by rw [h4]; rfl, _, rfl, _, _, rfl, rfl, a, _, _, rfl, hs2, by decide, by decide, fun y H3 _ _ hs3 b3 => ⟨_, _, rfl, rfl, k _ H3 hs3 ((b1.trans b2).trans b3)⟩⟩
theorem ok_law_pieces (T : Txt P K mg) (B : Tb T base) : FnOk P w K mg base CX0 2 T.a_law_pieces T.d_law_pieces ["_law_rows", "_law_first", "_law_last"] (spPieces) := by
  refine T.F_law_pieces.ok sc_law_pieces (fun vs H Q E h => ?_) (fun cdv A outer s H vs Q E hr h => ?_)
  · obtain ⟨r, first, last, ts, es, rfl, _⟩ := h
    rfl
  refine ⟨_, (pss_cons (ps_set (i := 3) sc_law_pieces.nd rfl (Or.inl rfl) (pe_lst pa_nil)) (pss_cons (ps_for PassesOwn.never rfl (pi_list (pe_callB cr_sortedI (by rfl) T.z_sorted (by decide +kernel) (pa_cons (pe_op op_cat (pe_call (ok_law_marks T B) (hr.mono (by decide)) (by rfl) T.m_law_marks T.F_law_marks.kp T.b_law_marks .nil pass0 (pa_cons (pv 0) pa_nil)) (pe_lst (pa_cons (pv 1) (pa_cons (pv 2) pa_nil)))) pa_nil))) (pg_name (i := 4) sc_law_pieces.nd rfl (Or.inl rfl)) (pss_one (ps_if (PW.pt (pw_and (pt_cmpR op_le (pv 1) (pv 4) (nomark _)) (pw_and1 (pt_cmpR op_le (pv 4) (pv 2) (nomark _))))) (pss_cons (ps_set (i := 5) sc_law_pieces.nd rfl (Or.inl rfl) (pe_call (ok_law_untrue_mass T B) (hr.mono (by decide)) (by rfl) T.m_law_untrue_mass T.F_law_untrue_mass.kp T.b_law_untrue_mass .nil pass0 (pa_cons (pv 0) (pa_cons (pv 4) pa_nil)))) (pss_one (ps_if (PW.pt (pw_and (pt_cmpR op_gt (pe_callB call_len_seq (by rfl) T.z_len (by decide +kernel) (pa_cons (pv 3) pa_nil)) pe_int (nomark _)) (pw_and1 (pt_cmpR op_eq (pe_ix ix_tup (pe_ix ix_list (pv 3) (pe_un un_neg pe_int) (fun _ _ => rfl)) pe_int (fun _ _ => rfl)) (pv 5) (nomark _))))) (pss_one (ps_asg (pe_tup (pa_cons (pe_ix ix_tup (pe_ix ix_list (pv 3) (pe_un un_neg pe_int) (fun _ _ => rfl)) pe_int (fun _ _ => rfl)) (pa_cons (pv 4) (pa_cons (pv 5) pa_nil)))) (pg_sub (pv 3) (pe_un un_neg pe_int) set_list))) (pss_one (ps_expr (pe_bm PySem.F.plainAttrs_list PySem.F.slot_list_append PySem.F.type_list_append mt_append (pv 3) (pa_cons (pe_tup (pa_cons (pv 4) (pa_cons (pv 4) (pa_cons (pv 5) pa_nil)))) pa_nil))))))) pss_nil))) (pss_one (ps_ret (pv 3))))), ?_⟩
  obtain ⟨r, first, last, ts, es, rfl, R, k⟩ := h
  refine ⟨Nat.zero_le _, fun p hp => asg ?_⟩
  have s0 : Same H (upd H p (.lst [])) := Same.new hp
  refine ⟨_, rfl, r, ts, es, rfl, R.same s0, fun l ns H1 hperm hl0 hl hlen s1 => ?_⟩
  have l0 : l ≠ p := fun e => by rw [e, upd_same] at hl0; cases hl0
  have P1 : Pcs H1 p [] [] := ⟨s1 _ _ upd_same, rfl, fun j t q h1 => by simp at h1⟩
  refine ⟨_, rfl, _, rfl, sz2, fun d hd => ?_⟩
  have s2 := Same.new (o := .lst [V.int first, V.int last]) hd
  refine ⟨l, d, _, _, rfl, rfl, s2 _ _ hl, upd_same, small6' (by rw [List.length_map]; show ns.length + 2 ≤ 100000; omega), fun w hw => ?_⟩
  refine ⟨w, ns ++ [first, last], rfl, .inl (.inl (by rw [upd_same, List.map_append]; rfl)), fun ms S hmp hms hS0 => ?_⟩
  have s3 := (s2.trans (Same.new (o := .lst (ns.map V.int ++ [V.int first, V.int last])) hw)).trans (Same.new (o := .lst (ms.map V.int)) hS0)
  have hS := upd_same (H := upd (upd H1 d (.lst [V.int first, V.int last])) w (.lst (ns.map V.int ++ [V.int first, V.int last]))) (a := S) (o := .lst (ms.map V.int))
  have s4 : Same H _ := (s0.trans s1).trans s3
  have P4 := P1.same s3
  have sS : S ≠ p := fun e => by
    have := (s2.trans (Same.new (o := .lst (ns.map V.int ++ [V.int first, V.int last])) hw)) _ _ P1.li
    rw [e, this] at hS0; cases hS0
  generalize upd (upd (upd H1 d (.lst [V.int first, V.int last])) w (.lst (ns.map V.int ++ [V.int first, V.int last]))) S (.lst (ms.map V.int)) = H4 at s3 hS s4 P4 ⊢
  have mmem : ∀ v, v ∈ ms ↔ v ∈ mks es ∨ v = first ∨ v = last := fun v => by
    rw [hmp.mem_iff, List.mem_append, hperm.mem_iff]
    simp
  have mlen : ms.length ≤ 1002 := by
    rw [hmp.length_eq, List.length_append]
    show ns.length + 2 ≤ 1002
    omega
  refine ⟨S, rfl, ⟨_, .inl (.inl hS)⟩, for_list (K := K) (a := S) (xs := ms.map V.int) (fun i σ H' => ∃ (us : List Addr) (ps : List Pc) (v4 v5 : Option V), σ = [some (.ref r), some (.int first), some (.int last), some (.ref p), v4, v5] ∧ ps = (ms.take i).foldl (fun ps v => if first ≤ v ∧ v ≤ last then addP ps v v (uw es v) else ps) [] ∧ ps.length ≤ i ∧ Pcs H' p us ps ∧ H' S = some (.lst (ms.map V.int)) ∧ RwX H' r ts es ∧ Same H H')
    ⟨[], [], none, none, rfl, rfl, Nat.le_refl _, P4, hS, R.same s4, s4⟩ (fun i σ H' _ ⟨_, _, _, _, _, _, _, _, q, _⟩ => .inl (.inl q)) ?_ ?_⟩
  · rintro i x σ H5 hx ⟨us, ps, v4, v5, rfl, hps, hpl, P5, hS5, R5, s5⟩
    obtain ⟨v, rfl, hv⟩ : ∃ v, x = V.int v ∧ ms[i]? = some v := by
      rw [List.getElem?_map] at hx
      cases e : ms[i]? with
      | none => rw [e] at hx; cases hx
      | some v => rw [e] at hx; exact ⟨v, (Option.some.inj hx).symm, rfl⟩
    have hi := (List.getElem?_eq_some_iff.mp hv).1
    have step : (ms.take (i + 1)).foldl (fun ps v => if first ≤ v ∧ v ≤ last then addP ps v v (uw es v) else ps) [] = if first ≤ v ∧ v ≤ last then addP ps v v (uw es v) else ps := by
      rw [take_snoc hv, List.foldl_append, ← hps]
      rfl
    refine ifS_of (put_and (a := decide (first ≤ v)) (b := decide (v ≤ last)) (fun Q' q => ⟨_, rfl, _, rfl, _, _, rfl, rfl, _, rfl, q⟩) (fun _ Q' q => ⟨_, rfl, _, rfl, _, _, rfl, rfl, _, rfl, q⟩)) (fun c => ?_) (fun c => nxt ?_)
    rotate_left
    · refine ⟨us, ps, _, _, rfl, ?_, by omega, P5, hS5, R5, s5⟩
      rw [step, if_neg]
      intro z
      rw [decide_eq_true z.1, decide_eq_true z.2] at c
      cases c
    obtain ⟨c1, c2⟩ := Bool.and_eq_true_iff.mp c
    have cc : first ≤ v ∧ v ≤ last := ⟨of_decide_eq_true c1, of_decide_eq_true c2⟩
    rw [if_pos cc] at step
    refine ⟨_, rfl, _, rfl, r, v, ts, es, rfl, R5, fun H6 s6 => asg ?_⟩
    have P6 := P5.same s6
    have R6 := R5.same s6
    have hS6 := s6 _ _ hS5
    obtain ⟨m, hm⟩ : ∃ m, m = uw es v := ⟨_, rfl⟩
    rw [← hm] at step ⊢
    have hul : us.length < sizeLine := small6 (by rw [P6.tr.1]; omega)
    have S6 := s5.trans s6
    have fin : ∀ (q : Addr) (o : HO) (l : List V), H6 q = none → upd (upd H6 q o) p (.lst l) S = some (.lst (ms.map V.int)) ∧ RwX (upd (upd H6 q o) p (.lst l)) r ts es ∧ Same H (upd (upd H6 q o) p (.lst l)) := fun q o l hq => by
      have S7 : Same H (upd (upd H6 q o) p (.lst l)) := (S6.trans (Same.new hq)).upd' hp
      exact ⟨by rw [upd_ne sS]; exact Same.new hq _ _ hS6, R.same S7, S7⟩
    obtain ⟨b, nx⟩ := nxt_of ps m
    cases nx with
    | new e ha =>
      refine ifS_of (b := false) (fun Q' q => ?_) (fun c => nomatch c) (fun _ => ?_)
      · rcases e with rfl | ⟨qs, q', rfl, ne⟩
        · have u0 : us = [] := List.length_eq_zero_iff.mp P6.tr.1
          exact ⟨_, rfl, p, _, rfl, .inl (.inl (.inl P6.li)), _, _, rfl, rfl, _, rfl, by rw [u0]; exact iteF q⟩
        · obtain ⟨us', u, rfl, hl', hu⟩ := P6.last
          refine ⟨_, rfl, p, _, rfl, .inl (.inl (.inl P6.li)), _, _, rfl, rfl, _, rfl, ?_⟩
          rw [decide_eq_true (p := (0 : Int) < (((us' ++ [u]).map V.ref).length : Int)) (by simp)]
          exact iteT ⟨_, rfl, _, rfl, _, _, _, _, rfl, rfl, .inl (.inl P6.li), by rw [List.map_append]; exact atI_last _ _, _, _, _, _, rfl, rfl, .inl (.inl hu), rfl, _, rfl, rfl, _, rfl, by rw [dec_int, decide_eq_false ne]; exact q⟩
      · refine ⟨_, rfl, .inl ⟨rfl, _, .inl (.inl P6.li)⟩, _, rfl, _, rfl, _, rfl, sz3, fun q hq => ?_⟩
        have s7 : Same H6 (upd H6 q (.tup [.int v, .int v, .int m])) := Same.new hq
        refine ⟨_, _, _, rfl, rfl, s7 _ _ P6.li, by rw [List.length_map]; exact hul, ?_⟩
        exact ⟨us ++ [q], ps ++ [Pc.mk v v m], _, _, rfl, by rw [step, ha], by simp; omega, P6.new (q := Pc.mk v v m) hq, fin q _ _ hq⟩
    | old qs q' e1 e2 ha =>
      subst e1
      obtain ⟨us', u, rfl, hl', hu⟩ := P6.last
      have lpos : 0 < ((us' ++ [u]).map V.ref).length := by simp
      refine ifS_of (b := true) (fun Q' q => ?_) (fun _ => ?_) (fun c => nomatch c)
      · refine ⟨_, rfl, p, _, rfl, .inl (.inl (.inl P6.li)), _, _, rfl, rfl, _, rfl, ?_⟩
        rw [decide_eq_true (p := (0 : Int) < (((us' ++ [u]).map V.ref).length : Int)) (by simp)]
        exact iteT ⟨_, rfl, _, rfl, _, _, _, _, rfl, rfl, .inl (.inl P6.li), by rw [List.map_append]; exact atI_last _ _, _, _, _, _, rfl, rfl, .inl (.inl hu), rfl, _, rfl, rfl, _, rfl, by rw [dec_int, decide_eq_true e2]; exact q⟩
      · refine ⟨_, rfl, _, rfl, _, _, _, _, rfl, rfl, .inl (.inl P6.li), by rw [List.map_append]; exact atI_last _ _, _, _, _, _, rfl, rfl, .inl (.inl hu), rfl, _, rfl, _, rfl, sz3, fun q hq => ?_⟩
        have s7 : Same H6 (upd H6 q (.tup [.int q'.a, .int v, .int m])) := Same.new hq
        refine ⟨_, rfl, _, rfl, _, _, _, _, rfl, rfl, s7 _ _ P6.li, ixN_end lpos, ?_⟩
        have P7 := P6.put (q := Pc.mk q'.a v m) (k := ((us' ++ [u]).map V.ref).length - 1) hq
        exact ⟨(us' ++ [u]).set (((us' ++ [u]).map V.ref).length - 1) q, (qs ++ [q']).set (((us' ++ [u]).map V.ref).length - 1) (Pc.mk q'.a v m), _, _, rfl, by rw [step, ha, P6.len], by rw [List.length_set]; omega, P7, fin q _ _ hq⟩
  · rintro σ H5 ⟨us, ps, v4, v5, rfl, hps, hpl, P5, hS5, R5, s5⟩
    rw [List.length_map, List.take_length] at hps
    rw [List.length_map] at hpl
    refine ⟨_, rfl, k p us ms H5 hms mmem hp ?_ (by rw [P5.tr.1]; omega) s5⟩
    unfold dueP
    rw [← hps]
    exact P5
/-- a piece as data -/
def pd (q : Pc) : PyData := .tuple [.int q.a, .int q.b, .int q.c]
theorem dp_ps {K : PySem.W.Frag} {H : Hp} : ∀ {ts : List Addr} {ps : List Pc}, Tr3 H ts ps → DpAll K H (ts.map V.ref) (ps.map pd)
  | [], [], _ => .nil
  | [], _ :: _, h => by have := h.1; simp at this
  | _ :: _, [], h => by have := h.1; simp at this
  | t :: ts, q :: ps, h => .cons (.tup (.inl (.inl (h.2 0 t q rfl rfl))) (.cons (.int _) (.cons (.int _) (.cons (.int _) .nil)))) (dp_ps ⟨by have := h.1; simpa using this, fun i u x h1 h2 => h.2 (i + 1) u x h1 h2⟩)
theorem canLay_ps : ∀ ps : List Pc, PyData.canLayAll0 (ps.map pd) = true
  | [] => by simp [PyData.canLayAll0]
  | q :: ps => by simp [PyData.canLayAll0, PyData.canLay0, pd, canLay_ps ps]
theorem depth_ps : ∀ ps : List Pc, PyData.depthAll (ps.map pd) ≤ 3
  | [] => by simp [PyData.depthAll]
  | q :: ps => by
    have := depth_ps ps
    simp only [List.map_cons, PyData.depthAll, PyData.depth, pd]
    omega
theorem shaped_ps (ps : List Pc) : SeqAt.shaped (.list (ps.map pd)) = true := by
  unfold SeqAt.shaped
  have h := depth_ps ps
  exact Bool.and_eq_true_iff.mpr ⟨by simp [PyData.canLay0, canLay_ps], decide_eq_true (by simp only [PyData.depth]; omega)⟩
theorem ok_law_same (T : Txt P K mg) (B : Tb T base) : FnOk P w K mg base CX0 2 T.a_law_same T.d_law_same ["_law_told", "_law_due"] (spSame) := by
  refine T.F_law_same.ok sc_law_same (fun vs H Q E h => ?_) (fun cdv A outer s H vs Q E hr h => ?_)
  · obtain ⟨p, q, ts, us, ps, rfl, _⟩ := h
    rfl
  refine ⟨_, (pss_cons (ps_if (PW.pt (pw_or (pt_not (pt_val (pe_callB call_isi (by rfl) T.z_isinstance (by decide +kernel) (pa_cons (pv 0) (pa_cons (pe_bltn (v := .ty "list") (u := .type "list") (by rfl) T.z_list (by decide +kernel) rfl) pa_nil))))) (pw_or1 (pt_cmpR op_ne (pe_callB call_len_seq (by rfl) T.z_len (by decide +kernel) (pa_cons (pv 0) pa_nil)) (pe_callB call_len_seq (by rfl) T.z_len (by decide +kernel) (pa_cons (pv 1) pa_nil)) (nomark _))))) (pss_one (ps_ret pe_bl)) pss_nil) (pss_cons (ps_for PassesOwn.never rfl (pi_list (pv 0)) (pg_name (i := 2) sc_law_same.nd rfl (Or.inl rfl)) (pss_cons (ps_if (PW.pt (pw_or (pt_not (pt_val (pe_callB call_isi (by rfl) T.z_isinstance (by decide +kernel) (pa_cons (pv 2) (pa_cons (pe_bltn (v := .ty "tuple") (u := .type "tuple") (by rfl) T.z_tuple (by decide +kernel) rfl) pa_nil))))) (pw_or1 (pt_cmpR op_ne (pe_callB call_len_seq (by rfl) T.z_len (by decide +kernel) (pa_cons (pv 2) pa_nil)) pe_int (nomark _))))) (pss_one (ps_ret pe_bl)) pss_nil) (pss_one (ps_if (PW.pt (pw_or (pt_not (pt_val (pe_call (ok_law_whole T B) (hr.mono (by decide)) (by rfl) T.m_law_whole T.F_law_whole.kp T.b_law_whole .nil pass0 (pa_cons (pe_ix ix_tup (pv 2) pe_int (fun _ _ => rfl)) pa_nil)))) (pw_or (pt_not (pt_val (pe_call (ok_law_whole T B) (hr.mono (by decide)) (by rfl) T.m_law_whole T.F_law_whole.kp T.b_law_whole .nil pass0 (pa_cons (pe_ix ix_tup (pv 2) pe_int (fun _ _ => rfl)) pa_nil)))) (pw_or1 (pt_not (pt_val (pe_call (ok_law_whole T B) (hr.mono (by decide)) (by rfl) T.m_law_whole T.F_law_whole.kp T.b_law_whole .nil pass0 (pa_cons (pe_ix ix_tup (pv 2) pe_int (fun _ _ => rfl)) pa_nil)))))))) (pss_one (ps_ret pe_bl)) pss_nil)))) (pss_one (ps_ret (pe_cmpR (op_eqD hr.units) (pv 0) (pv 1) (nomark _)))))), ?_⟩
  obtain ⟨p, q, ts, us, ps, rfl, hp, hq, hz, k⟩ := h
  refine sqIf (put_is (b := false) (put_or (put_not (a := true) (fun Q' q => ⟨_, rfl, _, _, _, _, _, rfl, .ty _, .base (.lst hp.li), kit_ty kit_lst_lst, _, rfl, q⟩)) (fun _ Q' z => ⟨_, rfl, p, _, rfl, .inl (.inl (.inl hp.li)), _, rfl, q, _, rfl, .inl (.inl (.inl hq.li)), rfl, _, rfl, z⟩)) (by rw [dec_int, hp.len, hq.len, decide_eq_true rfl]; rfl)) (fun z => nomatch z) (fun _ => nxt ?_)
  refine ⟨_, rfl, p, rfl, ⟨_, .inl (.inl hp.li)⟩, for_list (K := K) (a := p) (xs := ts.map V.ref) (fun i σ H' => H' = H ∧ ∃ v, σ = [some (.ref p), some (.ref q), v]) ⟨rfl, none, rfl⟩ (fun i σ H' hi e => e.1 ▸ .inl (.inl hp.li)) ?_ ?_⟩
  · rintro i x σ H1 hx ⟨rfl, v, rfl⟩
    obtain ⟨t, e, rfl, _, he, ht⟩ := hp.tr.at hx
    refine sqIf (put_is (b := false) (put_or (put_not (a := true) (fun Q' q => ⟨_, rfl, _, _, _, _, _, rfl, .ty _, .base (.tup ht), kit_ty kit_tup_tup, _, rfl, q⟩)) (fun _ Q' q => ⟨_, rfl, t, _, rfl, .inr (.inl (.inl ht)), rfl, _, rfl, q⟩)) (by rw [dec_int]; rfl)) (fun z => nomatch z) (fun _ => nxt ?_)
    refine ifS_of (put_is (b := false) (put_or (put_not (a := true) (fun Q' q => ⟨_, rfl, _, _, 0, _, rfl, rfl, .inl (.inl ht), rfl, _, rfl, _, rfl, q⟩)) (fun _ => put_or (put_not (a := true) (fun Q' q => ⟨_, rfl, _, _, 1, _, rfl, rfl, .inl (.inl ht), rfl, _, rfl, _, rfl, q⟩)) (fun _ => put_not (a := true) (fun Q' q => ⟨_, rfl, _, _, 2, _, rfl, rfl, .inl (.inl ht), rfl, _, rfl, _, rfl, q⟩)))) rfl) (fun z => nomatch z) (fun _ => nxt ⟨rfl, _, rfl⟩)
  · rintro σ H' ⟨rfl, v, rfl⟩
    refine ⟨_, rfl, _, rfl, _, _, .lst (.inl (.inl hp.li)) (dp_ps hp.tr), .lst (.inl (.inl hq.li)) (dp_ps hq.tr), shaped_ps ps, shaped_ps ps, ?_⟩
    rw [SeqAt.eqv_refl _ (SeqAt.canLay_of_shaped (shaped_ps ps))]
    exact k

/-- what stands while the law asks -/
structure LwI (K : PySem.W.Frag) (T r hd : Addr) (ts : List Addr) (es : List Es) (H' : Hp) : Prop where
  r : RwX H' r ts es
  h : SqA K H' hd (ts.map V.ref)
  t : TabG H' T
theorem LwI.same {K : PySem.W.Frag} {T r hd : Addr} {ts : List Addr} {es : List Es} {H H' : Hp} (L : LwI K T r hd ts es H) (e : Same H H') : LwI K T r hd ts es H' := ⟨L.r.same e, L.h.keep e, TabG.same L.t e⟩
theorem LwI.tab {K : PySem.W.Frag} {T r hd : Addr} {ts : List Addr} {es : List Es} {H H' : Hp} (L : LwI K T r hd ts es H) (b : But T H H') (t : TabG H' T) : LwI K T r hd ts es H' := ⟨L.r.tab b L.t, sqa_but L.h L.t b, t⟩
theorem addP_ne (ps : List Pc) (lo hi m : Int) : addP ps lo hi m ≠ [] := by
  by_cases h : ps = []
  · subst h
    rw [addP_nil]
    exact List.cons_ne_nil _ _
  · obtain ⟨qs, q, rfl⟩ := snoc_of h
    rw [addP_snoc]
    split <;> simp
theorem fold_ne (es : List Es) : ∀ (rs : List (Int × Int)) (ps : List Pc), ps ≠ [] → rs.foldl (fun ps r => addP ps r.1 r.2 (uw es r.1)) ps ≠ []
  | [], _, h => h
  | r :: rs, ps, _ => fold_ne es rs _ (addP_ne ps r.1 r.2 _)
theorem pcs_ne (es : List Es) (first last : Int) (inner : List Int) : pcs es first last inner ≠ [] := by
  unfold pcs
  match inner with
  | [] => exact fold_ne es [] _ (addP_ne [] first last (uw es first))
  | t :: ts => exact fold_ne es (runs last t ts) _ (addP_ne [] first (t - 1) (uw es first))
theorem ixN_zero {n : Nat} (h : 0 < n) : ixN n 0 = some 0 := by
  unfold ixN
  rw [if_pos (by decide), if_pos (by omega)]
  rfl
theorem ok_law (T : Txt P K mg) (B : Tb T base) : FnOk P w K mg base CX0 5 T.a_law T.d_law ["_law_script"] (spLaw K T.P_untrue_weight) := by
  refine T.F_law.ok sc_law (fun vs H Q E h => ?_) (fun cdv A outer s H vs Q E hr h => ?_)
  · obtain ⟨a, ns, rfl, _⟩ := h
    rfl
  refine ⟨_, (pss_cons (ps_set (i := 1) sc_law.nd rfl (Or.inl rfl) (pe_call (ok_law_source T B) (hr.mono (by decide)) (by rfl) T.m_law_source T.F_law_source.kp T.b_law_source .nil pass0 (pa_cons (pv 0) (pa_cons pe_int pa_nil)))) (pss_cons (ps_set (i := 2) sc_law.nd rfl (Or.inl rfl) (pe_call (ok_law_draw T B) (hr.mono (by decide)) (by rfl) T.m_law_draw T.F_law_draw.kp T.b_law_draw .nil pass0 (pa_cons (pv 1) (pa_cons pe_int pa_nil)))) (pss_cons (ps_if (pt_cmpR op_eq (pe_call (ok_law_draw T B) (hr.mono (by decide)) (by rfl) T.m_law_draw T.F_law_draw.kp T.b_law_draw .nil pass0 (pa_cons (pv 1) (pa_cons pe_int pa_nil))) pe_int (nomark _)) (pss_one (ps_set (i := 2) sc_law.nd rfl (Or.inl rfl) (pe_call (ok_law_draw T B) (hr.mono (by decide)) (by rfl) T.m_law_draw T.F_law_draw.kp T.b_law_draw .nil pass0 (pa_cons (pv 1) (pa_cons pe_int pa_nil))))) pss_nil) (pss_cons (ps_set (i := 3) sc_law.nd rfl (Or.inl rfl) (pe_call (ok_law_moved T B) (hr.mono (by decide)) (by rfl) T.m_law_moved T.F_law_moved.kp T.b_law_moved .nil pass0 (pa_cons (pe_call (ok_law_source T B) (hr.mono (by decide)) (by rfl) T.m_law_source T.F_law_source.kp T.b_law_source .nil pass0 (pa_cons (pv 0) (pa_cons pe_int pa_nil))) (pa_cons (pe_call (ok_law_estimates T B) (hr.mono (by decide)) (by rfl) T.m_law_estimates T.F_law_estimates.kp T.b_law_estimates .nil pass0 (pa_cons (pe_call (ok_law_source T B) (hr.mono (by decide)) (by rfl) T.m_law_source T.F_law_source.kp T.b_law_source .nil pass0 (pa_cons (pv 0) (pa_cons pe_int pa_nil))) (pa_cons (pv 2) (pa_cons pe_int pa_nil)))) pa_nil)))) (pss_cons (ps_set (i := 4) sc_law.nd rfl (Or.inl rfl) (pe_callTy call_list_of (by rfl) T.z_list (by decide +kernel) (pa_cons (pv 3) pa_nil))) (pss_cons (ps_if (pt_cmpR op_eq (pe_call (ok_law_draw T B) (hr.mono (by decide)) (by rfl) T.m_law_draw T.F_law_draw.kp T.b_law_draw .nil pass0 (pa_cons (pv 1) (pa_cons pe_int pa_nil))) pe_int (nomark _)) (pss_one (ps_set (i := 4) sc_law.nd rfl (Or.inl rfl) (pe_callTy call_tuple_of (by rfl) T.z_tuple (by decide +kernel) (pa_cons (pv 3) pa_nil)))) pss_nil) (pss_cons (ps_set (i := 5) sc_law.nd rfl (Or.inl rfl) (pe_call (ok_law_source T B) (hr.mono (by decide)) (by rfl) T.m_law_source T.F_law_source.kp T.b_law_source .nil pass0 (pa_cons (pv 0) (pa_cons pe_int pa_nil)))) (pss_cons (ps_set (i := 6) sc_law.nd rfl (Or.inl rfl) (pe_callB cr_sortedI (by rfl) T.z_sorted (by decide +kernel) (pa_cons (pe_lst (pa_cons (pe_call (ok_law_end T B) (hr.mono (by decide)) (by rfl) T.m_law_end T.F_law_end.kp T.b_law_end .nil pass0 (pa_cons (pv 5) (pa_cons (pv 3) pa_nil))) (pa_cons (pe_call (ok_law_end T B) (hr.mono (by decide)) (by rfl) T.m_law_end T.F_law_end.kp T.b_law_end .nil pass0 (pa_cons (pv 5) (pa_cons (pv 3) pa_nil))) pa_nil))) pa_nil))) (pss_cons (ps_set (i := 7) sc_law.nd rfl (Or.inl rfl) (pe_ix ix_list (pv 6) pe_int (fun _ _ => rfl))) (pss_cons (ps_set (i := 8) sc_law.nd rfl (Or.inl rfl) (pe_ix ix_list (pv 6) pe_int (fun _ _ => rfl))) (pss_cons (ps_if (pt_cmpR op_eq (pe_call (ok_law_draw T B) (hr.mono (by decide)) (by rfl) T.m_law_draw T.F_law_draw.kp T.b_law_draw .nil pass0 (pa_cons (pv 5) (pa_cons pe_int pa_nil))) pe_int (nomark _)) (pss_one (ps_set (i := 8) sc_law.nd rfl (Or.inl rfl) (pv 7))) pss_nil) (pss_cons (ps_set (i := 9) sc_law.nd rfl (Or.inl rfl) (pe_call (ok_law_pieces T B) (hr.mono (by decide)) (by rfl) T.m_law_pieces T.F_law_pieces.kp T.b_law_pieces .nil pass0 (pa_cons (pv 3) (pa_cons (pv 7) (pa_cons (pv 8) pa_nil))))) (pss_cons (ps_set (i := 10) sc_law.nd rfl (Or.inl rfl) (pe_call (ok_weight_pieces T B) (hr.mono (by decide)) (by rfl) T.m_weight_pieces T.F_weight_pieces.kp T.b_weight_pieces .nil pass0 (pa_cons (pv 4) (pa_cons (pv 7) (pa_cons (pv 8) pa_nil))))) (pss_cons (ps_if (pt_not (pt_val (pe_call (ok_law_same T B) (hr.mono (by decide)) (by rfl) T.m_law_same T.F_law_same.kp T.b_law_same .nil pass0 (pa_cons (pv 10) (pa_cons (pv 9) pa_nil))))) (pss_one (ps_ret pe_bl)) pss_nil) (pss_cons (ps_asg (pe_tup (pa_cons (pv 7) (pa_cons (pv 8) (pa_cons (pe_op op_sub pe_int pe_int) pa_nil)))) (pg_sub (pv 10) pe_int set_list)) (pss_cons (ps_expr (pe_bm PySem.F.plainAttrs_list PySem.F.slot_list_append PySem.F.type_list_append mt_append (pv 10) (pa_cons (pe_tup (pa_cons (pv 8) (pa_cons (pv 8) (pa_cons pe_int pa_nil)))) pa_nil))) (pss_cons (ps_if (pt_not (pt_val (pe_call (ok_law_same T B) (hr.mono (by decide)) (by rfl) T.m_law_same T.F_law_same.kp T.b_law_same .nil pass0 (pa_cons (pe_call (ok_weight_pieces T B) (hr.mono (by decide)) (by rfl) T.m_weight_pieces T.F_weight_pieces.kp T.b_weight_pieces .nil pass0 (pa_cons (pv 4) (pa_cons (pv 7) (pa_cons (pv 8) pa_nil)))) (pa_cons (pv 9) pa_nil))))) (pss_one (ps_ret pe_bl)) pss_nil) (pss_cons (ps_set (i := 11) sc_law.nd rfl (Or.inl rfl) (pe_lst (pa_cons (pe_op op_sub (pv 7) pe_int) (pa_cons (pe_op op_add (pv 8) pe_int) pa_nil)))) (pss_cons (ps_for PassesOwn.never rfl (pi_list (pv 9)) (pg_name (i := 12) sc_law.nd rfl (Or.inl rfl)) (pss_one (ps_expr (pe_bm PySem.F.plainAttrs_list PySem.F.slot_list_extend PySem.F.type_list_extend mt_extend (pv 11) (pa_cons (pe_lst (pa_cons (pe_ix ix_tup (pv 12) pe_int (fun _ _ => rfl)) (pa_cons (pe_ix ix_tup (pv 12) pe_int (fun _ _ => rfl)) pa_nil))) pa_nil))))) (pss_cons (ps_for PassesOwn.never rfl (pi_list (pv 11)) (pg_name (i := 13) sc_law.nd rfl (Or.inl rfl)) (pss_cons (ps_set (i := 14) sc_law.nd rfl (Or.inl rfl) (pe_call (ok_untrue_weight T B) (hr.mono (by decide)) (by rfl) T.m_untrue_weight T.F_untrue_weight.kp T.b_untrue_weight .nil pass0 (pa_cons (pv 4) (pa_cons (pv 13) pa_nil)))) (pss_one (ps_if (PW.pt (pw_or (pt_not (pt_val (pe_call (ok_law_whole T B) (hr.mono (by decide)) (by rfl) T.m_law_whole T.F_law_whole.kp T.b_law_whole .nil pass0 (pa_cons (pv 14) pa_nil)))) (pw_or1 (pt_cmpR op_ne (pv 14) (pe_call (ok_law_untrue_mass T B) (hr.mono (by decide)) (by rfl) T.m_law_untrue_mass T.F_law_untrue_mass.kp T.b_law_untrue_mass .nil pass0 (pa_cons (pv 3) (pa_cons (pv 13) pa_nil))) (nomark _))))) (pss_one (ps_ret pe_bl)) pss_nil)))) (pss_one (ps_ret (pe_cmpR (op_eqD hr.units) (pe_callTy call_list_of (by rfl) T.z_list (by decide +kernel) (pa_cons (pv 4) pa_nil)) (pv 3) (nomark _)))))))))))))))))))))))), ?_⟩
  obtain ⟨a, sc, rfl, hS, _, hTb, k⟩ := h
  have tab0 : TabG H T.P_untrue_weight := ⟨#[], hTb, True.intro⟩
  refine ⟨_, rfl, a, sc, 0, rfl, hS, by decide, fun s1 H1 n1 e1 hs1 => asg ?_⟩
  refine ⟨_, rfl, _, _, rfl, hs1, by decide, by decide, fun r2 H2 r20 r21 hs2 b2 => asg ?_⟩
  have Z2 := e1.but' n1 b2
  refine cutS (M := fun σ' H' => ∃ n : Nat, σ' = [some (.ref a), some (.ref s1), some (.int (n : Int)), none, none, none, none, none, none, none, none, none, none, none, none] ∧ n ≤ 40 ∧ Src H' s1 ∧ Same H H') ?_ (fun M => ?_)
  rotate_left
  · refine ⟨_, rfl, _, _, rfl, hs2, by decide, by decide, fun r3 H3 _ _ hs3 b3 => ?_⟩
    refine ⟨rfl, _, rfl, ite2 (fun _ => ?_) (fun _ => ?_)⟩
    · refine ⟨_, rfl, _, _, rfl, hs3, by decide, by decide, fun r4 H4 r40 r41 hs4 b4 => asg (M _ _ ⟨r4.toNat, ?_, by omega, hs4, (Z2.but' n1 b3).but' n1 b4⟩)⟩
      exact congrArg (fun z : Int => [some (V.ref a), some (V.ref s1), some (V.int z), none, none, none, none, none, none, none, none, none, none, none, none]) (show r4 = ((r4.toNat : Nat) : Int) by omega)
    · refine nxt (M _ _ ⟨r2.toNat, ?_, by omega, hs3, Z2.but' n1 b3⟩)
      exact congrArg (fun z : Int => [some (V.ref a), some (V.ref s1), some (V.int z), none, none, none, none, none, none, none, none, none, none, none, none]) (show r2 = ((r2.toNat : Nat) : Int) by omega)
  rintro σ' H4 ⟨n, rfl, hn40, hs4, Z4⟩
  refine ⟨_, rfl, a, sc, 2, rfl, Z4.seq hS, by decide, fun s2 H5 n5 e5 hs5 => ?_⟩
  have Z5 := Z4.trans e5
  have s2H : H s2 = none := Z4.free n5
  have s12 : s1 ≠ s2 := fun z => by
    obtain ⟨c, q, e⟩ := hs4
    rw [← z, e] at n5; cases n5
  have hs51 := hs4.same e5
  refine ⟨_, rfl, a, sc, 1, rfl, Z5.seq hS, by decide, fun s3 H6 n6 e6 hs6 => ?_⟩
  have Z6 := Z5.trans e6
  have s3H : H s3 = none := Z5.free n6
  have s23 : s2 ≠ s3 := fun z => by
    obtain ⟨c, q, e⟩ := hs5
    rw [← z, e] at n6; cases n6
  have s13 : s1 ≠ s3 := fun z => by
    obtain ⟨c, q, e⟩ := hs51
    rw [← z, e] at n6; cases n6
  have hs62 := hs5.same e6
  have hs61 := hs51.same e6
  refine ⟨_, rfl, s3, n, 99, rfl, hs6, by omega, by decide, by decide, fun f ts0 es0 H7 f0 R7 hlen7 hs73 b7 => ?_⟩
  have Z7 := Z6.but' s3H b7
  have hs72 := hs62.at b7 s23
  have hs71 := hs61.at b7 s13
  have fs2 : f ≠ s2 := hs62.ne f0
  have fs1 : f ≠ s1 := hs61.ne f0
  refine ⟨s2, f, ts0, es0, rfl, hs72, fs2, R7, fun r ts es H8 R8 hlen8 hs82 b8 hr => asg ?_⟩
  have Z8 := Z7.but' s2H b8
  have hs81 := hs71.at b8 s12
  have rs1 : r ≠ s1 := by
    rcases hr with z | z
    · rw [z]; exact fs1
    · exact hs71.ne z
  have tab8 := TabG.same tab0 Z8
  refine ⟨_, rfl, r, _, rfl, .inl (.inl (.inl R8.li)), fun hd hhd => asg ?_⟩
  have e9 : Same H8 (upd H8 hd (.lst (ts.map V.ref))) := Same.new hhd
  have Z9 := Z8.trans e9
  have hh9 := upd_same (H := H8) (a := hd) (o := .lst (ts.map V.ref))
  have hs91 := hs81.same e9
  have R9 := R8.same e9
  have tab9 := TabG.same tab8 e9
  have hds1 : hd ≠ s1 := hs81.ne hhd
  generalize upd H8 hd (.lst (ts.map V.ref)) = H9 at e9 Z9 hh9 hs91 R9 tab9 ⊢
  refine cutS (M := fun σ' H' => ∃ hd : Addr, σ' = [some (.ref a), some (.ref s1), some (.int (n : Int)), some (.ref r), some (.ref hd), none, none, none, none, none, none, none, none, none, none] ∧ LwI K T.P_untrue_weight r hd ts es H' ∧ Same H H') ?_ (fun M => ?_)
  rotate_left
  · refine ⟨_, rfl, _, _, rfl, hs91, by decide, by decide, fun r10 H10 _ _ hs10 b10 => ?_⟩
    have R10 := R9.but b10 hs91 rs1
    have tab10 := TabG.but tab9 b10 hs91
    have hh10 := b10 _ _ hds1 hh9
    have Z10 := Z9.but' n1 b10
    refine ⟨rfl, _, rfl, ite2 (fun _ => ?_) (fun _ => nxt (M _ _ ⟨hd, rfl, ⟨R10, .inl (.inl (.inl hh10)), tab10⟩, Z10⟩))⟩
    refine ⟨_, rfl, r, _, rfl, .inl ⟨.inl (.inl R10.li), fun tp htp => asg (M _ _ ⟨tp, rfl, ⟨R10.same (Same.new htp), .inr (.inl (.inl upd_same)), TabG.same tab10 (Same.new htp)⟩, Z10.trans (Same.new htp)⟩)⟩⟩
  rintro σ' H10 ⟨hd, rfl, L10, Z10⟩
  refine ⟨_, rfl, a, sc, 3, rfl, Z10.seq hS, by decide, fun s4 H11 n11 e11 hs11 => asg ?_⟩
  have L11 := L10.same e11
  have rs4 : r ≠ s4 := fun z => by
    have q := L10.r.li
    rw [z, n11] at q; cases q
  have keep : ∀ {H1 H2 : Hp}, LwI K T.P_untrue_weight r hd ts es H10 → Same H10 H1 → But s4 H1 H2 → Same H10 H2 := fun {H1 H2} _ e b => e.but' n11 b
  refine ⟨_, rfl, _, rfl, s4, r, ts, es, rfl, hs11, rs4, L11.r, fun x1 H12 hs12 b12 => ?_⟩
  have e12 := e11.but' n11 b12
  refine ⟨_, rfl, _, rfl, s4, r, ts, es, rfl, hs12, rs4, (L10.same e12).r, fun x2 H13 hs13 b13 => ?_⟩
  have e13 := e12.but' n11 b13
  refine ⟨sz2, fun d0 hd0 => ⟨d0, [x1, x2], rfl, .inl (.inl upd_same), fun xs el hp hpw hel => asg ?_⟩⟩
  have s14 : Same H13 (upd (upd H13 d0 (.lst [.int x1, .int x2])) el (.lst (xs.map V.int))) := (Same.new hd0).trans (Same.new hel)
  have he14 := upd_same (H := upd H13 d0 (.lst [.int x1, .int x2])) (a := el) (o := .lst (xs.map V.int))
  obtain ⟨first, last, rfl, hfl⟩ : ∃ x y, xs = [x, y] ∧ x ≤ y := by
    have l2 := hp.length_eq
    match xs, l2, hpw with
    | [x, y], _, hpw => exact ⟨x, y, rfl, by simpa using hpw⟩
  have e14 := e13.trans s14
  have hs14 := hs13.same s14
  generalize upd (upd H13 d0 (.lst [V.int x1, V.int x2])) el (.lst ([first, last].map V.int)) = H14 at s14 he14 e14 hs14 ⊢
  refine ⟨_, rfl, _, _, 0, _, rfl, rfl, .inl (.inl he14), rfl, asg ?_⟩
  refine ⟨_, rfl, _, _, 1, _, rfl, rfl, .inl (.inl he14), rfl, asg ?_⟩
  refine cutS (M := fun σ' H' => ∃ last : Int, σ' = [some (.ref a), some (.ref s1), some (.int (n : Int)), some (.ref r), some (.ref hd), some (.ref s4), some (.ref el), some (.int first), some (.int last), none, none, none, none, none, none] ∧ first ≤ last ∧ LwI K T.P_untrue_weight r hd ts es H') ?_ (fun M => ?_)
  rotate_left
  · refine ⟨_, rfl, _, _, rfl, hs14, by decide, by decide, fun r15 H15 _ _ hs15 b15 => ?_⟩
    have L15 := L10.same (e14.but' n11 b15)
    refine ⟨rfl, _, rfl, ite2 (fun _ => ?_) (fun _ => nxt (M _ _ ⟨last, rfl, hfl, L15⟩))⟩
    exact ⟨_, rfl, asg (M _ _ ⟨first, rfl, Int.le_refl _, L15⟩)⟩
  clear hfl e14 s14 he14 hs14 hpw hp
  rintro σ' H15 ⟨last, rfl, hfl, L15⟩
  have le := L15.r.le
  refine ⟨_, rfl, _, rfl, _, rfl, r, first, last, ts, es, rfl, L15.r, fun d us ms H16 hms mm d0n P16 hul e16 => asg ?_⟩
  have L16 := L15.same e16
  refine ⟨_, rfl, _, rfl, _, rfl, hd, first, last, es, rfl, ⟨ts, L16.h, L16.r.tr.tri⟩, le, hfl, L16.t, fun p ts' inner H17 ilt imem P17 p0 b17 t17 => asg ?_⟩
  have L17 := L16.tab b17 t17
  have D17 := P16.tab b17 L16.t
  have dp : d ≠ p := fun z => by
    have q := P16.li
    rw [z, p0] at q; cases q
  have eqD : ∀ inner : List Int, inner.Pairwise (· < ·) → (∀ t, t ∈ inner ↔ t ∈ brk es ∧ first < t ∧ t ≤ last) → pcs es first last inner = dueP es first last ms := fun inner h1 h2 => pieces_due hfl h1 h2 hms mm
  have pne : 0 < (ts'.map V.ref).length := by
    rw [P17.len]
    exact List.length_pos_iff.mpr (pcs_ne es first last inner)
  rw [eqD inner ilt imem] at P17
  have dl : (dueP es first last ms).length ≤ 2000 := by rw [← D17.tr.1]; exact hul
  refine sqIf (b := false) (put_not (a := true) (fun Q' q => ⟨_, rfl, _, rfl, p, d, ts', us, dueP es first last ms, rfl, P17, D17, dl, _, rfl, q⟩)) (fun z => nomatch z) (fun _ => nxt ?_)
  have tl := P17.len
  -- the list that was told is changed
  refine ⟨_, rfl, _, rfl, _, _, rfl, rfl, sz3, fun q1 hq1 => ?_⟩
  have s18 : Same H17 (upd H17 q1 (.tup [.int first, .int last, .int (0 - 1)])) := Same.new hq1
  refine ⟨_, rfl, _, _, _, 0, rfl, rfl, s18 _ _ P17.li, ixN_zero pne, ?_⟩
  have B18 : But T.P_untrue_weight H16 (upd (upd H17 q1 (.tup [.int first, .int last, .int (0 - 1)])) p (.lst ((ts'.map V.ref).set 0 (.ref q1)))) := (b17.trans (But.new hq1)).mut p0
  have t18 : TabG (upd (upd H17 q1 (.tup [.int first, .int last, .int (0 - 1)])) p (.lst ((ts'.map V.ref).set 0 (.ref q1)))) T.P_untrue_weight := TabG.set (TabG.same t17 s18) (s18 _ _ P17.li)
  have p18 := upd_same (H := upd H17 q1 (.tup [.int first, .int last, .int (0 - 1)])) (a := p) (o := .lst ((ts'.map V.ref).set 0 (.ref q1)))
  generalize upd (upd H17 q1 (.tup [.int first, .int last, .int (0 - 1)])) p (.lst ((ts'.map V.ref).set 0 (.ref q1))) = H18 at B18 t18 p18 ⊢
  refine ⟨_, rfl, .inl ⟨rfl, _, .inl (.inl p18)⟩, _, rfl, _, rfl, sz3, fun q2 hq2 => ?_⟩
  have s19 : Same H18 (upd H18 q2 (.tup [.int last, .int last, .int 0])) := Same.new hq2
  refine ⟨_, _, _, rfl, rfl, s19 _ _ p18, by rw [List.length_set, tl]; exact small6 (by omega), nxe ?_⟩
  have B19 : But T.P_untrue_weight H16 (upd (upd H18 q2 (.tup [.int last, .int last, .int 0])) p (.lst ((ts'.map V.ref).set 0 (.ref q1) ++ [.ref q2]))) := (B18.trans (But.new hq2)).mut p0
  have t19 : TabG (upd (upd H18 q2 (.tup [.int last, .int last, .int 0])) p (.lst ((ts'.map V.ref).set 0 (.ref q1) ++ [.ref q2]))) T.P_untrue_weight := TabG.set (TabG.same t18 s19) (s19 _ _ p18)
  generalize upd (upd H18 q2 (.tup [.int last, .int last, .int 0])) p (.lst ((ts'.map V.ref).set 0 (.ref q1) ++ [.ref q2])) = H19 at B19 t19 ⊢
  have L19 := L16.tab B19 t19
  have D19 := P16.tab B19 L16.t
  refine ⟨_, rfl, _, rfl, _, rfl, hd, first, last, es, rfl, ⟨ts, L19.h, L19.r.tr.tri⟩, le, hfl, L19.t, fun p2 ts2 inner2 H20 ilt2 imem2 P20 p20 b20 t20 => ?_⟩
  have L20 := L19.tab b20 t20
  have D20 := D19.tab b20 L19.t
  rw [eqD inner2 ilt2 imem2] at P20
  refine ⟨_, rfl, p2, d, ts2, us, dueP es first last ms, rfl, P20, D20, dl, _, rfl, iteF (nxt ?_)⟩
  refine ⟨_, rfl, _, _, rfl, rfl, _, rfl, _, _, rfl, rfl, sz2, fun vl hvl => asg ?_⟩
  refine ⟨_, rfl, d, rfl, ⟨_, .inl (.inl (Same.new hvl _ _ D20.li))⟩, for_list (K := K) (a := d) (xs := us.map V.ref) (fun i σ H' => ∃ (vs : List Int) (v12 : Option V), σ = [some (.ref a), some (.ref s1), some (.int (n : Int)), some (.ref r), some (.ref hd), some (.ref s4), some (.ref el), some (.int first), some (.int last), some (.ref d), some (.ref p), some (.ref vl), v12, none, none] ∧ vs.length = 2 + 2 * i ∧ H' vl = some (.lst (vs.map V.int)) ∧ Same H20 H')
    ⟨[first - 1, last + 1], none, rfl, rfl, upd_same, Same.new hvl⟩ (fun i σ H' _ ⟨_, _, _, _, _, s⟩ => .inl (.inl (s _ _ D20.li))) ?_ ?_⟩
  · rintro i x σ H21 hx ⟨vs, v12, rfl, hvs, hV, s21⟩
    obtain ⟨t, e, rfl, ht0, he, ht⟩ := (D20.same s21).tr.at hx
    have hi : i < us.length := (List.getElem?_eq_some_iff.mp ht0).1
    refine ⟨_, rfl, .inl ⟨rfl, _, .inl (.inl hV)⟩, _, rfl, _, _, 0, _, rfl, rfl, .inl (.inl ht), rfl, _, rfl, _, _, 1, _, rfl, rfl, .inl (.inl ht), rfl, sz2, fun d2 hd2 => ?_⟩
    refine ⟨vl, d2, _, _, rfl, rfl, (upd_ne (ne_of_none hV hd2)).trans hV, upd_same, small6' (by rw [List.length_map]; show vs.length + 2 ≤ 100000; omega), ?_⟩
    exact ⟨vs ++ [e.a, e.b], _, rfl, by rw [List.length_append, hvs]; show 2 + 2 * i + 2 = _; omega, by rw [upd_same, List.map_append]; rfl, (s21.trans (Same.new hd2)).upd' hvl⟩
  rintro σ H21 ⟨vs, v12, rfl, _, hV, s21⟩
  have L21 := L20.same s21
  refine ⟨_, rfl, vl, rfl, ⟨_, .inl (.inl hV)⟩, for_list (K := K) (a := vl) (xs := vs.map V.int) (fun i σ H' => ∃ (v13 v14 : Option V), σ = [some (.ref a), some (.ref s1), some (.int (n : Int)), some (.ref r), some (.ref hd), some (.ref s4), some (.ref el), some (.int first), some (.int last), some (.ref d), some (.ref p), some (.ref vl), v12, v13, v14] ∧ LwI K T.P_untrue_weight r hd ts es H' ∧ H' vl = some (.lst (vs.map V.int)))
    ⟨none, none, rfl, L21, hV⟩ (fun i σ H' _ ⟨_, _, _, _, q⟩ => .inl (.inl q)) ?_ ?_⟩
  · rintro i x σ H22 hx ⟨v13, v14, rfl, L22, hV22⟩
    obtain ⟨v, rfl⟩ : ∃ v, x = V.int v := by
      rw [List.getElem?_map] at hx
      cases e : vs[i]? with
      | none => rw [e] at hx; cases hx
      | some v => rw [e] at hx; exact ⟨v, (Option.some.inj hx).symm⟩
    refine ⟨_, rfl, _, rfl, hd, v, es, rfl, ⟨ts, L22.h, L22.r.tr.tri⟩, L22.t, fun H23 tb => asg ?_⟩
    have L23 := L22.tab (tabbed_but tb) tb.1
    have hV23 := tabbed_but tb _ _ (TabG.ne L22.t hV22) hV22
    refine ⟨_, rfl, _, rfl, _, rfl, iteF ⟨_, rfl, _, rfl, _, rfl, r, v, ts, es, rfl, L23.r, fun H24 e24 => ⟨rfl, _, rfl, ?_⟩⟩⟩
    rw [decide_eq_true rfl]
    exact iteF (nxt ⟨_, _, rfl, L23.same e24, e24 _ _ hV23⟩)
  · rintro σ H22 ⟨v13, v14, rfl, L22, hV22⟩
    refine ⟨_, rfl, hd, _, rfl, L22.h, fun l hl => ?_⟩
    have e23 := Same.new (o := .lst (ts.map V.ref)) hl
    refine ⟨_, rfl, _, _, .lst (.inl (.inl upd_same)) (dp_es (L22.r.tr.same e23).tri), .lst (.inl (.inl (e23 _ _ L22.r.li))) (dp_es (L22.r.tr.same e23).tri), shaped_es es, shaped_es es, ?_⟩
    rw [eqv_es]
    exact k _

end
theorem fun_of {K : PySem.W.Frag} {x qual : Str} {st : Stmt} {f : Addr} {fd : FuncData} (F : FunD K x qual (defArgs st) (defBody st) (defScope st) [] [] f fd) : Fun K x qual st f fd := by
  obtain ⟨⟨oc, od, dV, kV, doc, pm, an, cdv, ct, osl, rfl, lk, hcd, hD, _⟩, kp⟩ := F
  rcases hD with ⟨_, rfl⟩ | ⟨e, _⟩
  · exact fun_mk lk hcd kp
  · exact absurd rfl e
theorem code_at {K : PySem.W.Frag} {x qual : Str} {params : Arguments} {body : List Stmt} {scope : Scope} {p : Str × Option Str} {fd : FuncData} {dvs : List V} {kws : List (Str × V)} (F : FunD K x qual params body scope dvs kws (He.fAd K p) fd) : fd.code = .ref (He.cT K p).1 := by
  obtain ⟨⟨oc, od, dV, kV, doc, pm, an, cdv, ct, osl, rfl, lk, hcd, _, _⟩, _⟩ := F
  obtain ⟨c, e⟩ := He.codeIn_ref hcd
  subst e
  show Value.ref c = .ref (He.codeOf K p)
  rw [He.codeOf_eq lk rfl]
def dd_untrue_weight : He.DefD := ⟨("untrue_weight", none), "untrue_weight", "untrue_weight", defArgs s_untrue_weight, defBody s_untrue_weight, defScope s_untrue_weight, [], []⟩
def dd_weight_pieces : He.DefD := ⟨("weight_pieces", none), "weight_pieces", "weight_pieces", defArgs s_weight_pieces, defBody s_weight_pieces, defScope s_weight_pieces, [], []⟩
def dd_even_runs : He.DefD := ⟨("_even_runs", none), "_even_runs", "_even_runs", defArgs s_even_runs, defBody s_even_runs, defScope s_even_runs, [], []⟩
def dd_law_source : He.DefD := ⟨("_law_source", none), "_law_source", "_law_source", defArgs s_law_source, defBody s_law_source, defScope s_law_source, [], []⟩
def dd_law_draw : He.DefD := ⟨("_law_draw", none), "_law_draw", "_law_draw", defArgs s_law_draw, defBody s_law_draw, defScope s_law_draw, [], []⟩
def dd_law_between : He.DefD := ⟨("_law_between", none), "_law_between", "_law_between", defArgs s_law_between, defBody s_law_between, defScope s_law_between, [], []⟩
def dd_law_whole : He.DefD := ⟨("_law_whole", none), "_law_whole", "_law_whole", defArgs s_law_whole, defBody s_law_whole, defScope s_law_whole, [], []⟩
def dd_law_estimates : He.DefD := ⟨("_law_estimates", none), "_law_estimates", "_law_estimates", defArgs s_law_estimates, defBody s_law_estimates, defScope s_law_estimates, [], []⟩
def dd_law_far : He.DefD := ⟨("_law_far", none), "_law_far", "_law_far", defArgs s_law_far, defBody s_law_far, defScope s_law_far, [], []⟩
def dd_law_moved : He.DefD := ⟨("_law_moved", none), "_law_moved", "_law_moved", defArgs s_law_moved, defBody s_law_moved, defScope s_law_moved, [], []⟩
def dd_law_marks : He.DefD := ⟨("_law_marks", none), "_law_marks", "_law_marks", defArgs s_law_marks, defBody s_law_marks, defScope s_law_marks, [], []⟩
def dd_law_untrue_mass : He.DefD := ⟨("_law_untrue_mass", none), "_law_untrue_mass", "_law_untrue_mass", defArgs s_law_untrue_mass, defBody s_law_untrue_mass, defScope s_law_untrue_mass, [], []⟩
def dd_law_end : He.DefD := ⟨("_law_end", none), "_law_end", "_law_end", defArgs s_law_end, defBody s_law_end, defScope s_law_end, [], []⟩
def dd_law_pieces : He.DefD := ⟨("_law_pieces", none), "_law_pieces", "_law_pieces", defArgs s_law_pieces, defBody s_law_pieces, defScope s_law_pieces, [], []⟩
def dd_law_same : He.DefD := ⟨("_law_same", none), "_law_same", "_law_same", defArgs s_law_same, defBody s_law_same, defScope s_law_same, [], []⟩
def dd_law : He.DefD := ⟨("law", none), "law", "law", defArgs s_law, defBody s_law, defScope s_law, [], []⟩
theorem bind_law {K : PySem.W.Frag} {f : Addr} {fd : FuncData} (F : FunD K "law" "law" (defArgs s_law) (defBody s_law) (defScope s_law) [] [] f fd) (s : Shared) (v : Value) : BindsTo s fd ⟨[v], []⟩ [("_law_script", v)] := by
  obtain ⟨⟨oc, od, dV, kV, doc, pm, an, cdv, ct, osl, rfl, lk, hcd, hD, _⟩, kp⟩ := F
  rcases hD with ⟨_, rfl⟩ | ⟨e, _⟩
  · exact .of_eq rfl
  · exact absurd rfl e
def hfn : List He.DefD := [dd_untrue_weight, dd_weight_pieces, dd_even_runs, dd_law_source, dd_law_draw, dd_law_between, dd_law_whole, dd_law_estimates, dd_law_far, dd_law_moved, dd_law_marks, dd_law_untrue_mass, dd_law_end, dd_law_pieces, dd_law_same, dd_law]
def hfa : List He.Fa := [.glo "untrue_weight", .glo "weight_pieces", .glo "_even_runs", .glo "_law_source", .glo "_law_draw", .glo "_law_between", .glo "_law_whole", .glo "_law_estimates", .glo "_law_far", .glo "_law_moved", .glo "_law_marks", .glo "_law_untrue_mass", .glo "_law_end", .glo "_law_pieces", .glo "_law_same", .glo "law", .free "abs", .free "bool", .free "int", .free "isinstance", .free "len", .free "list", .free "min", .free "range", .free "sorted", .free "sum", .free "tuple", .free "zip"]
def htf : List He.Defn := [("untrue_weight", none)]
theorem tst {l : PySem.W.OpenLaw} {w : World} {K : PySem.W.Frag} {h : Heap} {mg : Str → Option Value} {fa : Addr} (X : K.In h) (G : h.Ns mainGlobals mg) (hmg : mg "law" = some (.ref fa)) (c : He.SaysX hfa hfn [] htf (fun _ => true) w h K) : LamX.LawAtS l w K CX0 5 63 "_law_script" mg fa h := by
  obtain ⟨fd_untrue_weight, D_untrue_weight⟩ := c.t.d.def_ 0 (d := dd_untrue_weight)
  obtain ⟨fd_weight_pieces, D_weight_pieces⟩ := c.t.d.def_ 1 (d := dd_weight_pieces)
  obtain ⟨fd_even_runs, D_even_runs⟩ := c.t.d.def_ 2 (d := dd_even_runs)
  obtain ⟨fd_law_source, D_law_source⟩ := c.t.d.def_ 3 (d := dd_law_source)
  obtain ⟨fd_law_draw, D_law_draw⟩ := c.t.d.def_ 4 (d := dd_law_draw)
  obtain ⟨fd_law_between, D_law_between⟩ := c.t.d.def_ 5 (d := dd_law_between)
  obtain ⟨fd_law_whole, D_law_whole⟩ := c.t.d.def_ 6 (d := dd_law_whole)
  obtain ⟨fd_law_estimates, D_law_estimates⟩ := c.t.d.def_ 7 (d := dd_law_estimates)
  obtain ⟨fd_law_far, D_law_far⟩ := c.t.d.def_ 8 (d := dd_law_far)
  obtain ⟨fd_law_moved, D_law_moved⟩ := c.t.d.def_ 9 (d := dd_law_moved)
  obtain ⟨fd_law_marks, D_law_marks⟩ := c.t.d.def_ 10 (d := dd_law_marks)
  obtain ⟨fd_law_untrue_mass, D_law_untrue_mass⟩ := c.t.d.def_ 11 (d := dd_law_untrue_mass)
  obtain ⟨fd_law_end, D_law_end⟩ := c.t.d.def_ 12 (d := dd_law_end)
  obtain ⟨fd_law_pieces, D_law_pieces⟩ := c.t.d.def_ 13 (d := dd_law_pieces)
  obtain ⟨fd_law_same, D_law_same⟩ := c.t.d.def_ 14 (d := dd_law_same)
  obtain ⟨fd_law, D_law⟩ := c.t.d.def_ 15 (d := dd_law)
  let T : Txt l.prog K mg := {
    a_untrue_weight := He.fAd K ("untrue_weight", none)
    d_untrue_weight := fd_untrue_weight
    F_untrue_weight := D_untrue_weight
    b_untrue_weight := (fun_of (st := s_untrue_weight) D_untrue_weight).binds (ps := ["estimates", "value"]) fun _ _ _ _ _ _ us hl => match us, hl with | [_, _], _ => rfl
    c_untrue_weight := (He.cT K ("untrue_weight", none)).1
    P_untrue_weight := (He.cT K ("untrue_weight", none)).2
    hc_untrue_weight := code_at D_untrue_weight
    m_untrue_weight := He.glo_ok X G (c.t.d.fact 0)
    a_weight_pieces := He.fAd K ("weight_pieces", none)
    d_weight_pieces := fd_weight_pieces
    F_weight_pieces := fun_of D_weight_pieces
    b_weight_pieces := (fun_of (st := s_weight_pieces) D_weight_pieces).binds (ps := ["estimates", "first", "last"]) fun _ _ _ _ _ _ us hl => match us, hl with | [_, _, _], _ => rfl
    m_weight_pieces := He.glo_ok X G (c.t.d.fact 1)
    a_even_runs := He.fAd K ("_even_runs", none)
    d_even_runs := fd_even_runs
    F_even_runs := fun_of D_even_runs
    b_even_runs := (fun_of (st := s_even_runs) D_even_runs).binds (ps := ["estimates", "first", "last"]) fun _ _ _ _ _ _ us hl => match us, hl with | [_, _, _], _ => rfl
    m_even_runs := He.glo_ok X G (c.t.d.fact 2)
    a_law_source := He.fAd K ("_law_source", none)
    d_law_source := fd_law_source
    F_law_source := fun_of D_law_source
    b_law_source := (fun_of (st := s_law_source) D_law_source).binds (ps := ["_law_script", "_law_place"]) fun _ _ _ _ _ _ us hl => match us, hl with | [_, _], _ => rfl
    m_law_source := He.glo_ok X G (c.t.d.fact 3)
    a_law_draw := He.fAd K ("_law_draw", none)
    d_law_draw := fd_law_draw
    F_law_draw := fun_of D_law_draw
    b_law_draw := (fun_of (st := s_law_draw) D_law_draw).binds (ps := ["_law_source_here", "_law_size"]) fun _ _ _ _ _ _ us hl => match us, hl with | [_, _], _ => rfl
    m_law_draw := He.glo_ok X G (c.t.d.fact 4)
    a_law_between := He.fAd K ("_law_between", none)
    d_law_between := fd_law_between
    F_law_between := fun_of D_law_between
    b_law_between := (fun_of (st := s_law_between) D_law_between).binds (ps := ["_law_source_here", "_law_least", "_law_most"]) fun _ _ _ _ _ _ us hl => match us, hl with | [_, _, _], _ => rfl
    m_law_between := He.glo_ok X G (c.t.d.fact 5)
    a_law_whole := He.fAd K ("_law_whole", none)
    d_law_whole := fd_law_whole
    F_law_whole := fun_of D_law_whole
    b_law_whole := (fun_of (st := s_law_whole) D_law_whole).binds (ps := ["_law_actual"]) fun _ _ _ _ _ _ us hl => match us, hl with | [_], _ => rfl
    m_law_whole := He.glo_ok X G (c.t.d.fact 6)
    a_law_estimates := He.fAd K ("_law_estimates", none)
    d_law_estimates := fd_law_estimates
    F_law_estimates := fun_of D_law_estimates
    b_law_estimates := (fun_of (st := s_law_estimates) D_law_estimates).binds (ps := ["_law_source_here", "_law_count", "_law_most"]) fun _ _ _ _ _ _ us hl => match us, hl with | [_, _, _], _ => rfl
    m_law_estimates := He.glo_ok X G (c.t.d.fact 7)
    a_law_far := He.fAd K ("_law_far", none)
    d_law_far := fd_law_far
    F_law_far := fun_of D_law_far
    b_law_far := (fun_of (st := s_law_far) D_law_far).binds (ps := ["_law_source_here"]) fun _ _ _ _ _ _ us hl => match us, hl with | [_], _ => rfl
    m_law_far := He.glo_ok X G (c.t.d.fact 8)
    a_law_moved := He.fAd K ("_law_moved", none)
    d_law_moved := fd_law_moved
    F_law_moved := fun_of D_law_moved
    b_law_moved := (fun_of (st := s_law_moved) D_law_moved).binds (ps := ["_law_source_here", "_law_rows"]) fun _ _ _ _ _ _ us hl => match us, hl with | [_, _], _ => rfl
    m_law_moved := He.glo_ok X G (c.t.d.fact 9)
    a_law_marks := He.fAd K ("_law_marks", none)
    d_law_marks := fd_law_marks
    F_law_marks := fun_of D_law_marks
    b_law_marks := (fun_of (st := s_law_marks) D_law_marks).binds (ps := ["_law_rows"]) fun _ _ _ _ _ _ us hl => match us, hl with | [_], _ => rfl
    m_law_marks := He.glo_ok X G (c.t.d.fact 10)
    a_law_untrue_mass := He.fAd K ("_law_untrue_mass", none)
    d_law_untrue_mass := fd_law_untrue_mass
    F_law_untrue_mass := fun_of D_law_untrue_mass
    b_law_untrue_mass := (fun_of (st := s_law_untrue_mass) D_law_untrue_mass).binds (ps := ["_law_rows", "_law_value"]) fun _ _ _ _ _ _ us hl => match us, hl with | [_, _], _ => rfl
    m_law_untrue_mass := He.glo_ok X G (c.t.d.fact 11)
    a_law_end := He.fAd K ("_law_end", none)
    d_law_end := fd_law_end
    F_law_end := fun_of D_law_end
    b_law_end := (fun_of (st := s_law_end) D_law_end).binds (ps := ["_law_source_here", "_law_rows"]) fun _ _ _ _ _ _ us hl => match us, hl with | [_, _], _ => rfl
    m_law_end := He.glo_ok X G (c.t.d.fact 12)
    a_law_pieces := He.fAd K ("_law_pieces", none)
    d_law_pieces := fd_law_pieces
    F_law_pieces := fun_of D_law_pieces
    b_law_pieces := (fun_of (st := s_law_pieces) D_law_pieces).binds (ps := ["_law_rows", "_law_first", "_law_last"]) fun _ _ _ _ _ _ us hl => match us, hl with | [_, _, _], _ => rfl
    m_law_pieces := He.glo_ok X G (c.t.d.fact 13)
    a_law_same := He.fAd K ("_law_same", none)
    d_law_same := fd_law_same
    F_law_same := fun_of D_law_same
    b_law_same := (fun_of (st := s_law_same) D_law_same).binds (ps := ["_law_told", "_law_due"]) fun _ _ _ _ _ _ us hl => match us, hl with | [_, _], _ => rfl
    m_law_same := He.glo_ok X G (c.t.d.fact 14)
    a_law := He.fAd K ("law", none)
    d_law := fd_law
    F_law := fun_of D_law
    b_law := (fun_of (st := s_law) D_law).binds (ps := ["_law_script"]) fun _ _ _ _ _ _ us hl => match us, hl with | [_], _ => rfl
    m_law := He.glo_ok X G (c.t.d.fact 15)
    z_abs := He.free_ok X G (c.t.d.fact 16)
    z_bool := He.free_ok X G (c.t.d.fact 17)
    z_int := He.free_ok X G (c.t.d.fact 18)
    z_isinstance := He.free_ok X G (c.t.d.fact 19)
    z_len := He.free_ok X G (c.t.d.fact 20)
    z_list := He.free_ok X G (c.t.d.fact 21)
    z_min := He.free_ok X G (c.t.d.fact 22)
    z_range := He.free_ok X G (c.t.d.fact 23)
    z_sorted := He.free_ok X G (c.t.d.fact 24)
    z_sum := He.free_ok X G (c.t.d.fact 25)
    z_tuple := He.free_ok X G (c.t.d.fact 26)
    z_zip := He.free_ok X G (c.t.d.fact 27) }
  have ea : fa = T.a_law := by
    have e := hmg.symm.trans T.m_law
    cases e
    rfl
  subst ea
  refine ⟨T.d_law, htf.map (He.cT K), spLaw K T.P_untrue_weight, ?_, ?_, ?_, fun s v => ?_, fun H a ns hl hb hT hS => ?_, fun base KB GB TB => ok_law T ⟨(fun t => ⟨t.code, t.bm, t.gP⟩) (TB _ (List.mem_map_of_mem (show (("untrue_weight", none) : He.Defn) ∈ htf from List.mem_cons_self)))⟩⟩
  · rintro p hp; obtain ⟨q, hq, rfl⟩ := List.mem_map.mp hp; exact c.empty q hq
  · rintro p hp; obtain ⟨q, hq, rfl⟩ := List.mem_map.mp hp; exact c.out q hq
  · rintro p hp; obtain ⟨q, hq, rfl⟩ := List.mem_map.mp hp; exact PySem.W.codeHd_of_K X (c.hd q hq)
  · exact bind_law D_law s v
  · exact ⟨a, ns, rfl, hS, hl, hT _ (List.mem_map_of_mem (show (("untrue_weight", none) : He.Defn) ∈ htf from List.mem_cons_self)), fun _ => rfl⟩
end My

open PySem PySem.W PyProof.Rows in
set_option maxRecDepth 100000 in
set_option maxHeartbeats 0 in
theorem PySem.Challenge.cw_counthall_k35_weight_pieces_holds : PySem.Challenge.rw_counthall_k35_weight_pieces.Holds := by
  w_on; o_law; o_head (He.hookX 4 My.hfa My.hfn [] My.htf (fun _ => true)); (case hw => w_witness2)
  refine LamX.walk_ofTsE (l := PySem.Challenge.rw_counthall_k35_weight_pieces) (n := 63) (k := 5) (x := "_law_script") (CX := fun _ => L2.CX0) rfl (by decide) rfl ⟨rfl, by decide, by decide⟩ ?F fun _ _ _ _ _ z => z
  intro w mg fa h Y G hmg
  obtain ⟨K, KX, c⟩ := Y
  exact ⟨K, KX, My.tst KX G hmg c⟩
#print axioms PySem.Challenge.cw_counthall_k35_weight_pieces_holds

