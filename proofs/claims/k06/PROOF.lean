import PyProof.Rows.All
import Wide.All
import OpenK.AllK
import Wide.FinOn
import HandS.ForMost
import HandS.MakeKwOnly
import HandS.IsInst
import HandS.Conv
import HandS.SetFor
import HandS.Defaults
import HandS.AnyAll
import HandS.Sort
import HandS.SortInts
import HandS.EndTab
import HandS.HeadHook4
import HandS.HeadWalk
import PyProof.GenCompT
import HandS.GenList
import HandS.GenCall
import PyProof.ConsumeS
import PyProof.GenCompD
import PyProof.WalksPairs
import KE.GoesMore
import KE.KDictZip
import KE.KDictLaws
import HandS.Zip
import HandS.DictComp
import HandS.Star
import HandS.Iter
import HandS.OwnIter
import HandS.IterVal
import HandS.IterNext
import HandS.Lambda
import HandS.RevRange
import HandS.WordsDict
import KE.KMinKey
import KE.DataMinKey
import KE.KLam
import KE.KOwnIter
import KE.KOwnIn
import KE.KOpsOwn
import KE.KDictIter
import KE.SortData
import KE.DataMinMax
import HandS.TupAny
import PySem.Challenge.RW_counthall_k06_frame_allows
set_option Elab.async false
set_option linter.all false
set_option maxRecDepth 100000
set_option maxHeartbeats 4000000

namespace Gq
open PySem PySem.Spec PyProof.Rows L2 GxR
/-! ### generator expressions over lists and tuples, their elements without calls of defs -/
/-- the value xv in the heap h can be walked; P is no part of the walk -/
def WalkV (prog : Program) (w : World) (h : Heap) (P : Addr) (xv : Value) (n : Nat) (Pi : Nat → Value → Prop) : Prop :=
  ∀ (A : Around) (E : Value → Shared → Prop) (s : Shared) (Q : Value → Shared → Prop), s.heap = h →
    (∀ (ob : Obj) (fp : List Addr) (St : Nat → Heap → Prop), (∀ A' : Around, A'.handled = none → Walks prog w A' h.objs.size fp [h.objs.size] n Pi St) → St 0 (h.push ob) → (∀ b ∈ fp, b ≠ P ∧ b ≤ h.objs.size) →
      Q (.ref h.objs.size) { s with heap := h.push ob }) → wpAny (model prog w) A (pyIter xv) Q E s
theorem walk_list {prog : Program} {w : World} {h : Heap} {P l : Addr} {its : Array Value} (hl : h.IsList l its) (hP : P < h.objs.size) (n : l ≠ P) : WalkV prog w h P (.ref l) its.size (fun i v => its[i]? = some v) := by
  intro A E s Q e k
  subst e
  have hlt : l < s.heap.objs.size := by
    obtain ⟨o, ho, _⟩ := hl
    exact Heap.lt_size ho
  refine wpAny_pyIter_list hl (k _ [s.heap.objs.size, l] (fun i h' => h'.IsListIter s.heap.objs.size l i ∧ h'.IsList l its) (fun A' hA => Walks.list hA _ _ (Nat.ne_of_lt hlt) its) ⟨⟨_, Heap.get?_push_size _ rfl, rfl, rfl⟩, hl.push _⟩ fun b hb => ?_)
  simp only [List.mem_cons, List.not_mem_nil, or_false] at hb
  rcases hb with rfl | rfl
  · exact ⟨(Nat.ne_of_lt hP).symm, Nat.le_refl _⟩
  · exact ⟨n, Nat.le_of_lt hlt⟩
theorem walk_tuple {prog : Program} {w : World} {h : Heap} {P l : Addr} {its : Array Value} (hl : h.IsTuple l its) (hP : P < h.objs.size) (n : l ≠ P) : WalkV prog w h P (.ref l) its.size (fun i v => its[i]? = some v) := by
  intro A E s Q e k
  subst e
  have hlt : l < s.heap.objs.size := by
    obtain ⟨o, ho, _⟩ := hl
    exact Heap.lt_size ho
  refine wpAny_pyIter_tuple hl (k _ [s.heap.objs.size, l] (fun i h' => h'.IsTupleIter s.heap.objs.size l i ∧ h'.IsTuple l its) (fun A' hA => Walks.tuple hA _ _ (Nat.ne_of_lt hlt) its) ⟨⟨_, Heap.get?_push_size _ rfl, rfl, rfl⟩, hl.push _⟩ fun b hb => ?_)
  simp only [List.mem_cons, List.not_mem_nil, or_false] at hb
  rcases hb with rfl | rfl
  · exact ⟨(Nat.ne_of_lt hP).symm, Nat.le_refl _⟩
  · exact ⟨n, Nat.le_of_lt hlt⟩
section
variable {X : Cx} {pins : List (Addr × Obj)} {σ : L2.St} {H : Hp} {s : Shared}
/-- the element of the item i is known, in each heap that keeps h but for P -/
def EltR (X : Cx) (scope : Scope) (x : Str) (elt : Expr) (P : Addr) (h : Heap) (Pi F : Nat → Value → Prop) : Prop :=
  ∀ (C : Addr) (code : Value) (A' : Around) (E' : Value → Shared → Prop) (i : Nat) (v : Value) (t : Shared) (m : Str → Option Value), A'.handled = none → Pi i v → t.heap.Ns C m → m x = some v →
    (∀ b o, b ≠ P → h.get? b = some o → t.heap.get? b = some o) → wpAny (model X.prog X.w) A' (eval elt (genEnv scope (cloFrom X.env.cells scope.names []) C code builtinsNs X.env)) (fun y t' => F i y ∧ Keeps t t') E' t
/-- the table of P grows by what stands at gp, or stays -/
def Tb2 (P : Addr) (gp : Pos) (H H2 : Hp) : Prop := Tabbed P H H2 ∧ ∀ ps, H P = some (.tbl ps) → ∃ more, H2 P = some (.tbl (ps ++ more)) ∧ (more = #[] ∨ ∃ cv, more = #[rawInt (gp.line : Int), rawInt (gp.col : Int), cv])
/-- the generator g stands ready, its n elements known by F -/
def RdyG (X : Cx) (pins : List (Addr × Obj)) (σ : L2.St) (H1 : Hp) (P : Addr) (gp : Pos) (n : Nat) (F : Nat → Value → Prop) (g : Addr) (t : Shared) : Prop :=
  ∃ (fp wr : List Addr) (G : Array GenState → Array GenState → Prop) (F' : Nat → Value → Prop) (St : Nat → Shared → Prop), WalksS X.prog X.w X.A.in1 g fp wr G n F' St ∧ (∀ j y, F' j y → F j y) ∧ St 0 t ∧ (∀ b ∈ fp, b < t.heap.objs.size) ∧
    ∀ t', Moved wr G t t' → ∃ H2, Tb2 P gp H1 H2 ∧ Inv X pins σ H2 t'
theorem gen_seq {c P : Addr} {elt iter : Expr} {x : Str} {px gpos : Pos} {scope : Scope} {te : TE} {k : Nat} {Q' : Value → Shared → Prop}
    (hr : Room k X.A) (TB : TabB X.base X.mg c P) (hcode : X.env.code = .ref c) (S : GenS X.env scope x) (hi : PE X iter te) (hs : ∀ v, genFold iter X.env v = pure v) (I : Inv X pins σ H s)
    {R : VK} (h : te σ H R) (hR : ∀ v H1, R v H1 → TabG H1 P ∧ ∀ (s1 : Shared) (xv : Value), Inv X pins σ H1 s1 → RelV v xv → ∃ (n : Nat) (Pi F : Nat → Value → Prop), WalkV X.prog X.w s1.heap P xv n Pi ∧ EltR X scope x elt P s1.heap Pi F ∧ ∀ g t, RdyG X pins σ H1 P gpos n F g t → Q' (.ref g) t) :
    wpAny (model X.prog X.w) X.A (eval (.GeneratorExp elt [⟨.Name x px, iter, [], 0⟩] scope gpos) X.env) Q' X.xe s := by
  refine wpAny_GeneratorExp_walksQ hr.hd S.co (closure_ok S.free) S.cell S.dot S.loc S.kind (by have d := hr.dp; omega) ?_ hs
  refine thn (hi.run pins s σ H _ I h) fun xv s1 ⟨v, H1, I1, rel, all1⟩ => ?_
  obtain ⟨⟨ps, tabH, trip⟩, rest⟩ := hR v H1 all1
  obtain ⟨n, Pi, F, walk, hel, fin⟩ := rest s1 xv I1 rel
  refine walk _ _ _ _ rfl fun ob fp St W st0 hfp => ?_
  have tab1 : s1.heap.get? P = some { cls := .none, data := .fields ps } := I1.hok P _ tabH
  have Plt : P < s1.heap.objs.size := Heap.lt_size tab1
  have tab2 : (s1.heap.push ob).get? P = some { cls := .none, data := .fields ps } := Heap.get?_push_of_some _ tab1
  have hd2 : PySem.W.CodeHd (s1.heap.push ob) c P := TB.code.keeps fun b u q => Heap.get?_push_of_some _ (I1.bk b u q)
  have lim2 : (s1.heap.push ob).NoLimit := I1.nolimit.push ob
  have size2 : (s1.heap.push ob).objs.size = s1.heap.objs.size + 1 := Heap.size_push ..
  refine ⟨lim2, ?_⟩
  -- behind the code object: the table holds ps and more
  have go : ∀ (code : Value) (h3 : Heap) (tk : Nat) (qs : Array Value), Heap.ExtBut P (s1.heap.push ob) h3 → s1.heap.objs.size + 1 ≤ h3.objs.size → h3.get? P = some { cls := .none, data := .fields qs } → (∃ more, qs = ps ++ more ∧ (more = #[] ∨ ∃ cv, more = #[rawInt (gpos.line : Int), rawInt (gpos.col : Int), cv])) → TriplesOk qs.toList →
      wpAny (model X.prog X.w) X.A (builtinsFor X.env.globals X.env.builtins) (fun bi s4 =>
        ∃ J fp' wr n₀ Pf St₀ pz F', Value.ref s1.heap.objs.size = .ref J ∧ (∀ A' : Around, A'.handled = none → Walks X.prog X.w A' J fp' wr n₀ Pf St₀) ∧ St₀ 0 s4.heap ∧ (∀ b ∈ fp', b < s4.heap.objs.size) ∧ s4.heap.NoLimit ∧ cStatics ∉ wr ∧
          (∀ hx : Heap, (∀ b o, s4.heap.get? b = some o → hx.get? b = some o) →
            QuietGen X.prog X.w (genEnv scope (cloFrom X.env.cells scope.names []) s4.heap.objs.size code bi X.env) x [] elt (List.range s4.heap.objs.size) wr Pf pz F' hx) ∧
          (∀ a h5 tk5 gs, gs.bare = true → s4.heap.objs.size < a → h5.objs.size = a + 1 → (∀ b o, s4.heap.get? b = some o → h5.get? b = some o) →
            WalksS X.prog X.w X.A.in4 a (a :: s4.heap.objs.size :: List.range s4.heap.objs.size) (s4.heap.objs.size :: wr) (GenOnlyQ s4.gens.size) (passing pz n₀ 0).length
              (fun j y => ∃ i, (passing pz n₀ 0)[j]? = some i ∧ F' i y) (GenAt X.prog X.w X.A.in4 a s4.gens.size s4.heap.objs.size (List.range s4.heap.objs.size) wr pz n₀ F') →
            GenAt X.prog X.w X.A.in4 a s4.gens.size s4.heap.objs.size (List.range s4.heap.objs.size) wr pz n₀ F' 0 { s4 with gens := s4.gens.push gs, toks := tk5, heap := h5 } →
            Q' (.ref a) { s4 with gens := s4.gens.push gs, toks := tk5, heap := h5 })) X.xe { s1 with heap := h3, toks := tk } := by
    intro code h3 tk qs ext le3 tab3 grown trip3
    obtain ⟨bm, bo, z1, z2, z3, z4, z5, z6, z7, z8⟩ := TB.bm
    have statP : cStatics ≠ P := fun q => by
      obtain ⟨_, hns, _⟩ := I1.nolimit
      obtain ⟨o', es, ep, ho, hd, _⟩ := hns
      rw [q, tab1] at ho
      cases ho
      cases hd
    have statLt : cStatics < s1.heap.objs.size := by
      obtain ⟨_, hns, _⟩ := I1.nolimit
      exact hns.lt
    have keep3 : ∀ b u, b ≠ P → s1.heap.get? b = some u → h3.get? b = some u := fun b u nb q => ext b u nb (Heap.get?_push_of_some _ q)
    refine wpAny_builtinsFor (m := X.mg) (by rw [I1.ok.glob]; exact ((I1.mod.glob.keeps I1.bk).push ob).extBut ext TB.gP) z1 z2 (keep3 _ _ z4 (I1.bk _ _ z5)) z6 z7 z8 ?_
    refine ⟨s1.heap.objs.size, fp, [s1.heap.objs.size], n, Pi, St, (fun _ => true), F, rfl, W, ?_, fun b hb => ?_, lim2.extBut ext statP, fun q => ?_, fun hx keepx => ?_, ?_⟩
    · exact (W X.A hr.hd).frame _ _ _ st0 fun b hb u q => ext b u (hfp b hb).1 q
    · exact Nat.lt_of_lt_of_le (Nat.lt_succ_of_le (hfp b hb).2) le3
    · rw [List.mem_singleton] at q
      exact Nat.ne_of_lt statLt q
    · refine ⟨fun A' E' i v t m hA hv hn hm hk => ?_, fun A' E' i v t m hA hv hp hn hm hk => ?_⟩
      · simp only [List.forIn_nil]
        exact wpAny_pure ⟨rfl, keeps_refl _⟩
      · refine hel _ _ A' E' i v t m hA hv hn hm fun b o nb q => ?_
        have b1 : b < s1.heap.objs.size := Heap.lt_size q
        refine hk b (List.mem_range.mpr (Nat.lt_of_lt_of_le (Nat.lt_succ_of_lt b1) le3)) (fun q' => ?_) o (keepx b o (keep3 b o nb q))
        rw [List.mem_singleton] at q'
        exact Nat.ne_of_lt b1 q'
    · intro a h5 tk5 gs bare agt size5 keep5 W5 at5
      have pt : passing (fun _ => true) n 0 = List.range n := passing_true n
      have W6 := W5.in4_1
      rw [pt, List.length_range] at W6
      refine fin a _ ⟨_, _, _, _, _, W6, fun j y hy => ?_, at5, fun b hb => ?_, fun t' mv => ?_⟩
      · obtain ⟨i, hi', hF⟩ := hy
        obtain ⟨hj, ej⟩ := List.getElem?_eq_some_iff.mp hi'
        rw [List.getElem_range] at ej
        subst ej
        exact hF
      · have agt' : h3.objs.size < h5.objs.size := by
          rw [size5]
          exact Nat.lt_succ_of_lt agt
        simp only [List.mem_cons, List.mem_range] at hb
        rcases hb with rfl | rfl | hb
        · rw [size5]
          exact Nat.lt_succ_self _
        · exact agt'
        · exact Nat.lt_trans hb agt'
      · obtain ⟨more, em, mk⟩ := grown
        have apart : ∀ b u, s1.heap.get? b = some u → b ∉ h3.objs.size :: [s1.heap.objs.size] := fun b u q hb => by
          have b1 : b < s1.heap.objs.size := Heap.lt_size q
          simp only [List.mem_cons, List.not_mem_nil, or_false] at hb
          rcases hb with e | e
          · exact Nat.ne_of_lt (Nat.lt_of_lt_of_le (Nat.lt_succ_of_lt b1) le3) e
          · exact Nat.ne_of_lt b1 e
        have J := inv_tab (more := more) (h' := t'.heap) (g' := t'.gens) (d' := t'.drawn) (t' := t'.toks) I1 tabH (fun b u nb q => mv.heap b u (apart b u q) (keep5 b u (keep3 b u nb q)))
          (by rw [← em]; exact mv.heap P _ (apart P _ tab1) (keep5 P _ tab3)) (AllBare.movedS (I1.bare.push bare) mv)
        rw [sh_eta s1 t' mv.os] at J
        exact ⟨upd H1 P (.tbl (ps ++ more)), ⟨⟨⟨ps ++ more, upd_same, by rw [← em]; exact trip3⟩, fun b nb => upd_ne nb⟩, fun ps' e => ⟨more, (by rw [tabH] at e; cases e; exact upd_same), mk⟩⟩, J⟩
  cases among : codeAmong gpos ps.toList with
  | none =>
    refine wpAny_genexprCodeX hcode (hd2.code tab2 trip) (hd2.tab tab2) among fun c' h' tk ext ge lt co _ tab' _ => ?_
    obtain ⟨_, _, _, _, _, _, _, _, _, _, _, _, _, _, _, _, _, _, _, tr, _⟩ := co
    exact go _ h' tk _ ext (by have ge' := ge; rw [size2] at ge'; exact Nat.le_trans ge' (Nat.le_of_lt lt)) tab'.2 ⟨_, rfl, .inr ⟨_, rfl⟩⟩ tr
  | some cv =>
    refine wpAny_genexprCode_hit hcode (hd2.code tab2 trip) among ?_
    exact go cv (s1.heap.push ob) s1.toks ps (Heap.ExtBut.refl _ _) (Nat.le_of_eq size2.symm) tab2 ⟨#[], by simp, .inl rfl⟩ trip
/-! ### what an element says, without calls of defs -/
/-- a reading of an element: the walked values, the places of the def around, its heap -/
abbrev QT := List V → L2.St → Hp → (V → Prop) → Prop
structure QE (X : Cx) (scope : Scope) (ns : List Str) (e : Expr) (rd : QT) : Prop where
  run : ∀ {pins : List (Addr × Obj)} {σ : L2.St} {H1 : Hp} {s1 : Shared}, Inv X pins σ H1 s1 → ∀ {P : Addr} {ps : Array Value}, H1 P = some (.tbl ps) →
    ∀ {C : Addr} {code : Value} {A' : Around} {E' : Value → Shared → Prop} {t : Shared} {m : Str → Option Value} {vs : List V} {us : List Value}, A'.handled = none → t.heap.Ns C m → Vals vs us →
      (∀ (j : Nat) (n : Str), ns[j]? = some n → m n = us[j]?) → (∀ b o, b ≠ P → s1.heap.get? b = some o → t.heap.get? b = some o) → ∀ Q : V → Prop, rd vs σ H1 Q →
      wpAny (model X.prog X.w) A' (eval e (genEnv scope (cloFrom X.env.cells scope.names []) C code builtinsNs X.env)) (fun y t' => (∃ v, RelV v y ∧ Q v) ∧ Keeps t t') E' t
theorem kp_trans {s t u : Shared} (a : Keeps s t) (b : Keeps t u) : Keeps s u := by
  obtain ⟨h1, k1, rfl, f1⟩ := a
  obtain ⟨h2, k2, rfl, f2⟩ := b
  exact ⟨h2, k2, rfl, fun c o e => f2 c o (f1 c o e)⟩
theorem kp_heap {s t : Shared} (a : Keeps s t) : ∀ b o, s.heap.get? b = some o → t.heap.get? b = some o := by
  obtain ⟨h1, k1, rfl, f1⟩ := a
  exact f1
variable {scope : Scope} {ns : List Str} {a b c e : Expr} {ra rb rc : QT} {pos p : Pos}
/-- two in a row: the second one in a state that keeps the first one's -/
theorem q_then (hb : QE X scope ns b rb) {s1 : Shared} {H1 : Hp} {P : Addr} {ps : Array Value} (I : Inv X pins σ H1 s1) (hP : H1 P = some (.tbl ps)) {C : Addr} {code : Value} {A' : Around} {E' : Value → Shared → Prop} {t t1 : Shared} {m : Str → Option Value} {vs : List V} {us : List Value}
    (hA : A'.handled = none) (hn : t.heap.Ns C m) (hv : Vals vs us) (hm : ∀ (j : Nat) (n : Str), ns[j]? = some n → m n = us[j]?) (hk : ∀ b o, b ≠ P → s1.heap.get? b = some o → t.heap.get? b = some o) (k1 : Keeps t t1) {Q : V → Prop} (h : rb vs σ H1 Q) {R : Value → Shared → Prop}
    (hR : ∀ (v : V) (y : Value) (t2 : Shared), RelV v y → Q v → Keeps t t2 → R y t2) : wpAny (model X.prog X.w) A' (eval b (genEnv scope (cloFrom X.env.cells scope.names []) C code builtinsNs X.env)) R E' t1 :=
  wpAny_mono (hb.run I hP hA (hn.keeps (kp_heap k1)) hv hm (fun c o nc q => kp_heap k1 c o (hk c o nc q)) Q h) (fun y t2 r => by
    obtain ⟨⟨v, r1, r2⟩, k2⟩ := r
    exact hR v y t2 r1 r2 (kp_trans k1 k2)) fun _ _ z => z
def qVar (j : Nat) : QT := fun vs _ _ Q => ∃ v, vs[j]? = some v ∧ Q v
def qOut (i : Nat) : QT := fun _ σ _ Q => ∃ v, σ[i]? = some (some v) ∧ Q v
def qC (v : V) : QT := fun _ _ _ Q => Q v
theorem q_var {j : Nat} {n : Str} (hj : ns[j]? = some n) (hs : scope.kind = .function) (hl : scope.names.lookup n = some .local) (hd : (n == ("__debug__" : Str)) = false := by decide) : QE X scope ns (.Name n pos) (qVar j) := by
  refine ⟨fun {pins σ H1 s1} I {P ps} hP {C code A' E' t m vs us} hA hn hvs hm' hk Q h => ?_⟩
  obtain ⟨v, ev, q⟩ := h
  obtain ⟨u, eu, r⟩ := hvs.get ev
  exact wpAny_Name (wpAny_loadName_local hs hl hn ((hm' j n hj).trans eu) ⟨⟨v, r, q⟩, keeps_refl _⟩) hd
theorem q_out {i : Nat} {n : Str} (hi : X.N[i]? = some n) (hv : Vis X.env.scope n) (hc : X.env.kindOf n = some .cell ∨ X.env.kindOf n = some .free) (hs : scope.kind = .function) (hl : scope.names.lookup n = some .free)
    (hcl : (cloFrom X.env.cells scope.names []).lookup n = some ((X.env.cells.lookup n).getD 0)) (hd : (n == ("__debug__" : Str)) = false := by decide) (hcd : (n == ("__classdict__" : Str)) = false := by decide) : QE X scope ns (.Name n pos) (qOut i) := by
  refine ⟨fun {pins σ H1 s1} I {P ps} hP {C code A' E' t m vs us} hA hn hvs hm' hk Q h => ?_⟩
  obtain ⟨v, ev, q⟩ := h
  obtain ⟨m0, _, loc⟩ := I.loc
  obtain ⟨u, r, look⟩ := loc i n v hi ev hv
  rcases look with ⟨k, _⟩ | ⟨_, cl, ecl, cell⟩
  · rcases hc with z | z <;> rw [k] at z <;> cases z
  · have ne : cl ≠ P := fun z => by
      have y := I.freeC n cl ecl
      rw [z, hP] at y
      cases y
    have cell' : t.heap.IsCell cl (some u) := by
      obtain ⟨o, ho, rest⟩ := cell
      exact ⟨o, hk cl o ne ho, rest⟩
    exact wpAny_Name (wpAny_loadName_free hs hl (by show (cloFrom X.env.cells scope.names []).lookup n = _; rw [hcl, ecl]; rfl) cell' ⟨⟨v, r, q⟩, keeps_refl _⟩ hcd) hd
theorem q_int {i : Int} {j : Nat} : QE X scope ns (.Constant (.int i) j pos) (qC (.int i)) := ⟨fun {pins σ H1 s1} I {P ps} hP {C code A' E' t m vs us} hA hn hvs hm' hk Q h => wpAny_Constant_int ⟨⟨.int i, ⟨_, rfl⟩, h⟩, keeps_tok _ _⟩⟩
theorem q_bl {i : Bool} {j : Nat} : QE X scope ns (.Constant (.bool i) j pos) (qC (.bl i)) := ⟨fun {pins σ H1 s1} I {P ps} hP {C code A' E' t m vs us} hA hn hvs hm' hk Q h => Constant_bool ⟨⟨.bl i, rfl, h⟩, keeps_refl _⟩⟩
theorem q_glob {n : Str} {v : V} {u : Value} (hg : scope.names.lookup n = some .globalImplicit) (hs : scope.kind = .function) (hm : X.mg n = some u) (r : RelV v u) (hd : (n == ("__debug__" : Str)) = false := by decide) : QE X scope ns (.Name n pos) (qC v) := by
  refine ⟨fun {pins σ H1 s1} I {P ps} hP {C code A' E' t m vs us} hA hn hvs hm' hk Q h => ?_⟩
  refine Calls.Name_function_global hs hg (Calls.loadGlobal_global (mg := X.mg) ?_ hm ⟨⟨v, r, h⟩, keeps_refl _⟩) hd
  show Heap.Ns _ X.env.globals X.mg
  rw [I.ok.glob]
  have gl := I.mod.glob
  refine gl.at' fun o z => hk _ o (fun y => ?_) (I.bk _ o z)
  have f := (I.bs _ o z).2
  rw [y, hP] at f
  cases f
/-- an operation of two ints that gives an int -/
def q2 (ra rb : QT) (ok : Int → Int → Prop) (f : Int → Int → Int) : QT := fun vs σ H Q => ra vs σ H fun x => rb vs σ H fun y => ∃ i j, x = .int i ∧ y = .int j ∧ ok i j ∧ Q (.int (f i j))
theorem q_bin {op : Operator} {ok : Int → Int → Prop} {f : Int → Int → Int} (hop : ∀ {A : Around} {E : Value → Shared → Prop} {s : Shared} {i j : Int} {k l : Tok} {Q : Value → Shared → Prop}, A.handled = none → ok i j → Q (.int (f i j) s.toks) { s with toks := s.toks + 1 } → wpAny (model X.prog X.w) A (binaryOp op (.int i k) (.int j l)) Q E s)
    (ha : QE X scope ns a ra) (hb : QE X scope ns b rb) : QE X scope ns (.BinOp a op b pos) (q2 ra rb ok f) := by
  refine ⟨fun {pins σ H1 s1} I {P ps} hP {C code A' E' t m vs us} hA hn hv hm hk Q h => wpAny_BinOp ?_⟩
  refine wpAny_mono (ha.run I hP hA hn hv hm hk _ h) (fun y t1 r => ?_) fun _ _ z => z
  obtain ⟨⟨v, r1, q1⟩, k1⟩ := r
  refine q_then hb I hP hA hn hv hm hk k1 q1 fun v' y' t2 r2 q2 k2 => ?_
  obtain ⟨i, j, rfl, rfl, o, q⟩ := q2
  obtain ⟨_, rfl⟩ := r1
  obtain ⟨_, rfl⟩ := r2
  exact hop hA o ⟨⟨.int _, ⟨_, rfl⟩, q⟩, kp_trans k2 (keeps_tok _ _)⟩
/-- a comparison of two ints -/
def qc (ra rb : QT) (f : Int → Int → Bool) : QT := fun vs σ H Q => ra vs σ H fun x => rb vs σ H fun y => ∃ i j, x = .int i ∧ y = .int j ∧ Q (.bl (f i j))
def CmpI (X : Cx) (op : CmpOp) (f : Int → Int → Bool) : Prop := ∀ {A : Around} {E : Value → Shared → Prop} {s : Shared} {i j : Int} {k l : Tok} {Q : Value → Shared → Prop}, A.handled = none → Q (.bool (f i j)) s → wpAny (model X.prog X.w) A (compareOp op (.int i k) (.int j l)) Q E s
theorem ci_lt : CmpI X .Lt (fun i j => decide (i < j)) := fun _ h => PySem.P.lt_int h
theorem ci_le : CmpI X .LtE (fun i j => decide (i ≤ j)) := fun _ h => PySem.P.le_int h
theorem ci_gt : CmpI X .Gt (fun i j => decide (i > j)) := fun _ h => PySem.P.gt_int h
theorem ci_ge : CmpI X .GtE (fun i j => decide (i ≥ j)) := fun _ h => PySem.P.ge_int h
theorem ci_eq : CmpI X .Eq (fun i j => i == j) := fun _ h => PySem.P.eq_int h
theorem ci_ne : CmpI X .NotEq (fun i j => i != j) := fun _ h => PySem.P.ne_int h
theorem q_cmp {op : CmpOp} {f : Int → Int → Bool} (hop : CmpI X op f) (ha : QE X scope ns a ra) (hb : QE X scope ns b rb) (hmk : behindInMarks op b = false := by with_unfolding_all rfl) : QE X scope ns (.Compare a [op] [b] pos) (qc ra rb f) := by
  refine ⟨fun {pins σ H1 s1} I {P ps} hP {C code A' E' t m vs us} hA hn hv hm hk Q h => wpAny_Compare1 ?_ hmk⟩
  refine wpAny_mono (ha.run I hP hA hn hv hm hk _ h) (fun y t1 r => ?_) fun _ _ z => z
  obtain ⟨⟨v, r1, q1⟩, k1⟩ := r
  refine q_then hb I hP hA hn hv hm hk k1 q1 fun v' y' t2 r2 q2 k2 => ?_
  obtain ⟨i, j, rfl, rfl, q⟩ := q2
  obtain ⟨_, rfl⟩ := r1
  obtain ⟨_, rfl⟩ := r2
  exact hop hA ⟨⟨.bl _, rfl, q⟩, k2⟩
/-- a op b op' c, of ints -/
def qch (ra rb rc : QT) (f g : Int → Int → Bool) : QT := fun vs σ H Q => ra vs σ H fun x => rb vs σ H fun y => ∃ i j, x = .int i ∧ y = .int j ∧ if f i j = true then rc vs σ H fun z => ∃ k, z = .int k ∧ Q (.bl (g j k)) else Q (.bl false)
theorem q_chain {op op' : CmpOp} {f g : Int → Int → Bool} (hop : CmpI X op f) (hop' : CmpI X op' g) (ha : QE X scope ns a ra) (hb : QE X scope ns b rb) (hc : QE X scope ns c rc) (hmk : lastMarks [op, op'] [b, c] = false := by with_unfolding_all rfl) :
    QE X scope ns (.Compare a [op, op'] [b, c] pos) (qch ra rb rc f g) := by
  refine ⟨fun {pins σ H1 s1} I {P ps} hP {C code A' E' t m vs us} hA hn hv hm hk Q h => Compare_chain ?_ hmk⟩
  refine wpAny_mono (ha.run I hP hA hn hv hm hk _ h) (fun y t1 r => ?_) fun _ _ z => z
  obtain ⟨⟨v, r1, q1⟩, k1⟩ := r
  refine chain_link (q_then hb I hP hA hn hv hm hk k1 q1 fun v' y' t2 r2 q2 k2 => ?_)
  obtain ⟨i, j, rfl, rfl, q⟩ := q2
  obtain ⟨_, rfl⟩ := r1
  obtain ⟨_, rfl⟩ := r2
  refine hop hA (wpAny_truthy_bool ?_)
  cases z : f i j with
  | false =>
    rw [z] at q
    exact ite_ff ⟨⟨.bl false, rfl, by rw [if_neg Bool.false_ne_true] at q; exact q⟩, k2⟩
  | true =>
    rw [z, if_pos rfl] at q
    refine ite_tt (chain_last (q_then hc I hP hA hn hv hm hk k2 q fun v'' y'' t3 r3 q3 k3 => ?_))
    obtain ⟨k, rfl, q'⟩ := q3
    obtain ⟨_, rfl⟩ := r3
    exact hop' hA ⟨⟨.bl _, rfl, q'⟩, k3⟩
/-! ### any, all, sum of a generator expression over a list or a tuple -/
def SqB (K : PySem.W.Frag) (H : Hp) (a : Addr) (xs : List V) : Prop := SqL K H a xs ∨ SqT K H a xs
theorem walk_sq {H1 : Hp} {s1 : Shared} {P a : Addr} {ps : Array Value} {xs : List V} (I : Inv X pins σ H1 s1) (hP : H1 P = some (.tbl ps)) (h : SqB X.K H1 a xs) :
    ∃ its : List Value, Vals xs its ∧ WalkV X.prog X.w s1.heap P (.ref a) xs.length (fun i v => its[i]? = some v) := by
  have tab1 : s1.heap.get? P = some { cls := .none, data := .fields ps } := I.hok P _ hP
  have ne : ∀ {o : Obj} {T : String}, s1.heap.get? a = some o → o.cls = .type T → a ≠ P := fun {o T} e c z => by
    rw [z, tab1] at e
    cases e
    cases c
  rcases h with h | h
  · obtain ⟨its, r, pl, _⟩ := I.list h
    obtain ⟨o, e, c, q⟩ := pl.isList
    have w := walk_list (prog := X.prog) (w := X.w) (P := P) (l := a) ⟨o, e, c, q⟩ (Heap.lt_size tab1) (ne e c)
    refine ⟨its, r, ?_⟩
    simp only [List.size_toArray, List.getElem?_toArray] at w
    rw [r.length]
    exact w
  · obtain ⟨its, r, tp, _⟩ := I.tuple h
    obtain ⟨o, e, c, q⟩ := tp
    have w := walk_tuple (prog := X.prog) (w := X.w) (P := P) (l := a) ⟨o, e, c, q⟩ (Heap.lt_size tab1) (ne e c)
    refine ⟨its, r, ?_⟩
    simp only [List.size_toArray, List.getElem?_toArray] at w
    rw [r.length]
    exact w
theorem elt_of {scope : Scope} {x : Str} {elt : Expr} {rd : QT} (he : QE X scope [x] elt rd) {H1 : Hp} {s1 : Shared} {P : Addr} {ps : Array Value} (I : Inv X pins σ H1 s1) (hP : H1 P = some (.tbl ps)) {xs : List V} {its : List Value} (r : Vals xs its) {g : Nat → V}
    (h : ∀ i v, xs[i]? = some v → rd [v] σ H1 fun y => y = g i) : EltR X scope x elt P s1.heap (fun i v => its[i]? = some v) (fun i y => i < xs.length ∧ RelV (g i) y) := by
  intro C code A' E' i v t m hA hi hn hm hk
  have len := r.length
  obtain ⟨li, _⟩ := List.getElem?_eq_some_iff.mp hi
  have ex : xs[i]? = some (xs[i]'(by rw [len]; exact li)) := List.getElem?_eq_getElem _
  obtain ⟨u, eu, rel⟩ := r.get ex
  rw [hi] at eu
  cases eu
  refine wpAny_mono (he.run I hP hA hn (.cons rel .nil) (fun j n e => ?_) hk _ (h i _ ex)) (fun y t' q => ?_) fun _ _ z => z
  · cases j with
    | zero => cases e; exact hm
    | succ j => cases e
  · obtain ⟨⟨v', r', rfl⟩, k⟩ := q
    exact ⟨⟨by rw [len]; exact li, r'⟩, k⟩
/-- a generator expression of the def is consumed: the source, the elements, what is said of the answer -/
def tGen (P : Addr) (gp : Pos) (K : PySem.W.Frag) (rd : QT) (res : List V → (Nat → V) → (V → Prop) → Prop) (te : TE) : TE := fun σ H Q => te σ H fun v H1 => TabG H1 P ∧ ∃ (a : Addr) (xs : List V) (g : Nat → V), v = .ref a ∧ SqB K H1 a xs ∧
  (∀ i x, xs[i]? = some x → rd [x] σ H1 fun y => y = g i) ∧ res xs g fun r => ∀ H2, Tb2 P gp H1 H2 → Q r H2
/-- the consumer f of a walked generator -/
def Eats (X : Cx) (fn : String) (res : List V → (Nat → V) → (V → Prop) → Prop) : Prop :=
  ∀ {xs : List V} {g : Nat → V} {Z : V → Prop} {ga : Addr} {fp wr : List Addr} {G : Array GenState → Array GenState → Prop} {F' : Nat → Value → Prop} {St : Nat → Shared → Prop} {t : Shared} {E : Value → Shared → Prop} {Q : Value → Shared → Prop},
    res xs g Z → WalksS X.prog X.w X.A.in1 ga fp wr G xs.length F' St → (∀ j y, F' j y → j < xs.length ∧ RelV (g j) y) → St 0 t → (∀ b ∈ fp, b < t.heap.objs.size) →
    (∀ (r : V) (y : Value) (t' : Shared), Z r → RelV r y → Moved wr G t t' → Q y t') → wpAny (model X.prog X.w) X.A (call (.builtin fn) [.ref ga]) Q E t
theorem pe_gen {fn : String} {res : List V → (Nat → V) → (V → Prop) → Prop} {n : Str} {c P : Addr} {elt iter : Expr} {x : Str} {px p pos gpos : Pos} {scope : Scope} {rd : QT} {te : TE} {k : Nat} (hf : Eats X fn res)
    (hr : Room k X.A) (hg : Gl X n) (hm : X.mg n = none) (hb : bootBuiltins n = some (.builtin fn)) (TB : TabB X.base X.mg c P) (hcode : X.env.code = .ref c) (S : GenS X.env scope x) (hi : PE X iter te) (hel : QE X scope [x] elt rd)
    (hs : ∀ v, genFold iter X.env v = pure v) (hn : n ≠ "__name__" := by decide) (hdb : (n == ("__debug__" : Str)) = false := by decide)
    (he : starEach [.GeneratorExp elt [⟨.Name x px, iter, [], 0⟩] scope gpos] X.env = (false, eval (.GeneratorExp elt [⟨.Name x px, iter, [], 0⟩] scope gpos) X.env) :: starEach [] X.env := by rfl) :
    PE X (.Call (.Name n p) [.GeneratorExp elt [⟨.Name x px, iter, [], 0⟩] scope gpos] [] pos) (tGen P gpos X.K rd res te) := by
  refine ⟨fun pins s σ H Q I h => ?_⟩
  refine wpAny_Call_Name_kw (ld_blt I hg hm hb ?_ hn hdb)
  refine PyProof.Rows.callWith_builtin1 ?_ he (by rfl)
  rw [he]
  refine Calls.spliced_cons (gen_seq hr TB hcode S hi hs I h fun v H1 all1 => ?_)
  obtain ⟨⟨ps, hP, trip⟩, a, xs, g, rfl, sq, els, rz⟩ := all1
  refine ⟨⟨ps, hP, trip⟩, fun s1 xv I1 rel => ?_⟩
  cases rel
  obtain ⟨its, vals, walk⟩ := walk_sq I1 hP sq
  refine ⟨_, _, _, walk, elt_of hel I1 hP vals els, fun ga t rdy => ?_⟩
  obtain ⟨fp, wr, G, F', St, W, hF, st, bnd, fin⟩ := rdy
  refine Calls.spliced_nil ?_
  refine hf rz W hF st bnd fun r y t' hZ ry mv => ?_
  obtain ⟨H2, tb, J⟩ := fin t' mv
  exact ⟨r, H2, J, ry, hZ H2 tb⟩
def resAny : List V → (Nat → V) → (V → Prop) → Prop := fun xs g Z => ∃ pb : Nat → Bool, (∀ i, i < xs.length → g i = .bl (pb i)) ∧ Z (.bl ((List.range xs.length).any pb))
def resAll : List V → (Nat → V) → (V → Prop) → Prop := fun xs g Z => ∃ pb : Nat → Bool, (∀ i, i < xs.length → g i = .bl (pb i)) ∧ Z (.bl ((List.range xs.length).all pb))
def resSum : List V → (Nat → V) → (V → Prop) → Prop := fun xs g Z => ∃ f : Nat → Int, (∀ i, i < xs.length → g i = .int (f i)) ∧ Z (.int (preSum f xs.length))
theorem eats_any : Eats X "any" resAny := by
  intro xs g Z ga fp wr G F' St t E Q hz W hF st bnd k
  obtain ⟨pb, hg, z⟩ := hz
  refine call_any_walkS (W.self 0 _ _ _ st ⟨ga, fp, wr, G, _, F', St, pb, rfl, W, st, fun i v s' Q' E' hi hQ => ?_, fun t' mv => k _ _ t' z rfl mv⟩)
  obtain ⟨li, r⟩ := hF i v hi
  rw [hg i li] at r
  cases r
  exact wpAny_truthy_bool hQ
theorem eats_all : Eats X "all" resAll := by
  intro xs g Z ga fp wr G F' St t E Q hz W hF st bnd k
  obtain ⟨pb, hg, z⟩ := hz
  refine call_all_walkS (W.self 0 _ _ _ st ⟨ga, fp, wr, G, _, F', St, pb, rfl, W, st, fun i v s' Q' E' hi hQ => ?_, fun t' mv => k _ _ t' z rfl mv⟩)
  obtain ⟨li, r⟩ := hF i v hi
  rw [hg i li] at r
  cases r
  exact wpAny_truthy_bool hQ
theorem eats_sum : Eats X "sum" resSum := by
  intro xs g Z ga fp wr G F' St t E Q hz W hF st bnd k
  obtain ⟨f, hg, z⟩ := hz
  refine call_sum_walkAnyS (W.self 0 _ _ _ st ⟨ga, fp, wr, G, _, F', St, f, rfl, W, st, bnd, fun i v hi => ?_, fun t' tk mv => k _ _ t' z ⟨_, rfl⟩ mv⟩)
  obtain ⟨li, r⟩ := hF i v hi
  rw [hg i li] at r
  exact r
/-! ### two names: for a, b in .. -/
structure GenP (env : Env) (scope : Scope) (xa xb : Str) : Prop where
  kind : scope.kind = .function
  co : scope.isCoroutine = false
  cell : ∀ y ∈ scope.names, y.2 ≠ .cell
  dot : scope.names.lookup (".0" : Str) = some NameKind.local
  loca : scope.names.lookup xa = some .local
  locb : scope.names.lookup xb = some .local
  ne : xa ≠ xb
  free : ∀ y ∈ scope.names, y.2 = .free → ∃ c, env.cells.lookup y.1 = some c
/-- the value xv in the heap h can be walked, its items are tuples -/
def WalkP (prog : Program) (w : World) (h : Heap) (P : Addr) (xv : Value) (n : Nat) (Pt : Nat → Array Value → Prop) : Prop :=
  ∀ (A : Around) (E : Value → Shared → Prop) (s : Shared) (Q : Value → Shared → Prop), s.heap = h →
    (∀ (ob : Obj) (fp : List Addr) (St : Nat → Heap → Prop) (Mid : Nat → Addr → Heap → Prop), (∀ A' : Around, A'.handled = none → WalksU prog w A' h.objs.size fp [h.objs.size] n Pt St Mid) → St 0 (h.push ob) → (∀ b ∈ fp, b ≠ P ∧ b ≤ h.objs.size) →
      Q (.ref h.objs.size) { s with heap := h.push ob }) → wpAny (model prog w) A (pyIter xv) Q E s
def EltP2 (X : Cx) (scope : Scope) (xa xb : Str) (elt : Expr) (P : Addr) (h : Heap) (Pt : Nat → Array Value → Prop) (F : Nat → Value → Prop) : Prop :=
  ∀ (C : Addr) (code : Value) (A' : Around) (E' : Value → Shared → Prop) (i : Nat) (va vb : Value) (t : Shared) (m : Str → Option Value), A'.handled = none → Pt i #[va, vb] → t.heap.Ns C m → m xa = some va → m xb = some vb →
    (∀ b o, b ≠ P → h.get? b = some o → t.heap.get? b = some o) → wpAny (model X.prog X.w) A' (eval elt (genEnv scope (cloFrom X.env.cells scope.names []) C code builtinsNs X.env)) (fun y t' => F i y ∧ Keeps t t') E' t
theorem gen_pair {c P : Addr} {elt iter : Expr} {xa xb : Str} {qa qb qt gpos : Pos} {kt : Nat} {scope : Scope} {te : TE} {k : Nat} {Q' : Value → Shared → Prop}
    (hr : Room k X.A) (TB : TabB X.base X.mg c P) (hcode : X.env.code = .ref c) (S : GenP X.env scope xa xb) (hi : PE X iter te) (hs : ∀ v, genFold iter X.env v = pure v) (I : Inv X pins σ H s)
    {R : VK} (h : te σ H R) (hR : ∀ v H1, R v H1 → TabG H1 P ∧ ∀ (s1 : Shared) (xv : Value), Inv X pins σ H1 s1 → RelV v xv → ∃ (n : Nat) (Pt : Nat → Array Value → Prop) (F : Nat → Value → Prop), WalkP X.prog X.w s1.heap P xv n Pt ∧ (∀ i vals, Pt i vals → ∃ va vb, vals = #[va, vb]) ∧ EltP2 X scope xa xb elt P s1.heap Pt F ∧ ∀ g t, RdyG X pins σ H1 P gpos n F g t → Q' (.ref g) t) :
    wpAny (model X.prog X.w) X.A (eval (.GeneratorExp elt [⟨.Tuple [.Name xa qa, .Name xb qb] kt qt, iter, [], 0⟩] scope gpos) X.env) Q' X.xe s := by
  refine wpAny_GeneratorExp_walksQT hr.hd S.co (closure_ok S.free) S.cell S.dot S.loca S.locb S.ne S.kind (by have d := hr.dp; omega) ?_ hs
  refine thn (hi.run pins s σ H _ I h) fun xv s1 ⟨v, H1, I1, rel, all1⟩ => ?_
  obtain ⟨⟨ps, tabH, trip⟩, rest⟩ := hR v H1 all1
  obtain ⟨n, Pt, F, walk, two, hel, fin⟩ := rest s1 xv I1 rel
  refine walk _ _ _ _ rfl fun ob fp St Mid W st0 hfp => ?_
  have tab1 : s1.heap.get? P = some { cls := .none, data := .fields ps } := I1.hok P _ tabH
  have Plt : P < s1.heap.objs.size := Heap.lt_size tab1
  have tab2 : (s1.heap.push ob).get? P = some { cls := .none, data := .fields ps } := Heap.get?_push_of_some _ tab1
  have hd2 : PySem.W.CodeHd (s1.heap.push ob) c P := TB.code.keeps fun b u q => Heap.get?_push_of_some _ (I1.bk b u q)
  have lim2 : (s1.heap.push ob).NoLimit := I1.nolimit.push ob
  have size2 : (s1.heap.push ob).objs.size = s1.heap.objs.size + 1 := Heap.size_push ..
  refine ⟨lim2, ?_⟩
  -- behind the code object: the table holds ps and more
  have go : ∀ (code : Value) (h3 : Heap) (tk : Nat) (qs : Array Value), Heap.ExtBut P (s1.heap.push ob) h3 → s1.heap.objs.size + 1 ≤ h3.objs.size → h3.get? P = some { cls := .none, data := .fields qs } → (∃ more, qs = ps ++ more ∧ (more = #[] ∨ ∃ cv, more = #[rawInt (gpos.line : Int), rawInt (gpos.col : Int), cv])) → TriplesOk qs.toList →
      wpAny (model X.prog X.w) X.A (builtinsFor X.env.globals X.env.builtins) (fun bi s4 =>
        ∃ J fp' wr n₀ Pf St₀ Mid pz F', Value.ref s1.heap.objs.size = .ref J ∧ (∀ A' : Around, A'.handled = none → WalksU X.prog X.w A' J fp' wr n₀ Pf St₀ Mid) ∧ (∀ i vals, Pf i vals → ∃ va vb, vals = #[va, vb]) ∧ St₀ 0 s4.heap ∧ (∀ b ∈ fp', b < s4.heap.objs.size) ∧ s4.heap.NoLimit ∧ cStatics ∉ wr ∧
          (∀ hx : Heap, (∀ b o, s4.heap.get? b = some o → hx.get? b = some o) →
            QuietGenT X.prog X.w (genEnv scope (cloFrom X.env.cells scope.names []) s4.heap.objs.size code bi X.env) xa xb [] elt (List.range s4.heap.objs.size) wr Pf pz F' hx) ∧
          (∀ a h5 tk5 gs, gs.bare = true → s4.heap.objs.size < a → h5.objs.size = a + 1 → (∀ b o, s4.heap.get? b = some o → h5.get? b = some o) →
            WalksS X.prog X.w X.A.in4 a (a :: s4.heap.objs.size :: List.range s4.heap.objs.size) (s4.heap.objs.size :: wr) (GenOnlyQ s4.gens.size) (passing pz n₀ 0).length
              (fun j y => ∃ i, (passing pz n₀ 0)[j]? = some i ∧ F' i y) (GenAt X.prog X.w X.A.in4 a s4.gens.size s4.heap.objs.size (List.range s4.heap.objs.size) wr pz n₀ F') →
            GenAt X.prog X.w X.A.in4 a s4.gens.size s4.heap.objs.size (List.range s4.heap.objs.size) wr pz n₀ F' 0 { s4 with gens := s4.gens.push gs, toks := tk5, heap := h5 } →
            Q' (.ref a) { s4 with gens := s4.gens.push gs, toks := tk5, heap := h5 })) X.xe { s1 with heap := h3, toks := tk } := by
    intro code h3 tk qs ext le3 tab3 grown trip3
    obtain ⟨bm, bo, z1, z2, z3, z4, z5, z6, z7, z8⟩ := TB.bm
    have statP : cStatics ≠ P := fun q => by
      obtain ⟨_, hns, _⟩ := I1.nolimit
      obtain ⟨o', es, ep, ho, hd, _⟩ := hns
      rw [q, tab1] at ho
      cases ho
      cases hd
    have statLt : cStatics < s1.heap.objs.size := by
      obtain ⟨_, hns, _⟩ := I1.nolimit
      exact hns.lt
    have keep3 : ∀ b u, b ≠ P → s1.heap.get? b = some u → h3.get? b = some u := fun b u nb q => ext b u nb (Heap.get?_push_of_some _ q)
    refine wpAny_builtinsFor (m := X.mg) (by rw [I1.ok.glob]; exact ((I1.mod.glob.keeps I1.bk).push ob).extBut ext TB.gP) z1 z2 (keep3 _ _ z4 (I1.bk _ _ z5)) z6 z7 z8 ?_
    refine ⟨s1.heap.objs.size, fp, [s1.heap.objs.size], n, Pt, St, Mid, (fun _ => true), F, rfl, W, two, ?_, fun b hb => ?_, lim2.extBut ext statP, fun q => ?_, fun hx keepx => ?_, ?_⟩
    · exact (W X.A hr.hd).frame _ _ _ st0 fun b hb u q => ext b u (hfp b hb).1 q
    · exact Nat.lt_of_lt_of_le (Nat.lt_succ_of_le (hfp b hb).2) le3
    · rw [List.mem_singleton] at q
      exact Nat.ne_of_lt statLt q
    · refine ⟨fun A' E' i va vb t m hA hv hn hma hmb hk => ?_, fun A' E' i va vb t m hA hv hp hn hma hmb hk => ?_⟩
      · simp only [List.forIn_nil]
        exact wpAny_pure ⟨rfl, keeps_refl _⟩
      · refine hel _ _ A' E' i va vb t m hA hv hn hma hmb fun b o nb q => ?_
        have b1 : b < s1.heap.objs.size := Heap.lt_size q
        refine hk b (List.mem_range.mpr (Nat.lt_of_lt_of_le (Nat.lt_succ_of_lt b1) le3)) (fun q' => ?_) o (keepx b o (keep3 b o nb q))
        rw [List.mem_singleton] at q'
        exact Nat.ne_of_lt b1 q'
    · intro a h5 tk5 gs bare agt size5 keep5 W5 at5
      have pt : passing (fun _ => true) n 0 = List.range n := passing_true n
      have W6 := W5.in4_1
      rw [pt, List.length_range] at W6
      refine fin a _ ⟨_, _, _, _, _, W6, fun j y hy => ?_, at5, fun b hb => ?_, fun t' mv => ?_⟩
      · obtain ⟨i, hi', hF⟩ := hy
        obtain ⟨hj, ej⟩ := List.getElem?_eq_some_iff.mp hi'
        rw [List.getElem_range] at ej
        subst ej
        exact hF
      · have agt' : h3.objs.size < h5.objs.size := by
          rw [size5]
          exact Nat.lt_succ_of_lt agt
        simp only [List.mem_cons, List.mem_range] at hb
        rcases hb with rfl | rfl | hb
        · rw [size5]
          exact Nat.lt_succ_self _
        · exact agt'
        · exact Nat.lt_trans hb agt'
      · obtain ⟨more, em, mk⟩ := grown
        have apart : ∀ b u, s1.heap.get? b = some u → b ∉ h3.objs.size :: [s1.heap.objs.size] := fun b u q hb => by
          have b1 : b < s1.heap.objs.size := Heap.lt_size q
          simp only [List.mem_cons, List.not_mem_nil, or_false] at hb
          rcases hb with e | e
          · exact Nat.ne_of_lt (Nat.lt_of_lt_of_le (Nat.lt_succ_of_lt b1) le3) e
          · exact Nat.ne_of_lt b1 e
        have J := inv_tab (more := more) (h' := t'.heap) (g' := t'.gens) (d' := t'.drawn) (t' := t'.toks) I1 tabH (fun b u nb q => mv.heap b u (apart b u q) (keep5 b u (keep3 b u nb q)))
          (by rw [← em]; exact mv.heap P _ (apart P _ tab1) (keep5 P _ tab3)) (AllBare.movedS (I1.bare.push bare) mv)
        rw [sh_eta s1 t' mv.os] at J
        exact ⟨upd H1 P (.tbl (ps ++ more)), ⟨⟨⟨ps ++ more, upd_same, by rw [← em]; exact trip3⟩, fun b nb => upd_ne nb⟩, fun ps' e => ⟨more, (by rw [tabH] at e; cases e; exact upd_same), mk⟩⟩, J⟩
  cases among : codeAmong gpos ps.toList with
  | none =>
    refine wpAny_genexprCodeX hcode (hd2.code tab2 trip) (hd2.tab tab2) among fun c' h' tk ext ge lt co _ tab' _ => ?_
    obtain ⟨_, _, _, _, _, _, _, _, _, _, _, _, _, _, _, _, _, _, _, tr, _⟩ := co
    exact go _ h' tk _ ext (by have ge' := ge; rw [size2] at ge'; exact Nat.le_trans ge' (Nat.le_of_lt lt)) tab'.2 ⟨_, rfl, .inr ⟨_, rfl⟩⟩ tr
  | some cv =>
    refine wpAny_genexprCode_hit hcode (hd2.code tab2 trip) among ?_
    exact go cv (s1.heap.push ob) s1.toks ps (Heap.ExtBut.refl _ _) (Nat.le_of_eq size2.symm) tab2 ⟨#[], by simp, .inl rfl⟩ trip
theorem go_titer {elts : List Expr} {kt : Nat} {pos : Pos} {prog : Program} {w : World} {A : Around} {E : Value → Shared → Prop} {s : Shared} {I l T : Addr} {i : Nat} {Q : Unit → Shared → Prop} (hit : s.heap.IsTupleIter I l i) (hQ : Q () s) :
    wpAny (model prog w) A (letOwnedTupleGo (.Tuple elts kt pos) (.ref I) (.ref T)) Q E s := by
  obtain ⟨o, ho, hc, hd⟩ := hit
  unfold letOwnedTupleGo
  refine wpAny_bind (wpAny_load ho ?_)
  rw [hc, hd]
  have no : (["enumerate", "zip", "dict_itemiterator", "dict_reverseitemiterator", "odict_iterator", "itertools.zip_longest", "itertools.pairwise"].contains "tuple_iterator") = false := by decide
  show wpAny _ A (if ((["enumerate", "zip", "dict_itemiterator", "dict_reverseitemiterator", "odict_iterator", "itertools.zip_longest", "itertools.pairwise"].contains "tuple_iterator") && _) = true then _ else _) Q E s
  rw [no, Bool.false_and, if_neg Bool.false_ne_true]
  exact wpAny_pure hQ
/-- a tuple of tuples -/
theorem walkU_tuple {prog : Program} {w : World} {A : Around} (hh : A.handled = none) (I ax : Addr) (hne : ax ≠ I) (items : Array Value) (Ts : Nat → Addr) (vals : Nat → Array Value) (hit : ∀ j, j < items.size → items[j]? = some (.ref (Ts j))) (hTI : ∀ j, j < items.size → Ts j ≠ I) :
    WalksU prog w A I (I :: ax :: (List.range items.size).map Ts) [I] items.size (fun j v => v = vals j) (fun j h => h.IsTupleIter I ax j ∧ h.IsTuple ax items ∧ ∀ k, k < items.size → h.IsTuple (Ts k) (vals k))
      (fun j T h => (j < items.size ∧ T = Ts j) ∧ h.IsTupleIter I ax (j + 1) ∧ h.IsTuple ax items ∧ ∀ k, k < items.size → h.IsTuple (Ts k) (vals k)) where
  sub := fun b hb => by
    rw [List.mem_singleton] at hb
    rw [hb]
    exact List.mem_cons_self
  frame := fun i h h' st hk => by
    obtain ⟨a, b, c⟩ := st
    exact ⟨a.at fun o e => hk I List.mem_cons_self o e, b.at fun o e => hk ax (List.mem_cons_of_mem _ List.mem_cons_self) o e,
      fun k hk' => (c k hk').at fun o e => hk (Ts k) (List.mem_cons_of_mem _ (List.mem_cons_of_mem _ (List.mem_map_of_mem (List.mem_range.mpr hk')))) o e⟩
  item := fun i s Q E hi st hQ => by
    obtain ⟨a, b, c⟩ := st
    refine wpAny_pyNext_tuple_item a b (x := .ref (Ts i)) (hit i hi) fun h' a' same => ?_
    have c' : ∀ k, k < items.size → h'.IsTuple (Ts k) (vals k) := fun k hk' => (c k hk').extBut same.extBut (hTI k hk')
    exact hQ (Ts i) (vals i) h' s.toks rfl (c' i hi) ⟨⟨hi, rfl⟩, a', b.extBut same.extBut hne, c'⟩ fun d o nd e => same.extBut d o (fun z => nd (List.mem_singleton.mpr z)) e
  go := fun _ _ _ i T s Q E hm hQ => go_titer hm.2.1 (hQ s.heap hm.2 fun _ _ _ e => e)
  apart := fun j T h hm hmem => by
    rw [List.mem_singleton] at hmem
    exact hTI j hm.1.1 (hm.1.2 ▸ hmem)
  done := fun s Q E st hQ => by
    obtain ⟨a, b, _⟩ := st
    exact wpAny_pyNext_tuple_end hh a b (by simp) fun h' he => hQ h' s.toks fun d o nd e => he d o (fun z => nd (List.mem_singleton.mpr z)) e
  self := fun _ _ _ _ st hQ => wpAny_pyIter_tupleiter st.1 hQ
theorem walkU_n {prog : Program} {w : World} {A : Around} {I : Addr} {fp wr : List Addr} {n m : Nat} {vals : Nat → Array Value} {St : Nat → Heap → Prop} {Mid : Nat → Addr → Heap → Prop} (W : WalksU prog w A I fp wr n (fun j v => v = vals j) St Mid) (e : n = m) :
    WalksU prog w A I fp wr m (fun j v => j < m ∧ v = vals j) St Mid := by
  subst e
  exact {
    sub := W.sub
    frame := W.frame
    item := fun i s Q E hi st hQ => W.item i s Q E hi st fun T v h' tk hv => hQ T v h' tk ⟨hi, hv⟩
    go := W.go
    apart := W.apart
    done := W.done
    self := W.self }
/-- pairs at the items of xs -/
def PrB (K : PySem.W.Frag) (H : Hp) (xs : List V) (pr : Nat → V × V) : Prop := ∀ i x, xs[i]? = some x → ∃ t, x = .ref t ∧ SqT K H t [(pr i).1, (pr i).2]
theorem walk_pr {H1 : Hp} {s1 : Shared} {P a : Addr} {ps : Array Value} {xs : List V} {pr : Nat → V × V} (I : Inv X pins σ H1 s1) (hP : H1 P = some (.tbl ps)) (h : SqB X.K H1 a xs) (hpr : PrB X.K H1 xs pr) :
    ∃ vals : Nat → Array Value, (∀ i, i < xs.length → ∃ va vb, vals i = #[va, vb] ∧ RelV (pr i).1 va ∧ RelV (pr i).2 vb) ∧ WalkP X.prog X.w s1.heap P (.ref a) xs.length (fun i v => i < xs.length ∧ v = vals i) := by
  have tab1 : s1.heap.get? P = some { cls := .none, data := .fields ps } := I.hok P _ hP
  have Plt : P < s1.heap.objs.size := Heap.lt_size tab1
  have ne : ∀ {b : Addr} {o : Obj} {T : String}, s1.heap.get? b = some o → o.cls = .type T → b ≠ P := fun {b o T} e c z => by
    rw [z, tab1] at e
    cases e
    cases c
  have each : ∀ i, ∃ q : Addr × Array Value, i < xs.length → xs[i]? = some (.ref q.1) ∧ s1.heap.IsTuple q.1 q.2 ∧ ∃ va vb, q.2 = #[va, vb] ∧ RelV (pr i).1 va ∧ RelV (pr i).2 vb := fun i => by
    by_cases hi : i < xs.length
    · obtain ⟨t, e, sq⟩ := hpr i _ (List.getElem?_eq_getElem hi)
      obtain ⟨its, r, tp, _⟩ := I.tuple sq
      refine ⟨(t, its.toArray), fun _ => ⟨by rw [List.getElem?_eq_getElem hi, e], tp, ?_⟩⟩
      cases r with
      | cons r1 r => cases r with
        | cons r2 r =>
          cases r
          exact ⟨_, _, rfl, r1, r2⟩
    · exact ⟨(0, #[]), fun z => absurd z hi⟩
  obtain ⟨f, hf⟩ := Classical.skolem.mp each
  refine ⟨fun i => (f i).2, fun i hi => (hf i hi).2.2, ?_⟩
  have fin : ∀ (its : List Value), Vals xs its → (∀ j, j < its.toArray.size → its.toArray[j]? = some (.ref (f j).1)) ∧ its.toArray.size = xs.length := fun its r => by
    have len := r.length
    refine ⟨fun j hj => ?_, by simp [len]⟩
    have hj' : j < xs.length := by rw [len]; simpa using hj
    obtain ⟨u, eu, ru⟩ := r.get (hf j hj').1
    cases ru
    rw [List.getElem?_toArray]
    exact eu
  have lt : ∀ j, j < xs.length → (f j).1 < s1.heap.objs.size := fun j hj => by
    obtain ⟨o, e, _⟩ := (hf j hj).2.1
    exact Heap.lt_size e
  have nP : ∀ j, j < xs.length → (f j).1 ≠ P := fun j hj => by
    obtain ⟨o, e, c, _⟩ := (hf j hj).2.1
    exact ne e c
  have foot : ∀ {a : Addr}, a < s1.heap.objs.size → a ≠ P → ∀ {n : Nat}, n = xs.length → ∀ b ∈ s1.heap.objs.size :: a :: (List.range n).map (fun j => (f j).1), b ≠ P ∧ b ≤ s1.heap.objs.size := fun {a} la na {n} en b hb => by
    subst en
    rcases List.mem_cons.mp hb with rfl | hb
    · exact ⟨(Nat.ne_of_lt Plt).symm, Nat.le_refl _⟩
    · rcases List.mem_cons.mp hb with rfl | hb
      · exact ⟨na, Nat.le_of_lt la⟩
      · obtain ⟨j, hj, rfl⟩ := List.mem_map.mp hb
        have hj' := List.mem_range.mp hj
        exact ⟨nP j hj', Nat.le_of_lt (lt j hj')⟩
  rcases h with h | h
  · obtain ⟨its, r, pl, _⟩ := I.list h
    obtain ⟨o, e, c, q⟩ := pl.isList
    obtain ⟨at_, sz⟩ := fin its r
    intro A E s Q es k
    obtain ⟨hp, gs, dr, tk, os⟩ := s
    replace es : hp = s1.heap := es
    subst es
    have la : a < s1.heap.objs.size := Heap.lt_size e
    refine wpAny_pyIter_list ⟨o, e, c, q⟩ (k _ _ _ _ (fun A' hA => walkU_n (WalksU.listOfTuples (prog := X.prog) (w := X.w) hA s1.heap.objs.size a (Nat.ne_of_lt la) its.toArray (fun j => (f j).1) (fun j => (f j).2) at_ (fun j hj => Nat.ne_of_lt (lt j (by rw [← sz]; exact hj)))) sz) ?_ (foot la (ne e c) sz))
    · exact ⟨⟨_, Heap.get?_push_size _ rfl, rfl, rfl⟩, Heap.IsList.push ⟨o, e, c, q⟩ _, fun j hj => (hf j (by rw [← sz]; exact hj)).2.1.push _⟩
  · obtain ⟨its, r, tp, _⟩ := I.tuple h
    obtain ⟨o, e, c, q⟩ := tp
    obtain ⟨at_, sz⟩ := fin its r
    intro A E s Q es k
    obtain ⟨hp, gs, dr, tk, os⟩ := s
    replace es : hp = s1.heap := es
    subst es
    have la : a < s1.heap.objs.size := Heap.lt_size e
    refine wpAny_pyIter_tuple ⟨o, e, c, q⟩ (k _ _ _ _ (fun A' hA => walkU_n (walkU_tuple (prog := X.prog) (w := X.w) hA s1.heap.objs.size a (Nat.ne_of_lt la) its.toArray (fun j => (f j).1) (fun j => (f j).2) at_ (fun j hj => Nat.ne_of_lt (lt j (by rw [← sz]; exact hj)))) sz) ?_ (foot la (ne e c) sz))
    · exact ⟨⟨_, Heap.get?_push_size _ rfl, rfl, rfl⟩, Heap.IsTuple.push ⟨o, e, c, q⟩ _, fun j hj => (hf j (by rw [← sz]; exact hj)).2.1.push _⟩
theorem elt_ofP {scope : Scope} {xa xb : Str} {elt : Expr} {rd : QT} (he : QE X scope [xa, xb] elt rd) {H1 : Hp} {s1 : Shared} {P : Addr} {ps : Array Value} (I : Inv X pins σ H1 s1) (hP : H1 P = some (.tbl ps)) {n : Nat} {pr : Nat → V × V} {vals : Nat → Array Value}
    (hv : ∀ i, i < n → ∃ va vb, vals i = #[va, vb] ∧ RelV (pr i).1 va ∧ RelV (pr i).2 vb) {g : Nat → V} (h : ∀ i, i < n → rd [(pr i).1, (pr i).2] σ H1 fun y => y = g i) :
    EltP2 X scope xa xb elt P s1.heap (fun i v => i < n ∧ v = vals i) (fun i y => i < n ∧ RelV (g i) y) := by
  intro C code A' E' i va vb t m hA hi hn hma hmb hk
  obtain ⟨li, ei⟩ := hi
  obtain ⟨ua, ub, e, r1, r2⟩ := hv i li
  rw [e] at ei
  simp only [Array.mk.injEq, List.cons.injEq, and_true] at ei
  obtain ⟨rfl, rfl⟩ := ei
  refine wpAny_mono (he.run I hP hA hn (.cons r1 (.cons r2 .nil)) (fun j n' q => ?_) hk _ (h i li)) (fun y t' q => ?_) fun _ _ z => z
  · cases j with
    | zero => cases q; exact hma
    | succ j => cases j with
      | zero => cases q; exact hmb
      | succ j => cases q
  · obtain ⟨⟨v', r', rfl⟩, kk⟩ := q
    exact ⟨⟨li, r'⟩, kk⟩
/-- as tGen, over pairs -/
def tGenP (P : Addr) (gp : Pos) (K : PySem.W.Frag) (rd : QT) (res : List V → (Nat → V) → (V → Prop) → Prop) (te : TE) : TE := fun σ H Q => te σ H fun v H1 => TabG H1 P ∧ ∃ (a : Addr) (xs : List V) (pr : Nat → V × V) (g : Nat → V), v = .ref a ∧ SqB K H1 a xs ∧ PrB K H1 xs pr ∧
  (∀ i, i < xs.length → rd [(pr i).1, (pr i).2] σ H1 fun y => y = g i) ∧ res xs g fun r => ∀ H2, Tb2 P gp H1 H2 → Q r H2
theorem pe_genP {fn : String} {res : List V → (Nat → V) → (V → Prop) → Prop} {n : Str} {c P : Addr} {elt iter : Expr} {xa xb : Str} {qa qb qt p pos gpos : Pos} {kt : Nat} {scope : Scope} {rd : QT} {te : TE} {k : Nat} (hf : Eats X fn res)
    (hr : Room k X.A) (hg : Gl X n) (hm : X.mg n = none) (hb : bootBuiltins n = some (.builtin fn)) (TB : TabB X.base X.mg c P) (hcode : X.env.code = .ref c) (S : GenP X.env scope xa xb) (hi : PE X iter te) (hel : QE X scope [xa, xb] elt rd)
    (hs : ∀ v, genFold iter X.env v = pure v) (hn : n ≠ "__name__" := by decide) (hdb : (n == ("__debug__" : Str)) = false := by decide)
    (he : starEach [.GeneratorExp elt [⟨.Tuple [.Name xa qa, .Name xb qb] kt qt, iter, [], 0⟩] scope gpos] X.env = (false, eval (.GeneratorExp elt [⟨.Tuple [.Name xa qa, .Name xb qb] kt qt, iter, [], 0⟩] scope gpos) X.env) :: starEach [] X.env := by rfl) :
    PE X (.Call (.Name n p) [.GeneratorExp elt [⟨.Tuple [.Name xa qa, .Name xb qb] kt qt, iter, [], 0⟩] scope gpos] [] pos) (tGenP P gpos X.K rd res te) := by
  refine ⟨fun pins s σ H Q I h => ?_⟩
  refine wpAny_Call_Name_kw (ld_blt I hg hm hb ?_ hn hdb)
  refine PyProof.Rows.callWith_builtin1 ?_ he (by rfl)
  rw [he]
  refine Calls.spliced_cons (gen_pair hr TB hcode S hi hs I h fun v H1 all1 => ?_)
  obtain ⟨⟨ps, hP, trip⟩, a, xs, pr, g, rfl, sq, hpr, els, rz⟩ := all1
  refine ⟨⟨ps, hP, trip⟩, fun s1 xv I1 rel => ?_⟩
  cases rel
  obtain ⟨vals, hv, walk⟩ := walk_pr I1 hP sq hpr
  refine ⟨_, _, _, walk, fun i v q => ?_, elt_ofP hel I1 hP hv els, fun ga t rdy => ?_⟩
  · obtain ⟨li, rfl⟩ := q
    obtain ⟨va, vb, e, _⟩ := hv i li
    exact ⟨va, vb, e⟩
  obtain ⟨fp, wr, G, F', St, W, hF, st, bnd, fin⟩ := rdy
  refine Calls.spliced_nil ?_
  refine hf rz W hF st bnd fun r y t' hZ ry mv => ?_
  obtain ⟨H2, tb, J⟩ := fin t' mv
  exact ⟨r, H2, J, ry, hZ H2 tb⟩
/-! ### more elements: items, and, or, not, shifts and bits -/
/-- an item of a list or a tuple, from its front -/
def qIx (K : PySem.W.Frag) (ra rb : QT) : QT := fun vs σ H Q => ra vs σ H fun x => rb vs σ H fun y => ∃ (q : Addr) (xs : List V) (j : Nat) (v : V), x = .ref q ∧ y = .int j ∧ SqB K H q xs ∧ xs[j]? = some v ∧ Q v
theorem q_ix {scope : Scope} {ns : List Str} {a b : Expr} {ra rb : QT} {pos : Pos} (ha : QE X scope ns a ra) (hb : QE X scope ns b rb) (hx : PlainIx b) : QE X scope ns (.Subscript a b pos) (qIx X.K ra rb) := by
  refine ⟨fun {pins σ H1 s1} I {P ps} hP {C code A' E' t m vs us} hA hn hv hm hk Q h => Subscript_ ?_⟩
  have tab1 : s1.heap.get? P = some { cls := .none, data := .fields ps } := I.hok P _ hP
  have ne : ∀ {b : Addr} {o : Obj} {T : String}, s1.heap.get? b = some o → o.cls = .type T → b ≠ P := fun {b o T} e c z => by
    rw [z, tab1] at e
    cases e
    cases c
  refine wpAny_mono (ha.run I hP hA hn hv hm hk _ h) (fun y t1 r => ?_) fun _ _ z => z
  obtain ⟨⟨v, r1, q1⟩, k1⟩ := r
  refine q_then hb I hP hA hn hv hm hk k1 q1 fun v' y' t2 r2 q2 k2 => ?_
  obtain ⟨q, xs, j, u, rfl, rfl, sq, at_, fin⟩ := q2
  cases r1
  obtain ⟨tk, rfl⟩ := r2
  have jl : j < xs.length := by
    rcases Nat.lt_or_ge j xs.length with z | z
    · exact z
    · rw [List.getElem?_eq_none z] at at_
      cases at_
  have big := line63
  rcases sq with sq | sq
  · obtain ⟨its, r, pl, hz⟩ := I.list sq
    obtain ⟨w, ew, rw'⟩ := r.get at_
    obtain ⟨o, e, c, d⟩ := pl.isList
    have pl2 : t2.heap.IsList q its.toArray := ⟨o, kp_heap k2 _ _ (hk _ _ (ne e c) e), c, d⟩
    exact item_listR pl2 (Int.natCast_nonneg j) (by omega) (by simpa using ew) ⟨⟨u, rw', fin⟩, k2⟩ (hx _ _)
  · obtain ⟨its, r, tp, hz⟩ := I.tuple sq
    obtain ⟨w, ew, rw'⟩ := r.get at_
    obtain ⟨o, e, c, d⟩ := tp
    have tp2 : IsTup t2.heap q its.toArray := ⟨o, kp_heap k2 _ _ (hk _ _ (ne e c) e), c, d⟩
    have len := r.length
    exact subscriptTail_builtinR (x := w) tp2.typeIs slot_tuple_getitem.lookup
      (getItem_tuple (j := j) (Q := fun r s' => r = w ∧ ((∃ v, RelV v r ∧ Q v) ∧ Keeps t s')) tp2 (by omega) (by omega) (by rw [List.size_toArray, ← len]; exact seqIndex_of (Int.natCast_nonneg j) (by omega)) (by simpa using ew) ⟨rfl, ⟨u, rw', fin⟩, k2⟩) (hx _ _)
def qAnd (ra rb : QT) : QT := fun vs σ H Q => ra vs σ H fun x => ∃ k, x = .bl k ∧ if k = true then rb vs σ H Q else Q (.bl false)
def qOr (ra rb : QT) : QT := fun vs σ H Q => ra vs σ H fun x => ∃ k, x = .bl k ∧ if k = true then Q (.bl true) else rb vs σ H Q
theorem q_one {op} {scope : Scope} {ns : List Str} {a : Expr} {ra : QT} {pos : Pos} (ha : QE X scope ns a ra) : QE X scope ns (.BoolOp op [a] pos) ra :=
  ⟨fun {pins σ H1 s1} I {P ps} hP {C code A' E' t m vs us} hA hn hv hm hk Q h => BoolOp_one (ha.run I hP hA hn hv hm hk Q h)⟩
theorem q_and {scope : Scope} {ns : List Str} {a b : Expr} {rest : List Expr} {ra rb : QT} {pos : Pos} (ha : QE X scope ns a ra) (hb : QE X scope ns (.BoolOp .And (b :: rest) pos) rb) : QE X scope ns (.BoolOp .And (a :: b :: rest) pos) (qAnd ra rb) := by
  refine ⟨fun {pins σ H1 s1} I {P ps} hP {C code A' E' t m vs us} hA hn hv hm hk Q h => BoolOp_and ?_⟩
  refine wpAny_mono (ha.run I hP hA hn hv hm hk _ h) (fun y t1 r => ?_) fun _ _ z => z
  obtain ⟨⟨v, r1, k, rfl, q1⟩, k1⟩ := r
  cases r1
  refine wpAny_truthy_bool ?_
  cases k with
  | false =>
    rw [if_neg Bool.false_ne_true] at q1
    exact ite_ff ⟨⟨.bl false, rfl, q1⟩, k1⟩
  | true =>
    rw [if_pos rfl] at q1
    exact ite_tt (q_then hb I hP hA hn hv hm hk k1 q1 fun v' y' t2 r2 q2 k2 => ⟨⟨v', r2, q2⟩, k2⟩)
theorem q_or {scope : Scope} {ns : List Str} {a b : Expr} {rest : List Expr} {ra rb : QT} {pos : Pos} (ha : QE X scope ns a ra) (hb : QE X scope ns (.BoolOp .Or (b :: rest) pos) rb) : QE X scope ns (.BoolOp .Or (a :: b :: rest) pos) (qOr ra rb) := by
  refine ⟨fun {pins σ H1 s1} I {P ps} hP {C code A' E' t m vs us} hA hn hv hm hk Q h => BoolOp_or ?_⟩
  refine wpAny_mono (ha.run I hP hA hn hv hm hk _ h) (fun y t1 r => ?_) fun _ _ z => z
  obtain ⟨⟨v, r1, k, rfl, q1⟩, k1⟩ := r
  cases r1
  refine wpAny_truthy_bool ?_
  cases k with
  | false =>
    rw [if_neg Bool.false_ne_true] at q1
    exact ite_ff (q_then hb I hP hA hn hv hm hk k1 q1 fun v' y' t2 r2 q2 k2 => ⟨⟨v', r2, q2⟩, k2⟩)
  | true =>
    rw [if_pos rfl] at q1
    exact ite_tt ⟨⟨.bl true, rfl, q1⟩, k1⟩
/-- operations of two ints -/
def BinI (X : Cx) (op : Operator) (ok : Int → Int → Prop) (f : Int → Int → Int) : Prop := ∀ {A : Around} {E : Value → Shared → Prop} {s : Shared} {i j : Int} {k l : Tok} {Q : Value → Shared → Prop}, A.handled = none → ok i j → Q (.int (f i j) s.toks) { s with toks := s.toks + 1 } → wpAny (model X.prog X.w) A (binaryOp op (.int i k) (.int j l)) Q E s
def okAll : Int → Int → Prop := fun _ _ => True
def okShl : Int → Int → Prop := fun i j => 0 ≤ j ∧ j ≤ 1000000 ∧ i.natAbs < 2 ^ 64
theorem bi_add : BinI X .Add okAll (· + ·) := fun _ _ h => PySem.P.add_int h
theorem bi_and : BinI X .BitAnd okAll Builtin.bitAnd := fun _ _ h => and_int h
theorem bi_or : BinI X .BitOr okAll Builtin.bitOr := fun _ _ h => or_int h
theorem bi_shl : BinI X .LShift okShl (fun i j => i * 2 ^ j.toNat) := fun _ o h => lshift_int_small o.1 o.2.1 o.2.2 h
theorem q_bi {op : Operator} {ok : Int → Int → Prop} {f : Int → Int → Int} {scope : Scope} {ns : List Str} {a b : Expr} {ra rb : QT} {pos : Pos} (hop : BinI X op ok f) (ha : QE X scope ns a ra) (hb : QE X scope ns b rb) : QE X scope ns (.BinOp a op b pos) (q2 ra rb ok f) := q_bin hop ha hb
/-! ### range(n) as the source -/
theorem WalkV.lt {prog : Program} {w : World} {h : Heap} {P : Addr} {xv : Value} {n : Nat} {Pi : Nat → Value → Prop} (W : WalkV prog w h P xv n Pi) : WalkV prog w h P xv n (fun i v => i < n ∧ Pi i v) := by
  intro A E s Q e k
  refine W A E s Q e fun ob fp St Ws st hfp => k ob fp St (fun A' hA => ?_) st hfp
  have Z := Ws A' hA
  exact {
    sub := Z.sub
    frame := Z.frame
    item := fun i s Q E hi st hQ => Z.item i s Q E hi st fun v h' tk hv => hQ v h' tk ⟨hi, hv⟩
    done := Z.done
    self := Z.self }
theorem cr_range1 : CallR X (.type "range") (fun vs H Q => ∃ n, vs = [V.int n] ∧ ∀ p, H p = none → Q (.ref p) (upd H p (.rng 0 n))) := by
  intro pins s σ H vs us Q I r h
  obtain ⟨n, rfl, q⟩ := h
  cases r with
  | cons r1 r =>
    cases r
    obtain ⟨t, rfl⟩ := r1
    have new := q s.heap.objs.size (I.hok.fresh (Nat.le_refl _))
    refine call_range_1 ⟨.ref s.heap.objs.size, _, I.laid (t' := s.toks + 1 + 1) (fun b o e => Heap.get?_push_of_some _ e) (Nat.le_refl _) ?_, rfl, new⟩
    exact ⟨s.toks, t, s.toks + 1, Heap.get?_push_size _ rfl⟩
theorem walk_rng {H1 : Hp} {s1 : Shared} {P r : Addr} {ps : Array Value} {n : Nat} (I : Inv X pins σ H1 s1) (hP : H1 P = some (.tbl ps)) (hr : H1 r = some (.rng 0 n)) (hn : n < 2 ^ 62) :
    WalkV X.prog X.w s1.heap P (.ref r) n (fun i v => ∃ t, v = .int i t) := by
  have tab1 : s1.heap.get? P = some { cls := .none, data := .fields ps } := I.hok P _ hP
  have Plt : P < s1.heap.objs.size := Heap.lt_size tab1
  obtain ⟨t, u, v, e⟩ := I.hok r _ hr
  intro A E s Q es k
  obtain ⟨hp, gs, dr, tk, os⟩ := s
  replace es : hp = s1.heap := es
  subst es
  have size : Builtin.Range.rangeSize 0 (n : Int) 1 = (n : Int) := by
    rw [rangeSize_one]
    split <;> omega
  refine wpAny_pyIter_range e (small_one (by decide) (by decide) (by omega) (by omega)) (k _ [s1.heap.objs.size] (fun i h' => IsRangeIter h' s1.heap.objs.size (0 + (i : Nat) * 1) ((n : Int) - (i : Nat)) 1) (fun A' hA => ?_) ?_ fun b hb => ?_)
  · have W := Walks.range (prog := X.prog) (w := X.w) hA s1.heap.objs.size 0 1 n
    exact {
      sub := W.sub
      frame := W.frame
      item := fun i s Q E hi st hQ => W.item i s Q E hi st fun v h' tk hv => hQ v h' tk (by
        obtain ⟨t', ev⟩ := hv
        exact ⟨t', by rw [ev]; congr 1; omega⟩)
      done := W.done
      self := W.self }
  · show IsRangeIter _ _ _ _ _
    rw [size]
    simp only [Int.natCast_zero, Int.zero_mul, Int.add_zero, Int.sub_zero]
    exact Heap.get?_push_size _ rfl
  · rw [List.mem_singleton] at hb
    subst hb
    exact ⟨(Nat.ne_of_lt Plt).symm, Nat.le_refl _⟩
/-- as tGen, over range(n) -/
def tGenR (P : Addr) (gp : Pos) (rd : QT) (res : List V → (Nat → V) → (V → Prop) → Prop) (te : TE) : TE := fun σ H Q => te σ H fun v H1 => TabG H1 P ∧ ∃ (r : Addr) (n : Nat) (g : Nat → V), v = .ref r ∧ H1 r = some (.rng 0 n) ∧ n < 2 ^ 62 ∧
  (∀ i, i < n → rd [.int i] σ H1 fun y => y = g i) ∧ res ((List.range n).map fun i : Nat => V.int (i : Int)) g fun r => ∀ H2, Tb2 P gp H1 H2 → Q r H2
theorem pe_genR {fn : String} {res : List V → (Nat → V) → (V → Prop) → Prop} {n : Str} {c P : Addr} {elt iter : Expr} {x : Str} {px p pos gpos : Pos} {scope : Scope} {rd : QT} {te : TE} {k : Nat} (hf : Eats X fn res)
    (hr : Room k X.A) (hg : Gl X n) (hm : X.mg n = none) (hb : bootBuiltins n = some (.builtin fn)) (TB : TabB X.base X.mg c P) (hcode : X.env.code = .ref c) (S : GenS X.env scope x) (hi : PE X iter te) (hel : QE X scope [x] elt rd)
    (hs : ∀ v, genFold iter X.env v = pure v) (hn : n ≠ "__name__" := by decide) (hdb : (n == ("__debug__" : Str)) = false := by decide)
    (he : starEach [.GeneratorExp elt [⟨.Name x px, iter, [], 0⟩] scope gpos] X.env = (false, eval (.GeneratorExp elt [⟨.Name x px, iter, [], 0⟩] scope gpos) X.env) :: starEach [] X.env := by rfl) :
    PE X (.Call (.Name n p) [.GeneratorExp elt [⟨.Name x px, iter, [], 0⟩] scope gpos] [] pos) (tGenR P gpos rd res te) := by
  refine ⟨fun pins s σ H Q I h => ?_⟩
  refine wpAny_Call_Name_kw (ld_blt I hg hm hb ?_ hn hdb)
  refine PyProof.Rows.callWith_builtin1 ?_ he (by rfl)
  rw [he]
  refine Calls.spliced_cons (gen_seq hr TB hcode S hi hs I h fun v H1 all1 => ?_)
  obtain ⟨⟨ps, hP, trip⟩, r, m, g, rfl, er, hm2, els, rz⟩ := all1
  refine ⟨⟨ps, hP, trip⟩, fun s1 xv I1 rel => ?_⟩
  cases rel
  have len : ((List.range m).map fun i : Nat => V.int (i : Int)).length = m := by rw [List.length_map, List.length_range]
  refine ⟨m, _, fun i y => i < m ∧ RelV (g i) y, WalkV.lt (walk_rng I1 hP er hm2), fun C code A' E' i v t mm hA hv hn' hma hk => ?_, fun ga t rdy => ?_⟩
  · obtain ⟨li, tk, ev⟩ := hv
    subst ev
    refine wpAny_mono (hel.run I1 hP hA hn' (.cons (show RelV (V.int (i : Int)) (.int (i : Int) tk) from ⟨tk, rfl⟩) .nil) (fun j n' e => ?_) hk _ (els i li)) (fun y t' q => ?_) fun _ _ z => z
    · cases j with
      | zero => cases e; exact hma
      | succ j => cases e
    · obtain ⟨⟨v', r', rfl⟩, kk⟩ := q
      exact ⟨⟨li, r'⟩, kk⟩
  obtain ⟨fp, wr, G, F', St, W, hF, st, bnd, fin⟩ := rdy
  refine Calls.spliced_nil ?_
  refine hf rz (by rw [len]; exact W) (fun j y z => by rw [len]; exact hF j y z) st bnd fun r y t' hZ ry mv => ?_
  obtain ⟨H2, tb, J⟩ := fin t' mv
  exact ⟨r, H2, J, ry, hZ H2 tb⟩
/-! ### abs(..) of an element -/
def qAbs (ra : QT) : QT := fun vs σ H Q => ra vs σ H fun x => ∃ i, x = .int i ∧ Q (.int (if i < 0 then -i else i))
theorem q_bltn {n : Str} {v : V} {u : Value} {scope : Scope} {ns : List Str} {pos : Pos} (hg : scope.names.lookup n = some .globalImplicit) (hs : scope.kind = .function) (hm : X.mg n = none) (hb : bootBuiltins n = some u) (r : RelV v u) (hn : n ≠ "__name__" := by decide) (hd : (n == ("__debug__" : Str)) = false := by decide) : QE X scope ns (.Name n pos) (qC v) := by
  refine ⟨fun {pins σ H1 s1} I {P ps} hP {C code A' E' t m vs us} hA hn' hv hm' hk Q h => ?_⟩
  have keep : ∀ b o, X.base.get? b = some o → t.heap.get? b = some o := fun b o z => hk b o (fun y => by
    have f := (I.bs _ o z).2
    rw [y, hP] at f
    cases f) (I.bk _ o z)
  obtain ⟨mb, b1, b2⟩ := I.mod.blt
  refine Calls.Name_function_global hs hg (Calls.loadGlobal_builtin (mg := X.mg) (mb := mb) ?_ hm ?_ ((b2 n hn).trans hb) ⟨⟨v, r, h⟩, keeps_refl _⟩) hd
  · show Heap.Ns _ X.env.globals X.mg
    rw [I.ok.glob]
    exact I.mod.glob.keeps keep
  · exact b1.keeps keep
theorem q_abs {scope : Scope} {ns : List Str} {a : Expr} {ra : QT} {pos p : Pos} (hg : scope.names.lookup ("abs" : Str) = some .globalImplicit) (hs : scope.kind = .function) (hm : X.mg "abs" = none) (ha : QE X scope ns a ra)
    (he : ∀ env, starEach [a] env = (false, eval a env) :: starEach [] env := by intro _; rfl) : QE X scope ns (.Call (.Name "abs" p) [a] [] pos) (qAbs ra) := by
  refine ⟨fun {pins σ H1 s1} I {P ps} hP {C code A' E' t m vs us} hA hn hv hm' hk Q h => wpAny_Call_Name_kw ?_⟩
  have keep : ∀ b o, X.base.get? b = some o → t.heap.get? b = some o := fun b o z => hk b o (fun y => by
    have f := (I.bs _ o z).2
    rw [y, hP] at f
    cases f) (I.bk _ o z)
  obtain ⟨mb, b1, b2⟩ := I.mod.blt
  refine Calls.Name_function_global hs hg (Calls.loadGlobal_builtin (mg := X.mg) (mb := mb) ?_ hm ?_ ((b2 "abs" (by decide)).trans (show bootBuiltins "abs" = some (.builtin "abs") by decide +kernel)) ?_) (by decide)
  · show Heap.Ns _ X.env.globals X.mg
    rw [I.ok.glob]
    exact I.mod.glob.keeps keep
  · exact b1.keeps keep
  refine PyProof.Rows.callWith_builtin1 ?_ (he _) (by rfl)
  rw [he]
  refine Calls.spliced_cons (wpAny_mono (ha.run I hP hA hn hv hm' hk _ h) (fun y t1 r => ?_) fun _ _ z => z)
  obtain ⟨⟨v, r1, i, rfl, q⟩, k1⟩ := r
  obtain ⟨tk, rfl⟩ := r1
  refine Calls.spliced_nil (call_abs_int fun u tk' => ⟨⟨.int _, ⟨_, rfl⟩, q⟩, kp_trans k1 (keeps_tok _ _)⟩)
end
end Gq

namespace Gn
open PySem PySem.Spec PyProof.Rows L2 GxR Gq
/-! ### generator expressions with any tuple as their target -/
section
variable {prog : Program} {w : World} {A : Around}
/-- the store of a tuple binds the names -/
def Stores (prog : Program) (w : World) (ce : Env) (es : List Expr) (kt : Nat) (pt : Pos) (Pt : Nat → Array Value → Prop) (Bd : Nat → (Str → Option Value) → Prop) : Prop :=
  ∀ (A1 : Around) (E1 : Value → Shared → Prop) (i : Nat) (T : Addr) (vals : Array Value) (s : Shared) (m : Str → Option Value) (Q : Unit → Shared → Prop), A1.handled = none → Pt i vals → s.heap.IsTuple T vals → s.heap.Ns ce.locals m →
    (∀ (h2 : Heap) (m2 : Str → Option Value) (tk : Nat), h2.Ns ce.locals m2 → Bd i m2 → (∀ b o, b ≠ ce.locals → s.heap.get? b = some o → h2.get? b = some o) → Q () { s with heap := h2, toks := tk }) → wpAny (model prog w) A1 (assign (.Tuple es kt pt) ce (.ref T)) Q E1 s
structure Quiet (prog : Program) (w : World) (ce : Env) (ifs : List Expr) (elt : Expr) (fp wr : List Addr) (Bd : Nat → (Str → Option Value) → Prop) (pz : Nat → Bool) (F : Nat → Value → Prop) (h0 : Heap) : Prop where
  test : ∀ (A1 : Around) (E1 : Value → Shared → Prop) (i : Nat) (s2 : Shared) (m2 : Str → Option Value), A1.handled = none → s2.heap.Ns ce.locals m2 → Bd i m2 → (∀ b ∈ fp, b ∉ wr → ∀ o, h0.get? b = some o → s2.heap.get? b = some o) →
    wpAny (model prog w) A1 (forIn ifs true fun c r => if r = true then do let ok ← isTrue c ce (eval c ce); pure (ForInStep.yield ok) else pure (ForInStep.yield r)) (fun ok s3 => ok = pz i ∧ Keeps s2 s3) E1 s2
  elem : ∀ (A1 : Around) (E1 : Value → Shared → Prop) (i : Nat) (s2 : Shared) (m2 : Str → Option Value), A1.handled = none → pz i = true → s2.heap.Ns ce.locals m2 → Bd i m2 → (∀ b ∈ fp, b ∉ wr → ∀ o, h0.get? b = some o → s2.heap.get? b = some o) →
    wpAny (model prog w) A1 (eval elt ce) (fun y s3 => F i y ∧ Keeps s2 s3) E1 s2
abbrev gE (elt iter : Expr) (es : List Expr) (kt : Nat) (pt : Pos) (ifs : List Expr) (scope : Scope) (pos : Pos) : Expr := .GeneratorExp elt [⟨.Tuple es kt pt, iter, ifs, 0⟩] scope pos
theorem loopX {elt iter : Expr} {es : List Expr} {pt : Pos} {kt : Nat} {ifs : List Expr} {scope : Scope} {pos : Pos} {J : Addr} {fp wr : List Addr} {n : Nat} {Pt : Nat → Array Value → Prop} {Bd : Nat → (Str → Option Value) → Prop} {St : Nat → Heap → Prop} {Mid : Nat → Addr → Heap → Prop} {ce : Env}
    (hA : A.handled = none) (W : ∀ B : Around, B.handled = none → WalksU prog w B J fp wr n Pt St Mid) (pz : Nat → Bool) (F : Nat → Value → Prop) (h0 : Heap) (hst : Stores prog w ce es kt pt Pt Bd)
    (hc : ce.scope.isCoroutine = false) (hloc : ce.locals ∉ fp) (hq : Quiet prog w ce ifs elt fp wr Bd pz F h0) :
    ∀ (k i : Nat) (t0 s : Shared) (m : Str → Option Value), n - i = k → i ≤ n → St i s.heap → s.heap.Ns ce.locals m → GenSince ce.locals wr t0 s → (∀ b ∈ fp, b ∉ wr → ∀ o, h0.get? b = some o → s.heap.get? b = some o) →
      Seg (model prog w) A (fun c t1 r t2 => r = .ok .next ∧ (c = 0 ∧ GenSince ce.locals wr t1 t2)) (genProto ce.locals fp wr pz n F) (passing pz n i).length t0 (.compLoop (gE elt iter es kt pt ifs scope pos) 0 (.ref J) .none ce) ((model prog w).den (.compLoop (gE elt iter es kt pt ifs scope pos) 0 (.ref J) .none ce)) [] s := by
  have hA2 : (A.over (.compLoop (gE elt iter es kt pt ifs scope pos) 0 (.ref J) .none ce) []).handled = none := hA
  have locw : ce.locals ∉ wr := fun z => hloc ((W A hA).sub _ z)
  intro k
  induction k with
  | zero =>
    intro i t0 s m hk hi st hn hs hkp
    obtain rfl : i = n := by omega
    show Seg _ A _ _ _ t0 _ ((compTurn (gE elt iter es kt pt ifs scope pos) 0 (.ref J) .none ce).onRaise (leaving ce)) [] s
    rw [compTurn_gen, Sem.onRaise_eq_wrap]
    refine seg_bind_wrap (wpAny_standAt (seg_bind_wrap ((W _ hA2).done s _ _ st fun h' tk hk' => ?_)))
    exact seg_end (.ok .next) ⟨rfl, (by rw [passing_end]; rfl), hs.step fun b o _ hw e => hk' b o hw e⟩
  | succ k ih =>
    intro i t0 s m hk hi st hn hs hkp
    have hlt : i < n := by omega
    show Seg _ A _ _ _ t0 _ ((compTurn (gE elt iter es kt pt ifs scope pos) 0 (.ref J) .none ce).onRaise (leaving ce)) [] s
    rw [compTurn_gen, Sem.onRaise_eq_wrap]
    refine seg_bind_wrap (wpAny_standAt (seg_bind_wrap ((W _ hA2).item i s _ _ hlt st fun T vals h1 tk1 hPv hT1 hmid hk1 => ?_)))
    refine seg_bind_wrap ((W _ hA2).go _ _ _ i T _ _ _ hmid fun h2 st2 hk2 => ?_)
    have hT2 : h2.IsTuple T vals := let ⟨o, e, r⟩ := hT1; ⟨o, hk2 _ o ((W _ hA2).apart i T _ hmid) e, r⟩
    have hn2 : h2.Ns ce.locals m := hn.at' fun o e => hk2 _ o locw (hk1 _ o locw e)
    refine seg_bind_wrap (hst _ _ i T vals { s with heap := h2, toks := tk1 } m _ hA2 hPv hT2 hn2 fun h3 m3 tk3 hn3 hB hk3 => ?_)
    have hup : ∀ b o, b ≠ ce.locals → b ∉ wr → s.heap.get? b = some o → h3.get? b = some o := fun b o nb nw e => hk3 b o nb (hk2 b o nw (hk1 b o nw e))
    have ne : ∀ b, b ∈ fp → b ≠ ce.locals := fun b hb z => hloc (z ▸ hb)
    have st3 : St (i + 1) h3 := (W A hA).frame _ _ _ st2 fun b hb o e => hk3 b o (ne b hb) e
    have hkp3 : ∀ b ∈ fp, b ∉ wr → ∀ o, h0.get? b = some o → h3.get? b = some o := fun b hb nw o e => hup b o (ne b hb) nw (hkp b hb nw o e)
    refine seg_bind_wrap (wpAny_mono (hq.test _ _ i _ _ hA2 hn3 hB hkp3) (fun ok s4 h4 => ?_) fun _ _ e => e)
    obtain ⟨rfl, h4, tk4, rfl, hk4⟩ := h4
    have st4 : St (i + 1) h4 := (W A hA).frame _ _ _ st3 fun b _ o e => hk4 b o e
    have hn4 := hn3.keeps hk4
    have hs4 : GenSince ce.locals wr t0 { s with heap := h4, toks := tk4 } := hs.step fun b o nb nw e => hk4 b o (hup b o nb nw e)
    cases hz : pz i with
    | false =>
      rw [passing_false hlt hz]
      simp only [Bool.false_eq_true, if_false]
      exact seg_again rfl (ih (i + 1) t0 _ _ (by omega) hlt st4 hn4 hs4 fun b hb nw o e => hk4 b o (hkp3 b hb nw o e))
    | true =>
      rw [passing_true hlt hz, List.length_cons]
      simp only [if_true]
      have yo : ∀ v, yieldOut ce v = yieldValue v := fun v => by simp only [yieldOut, hc, Bool.false_eq_true, if_false]
      simp only [yo]
      rw [Sem.bind_eq_wrap', Sem.bind_eq_wrap', Sem.wrap_wrap, Sem.wrap_wrap]
      refine seg_wrap (wpAny_mono (hq.elem _ _ i _ _ hA2 hz hn4 hB fun b hb nw o e => hk4 b o (hkp3 b hb nw o e)) (fun y s5 h5 => ?_) fun _ _ e => e)
      obtain ⟨hF, h5, tk5, rfl, hk5⟩ := h5
      refine seg_at (seg_yield rfl rfl rfl ⟨⟨i, passing_here hlt hz, hF⟩, hs4.step fun b o _ _ e => hk5 b o e, fun u al => ?_⟩)
      exact seg_again rfl (ih (i + 1) u u _ (by omega) hlt ((W A hA).frame _ _ _ st4 fun b hb o e => al b (List.mem_cons_of_mem _ hb) o (hk5 b o e)) ((hn4.keeps hk5).at' fun o e => al _ (List.mem_cons_self ..) o e) (GenSince.refl _ _ _) fun b hb nw o e => al b (List.mem_cons_of_mem _ hb) o (hk5 b o (hk4 b o (hkp3 b hb nw o e))))
theorem startX {elt iter : Expr} {es : List Expr} {pt : Pos} {kt : Nat} {ifs : List Expr} {scope : Scope} {pos : Pos} {J : Addr} {fp wr : List Addr} {n : Nat} {Pt : Nat → Array Value → Prop} {Bd : Nat → (Str → Option Value) → Prop} {St : Nat → Heap → Prop} {Mid : Nat → Addr → Heap → Prop} {ce : Env}
    (hA : A.handled = none) (W : ∀ B : Around, B.handled = none → WalksU prog w B J fp wr n Pt St Mid) (pz : Nat → Bool) (F : Nat → Value → Prop) (h0 : Heap) (hst : Stores prog w ce es kt pt Pt Bd)
    (hc : ce.scope.isCoroutine = false) (hloc : ce.locals ∉ fp) (hq : Quiet prog w ce ifs elt fp wr Bd pz F h0) (t0 s : Shared) (m : Str → Option Value) (st : St 0 s.heap) (hn : s.heap.Ns ce.locals m) (hs : GenSince ce.locals wr t0 s) (hkp : ∀ b ∈ fp, b ∉ wr → ∀ o, h0.get? b = some o → s.heap.get? b = some o) :
    Seg (model prog w) A (fun c t1 r t2 => r = .ok .next ∧ (c = 0 ∧ GenSince ce.locals wr t1 t2)) (genProto ce.locals fp wr pz n F) (passing pz n 0).length t0 (.compStart (gE elt iter es kt pt ifs scope pos) 0 (.ref J) .none ce) ((model prog w).den (.compStart (gE elt iter es kt pt ifs scope pos) 0 (.ref J) .none ce)) [] s := by
  have hA2 : (A.over (.compStart (gE elt iter es kt pt ifs scope pos) 0 (.ref J) .none ce) []).handled = none := hA
  have lp := loopX (iter := iter) (pt := pt) (kt := kt) (scope := scope) (pos := pos) hA W pz F h0 hst hc hloc hq n 0 t0 s m (Nat.sub_zero _) (Nat.zero_le _) st hn hs hkp
  show Seg _ A _ _ _ t0 _ ((compStart (gE elt iter es kt pt ifs scope pos) 0 (.ref J) .none ce).onRaise (leaving ce)) [] s
  unfold compStart
  rw [Sem.onRaise_eq_wrap]
  show Seg _ A _ _ _ t0 _ ((ask >>= _).wrap _ _ _ _) [] s
  refine seg_bind_wrap (wpAny_askSetting ?_)
  split
  · exact seg_again rfl lp
  · first
      | exact seg_bind_wrap (wpAny_rule (seg_bind_wrap (wpAny_standAt (seg_bind_wrap ((W _ hA2).self 0 s _ _ st (seg_again rfl lp))))))
      | (refine seg_bind_wrap (wpAny_rule ?_)
         show Seg _ A _ _ _ t0 _ ((standAt iter.pos >>= _).wrap _ _ _ _) [] s
         exact seg_bind_wrap (wpAny_standAt (seg_bind_wrap ((W _ hA2).self 0 s _ _ st (seg_again rfl lp)))))
theorem freshX {elt iter : Expr} {es : List Expr} {pt : Pos} {kt : Nat} {ifs : List Expr} {scope : Scope} {pos : Pos} {J a : Addr} {g : Nat} {fp wr : List Addr} {n : Nat} {Pt : Nat → Array Value → Prop} {Bd : Nat → (Str → Option Value) → Prop} {St : Nat → Heap → Prop} {Mid : Nat → Addr → Heap → Prop} {ce : Env}
    (hA : A.handled = none) (W : ∀ B : Around, B.handled = none → WalksU prog w B J fp wr n Pt St Mid) (pz : Nat → Bool) (F : Nat → Value → Prop) (hst : Stores prog w ce es kt pt Pt Bd) (hc : ce.scope.isCoroutine = false) (hloc : ce.locals ∉ fp) {s : Shared} {m : Str → Option Value} (hq : Quiet prog w ce ifs elt fp wr Bd pz F s.heap)
    (hg : s.heap.IsGen a g) (hgs : s.gens[g]? = some (.fresh (.compStart (gE elt iter es kt pt ifs scope pos) 0 (.ref J) .none ce))) (st : St 0 s.heap) (hn : s.heap.Ns ce.locals m) (hl : s.heap.NoLimit) : GenAt prog w A a g ce.locals fp wr pz n F 0 s :=
  ⟨hg, hl, _, hgs, fun u al => ⟨rfl, startX (A := A.in1) hA W pz F s.heap hst hc hloc hq u u m ((W A hA).frame _ _ _ st fun b hb o e => al b (List.mem_cons_of_mem _ hb) o e) (hn.at' fun o e => al _ (List.mem_cons_self ..) o e) (GenSince.refl _ _ _) fun b hb _ o e => al b (List.mem_cons_of_mem _ hb) o e⟩⟩
theorem evalX {E : Value → Shared → Prop} {s : Shared} {env : Env} {elt iter : Expr} {es : List Expr} {pt : Pos} {kt : Nat} {ifs : List Expr} {scope : Scope} {cl : List (Str × Addr)} {pos : Pos} {Q : Value → Shared → Prop}
    (hA : A.handled = none) (hc : scope.isCoroutine = false) (hcl : closureFor scope env = pure cl) (hce : ∀ y ∈ scope.names, y.2 ≠ .cell) (hdot : scope.names.lookup (".0" : Str) = some NameKind.local) (hk : scope.kind = .function) (hr : A.depth < recursionLimit)
    (h : wpAny (model prog w) A (eval iter env) (fun xv s1 => wpAny (model prog w) A (pyIter xv) (fun it s2 => s2.heap.NoLimit ∧ wpAny (model prog w) A (genexprCode env pos (env.qual ++ "<genexpr>") scope) (fun code s3 => wpAny (model prog w) A (builtinsFor env.globals env.builtins) (fun bi s4 =>
        ∃ J fp wr n Pt Bd St Mid pz F, it = .ref J ∧ (∀ B : Around, B.handled = none → WalksU prog w B J fp wr n Pt St Mid) ∧ Stores prog w (genEnv scope cl s4.heap.objs.size code bi env) es kt pt Pt Bd ∧ St 0 s4.heap ∧ (∀ b ∈ fp, b < s4.heap.objs.size) ∧ s4.heap.NoLimit ∧ cStatics ∉ wr ∧
          (∀ hx : Heap, (∀ b o, s4.heap.get? b = some o → hx.get? b = some o) → Quiet prog w (genEnv scope cl s4.heap.objs.size code bi env) ifs elt (List.range s4.heap.objs.size) wr Bd pz F hx) ∧
          (∀ a h5 tk gs, gs.bare = true → s4.heap.objs.size < a → h5.objs.size = a + 1 → (∀ b o, s4.heap.get? b = some o → h5.get? b = some o) →
            WalksS prog w A.in4 a (a :: s4.heap.objs.size :: List.range s4.heap.objs.size) (s4.heap.objs.size :: wr) (GenOnlyQ s4.gens.size) (passing pz n 0).length (fun j y => ∃ i, (passing pz n 0)[j]? = some i ∧ F i y) (GenAt prog w A.in4 a s4.gens.size s4.heap.objs.size (List.range s4.heap.objs.size) wr pz n F) →
            GenAt prog w A.in4 a s4.gens.size s4.heap.objs.size (List.range s4.heap.objs.size) wr pz n F 0 { s4 with gens := s4.gens.push gs, toks := tk, heap := h5 } → Q (.ref a) { s4 with gens := s4.gens.push gs, toks := tk, heap := h5 })) E s3) E s2) E s1) E s)
    (hf : ∀ x, genFold iter env x = pure x) : wpAny (model prog w) A (eval (gE elt iter es kt pt ifs scope pos) env) Q E s := by
  refine wpAny_GeneratorExp_make hc hcl hce hdot hk hr (wpAny_mono h (fun xv s1 h1 => wpAny_mono h1 (fun it s2 h2 => ⟨h2.1, wpAny_mono h2.2 (fun code s3 h3 => wpAny_mono h3 (fun bi s4 h4 => ?_) fun _ _ e => e) fun _ _ e => e⟩) fun _ _ e => e) fun _ _ e => e) hf
  obtain ⟨J, fp, wr, n, Pt, Bd, St, Mid, pz, F, rfl, W, hst, st, hfp, hl4, hcw, hq, hQ⟩ := h4
  have clt : cStatics < s4.heap.objs.size := let ⟨_, z, _⟩ := hl4; z.lt
  intro h' hn' hs'
  have z' : h'.objs.size = s4.heap.objs.size + 1 := by rw [hs'.1, Heap.size_push]
  have kp : ∀ b o, s4.heap.get? b = some o → h'.get? b = some o := fun b o e => hs'.extBut b o (Nat.ne_of_lt (Heap.lt_size e)) (Heap.get?_push_of_some _ e)
  have sub : ∀ b ∈ wr, b ∈ List.range s4.heap.objs.size := fun b hb => List.mem_range.mpr (hfp b ((W A hA).sub b hb))
  have n1 : h'.objs.size ≠ s4.heap.objs.size := by rw [z']; exact Nat.succ_ne_self _
  have n2 : h'.objs.size ∉ List.range s4.heap.objs.size := fun z => by have := List.mem_range.mp z; omega
  have kp5 : ∀ b o, s4.heap.get? b = some o → (h'.push { cls := .type "generator", data := .fields #[.int s4.gens.size 0, .str "<genexpr>" (s4.toks + 1), .str (env.qual ++ "<genexpr>") (s4.toks + 1 + 1)] }).get? b = some o := fun b o e => Heap.get?_push_of_some _ (kp b o e)
  refine hQ _ _ _ _ rfl (by omega) (by rw [Heap.size_push]) kp5 (WalksS.genexpQ (A := A.in4) hA _ _ _ _ wr pz n F n1 n2 sub hr (List.mem_range.mpr clt) (Nat.ne_of_lt clt) hcw) ?_
  exact freshX (A := A.in4) (ce := genEnv scope cl s4.heap.objs.size code bi env) (m := fun y => if y = ".0" then some (.ref J) else none) hA (fun B hB => (W B hB).mono_fp fun b hb => List.mem_range.mpr (hfp b hb)) pz F hst hc (fun z => Nat.lt_irrefl _ (List.mem_range.mp z)) (hq _ kp5) ⟨_, _, _, Heap.get?_push_size _ rfl, rfl, rfl, rfl⟩ (Array.getElem?_push_size ..) ((W A hA).frame _ _ _ st fun b _ o e => kp5 b o e) (hn'.push _) (hl4.keeps kp5)
end
/-! ### over tuples of any size -/
structure GenN (env : Env) (scope : Scope) : Prop where
  kind : scope.kind = .function
  co : scope.isCoroutine = false
  cell : ∀ y ∈ scope.names, y.2 ≠ .cell
  dot : scope.names.lookup (".0" : Str) = some NameKind.local
  free : ∀ y ∈ scope.names, y.2 = .free → ∃ c, env.cells.lookup y.1 = some c
section
variable {X : Cx} {pins : List (Addr × Obj)} {σ : L2.St} {H : Hp} {s : Shared}
def EltX (X : Cx) (scope : Scope) (elt : Expr) (P : Addr) (h : Heap) (Bd : Nat → (Str → Option Value) → Prop) (F : Nat → Value → Prop) : Prop :=
  ∀ (C : Addr) (code : Value) (A1 : Around) (E1 : Value → Shared → Prop) (i : Nat) (t : Shared) (m : Str → Option Value), A1.handled = none → Bd i m → t.heap.Ns C m →
    (∀ b o, b ≠ P → h.get? b = some o → t.heap.get? b = some o) → wpAny (model X.prog X.w) A1 (eval elt (genEnv scope (cloFrom X.env.cells scope.names []) C code builtinsNs X.env)) (fun y t' => F i y ∧ Keeps t t') E1 t
theorem gen_tgt {c P : Addr} {elt iter : Expr} {es : List Expr} {qt gpos : Pos} {kt : Nat} {scope : Scope} {te : TE} {k : Nat} {Q' : Value → Shared → Prop} (hr : Room k X.A) (TB : TabB X.base X.mg c P) (hcode : X.env.code = .ref c) (S : GenN X.env scope) (hi : PE X iter te) (hs : ∀ v, genFold iter X.env v = pure v) (I : Inv X pins σ H s) {R : VK} (h : te σ H R)
    (hR : ∀ v H1, R v H1 → TabG H1 P ∧ ∀ (s1 : Shared) (xv : Value), Inv X pins σ H1 s1 → RelV v xv → ∃ (n : Nat) (Pt : Nat → Array Value → Prop) (Bd : Nat → (Str → Option Value) → Prop) (F : Nat → Value → Prop), WalkP X.prog X.w s1.heap P xv n Pt ∧ (∀ C code bi, Stores X.prog X.w (genEnv scope (cloFrom X.env.cells scope.names []) C code bi X.env) es kt qt Pt Bd) ∧ EltX X scope elt P s1.heap Bd F ∧ ∀ g t, RdyG X pins σ H1 P gpos n F g t → Q' (.ref g) t) :
    wpAny (model X.prog X.w) X.A (eval (gE elt iter es kt qt [] scope gpos) X.env) Q' X.xe s := by
  refine evalX hr.hd S.co (closure_ok S.free) S.cell S.dot S.kind (by have d := hr.dp; omega) ?_ hs
  refine thn (hi.run pins s σ H _ I h) fun xv s1 ⟨v, H1, I1, rel, all1⟩ => ?_
  obtain ⟨⟨ps, tabH, trip⟩, rest⟩ := hR v H1 all1
  obtain ⟨n, Pt, Bd, F, walk, sto, hel, fin⟩ := rest s1 xv I1 rel
  refine walk _ _ _ _ rfl fun ob fp St Mid W st0 hfp => ?_
  have tab1 : s1.heap.get? P = some { cls := .none, data := .fields ps } := I1.hok P _ tabH
  have Plt : P < s1.heap.objs.size := Heap.lt_size tab1
  have tab2 : (s1.heap.push ob).get? P = some { cls := .none, data := .fields ps } := Heap.get?_push_of_some _ tab1
  have hd2 : PySem.W.CodeHd (s1.heap.push ob) c P := TB.code.keeps fun b u q => Heap.get?_push_of_some _ (I1.bk b u q)
  have lim2 : (s1.heap.push ob).NoLimit := I1.nolimit.push ob
  have size2 : (s1.heap.push ob).objs.size = s1.heap.objs.size + 1 := Heap.size_push ..
  refine ⟨lim2, ?_⟩
  have go : ∀ (code : Value) (h3 : Heap) (tk : Nat) (qs : Array Value), Heap.ExtBut P (s1.heap.push ob) h3 → s1.heap.objs.size + 1 ≤ h3.objs.size → h3.get? P = some { cls := .none, data := .fields qs } → (∃ more, qs = ps ++ more ∧ (more = #[] ∨ ∃ cv, more = #[rawInt (gpos.line : Int), rawInt (gpos.col : Int), cv])) → TriplesOk qs.toList →
      wpAny (model X.prog X.w) X.A (builtinsFor X.env.globals X.env.builtins) (fun bi s4 =>
        ∃ J fp wr n Pt Bd St Mid pz F, Value.ref s1.heap.objs.size = .ref J ∧ (∀ B : Around, B.handled = none → WalksU X.prog X.w B J fp wr n Pt St Mid) ∧ Stores X.prog X.w (genEnv scope (cloFrom X.env.cells scope.names []) s4.heap.objs.size code bi X.env) es kt qt Pt Bd ∧ St 0 s4.heap ∧ (∀ b ∈ fp, b < s4.heap.objs.size) ∧ s4.heap.NoLimit ∧ cStatics ∉ wr ∧
          (∀ hx : Heap, (∀ b o, s4.heap.get? b = some o → hx.get? b = some o) → Quiet X.prog X.w (genEnv scope (cloFrom X.env.cells scope.names []) s4.heap.objs.size code bi X.env) [] elt (List.range s4.heap.objs.size) wr Bd pz F hx) ∧
          (∀ a h5 tk gs, gs.bare = true → s4.heap.objs.size < a → h5.objs.size = a + 1 → (∀ b o, s4.heap.get? b = some o → h5.get? b = some o) →
            WalksS X.prog X.w X.A.in4 a (a :: s4.heap.objs.size :: List.range s4.heap.objs.size) (s4.heap.objs.size :: wr) (GenOnlyQ s4.gens.size) (passing pz n 0).length (fun j y => ∃ i, (passing pz n 0)[j]? = some i ∧ F i y) (GenAt X.prog X.w X.A.in4 a s4.gens.size s4.heap.objs.size (List.range s4.heap.objs.size) wr pz n F) →
            GenAt X.prog X.w X.A.in4 a s4.gens.size s4.heap.objs.size (List.range s4.heap.objs.size) wr pz n F 0 { s4 with gens := s4.gens.push gs, toks := tk, heap := h5 } → Q' (.ref a) { s4 with gens := s4.gens.push gs, toks := tk, heap := h5 })) X.xe { s1 with heap := h3, toks := tk } := by
    intro code h3 tk qs ext le3 tab3 grown trip3
    obtain ⟨bm, bo, z1, z2, z3, z4, z5, z6, z7, z8⟩ := TB.bm
    have statP : cStatics ≠ P := fun q => by
      obtain ⟨_, hns, _⟩ := I1.nolimit
      obtain ⟨o', es', ep, ho, hd, _⟩ := hns
      rw [q, tab1] at ho
      cases ho
      cases hd
    have statLt : cStatics < s1.heap.objs.size := by
      obtain ⟨_, hns, _⟩ := I1.nolimit
      exact hns.lt
    have keep3 : ∀ b u, b ≠ P → s1.heap.get? b = some u → h3.get? b = some u := fun b u nb q => ext b u nb (Heap.get?_push_of_some _ q)
    refine wpAny_builtinsFor (m := X.mg) (by rw [I1.ok.glob]; exact ((I1.mod.glob.keeps I1.bk).push ob).extBut ext TB.gP) z1 z2 (keep3 _ _ z4 (I1.bk _ _ z5)) z6 z7 z8 ?_
    refine ⟨s1.heap.objs.size, fp, [s1.heap.objs.size], n, Pt, Bd, St, Mid, (fun _ => true), F, rfl, W, sto _ _ _, ?_, fun b hb => ?_, lim2.extBut ext statP, fun q => ?_, fun hx keepx => ?_, ?_⟩
    · exact (W X.A hr.hd).frame _ _ _ st0 fun b hb u q => ext b u (hfp b hb).1 q
    · exact Nat.lt_of_lt_of_le (Nat.lt_succ_of_le (hfp b hb).2) le3
    · rw [List.mem_singleton] at q
      exact Nat.ne_of_lt statLt q
    · refine ⟨fun A1 E1 i t m hA hn hB hk => ?_, fun A1 E1 i t m hA hp hn hB hk => ?_⟩
      · simp only [List.forIn_nil]
        exact wpAny_pure ⟨rfl, keeps_refl _⟩
      · refine hel _ _ A1 E1 i t m hA hB hn fun b o nb q => ?_
        have b1 : b < s1.heap.objs.size := Heap.lt_size q
        refine hk b (List.mem_range.mpr (Nat.lt_of_lt_of_le (Nat.lt_succ_of_lt b1) le3)) (fun q' => ?_) o (keepx b o (keep3 b o nb q))
        rw [List.mem_singleton] at q'
        exact Nat.ne_of_lt b1 q'
    · intro a h5 tk5 gs bare agt size5 keep5 W5 at5
      have pt : passing (fun _ => true) n 0 = List.range n := passing_true n
      have W6 := W5.in4_1
      rw [pt, List.length_range] at W6
      refine fin a _ ⟨_, _, _, _, _, W6, fun j y hy => ?_, at5, fun b hb => ?_, fun t' mv => ?_⟩
      · obtain ⟨i, hi', hF⟩ := hy
        obtain ⟨hj, ej⟩ := List.getElem?_eq_some_iff.mp hi'
        rw [List.getElem_range] at ej
        subst ej
        exact hF
      · have agt' : h3.objs.size < h5.objs.size := by
          rw [size5]
          exact Nat.lt_succ_of_lt agt
        simp only [List.mem_cons, List.mem_range] at hb
        rcases hb with rfl | rfl | hb
        · rw [size5]
          exact Nat.lt_succ_self _
        · exact agt'
        · exact Nat.lt_trans hb agt'
      · obtain ⟨more, em, mk⟩ := grown
        have apart : ∀ b u, s1.heap.get? b = some u → b ∉ h3.objs.size :: [s1.heap.objs.size] := fun b u q hb => by
          have b1 : b < s1.heap.objs.size := Heap.lt_size q
          simp only [List.mem_cons, List.not_mem_nil, or_false] at hb
          rcases hb with e | e
          · exact Nat.ne_of_lt (Nat.lt_of_lt_of_le (Nat.lt_succ_of_lt b1) le3) e
          · exact Nat.ne_of_lt b1 e
        have J := inv_tab (more := more) (h' := t'.heap) (g' := t'.gens) (d' := t'.drawn) (t' := t'.toks) I1 tabH (fun b u nb q => mv.heap b u (apart b u q) (keep5 b u (keep3 b u nb q)))
          (by rw [← em]; exact mv.heap P _ (apart P _ tab1) (keep5 P _ tab3)) (AllBare.movedS (I1.bare.push bare) mv)
        rw [sh_eta s1 t' mv.os] at J
        exact ⟨L2.upd H1 P (.tbl (ps ++ more)), ⟨⟨⟨ps ++ more, upd_same, by rw [← em]; exact trip3⟩, fun b nb => upd_ne nb⟩, fun ps' e => ⟨more, (by rw [tabH] at e; cases e; exact upd_same), mk⟩⟩, J⟩
  cases among : codeAmong gpos ps.toList with
  | none =>
    refine wpAny_genexprCodeX hcode (hd2.code tab2 trip) (hd2.tab tab2) among fun c' h' tk ext ge lt co _ tab' _ => ?_
    obtain ⟨_, _, _, _, _, _, _, _, _, _, _, _, _, _, _, _, _, _, _, tr, _⟩ := co
    exact go _ h' tk _ ext (by have ge' := ge; rw [size2] at ge'; exact Nat.le_trans ge' (Nat.le_of_lt lt)) tab'.2 ⟨_, rfl, .inr ⟨_, rfl⟩⟩ tr
  | some cv =>
    refine wpAny_genexprCode_hit hcode (hd2.code tab2 trip) among ?_
    exact go cv (s1.heap.push ob) s1.toks ps (Heap.ExtBut.refl _ _) (Nat.le_of_eq size2.symm) tab2 ⟨#[], by simp, .inl rfl⟩ trip
/-- tuples of m values at the items of xs -/
def TrB (K : PySem.W.Frag) (H : Hp) (xs : List V) (tp : Nat → List V) : Prop := ∀ i x, xs[i]? = some x → ∃ t, x = .ref t ∧ SqT K H t (tp i)
theorem walk_tr {H1 : Hp} {s1 : Shared} {P a : Addr} {ps : Array Value} {xs : List V} {tp : Nat → List V} (I : Inv X pins σ H1 s1) (hP : H1 P = some (.tbl ps)) (h : SqB X.K H1 a xs) (hpr : TrB X.K H1 xs tp) :
    ∃ vals : Nat → List Value, (∀ i, i < xs.length → Vals (tp i) (vals i)) ∧ WalkP X.prog X.w s1.heap P (.ref a) xs.length (fun i v => i < xs.length ∧ v = (vals i).toArray) := by
  have tab1 : s1.heap.get? P = some { cls := .none, data := .fields ps } := I.hok P _ hP
  have Plt : P < s1.heap.objs.size := Heap.lt_size tab1
  have ne : ∀ {b : Addr} {o : Obj} {T : String}, s1.heap.get? b = some o → o.cls = .type T → b ≠ P := fun {b o T} e c z => by
    rw [z, tab1] at e
    cases e
    cases c
  have each : ∀ i, ∃ q : Addr × List Value, i < xs.length → xs[i]? = some (.ref q.1) ∧ s1.heap.IsTuple q.1 q.2.toArray ∧ Vals (tp i) q.2 := fun i => by
    by_cases hi : i < xs.length
    · obtain ⟨t, e, sq⟩ := hpr i _ (List.getElem?_eq_getElem hi)
      obtain ⟨its, r, tp', _⟩ := I.tuple sq
      exact ⟨(t, its), fun _ => ⟨by rw [List.getElem?_eq_getElem hi, e], tp', r⟩⟩
    · exact ⟨(0, []), fun z => absurd z hi⟩
  obtain ⟨f, hf⟩ := Classical.skolem.mp each
  refine ⟨fun i => (f i).2, fun i hi => (hf i hi).2.2, ?_⟩
  have fin : ∀ (its : List Value), Vals xs its → (∀ j, j < its.toArray.size → its.toArray[j]? = some (.ref (f j).1)) ∧ its.toArray.size = xs.length := fun its r => by
    have len := r.length
    refine ⟨fun j hj => ?_, by simp [len]⟩
    have hj' : j < xs.length := by rw [len]; simpa using hj
    obtain ⟨u, eu, ru⟩ := r.get (hf j hj').1
    cases ru
    rw [List.getElem?_toArray]
    exact eu
  have lt : ∀ j, j < xs.length → (f j).1 < s1.heap.objs.size := fun j hj => by
    obtain ⟨o, e, _⟩ := (hf j hj).2.1
    exact Heap.lt_size e
  have nP : ∀ j, j < xs.length → (f j).1 ≠ P := fun j hj => by
    obtain ⟨o, e, c, _⟩ := (hf j hj).2.1
    exact ne e c
  have foot : ∀ {a : Addr}, a < s1.heap.objs.size → a ≠ P → ∀ {n : Nat}, n = xs.length → ∀ b ∈ s1.heap.objs.size :: a :: (List.range n).map (fun j => (f j).1), b ≠ P ∧ b ≤ s1.heap.objs.size := fun {a} la na {n} en b hb => by
    subst en
    rcases List.mem_cons.mp hb with rfl | hb
    · exact ⟨(Nat.ne_of_lt Plt).symm, Nat.le_refl _⟩
    · rcases List.mem_cons.mp hb with rfl | hb
      · exact ⟨na, Nat.le_of_lt la⟩
      · obtain ⟨j, hj, rfl⟩ := List.mem_map.mp hb
        have hj' := List.mem_range.mp hj
        exact ⟨nP j hj', Nat.le_of_lt (lt j hj')⟩
  rcases h with h | h
  · obtain ⟨its, r, pl, _⟩ := I.list h
    obtain ⟨o, e, c, q⟩ := pl.isList
    obtain ⟨at_, sz⟩ := fin its r
    intro A E s Q es k
    obtain ⟨hp, gs, dr, tk, os⟩ := s
    replace es : hp = s1.heap := es
    subst es
    have la : a < s1.heap.objs.size := Heap.lt_size e
    refine wpAny_pyIter_list ⟨o, e, c, q⟩ (k _ _ _ _ (fun A' hA => walkU_n (WalksU.listOfTuples (prog := X.prog) (w := X.w) hA s1.heap.objs.size a (Nat.ne_of_lt la) its.toArray (fun j => (f j).1) (fun j => (f j).2.toArray) at_ (fun j hj => Nat.ne_of_lt (lt j (by rw [← sz]; exact hj)))) sz) ?_ (foot la (ne e c) sz))
    exact ⟨⟨_, Heap.get?_push_size _ rfl, rfl, rfl⟩, Heap.IsList.push ⟨o, e, c, q⟩ _, fun j hj => (hf j (by rw [← sz]; exact hj)).2.1.push _⟩
  · obtain ⟨its, r, tp', _⟩ := I.tuple h
    obtain ⟨o, e, c, q⟩ := tp'
    obtain ⟨at_, sz⟩ := fin its r
    intro A E s Q es k
    obtain ⟨hp, gs, dr, tk, os⟩ := s
    replace es : hp = s1.heap := es
    subst es
    have la : a < s1.heap.objs.size := Heap.lt_size e
    refine wpAny_pyIter_tuple ⟨o, e, c, q⟩ (k _ _ _ _ (fun A' hA => walkU_n (walkU_tuple (prog := X.prog) (w := X.w) hA s1.heap.objs.size a (Nat.ne_of_lt la) its.toArray (fun j => (f j).1) (fun j => (f j).2.toArray) at_ (fun j hj => Nat.ne_of_lt (lt j (by rw [← sz]; exact hj)))) sz) ?_ (foot la (ne e c) sz))
    exact ⟨⟨_, Heap.get?_push_size _ rfl, rfl, rfl⟩, Heap.IsTuple.push ⟨o, e, c, q⟩ _, fun j hj => (hf j (by rw [← sz]; exact hj)).2.1.push _⟩
/-- the names ns hold the values of the item -/
def Named (ns : List Str) (n : Nat) (vals : Nat → List Value) (i : Nat) (m : Str → Option Value) : Prop := i < n ∧ ∀ (j : Nat) (x : Str), ns[j]? = some x → m x = (vals i)[j]?
theorem elt_named {scope : Scope} {ns : List Str} {elt : Expr} {rd : QT} (he : QE X scope ns elt rd) {H1 : Hp} {s1 : Shared} {P : Addr} {ps : Array Value} (I : Inv X pins σ H1 s1) (hP : H1 P = some (.tbl ps)) {n : Nat} {tp : Nat → List V} {vals : Nat → List Value}
    (hv : ∀ i, i < n → Vals (tp i) (vals i)) {g : Nat → V} (h : ∀ i, i < n → rd (tp i) σ H1 fun y => y = g i) : EltX X scope elt P s1.heap (Named ns n vals) (fun i y => i < n ∧ RelV (g i) y) := by
  intro C code A1 E1 i t m hA hB hn hk
  refine wpAny_mono (he.run I hP hA hn (hv i hB.1) hB.2 hk _ (h i hB.1)) (fun y t' q => ?_) fun _ _ z => z
  obtain ⟨⟨v', r', rfl⟩, kk⟩ := q
  exact ⟨⟨hB.1, r'⟩, kk⟩
theorem stores3 {scope : Scope} {cl : List (Str × Addr)} {C : Addr} {code : Value} {bi : Addr} {env : Env} {xa xb xc : Str} {qa qb qc qt : Pos} {kt n : Nat} {vals : Nat → List Value} (hk : scope.kind = .function) (ha : scope.names.lookup xa = some .local) (hb : scope.names.lookup xb = some .local) (hc : scope.names.lookup xc = some .local) (ab : xa ≠ xb) (ac : xa ≠ xc) (bc : xb ≠ xc) (h3 : ∀ i, i < n → (vals i).length = 3) {prog : Program} {w : World} :
    Stores prog w (genEnv scope cl C code bi env) [.Name xa qa, .Name xb qb, .Name xc qc] kt qt (fun i v => i < n ∧ v = (vals i).toArray) (Named [xa, xb, xc] n vals) := by
  rintro A1 E1 i T v s m Q hA ⟨li, rfl⟩ hT hn k
  have l3 := h3 i li
  obtain ⟨ua, ub, uc, e⟩ : ∃ ua ub uc, vals i = [ua, ub, uc] := by
    match vals i, l3 with
    | [a, b, c], _ => exact ⟨a, b, c, rfl⟩
  rw [e] at hT
  have hp : ((genEnv scope cl C code bi env).scope.kind == .class || ((genEnv scope cl C code bi env).scope.kind == .module && (genEnv scope cl C code bi env).locals != (genEnv scope cl C code bi env).globals)) = false := by simp [genEnv, hk]
  refine wpAny_assign_Tuple hA hT rfl rfl fun h1 hx => ?_
  replace hx : Heap.ExtBut s.heap.objs.size s.heap h1 := hx
  have old : ∀ b o, s.heap.get? b = some o → h1.get? b = some o := fun b o e => hx b o (Nat.ne_of_lt (Heap.lt_size e)) e
  show wpAny _ _ (do holding [ub, uc] (assign (.Name xa qa) (genEnv scope cl C code bi env) ua); do holding [uc] (assign (.Name xb qb) (genEnv scope cl C code bi env) ub); do holding [] (assign (.Name xc qc) (genEnv scope cl C code bi env) uc); pure ()) _ _ _
  refine wpAny_bind (wpAny_holding (wpAny_assign_Name (wpAny_storeName_local ha (hn.at' fun o e => old _ o e) (fun h2 hn2 hs2 => ?_) hp)))
  replace hs2 : Heap.SameBut C h1 h2 := hs2
  refine wpAny_bind (wpAny_holding (wpAny_assign_Name (wpAny_storeName_local hb hn2 (fun h3 hn3 hs3 => ?_) hp)))
  replace hs3 : Heap.SameBut C h2 h3 := hs3
  refine wpAny_bind (wpAny_holding (wpAny_assign_Name (wpAny_storeName_local hc hn3 (fun h4 hn4 hs4 => wpAny_pure ?_) hp)))
  replace hs4 : Heap.SameBut C h3 h4 := hs4
  refine k h4 _ _ hn4 ⟨li, fun j x hj => ?_⟩ fun b o nb q => hs4.extBut b o nb (hs3.extBut b o nb (hs2.extBut b o nb (old b o q)))
  rw [e]
  match j, hj with
  | 0, hj => cases hj; simp [ab, ac]
  | 1, hj => cases hj; simp [bc]
  | 2, hj => cases hj; simp
  | j + 3, hj => cases hj
/-- as tGen, over tuples -/
def tGenT (P : Addr) (gp : Pos) (K : PySem.W.Frag) (rd : QT) (res : List V → (Nat → V) → (V → Prop) → Prop) (te : TE) : TE := fun σ H Q => te σ H fun v H1 => TabG H1 P ∧ ∃ (a : Addr) (xs : List V) (tp : Nat → List V) (g : Nat → V), v = .ref a ∧ SqB K H1 a xs ∧ TrB K H1 xs tp ∧ (∀ i, i < xs.length → (tp i).length = 3) ∧
  (∀ i, i < xs.length → rd (tp i) σ H1 fun y => y = g i) ∧ res xs g fun r => ∀ H2, Tb2 P gp H1 H2 → Q r H2
theorem pe_genT {fn : String} {res : List V → (Nat → V) → (V → Prop) → Prop} {n : Str} {c P : Addr} {elt iter : Expr} {xa xb xc : Str} {qa qb qc qt p pos gpos : Pos} {kt : Nat} {scope : Scope} {rd : QT} {te : TE} {k : Nat} (hf : Eats X fn res)
    (hr : Room k X.A) (hg : Gl X n) (hm : X.mg n = none) (hb : bootBuiltins n = some (.builtin fn)) (TB : TabB X.base X.mg c P) (hcode : X.env.code = .ref c) (S : GenN X.env scope) (la : scope.names.lookup xa = some .local) (lb : scope.names.lookup xb = some .local) (lc : scope.names.lookup xc = some .local) (ab : xa ≠ xb) (ac : xa ≠ xc) (bc : xb ≠ xc) (hi : PE X iter te) (hel : QE X scope [xa, xb, xc] elt rd)
    (hs : ∀ v, genFold iter X.env v = pure v) (hn : n ≠ "__name__" := by decide) (hdb : (n == ("__debug__" : Str)) = false := by decide)
    (he : starEach [gE elt iter [.Name xa qa, .Name xb qb, .Name xc qc] kt qt [] scope gpos] X.env = (false, eval (gE elt iter [.Name xa qa, .Name xb qb, .Name xc qc] kt qt [] scope gpos) X.env) :: starEach [] X.env := by rfl) :
    PE X (.Call (.Name n p) [gE elt iter [.Name xa qa, .Name xb qb, .Name xc qc] kt qt [] scope gpos] [] pos) (tGenT P gpos X.K rd res te) := by
  refine ⟨fun pins s σ H Q I h => ?_⟩
  refine wpAny_Call_Name_kw (ld_blt I hg hm hb ?_ hn hdb)
  refine PyProof.Rows.callWith_builtin1 ?_ he (by rfl)
  rw [he]
  refine Calls.spliced_cons (gen_tgt hr TB hcode S hi hs I h fun v H1 all1 => ?_)
  obtain ⟨⟨ps, hP, trip⟩, a, xs, tp, g, rfl, sq, hpr, l3, els, rz⟩ := all1
  refine ⟨⟨ps, hP, trip⟩, fun s1 xv I1 rel => ?_⟩
  cases rel
  obtain ⟨vals, hv, walk⟩ := walk_tr I1 hP sq hpr
  refine ⟨_, _, _, _, walk, fun C code bi => stores3 S.kind la lb lc ab ac bc fun i li => ?_, elt_named hel I1 hP hv els, fun ga t rdy => ?_⟩
  · rw [← (hv i li).length]; exact l3 i li
  obtain ⟨fp, wr, G, F', St, W, hF, st, bnd, fin⟩ := rdy
  refine Calls.spliced_nil ?_
  refine hf rz W hF st bnd fun r y t' hZ ry mv => ?_
  obtain ⟨H2, tb, J⟩ := fin t' mv
  exact ⟨r, H2, J, ry, hZ H2 tb⟩
theorem bi_sub : BinI X .Sub okAll (· - ·) := fun _ _ h => PySem.P.sub_int h
def okMul : Int → Int → Prop := fun i j => IntMulOk i j
theorem bi_mul : BinI X .Mult okMul (· * ·) := fun _ o h => PySem.P.mul_int h o
def qMax3 (ra rb rc : QT) : QT := fun vs σ H Q => ra vs σ H fun x => rb vs σ H fun y => rc vs σ H fun z => ∃ i j k, x = .int i ∧ y = .int j ∧ z = .int k ∧ Q (.int (if j > i then (if k > j then k else j) else (if k > i then k else i)))
theorem q_max3 {scope : Scope} {ns : List Str} {a b d : Expr} {ra rb rc : QT} {pos p : Pos} (hg : scope.names.lookup ("max" : Str) = some .globalImplicit) (hs : scope.kind = .function) (hm : X.mg "max" = none) (ha : QE X scope ns a ra) (hb : QE X scope ns b rb) (hd : QE X scope ns d rc)
    (he : ∀ env, starEach [a, b, d] env = (false, eval a env) :: starEach [b, d] env := by intro _; rfl) (he2 : ∀ env, starEach [b, d] env = [(false, eval b env), (false, eval d env)] := by intro _; rfl) : QE X scope ns (.Call (.Name "max" p) [a, b, d] [] pos) (qMax3 ra rb rc) := by
  refine ⟨fun {pins σ H1 s1} I {P ps} hP {C code A' E' t m vs us} hA hn hv hm' hk Q h => wpAny_Call_Name_kw ?_⟩
  have keep : ∀ b o, X.base.get? b = some o → t.heap.get? b = some o := fun b o z => hk b o (fun y => by
    have f := (I.bs _ o z).2
    rw [y, hP] at f
    cases f) (I.bk _ o z)
  obtain ⟨mb, b1, b2⟩ := I.mod.blt
  refine Calls.Name_function_global hs hg (Calls.loadGlobal_builtin (mg := X.mg) (mb := mb) ?_ hm ?_ ((b2 "max" (by decide)).trans (show bootBuiltins "max" = some (.builtin "max") by decide +kernel)) ?_) (by decide)
  · show Heap.Ns _ X.env.globals X.mg
    rw [I.ok.glob]
    exact I.mod.glob.keeps keep
  · exact b1.keeps keep
  refine PyProof.Rows.callWith_builtin1 ?_ (he _) (by rw [he2]; rfl)
  rw [he, he2]
  refine Calls.spliced_cons (wpAny_mono (ha.run I hP hA hn hv hm' hk _ h) (fun y t1 r => ?_) fun _ _ z => z)
  obtain ⟨⟨v, r1, q⟩, k1⟩ := r
  refine Calls.spliced_cons (q_then hb I hP hA hn hv hm' hk k1 q fun v2 y2 t2 r2 q2 k2 => ?_)
  refine Calls.spliced_cons (q_then hd I hP hA hn hv hm' hk k2 q2 fun v3 y3 t3 r3 q3 k3 => ?_)
  obtain ⟨i, j, l, rfl, rfl, rfl, q⟩ := q3
  obtain ⟨x1, rfl⟩ := r1
  obtain ⟨x2, rfl⟩ := r2
  obtain ⟨x3, rfl⟩ := r3
  refine Calls.spliced_nil (max_three_ints hA fun h' tk kp => ⟨⟨.int _, ?_, q⟩, kp_trans k3 ⟨h', tk, rfl, kp⟩⟩)
  by_cases u1 : j > i <;> by_cases u2 : l > j <;> by_cases u3 : l > i <;> simp only [u1, u2, u3, if_true, if_false] <;> exact ⟨_, rfl⟩
end
end Gn

namespace Gf
open PySem PySem.Spec PyProof.Rows L2 GxR Gq Gn
/-! ### .. with a filter -/
section
variable {X : Cx} {pins : List (Addr × Obj)} {σ : L2.St} {H : Hp} {s : Shared}
def EltF (X : Cx) (scope : Scope) (elt : Expr) (P : Addr) (h : Heap) (Bd : Nat → (Str → Option Value) → Prop) (pz : Nat → Bool) (F : Nat → Value → Prop) : Prop :=
  ∀ (C : Addr) (code : Value) (A1 : Around) (E1 : Value → Shared → Prop) (i : Nat) (t : Shared) (m : Str → Option Value), A1.handled = none → pz i = true → Bd i m → t.heap.Ns C m →
    (∀ b o, b ≠ P → h.get? b = some o → t.heap.get? b = some o) → wpAny (model X.prog X.w) A1 (eval elt (genEnv scope (cloFrom X.env.cells scope.names []) C code builtinsNs X.env)) (fun y t' => F i y ∧ Keeps t t') E1 t
def TstX (X : Cx) (scope : Scope) (ifs : List Expr) (P : Addr) (h : Heap) (Bd : Nat → (Str → Option Value) → Prop) (pz : Nat → Bool) : Prop :=
  ∀ (C : Addr) (code : Value) (A1 : Around) (E1 : Value → Shared → Prop) (i : Nat) (t : Shared) (m : Str → Option Value), A1.handled = none → Bd i m → t.heap.Ns C m →
    (∀ b o, b ≠ P → h.get? b = some o → t.heap.get? b = some o) →
    wpAny (model X.prog X.w) A1 (forIn ifs true fun c r => if r = true then do let ok ← isTrue c (genEnv scope (cloFrom X.env.cells scope.names []) C code builtinsNs X.env) (eval c (genEnv scope (cloFrom X.env.cells scope.names []) C code builtinsNs X.env)); pure (ForInStep.yield ok) else pure (ForInStep.yield r)) (fun ok t' => ok = pz i ∧ Keeps t t') E1 t
theorem gen_tgtF {c P : Addr} {elt iter : Expr} {es ifs : List Expr} {qt gpos : Pos} {kt : Nat} {scope : Scope} {te : TE} {k : Nat} {Q' : Value → Shared → Prop} (hr : Room k X.A) (TB : TabB X.base X.mg c P) (hcode : X.env.code = .ref c) (S : GenN X.env scope) (hi : PE X iter te) (hs : ∀ v, genFold iter X.env v = pure v) (I : Inv X pins σ H s) {R : VK} (h : te σ H R)
    (hR : ∀ v H1, R v H1 → TabG H1 P ∧ ∀ (s1 : Shared) (xv : Value), Inv X pins σ H1 s1 → RelV v xv → ∃ (n : Nat) (Pt : Nat → Array Value → Prop) (Bd : Nat → (Str → Option Value) → Prop) (pz : Nat → Bool) (F : Nat → Value → Prop), WalkP X.prog X.w s1.heap P xv n Pt ∧ (∀ C code bi, Stores X.prog X.w (genEnv scope (cloFrom X.env.cells scope.names []) C code bi X.env) es kt qt Pt Bd) ∧ TstX X scope ifs P s1.heap Bd pz ∧ EltF X scope elt P s1.heap Bd pz F ∧ ∀ g t, RdyG X pins σ H1 P gpos (passing pz n 0).length (fun j y => ∃ i, (passing pz n 0)[j]? = some i ∧ F i y) g t → Q' (.ref g) t) :
    wpAny (model X.prog X.w) X.A (eval (gE elt iter es kt qt ifs scope gpos) X.env) Q' X.xe s := by
  refine evalX hr.hd S.co (closure_ok S.free) S.cell S.dot S.kind (by have d := hr.dp; omega) ?_ hs
  refine thn (hi.run pins s σ H _ I h) fun xv s1 ⟨v, H1, I1, rel, all1⟩ => ?_
  obtain ⟨⟨ps, tabH, trip⟩, rest⟩ := hR v H1 all1
  obtain ⟨n, Pt, Bd, pz, F, walk, sto, htst, hel, fin⟩ := rest s1 xv I1 rel
  refine walk _ _ _ _ rfl fun ob fp St Mid W st0 hfp => ?_
  have tab1 : s1.heap.get? P = some { cls := .none, data := .fields ps } := I1.hok P _ tabH
  have Plt : P < s1.heap.objs.size := Heap.lt_size tab1
  have tab2 : (s1.heap.push ob).get? P = some { cls := .none, data := .fields ps } := Heap.get?_push_of_some _ tab1
  have hd2 : PySem.W.CodeHd (s1.heap.push ob) c P := TB.code.keeps fun b u q => Heap.get?_push_of_some _ (I1.bk b u q)
  have lim2 : (s1.heap.push ob).NoLimit := I1.nolimit.push ob
  have size2 : (s1.heap.push ob).objs.size = s1.heap.objs.size + 1 := Heap.size_push ..
  refine ⟨lim2, ?_⟩
  have go : ∀ (code : Value) (h3 : Heap) (tk : Nat) (qs : Array Value), Heap.ExtBut P (s1.heap.push ob) h3 → s1.heap.objs.size + 1 ≤ h3.objs.size → h3.get? P = some { cls := .none, data := .fields qs } → (∃ more, qs = ps ++ more ∧ (more = #[] ∨ ∃ cv, more = #[rawInt (gpos.line : Int), rawInt (gpos.col : Int), cv])) → TriplesOk qs.toList →
      wpAny (model X.prog X.w) X.A (builtinsFor X.env.globals X.env.builtins) (fun bi s4 =>
        ∃ J fp wr n Pt Bd St Mid pz F, Value.ref s1.heap.objs.size = .ref J ∧ (∀ B : Around, B.handled = none → WalksU X.prog X.w B J fp wr n Pt St Mid) ∧ Stores X.prog X.w (genEnv scope (cloFrom X.env.cells scope.names []) s4.heap.objs.size code bi X.env) es kt qt Pt Bd ∧ St 0 s4.heap ∧ (∀ b ∈ fp, b < s4.heap.objs.size) ∧ s4.heap.NoLimit ∧ cStatics ∉ wr ∧
          (∀ hx : Heap, (∀ b o, s4.heap.get? b = some o → hx.get? b = some o) → Quiet X.prog X.w (genEnv scope (cloFrom X.env.cells scope.names []) s4.heap.objs.size code bi X.env) ifs elt (List.range s4.heap.objs.size) wr Bd pz F hx) ∧
          (∀ a h5 tk gs, gs.bare = true → s4.heap.objs.size < a → h5.objs.size = a + 1 → (∀ b o, s4.heap.get? b = some o → h5.get? b = some o) →
            WalksS X.prog X.w X.A.in4 a (a :: s4.heap.objs.size :: List.range s4.heap.objs.size) (s4.heap.objs.size :: wr) (GenOnlyQ s4.gens.size) (passing pz n 0).length (fun j y => ∃ i, (passing pz n 0)[j]? = some i ∧ F i y) (GenAt X.prog X.w X.A.in4 a s4.gens.size s4.heap.objs.size (List.range s4.heap.objs.size) wr pz n F) →
            GenAt X.prog X.w X.A.in4 a s4.gens.size s4.heap.objs.size (List.range s4.heap.objs.size) wr pz n F 0 { s4 with gens := s4.gens.push gs, toks := tk, heap := h5 } → Q' (.ref a) { s4 with gens := s4.gens.push gs, toks := tk, heap := h5 })) X.xe { s1 with heap := h3, toks := tk } := by
    intro code h3 tk qs ext le3 tab3 grown trip3
    obtain ⟨bm, bo, z1, z2, z3, z4, z5, z6, z7, z8⟩ := TB.bm
    have statP : cStatics ≠ P := fun q => by
      obtain ⟨_, hns, _⟩ := I1.nolimit
      obtain ⟨o', es', ep, ho, hd, _⟩ := hns
      rw [q, tab1] at ho
      cases ho
      cases hd
    have statLt : cStatics < s1.heap.objs.size := by
      obtain ⟨_, hns, _⟩ := I1.nolimit
      exact hns.lt
    have keep3 : ∀ b u, b ≠ P → s1.heap.get? b = some u → h3.get? b = some u := fun b u nb q => ext b u nb (Heap.get?_push_of_some _ q)
    refine wpAny_builtinsFor (m := X.mg) (by rw [I1.ok.glob]; exact ((I1.mod.glob.keeps I1.bk).push ob).extBut ext TB.gP) z1 z2 (keep3 _ _ z4 (I1.bk _ _ z5)) z6 z7 z8 ?_
    refine ⟨s1.heap.objs.size, fp, [s1.heap.objs.size], n, Pt, Bd, St, Mid, pz, F, rfl, W, sto _ _ _, ?_, fun b hb => ?_, lim2.extBut ext statP, fun q => ?_, fun hx keepx => ?_, ?_⟩
    · exact (W X.A hr.hd).frame _ _ _ st0 fun b hb u q => ext b u (hfp b hb).1 q
    · exact Nat.lt_of_lt_of_le (Nat.lt_succ_of_le (hfp b hb).2) le3
    · rw [List.mem_singleton] at q
      exact Nat.ne_of_lt statLt q
    · refine ⟨fun A1 E1 i t m hA hn hB hk => ?_, fun A1 E1 i t m hA hp hn hB hk => ?_⟩
      · refine htst _ _ A1 E1 i t m hA hB hn fun b o nb q => ?_
        have b1 : b < s1.heap.objs.size := Heap.lt_size q
        refine hk b (List.mem_range.mpr (Nat.lt_of_lt_of_le (Nat.lt_succ_of_lt b1) le3)) (fun q' => ?_) o (keepx b o (keep3 b o nb q))
        rw [List.mem_singleton] at q'
        exact Nat.ne_of_lt b1 q'
      · refine hel _ _ A1 E1 i t m hA hp hB hn fun b o nb q => ?_
        have b1 : b < s1.heap.objs.size := Heap.lt_size q
        refine hk b (List.mem_range.mpr (Nat.lt_of_lt_of_le (Nat.lt_succ_of_lt b1) le3)) (fun q' => ?_) o (keepx b o (keep3 b o nb q))
        rw [List.mem_singleton] at q'
        exact Nat.ne_of_lt b1 q'
    · intro a h5 tk5 gs bare agt size5 keep5 W5 at5
      refine fin a _ ⟨_, _, _, _, _, W5.in4_1, fun j y hy => hy, at5, fun b hb => ?_, fun t' mv => ?_⟩
      · have agt' : h3.objs.size < h5.objs.size := by
          rw [size5]
          exact Nat.lt_succ_of_lt agt
        simp only [List.mem_cons, List.mem_range] at hb
        rcases hb with rfl | rfl | hb
        · rw [size5]
          exact Nat.lt_succ_self _
        · exact agt'
        · exact Nat.lt_trans hb agt'
      · obtain ⟨more, em, mk⟩ := grown
        have apart : ∀ b u, s1.heap.get? b = some u → b ∉ h3.objs.size :: [s1.heap.objs.size] := fun b u q hb => by
          have b1 : b < s1.heap.objs.size := Heap.lt_size q
          simp only [List.mem_cons, List.not_mem_nil, or_false] at hb
          rcases hb with e | e
          · exact Nat.ne_of_lt (Nat.lt_of_lt_of_le (Nat.lt_succ_of_lt b1) le3) e
          · exact Nat.ne_of_lt b1 e
        have J := inv_tab (more := more) (h' := t'.heap) (g' := t'.gens) (d' := t'.drawn) (t' := t'.toks) I1 tabH (fun b u nb q => mv.heap b u (apart b u q) (keep5 b u (keep3 b u nb q)))
          (by rw [← em]; exact mv.heap P _ (apart P _ tab1) (keep5 P _ tab3)) (AllBare.movedS (I1.bare.push bare) mv)
        rw [sh_eta s1 t' mv.os] at J
        exact ⟨L2.upd H1 P (.tbl (ps ++ more)), ⟨⟨⟨ps ++ more, upd_same, by rw [← em]; exact trip3⟩, fun b nb => upd_ne nb⟩, fun ps' e => ⟨more, (by rw [tabH] at e; cases e; exact upd_same), mk⟩⟩, J⟩
  cases among : codeAmong gpos ps.toList with
  | none =>
    refine wpAny_genexprCodeX hcode (hd2.code tab2 trip) (hd2.tab tab2) among fun c' h' tk ext ge lt co _ tab' _ => ?_
    obtain ⟨_, _, _, _, _, _, _, _, _, _, _, _, _, _, _, _, _, _, _, tr, _⟩ := co
    exact go _ h' tk _ ext (by have ge' := ge; rw [size2] at ge'; exact Nat.le_trans ge' (Nat.le_of_lt lt)) tab'.2 ⟨_, rfl, .inr ⟨_, rfl⟩⟩ tr
  | some cv =>
    refine wpAny_genexprCode_hit hcode (hd2.code tab2 trip) among ?_
    exact go cv (s1.heap.push ob) s1.toks ps (Heap.ExtBut.refl _ _) (Nat.le_of_eq size2.symm) tab2 ⟨#[], by simp, .inl rfl⟩ trip
/-- what a test says of a turn -/
abbrev QB := List V → L2.St → Hp → (Bool → Prop) → Prop
structure QT1 (X : Cx) (scope : Scope) (ns : List Str) (e : Expr) (rd : QB) : Prop where
  run : ∀ {pins : List (Addr × Obj)} {σ : L2.St} {H1 : Hp} {s1 : Shared}, Inv X pins σ H1 s1 → ∀ {P : Addr} {ps : Array Value}, H1 P = some (.tbl ps) →
    ∀ {C : Addr} {code : Value} {A' : Around} {E' : Value → Shared → Prop} {t : Shared} {m : Str → Option Value} {vs : List V} {us : List Value}, A'.handled = none → t.heap.Ns C m → Vals vs us →
      (∀ (j : Nat) (n : Str), ns[j]? = some n → m n = us[j]?) → (∀ b o, b ≠ P → s1.heap.get? b = some o → t.heap.get? b = some o) → ∀ Q : Bool → Prop, rd vs σ H1 Q →
      wpAny (model X.prog X.w) A' (isTrue e (genEnv scope (cloFrom X.env.cells scope.names []) C code builtinsNs X.env) (eval e (genEnv scope (cloFrom X.env.cells scope.names []) C code builtinsNs X.env))) (fun b t' => Q b ∧ Keeps t t') E' t
theorem t_not {scope : Scope} {ns : List Str} {e : Expr} {rd : QB} {pos : Pos} (h : QT1 X scope ns e rd) : QT1 X scope ns (.UnaryOp .Not e pos) (fun vs σ H Q => rd vs σ H fun b => Q (!b)) :=
  ⟨fun {pins σ H1 s1} I {P ps} hP {C code A' E' t m vs us} hA hn hv hm hk Q r => wpAny_isTrue_Not (h.run I hP hA hn hv hm hk (fun b => Q (!b)) r)⟩
theorem t_chain {scope : Scope} {ns : List Str} {a b c : Expr} {ra rb rc : QT} {op op' : CmpOp} {pos : Pos} {f g : Int → Int → Bool} (hop : CmpI X op f) (hop' : CmpI X op' g) (ha : QE X scope ns a ra) (hb : QE X scope ns b rb) (hc : QE X scope ns c rc) (hmk : lastMarks [op, op'] [b, c] = false := by with_unfolding_all rfl) :
    QT1 X scope ns (.Compare a [op, op'] [b, c] pos) (fun vs σ H Q => ra vs σ H fun x => rb vs σ H fun y => ∃ i j, x = .int i ∧ y = .int j ∧ if f i j = true then rc vs σ H fun z => ∃ k, z = .int k ∧ Q (g j k) else Q false) := by
  refine ⟨fun {pins σ H1 s1} I {P ps} hP {C code A' E' t m vs us} hA hn hv hm hk Q h => isTrue_chain ?_ hmk⟩
  refine wpAny_mono (ha.run I hP hA hn hv hm hk _ h) (fun y t1 r => ?_) fun _ _ z => z
  obtain ⟨⟨v, r1, q1⟩, k1⟩ := r
  refine test_link (q_then hb I hP hA hn hv hm hk k1 q1 fun v' y' t2 r2 q2 k2 => ?_)
  obtain ⟨i, j, rfl, rfl, q⟩ := q2
  obtain ⟨_, rfl⟩ := r1
  obtain ⟨_, rfl⟩ := r2
  refine hop hA (wpAny_truthy_bool ?_)
  cases z : f i j with
  | false =>
    rw [z] at q
    exact ite_ff ⟨by rw [if_neg Bool.false_ne_true] at q; exact q, k2⟩
  | true =>
    rw [z, if_pos rfl] at q
    refine ite_tt (test_last (q_then hc I hP hA hn hv hm hk k2 q fun v'' y'' t3 r3 q3 k3 => ?_))
    obtain ⟨k, rfl, q'⟩ := q3
    obtain ⟨_, rfl⟩ := r3
    exact hop' hA (wpAny_truthy_bool ⟨q', k3⟩)
theorem tst_named {scope : Scope} {ns : List Str} {tst : Expr} {rd : QB} (he : QT1 X scope ns tst rd) {H1 : Hp} {s1 : Shared} {P : Addr} {ps : Array Value} (I : Inv X pins σ H1 s1) (hP : H1 P = some (.tbl ps)) {n : Nat} {tp : Nat → List V} {vals : Nat → List Value}
    (hv : ∀ i, i < n → Vals (tp i) (vals i)) {pz : Nat → Bool} (h : ∀ i, i < n → rd (tp i) σ H1 fun b => b = pz i) : TstX X scope [tst] P s1.heap (Named ns n vals) pz := by
  intro C code A1 E1 i t m hA hB hn hk
  simp only [List.forIn_cons, List.forIn_nil, if_true]
  refine wpAny_bind (wpAny_bind (wpAny_mono (he.run I hP hA hn (hv i hB.1) hB.2 hk _ (h i hB.1)) (fun b t' q => ?_) fun _ _ z => z))
  exact wpAny_pure (wpAny_pure q)
theorem elf_named {scope : Scope} {ns : List Str} {elt : Expr} {rd : QT} (he : QE X scope ns elt rd) {H1 : Hp} {s1 : Shared} {P : Addr} {ps : Array Value} (I : Inv X pins σ H1 s1) (hP : H1 P = some (.tbl ps)) {n : Nat} {tp : Nat → List V} {vals : Nat → List Value}
    (hv : ∀ i, i < n → Vals (tp i) (vals i)) {g : Nat → V} {pz : Nat → Bool} (h : ∀ i, i < n → pz i = true → rd (tp i) σ H1 fun y => y = g i) : EltF X scope elt P s1.heap (Named ns n vals) pz (fun i y => i < n ∧ RelV (g i) y) := by
  intro C code A1 E1 i t m hA hp hB hn hk
  refine wpAny_mono (he.run I hP hA hn (hv i hB.1) hB.2 hk _ (h i hB.1 hp)) (fun y t' q => ?_) fun _ _ z => z
  obtain ⟨⟨v', r', rfl⟩, kk⟩ := q
  exact ⟨⟨hB.1, r'⟩, kk⟩
/-- as tGenT, only those that pass -/
def tGenTF (P : Addr) (gp : Pos) (K : PySem.W.Frag) (rd : QT) (rt : QB) (res : List V → (Nat → V) → (V → Prop) → Prop) (te : TE) : TE := fun σ H Q => te σ H fun v H1 => TabG H1 P ∧ ∃ (a : Addr) (xs : List V) (tp : Nat → List V) (g : Nat → V) (pz : Nat → Bool), v = .ref a ∧ SqB K H1 a xs ∧ TrB K H1 xs tp ∧ (∀ i, i < xs.length → (tp i).length = 3) ∧
  (∀ i, i < xs.length → rt (tp i) σ H1 fun b => b = pz i) ∧ (∀ i, i < xs.length → pz i = true → rd (tp i) σ H1 fun y => y = g i) ∧ res (List.replicate (passing pz xs.length 0).length .non) (fun j => g ((passing pz xs.length 0).getD j 0)) fun r => ∀ H2, Tb2 P gp H1 H2 → Q r H2
theorem pe_genTF {fn : String} {res : List V → (Nat → V) → (V → Prop) → Prop} {n : Str} {c P : Addr} {elt iter tst : Expr} {xa xb xc : Str} {qa qb qc qt p pos gpos : Pos} {kt : Nat} {scope : Scope} {rd : QT} {rt : QB} {te : TE} {k : Nat} (hf : Eats X fn res)
    (hr : Room k X.A) (hg : Gl X n) (hm : X.mg n = none) (hb : bootBuiltins n = some (.builtin fn)) (TB : TabB X.base X.mg c P) (hcode : X.env.code = .ref c) (S : GenN X.env scope) (la : scope.names.lookup xa = some .local) (lb : scope.names.lookup xb = some .local) (lc : scope.names.lookup xc = some .local) (ab : xa ≠ xb) (ac : xa ≠ xc) (bc : xb ≠ xc) (hi : PE X iter te) (hel : QE X scope [xa, xb, xc] elt rd) (hts : QT1 X scope [xa, xb, xc] tst rt)
    (hs : ∀ v, genFold iter X.env v = pure v) (hn : n ≠ "__name__" := by decide) (hdb : (n == ("__debug__" : Str)) = false := by decide)
    (he : starEach [gE elt iter [.Name xa qa, .Name xb qb, .Name xc qc] kt qt [tst] scope gpos] X.env = (false, eval (gE elt iter [.Name xa qa, .Name xb qb, .Name xc qc] kt qt [tst] scope gpos) X.env) :: starEach [] X.env := by rfl) :
    PE X (.Call (.Name n p) [gE elt iter [.Name xa qa, .Name xb qb, .Name xc qc] kt qt [tst] scope gpos] [] pos) (tGenTF P gpos X.K rd rt res te) := by
  refine ⟨fun pins s σ H Q I h => ?_⟩
  refine wpAny_Call_Name_kw (ld_blt I hg hm hb ?_ hn hdb)
  refine PyProof.Rows.callWith_builtin1 ?_ he (by rfl)
  rw [he]
  refine Calls.spliced_cons (gen_tgtF hr TB hcode S hi hs I h fun v H1 all1 => ?_)
  obtain ⟨⟨ps, hP, trip⟩, a, xs, tp, g, pz, rfl, sq, hpr, l3, tss, els, rz⟩ := all1
  refine ⟨⟨ps, hP, trip⟩, fun s1 xv I1 rel => ?_⟩
  cases rel
  obtain ⟨vals, hv, walk⟩ := walk_tr I1 hP sq hpr
  refine ⟨_, _, _, pz, _, walk, fun C code bi => stores3 S.kind la lb lc ab ac bc fun i li => ?_, tst_named hts I1 hP hv tss, elf_named hel I1 hP hv els, fun ga t rdy => ?_⟩
  · rw [← (hv i li).length]; exact l3 i li
  obtain ⟨fp, wr, G, F', St, W, hF, st, bnd, fin⟩ := rdy
  refine Calls.spliced_nil ?_
  refine hf rz (by rw [List.length_replicate]; exact W) (fun j y hy => ?_) st bnd fun r y t' hZ ry mv => ?_
  · obtain ⟨i, hi, _, r⟩ := hF j y hy
    obtain ⟨hj, ej⟩ := List.getElem?_eq_some_iff.mp hi
    refine ⟨by rw [List.length_replicate]; exact hj, ?_⟩
    show RelV (g ((passing pz xs.length 0).getD j 0)) y
    rw [List.getD_eq_getElem?_getD, hi]
    exact r
  · obtain ⟨H2, tb, J⟩ := fin t' mv
    exact ⟨r, H2, J, ry, hZ H2 tb⟩
end
end Gf

namespace Lz
open PySem PySem.Spec PyProof.Rows L2 GxR
/-! ### list(zip(a, b)) of two lists -/
theorem in5 {b z TO i1 i2 S : Addr} (q : b ∈ [z, TO, i1, i2]) : b ∈ [z, TO, i1, i2, S] := by
  simp only [List.mem_cons, List.not_mem_nil, or_false] at q ⊢
  rcases q with h | h | h | h <;> simp [h]
theorem in7 {b z TI TO i1 i2 l1 l2 : Addr} (q : b ∈ [z, TO, i1, i2]) : b ∈ [z, TI, TO, i1, i2, l1, l2] := by
  simp only [List.mem_cons, List.not_mem_nil, or_false] at q ⊢
  rcases q with h | h | h | h <;> simp [h]
structure ZG (xs ys : Array Value) (lo : Addr) (h : Heap) (ts : List Addr) : Prop where
  rise : ts.Pairwise (· < ·)
  above : ∀ a ∈ ts, lo < a
  pairs : ∀ (j : Nat) (a : Addr), ts[j]? = some a → ∃ x y, xs[j]? = some x ∧ ys[j]? = some y ∧ h.get? a = some { cls := .type "tuple", data := .seq #[x, y] }
theorem ZG.there {xs ys : Array Value} {lo : Addr} {h : Heap} {ts : List Addr} (g : ZG xs ys lo h ts) {a : Addr} (ha : a ∈ ts) : a < h.objs.size := by
  obtain ⟨j, hj⟩ := List.mem_iff_getElem?.mp ha
  obtain ⟨_, _, _, _, e⟩ := g.pairs j a hj
  exact Heap.lt_size e
/-- the zip z over the lists l1, l2, i turns done; S is not among its things -/
structure ZS (h : Heap) (S z TI TO i1 i2 l1 l2 : Addr) (xs ys : Array Value) (i : Nat) : Prop where
  ti : IsPair h TI (.ref i1) (.ref i2)
  it1 : h.IsListIter i1 l1 i
  it2 : h.IsListIter i2 l2 i
  li1 : h.IsList l1 xs
  li2 : h.IsList l2 ys
  st : (IsZip h z TI TO .none ∧ ∃ a b, IsPair h TO a b) ∨ ∃ T f oT, IsZipHeld h z TI TO T f ∧ h.get? T = some oT ∧ T ≠ z ∧ T ≠ i1 ∧ T ≠ i2 ∧ T ≠ S
theorem ZS.keep {h h' : Heap} {S z TI TO i1 i2 l1 l2 : Addr} {xs ys : Array Value} {i : Nat} (x : ZS h S z TI TO i1 i2 l1 l2 xs ys i) (lt : ∀ b ∈ [z, TI, TO, i1, i2, l1, l2], b < S) (k : ∀ b o, b ≠ S → h.get? b = some o → h'.get? b = some o) : ZS h' S z TI TO i1 i2 l1 l2 xs ys i := by
  have ne : ∀ b ∈ [z, TI, TO, i1, i2, l1, l2], b ≠ S := fun b hb => Nat.ne_of_lt (lt b hb)
  refine ⟨k _ _ (ne _ (by simp)) x.ti, x.it1.at fun o e => k _ o (ne _ (by simp)) e, x.it2.at fun o e => k _ o (ne _ (by simp)) e, x.li1.at fun o e => k _ o (ne _ (by simp)) e, x.li2.at fun o e => k _ o (ne _ (by simp)) e, ?_⟩
  rcases x.st with ⟨a, b, c, d⟩ | ⟨T, f, oT, a, b, c1, c2, c3, c4⟩
  · exact .inl ⟨k _ _ (ne _ (by simp)) a, b, c, k _ _ (ne _ (by simp)) d⟩
  · exact .inr ⟨T, f, oT, k _ _ (ne _ (by simp)) a, k _ _ c4 b, c1, c2, c3, c4⟩
section
variable {prog : Program} {w : World} {A : Around} {E : Value → Shared → Prop} {s : Shared}
theorem zs_item {S z TI TO i1 i2 l1 l2 : Addr} {xs ys : Array Value} {i : Nat} {x y : Value} {Q : Option Value → Shared → Prop} (D : ZipApart z TI TO i1 i2 l1 l2) (Z : ZS s.heap S z TI TO i1 i2 l1 l2 xs ys i) (hS : S < s.heap.objs.size) (hx : xs[i]? = some x) (hy : ys[i]? = some y)
    (hQ : ∀ h', ZS h' S z TI TO i1 i2 l1 l2 xs ys (i + 1) → h'.get? s.heap.objs.size = some { cls := .type "tuple", data := .seq #[x, y] } → h'.objs.size = s.heap.objs.size + 1 → (∀ b o, b ∉ [z, TO, i1, i2] → s.heap.get? b = some o → h'.get? b = some o) → Q (some (.ref s.heap.objs.size)) { s with heap := h' }) :
    wpAny (model prog w) A (pyNext (.ref z)) Q E s := by
  obtain ⟨hTI, h1, h2, hl1, hl2, hz⟩ := Z
  have lt : ∀ {c : Addr} {o : Obj}, s.heap.get? c = some o → s.heap.objs.size ≠ c := fun e => Nat.ne_of_gt (Heap.lt_size e)
  have n1 : s.heap.objs.size ≠ i1 := let ⟨_, e, _⟩ := h1; lt e
  have n2 : s.heap.objs.size ≠ i2 := let ⟨_, e, _⟩ := h2; lt e
  rcases hz with ⟨hz, a, b, hTO⟩ | ⟨T, f, oT, hz, hT, r1, r2, r3, r4⟩
  · refine wpAny_pyNext_zip_item D hz hTI hTO h1 h2 hl1 hl2 hx hy fun h' a1 a2 a3 a4 a5 a6 hk => ?_
    exact hQ h' ⟨hk _ _ D.TIz D.TITO D.TIi1 D.TIi2 hTI, a3, a4, hl1.at fun o e => hk _ o D.l1z D.l1TO D.l1i1 D.l1i2 e, hl2.at fun o e => hk _ o D.l2z D.l2TO D.l2i1 D.l2i2 e, .inr ⟨s.heap.objs.size, false, _, a1, a5, lt hz, n1, n2, Nat.ne_of_gt hS⟩⟩ a5 a6
      fun c o hc e => hk c o (fun x => hc (by simp [x])) (fun x => hc (by simp [x])) (fun x => hc (by simp [x])) (fun x => hc (by simp [x])) e
  · refine wpAny_pyNext_zip_item_held D hz hT hTI h1 h2 hl1 hl2 hx hy fun h' a1 a3 a4 a5 a6 hk => ?_
    exact hQ h' ⟨hk _ _ D.TIz D.TIi1 D.TIi2 hTI, a3, a4, hl1.at fun o e => hk _ o D.l1z D.l1i1 D.l1i2 e, hl2.at fun o e => hk _ o D.l2z D.l2i1 D.l2i2 e, .inr ⟨T, true, oT, a1, hk _ _ r1 r2 r3 hT, r1, r2, r3, r4⟩⟩ a5 a6
      fun c o hc e => hk c o (fun x => hc (by simp [x])) (fun x => hc (by simp [x])) (fun x => hc (by simp [x])) e
theorem zs_end {S z TI TO i1 i2 l1 l2 : Addr} {xs ys : Array Value} {i : Nat} {Q : Option Value → Shared → Prop} (hh : A.handled = none) (D : ZipApart z TI TO i1 i2 l1 l2) (Z : ZS s.heap S z TI TO i1 i2 l1 l2 xs ys i) (hx : xs[i]? = none ∨ ys[i]? = none)
    (hQ : ∀ h', (∀ b o, b ∉ [z, TO, i1, i2] → s.heap.get? b = some o → h'.get? b = some o) → Q none { s with heap := h' }) : wpAny (model prog w) A (pyNext (.ref z)) Q E s := by
  obtain ⟨hTI, h1, h2, hl1, hl2, hz⟩ := Z
  rcases hz with ⟨hz, a, b, hTO⟩ | ⟨T, f, oT, hz, hT, r1, r2, r3, r4⟩
  · exact wpAny_pyNext_zip_end hh D hz hTI hTO h1 h2 hl1 hl2 hx fun h' hk => hQ h' fun c o hc e => hk c o (fun x => hc (by simp [x])) (fun x => hc (by simp [x])) (fun x => hc (by simp [x])) (fun x => hc (by simp [x])) e
  · exact wpAny_pyNext_zip_end_held hh D hz hT hTI h1 h2 hl1 hl2 hx fun h' hk => hQ h' fun c o hc e => hk c o (fun x => hc (by simp [x])) (fun x => hc (by simp [x])) (fun x => hc (by simp [x])) e
theorem zl_loop {S z TI TO i1 i2 l1 l2 : Addr} {xs ys : Array Value} {R : Result → Shared → Prop} (hh : A.handled = none) (D : ZipApart z TI TO i1 i2 l1 l2) (lt : ∀ b ∈ [z, TI, TO, i1, i2, l1, l2], b < S) (hxy : xs.size = ys.size) (hn : xs.size ≤ sizeLine) (res : Value) {h₁ : Heap} (new : ∀ b ∈ [z, TO, i1, i2, S], h₁.objs.size ≤ b)
    (hR : ∀ h' tk acc c ts, (∀ b o, h₁.get? b = some o → h'.get? b = some o) → h'.get? S = some { cls := .type "list", dict := none, data := .seq acc c, slots := #[] } → ts.length = xs.size → ZG xs ys S h' ts → acc.toList = ts.map Value.ref → R (.ok (.ret res)) { s with heap := h', toks := tk }) :
    ∀ (k i : Nat) (h : Heap) (tk c : Nat) (acc : Array Value) (ts : List Addr), xs.size - i = k → i ≤ xs.size → ZS h S z TI TO i1 i2 l1 l2 xs ys i → (∀ b o, h₁.get? b = some o → h.get? b = some o) →
      h.get? S = some { cls := .type "list", dict := none, data := .seq acc c, slots := #[] } → acc.toList = ts.map Value.ref → ts.length = i → ZG xs ys S h ts →
      codeAny (model prog w) A (.builtin "list.extend.loop" ⟨[.ref S, .ref z, res], []⟩) R { s with heap := h, toks := tk } := by
  have low : ∀ b o, h₁.get? b = some o → b ∉ [z, TO, i1, i2] ∧ b ≠ S := fun b o e => ⟨fun q => absurd (Heap.lt_size e) (Nat.not_lt.mpr (new b (in5 q))), fun q => absurd (Heap.lt_size e) (Nat.not_lt.mpr (new b (by simp [q])))⟩
  have nS : S ∉ [z, TO, i1, i2] := fun q => Nat.lt_irrefl S (lt S (in7 q))
  have far : ∀ {h : Heap} {ts : List Addr}, ZG xs ys S h ts → ∀ a ∈ ts, a ∉ [z, TO, i1, i2] ∧ a ≠ S := fun g a ha => ⟨fun q => absurd (g.above a ha) (Nat.not_lt.mpr (Nat.le_of_lt (lt a (in7 q)))), Nat.ne_of_gt (g.above a ha)⟩
  intro k
  induction k with
  | zero =>
    intro i h tk c acc ts hk hi hst hkeep hS hacc hal hG
    refine codeAny_builtin PySem.F.entry_extend_loop ?_
    rw [Around.under_plainId PySem.F.plain_extend_loop _]
    show wpAny _ A.in1 (pyNext (.ref z) >>= _) _ _ _
    refine wpAny_bind (zs_end (s := { s with heap := h, toks := tk }) (A := A.in1) hh D hst (.inl (by rw [Array.getElem?_eq_none (by omega)])) fun h' he => ?_)
    refine wpAny_pure (hR h' tk acc c ts (fun b o e => he b o (low b o e).1 (hkeep b o e)) (he S _ nS hS) (by omega) ⟨hG.rise, hG.above, fun j a hj => ?_⟩ hacc)
    obtain ⟨x, y, e1, e2, e3⟩ := hG.pairs j a hj
    exact ⟨x, y, e1, e2, he a _ (far hG a (List.mem_of_getElem? hj)).1 e3⟩
  | succ k ih =>
    intro i h tk c acc ts hk hi hst hkeep hS hacc hal hG
    have hlt : i < xs.size := by omega
    have hx := Array.getElem?_eq_getElem hlt
    have hy := Array.getElem?_eq_getElem (show i < ys.size by omega)
    have hsz : acc.size = i := by rw [← Array.length_toList, hacc, List.length_map, hal]
    have hSl : S < h.objs.size := Heap.lt_size hS
    refine codeAny_builtin PySem.F.entry_extend_loop ?_
    rw [Around.under_plainId PySem.F.plain_extend_loop _]
    show wpAny _ A.in1 (pyNext (.ref z) >>= _) _ _ _
    refine wpAny_bind (zs_item (s := { s with heap := h, toks := tk }) D hst hSl hx hy fun h' hst' ht hz hkp => ?_)
    dsimp only at ht hz hkp ⊢
    have hS' := hkp S _ nS hS
    have up : ∀ b o, b ≠ S → h'.get? b = some o → (h'.update S (Obj.mapSeq (·.push (Value.ref h.objs.size)))).get? b = some o := fun b o hb e => (Heap.get?_update_other _ _ (Ne.symm hb)).trans e
    show wpAny _ A.in1 (updateSeq S (·.push (Value.ref h.objs.size)) >>= _) _ _ _
    refine wpAny_bind ?_
    refine wpAny_updateSeq hS' rfl (wpAny_pure ⟨plainId_quiet PySem.F.plain_extend_loop _, ih (i + 1) _ tk _ (acc.push (Value.ref h.objs.size)) (ts ++ [h.objs.size]) (by omega) hlt (hst'.keep lt up)
      (fun b o e => up b o (low b o e).2 (hkp b o (low b o e).1 (hkeep b o e))) (Heap.get?_update_self _ hS' rfl) (by rw [Array.toList_push, hacc, List.map_append]; rfl) (by rw [List.length_append, hal]; rfl) ⟨?_, ?_, ?_⟩⟩) (by rw [hsz]; omega) (by show (acc.push (Value.ref h.objs.size)).size ≤ sizeLine + 1; rw [Array.size_push, hsz]; omega)
    · refine List.pairwise_append.mpr ⟨hG.rise, List.pairwise_singleton _ _, fun a ha b hb => ?_⟩
      rw [List.mem_singleton.mp hb]
      exact hG.there ha
    · intro a ha
      rcases List.mem_append.mp ha with q | q
      · exact hG.above a q
      · rw [List.mem_singleton.mp q]; exact hSl
    · intro j a hj
      by_cases hjl : j < ts.length
      · rw [List.getElem?_append_left hjl] at hj
        obtain ⟨x, y, e1, e2, e3⟩ := hG.pairs j a hj
        obtain ⟨f1, f2⟩ := far hG a (List.mem_of_getElem? hj)
        exact ⟨x, y, e1, e2, up a _ f2 (hkp a _ f1 e3)⟩
      · have hl := (List.getElem?_eq_some_iff.mp hj).1
        rw [List.length_append, List.length_singleton] at hl
        obtain rfl : j = i := by omega
        rw [List.getElem?_append_right (by omega), hal, Nat.sub_self] at hj
        cases hj
        exact ⟨_, _, hx, hy, up _ _ (Nat.ne_of_gt hSl) ht⟩
theorem zip_no_len : typeLookup (.type "zip") "__len__" = pure none := am_miss_of_fast (by decide +kernel)
theorem zip_no_hint : typeLookup (.type "zip") "__length_hint__" = pure none := am_miss_of_fast (by decide +kernel)
theorem zl_call {z TI TO i1 i2 l1 l2 : Addr} {xs ys : Array Value} {Q : Value → Shared → Prop} (hh : A.handled = none) (D : ZipApart z TI TO i1 i2 l1 l2) {h₁ : Heap} (new : ∀ b ∈ [z, TO, i1, i2], h₁.objs.size ≤ b) (old : ∀ b o, h₁.get? b = some o → s.heap.get? b = some o) (hxy : xs.size = ys.size) (hn : xs.size ≤ sizeLine)
    (hz : IsZip s.heap z TI TO .none) (hTI : IsPair s.heap TI (.ref i1) (.ref i2)) (hTO : ∃ a b, IsPair s.heap TO a b) (h1 : s.heap.IsListIter i1 l1 0) (h2 : s.heap.IsListIter i2 l2 0) (hl1 : s.heap.IsList l1 xs) (hl2 : s.heap.IsList l2 ys) (hle : h₁.objs.size ≤ s.heap.objs.size)
    (hR : ∀ h' tk acc c ts, (∀ b o, h₁.get? b = some o → h'.get? b = some o) → h'.get? s.heap.objs.size = some { cls := .type "list", dict := none, data := .seq acc c, slots := #[] } → ts.length = xs.size → ZG xs ys s.heap.objs.size h' ts → acc.toList = ts.map Value.ref → Q (.ref s.heap.objs.size) { s with heap := h', toks := tk }) :
    wpAny (model prog w) A (call (.type "list") [.ref z]) Q E s := by
  have lt : ∀ b ∈ [z, TI, TO, i1, i2, l1, l2], b < s.heap.objs.size := fun b hb => by
    obtain ⟨a, b', hTO⟩ := hTO
    obtain ⟨o1, g1, _⟩ := h1
    obtain ⟨o2, g2, _⟩ := h2
    obtain ⟨o3, g3, _⟩ := hl1
    obtain ⟨o4, g4, _⟩ := hl2
    simp only [List.mem_cons, List.not_mem_nil, or_false] at hb
    rcases hb with rfl | rfl | rfl | rfl | rfl | rfl | rfl
    all_goals first | exact Heap.lt_size hz | exact Heap.lt_size hTI | exact Heap.lt_size hTO | exact Heap.lt_size g1 | exact Heap.lt_size g2 | exact Heap.lt_size g3 | exact Heap.lt_size g4
  refine callType_codes (Q₁ := fun obj s₁ => obj = .ref s.heap.objs.size ∧ s₁ = { s with heap := s.heap.push { cls := .type "list", data := .seq #[] } }) PySem.F.called_list (PySem.F.typeCall_list_1 _) PySem.F.entry_list_init
    (code_list_new _ ⟨rfl, rfl⟩) fun obj s₁ q₁ => ?_
  obtain ⟨rfl, rfl⟩ := q₁
  have hS : (s.heap.push { cls := .type "list", data := .seq #[] }).get? s.heap.objs.size = some { cls := .type "list", data := .seq #[] } := Heap.get?_push_size _ rfl
  have hSz : s.heap.objs.size ≠ z := Nat.ne_of_gt (lt z (by simp))
  refine ⟨⟨_, hS, rfl⟩, PySem.F.args_list_init_2 _ _, ?_⟩
  show wpAny _ A.in1.in1 (do let old ← Builtin.List.listItems (.ref s.heap.objs.size); Builtin.List.listUpdate (.ref s.heap.objs.size) (fun _ => #[]); letGo old.toList.reverse; Builtin.List.listExtendWith (.ref s.heap.objs.size) (.ref z) .none) _ _ _
  refine wpAny_bind ?_
  unfold Builtin.List.listItems
  refine wpAny_bind (wpAny_seqItems hS rfl (wpAny_pure ?_))
  show wpAny _ A.in1.in1 (updateSeq s.heap.objs.size (fun _ => #[]) >>= fun _ => letGo (#[] : Array Value).toList.reverse >>= fun _ => Builtin.List.listExtendWith (.ref s.heap.objs.size) (.ref z) .none) _ _ _
  refine wpAny_bind (wpAny_updateSeq hS rfl ?_)
  have hS2 := Heap.get?_update_self (Obj.mapSeq (fun _ => (#[] : Array Value))) hS rfl
  refine wpAny_bind (wpAny_letGo ?_)
  unfold Builtin.List.listExtendWith
  have up : ∀ (h : Heap) (f : Obj → Obj), (∀ b o, s.heap.get? b = some o → h.get? b = some o) → ∀ b o, s.heap.get? b = some o → (h.update s.heap.objs.size f).get? b = some o := fun h f q b o e =>
    (Heap.get?_update_other _ _ (Ne.symm (Nat.ne_of_lt (Heap.lt_size e)))).trans (q b o e)
  have k1 : ∀ b o, s.heap.get? b = some o → (s.heap.push { cls := .type "list", data := .seq #[] }).get? b = some o := fun b o e => Heap.get?_push_of_some _ e
  have k2 := up _ (Obj.mapSeq (fun _ => (#[] : Array Value))) k1
  have hTy : ∀ {t : Shared}, (∀ b o, s.heap.get? b = some o → t.heap.get? b = some o) → t.TypeIs (.ref z) "zip" := fun {t} q => ⟨_, q _ _ hz, rfl⟩
  refine wpAny_bind (wpAny_typeOf (hTy k2) ?_)
  have e1 : Builtin.List.listSameRef (.ref s.heap.objs.size) (.ref z) = false := by simp [Builtin.List.listSameRef, hSz]
  have e2 : (Value.type "zip" == Value.type "list") = false := by decide
  have e3 : (Value.type "zip" == Value.type "tuple") = false := by decide
  simp only [e1, e2, e3, Bool.or_false, Bool.false_eq_true, if_false]
  refine wpAny_bind (wpAny_pyIter_zip (k2 _ _ hz) ?_)
  refine wpAny_bind (wpAny_holding ?_)
  unfold Builtin.List.listLengthHint
  refine wpAny_bind (wpAny_specialOf (hTy k2) zip_no_len ?_)
  show wpAny _ A.in1.in1 (specialOf (Value.ref z) (Str.ofString "__length_hint__") >>= _) _ _ _
  refine wpAny_bind (wpAny_specialOf (hTy k2) zip_no_hint ?_)
  refine wpAny_pure ?_
  show wpAny _ A.in1.in1 (rule "list.extend.makes-room" >>= fun _ => Builtin.List.listTouch (.ref s.heap.objs.size) >>= fun _ =>
    again (.builtin "list.extend.loop" ⟨[.ref s.heap.objs.size, .ref z, .none], []⟩)) _ _ _
  refine wpAny_bind (wpAny_rule ?_)
  refine wpAny_bind ?_
  show wpAny _ A.in1.in1 (updateSeq s.heap.objs.size (·.push .none) >>= fun _ => updateSeq s.heap.objs.size (·.pop)) _ _ _
  refine wpAny_bind (wpAny_updateSeq hS2 rfl ?_)
  have hS3 := Heap.get?_update_self (Obj.mapSeq (·.push Value.none)) hS2 rfl
  refine wpAny_updateSeq (hz := by seq_fits) hS3 rfl ?_
  have hS4 := Heap.get?_update_self (Obj.mapSeq (·.pop)) hS3 rfl
  have k4 := up _ (Obj.mapSeq (·.pop)) (up _ (Obj.mapSeq (·.push Value.none)) k2)
  refine wpAny_pure ⟨plainId_quiet PySem.F.plain_extend_loop _, ?_⟩
  refine zl_loop (s := s) (A := A.in1) (h₁ := h₁) hh D lt hxy hn .none (fun b hb => ?_) (fun h' tk acc c ts q1 q2 q3 q4 q5 => ⟨rfl, hR h' tk acc c ts q1 q2 q3 q4 q5⟩) xs.size 0 _ s.toks _ #[] [] (Nat.sub_zero _) (Nat.zero_le _)
    ⟨k4 _ _ hTI, h1.at fun o e => k4 _ o e, h2.at fun o e => k4 _ o e, hl1.at fun o e => k4 _ o e, hl2.at fun o e => k4 _ o e, .inl ⟨k4 _ _ hz, let ⟨a, b, e⟩ := hTO; ⟨a, b, k4 _ _ e⟩⟩⟩ (fun b o e => k4 b o (old b o e)) hS4 rfl rfl ⟨List.Pairwise.nil, (fun _ ha => nomatch ha), (fun j a hj => by simp at hj)⟩
  rcases (show b ∈ [z, TO, i1, i2] ∨ b = s.heap.objs.size by
    simp only [List.mem_cons, List.not_mem_nil, or_false] at hb ⊢
    rcases hb with h | h | h | h | h <;> simp [h]) with q | q
  · exact new b q
  · rw [q]; exact hle
end
def putZ (H : Hp) : List Addr → List (V × V) → Hp
  | t :: ts, p :: ps => L2.upd (putZ H ts ps) t (.tup [p.1, p.2])
  | _, _ => H
theorem refs_vals : ∀ ts : List Addr, Vals (ts.map V.ref) (ts.map Value.ref)
  | [] => .nil
  | _ :: ts => .cons rfl (refs_vals ts)
theorem putZ_off {H : Hp} {a : Addr} : ∀ {ts : List Addr} {ps : List (V × V)}, a ∉ ts → putZ H ts ps a = H a
  | [], _, _ => by simp [putZ]
  | _ :: _, [], _ => by simp [putZ]
  | t :: ts, p :: ps, h => by
    unfold putZ
    rw [upd_ne (fun e => h (by rw [e]; exact List.mem_cons_self))]
    exact putZ_off fun q => h (List.mem_cons_of_mem _ q)
theorem putZ_at {H : Hp} : ∀ {ts : List Addr} {ps : List (V × V)} {j : Nat} {t : Addr} {p : V × V}, ts.Nodup → ts[j]? = some t → ps[j]? = some p → putZ H ts ps t = some (.tup [p.1, p.2])
  | [], _, _, _, _, _, h, _ => by simp at h
  | _ :: _, [], _, _, _, _, _, h => by simp at h
  | t :: ts, p :: ps, 0, u, q, _, h1, h2 => by
    cases h1
    cases h2
    unfold putZ
    exact upd_same
  | t :: ts, p :: ps, j + 1, u, q, nd, h1, h2 => by
    have h1' : ts[j]? = some u := h1
    have z := List.nodup_cons.mp nd
    unfold putZ
    rw [upd_ne (fun e => z.1 (by rw [← e]; exact List.mem_of_getElem? h1'))]
    exact putZ_at z.2 h1' h2
section
variable {X : Cx} {pins : List (Addr × Obj)} {σ : L2.St} {H : Hp} {s : Shared}
theorem zip_laid {h' : Heap} {tk : Nat} {S : Addr} {xs ys : List V} {us vs : List Value} {acc : Array Value} {c : Nat} {ts : List Addr} (I : Inv X pins σ H s) (rx : Vals xs us) (ry : Vals ys vs) (hlen : xs.length = ys.length) (hz : xs.length ≤ sizeLine) (hle : s.heap.objs.size ≤ S)
    (hk : ∀ b o, s.heap.get? b = some o → h'.get? b = some o) (hS : h'.get? S = some { cls := .type "list", dict := none, data := .seq acc c, slots := #[] }) (hl : ts.length = us.toArray.size) (hG : ZG us.toArray vs.toArray S h' ts) (hacc : acc.toList = ts.map Value.ref) :
    ∃ H' : Hp, (∀ b o, H b = some o → H' b = some o) ∧ H S = none ∧ H' S = some (.lst (ts.map V.ref)) ∧ ts.length = xs.length ∧ (∀ (j : Nat) (t : Addr), ts[j]? = some t → ∃ x y, xs[j]? = some x ∧ ys[j]? = some y ∧ H' t = some (.tup [x, y])) ∧ (∀ t, t ∈ ts → H t = none) ∧ Inv X pins σ H' { s with heap := h', toks := tk } := by
  have lx : ts.length = xs.length := by rw [hl, rx.length]; simp
  have lz : (xs.zip ys).length = ts.length := by rw [List.length_zip, ← hlen, Nat.min_self, lx]
  have hSn : S ∉ ts := fun z => Nat.lt_irrefl _ (hG.above _ z)
  have nd : ts.Nodup := List.Pairwise.imp (fun {a b} (h : a < b) => Nat.ne_of_lt h) hG.rise
  have new : ∀ t ∈ ts, H t = none := fun t ht => I.hok.fresh (Nat.le_trans hle (Nat.le_of_lt (hG.above t ht)))
  have newS : H S = none := I.hok.fresh hle
  have off : ∀ b, b ∉ ts → b ≠ S → putZ (L2.upd H S (.lst (ts.map V.ref))) ts (xs.zip ys) b = H b := fun b h1 h2 => by rw [putZ_off h1, upd_ne h2]
  have low : ∀ b o, s.heap.get? b = some o → b ∉ ts ∧ b ≠ S := fun b o e => ⟨fun z => absurd (Heap.lt_size e) (Nat.not_lt.mpr (Nat.le_trans hle (Nat.le_of_lt (hG.above b z)))), Nat.ne_of_lt (Nat.lt_of_lt_of_le (Heap.lt_size e) hle)⟩
  have kp : ∀ b u, H b = some u → (putZ (L2.upd H S (.lst (ts.map V.ref))) ts (xs.zip ys)) b = some u := fun b u e => by
    rw [off b (fun z => by rw [new b z] at e; cases e) (fun z => by rw [z, newS] at e; cases e)]
    exact e
  have eS : putZ (L2.upd H S (.lst (ts.map V.ref))) ts (xs.zip ys) S = some (.lst (ts.map V.ref)) := by rw [putZ_off hSn, upd_same]
  have at_ : ∀ (j : Nat) (t : Addr), ts[j]? = some t → ∃ x y, xs[j]? = some x ∧ ys[j]? = some y ∧ putZ (L2.upd H S (.lst (ts.map V.ref))) ts (xs.zip ys) t = some (.tup [x, y]) := fun j t e => by
    have hj : j < ts.length := (List.getElem?_eq_some_iff.mp e).1
    have hx : xs[j]? = some xs[j] := List.getElem?_eq_getElem (by omega)
    have hy : ys[j]? = some ys[j] := List.getElem?_eq_getElem (by omega)
    exact ⟨_, _, hx, hy, putZ_at (p := (xs[j], ys[j])) nd e (by rw [List.getElem?_zip_eq_some]; exact ⟨hx, hy⟩)⟩
  refine ⟨_, kp, newS, eS, lx, at_, new, ?_⟩
  refine I.call' (ch := []) rfl ⟨fun b o q _ _ _ => hk b o q, fun b o q _ _ _ => ⟨o.slots, hk b o q⟩, fun b o q n _ => ?_, fun b o q _ => ⟨o, hk b o q⟩, fun b xs q => kp b _ q, fun b o u q => kp b _ q, fun b ps q => ⟨#[], by rw [kp b _ q]; simp⟩⟩ (fun b u q => ?_) I.bare fun b z => by simp at z
  · obtain ⟨z1, z2⟩ := low b o q
    rw [off b z1 z2]
    exact n
  · by_cases hb : b ∈ ts
    · obtain ⟨j, e1⟩ := List.mem_iff_getElem?.mp hb
      obtain ⟨x, y, f1, f2, f3⟩ := at_ j b e1
      rw [f3] at q
      cases q
      obtain ⟨u, v, g1, g2, g3⟩ := hG.pairs j b e1
      obtain ⟨u', w1, w2⟩ := rx.get f1
      obtain ⟨v', w3, w4⟩ := ry.get f2
      rw [List.getElem?_toArray, w1] at g1
      rw [List.getElem?_toArray, w3] at g2
      cases g1
      cases g2
      exact ⟨by show 2 ≤ sizeLine; decide, [u, v], .cons w2 (.cons w4 .nil), ⟨_, g3, rfl, _, rfl⟩⟩
    · by_cases hb2 : b = S
      · rw [hb2] at q ⊢
        rw [eS] at q
        cases q
        refine ⟨by rw [List.length_map]; omega, acc.toList, c, by rw [hacc]; exact refs_vals ts, ?_⟩
        rw [Array.toArray_toList]
        exact hS
      · rw [off b hb hb2] at q
        exact (I.hok b u q).stay (fun d v _ y => hk d v y) (fun d y => kp d _ y) fun d xs y => kp d _ y
/-- list(zip(a, b)) of two lists of the same length -/
def tListZip (K : PySem.W.Frag) (ta : TA) : TE := fun σ H Q => ta σ H fun vs H1 => ∃ (a b : Addr) (xs ys : List V), vs = [.ref a, .ref b] ∧ SqL K H1 a xs ∧ SqL K H1 b ys ∧ xs.length = ys.length ∧
  ∀ (S : Addr) (ts : List Addr) (H2 : Hp), (∀ b o, H1 b = some o → H2 b = some o) → H1 S = none → H2 S = some (.lst (ts.map V.ref)) → ts.length = xs.length → (∀ (j : Nat) (t : Addr), ts[j]? = some t → ∃ x y, xs[j]? = some x ∧ ys[j]? = some y ∧ H2 t = some (.tup [x, y])) → (∀ t, t ∈ ts → H1 t = none) → Q (.ref S) H2
theorem pe_listZip {a b : Expr} {ta : TA} {p q pos cpos : Pos} (hc : X.calm = true) (hg : Gl X "list") (hm : X.mg "list" = none) (hg2 : Gl X "zip") (hm2 : X.mg "zip" = none) (ha : PA X [a, b] ta)
    (hs : starEach [.Call (.Name "zip" q) [a, b] [] cpos] X.env = (false, eval (.Call (.Name "zip" q) [a, b] [] cpos) X.env) :: starEach [] X.env := by rfl)
    (hs2 : starEach [a, b] X.env = (false, eval a X.env) :: starEach [b] X.env := by rfl) (hpl : (backTo cpos (starEach [b] X.env)).any (·.1) = false := by rfl) :
    PE X (.Call (.Name "list" p) [.Call (.Name "zip" q) [a, b] [] cpos] [] pos) (tListZip X.K ta) := by
  refine ⟨fun pins s σ H Q I hq => ?_⟩
  refine wpAny_Call_Name_kw (ld_blt I hg hm (show bootBuiltins "list" = some (.type "list") by decide +kernel) ?_)
  refine PyProof.Rows.callWith_type1 ?_ hs rfl
  rw [hs]
  show wpAny _ _ (spliced ((false, eval (.Call (.Name "zip" q) [a, b] [] cpos) X.env) :: backTo pos (starEach [] X.env))) _ _ s
  refine Calls.spliced_cons ?_
  refine Call_ (ld_blt I hg2 hm2 PyProof.Rows.boot_zip (PyProof.Rows.callWith_type1 (thn (ha.run cpos pins s σ H _ I hq) fun us s1 ⟨vs, H1, I1, r1, q1⟩ => ?_) hs2 hpl))
  obtain ⟨a, b, xs, ys, ex, hqx, hqy, hlen, q⟩ := q1
  subst ex
  cases r1 with
  | cons r rr =>
    cases rr with
    | cons r' rr =>
      cases rr
      cases r
      cases r'
      obtain ⟨its, rv, p1, hz1⟩ := I1.list hqx
      obtain ⟨its2, rv2, p2, _⟩ := I1.list hqy
      have la : a < s1.heap.objs.size := p1.lt
      have lb : b < s1.heap.objs.size := p2.lt
      refine call_zip_2 p1.isList p2.isList fun h' hz hTI hTO h1 h2 hsz hk => ?_
      refine Calls.spliced_nil ?_
      have l1 := rv.length
      have l2 := rv2.length
      refine zl_call (s := { s1 with heap := h' }) (h₁ := s1.heap) (I1.ok.hd hc) (PySem.W.ktu_apart s1.heap.objs.size a b la lb) (fun c hcm => ?_) hk (by simp; omega) (by simp; omega) hz hTI ⟨_, _, hTO⟩ h1 h2 (p1.isList.at fun o e => hk _ o e) (p2.isList.at fun o e => hk _ o e) (by show s1.heap.objs.size ≤ h'.objs.size; omega) fun h2' tk acc c ts k1 k2 k3 k4 k5 => ?_
      · have e' : c = s1.heap.objs.size + 4 ∨ c = s1.heap.objs.size + 3 ∨ c = s1.heap.objs.size ∨ c = s1.heap.objs.size + 1 := by simpa using hcm
        rcases e' with z | z | z | z
        · rw [z]; exact Nat.le_add_right _ _
        · rw [z]; exact Nat.le_add_right _ _
        · rw [z]; exact Nat.le_refl _
        · rw [z]; exact Nat.le_add_right _ _
      · obtain ⟨H', m1, m2, m3, m4, m5, m6, J⟩ := zip_laid (tk := tk) (S := h'.objs.size) I1 rv rv2 hlen hz1 (by omega) k1 k2 k3 k4 k5
        exact ⟨.ref _, H', J, rfl, q _ ts H' m1 m2 m3 m4 m5 m6⟩
/-! ### d.update(e) of two dicts -/
def mrgK (kvs more : List (Key × V)) : List (Key × V) := more.foldl (fun acc kv => putK acc kv.1 kv.2) kvs
theorem mrg_kv : ∀ {more : List (Key × V)} {ms : List (Key × Value)} {kvs : List (Key × V)} {vs : List (Key × Value)}, KV kvs vs → KV more ms → KV (mrgK kvs more) (merged vs ms)
  | _, _, _, _, r, .nil => r
  | (k, v) :: more, (k', u) :: ms, kvs, vs, r, .cons q t => by
    obtain ⟨e, q⟩ := q
    have e' : k = k' := e
    subst e'
    exact mrg_kv (more := more) (ms := ms) (kvs := putK kvs k v) (vs := stored vs k u) (r.put k q) t
theorem mrg_len : ∀ (more kvs : List (Key × V)), (mrgK kvs more).length ≤ kvs.length + more.length
  | [], kvs => Nat.le_refl _
  | (k, v) :: more, kvs => by
    have := mrg_len more (putK kvs k v)
    have := length_putK kvs k v
    show (mrgK (putK kvs k v) more).length ≤ _
    simp only [List.length_cons]
    omega
def rUpd : V → List V → Hp → VK → Prop := fun x vs H Q => ∃ (d e : Addr) (kvs more : List (Key × V)), x = .ref d ∧ vs = [.ref e] ∧ d ≠ e ∧ H d = some (.dK kvs) ∧ H e = some (.dK more) ∧ kvs.length + more.length ≤ sizeLine ∧ Q .non (L2.upd H d (.dK (mrgK kvs more)))
theorem mt_update : MtR X "dict.update" rUpd := by
  intro pins s σ H x vs v us Q I rx rv h
  obtain ⟨d, e, kvs, more, rfl, rfl, ne, hd, he, hz, q⟩ := h
  cases rx
  obtain ⟨u, rfl, ru⟩ := Vals.one rv
  cases ru
  obtain ⟨z1, s1, vs1, r1, d1⟩ := dk_of I.hok hd
  obtain ⟨z2, s2, vs2, r2, d2⟩ := dk_of I.hok he
  have l1 := r1.length
  have l2 := r2.length
  refine call_meetsIn PySem.F.slot_dict_update d1.typeIs PySem.F.entry_dict_update (PySem.F.args_dict_update_2 _ _) (meets_dict_update (mixKind X.prog X.w) d e ne s2) ⟨vs1, vs2, d1, d2, by omega, fun h' hd' he' hs => ?_⟩
  have hl := mrg_len more kvs
  refine ⟨.non, _, d_write (t' := s.toks) I (by rw [hd]; exact True.intro) hs (let ⟨q, _, _, hq, _⟩ := hd'; ⟨q, hq⟩) (dk_new (by omega) s1 (mrg_kv r1 r2) hd'), rfl, q⟩
end
end Lz

namespace Gq
open PySem PySem.Spec PyProof.Rows L2 GxR
/-! ### min(xs, key=lambda x: x[i]) -/
/-- lambda x: x[i], without names of the def around -/
structure LamI (scope : Scope) (params : Arguments) (body : Expr) (x : Str) : Prop where
  kind : scope.kind = .function
  co : scope.isCoroutine = false
  gen : scope.isGenerator = false
  cell : ∀ y ∈ scope.names, y.2 ≠ .cell
  loc : scope.names.lookup x = some .local
  free : ∀ y ∈ scope.names, y.2 ≠ .free
  dbg : (x == ("__debug__" : Str)) = false
  bind : ∀ (q : Str) (cl : List (Str × Addr)) (pm cv ctv v : Value), bindArgs (PySem.W.kla_fn "<lambda>" q params body scope cl pm cv ctv) { pos := [v] } = pure [(x, v)]
theorem lam_ix {prog : Program} {w : World} {A : Around} {scope : Scope} {params : Arguments} {x : Str} {i : Nat} {j : Nat} {px pc pos : Pos} (L : LamI scope params (.Subscript (.Name x px) (.Constant (.int (i : Int)) j pc) pos) x) {t : Shared} {f a : Addr} {q : Str} {cl : List (Str × Addr)} {pm cv ctv : Value} {its : Array Value} {k : Value}
    (hd : A.handled = none) (dp : A.depth < recursionLimit) (hf : t.heap.get? f = some { cls := .type "function", data := .func (PySem.W.kla_fn "<lambda>" q params (.Subscript (.Name x px) (.Constant (.int (i : Int)) j pc) pos) scope cl pm cv ctv) }) (hc : t.heap.CodeRec cv q) (nl : t.heap.NoLimit)
    (tp : IsTup t.heap a its) (hi : its[i]? = some k) (hz : its.size ≤ sizeLine) {Q E : Value → Shared → Prop} (hQ : ∀ t', Keeps t t' → Q k t') : wpAny (model prog w) A (call (.ref f) [.ref a]) Q E t := by
  refine wpAny_call (PySem.W.kla_callFunE dp hf rfl L.co L.gen rfl hc ?_)
  rw [L.bind]
  refine wpAny_pure (wpAny_newFunctionEnv L.cell (fun y hy => ?_) (fun h' ns sb => ?_) L.kind)
  · rw [List.mem_singleton.mp hy]; exact L.loc
  have keep : ∀ b o, t.heap.get? b = some o → h'.get? b = some o := fun b o e => by
    rw [sb.2 b (fun z => by rw [z] at e; exact absurd (Heap.lt_size e) (Nat.lt_irrefl _))]
    exact Heap.get?_push_of_some _ e
  refine ⟨nl.keeps keep, PySem.W.kla_codeExpr (Subscript_ (wpAny_Name (wpAny_loadName_local L.kind L.loc ns (v := .ref a) List.lookup_cons_self ?_) L.dbg))⟩
  refine wpAny_Constant_int ?_
  have hj : i < its.size := (Array.getElem?_eq_some_iff.mp hi).1
  have big := line63
  have tp2 : IsTup h' a its := by
    obtain ⟨o, e, r⟩ := tp
    exact ⟨o, keep _ _ e, r⟩
  exact subscriptTail_builtinR (x := k) tp2.typeIs slot_tuple_getitem.lookup (wpAny_mono (getItem_tuple (j := i) (Q := fun r s' => r = k ∧ Q k s') tp2 (by omega) (by omega) (seqIndex_of (Int.natCast_nonneg i) (by omega)) hi ⟨rfl, hQ _ ⟨h', _, rfl, keep⟩⟩) (fun r s' q => by obtain ⟨rfl, h⟩ := q; exact ⟨rfl, h⟩) fun _ _ z => z) rfl
theorem arg_min {ks : Nat → Int} : ∀ n : Nat, argBest (fun a b => decide (ks a < ks b)) n ≤ n ∧ (∀ m, m ≤ n → ks (argBest (fun a b => decide (ks a < ks b)) n) ≤ ks m) ∧ ∀ m, m < argBest (fun a b => decide (ks a < ks b)) n → ks (argBest (fun a b => decide (ks a < ks b)) n) < ks m
  | 0 => ⟨Nat.le_refl _, fun m h => by rw [Nat.le_zero.mp h]; exact Int.le_refl _, fun m h => absurd h (Nat.not_lt_zero _)⟩
  | n + 1 => by
    obtain ⟨h1, h2, h3⟩ := arg_min (ks := ks) n
    have e : argBest (fun a b => decide (ks a < ks b)) (n + 1) = if decide (ks (n + 1) < ks (argBest (fun a b => decide (ks a < ks b)) n)) = true then n + 1 else argBest (fun a b => decide (ks a < ks b)) n := rfl
    rw [e]
    by_cases z : ks (n + 1) < ks (argBest (fun a b => decide (ks a < ks b)) n)
    · rw [if_pos (decide_eq_true z)]
      refine ⟨Nat.le_refl _, fun m h => ?_, fun m h => ?_⟩
      · rcases Nat.lt_or_ge m (n + 1) with y | y
        · exact Int.le_of_lt (Int.lt_of_lt_of_le z (h2 m (by omega)))
        · rw [show m = n + 1 by omega]; exact Int.le_refl _
      · exact Int.lt_of_lt_of_le z (h2 m (by omega))
    · rw [if_neg (by simpa using z)]
      refine ⟨by omega, fun m h => ?_, h3⟩
      rcases Nat.lt_or_ge m (n + 1) with y | y
      · exact h2 m (by omega)
      · rw [show m = n + 1 by omega]; omega
theorem kp_tr {s t u : Shared} (a : Keeps s t) (b : Keeps t u) : Keeps s u := by
  obtain ⟨h1, k1, rfl, f1⟩ := a
  obtain ⟨h2, k2, rfl, f2⟩ := b
  exact ⟨h2, k2, rfl, fun b o e => f2 b o (f1 b o e)⟩
/-- min(xs, key=f) of a list, f being such a lambda -/
theorem min_lam {prog : Program} {w : World} {A : Around} {scope : Scope} {params : Arguments} {x : Str} {i : Nat} {j : Nat} {px pc pos : Pos} (L : LamI scope params (.Subscript (.Name x px) (.Constant (.int (i : Int)) j pc) pos) x) {t : Shared} {f l : Addr} {q : Str} {cl : List (Str × Addr)} {pm cv ctv : Value} {items : Array Value} {ks : Nat → Int}
    (hd : A.handled = none) (dp : A.depth + 2 < recursionLimit) (hf : t.heap.get? f = some { cls := .type "function", data := .func (PySem.W.kla_fn "<lambda>" q params (.Subscript (.Name x px) (.Constant (.int (i : Int)) j pc) pos) scope cl pm cv ctv) }) (hc : t.heap.CodeRec cv q) (nl : t.heap.NoLimit)
    (hl : t.heap.IsList l items) (hn : 0 < items.size) (hk : ∀ (m : Nat) (v : Value), items[m]? = some v → ∃ (a : Addr) (its : Array Value) (tk : Tok), v = .ref a ∧ IsTup t.heap a its ∧ its[i]? = some (.int (ks m) tk) ∧ its.size ≤ sizeLine)
    {Q E : Value → Shared → Prop} (hQ : ∀ (m : Nat) (v : Value) (t' : Shared), items[m]? = some v → (∀ m', m' < m → ks m < ks m') → (∀ m', m' < items.size → ks m ≤ ks m') → Keeps t t' → Q v t') : wpAny (model prog w) A (call (.builtin "min") [.ref l] [("key", .ref f)]) Q E t := by
  have lt : l < t.heap.objs.size := by
    obtain ⟨o, ho, _⟩ := hl
    exact Heap.lt_size ho
  refine call_min_walkK (wpAny_pyIter_list hl ⟨_, _, _, _, _, _, _, fun s => Keeps t s, fun m k _ => ∃ tk, k = .int (ks m) tk, fun a b => decide (ks a < ks b), rfl, (Walks.list (prog := prog) (w := w) (A := A.in1) hd t.heap.objs.size l (Nat.ne_of_lt lt) items).toS, ?_, ?_, hn, ⟨?_, ?_, ?_, ?_⟩, ?_, ?_⟩)
  · exact ⟨⟨_, Heap.get?_push_size _ rfl, rfl, rfl⟩, hl.push _⟩
  · intro b hb
    show b < (t.heap.push _).objs.size
    rw [Heap.size_push]
    simp only [List.mem_cons, List.not_mem_nil, or_false] at hb
    rcases hb with rfl | rfl
    · exact Nat.lt_succ_self _
    · exact Nat.lt_succ_of_lt lt
  · intro s s' ⟨h1, k1, e, f1⟩ mv
    subst e
    refine ⟨s'.heap, s'.toks, ?_, fun b o eb => ?_⟩
    · have g := mv.gens
      have d := mv.drawn
      have o := mv.os
      cases s'
      dsimp only at g d o ⊢
      rw [g, d, o]
    · have hb := Heap.lt_size eb
      refine mv.heap b o (fun m => ?_) (f1 b o eb)
      simp only [List.mem_cons, List.not_mem_nil, or_false] at m
      rcases m with z | z
      · rw [z] at hb
        have hb : (t.heap.push _).objs.size < t.heap.objs.size := hb
        rw [Heap.size_push] at hb
        exact absurd (Nat.lt_of_succ_lt hb) (Nat.lt_irrefl _)
      · rw [z] at hb; exact absurd hb (Nat.lt_irrefl _)
  · exact fun _ _ _ _ h _ => h
  · intro m v s o Q' E' hm hv js st ho kk
    obtain ⟨a, its, tk, rfl, tp, hi, hz⟩ := hk m v hv
    have js' := js
    obtain ⟨h1, k1, rfl, f1⟩ := js
    have tp1 : IsTup h1 a its := by
      obtain ⟨o, e, r⟩ := tp
      exact ⟨o, f1 _ _ e, r⟩
    refine lam_ix (A := A.in1) (t := { heap := h1, gens := t.gens, drawn := t.drawn, toks := k1, os := t.os }) L hd (by show A.depth < _; omega) (f1 _ _ hf) (hc.keeps f1) (nl.keeps f1) tp1 hi hz fun t' kp => ?_
    obtain ⟨h2, k2, rfl, f2⟩ := kp
    refine kk _ _ (kp_tr js' ⟨h2, k2, rfl, f2⟩) ?_ (f2 _ _ ho) ⟨_, rfl⟩ fun _ _ h => h
    exact (Walks.list (prog := prog) (w := w) (A := A.in1) hd t.heap.objs.size l (Nat.ne_of_lt lt) items).frame _ _ _ st fun b _ o e => f2 b o e
  · intro a b ka kb s Q' E' js ⟨ta, ea⟩ ⟨tb, eb⟩ hq
    subst ea
    subst eb
    exact PySem.P.lt_int hq
  · exact ⟨_, _, rfl, fun b o e => Heap.get?_push_of_some _ e⟩
  · intro v s' hv js
    obtain ⟨h1, h2, h3⟩ := arg_min (ks := ks) (items.size - 1)
    exact hQ _ v s' hv (fun m' hm => h3 m' hm) (fun m' hm => h2 m' (by omega)) js
/-- the table of P holds the lambda's code behind it, if it did not before -/
def LamUp (P : Addr) (lp : Pos) (q : Str) (ps : Array Value) (H H2 : Hp) : Prop :=
  H2 = L2.upd H P (.tbl (ps ++ #[])) ∨ ∃ c' : Addr, H c' = none ∧ c' ≠ P ∧ TriplesOk (ps ++ #[rawInt (lp.line : Int), rawInt (lp.col : Int), .ref c']).toList ∧ codeAmong lp ps.toList = none ∧ H2 = L2.upd (L2.upd H P (.tbl (ps ++ #[rawInt (lp.line : Int), rawInt (lp.col : Int), .ref c']))) c' (LamX.CodeO c' q)
def tMinI (P : Addr) (lp : Pos) (q : Str) (K : PySem.W.Frag) (i : Nat) (te : TE) : TE := fun σ H Q => te σ H fun v H1 => ∃ (a : Addr) (xs : List V) (ks : List Int) (ps : Array Value), v = .ref a ∧ SqL K H1 a xs ∧ 0 < xs.length ∧ ks.length = xs.length ∧
  (∀ (m : Nat) (x : V) (k : Int), xs[m]? = some x → ks[m]? = some k → ∃ (t : Addr) (ys : List V), x = .ref t ∧ SqT K H1 t ys ∧ ys[i]? = some (.int k)) ∧ H1 P = some (.tbl ps) ∧ TriplesOk ps.toList ∧ (∀ cv, codeAmong lp ps.toList = some cv → ∃ c', cv = .ref c' ∧ H1 c' = some (LamX.CodeO c' q)) ∧
  ∀ (m : Nat) (x : V) (k : Int) (H2 : Hp), xs[m]? = some x → ks[m]? = some k → (∀ (m' : Nat) (k' : Int), m' < m → ks[m']? = some k' → k < k') → (∀ (m' : Nat) (k' : Int), ks[m']? = some k' → k ≤ k') → LamUp P lp q ps H1 H2 → Q x H2
section
variable {X : Cx}
theorem pe_minI {n : Str} {c P : Addr} {iter : Expr} {params : Arguments} {scope : Scope} {x : Str} {i j : Nat} {px pc pb lp p pos kpos : Pos} {te : TE} {k : Nat} {q : Str}
    (hr : Room k X.A) (hg : Gl X n) (hm : X.mg n = none) (hb : bootBuiltins n = some (.builtin "min")) (TB : TabB X.base X.mg c P) (hcode : X.env.code = .ref c) (hq : X.env.qual ++ "<lambda>" = q) (L : LamI scope params (.Subscript (.Name x px) (.Constant (.int (i : Int)) j pc) pb) x) (hdef : defaultsOf params X.env = ([], [])) (hi : PE X iter te)
    (hn : n ≠ "__name__" := by decide) (hdb : (n == ("__debug__" : Str)) = false := by decide)
    (he : backTo pos (starEach [iter] X.env) = [(false, eval iter X.env)] := by rfl)
    (hk : backToKw pos (keywordEach [⟨some ("key" : Str), .Lambda params (.Subscript (.Name x px) (.Constant (.int (i : Int)) j pc) pb) scope lp, kpos⟩] X.env) = [(some ("key" : Str), do let v ← eval (.Lambda params (.Subscript (.Name x px) (.Constant (.int (i : Int)) j pc) pb) scope lp) X.env; standAt pos; pure v)] := by rfl) :
    PE X (.Call (.Name n p) [iter] [⟨some ("key" : Str), .Lambda params (.Subscript (.Name x px) (.Constant (.int (i : Int)) j pc) pb) scope lp, kpos⟩] pos) (tMinI P lp q X.K i te) := by
  refine ⟨fun pins s σ H Q I h => ?_⟩
  refine wpAny_Call_Name_kw (ld_blt I hg hm hb ?_ hn hdb)
  refine PyProof.Rows.callWith_kw ?_ (by rw [he]; rfl) (by rw [he]; rfl) (by rw [hk]; rfl) (by rw [hk]; rfl)
  rw [he, hk]
  refine Calls.spliced_cons (wpAny_mono (hi.run pins s σ H _ I h) (fun y s1 r => ?_) fun _ _ z => z)
  obtain ⟨v, H1, I1, rel, a, xs, ks, ps, rfl, hl, hpos, hlen, hkeys, tabH, trip, hcv, fin⟩ := r
  refine Calls.spliced_nil ?_
  cases rel
  refine PyProof.Rows.evalAll_cons (wpAny_bind (PySem.W.kla_eval hdef ?_))
  have tab1 : s1.heap.get? P = some { cls := .none, data := .fields ps } := I1.hok P _ tabH
  obtain ⟨its, vals, pl, _⟩ := I1.list hl
  have isl := pl.isList
  have aP : a ≠ P := fun z => by
    obtain ⟨o, e, c, _⟩ := isl
    rw [z, tab1] at e
    cases e
    cases c
  have glob : s1.heap.Ns mainGlobals X.mg := I1.mod.glob.keeps I1.bk
  have statP : cStatics ≠ P := fun q => by
    obtain ⟨_, hns, _⟩ := I1.nolimit
    obtain ⟨o', es, ep, ho, hd, _⟩ := hns
    rw [q, tab1] at ho
    cases ho
    cases hd
  -- what the call says, in a heap that keeps all but the table
  have call : ∀ (f : Addr) (pm cv ctv : Value) (t : Shared), (∀ b o, b ≠ P → s1.heap.get? b = some o → t.heap.get? b = some o) → t.heap.get? f = some { cls := .type "function", data := .func (PySem.W.kla_fn "<lambda>" q params (.Subscript (.Name x px) (.Constant (.int (i : Int)) j pc) pb) scope (cloFrom X.env.cells scope.names []) pm cv ctv) } → t.heap.CodeRec cv q → t.heap.NoLimit →
      (∀ (m : Nat) (v : V) (kk : Int) (u : Value) (t' : Shared), xs[m]? = some v → ks[m]? = some kk → (∀ (m' : Nat) (k' : Int), m' < m → ks[m']? = some k' → kk < k') → (∀ (m' : Nat) (k' : Int), ks[m']? = some k' → kk ≤ k') → RelV v u → Keeps t t' → EP X pins σ Q u t') →
      wpAny (model X.prog X.w) X.A (call (.builtin "min") [.ref a] [("key", .ref f)]) (EP X pins σ Q) X.xe t := fun f pm cv ctv t kp hf hc nl hQ => by
    have il : t.heap.IsList a its.toArray := by
      obtain ⟨o, e, r⟩ := isl
      exact ⟨o, kp _ _ aP e, r⟩
    have len := vals.length
    have kg : ∀ m, m < ks.length → ks[m]? = some (ks.getD m 0) := fun m hm' => by rw [List.getD_eq_getElem?_getD, List.getElem?_eq_getElem hm']; rfl
    refine min_lam L (ks := fun m => ks.getD m 0) hr.hd (by have d := hr.dp; omega) hf hc nl il (by simp; omega) (fun m u hu => ?_) fun m u t' hu h1 h2 kp' => ?_
    · have hu' : its[m]? = some u := by simpa using hu
      have hm' : m < its.length := (List.getElem?_eq_some_iff.mp hu').1
      have hx : xs[m]? = some xs[m] := List.getElem?_eq_getElem (by omega)
      obtain ⟨t0, ys, ex, sq, hy⟩ := hkeys m _ _ hx (kg m (by omega))
      obtain ⟨u', e1, r1⟩ := vals.get hx
      rw [hu'] at e1
      cases e1
      rw [ex] at r1
      cases r1
      obtain ⟨its2, vals2, tp, hz⟩ := I1.tuple sq
      obtain ⟨w2, e2, r2⟩ := vals2.get hy
      obtain ⟨tk, rfl⟩ := r2
      have tP : t0 ≠ P := fun z => by
        obtain ⟨o, e, c, _⟩ := tp
        rw [z, tab1] at e
        cases e
        cases c
      refine ⟨t0, its2.toArray, tk, rfl, ?_, by simpa using e2, by have := vals2.length; simp; omega⟩
      obtain ⟨o, e, r⟩ := tp
      exact ⟨o, kp _ _ tP e, r⟩
    · have hu' : its[m]? = some u := by simpa using hu
      have hm' : m < its.length := (List.getElem?_eq_some_iff.mp hu').1
      have hx : xs[m]? = some xs[m] := List.getElem?_eq_getElem (by omega)
      obtain ⟨u', e1, r1⟩ := vals.get hx
      rw [hu'] at e1
      cases e1
      refine hQ m _ _ u t' hx (kg m (by omega)) (fun m' k' hm2 e => ?_) (fun m' k' e => ?_) r1 kp'
      · have := kg m' (List.getElem?_eq_some_iff.mp e).1
        rw [e] at this
        cases this
        exact h1 m' hm2
      · have l' := (List.getElem?_eq_some_iff.mp e).1
        have := kg m' l'
        rw [e] at this
        cases this
        exact h2 m' (by simp; omega)
  cases among : codeAmong lp ps.toList with
  | none =>
    refine PySem.W.kla_makeFunction (closure_ok fun y hy z => absurd z (L.free y hy)) I1.ok.glob glob hcode (TB.code.keeps I1.bk) tab1 trip among TB.gP (TB.bm.keeps I1.bk) fun c' ctv h' tk ext ge lt cr tab' => ?_
    refine wpAny_bind (wpAny_standAt (wpAny_pure (PyProof.Rows.evalAll_nil ?_)))
    show wpAny _ _ (PySem.call (.builtin "min") [.ref a] [("key", .ref h'.objs.size)]) _ _ _
    subst hq
    refine call h'.objs.size _ _ ctv _ (fun b o nb e => Heap.get?_push_of_some _ (ext b o nb e)) (Heap.get?_push_size _ rfl) (cr.keeps fun b o e => Heap.get?_push_of_some _ e) ((I1.nolimit.extBut ext statP).push _) fun m v kk u t' hx hk' h1 h2 rv kp => ?_
    obtain ⟨hh, k2, rfl, f2⟩ := kp
    have f3 : ∀ b o, h'.get? b = some o → hh.get? b = some o := fun b o e => f2 b o (Heap.get?_push_of_some _ e)
    have nc : H1 c' = none := I1.hok.fresh ge
    have cP : c' ≠ P := fun z => Nat.lt_irrefl _ (Nat.lt_of_lt_of_le (Heap.lt_size tab1) (z ▸ ge))
    obtain ⟨c0, oc, vs, tq, e0, e1, e2, e3⟩ := cr
    cases e0
    exact ⟨v, _, LamX.inv_table (s := s1) (h' := hh) (t' := k2) I1 tabH (fun b o nb e => f3 b o (ext b o nb e)) (f3 _ _ tab') ge ⟨oc, vs, tq, f3 _ _ e1, e2, e3⟩, rv, fin m v kk _ hx hk' h1 h2 (.inr ⟨c', nc, cP, (by rw [Array.toList_append]; exact TriplesOk_snoc _ _ _ _ trip), among, rfl⟩)⟩
  | some cv =>
    refine PySem.W.kla_makeFunctionHit (closure_ok fun y hy z => absurd z (L.free y hy)) I1.ok.glob glob hcode (TB.code.keeps I1.bk) tab1 trip among (TB.bm.keeps I1.bk) fun ctv h' tk keep le => ?_
    refine wpAny_bind (wpAny_standAt (wpAny_pure (PyProof.Rows.evalAll_nil ?_)))
    show wpAny _ _ (PySem.call (.builtin "min") [.ref a] [("key", .ref h'.objs.size)]) _ _ _
    subst hq
    obtain ⟨c', rfl, hc'⟩ := hcv cv among
    have cr : s1.heap.CodeRec (.ref c') (X.env.qual ++ "<lambda>") := by
      obtain ⟨⟨oc, vs, tq, e1, e2, e3⟩, _⟩ := I1.hok c' _ hc'
      exact ⟨c', oc, vs, tq, rfl, e1, e2, e3⟩
    refine call h'.objs.size _ _ ctv _ (fun b o nb e => Heap.get?_push_of_some _ (keep b o e)) (Heap.get?_push_size _ rfl) (cr.keeps fun b o e => Heap.get?_push_of_some _ (keep b o e)) ((I1.nolimit.keeps keep).push _) fun m v kk u t' hx hk' h1 h2 rv kp => ?_
    obtain ⟨hh, k2, rfl, f2⟩ := kp
    have f3 : ∀ b o, s1.heap.get? b = some o → hh.get? b = some o := fun b o e => f2 b o (Heap.get?_push_of_some _ (keep b o e))
    have J := inv_tab (s := s1) (more := #[]) (h' := hh) (g' := s1.gens) (d' := s1.drawn) (t' := k2) I1 tabH (fun b u nb e => f3 b u e) (by rw [Array.append_empty]; exact f3 _ _ tab1) I1.bare
    exact ⟨v, _, J, rv, fin m v kk _ hx hk' h1 h2 (.inl rfl)⟩
end
end Gq

namespace Gq
open PySem PySem.Spec PyProof.Rows L2
/-! ### operators of own instances: x in o, a & b, a | b -/
section
variable {X : Cx} {CX : CXT} {k : Nat} {f C : Addr} {fd : FuncData} {ps : List Str} {sp : Sp} {E : XK}
/-- the class's own special method -/
structure OwnM (K : PySem.W.Frag) (C : Addr) (m : Str) (f : Addr) : Prop where
  at_ : PySem.W.findIn K (.ref C) m = some (some (.ref f))
  fn : PySem.W.isFn K (.ref f) = true
/-- x in o: o an instance of C, its __contains__ gives a Bool -/
def rInO (C : Addr) (sp : Sp) (E : XK) : R2 := fun x y H Q => ∃ a dx fs, y = .ref a ∧ H a = some (.ins C dx fs) ∧ sp [.ref a, x] H (fun v H2 => ∃ b, v = .bl b ∧ Q (.bl b) H2) E
theorem op_inO (F : FnOk X.prog X.w X.K X.mg X.base CX k f fd ps sp) (hr : Room k X.A) (o : OwnM X.K C "__contains__" f) (hb : Binds X.K fd ps []) (hx : Passes CX X E) : OpR X (compareOp .In) (rInO C sp E) := by
  intro pins s σ H x y v u Q I rx ry h
  obtain ⟨a, dx, fs, rfl, ea, h⟩ := h
  cases ry
  obtain ⟨mA, J, _⟩ := ins_get I.hok ea
  obtain ⟨od, J', _⟩ := J.look
  obtain ⟨m, fr⟩ := I.fr
  refine PySem.W.in_K fr I.ok.mod.kin J' o.at_ o.fn ?_
  refine thn (run_fn (us := [.ref a, v]) (vs := [.ref a, x]) F hr hb .nil hx I (.cons rfl (.cons rx .nil)) h) fun r s1 q => ?_
  obtain ⟨z, H1, I1, rz, b, rfl, q'⟩ := q
  cases rz
  exact wpAny_truthy_bool ⟨.bl b, H1, I1, rfl, q'⟩
/-- a op b, both instances of C, by the method of the left one -/
def rBinO (C : Addr) (sp : Sp) (E : XK) : R2 := fun x y H Q => ∃ a dx fs b dy gs, x = .ref a ∧ y = .ref b ∧ H a = some (.ins C dx fs) ∧ H b = some (.ins C dy gs) ∧ sp [.ref a, .ref b] H (fun v H2 => (∃ c, v = .ref c) ∧ Q v H2) E
theorem op_binO {op : Operator} (F : FnOk X.prog X.w X.K X.mg X.base CX k f fd ps sp) (hr : Room k X.A) (hc : PySem.W.selfFirst X.K C = true) (o : OwnM X.K C (PySem.dunder op.info.2) f) (hb : Binds X.K fd ps []) (hx : Passes CX X E) : OpR X (binaryOp op) (rBinO C sp E) := by
  intro pins s σ H x y v u Q I rx ry h
  obtain ⟨a, dx, fs, b, dy, gs, rfl, rfl, ea, eb, h⟩ := h
  cases rx
  cases ry
  obtain ⟨mA, J, _⟩ := ins_get I.hok ea
  obtain ⟨od, J', _⟩ := J.look
  obtain ⟨mB, L, _⟩ := ins_get I.hok eb
  obtain ⟨od2, L', _⟩ := L.look
  obtain ⟨m, fr⟩ := I.fr
  refine PySem.W.binop_K fr I.ok.mod.kin J' L'.type hc o.at_ o.fn ?_
  refine thn (run_fn (us := [.ref a, .ref b]) (vs := [.ref a, .ref b]) F hr hb .nil hx I (.cons rfl (.cons rfl .nil)) h) fun r s1 q => ?_
  obtain ⟨z, H1, I1, rz, ⟨c, rfl⟩, q'⟩ := q
  cases rz
  exact ⟨.ref c, H1, I1, rfl, q'⟩
end
end Gq

namespace Gq
open PySem PySem.Spec PyProof.Rows L2
/-! ### iter(a tuple); a walk over an own instance whose __iter__ gives that -/
abbrev tpObj (l : Addr) (i : Nat) : Obj := { cls := .type "tuple_iterator", data := .fields #[.ref l, .int i 0] }
def ItT (l it : Addr) : HO := .ext fun h => h.get? it = some (tpObj l 0)
section
variable {X : Cx} {CX : CXT} {k : Nat} {f C : Addr} {fd : FuncData} {ps : List Str} {sp : Sp} {E : XK}
theorem iter_tup {prog : Program} {w : World} {A : Around} {E : Value → Shared → Prop} {s : Shared} {l : Addr} {items : Array Value} {Q : Value → Shared → Prop} (hl : s.heap.IsTuple l items) (h : Q (.ref s.heap.objs.size) { s with heap := s.heap.push (tpObj l 0) }) : wpAny (model prog w) A (call (.builtin "iter") [.ref l]) Q E s := by
  refine Calls.call_function_entry (by decide +kernel) (by decide +kernel) PySem.W.kdk_entry_iter (PySem.W.kdk_args_iter _) ?_
  unfold Builtin.«iter»
  refine wpAny_bind (m := someArgs "iter" 1 2 _) (wpAny_of_eq (a := [Value.ref l]) (by first | rfl | kernel_rfl!) ?_)
  show wpAny _ _ (pyIter (.ref l) >>= _) _ _ _
  refine wpAny_bind (wpAny_pyIter_tuple hl ?_)
  exact wpAny_pure ⟨_, rfl, h⟩
/-- the iterator is young -/
def rIterT (K : PySem.W.Frag) (n : Nat) : List V → Hp → VK → Prop := fun xs H Q => ∃ (l : Addr) (zs : List V), xs = [.ref l] ∧ SqT K H l zs ∧ ∀ it, n ≤ it → H it = none → Q (.ref it) (L2.upd H it (ItT l it))
theorem call_iterT : CallR X (.builtin "iter") (rIterT X.K X.s_0.heap.objs.size) := by
  intro pins s σ H xs us Q I r h
  obtain ⟨l, zs, rfl, hq, q⟩ := h
  obtain rfl := Vals.ref1 r
  obtain ⟨its, rv, pl, hz⟩ := I.tuple hq
  refine iter_tup pl ?_
  exact ⟨.ref s.heap.objs.size, _, I.laid (t' := s.toks) (fun b u e => Heap.get?_push_of_some _ e) (Nat.le_refl _) (show ObjOk X.prog X.w _ _ _ (ItT l s.heap.objs.size) from ⟨Heap.get?_push_size _ rfl, ⟨_, Heap.get?_push_size _ rfl⟩, fun h1 h2 q k => k _ q⟩), rfl, q _ I.sz (I.hok.fresh (Nat.le_refl _))⟩
/-- .. in e, an instance of C: its __iter__ gives an iterator over the tuple at l -/
def iOwn (K : PySem.W.Frag) (C : Addr) (fl : Str) (te : TE) : TI := fun σ H R => te σ H fun x H1 => ∃ (o dx : Addr) (fs : List (Str × V)) (l : Addr) (zs : List V), x = .ref o ∧ H1 o = some (.ins C dx fs) ∧ fs.lookup fl = some (.ref l) ∧ SqT K H1 l zs ∧ R (Itt K l) H1
theorem pi_own {tg e : Expr} {te : TE} {fl qual : Str} {params : Arguments} {body : List Stmt} {scope : Scope} {N : List Str} (he : PE X e te) (o : OwnM X.K C "__iter__" f) (F : FunD X.K "__iter__" qual params body scope [] [] f fd) (S : FnScope N ["self"] scope) (hr : Room (k + 1) X.A) (hb : Binds X.K fd ["self"] [])
    (hbody : ∀ (cdv : Value) (A : Around) (outer : List Env) (s : Shared) (H : Hp) (E : XK), Room k (A.deeper (envOfC qual scope s.heap.objs.size f cdv)) → ∀ (x dx l : Addr) (fs : List (Str × V)) (zs : List V) (Q : VK), H x = some (.ins C dx fs) → fs.lookup fl = some (.ref l) → SqT X.K H l zs → (∀ it, s.heap.objs.size ≤ it → H it = none → Q (.ref it) (L2.upd H it (ItT l it))) →
      ∃ t, PSs (cxOf CX0 X.prog X.w X.K X.mg X.base N qual scope f cdv A outer s H E) body t ∧ t { nx := fun _ H' => Q .non H', rt := Q } (L2.start N [.ref x]) H) : PI X tg e (iOwn X.K C fl te) := by
  refine ⟨fun pins s σ H R I h => ?_⟩
  refine thn (he.run pins s σ H _ I h) fun u s1 ⟨x, H1, I1, rx, p, dx, fs, l, zs, ex, ea, hl, sq, q⟩ => ?_
  subst ex
  obtain rfl : u = Value.ref p := rx
  obtain ⟨mA, J, _⟩ := ins_get I1.hok ea
  obtain ⟨od, J', _⟩ := J.look
  obtain ⟨m, fr⟩ := I1.fr
  obtain ⟨oc, od2, dV, kV, doc, pm, an, cdv, ct, osl, rfl, lk, hcd, _, _⟩ := F.ex
  refine PySem.W.owit_iter fr I1.ok.mod.kin J' o.at_ o.fn ?_
  refine wpAny_call (codeAny_mono (LamX.run_ofS (CX := CX0) (N := N) (ps := ["self"]) (vs := [V.ref p]) (us := [.ref p]) (E := fun _ _ _ => False) (Q := fun v H2 => ∃ it, v = V.ref it ∧ s1.heap.objs.size ≤ it ∧ H1 it = none ∧ H2 = L2.upd H1 it (ItT l it)) lk hcd S hr I1.env0 (hb s1 [.ref p] I1.kIn rfl) (.cons rfl .nil) rfl (fun hr' => hbody cdv X.A X.stack s1 H1 _ hr' p dx l fs zs (fun v H2 => ∃ it, v = V.ref it ∧ s1.heap.objs.size ≤ it ∧ H1 it = none ∧ H2 = L2.upd H1 it (ItT l it)) ea hl sq fun it h1 h2 => ⟨it, rfl, h1, h2, rfl⟩)) fun r s' hq => ?_)
  cases r with
  | error e => exact False.elim hq
  | ok fl =>
    cases fl with
    | ret u =>
      obtain ⟨v, H2, I2, rv, it, rfl, h1, h2, rfl⟩ := I1.after hq
      obtain rfl : u = Value.ref it := rv
      have e : s'.heap.get? it = some (tpObj l 0) := (I2.hok it _ (show L2.upd H1 it (ItT l it) it = some (ItT l it) from upd_same)).1
      show PySem.W.OwitIt _ _ _ _ (.ref it) s'
      unfold PySem.W.OwitIt
      refine wpAny_specialOf (T := "tuple_iterator") ⟨_, e, rfl⟩ PySem.F.slot_tuple_iterator_next.lookup ?_
      have hi : L2.upd H1 it (ItT l it) it = some (ItT l it) := upd_same
      have hi' := hi
      unfold ItT at hi'
      refine ⟨it, [it], _, _, ItX.dropH (L2.upd H1 it (ItT l it)) it, rfl, ItX.inv_drop I2 hi', turn_tuple l it, ⟨_, e, rfl, rfl⟩, fun b hb => ?_, by rw [ItX.dropH_upd h2]; exact q⟩
      have eb : b = it := by simpa using hb
      rw [eb]
      exact ItX.inv_fp I2 hi (Nat.le_trans I1.sz h1)
    | next => exact False.elim hq
    | brk => exact False.elim hq
    | cont => exact False.elim hq
/-! ### bool(x) -/
theorem bool_meets {prog : Program} {w : World} (v : Value) : MeetsIn prog w (Builtin.«bool.__new__» ⟨[.type "bool", v], []⟩) (fun A R s => wpAny (model prog w) A.in1 (truthy v) (fun b s' => R (.ok (.ret (.bool b))) s') (fun e s' => R (.error e) s') s) :=
  .of_wp fun A R s hs => by
    have f1 := F.conv_sub_bool
    obtain ⟨hp, g, d, tk, os⟩ := s
    repeat (any_goals (first | assumption | (with_reducible refine wpAny_mono hs (fun b s' hr => ?_) fun e s' hr => ?_) | wp_step))
    all_goals first | exact ⟨_, rfl, hr⟩ | exact hr | skip
theorem bool_of {prog : Program} {w : World} {A : Around} {E : Value → Shared → Prop} {s : Shared} {v : Value} {Q : Value → Shared → Prop} (h : wpAny (model prog w) A.in1.in1 (truthy v) (fun b s' => Q (.bool b) s') E s) : wpAny (model prog w) A (call (.type "bool") [v]) Q E s :=
  callType_newIn F.called_bool F.newNe_bool (F.typeCall_bool_1 v) (F.newCall_bool_1 v) (fun obj => F.args_object_init_2 obj v) F.entry_bool_new (bool_meets v) (wpAny_mono h (fun b s' q => ⟨by first | exact PySem.typeIs_bool s' b | exact rfl | simp [Shared.TypeIs], q⟩) fun _ _ q => q)
/-- of a tuple -/
theorem call_boolT : CallR X (.type "bool") (fun xs H Q => ∃ (a : Addr) (zs : List V), xs = [V.ref a] ∧ SqT X.K H a zs ∧ Q (.bl (!zs.isEmpty)) H) := by
  intro pins s σ H xs us Q I r h
  obtain ⟨a, zs, rfl, hx, q⟩ := h
  obtain rfl := Vals.ref1 r
  obtain ⟨its, r, pl, hz⟩ := I.tuple hx
  have hlen := r.length
  have hl := line63
  exact bool_of (truthy_tuple pl (by simp only [List.size_toArray]; omega) ⟨.bl _, H, I.tok _, rfl, by rw [isEmpty_of r]; exact q⟩)
/-- of an own instance, by its __bool__ -/
theorem call_boolO (F : FnOk X.prog X.w X.K X.mg X.base CX k f fd ps sp) (hr : Room (k + 2) X.A) (o : OwnM X.K C "__bool__" f) (hb : Binds X.K fd ps []) (hx : Passes CX X E) : CallR X (.type "bool") (fun xs H Q => ∃ a dx fs, xs = [V.ref a] ∧ H a = some (.ins C dx fs) ∧ sp [.ref a] H (fun v H2 => ∃ b, v = .bl b ∧ Q (.bl b) H2) E) := by
  intro pins s σ H xs us Q I r h
  obtain ⟨a, dx, fs, rfl, ea, h⟩ := h
  obtain rfl := Vals.ref1 r
  obtain ⟨mA, J, _⟩ := ins_get I.hok ea
  obtain ⟨od, J', _⟩ := J.look
  obtain ⟨m, fr⟩ := I.fr
  refine bool_of (PySem.W.truthy_K fr I.ok.mod.kin J' o.at_ o.fn ?_)
  have hl : ([Value.ref a] : List Value).length = ps.length := by
    have := F.len _ _ _ _ h
    simpa using this
  refine wpAny_call (codeAny_mono (F.run X.A.in1.in1 X.stack s H ⟨[.ref a], []⟩ [.ref a] [.ref a] _ E (Room.in1 (Room.in1 hr)) I.env0.in1.in1 (by
    have := hb s [.ref a] I.kIn (by simpa using hl)
    simpa using this) (.cons rfl .nil) h) fun r s' hq => ?_)
  cases r with
  | error e => exact hx pins σ H s e s' I hq
  | ok fl =>
    cases fl with
    | ret u =>
      obtain ⟨v, H2, I2, rv, b, rfl, q⟩ := I.after hq
      obtain rfl : u = Value.bool b := rv
      exact ⟨.bl b, H2, I2, rfl, q⟩
    | next => exact False.elim hq
    | brk => exact False.elim hq
    | cont => exact False.elim hq
theorem ownM_of {K : PySem.W.Frag} {x m : Str} (c : (He.Fa.meth x m).ok K = true) : OwnM K (He.ga K x) m (He.ma K (He.ga K x) m) := ⟨He.eqO_ok (He.ba c).1, (He.ba (He.ba c).2).1⟩
end
end Gq

namespace Gq
open PySem PySem.Spec PyProof.Rows L2
/-! ### sorted, of data -/
section
variable {X : Cx} {pins : List (Addr × Obj)} {σ : L2.St} {H : Hp} {s : Shared}
theorem vals_each {α : Type} {f : α → V} : ∀ {bs : List α} {us : List Value}, Vals (bs.map f) us → PySem.W.EachIs (fun u b => RelV (f b) u) us bs
  | [], [], .nil => .nil
  | _ :: _, _ :: _, .cons r t => .cons r (vals_each t)
theorem each_vals {α : Type} {f : α → V} : ∀ {bs : List α} {us : List Value}, PySem.W.EachIs (fun u b => RelV (f b) u) us bs → Vals (bs.map f) us
  | [], [], .nil => .nil
  | _ :: _, _ :: _, .cons r t => .cons r (each_vals t)
theorem each_mono {α : Type} {P Q : Value → α → Prop} : ∀ {us : List Value} {bs : List α}, (∀ b, b ∈ bs → ∀ u, P u b → Q u b) → PySem.W.EachIs P us bs → PySem.W.EachIs Q us bs
  | [], [], _, .nil => .nil
  | _ :: _, _ :: _, h, .cons r t => .cons (h _ List.mem_cons_self _ r) (each_mono (fun b m => h b (List.mem_cons_of_mem _ m)) t)
def rSortedDt (K : PySem.W.Frag) : List V → Hp → VK → Prop := fun vs H Q => ∃ (a : Addr) (bs : List (V × PyData)), vs = [V.ref a] ∧ SqL K H a (bs.map (·.1)) ∧ (∀ b, b ∈ bs → Dp K H b.1 b.2) ∧ PySem.W.AllAlike (bs.map (·.2)) ∧ PySem.W.Sortable (bs.map (·.2)) ∧ (∀ b, b ∈ bs → b.2.depth ≤ 60) ∧
  ∀ p, H p = none → Q (.ref p) (L2.upd H p (.lst ((bs.mergeSort (PySem.W.dataLe false (·.2))).map (·.1))))
theorem cr_sortedDt (hu : X.A.units + 64 < cLine) : CallR X (.builtin "sorted") (rSortedDt X.K) := by
  intro pins s σ H vs us Q I r h
  obtain ⟨a, bs, rfl, hs, hd, hal, hso, hdep, q⟩ := h
  obtain ⟨its, rv, hl, hz⟩ := I.list hs
  obtain ⟨u, rfl, ru⟩ := vals1 r
  obtain rfl : u = Value.ref a := ru
  have e := vals_each rv
  refine PySem.W.sorted_data (enc := (·.2)) hl.isList e (each_mono (fun b m u ru => Dp.reads I b.2 b.1 u (hd b m) ru) e) hal hso (by rw [List.length_map] at hz; exact hz) (fun b m => by have := hdep b m; omega) fun out hlen ho => ?_
  obtain ⟨ep, he'⟩ := PyProof.Rows.sortedAll_at s.heap its out.toArray
  have hl2 : ((bs.mergeSort (PySem.W.dataLe false (·.2))).map (·.1)).length ≤ sizeLine := by
    rw [List.length_map] at hz ⊢
    rw [List.length_mergeSort]; exact hz
  exact ⟨.ref _, L2.upd H (s.heap.objs.size + 1) (.lst ((bs.mergeSort (PySem.W.dataLe false (·.2))).map (·.1))), I.laid (t' := s.toks) (fun _ _ => PyProof.Rows.sortedAll_old) (Nat.le_succ _) ⟨hl2, out, ep, each_vals ho, he'⟩, rfl, q _ (I.hok.fresh (Nat.le_succ _))⟩
end
end Gq

namespace Gc
open PySem PySem.Spec PyProof.Rows L2 GxR
/-! ### generator expressions of any source, their elements in a frame of their own -/
/-- an iterator at I: it gives the values of bs, its state St; Fn: what is known at each end -/
structure WalkI (prog : Program) (w : World) (A : Around) (I : Addr) (bs : List Bool) (St : Nat → Shared → Prop) (Fn : Shared → Prop) : Prop where
  item : ∀ j b (s : Shared) (Q : Option Value → Shared → Prop) (E : Value → Shared → Prop), bs[j]? = some b → St j s → (∀ s', St (j + 1) s' → Q (some (.bool b)) s') → wpAny (model prog w) A (pyNext (.ref I)) Q E s
  done : ∀ (s : Shared) (Q : Option Value → Shared → Prop) (E : Value → Shared → Prop), St bs.length s → (∀ s', Fn s' → Q none s') → wpAny (model prog w) A (pyNext (.ref I)) Q E s
  fin : ∀ j s, St j s → Fn s
section
variable {prog : Program} {w : World} {A : Around} {R : Result → Shared → Prop} {I : Addr} {bs : List Bool} {St : Nat → Shared → Prop} {Fn : Shared → Prop}
theorem all_loop (W : WalkI prog w A.in1 I bs St Fn) (hR : ∀ s', Fn s' → R (.ok (.ret (.bool (bs.all id)))) s') : ∀ (k i : Nat) (s : Shared), bs.length - i = k → i ≤ bs.length → (bs.take i).all id = true → St i s → codeAny (model prog w) A (.builtin "all.loop" ⟨[.ref I], []⟩) R s := by
  intro k
  induction k with
  | zero =>
    intro i s hk hi ha hst
    have hin : i = bs.length := by omega
    subst hin
    refine codeAny_builtin F.entry_all_loop ?_
    rw [Around.under_plainId F.plain_all_loop _]
    show wpAny _ A.in1 (pyNext (.ref I) >>= _) _ _ s
    refine wpAny_bind (W.done s _ _ hst fun s' hm => ?_)
    refine wpAny_bind (wpAny_rule (wpAny_pure ?_))
    have := hR s' hm
    rw [List.take_length] at ha
    rw [ha] at this
    exact this
  | succ k ih =>
    intro i s hk hi ha hst
    have hlt : i < bs.length := by omega
    have hb : bs[i]? = some bs[i] := List.getElem?_eq_getElem hlt
    have tk : bs.take (i + 1) = bs.take i ++ [bs[i]] := by rw [List.take_succ, hb]; rfl
    refine codeAny_builtin F.entry_all_loop ?_
    rw [Around.under_plainId F.plain_all_loop _]
    show wpAny _ A.in1 (pyNext (.ref I) >>= _) _ _ s
    refine wpAny_bind (W.item i _ s _ _ hb hst fun s' hst' => ?_)
    refine wpAny_bind (wpAny_holding (wpAny_truthy_bool ?_))
    refine wpAny_bind (wpAny_letGo ?_)
    cases hc : bs[i] with
    | true =>
      simp only [if_true]
      refine wpAny_pure ⟨plainId_quiet F.plain_all_loop _, ih (i + 1) _ (by omega) hlt ?_ hst'⟩
      rw [tk, List.all_append, ha, hc]; rfl
    | false =>
      simp only [Bool.false_eq_true, if_false]
      refine wpAny_bind (wpAny_rule (wpAny_pure ?_))
      have := hR s' (W.fin _ _ hst')
      have e : bs.all id = false := by
        rw [← List.take_append_drop (i + 1) bs, tk, List.all_append, List.all_append, hc]
        simp
      rw [e] at this
      exact this
theorem any_loop (W : WalkI prog w A.in1 I bs St Fn) (hR : ∀ s', Fn s' → R (.ok (.ret (.bool (bs.any id)))) s') : ∀ (k i : Nat) (s : Shared), bs.length - i = k → i ≤ bs.length → (bs.take i).any id = false → St i s → codeAny (model prog w) A (.builtin "any.loop" ⟨[.ref I], []⟩) R s := by
  intro k
  induction k with
  | zero =>
    intro i s hk hi ha hst
    have hin : i = bs.length := by omega
    subst hin
    refine codeAny_builtin F.entry_any_loop ?_
    rw [Around.under_plainId F.plain_any_loop _]
    show wpAny _ A.in1 (pyNext (.ref I) >>= _) _ _ s
    refine wpAny_bind (W.done s _ _ hst fun s' hm => ?_)
    refine wpAny_bind (wpAny_rule (wpAny_pure ?_))
    have := hR s' hm
    rw [List.take_length] at ha
    rw [ha] at this
    exact this
  | succ k ih =>
    intro i s hk hi ha hst
    have hlt : i < bs.length := by omega
    have hb : bs[i]? = some bs[i] := List.getElem?_eq_getElem hlt
    have tk : bs.take (i + 1) = bs.take i ++ [bs[i]] := by rw [List.take_succ, hb]; rfl
    refine codeAny_builtin F.entry_any_loop ?_
    rw [Around.under_plainId F.plain_any_loop _]
    show wpAny _ A.in1 (pyNext (.ref I) >>= _) _ _ s
    refine wpAny_bind (W.item i _ s _ _ hb hst fun s' hst' => ?_)
    refine wpAny_bind (wpAny_holding (wpAny_truthy_bool ?_))
    refine wpAny_bind (wpAny_letGo ?_)
    cases hc : bs[i] with
    | false =>
      simp only [Bool.false_eq_true, if_false]
      refine wpAny_pure ⟨plainId_quiet F.plain_any_loop _, ih (i + 1) _ (by omega) hlt ?_ hst'⟩
      rw [tk, List.any_append, ha, hc]; rfl
    | true =>
      simp only [if_true]
      refine wpAny_bind (wpAny_rule (wpAny_pure ?_))
      have := hR s' (W.fin _ _ hst')
      have e : bs.any id = true := by
        rw [← List.take_append_drop (i + 1) bs, tk, List.any_append, List.any_append, hc]
        simp
      rw [e] at this
      exact this
variable {E : Value → Shared → Prop} {s : Shared}
theorem call_all {x : Value} {Q : Value → Shared → Prop}
    (h : wpAny (model prog w) A.in1 (pyIter x) (fun it s₂ => ∃ I bs St Fn, it = .ref I ∧ WalkI prog w A.in1 I bs St Fn ∧ St 0 s₂ ∧ ∀ s', Fn s' → Q (.bool (bs.all id)) s') E s) : wpAny (model prog w) A (call (.builtin "all") [x]) Q E s := by
  refine call_function_tree F.kind_all F.plain_all F.entry_all (F.args_all1 _) ?_
  unfold Builtin.«all»
  refine wpAny_bind (m := oneArg "all" _) (wpAny_pure ?_)
  refine wpAny_bind (wpAny_mono h (fun it s₂ h₂ => ?_) fun _ _ e => e)
  obtain ⟨I, bs, St, Fn, rfl, W, hst, hQ⟩ := h₂
  exact wpAny_pure ⟨plainId_quiet F.plain_all_loop _, all_loop W hQ bs.length 0 s₂ rfl (Nat.zero_le _) rfl hst⟩
theorem call_any {x : Value} {Q : Value → Shared → Prop}
    (h : wpAny (model prog w) A.in1 (pyIter x) (fun it s₂ => ∃ I bs St Fn, it = .ref I ∧ WalkI prog w A.in1 I bs St Fn ∧ St 0 s₂ ∧ ∀ s', Fn s' → Q (.bool (bs.any id)) s') E s) : wpAny (model prog w) A (call (.builtin "any") [x]) Q E s := by
  refine call_function_tree F.kind_any F.plain_any F.entry_any (F.args_any1 _) ?_
  unfold Builtin.«any»
  refine wpAny_bind (m := oneArg "any" _) (wpAny_pure ?_)
  refine wpAny_bind (wpAny_mono h (fun it s₂ h₂ => ?_) fun _ _ e => e)
  obtain ⟨I, bs, St, Fn, rfl, W, hst, hQ⟩ := h₂
  exact wpAny_pure ⟨plainId_quiet F.plain_any_loop _, any_loop W hQ bs.length 0 s₂ rfl (Nat.zero_le _) rfl hst⟩
end
end Gc
namespace Gc
open PySem PySem.Spec PyProof.Rows L2 GxR GenW
/-! ### the frame of a generator expression -/
/-- the context of its element: a def's body that stands on the stack of X; fp: the iterator's objects, they may turn -/
def gcx (X : Cx) (N' : List Str) (cenv : Env) (fp : List Addr) (s0 : Shared) (H0 : Hp) : Cx :=
  { X with A := X.A.in1.in1.deeper cenv, N := N', s_0 := s0, H_0 := H0, env := cenv, outer := X.stack, stack := cenv :: X.stack, ex := fp, fn := fun _ => false, calm := true, pn := [], xe := fun _ _ => False }
structure GSc (env : Env) (scope : Scope) : Prop where
  kind : scope.kind = .function
  co : scope.isCoroutine = false
  cell : ∀ y ∈ scope.names, y.2 ≠ .cell
  dot : scope.names.lookup (".0" : Str) = some NameKind.local
  free : ∀ y ∈ scope.names, y.2 = .free → ∃ c, env.cells.lookup y.1 = some c
theorem clo_some {cells : List (Str × Addr)} {y : Str} {c : Addr} : ∀ {names : List (Str × NameKind)} {acc : List (Str × Addr)}, (cloFrom cells names acc).lookup y = some c → acc.lookup y = some c ∨ ((y, NameKind.free) ∈ names ∧ c = (cells.lookup y).getD 0)
  | [], _, h => .inl h
  | (n, k) :: r, acc, h => by
    unfold cloFrom at h
    split at h
    · rename_i hk
      rcases clo_some h with z | ⟨z1, z2⟩
      · rw [List.lookup_cons] at z
        split at z
        · rename_i e
          have e : y = n := by simpa using e
          cases z
          subst e
          refine .inr ⟨?_, rfl⟩
          have : k = .free := by simpa using hk
          rw [this]; exact List.mem_cons_self
        · exact .inl z
      · exact .inr ⟨List.mem_cons_of_mem _ z1, z2⟩
    · rcases clo_some h with z | ⟨z1, z2⟩
      · exact .inl z
      · exact .inr ⟨List.mem_cons_of_mem _ z1, z2⟩
theorem clo_acc {cells : List (Str × Addr)} {y : Str} : ∀ {names : List (Str × NameKind)} {acc : List (Str × Addr)}, (∃ c, acc.lookup y = some c) → ∃ c, (cloFrom cells names acc).lookup y = some c
  | [], _, h => h
  | (n, k) :: r, acc, h => by
    unfold cloFrom
    split
    · refine clo_acc ?_
      rw [List.lookup_cons]
      split
      · exact ⟨_, rfl⟩
      · exact h
    · exact clo_acc h
theorem clo_has {cells : List (Str × Addr)} {y : Str} : ∀ {names : List (Str × NameKind)} {acc : List (Str × Addr)}, (y, NameKind.free) ∈ names → ∃ c, (cloFrom cells names acc).lookup y = some c
  | (n, k) :: r, acc, h => by
    unfold cloFrom
    rcases List.mem_cons.mp h with e | m
    · cases e
      rw [if_pos (show (NameKind.free == NameKind.free) = true from rfl)]
      refine clo_acc ⟨(cells.lookup y).getD 0, ?_⟩
      rw [List.lookup_cons, beq_self_eq_true]
    · split
      · exact clo_has m
      · exact clo_has m
theorem clo_eq {env : Env} {scope : Scope} (S : GSc env scope) {y : Str} {c : Addr} (h : (cloFrom env.cells scope.names []).lookup y = some c) : env.cells.lookup y = some c := by
  rcases clo_some h with z | ⟨z1, z2⟩
  · cases z
  · obtain ⟨c', e⟩ := S.free _ z1 rfl
    have e : env.cells.lookup y = some c' := e
    rw [z2, e]; rfl
section
variable {X : Cx} {pins : List (Addr × Obj)} {σ σ' : L2.St} {H H' : Hp} {s s' : Shared} {N' : List Str} {scope : Scope} {fp : List Addr} {code : Value}
theorem inv_gcx {h' : Heap} {g' : Array GenState} {tk' : Nat} {m0 : Str → Option Value} (I : Inv X pins σ H s) (hr : X.A.handled = none) (S : GSc X.env scope) (hfp : ∀ b ∈ fp, FpOk X pins H b) (hfo : ∀ b ∈ fp, ∃ o, s.heap.get? b = some o)
    (hk : ∀ b o, s.heap.get? b = some o → h'.get? b = some o) (hn : h'.Ns s.heap.objs.size m0) (bare : AllBare g')
    (nm : ∀ (i : Nat) (y : Str) (v : V), N'[i]? = some y → σ'[i]? = some (some v) → scope.names.lookup y = some .free ∧ (X.env.kindOf y = some .cell ∨ X.env.kindOf y = some .free) ∧ Vis X.env.scope y ∧ ∃ j : Nat, X.N[j]? = some y ∧ σ[j]? = some (some v)) (len : σ'.length = N'.length) :
    Inv (gcx X N' (genEnv scope (cloFrom X.env.cells scope.names []) s.heap.objs.size code builtinsNs X.env) fp s H) [] σ' H { s with heap := h', gens := g', toks := tk' } := by
  have e0 := I.env0
  have stkSub : ∀ b, b ∈ frs X.stack → b = X.env.locals ∨ b ∈ X.fs := fun b hb => List.mem_cons.mp (I.stkSub b hb)
  refine ⟨⟨e0.mod, S.kind, I.ok.glob, rfl, Nat.le_refl _, fun y z c h1 h2 => I.ok.inj y z c (clo_eq S h1) (clo_eq S h2), fun y hy => ?_, fun y c z _ => (by cases z), fun _ => hr, ?_, .inr ⟨rfl, rfl⟩, fun b hb => ?_, e0.bs, e0.bsz, fun b o q hb => ?_, fun b hb hb2 => ?_, e0.funs, e0.frf⟩,
    rfl, bare, Un.kept hk, ⟨m0, hn, fun i y v h1 h2 h3 => ?_⟩, fun y c h => ?_, I.hok.fresh (Nat.le_refl _), fun y c h => I.freeC y c (clo_eq S h), fun p hp => absurd (show p ∈ ([] : List (Addr × Obj)) from hp) (by simp), I.hok.kept hk, len⟩
  · have hy : scope.names.lookup y = some .cell ∨ scope.names.lookup y = some .free := hy
    rcases hy with hy | hy
    · exact absurd rfl (S.cell _ (PySem.mem_of_lookup hy))
    · exact clo_has (PySem.mem_of_lookup hy)
  · exact Around.frames_deeper I.ok.frames
  · obtain ⟨f0, f1, f2, f3, f4, f5⟩ := hfp b hb
    obtain ⟨o, ho⟩ := hfo b hb
    exact ⟨Nat.ne_of_lt (Heap.lt_size ho), fun x c h => f4 x c (clo_eq S h)⟩
  · obtain ⟨f0, f1, f2, f3, f4, f5⟩ := hfp b hb
    rcases f3 with z | z
    · exact I.ok.noex b o q z
    · exact absurd (Nat.lt_of_lt_of_le (Heap.lt_size q) (Nat.le_trans I.ok.bsz z)) (Nat.lt_irrefl _)
  · obtain ⟨f0, f1, f2, f3, f4, f5⟩ := hfp b hb
    rcases stkSub b hb2 with z | z
    · exact f1 z
    · exact f2 z
  · obtain ⟨k1, k2, k3, j, j1, j2⟩ := nm i y v h1 h2
    obtain ⟨m, _, loc⟩ := I.loc
    obtain ⟨u, r, look⟩ := loc j y v j1 j2 k3
    refine ⟨u, r, .inr ⟨.inr k1, ?_⟩⟩
    rcases look with ⟨z, _⟩ | ⟨_, c, e, hc⟩
    · rcases k2 with q | q <;> rw [z] at q <;> cases q
    · obtain ⟨c', e'⟩ := clo_has (cells := X.env.cells) (acc := []) (PySem.mem_of_lookup k1)
      have e2 := clo_eq S e'
      rw [e] at e2
      cases e2
      obtain ⟨o, ho, rest⟩ := hc
      exact ⟨c, e', o, hk _ _ ho, rest⟩
  · obtain ⟨v, o, ho, rest⟩ := I.cell y c (clo_eq S h)
    exact ⟨v, o, hk _ _ ho, rest⟩
theorem gcx_back {cenv : Env} {pins' : List (Addr × Obj)} (I : Inv X pins σ H s) (hfp : ∀ b ∈ fp, FpOk X pins H b) (J : Inv (gcx X N' cenv fp s H) pins' σ' H' s') : Inv X pins σ H' s' :=
  I.call' (ch := fp) J.os J.base J.hok J.bare fun b hb => by
    obtain ⟨f0, f1, f2, f3, f4, f5⟩ := hfp b hb
    exact ⟨f3, f1, f4, f5⟩
/-! ### its run -/
/-- the turns: i the iterator's turn, j what was handed out, m a measure -/
abbrev WT := Nat → Nat → Nat → L2.St → Hp → Prop
def GenWalk (J : It) (g : TG) (tt : TT) (te : TE) (bs : List Bool) (W : WT) (Fin : Hp → Prop) : Prop :=
  (∀ i j m σ H, W i j m σ H → Fin H) ∧ ∀ i j m σ H, W i j m σ H → (J.stop i H ∧ j = bs.length) ∨ (J.go i H ∧ ∃ N : Nat → L2.St → Hp → Prop, (∀ j' σ' H', N j' σ' H' → ∃ m', m' < m ∧ W (i + 1) j' m' σ' H') ∧
    ∀ x H', J.yld i H x H' → g x σ H' fun σ2 H2 => tt σ2 H2 fun b H3 => if b = true then te σ2 H3 fun v H4 => ∃ c, v = .bl c ∧ bs[j]? = some c ∧ N (j + 1) σ2 H4 else N j σ2 H3)
def GR (X' : Cx) (go : Addr × Obj) (Fin : Hp → Prop) : Shared → Prop := fun s₁ => ∃ σ H, Inv X' [go] σ H s₁ ∧ Fin H
def GY (X' : Cx) (go : Addr × Obj) (bs : List Bool) (Fin : Hp → Prop) : Protocol := fun n s₀ u s kap =>
  ∃ j c, j + n + 1 = bs.length ∧ bs[j]? = some c ∧ u = .bool c ∧ GR X' go Fin s ∧ ∀ s' : Shared, s'.os = s.os → AllBare s'.gens → (∀ b o, s.heap.get? b = some o → s'.heap.get? b = some o) → kap (.send .none) s'
theorem seg_loop {X' : Cx} {A : Around} {cenv : Env} {go : Addr × Obj} {elt tg iter : Expr} {ifs : List Expr} {gpos : Pos} {it : Addr} {J : It} {tn : Nat → Heap → Prop} {g : TG} {tt : TT} {te : TE} {bs : List Bool} {W : WT} {Fin : Hp → Prop}
    (hA : A.deeper cenv = X'.A) (hen : X'.env = cenv) (hcalm : X'.calm = true) (hx : ∀ e s, ¬ X'.xe e s) (hco : cenv.scope.isCoroutine = false) (T : Turn X'.prog X'.w X'.K tg J fp it tn) (hfp : ∀ H', (∀ b ∈ fp, H' b = none) → ∀ b ∈ fp, FpOk X' [go] H' b)
    (hg : PG X' tg g) (ht : PTs X' ifs tt) (he : PE X' elt te) (GW : GenWalk J g tt te bs W Fin) :
    ∀ (m i j n : Nat) (s₀ s : Shared) (σ : L2.St) (H : Hp), j + n = bs.length → W i j m σ H → Inv X' [go] σ H s → tn i s.heap → (∀ b ∈ fp, H b = none) →
      Seg (model X'.prog X'.w) A (fun n _ r s₁ => r = .ok .next ∧ (n = 0 ∧ GR X' go Fin s₁)) (GY X' go bs Fin) n s₀ (.compLoop (.GeneratorExp elt [⟨tg, iter, ifs, 0⟩] scope gpos) 0 (.ref it) .none cenv)
        ((model X'.prog X'.w).den (.compLoop (.GeneratorExp elt [⟨tg, iter, ifs, 0⟩] scope gpos) 0 (.ref it) .none cenv)) [] s := by
  have ov : A.over (.compLoop (.GeneratorExp elt [⟨tg, iter, ifs, 0⟩] scope gpos) 0 (.ref it) .none cenv) [] = X'.A := hA
  intro m
  induction m using Nat.strongRecOn with
  | ind m ih =>
    intro i j n s₀ s σ H hn w I st fr
    show Seg _ A _ _ _ s₀ _ ((compTurn (.GeneratorExp elt [⟨tg, iter, ifs, 0⟩] scope gpos) 0 (.ref it) .none cenv).onRaise (leaving cenv)) [] s
    rw [compTurn_gen, Sem.onRaise_eq_wrap]
    refine seg_bind_wrap (wpAny_standAt ?_)
    rcases GW.2 i j m σ H w with ⟨stop, hj⟩ | ⟨gon, N, hN, step⟩
    · refine seg_bind_wrap ?_
      rw [ov]
      refine wpAny_mono (T.done X' rfl rfl rfl hcalm i [go] s σ H (fun _ _ => False) I (hfp H fr) st stop) (fun r s4 ⟨hr, I4⟩ => ?_) fun _ _ z => z.elim
      subst hr
      exact seg_end (.ok .next) ⟨rfl, by omega, σ, H, I4, GW.1 _ _ _ _ _ w⟩
    · refine seg_bind_wrap ?_
      rw [ov]
      refine wpAny_mono (T.item X' rfl rfl rfl hcalm i [go] s σ H (fun _ _ => False) I (hfp H fr) st gon) (fun r s4 ⟨u, hr, h4⟩ => ?_) fun _ _ z => z.elim
      subst hr
      refine seg_bind_wrap ?_
      rw [ov]
      refine wpAny_mono h4 (fun _ s5 ⟨x, H5, I5, r5, y5, st5, fr5⟩ => ?_) fun _ _ z => z.elim
      have I5' := I5.pinned (hfp H5 fr5) (T.obj _ _ st5)
      refine seg_bind_wrap ?_
      rw [ov, ← hen]
      refine wpAny_mono (hg.run _ s5 σ H5 x u _ I5' r5 (step x H5 y5)) (fun _ s6 ⟨σ6, H6, I6, q6⟩ => ?_) fun _ _ z => (hx _ _ z).elim
      refine seg_bind_wrap ?_
      rw [hen, ov, ← hen]
      refine wpAny_mono (ht.run _ s6 σ6 H6 _ I6 q6) (fun b s7 h7 => ?_) fun _ _ z => (hx _ _ z).elim
      obtain ⟨H7, I7, q7⟩ := h7
      -- the iterator's objects stand as they did
      have keepF : ∀ {σ8 : L2.St} {H8 : Hp} {s8 : Shared}, Inv X' ([go] ++ pinsAt fp s5.heap) σ8 H8 s8 → tn (i + 1) s8.heap ∧ ∀ b ∈ fp, H8 b = none := fun {σ8 H8 s8} I8 => by
        refine ⟨T.keep _ _ _ st5 fun b hb o e => (I8.pin (b, o) (List.mem_append_right _ (List.mem_append_right _ (mem_pinsAt hb e)))).1, fun b hb => ?_⟩
        obtain ⟨o, e, d⟩ := T.obj _ _ st5 b hb
        exact (I8.pin (b, o) (List.mem_append_right _ (List.mem_append_right _ (mem_pinsAt hb e)))).2.1
      cases b with
      | false =>
        simp only [Bool.false_eq_true, if_false] at q7 ⊢
        obtain ⟨m', hm, w7⟩ := hN _ _ _ q7
        obtain ⟨t1, t2⟩ := keepF I7
        rw [hen]
        exact seg_again rfl (ih m' hm (i + 1) j n s₀ s7 σ6 H7 hn w7 I7.unpinned t1 t2)
      | true =>
        simp only [if_true] at q7 ⊢
        have hy : ∀ v, yieldOut X'.env v = yieldValue v := fun v => by rw [hen]; simp only [yieldOut, hco, Bool.false_eq_true, if_false]
        simp only [hy]
        rw [Sem.bind_eq_wrap', Sem.bind_eq_wrap', Sem.wrap_wrap, Sem.wrap_wrap]
        refine seg_wrap ?_
        rw [hen, ov, ← hen]
        refine wpAny_mono (he.run _ s7 σ6 H7 _ I7 q7) (fun y s8 h8 => ?_) fun _ _ z => (hx _ _ z).elim
        obtain ⟨v, H8, I8, rv, c, rfl, hc, q8⟩ := h8
        have ey : y = .bool c := rv
        subst ey
        obtain ⟨m', hm, w8⟩ := hN _ _ _ q8
        obtain ⟨t1, t2⟩ := keepF I8
        have I9 := I8.unpinned
        have hjl : j < bs.length := (List.getElem?_eq_some_iff.mp hc).1
        obtain ⟨n', rfl⟩ : ∃ n', n = n' + 1 := ⟨n - 1, by omega⟩
        refine seg_at (seg_yield rfl rfl rfl ⟨j, c, by omega, hc, rfl, ⟨σ6, H8, I9, GW.1 _ _ _ _ _ w8⟩, fun s' ho hb hk => ?_⟩)
        rw [hen]
        have J : Inv X' [go] σ6 H8 s' := I9.call' (ch := []) ho (Un.kept hk) (I9.hok.kept hk) hb fun b z => by simp at z
        exact seg_again rfl (ih m' hm (i + 1) (j + 1) n' s' s' σ6 H8 (by omega) w8 J (T.keep _ _ _ t1 fun b _ o e => hk b o e) t2)
theorem seg_start {X' : Cx} {A : Around} {cenv : Env} {go : Addr × Obj} {elt tg iter : Expr} {ifs : List Expr} {gpos : Pos} {it : Addr} {J : It} {tn : Nat → Heap → Prop} {g : TG} {tt : TT} {te : TE} {bs : List Bool} {W : WT} {Fin : Hp → Prop}
    (hA : A.deeper cenv = X'.A) (hen : X'.env = cenv) (hcalm : X'.calm = true) (hx : ∀ e s, ¬ X'.xe e s) (hco : cenv.scope.isCoroutine = false) (T : Turn X'.prog X'.w X'.K tg J fp it tn) (hfp : ∀ H', (∀ b ∈ fp, H' b = none) → ∀ b ∈ fp, FpOk X' [go] H' b)
    (hg : PG X' tg g) (ht : PTs X' ifs tt) (he : PE X' elt te) (GW : GenWalk J g tt te bs W Fin) (m : Nat) (s₀ s : Shared) (σ : L2.St) (H : Hp) (w : W 0 0 m σ H) (I : Inv X' [go] σ H s) (st : tn 0 s.heap) (fr : ∀ b ∈ fp, H b = none) :
      Seg (model X'.prog X'.w) A (fun n _ r s₁ => r = .ok .next ∧ (n = 0 ∧ GR X' go Fin s₁)) (GY X' go bs Fin) bs.length s₀ (.compStart (.GeneratorExp elt [⟨tg, iter, ifs, 0⟩] scope gpos) 0 (.ref it) .none cenv)
        ((model X'.prog X'.w).den (.compStart (.GeneratorExp elt [⟨tg, iter, ifs, 0⟩] scope gpos) 0 (.ref it) .none cenv)) [] s := by
  have loop := seg_loop (scope := scope) (iter := iter) (gpos := gpos) hA hen hcalm hx hco T hfp hg ht he GW m 0 0 bs.length s₀ s σ H (Nat.zero_add _) w I st fr
  show Seg _ A _ _ _ s₀ _ ((compStart (.GeneratorExp elt [⟨tg, iter, ifs, 0⟩] scope gpos) 0 (.ref it) .none cenv).onRaise (leaving cenv)) [] s
  unfold compStart
  rw [Sem.onRaise_eq_wrap]
  show Seg _ A _ _ _ s₀ _ ((ask >>= _).wrap _ _ _ _) [] s
  refine seg_bind_wrap (wpAny_askSetting ?_)
  split
  · exact seg_again rfl loop
  · first
      | exact seg_bind_wrap (wpAny_rule (seg_bind_wrap (wpAny_standAt (seg_bind_wrap (T.self _ 0 s _ _ st (seg_again rfl loop))))))
      | (refine seg_bind_wrap (wpAny_rule ?_); show Seg _ A _ _ _ s₀ _ ((standAt iter.pos >>= _).wrap _ _ _ _) [] s; exact seg_bind_wrap (wpAny_standAt (seg_bind_wrap (T.self _ 0 s _ _ st (seg_again rfl loop)))))
/-- the generator between two items -/
def GSt (prog : Program) (w : World) (A : Around) (X' : Cx) (go : Addr × Obj) (g : Nat) (bs : List Bool) (Fin : Hp → Prop) (j : Nat) (s : Shared) : Prop :=
  GR X' go Fin s ∧ ∃ gs, s.gens[g]? = some gs ∧ ∀ s' : Shared, s'.os = s.os → AllBare s'.gens → (∀ b o, s.heap.get? b = some o → s'.heap.get? b = some o) →
    gs.Goes (model prog w) A (fun n _ r s₁ => r = .ok .next ∧ (n = 0 ∧ GR X' go Fin s₁)) (GY X' go bs Fin) (bs.length - j) (.send .none) s'
theorem GR.woke {X' : Cx} {go : Addr × Obj} {Fin : Hp → Prop} {s s' : Shared} (h : GR X' go Fin s) (ho : s'.os = s.os) (hb : AllBare s'.gens) (hk : ∀ b o, s.heap.get? b = some o → s'.heap.get? b = some o) : GR X' go Fin s' := by
  obtain ⟨σ, H, I, f⟩ := h
  exact ⟨σ, H, I.call' (ch := []) ho (Un.kept hk) (I.hok.kept hk) hb fun b z => by simp at z, f⟩
theorem walk_gen {prog : Program} {w : World} {A : Around} {X' : Cx} {a : Addr} {go : Obj} {g : Nat} {bs : List Bool} {Fin : Hp → Prop} (hh : A.handled = none) (hroom : A.depth < recursionLimit) (hgo : ∀ h : Heap, h.get? a = some go → h.IsGen a g) :
    WalkI prog w A a bs (GSt prog w A.in1 X' (a, go) g bs Fin) (GR X' (a, go) Fin) where
  fin := fun j s h => h.1
  item := fun j b s Q E hb st hQ => by
    obtain ⟨gr, gs, hgs, goes⟩ := st
    have hj : j < bs.length := (List.getElem?_eq_some_iff.mp hb).1
    obtain ⟨σ, H, I, fH⟩ := gr
    have hgl : g < s.gens.size := (Array.getElem?_eq_some_iff.mp hgs).1
    have ig := hgo _ (I.pin (a, go) (List.mem_append_right _ List.mem_cons_self)).1
    obtain ⟨m, hm⟩ : ∃ m, bs.length - j = m + 1 := ⟨bs.length - j - 1, by omega⟩
    rw [hm] at goes
    refine wpAny_gsz (n := g + 1) hgl ?_
    refine wpAny_pyNext_genexpQ (P := fun n _ s₁ => n = 0 ∧ GR X' (a, go) Fin s₁) hh I.nolimit hroom ig hgs (goes _ rfl (allBare_setGen I.bare rfl) fun _ _ e => e) (fun v s₁ gs' hbr hv => ?_) (fun s₁ hp h' hk => ?_)
    · obtain ⟨j', c, e1, e2, rfl, gr1, kap⟩ := hv
      have ej : j' = j := by omega
      subst ej
      rw [hb] at e2
      cases e2
      intro hsz
      have hsz1 : g < s₁.gens.size := by
        have q : (s₁.setGen g gs').gens.size = s₁.gens.size := setGen_size _ _ _
        have hsz' : g + 1 ≤ (s₁.setGen g gs').gens.size := hsz
        omega
      obtain ⟨σ1, H1, I1, f1⟩ := gr1
      have bare1 : AllBare (s₁.setGen g gs').gens := allBare_setGen I1.bare hbr
      refine hQ _ ⟨GR.woke ⟨σ1, H1, I1, f1⟩ rfl bare1 fun _ _ e => e, gs', setGen_at hsz1, fun s' ho hb' hk => ?_⟩
      have e : bs.length - (j' + 1) = m := by omega
      rw [e]
      exact kap s' ho hb' hk
    · exact absurd hp.1 (Nat.succ_ne_zero m)
  done := fun s Q E st hQ => by
    obtain ⟨gr, gs, hgs, goes⟩ := st
    obtain ⟨σ, H, I, fH⟩ := gr
    have hgl : g < s.gens.size := (Array.getElem?_eq_some_iff.mp hgs).1
    have ig := hgo _ (I.pin (a, go) (List.mem_append_right _ List.mem_cons_self)).1
    rw [Nat.sub_self] at goes
    refine wpAny_pyNext_genexpQ (P := fun n _ s₁ => n = 0 ∧ GR X' (a, go) Fin s₁) hh I.nolimit hroom ig hgs (goes _ rfl (allBare_setGen I.bare rfl) fun _ _ e => e) (fun v s₁ gs' hbr hv => ?_) (fun s₁ hp h' hk => ?_)
    · obtain ⟨_, _, _, _, _, gr1, kap⟩ := hv
      obtain ⟨σ1, H1, I1, f1⟩ := gr1
      exact False.elim (kap s₁ rfl I1.bare fun _ _ e => e)
    · obtain ⟨_, hp⟩ := hp
      obtain ⟨σ1, H1, I1, f1⟩ := id hp
      exact hQ _ (GR.woke hp rfl (allBare_setGen I1.bare rfl) hk)
end
end Gc
namespace Gc
open PySem PySem.Spec PyProof.Rows L2 GxR GenW
section
variable {X : Cx} {pins : List (Addr × Obj)} {σ σ' : L2.St} {H H' : Hp} {s s' : Shared} {N' : List Str} {scope : Scope} {fp : List Addr} {code : Value}
/-- a generator that stands ready, what it will give -/
def Rdy (X : Cx) (pins : List (Addr × Obj)) (σ : L2.St) (bs : List Bool) (Fin : Hp → Prop) (ga : Addr) (t : Shared) : Prop :=
  ∃ (St : Nat → Shared → Prop) (Fn : Shared → Prop), WalkI X.prog X.w X.A.in1 ga bs St Fn ∧ St 0 t ∧ (∃ g, t.heap.IsGen ga g) ∧ ∀ s', Fn s' → ∃ H', Inv X pins σ H' s' ∧ Fin H'
/-- the element's judgements, in the generator's frame -/
structure Els (X : Cx) (scope : Scope) (N' : List Str) (tg elt : Expr) (ifs : List Expr) (g : TG) (tt : TT) (te : TE) : Prop where
  tgt : ∀ (s : Shared) (H : Hp) (C : Addr) (cl : List (Str × Addr)) (code : Value) (fp : List Addr), PG (gcx X N' (genEnv scope cl C code builtinsNs X.env) fp s H) tg g
  tst : ∀ (s : Shared) (H : Hp) (C : Addr) (cl : List (Str × Addr)) (code : Value) (fp : List Addr), PTs (gcx X N' (genEnv scope cl C code builtinsNs X.env) fp s H) ifs tt
  elt : ∀ (s : Shared) (H : Hp) (C : Addr) (cl : List (Str × Addr)) (code : Value) (fp : List Addr), PE (gcx X N' (genEnv scope cl C code builtinsNs X.env) fp s H) elt te
/-- the names of the frame: those of the target, then what is captured -/
structure Cap (X : Cx) (scope : Scope) (N' : List Str) (nt : Nat) (cap : List Nat) : Prop where
  len : N'.length = nt + cap.length
  at' : ∀ (q j : Nat) (y : Str), cap[q]? = some j → N'[nt + q]? = some y → X.N[j]? = some y ∧ scope.names.lookup y = some .free ∧ (X.env.kindOf y = some .cell ∨ X.env.kindOf y = some .free) ∧ Vis X.env.scope y
def start (nt : Nat) (cap : List Nat) (σ : L2.St) : L2.St := List.replicate nt none ++ cap.map fun j => (σ[j]?).getD none
theorem start_nm {nt : Nat} {cap : List Nat} (c : Cap X scope N' nt cap) : ∀ (i : Nat) (y : Str) (v : V), N'[i]? = some y → (start nt cap σ)[i]? = some (some v) → scope.names.lookup y = some .free ∧ (X.env.kindOf y = some .cell ∨ X.env.kindOf y = some .free) ∧ Vis X.env.scope y ∧ ∃ j : Nat, X.N[j]? = some y ∧ σ[j]? = some (some v) := by
  intro i y v h1 h2
  unfold start at h2
  by_cases hi : i < nt
  · rw [List.getElem?_append_left (by simpa using hi), List.getElem?_replicate] at h2
    split at h2 <;> cases h2
  · rw [List.getElem?_append_right (by simpa using hi), List.length_replicate, List.getElem?_map] at h2
    cases e : cap[i - nt]? with
    | none => rw [e] at h2; cases h2
    | some j =>
      rw [e] at h2
      have h3 : (σ[j]?).getD none = some v := by simpa using h2
      obtain ⟨k1, k2, k3, k4⟩ := c.at' (i - nt) j y e (by rw [show nt + (i - nt) = i by omega]; exact h1)
      refine ⟨k2, k3, k4, j, k1, ?_⟩
      cases q : σ[j]? with
      | none => rw [q] at h3; cases h3
      | some o => rw [q] at h3; exact congrArg some h3
theorem gen_any {c P : Addr} {elt tg iter : Expr} {ifs : List Expr} {gpos : Pos} {wi : TI} {g : TG} {tt : TT} {te : TE} {nt : Nat} {cap : List Nat} {k : Nat} {Q' : Value → Shared → Prop}
    (hr : Room k X.A) (TB : TabB X.base X.mg c P) (hcode : X.env.code = .ref c) (S : GSc X.env scope) (C : Cap X scope N' nt cap) (hi : PI X tg iter wi) (el : Els X scope N' tg elt ifs g tt te) (hs : ∀ v, genFold iter X.env v = pure v) (I : Inv X pins σ H s)
    {R : It → Hp → Prop} (h : wi σ H R) (hR : ∀ J H1, R J H1 → TabG H1 P ∧ ∀ H2, Gq.Tb2 P gpos H1 H2 → ∃ (bs : List Bool) (W : WT) (Fin : Hp → Prop) (m : Nat), W 0 0 m (start nt cap σ) H2 ∧ GenWalk J g tt te bs W Fin ∧ ∀ ga t, Rdy X pins σ bs Fin ga t → Q' (.ref ga) t) :
    wpAny (model X.prog X.w) X.A (eval (.GeneratorExp elt [⟨tg, iter, ifs, 0⟩] scope gpos) X.env) Q' X.xe s := by
  refine wpAny_GeneratorExp_make S.co (closure_ok S.free) S.cell S.dot S.kind (by have d := hr.dp; omega) ?_ hs
  refine thn (hi.run pins s σ H _ I h) fun xv s0 h0 => thn h0 fun itv s1 h1 => ?_
  obtain ⟨it, fp, tn, J, H1, rfl, I1, T, st1, fp1, hrJ⟩ := h1
  obtain ⟨tabG, rest⟩ := hR J H1 hrJ
  obtain ⟨ps, tabH, trip⟩ := tabG
  have tab1 : s1.heap.get? P = some { cls := .none, data := .fields ps } := I1.hok P _ tabH
  have Plt : P < s1.heap.objs.size := Heap.lt_size tab1
  have hd2 : PySem.W.CodeHd s1.heap c P := TB.code.keeps fun b u q => I1.bk b u q
  refine ⟨I1.nolimit, ?_⟩
  have fpP : ∀ b ∈ fp, b ≠ P := fun b hb z => by
    have := (fp1 b hb).1
    rw [z, tabH] at this; cases this
  have go : ∀ (code : Value) (h3 : Heap) (tk : Nat) (qs : Array Value), Heap.ExtBut P s1.heap h3 → s1.heap.objs.size ≤ h3.objs.size → h3.get? P = some { cls := .none, data := .fields qs } → (∃ more, qs = ps ++ more ∧ (more = #[] ∨ ∃ cv, more = #[rawInt (gpos.line : Int), rawInt (gpos.col : Int), cv])) → TriplesOk qs.toList →
      wpAny (model X.prog X.w) X.A (builtinsFor X.env.globals X.env.builtins) (fun bi s4 => ∀ h', h'.Ns s4.heap.objs.size (fun y => if y = ".0" then some (Value.ref it) else none) → Heap.SameBut s4.heap.objs.size (s4.heap.push { cls := .type "frame", data := .dict #[] }) h' →
          Q' (.ref h'.objs.size) { s4 with
            gens := s4.gens.push (.fresh (.compStart (.GeneratorExp elt [⟨tg, iter, ifs, 0⟩] scope gpos) 0 (.ref it) .none (genEnv scope (cloFrom X.env.cells scope.names []) s4.heap.objs.size code bi X.env))),
            toks := s4.toks + 1 + 1 + 1,
            heap := h'.push { cls := .type "generator", data := .fields #[.int s4.gens.size 0, .str "<genexpr>" (s4.toks + 1), .str (X.env.qual ++ "<genexpr>") (s4.toks + 1 + 1)] } }) X.xe { s1 with heap := h3, toks := tk } := by
    intro code h3 tk qs ext le3 tab3 grown trip3
    obtain ⟨bm, bo, z1, z2, z3, z4, z5, z6, z7, z8⟩ := TB.bm
    have keep3 : ∀ b u, b ≠ P → s1.heap.get? b = some u → h3.get? b = some u := fun b u nb q => ext b u nb q
    refine wpAny_builtinsFor (m := X.mg) (by rw [I1.ok.glob]; exact (I1.mod.glob.keeps I1.bk).extBut ext TB.gP) z1 z2 (keep3 _ _ z4 (I1.bk _ _ z5)) z6 z7 z8 ?_
    intro h' hn' hs'
    obtain ⟨more, em, mk⟩ := grown
    -- behind the table
    have I4 : Inv X pins σ (upd H1 P (.tbl (ps ++ more))) { s1 with heap := h3, toks := tk } := by
      have J4 := inv_tab (more := more) (h' := h3) (g' := s1.gens) (d' := s1.drawn) (t' := tk) I1 tabH keep3 (by rw [← em]; exact tab3) I1.bare
      exact J4
    have fp4 : ∀ b ∈ fp, FpOk X pins (upd H1 P (.tbl (ps ++ more))) b := fun b hb => ⟨by rw [upd_ne (fpP b hb)]; exact (fp1 b hb).1, (fp1 b hb).2⟩
    have st4 : tn 0 h3 := T.keep _ _ _ st1 fun b hb o e => keep3 b o (fpP b hb) e
    have ob4 := T.obj _ _ st4
    have tb : Gq.Tb2 P gpos H1 (upd H1 P (.tbl (ps ++ more))) := ⟨⟨⟨ps ++ more, upd_same, by rw [← em]; exact trip3⟩, fun b nb => upd_ne nb⟩, fun ps' e => ⟨more, (by rw [tabH] at e; cases e; exact upd_same), mk⟩⟩
    obtain ⟨bs, W, Fin, m, w0, GW, fin⟩ := rest _ tb
    have hsz : h'.objs.size = h3.objs.size + 1 := by rw [hs'.1, Heap.size_push]
    have ltA : h3.objs.size < h'.objs.size := by rw [hsz]; exact Nat.lt_succ_self _
    have keep' : ∀ b o, h3.get? b = some o → h'.get? b = some o := fun b o e => hs'.extBut b o (Nat.ne_of_lt (Heap.lt_size e)) (Heap.get?_push_of_some _ e)
    generalize hgo : ({ cls := .type "generator", data := .fields #[.int s1.gens.size 0, .str "<genexpr>" (tk + 1), .str (X.env.qual ++ "<genexpr>") (tk + 1 + 1)] } : Obj) = go
    have goC : go.cls = .type "generator" := by rw [← hgo]
    have goD : go.data = .fields #[.int s1.gens.size 0, .str "<genexpr>" (tk + 1), .str (X.env.qual ++ "<genexpr>") (tk + 1 + 1)] := by rw [← hgo]
    have goS : go.slots = #[] := by rw [← hgo]
    have hgp : (h'.push go).get? h'.objs.size = some go := by rw [← hgo]; exact Heap.get?_push_size _ rfl
    have isG : ∀ h : Heap, h.get? h'.objs.size = some go → h.IsGen h'.objs.size s1.gens.size := fun h e => ⟨go, _, _, e, goC, goD, goS⟩
    show Q' (.ref h'.objs.size) { s1 with gens := s1.gens.push (.fresh (.compStart (.GeneratorExp elt [⟨tg, iter, ifs, 0⟩] scope gpos) 0 (.ref it) .none (genEnv scope (cloFrom X.env.cells scope.names []) h3.objs.size code builtinsNs X.env))), toks := tk + 1 + 1 + 1, heap := h'.push go }
    generalize hcode' : (Code.compStart (.GeneratorExp elt [⟨tg, iter, ifs, 0⟩] scope gpos) 0 (.ref it) .none (genEnv scope (cloFrom X.env.cells scope.names []) h3.objs.size code builtinsNs X.env)) = cs
    have keep5 : ∀ b o, h3.get? b = some o → (h'.push go).get? b = some o := fun b o e => Heap.get?_push_of_some _ (keep' b o e)
    have bare5 : AllBare (s1.gens.push (.fresh cs)) := AllBare.push I1.bare rfl
    have I5 := inv_gcx (N' := N') (code := code) (tk' := tk + 1 + 1 + 1) I4 hr.hd S fp4 (fun b hb => let ⟨o, e, _⟩ := ob4 b hb; ⟨o, e⟩) keep5 (hn'.push _) bare5 (start_nm (σ := σ) C) (by unfold start; rw [List.length_append, List.length_replicate, List.length_map]; exact C.len.symm)
    have ltC : ∀ b ∈ fp, b < h3.objs.size := fun b hb => let ⟨o, e, _⟩ := ob4 b hb; Heap.lt_size e
    have aFr : h'.objs.size ∉ frs X.stack := fun hm => by
      rcases List.mem_cons.mp (I4.stkSub _ hm) with z | z
      · have q : X.env.locals < h3.objs.size := I4.lt
        rw [← z] at q
        exact absurd (Nat.lt_trans q ltA) (Nat.lt_irrefl _)
      · exact I4.nofs (Nat.le_of_lt ltA) z
    have I6 := I5.pins_of (pins' := [(h'.objs.size, go)]) fun p hp => by
      rw [List.mem_singleton.mp hp]
      exact ⟨hgp, I4.hok.fresh (Nat.le_of_lt ltA), Nat.ne_of_gt ltA, aFr, fun v q => by rw [goD] at q; cases q⟩
    refine fin _ _ ⟨_, _, walk_gen (X' := gcx X N' (genEnv scope (cloFrom X.env.cells scope.names []) h3.objs.size code builtinsNs X.env) fp { s1 with heap := h3, toks := tk } (upd H1 P (.tbl (ps ++ more)))) (Fin := Fin) hr.hd (by have d := hr.dp; show X.A.depth < _; omega) isG, ⟨⟨_, _, I6, GW.1 _ _ _ _ _ w0⟩, _, Array.getElem?_push_size .., fun s' ho hb hk => ?_⟩, ⟨_, isG _ hgp⟩, fun s' gr => ?_⟩
    · rw [← hcode']
      refine ⟨rfl, ?_⟩
      have J := I6.call' (ch := []) ho (Un.kept hk) (I6.hok.kept hk) hb fun b z => by simp at z
      exact seg_start (X' := gcx X N' (genEnv scope (cloFrom X.env.cells scope.names []) h3.objs.size code builtinsNs X.env) fp { s1 with heap := h3, toks := tk } (upd H1 P (.tbl (ps ++ more)))) rfl rfl rfl (fun e s h => h) S.co T (fun H' hn b hb => ⟨hn b hb, Nat.ne_of_lt (ltC b hb), fun hm => (by
          rcases List.mem_cons.mp (I4.stkSub _ hm) with z | z
          · exact (fp4 b hb).2.1 z
          · exact (fp4 b hb).2.2.1 z), .inl hb, fun x c h => (fp4 b hb).2.2.2.2.1 x c (clo_eq S h), fun p hp => (by
          have hp : p = (h'.objs.size, go) := List.mem_singleton.mp hp
          rw [hp]
          exact Nat.ne_of_gt (Nat.lt_trans (ltC b hb) ltA))⟩) (el.tgt _ _ _ _ _ _) (el.tst _ _ _ _ _ _) (el.elt _ _ _ _ _ _) GW m s' s' _ _ w0 J (T.keep _ _ _ st4 fun b hb o e => hk b o (keep5 b o e)) fun b hb => (fp4 b hb).1
    · obtain ⟨σ9, H9, J9, f9⟩ := gr
      exact ⟨H9, gcx_back I4 fp4 J9, f9⟩
  cases among : codeAmong gpos ps.toList with
  | none =>
    refine wpAny_genexprCodeX hcode (hd2.code tab1 trip) (hd2.tab tab1) among fun c' h' tk ext ge lt co _ tab' _ => ?_
    obtain ⟨_, _, _, _, _, _, _, _, _, _, _, _, _, _, _, _, _, _, _, tr, _⟩ := co
    exact go _ h' tk _ ext (Nat.le_trans ge (Nat.le_of_lt lt)) tab'.2 ⟨_, rfl, .inr ⟨_, rfl⟩⟩ tr
  | some cv =>
    refine wpAny_genexprCode_hit hcode (hd2.code tab1 trip) among ?_
    exact go cv s1.heap s1.toks ps (Heap.ExtBut.refl _ _) (Nat.le_refl _) tab1 ⟨#[], by simp, .inl rfl⟩ trip
/-- what a built-in makes of the truth values that a generator gives -/
def EatsB (X : Cx) (fn : String) (res : List Bool → Bool) : Prop :=
  ∀ {bs : List Bool} {St : Nat → Shared → Prop} {Fn : Shared → Prop} {ga : Addr} {t : Shared} {E : Value → Shared → Prop} {Q : Value → Shared → Prop},
    WalkI X.prog X.w X.A.in1 ga bs St Fn → St 0 t → (∃ g, t.heap.IsGen ga g) → (∀ s', Fn s' → Q (.bool (res bs)) s') → wpAny (model X.prog X.w) X.A (call (.builtin fn) [.ref ga]) Q E t
theorem eats_all : EatsB X "all" (fun bs => bs.all id) := by
  intro bs St Fn ga t E Q W st ig k
  obtain ⟨g, ig⟩ := ig
  exact call_all (wpAny_pyIter_gen ig ⟨ga, bs, St, Fn, rfl, W, st, k⟩)
theorem eats_any : EatsB X "any" (fun bs => bs.any id) := by
  intro bs St Fn ga t E Q W st ig k
  obtain ⟨g, ig⟩ := ig
  exact call_any (wpAny_pyIter_gen ig ⟨ga, bs, St, Fn, rfl, W, st, k⟩)
def tGenB (P : Addr) (gp : Pos) (res : List Bool → Bool) (nt : Nat) (cap : List Nat) (wi : TI) (g : TG) (tt : TT) (te : TE) : TE := fun σ H Q => wi σ H fun J H1 => TabG H1 P ∧ ∀ H2, Gq.Tb2 P gp H1 H2 →
  ∃ (bs : List Bool) (W : WT) (Fin : Hp → Prop) (m : Nat), W 0 0 m (start nt cap σ) H2 ∧ GenWalk J g tt te bs W Fin ∧ ∀ H3, Fin H3 → Q (.bl (res bs)) H3
theorem pe_genB {fn : String} {res : List Bool → Bool} {n : Str} {c P : Addr} {elt tg iter : Expr} {ifs : List Expr} {p pos gpos : Pos} {wi : TI} {g : TG} {tt : TT} {te : TE} {nt : Nat} {cap : List Nat} {k : Nat} (hf : EatsB X fn res)
    (hr : Room k X.A) (hg : Gl X n) (hm : X.mg n = none) (hb : bootBuiltins n = some (.builtin fn)) (TB : TabB X.base X.mg c P) (hcode : X.env.code = .ref c) (S : GSc X.env scope) (C : Cap X scope N' nt cap) (hi : PI X tg iter wi) (el : Els X scope N' tg elt ifs g tt te)
    (hs : ∀ v, genFold iter X.env v = pure v) (hn : n ≠ "__name__" := by decide) (hdb : (n == ("__debug__" : Str)) = false := by decide)
    (he : starEach [.GeneratorExp elt [⟨tg, iter, ifs, 0⟩] scope gpos] X.env = (false, eval (.GeneratorExp elt [⟨tg, iter, ifs, 0⟩] scope gpos) X.env) :: starEach [] X.env := by rfl) :
    PE X (.Call (.Name n p) [.GeneratorExp elt [⟨tg, iter, ifs, 0⟩] scope gpos] [] pos) (tGenB P gpos res nt cap wi g tt te) := by
  refine ⟨fun pins s σ H Q I h => ?_⟩
  refine wpAny_Call_Name_kw (ld_blt I hg hm hb ?_ hn hdb)
  refine PyProof.Rows.callWith_builtin1 ?_ he (by rfl)
  rw [he]
  refine Calls.spliced_cons (gen_any hr TB hcode S C hi el hs I h fun J H1 q1 => ⟨q1.1, fun H2 tb => ?_⟩)
  obtain ⟨bs, W, Fin, m, w0, GW, fin⟩ := q1.2 H2 tb
  refine ⟨bs, W, Fin, m, w0, GW, fun ga t rdy => ?_⟩
  obtain ⟨St, Fn, Wk, st, ig, back⟩ := rdy
  refine Calls.spliced_nil ?_
  refine hf Wk st ig fun s' fs => ?_
  obtain ⟨H3, J3, f3⟩ := back s' fs
  exact ⟨.bl (res bs), H3, J3, rfl, fin H3 f3⟩
inductive Caps (X : Cx) (scope : Scope) : List Str → List Nat → Prop
  | nil : Caps X scope [] []
  | cons {y : Str} {ys : List Str} {j : Nat} {js : List Nat} : X.N[j]? = some y → scope.names.lookup y = some .free → (X.env.kindOf y = some .cell ∨ X.env.kindOf y = some .free) → Vis X.env.scope y → Caps X scope ys js → Caps X scope (y :: ys) (j :: js)
theorem Caps.len : ∀ {ys : List Str} {js : List Nat}, Caps X scope ys js → ys.length = js.length
  | _, _, .nil => rfl
  | _, _, .cons _ _ _ _ t => congrArg (· + 1) (Caps.len t)
theorem Caps.at' : ∀ {ys : List Str} {js : List Nat} {q j : Nat} {y : Str}, Caps X scope ys js → js[q]? = some j → ys[q]? = some y → X.N[j]? = some y ∧ scope.names.lookup y = some .free ∧ (X.env.kindOf y = some .cell ∨ X.env.kindOf y = some .free) ∧ Vis X.env.scope y
  | _, _, 0, _, _, .cons a b c d _, e1, e2 => by cases e1; cases e2; exact ⟨a, b, c, d⟩
  | _, _, q + 1, _, _, .cons _ _ _ _ t, e1, e2 => by
    rw [List.getElem?_cons_succ] at e1 e2
    exact Caps.at' t e1 e2
  | _, _, _, _, _, .nil, e1, _ => by simp at e1
theorem Cap.of {ts ys : List Str} {cap : List Nat} (h : Caps X scope ys cap) : Cap X scope (ts ++ ys) ts.length cap :=
  ⟨by rw [List.length_append, h.len], fun q j y e1 e2 => h.at' e1 (by rw [List.getElem?_append_right (Nat.le_add_right _ _), Nat.add_sub_cancel_left] at e2; exact e2)⟩
/-- a constant of the module, a whole number -/
def isI (i : Int) (o : Option Value) : Bool := match o with
  | some (.int j _) => j == i
  | _ => false
theorem pe_globI {n : Str} {p : Pos} {i : Int} (hg : Gl X n) (h : isI i (X.mg n) = true) (hn : (n == ("__debug__" : Str)) = false := by decide) : PE X (.Name n p) (tC (.int i)) := by
  cases e : X.mg n with
  | none => rw [e] at h; cases h
  | some u =>
    rw [e] at h
    cases u with
    | int j t =>
      have q : j = i := by simpa [isI] using h
      subst q
      exact pe_glob (v := .int j) hg e ⟨t, rfl⟩ hn
    | _ => cases h
abbrev rTupOf (K : PySem.W.Frag) : List V → Hp → VK → Prop := fun xs H Q => ∃ p ys, xs = [V.ref p] ∧ ((SqL K H p ys ∧ ∀ l, H l = none → Q (V.ref l) (L2.upd H l (.tup ys))) ∨ (SqT K H p ys ∧ Q (V.ref p) H))
abbrev rLstOf (K : PySem.W.Frag) : List V → Hp → VK → Prop := fun xs H Q => ∃ p ys, xs = [V.ref p] ∧ (SqL K H p ys ∨ SqT K H p ys) ∧ ∀ l, H l = none → Q (V.ref l) (L2.upd H l (.lst ys))
theorem un1 {k : Nat} {A : Around} (r : Room k A) : A.units + 1 < cLine := by have := r.un; omega
end
end Gc

namespace My
open PySem L2
section
variable {P : Program} {w : World} {K : PySem.W.Frag} {mg : Str → Option Value} {base : Heap}
/-! ### sources and draws -/
/-- a source of draws: a list of two whole numbers -/
def Src (H : Hp) (a : Addr) : Prop := ∃ c p : Int, H a = some (.lst [.int c, .int p])
/-- the heap without the listed objects -/
def wo (S : List Addr) (H : Hp) : Hp := fun b => if b ∈ S then none else H b
theorem wo_out {S : List Addr} {H : Hp} {b : Addr} (h : b ∉ S) : wo S H b = H b := if_neg h
theorem wo_in {S : List Addr} {H : Hp} {b : Addr} (h : b ∈ S) : wo S H b = none := if_pos h
theorem wo_same (S : List Addr) (H : Hp) : Same (wo S H) H := fun b o e => by
  by_cases h : b ∈ S
  · rw [wo_in h] at e; cases e
  · rw [wo_out h] at e; exact e
theorem Same.wo {S : List Addr} {H H' : Hp} (s : Same H H') : Same (wo S H) (wo S H') := fun b o e => by
  by_cases h : b ∈ S
  · rw [wo_in h] at e; cases e
  · rw [wo_out h] at e ⊢; exact s b o e
/-- only the object at a may have changed -/
def But (a : Addr) (H H' : Hp) : Prop := ∀ b o, b ≠ a → H b = some o → H' b = some o
theorem But.wo {a : Addr} {S : List Addr} {H H' : Hp} (s : But a H H') (h : a ∈ S) : Same (wo S H) (wo S H') := fun b o e => by
  by_cases k : b ∈ S
  · rw [wo_in k] at e; cases e
  · rw [wo_out k] at e ⊢
    exact s b o (fun z => k (z ▸ h)) e
theorem But.upd {a : Addr} {o : HO} {H : Hp} : But a H (upd H a o) := fun b o e h => by rw [upd_ne e]; exact h
theorem But.trans {a : Addr} {H H1 H2 : Hp} (s : But a H H1) (t : But a H1 H2) : But a H H2 := fun b o e h => t b o e (s b o e h)
theorem But.refl (a : Addr) (H : Hp) : But a H H := fun _ _ _ h => h
theorem Same.but {a : Addr} {H H' : Hp} (s : Same H H') : But a H H' := fun b o _ h => s b o h
theorem Same.new {H : Hp} {p : Addr} {o : HO} (h : H p = none) : Same H (upd H p o) := fun b u e => by
  rw [upd_ne (ne_of_none e h)]; exact e
theorem But.new {a : Addr} {H : Hp} {p : Addr} {o : HO} (h : H p = none) : But a H (L2.upd H p o) := fun b u _ e => Same.new h b u e
theorem small6 {n : Nat} (h : n ≤ 100000) : n < sizeLine := Nat.lt_of_le_of_lt h (by decide)
theorem small6' {n : Nat} (h : n ≤ 100000) : n ≤ sizeLine := Nat.le_of_lt (small6 h)
theorem Src.at {H H' : Hp} {a b : Addr} (h : Src H a) (s : But b H H') (n : a ≠ b) : Src H' a := by
  obtain ⟨c, p, e⟩ := h
  exact ⟨c, p, s a _ n e⟩
theorem Src.same {H H' : Hp} {a : Addr} (h : Src H a) (s : Same H H') : Src H' a := by
  obtain ⟨c, p, e⟩ := h
  exact ⟨c, p, s a _ e⟩
theorem Src.ne {H : Hp} {a p : Addr} (h : Src H a) (n : H p = none) : p ≠ a := fun z => by
  obtain ⟨c, q, e⟩ := h
  rw [z, e] at n; cases n
def spSource (K : PySem.W.Frag) : Sp := fun vs H Q _ => ∃ (a : Addr) (ns : List Int) (p : Int), vs = [.ref a, .int p] ∧ SqL K H a (ns.map V.int) ∧ 0 ≤ p ∧
  ∀ l H', H l = none → Same H H' → Src H' l → Q (.ref l) H'
def spDraw : Sp := fun vs H Q _ => ∃ (a : Addr) (n : Int), vs = [.ref a, .int n] ∧ Src H a ∧ 0 < n ∧ n < 1073741824 ∧
  ∀ (r : Int) (H' : Hp), 0 ≤ r → r < n → Src H' a → But a H H' → Q (.int r) H'
def spWhole : Sp := fun vs H Q _ => (∃ i : Int, vs = [.int i] ∧ Q (.bl true) H)
theorem But.mut {a l : Addr} {o : HO} {H H' : Hp} (s : But a H H') (h : H l = none) : But a H (L2.upd H' l o) := fun b u nb e => by
  rw [upd_ne (ne_of_none e h)]; exact s b u nb e
theorem Src.set {a l : Addr} {o : HO} {H : Hp} (s : Src H a) (h : l ≠ a) : Src (L2.upd H l o) a := by
  obtain ⟨c, p, e⟩ := s
  exact ⟨c, p, by rw [upd_ne h.symm]; exact e⟩
theorem But.free {a l : Addr} {H H' : Hp} (s : But a H H') (h : H' l = none) (n : l ≠ a) : H l = none := by
  cases e : H l with
  | none => rfl
  | some o => rw [s l o n e] at h; cases h
/-- a new source joins -/
theorem wo_join {S : List Addr} {s : Addr} {H H' : Hp} (e : Same H H') (h : H s = none) : Same (wo S H) (wo (s :: S) H') := fun b o q => by
  have n : b ≠ s := fun z => by
    have q' := wo_same S H b o q
    rw [z, h] at q'; cases q'
  by_cases k : b ∈ S
  · rw [wo_in k] at q; cases q
  · rw [wo_out k] at q
    rw [wo_out (by simp [n, k])]; exact e b o q
theorem wo_join0 {s : Addr} {H H' : Hp} (e : Same H H') (h : H s = none) : Same H (wo [s] H') := fun b o q => wo_join (S := []) e h b o (by rw [wo_out (by simp)]; exact q)
theorem wo_drop {S : List Addr} {s : Addr} {H : Hp} : Same (wo (s :: S) H) (wo S H) := fun b o q => by
  by_cases k : b ∈ s :: S
  · rw [wo_in k] at q; cases q
  · rw [wo_out k] at q
    rw [wo_out (fun z => k (List.mem_cons_of_mem _ z))]; exact q

/-! ### cuts, tests -/
theorem cutS {t u : TS} {D : Ends} {σ : L2.St} {H : Hp} (M : L2.St → Hp → Prop) (hk : ∀ σ' H', M σ' H' → u D σ' H') (h : (∀ σ' H', M σ' H' → u D σ' H') → tSeq t u D σ H) : tSeq t u D σ H := h hk
def PuT (t : TT) (σ : L2.St) (H : Hp) (b : Bool) : Prop := ∀ Q : Bool → Hp → Prop, Q b H → t σ H Q
theorem put_and {t u : TT} {σ : L2.St} {H : Hp} {a b : Bool} (h1 : PuT t σ H a) (h2 : a = true → PuT u σ H b) : PuT (tAnd t u) σ H (a && b) := fun Q q => h1 _ (by
  cases a with
  | true => exact iteT (h2 rfl Q q)
  | false => exact iteF q)
theorem put_or {t u : TT} {σ : L2.St} {H : Hp} {a b : Bool} (h1 : PuT t σ H a) (h2 : a = false → PuT u σ H b) : PuT (tOr t u) σ H (a || b) := fun Q q => h1 _ (by
  cases a with
  | true => exact iteT q
  | false => exact iteF (h2 rfl Q q))
theorem put_not {t : TT} {σ : L2.St} {H : Hp} {a : Bool} (h1 : PuT t σ H a) : PuT (tNot t) σ H (!a) := fun Q q => h1 _ q
theorem put_is {t : TT} {σ : L2.St} {H : Hp} {a b : Bool} (h : PuT t σ H a) (e : a = b) : PuT t σ H b := e ▸ h
theorem ifS_of {c : TT} {t u : TS} {D : Ends} {σ : L2.St} {H : Hp} {b : Bool} (h : PuT c σ H b) (h1 : b = true → t D σ H) (h2 : b = false → u D σ H) : tIfS c t u D σ H := h _ (by
  cases b with
  | true => exact iteT (h1 rfl)
  | false => exact iteF (h2 rfl))
theorem ifE_of {c : TT} {ta tb : TE} {σ : L2.St} {H : Hp} {Q : VK} {b : Bool} (h : PuT c σ H b) (h1 : b = true → ta σ H Q) (h2 : b = false → tb σ H Q) : tIf c ta tb σ H Q := h _ (by
  cases b with
  | true => exact iteT (h1 rfl)
  | false => exact iteF (h2 rfl))
/-- an optional bound -/
def vo : Option Int → V
  | none => .non
  | some i => .int i
theorem vo_non (o : Option Int) : decide (vo o = .non) = o.isNone := by cases o <;> rfl
theorem nxt {F : L2.St → Hp → Prop} {r b c} {σ : L2.St} {H : Hp} (h : F σ H) : tNext { nx := F, rt := r, bk := b, ct := c } σ H := h
theorem nxe {F : L2.St → Hp → Prop} {r b c} {σ : L2.St} {H : Hp} (h : F σ H) : Ends.nx { nx := F, rt := r, bk := b, ct := c } σ H := h
theorem sqIf {c : TT} {t u r : TS} {D : Ends} {σ : L2.St} {H : Hp} {b : Bool} (h : PuT c σ H b) (h1 : b = true → t { D with nx := r D } σ H) (h2 : b = false → u { D with nx := r D } σ H) : tSeq (tIfS c t u) r D σ H := ifS_of h h1 h2
theorem asg {F : L2.St → Hp → Prop} {r b c} {i : Nat} {v : V} {σ : L2.St} {H : Hp} (h : F (σ.set i (some v)) H) : gName i v σ H (Ends.nx { nx := F, rt := r, bk := b, ct := c }) := h
/-- an item of a written list of whole numbers -/
theorem pick : ∀ (vs : List Int) (r : Int), 0 ≤ r → r < vs.length → ∃ v, v ∈ vs ∧ atI (vs.map V.int) r = some (.int v) := fun vs r h0 h1 => by
  obtain ⟨j, rfl⟩ := Int.eq_ofNat_of_zero_le h0
  have hj : j < vs.length := by omega
  exact ⟨vs[j], List.getElem_mem hj, atI_nat (by rw [List.getElem?_map, List.getElem?_eq_getElem hj]; rfl)⟩
theorem dec_int {a b : Int} : decide (V.int a = V.int b) = decide (a = b) := by
  by_cases h : a = b
  · rw [h, decide_eq_true rfl, decide_eq_true rfl]
  · rw [decide_eq_false h, decide_eq_false (fun z => h (V.int.inj z))]
theorem atI0 {xs : List V} {i : Nat} {v : V} (h : xs[i]? = some v) : atI xs (0 + (i : Int)) = some v := by rw [Int.zero_add]; exact atI_nat h
theorem kit_self {K : PySem.W.Frag} {C : Addr} : PySem.W.kitOne K (.ref C) (.ref C) = some true := by
  unfold PySem.W.kitOne
  rw [if_pos (by simp)]
theorem But.same {a : Addr} {H H' : Hp} (b : But a H H') (h : H a = none) : Same H H' := fun c o e => b c o (ne_of_none e h) e
theorem wo_new {H : Hp} {r : Addr} {o : HO} (h : H r = none) : Same H (wo [r] (L2.upd H r o)) := fun b u e => by
  have n : b ≠ r := ne_of_none e h
  rw [wo_out (by simpa using n), upd_ne n]; exact e
theorem wo_upd {H H3 : Hp} {r : Addr} {o : HO} (s : Same H H3) : Same (wo [r] H) (wo [r] (L2.upd H3 r o)) := fun b u e => by
  by_cases n : b = r
  · rw [n, wo_in (by simp)] at e; cases e
  · rw [wo_out (by simpa using n)] at e
    rw [wo_out (by simpa using n), upd_ne n]; exact s b u e
theorem ixN_j {n j : Nat} (h : j < n) : ixN n (j : Int) = some j := by
  unfold ixN
  rw [if_pos (by omega), if_pos (by omega)]
  simp
theorem dp_ints {K : PySem.W.Frag} {H : Hp} : ∀ ns : List Int, DpAll K H (ns.map V.int) (ns.map PyData.int)
  | [] => .nil
  | n :: ns => .cons (.int n) (dp_ints ns)
theorem canLay_ints : ∀ ns : List Int, PyData.canLayAll0 (ns.map PyData.int) = true
  | [] => by simp [PyData.canLayAll0]
  | n :: ns => by simp [PyData.canLayAll0, PyData.canLay0, canLay_ints ns]
theorem depth_ints : ∀ ns : List Int, PyData.depthAll (ns.map PyData.int) ≤ 1
  | [] => by simp [PyData.depthAll]
  | n :: ns => by
    have := depth_ints ns
    simp only [List.map_cons, PyData.depthAll, PyData.depth]
    omega
theorem shaped_ints (ns : List Int) : SeqAt.shaped (.list (ns.map PyData.int)) = true := by
  unfold SeqAt.shaped
  have h := depth_ints ns
  exact Bool.and_eq_true_iff.mpr ⟨by simp [PyData.canLay0, canLay_ints], decide_eq_true (by simp only [PyData.depth]; omega)⟩
theorem eqv_ints (ns : List Int) : PyData.eqv (.list (ns.map PyData.int)) (.list (ns.map PyData.int)) = true :=
  SeqAt.eqv_refl _ (SeqAt.canLay_of_shaped (shaped_ints ns))
theorem dp_list {K : PySem.W.Frag} {H : Hp} {a : Addr} {ns : List Int} (h : SqL K H a (ns.map V.int)) : Dp K H (.ref a) (.list (ns.map PyData.int)) := .lst h (dp_ints ns)
theorem yesT {σ : L2.St} {H : Hp} {A B : Bool → Hp → Prop} (h : A true H) : tYes σ H fun b H3 => if b = true then A b H3 else B b H3 := by
  show if true = true then A true H else B true H
  rw [if_pos rfl]; exact h

theorem pi_or {X : Cx} {tg e : Expr} {t1 t2 : TI} (h1 : PI X tg e t1) (h2 : PI X tg e t2) : PI X tg e (fun σ H R => t1 σ H R ∨ t2 σ H R) := ⟨fun pins s σ H R I h => h.elim (h1.run pins s σ H R I) (h2.run pins s σ H R I)⟩
theorem SqT.keep {K : PySem.W.Frag} {H H' : Hp} {a : Addr} {xs : List V} (h : SqT K H a xs) (s : Same H H') : SqT K H' a xs := by
  rcases h with (h | ⟨o, h⟩) | h
  · exact .inl (.inl (s _ _ h))
  · exact .inl (.inr ⟨o, s _ _ h⟩)
  · exact .inr h
/-- a list or a tuple -/
def SqA (K : PySem.W.Frag) (H : Hp) (a : Addr) (xs : List V) : Prop := SqL K H a xs ∨ SqT K H a xs
theorem SqA.keep {K : PySem.W.Frag} {H H' : Hp} {a : Addr} {xs : List V} (h : SqA K H a xs) (e : Same H H') : SqA K H' a xs := h.elim (fun h => .inl (e.seq h)) (fun h => .inr (SqT.keep h e))
theorem rIx_a {K : PySem.W.Frag} {H : Hp} {p : Addr} {xs : List V} {i : Int} {v : V} {Q : VK} (h : SqA K H p xs) (e : atI xs i = some v) (q : Q v H) : rIx K (.ref p) (.int i) H Q :=
  h.elim (fun h => .inl ⟨p, xs, i, v, rfl, rfl, h, e, q⟩) (fun h => .inr (.inl ⟨p, xs, i, v, rfl, rfl, h, e, q⟩))
/-- places as values -/
def iv (hs : List Nat) : List V := hs.map fun h : Nat => V.int (h : Int)
theorem iv_at {hs : List Nat} {i : Nat} {x : V} (h : (iv hs)[i]? = some x) : ∃ n : Nat, hs[i]? = some n ∧ x = V.int (n : Int) := by
  unfold iv at h
  rw [List.getElem?_map] at h
  cases e : hs[i]? with
  | none => rw [e] at h; cases h
  | some n => rw [e] at h; exact ⟨n, rfl, (Option.some.inj h).symm⟩
theorem iv_len (hs : List Nat) : (iv hs).length = hs.length := List.length_map ..
theorem iv_app (a b : List Nat) : iv (a ++ b) = iv a ++ iv b := List.map_append ..
theorem int_at {ls : List Int} {n : Nat} (h : n < ls.length) : atI (ls.map V.int) (n : Int) = some (V.int (ls.getD n 0)) := by
  refine atI_nat ?_
  rw [List.getElem?_map, List.getD_eq_getElem?_getD, List.getElem?_eq_getElem h]; rfl
theorem iv_get {hs : List Nat} {n : Nat} (h : n < hs.length) : atI (iv hs) (n : Int) = some (V.int ((hs.getD n 0 : Nat) : Int)) := by
  refine atI_nat ?_
  unfold iv
  rw [List.getElem?_map, List.getD_eq_getElem?_getD, List.getElem?_eq_getElem h]; rfl
theorem getD_mem {hs : List Nat} {n : Nat} (h : n < hs.length) : hs.getD n 0 ∈ hs := by
  rw [List.getD_eq_getElem?_getD, List.getElem?_eq_getElem h]; exact List.getElem_mem h
theorem take_snoc {α : Type} {l : List α} {i : Nat} {x : α} (h : l[i]? = some x) : l.take (i + 1) = l.take i ++ [x] := by
  rw [List.take_succ, h]; rfl
def spBetween : Sp := fun vs H Q _ => ∃ (a : Addr) (lo hi : Int), vs = [.ref a, .int lo, .int hi] ∧ Src H a ∧ lo ≤ hi ∧ hi - lo < 1000000000 ∧
  ∀ (r : Int) (H' : Hp), lo ≤ r → r ≤ hi → Src H' a → But a H H' → Q (.int r) H'
theorem seqIx {i : Int} {n k : Nat} (h : i = (k : Int)) (hk : k < n) : seqIndex? i n = some k := by
  subst h
  unfold seqIndex?
  have h0 : ¬ ((k : Int) < 0) := by omega
  simp [h0, hk]
theorem iv_erase : ∀ (hs : List Nat) (k : Nat), (iv hs).eraseIdx k = iv (hs.eraseIdx k)
  | [], _ => rfl
  | _ :: _, 0 => rfl
  | h :: hs, k + 1 => congrArg (V.int (h : Int) :: ·) (iv_erase hs k)
theorem _root_.L2.Same.but' {H H1 H2 : Hp} {s : Addr} (e : Same H H1) (n : H s = none) (b : But s H1 H2) : Same H H2 := fun c o q => b c o (ne_of_none q n) (e c o q)
theorem _root_.L2.Same.upd' {H H1 : Hp} {l : Addr} {o : HO} (e : Same H H1) (n : H l = none) : Same H (L2.upd H1 l o) := fun c u q => by
  rw [upd_ne (ne_of_none q n)]; exact e c u q
theorem iv_ints (hs : List Nat) : iv hs = (hs.map fun h : Nat => (h : Int)).map V.int := by unfold iv; rw [List.map_map]; rfl
theorem at0 (h0 : Nat) (t : List Nat) : atI (iv (h0 :: t)) 0 = some (.int (h0 : Int)) := iv_get (hs := h0 :: t) (n := 0) (by simp)
/-- a comprehension over n turns of anything -/
theorem lc_any {J : It} {n : Nat} {g : TG} {tt : TT} {te : TE} {vs : List Nat} {σ : L2.St} {H1 : Hp} {D : Addr} {Qd : Hp → Prop} (Pv : Nat → Hp → Prop) (h0 : Pv 0 (L2.upd H1 D (.lst []))) (hgo : ∀ i H, i < n → Pv i H → J.go i H) (hst : ∀ H, Pv n H → J.stop n H)
    (hs : ∀ i x H H', i < n → Pv i H → J.yld i H x H' → g x (wipe σ vs) H' fun σ2 H2 => wipe σ2 vs = wipe σ vs ∧ tt σ2 H2 fun b H3 => if b = true then te σ2 H3 fun y H4 => ∃ acc, H4 D = some (.lst acc) ∧ acc.length < sizeLine ∧ Pv (i + 1) (L2.upd H4 D (.lst (acc ++ [y]))) else Pv (i + 1) H3) (hd : ∀ H, Pv n H → Qd H) :
    ∃ W : Nat → Nat → Hp → Prop, (∃ m, W 0 m (L2.upd H1 D (.lst []))) ∧ ∀ i m H, W i m H → (J.stop i H ∧ Qd H) ∨ (J.go i H ∧ ∃ Nx : Hp → Prop, (∀ H', Nx H' → ∃ m', m' < m ∧ W (i + 1) m' H') ∧ ∀ x H', J.yld i H x H' → g x (wipe σ vs) H' fun σ2 H2 => wipe σ2 vs = wipe σ vs ∧ tt σ2 H2 fun b H3 => if b = true then te σ2 H3 fun y H4 => ∃ acc, H4 D = some (.lst acc) ∧ acc.length < sizeLine ∧ Nx (L2.upd H4 D (.lst (acc ++ [y]))) else Nx H3) := by
  refine ⟨fun i m H => m = n - i ∧ i ≤ n ∧ Pv i H, ⟨n, rfl, Nat.zero_le _, h0⟩, ?_⟩
  rintro i m H ⟨rfl, hi, p⟩
  by_cases hl : i < n
  · exact .inr ⟨hgo i H hl p, Pv (i + 1), fun H' q => ⟨n - (i + 1), by omega, rfl, hl, q⟩, fun x H' y => hs i x H H' hl p y⟩
  · obtain rfl : i = n := by omega
    exact .inl ⟨hst H p, hd H p⟩

end
end My
/-! ### a floor of data over the readings: environments of data in the place of heaps -/
namespace Df
open PySem L2 GxR My
/-- data -/
inductive Dt where
  | int (i : Int) | bl (b : Bool) | non | str (s : Str) | ty (n : String) | cls (C : Addr)
  | lst (xs : List Dt) | tup (xs : List Dt)
  | scr (ns : List Int)
  | dic (kvs : List (Key × Dt))
  | ins (C : Addr) (ns : List Str) (xs : List Dt)
/-- a tuple that is tracked -/
def SqU (F : Hp) (a : Addr) (xs : List V) : Prop := Rd F a (.tup xs) ∨ False
theorem SqU.keep {F F' : Hp} {a : Addr} {xs : List V} (h : SqU F a xs) (s : Same F F') : SqU F' a xs := h.elim (fun h => .inl (h.elim (fun h => .inl (s _ _ h)) fun ⟨o, h⟩ => .inr ⟨o, s _ _ h⟩)) fun h => h.elim
theorem SqU.at {K : PySem.W.Frag} {F F' : Hp} {a : Addr} {xs : List V} (h : SqU F a xs) (s : Same F F') : SqT K F' a xs := .inl ((h.keep s).elim id fun h => h.elim)
theorem SqU.one {F : Hp} {a : Addr} {xs ys : List V} (h : SqU F a xs) (g : SqU F a ys) : xs = ys := by
  rcases h with (h | ⟨o, h⟩) | h <;> rcases g with (g | ⟨p, g⟩) | g <;> first | exact h.elim | exact g.elim | (rw [h] at g; cases g; rfl) | (rw [h] at g; cases g)
/-! what a value stands for in a heap that is never changed -/
mutual
inductive Rp (K : PySem.W.Frag) (F : Hp) : V → Dt → Prop
  | int (i : Int) : Rp K F (.int i) (.int i)
  | bl (b : Bool) : Rp K F (.bl b) (.bl b)
  | non : Rp K F .non .non
  | str (s : Str) : Rp K F (.str s) (.str s)
  | ty (n : String) : Rp K F (.ty n) (.ty n)
  | cls (C : Addr) : Rp K F (.ref C) (.cls C)
  | lst {a : Addr} {vs : List V} {ds : List Dt} : F a = some (.lst vs) → RpA K F vs ds → Rp K F (.ref a) (.lst ds)
  | scr {a : Addr} {ns : List Int} : SqL K F a (ns.map V.int) → Rp K F (.ref a) (.scr ns)
  | tup {a : Addr} {vs : List V} {ds : List Dt} : SqU F a vs → RpA K F vs ds → Rp K F (.ref a) (.tup ds)
  | dic {a : Addr} {vs : List (Key × V)} {ds : List (Key × Dt)} : F a = some (.dK vs) → RpK K F vs ds → Rp K F (.ref a) (.dic ds)
  | ins {a C dx : Addr} {ns : List Str} {vs : List V} {ds : List Dt} : F a = some (.ins C dx (ns.zip vs)) → ns.length = vs.length → RpA K F vs ds → Rp K F (.ref a) (.ins C ns ds)
inductive RpA (K : PySem.W.Frag) (F : Hp) : List V → List Dt → Prop
  | nil : RpA K F [] []
  | cons {v : V} {vs : List V} {d : Dt} {ds : List Dt} : Rp K F v d → RpA K F vs ds → RpA K F (v :: vs) (d :: ds)
inductive RpK (K : PySem.W.Frag) (F : Hp) : List (Key × V) → List (Key × Dt) → Prop
  | nil : RpK K F [] []
  | cons {k : Key} {v : V} {vs : List (Key × V)} {d : Dt} {ds : List (Key × Dt)} : Rp K F v d → RpK K F vs ds → RpK K F ((k, v) :: vs) ((k, d) :: ds)
end
section
variable {K : PySem.W.Frag} {F F' : Hp}
mutual
theorem Rp.same (e : Same F F') : ∀ {v : V} {d : Dt}, Rp K F v d → Rp K F' v d
  | _, _, .int i => .int i
  | _, _, .bl b => .bl b
  | _, _, .non => .non
  | _, _, .str s => .str s
  | _, _, .ty s => .ty s
  | _, _, .cls C => .cls C
  | _, _, .lst h t => .lst (e _ _ h) (RpA.same e t)
  | _, _, .scr h => .scr (e.seq h)
  | _, _, .tup h t => .tup (SqU.keep h e) (RpA.same e t)
  | _, _, .dic h t => .dic (e _ _ h) (RpK.same e t)
  | _, _, .ins h n t => .ins (e _ _ h) n (RpA.same e t)
theorem RpA.same (e : Same F F') : ∀ {vs : List V} {ds : List Dt}, RpA K F vs ds → RpA K F' vs ds
  | _, _, .nil => .nil
  | _, _, .cons h t => .cons (Rp.same e h) (RpA.same e t)
theorem RpK.same (e : Same F F') : ∀ {vs : List (Key × V)} {ds : List (Key × Dt)}, RpK K F vs ds → RpK K F' vs ds
  | _, _, .nil => .nil
  | _, _, .cons h t => .cons (Rp.same e h) (RpK.same e t)
end
theorem RpA.len : ∀ {vs : List V} {ds : List Dt}, RpA K F vs ds → vs.length = ds.length
  | _, _, .nil => rfl
  | _, _, .cons _ t => congrArg (· + 1) (RpA.len t)
theorem RpA.get : ∀ {vs : List V} {ds : List Dt} {i : Nat} {d : Dt}, RpA K F vs ds → ds[i]? = some d → ∃ v, vs[i]? = some v ∧ Rp K F v d
  | [], [], _, _, .nil, e => by simp at e
  | _ :: _, _ :: _, 0, _, .cons h _, e => ⟨_, rfl, by cases e; exact h⟩
  | _ :: _, _ :: _, i + 1, _, .cons _ t, e => by
    rw [List.getElem?_cons_succ] at e
    obtain ⟨v, h1, h2⟩ := RpA.get t e
    exact ⟨v, by rw [List.getElem?_cons_succ]; exact h1, h2⟩
theorem RpA.get' {vs : List V} {ds : List Dt} {i : Nat} {v : V} (h : RpA K F vs ds) (e : vs[i]? = some v) : ∃ d, ds[i]? = some d ∧ Rp K F v d := by
  have hi : i < ds.length := by rw [← h.len]; exact (List.getElem?_eq_some_iff.mp e).1
  obtain ⟨v', e', r⟩ := h.get (List.getElem?_eq_getElem hi)
  rw [e] at e'; cases e'
  exact ⟨_, List.getElem?_eq_getElem hi, r⟩
theorem RpA.app : ∀ {vs ws : List V} {ds es : List Dt}, RpA K F vs ds → RpA K F ws es → RpA K F (vs ++ ws) (ds ++ es)
  | _, _, _, _, .nil, h => h
  | _, _, _, _, .cons h t, u => .cons h (RpA.app t u)
theorem RpA.set {v : V} {d : Dt} (r : Rp K F v d) : ∀ {vs : List V} {ds : List Dt} (i : Nat), RpA K F vs ds → RpA K F (vs.set i v) (ds.set i d)
  | _, _, _, .nil => .nil
  | _, _, 0, .cons _ t => .cons r t
  | _, _, i + 1, .cons q t => .cons q (RpA.set r i t)
theorem RpA.tk : ∀ {vs : List V} {ds : List Dt} (n : Nat), RpA K F vs ds → RpA K F (vs.take n) (ds.take n)
  | _, _, 0, _ => .nil
  | _, _, _ + 1, .nil => .nil
  | _, _, n + 1, .cons r t => .cons r (RpA.tk n t)
theorem RpA.dr : ∀ {vs : List V} {ds : List Dt} (n : Nat), RpA K F vs ds → RpA K F (vs.drop n) (ds.drop n)
  | _, _, 0, r => r
  | _, _, _ + 1, .nil => .nil
  | _, _, n + 1, .cons _ t => RpA.dr n t
end
/-- an own tree: data, lists of one's own, tuples that hold such -/
inductive Tr where
  | d (x : Dt)
  | l (a : Addr) (ts : List Tr)
  | t (ts : List Tr)
mutual
def Tr.inn : Tr → List Addr
  | .d _ => []
  | .l a ts => a :: Tr.inns ts
  | .t ts => Tr.inns ts
def Tr.inns : List Tr → List Addr
  | [] => []
  | x :: ts => Tr.inn x ++ Tr.inns ts
end
mutual
def Tr.dat : Tr → Dt
  | .d x => x
  | .l _ ts => .lst (Tr.dats ts)
  | .t ts => .tup (Tr.dats ts)
def Tr.dats : List Tr → List Dt
  | [] => []
  | x :: ts => Tr.dat x :: Tr.dats ts
end
mutual
inductive RT (K : PySem.W.Frag) (F H : Hp) : V → Tr → Prop
  | d {v : V} {x : Dt} : Rp K F v x → RT K F H v (.d x)
  | l {a : Addr} {vs : List V} {ts : List Tr} : H a = some (.lst vs) → RTs K F H vs ts → RT K F H (.ref a) (.l a ts)
  | t {b : Addr} {vs : List V} {ts : List Tr} : SqU F b vs → RTs K F H vs ts → RT K F H (.ref b) (.t ts)
inductive RTs (K : PySem.W.Frag) (F H : Hp) : List V → List Tr → Prop
  | nil : RTs K F H [] []
  | cons {v : V} {vs : List V} {t : Tr} {ts : List Tr} : RT K F H v t → RTs K F H vs ts → RTs K F H (v :: vs) (t :: ts)
end
section
variable {K : PySem.W.Frag} {F F' H H' : Hp}
mutual
theorem RT.mono (s : Same F F') : ∀ {v : V} {t : Tr}, (∀ a, a ∈ t.inn → H' a = H a) → RT K F H v t → RT K F' H' v t
  | _, _, _, .d r => .d (r.same s)
  | _, .l a ts, c, .l h r => .l ((c a (by unfold Tr.inn; exact List.mem_cons_self)).trans h) (RTs.mono s (fun b m => c b (by unfold Tr.inn; exact List.mem_cons_of_mem _ m)) r)
  | _, .t ts, c, .t h r => .t (SqU.keep h s) (RTs.mono s (fun b m => c b (by unfold Tr.inn; exact m)) r)
theorem RTs.mono (s : Same F F') : ∀ {vs : List V} {ts : List Tr}, (∀ a, a ∈ Tr.inns ts → H' a = H a) → RTs K F H vs ts → RTs K F' H' vs ts
  | _, _, _, .nil => .nil
  | _, _ :: _, c, .cons r u => .cons (RT.mono s (fun b m => c b (by unfold Tr.inns; exact List.mem_append_left _ m)) r) (RTs.mono s (fun b m => c b (by unfold Tr.inns; exact List.mem_append_right _ m)) u)
end
mutual
theorem RT.has : ∀ {v : V} {t : Tr} {a : Addr}, RT K F H v t → a ∈ t.inn → H a ≠ none
  | _, _, _, .d _, m => by unfold Tr.inn at m; exact nomatch m
  | _, .l b ts, a, .l h r, m => by
    unfold Tr.inn at m
    rcases List.mem_cons.mp m with rfl | m
    · rw [h]; exact fun z => nomatch z
    · exact RTs.has r m
  | _, .t ts, a, .t h r, m => by unfold Tr.inn at m; exact RTs.has r m
theorem RTs.has : ∀ {vs : List V} {ts : List Tr} {a : Addr}, RTs K F H vs ts → a ∈ Tr.inns ts → H a ≠ none
  | _, _, _, .nil, m => by unfold Tr.inns at m; exact nomatch m
  | _, _ :: _, a, .cons r u, m => by
    unfold Tr.inns at m
    rcases List.mem_append.mp m with m | m
    · exact RT.has r m
    · exact RTs.has u m
end
end
mutual
/-- what stays true of a tree's value while its lists change -/
inductive Sk (K : PySem.W.Frag) (F : Hp) : V → Tr → Prop
  | d {v : V} {x : Dt} : Rp K F v x → Sk K F v (.d x)
  | l {a : Addr} {ts : List Tr} : Sk K F (.ref a) (.l a ts)
  | t {b : Addr} {vs : List V} {ts : List Tr} : SqU F b vs → Sks K F vs ts → Sk K F (.ref b) (.t ts)
inductive Sks (K : PySem.W.Frag) (F : Hp) : List V → List Tr → Prop
  | nil : Sks K F [] []
  | cons {v : V} {vs : List V} {x : Tr} {ts : List Tr} : Sk K F v x → Sks K F vs ts → Sks K F (v :: vs) (x :: ts)
end
section
variable {K : PySem.W.Frag} {F F' H : Hp}
mutual
theorem Sk.same (s : Same F F') : ∀ {v : V} {t : Tr}, Sk K F v t → Sk K F' v t
  | _, _, .d r => .d (r.same s)
  | _, _, .l => .l
  | _, _, .t h r => .t (SqU.keep h s) (Sks.same s r)
theorem Sks.same (s : Same F F') : ∀ {vs : List V} {ts : List Tr}, Sks K F vs ts → Sks K F' vs ts
  | _, _, .nil => .nil
  | _, _, .cons r u => .cons (Sk.same s r) (Sks.same s u)
end
mutual
theorem RT.sk : ∀ {v : V} {t : Tr}, RT K F H v t → Sk K F v t
  | _, _, .d r => .d r
  | _, _, .l _ _ => .l
  | _, _, .t h r => .t h (RTs.sk r)
theorem RTs.sk : ∀ {vs : List V} {ts : List Tr}, RTs K F H vs ts → Sks K F vs ts
  | _, _, .nil => .nil
  | _, _, .cons r u => .cons (RT.sk r) (RTs.sk u)
end
mutual
theorem RT.frz (s : Same F F') : ∀ {v : V} {t : Tr}, (∀ a, a ∈ t.inn → F' a = H a) → RT K F H v t → Rp K F' v t.dat
  | _, _, _, .d r => by unfold Tr.dat; exact r.same s
  | _, .l a ts, c, .l h r => by
    unfold Tr.dat
    exact .lst ((c a (by unfold Tr.inn; exact List.mem_cons_self)).trans h) (RTs.frz s (fun b m => c b (by unfold Tr.inn; exact List.mem_cons_of_mem _ m)) r)
  | _, .t ts, c, .t h r => by
    unfold Tr.dat
    exact .tup (SqU.keep h s) (RTs.frz s (fun b m => c b (by unfold Tr.inn; exact m)) r)
theorem RTs.frz (s : Same F F') : ∀ {vs : List V} {ts : List Tr}, (∀ a, a ∈ Tr.inns ts → F' a = H a) → RTs K F H vs ts → RpA K F' vs (Tr.dats ts)
  | _, _, _, .nil => by unfold Tr.dats; exact .nil
  | _, _ :: _, c, .cons r u => by
    unfold Tr.dats
    exact .cons (RT.frz s (fun b m => c b (by unfold Tr.inns; exact List.mem_append_left _ m)) r) (RTs.frz s (fun b m => c b (by unfold Tr.inns; exact List.mem_append_right _ m)) u)
end
end
/-- what is known of a name's value -/
inductive Lo where
  | no
  | sh (d : Dt)
  | ow (ds : List Dt)
  | od (kvs : List (Key × Dt))
  | fd (ob : Obj) (vs : List (Key × V)) (kvs : List (Key × Dt))
  | oi (C p : Addr) (ns : List Str) (ds : List Dt)
  | src
  | tr (t : Tr)
  | sk (t : Tr)
  | al (j : Nat)
abbrev Ev := List Lo
def gt : Ev → Nat → Lo
  | [], _ => .no
  | l :: _, 0 => l
  | _ :: t, n + 1 => gt t n
theorem gt_get : ∀ (ρ : Ev) (i : Nat), ρ[i]? = some (gt ρ i) ∨ gt ρ i = .no
  | [], _ => .inr rfl
  | _ :: _, 0 => .inl rfl
  | _ :: t, n + 1 => by rw [List.getElem?_cons_succ]; exact gt_get t n
/-- the cells that are the entry's alone -/
def cells : Lo × Option V → List Addr
  | (.ow _, some (.ref a)) => [a]
  | (.od _, some (.ref a)) => [a]
  | (.fd _ _ _, some (.ref a)) => [a]
  | (.oi _ _ _ _, some (.ref a)) => [a]
  | (.src, some (.ref a)) => [a]
  | (.tr t, some _) => t.inn
  | _ => []
theorem inC {e : Lo × Option V} {a : Addr} (c : cells e = [a]) : a ∈ cells e := c ▸ List.mem_cons_self
theorem in1 {a b : Addr} (h : a ∈ [b]) : a = b := List.mem_singleton.mp h
theorem in0 {P : Prop} {a : Addr} (h : a ∈ ([] : List Addr)) : P := nomatch h
theorem flC0 {e : Lo × Option V} {L : List (Lo × Option V)} (c : cells e = []) : (e :: L).flatMap cells = L.flatMap cells := by rw [List.flatMap_cons, c, List.nil_append]
theorem flC1 {e : Lo × Option V} {a : Addr} {L : List (Lo × Option V)} (c : cells e = [a]) : (e :: L).flatMap cells = a :: L.flatMap cells := by rw [List.flatMap_cons, c, List.singleton_append]
def Ok (K : PySem.W.Frag) (F H : Hp) (ρ : Ev) (σ : St) : Lo → Option V → Prop
  | .no, _ => True
  | .sh d, o => ∃ v, o = some v ∧ Rp K F v d
  | .ow ds, o => ∃ a vs, o = some (.ref a) ∧ H a = some (.lst vs) ∧ RpA K F vs ds
  | .od ds, o => ∃ a vs, o = some (.ref a) ∧ H a = some (.dK vs) ∧ RpK K F vs ds
  | .fd ob vs ds, o => ∃ a, o = some (.ref a) ∧ H a = some (.frz ob (.dK vs)) ∧ RpK K F vs ds
  | .oi C p ns ds, o => ∃ dx vs, o = some (.ref p) ∧ H p = some (.ins C dx (ns.zip vs)) ∧ ns.length = vs.length ∧ RpA K F vs ds
  | .src, o => ∃ a, o = some (.ref a) ∧ Src H a
  | .tr t, o => ∃ v, o = some v ∧ RT K F H v t
  | .sk t, o => ∃ v, o = some v ∧ Sk K F v t
  | .al j, o => gt ρ j ≠ .no ∧ ∃ v, o = some v ∧ σ[j]? = some (some v)
abbrev Ps := List (Lo × V)
def ens (es : Ps) (ρ : Ev) (σ : St) : List (Lo × Option V) := es.map (fun e => (e.1, some e.2)) ++ ρ.zip σ
theorem fm_subl {α β : Type} {f : α → List β} {l m : List α} (h : l.Sublist m) : (l.flatMap f).Sublist (m.flatMap f) := by
  induction h with
  | slnil => exact List.Sublist.refl _
  | cons a _ ih => rw [List.flatMap_cons]; exact ih.trans (List.sublist_append_right _ _)
  | cons_cons a _ ih => rw [List.flatMap_cons, List.flatMap_cons]; exact List.Sublist.append (List.Sublist.refl _) ih
/-- where the def began: its heap, what was never changed in it, its sources -/
structure Bs where
  H : Hp
  F : Hp
  S : List Addr
/-- the tables of the program's defs; where a lambda stands in a def, and its code's name -/
structure Tbs where
  tabs : List Addr
  lams : List (Addr × Pos × Str)
instance : Membership Addr Tbs := ⟨fun TB P => P ∈ TB.tabs⟩
def LmOk (TB : Tbs) (F : Hp) (P : Addr) (ps : Array Value) : Prop := ∀ x, x ∈ TB.lams → x.1 = P → ∀ cv, codeAmong x.2.1 ps.toList = some cv → ∃ c', cv = .ref c' ∧ F c' = some (LamX.CodeO c' x.2.2)
def TabL (TB : Tbs) (F H : Hp) (P : Addr) : Prop := ∃ ps, H P = some (.tbl ps) ∧ TriplesOk ps.toList ∧ LmOk TB F P ps
theorem TabL.g {TB : Tbs} {F H : Hp} {P : Addr} (t : TabL TB F H P) : TabG H P := let ⟨ps, e, q, _⟩ := t; ⟨ps, e, q⟩
theorem TabL.ups {TB : Tbs} {F H : Hp} {p P : Addr} {o : HO} (t : TabL TB F H P) (n : P ≠ p) : TabL TB F (upd H p o) P := by
  obtain ⟨ps, e, q⟩ := t
  exact ⟨ps, by rw [upd_ne n]; exact e, q⟩
theorem TabL.mono {TB : Tbs} {F F' H : Hp} {P : Addr} (t : TabL TB F H P) (s : Same F F') : TabL TB F' H P := by
  obtain ⟨ps, e, q, l⟩ := t
  exact ⟨ps, e, q, fun x hx h cv g => let ⟨c', a, b⟩ := l x hx h cv g; ⟨c', a, s _ _ b⟩⟩
structure Rf (K : PySem.W.Frag) (TB : Tbs) (B : Bs) (F : Hp) (ρ : Ev) (σ : St) (es : Ps) (H : Hp) : Prop where
  len : ρ.length = σ.length
  na : ∀ l, l ∈ ρ → ∀ j, l ≠ .al j
  sub : Same F H
  tab : ∀ P, P ∈ TB → TabL TB F H P ∧ F P = none
  ok : ∀ e, e ∈ ens es ρ σ → Ok K F H ρ σ e.1 e.2
  nd : ((ens es ρ σ).flatMap cells).Nodup
  out : ∀ e a, e ∈ ens es ρ σ → a ∈ cells e → F a = none ∧ a ∉ TB ∧ (B.H a = none ∨ e.1 = .src ∧ a ∈ B.S)
  k1 : ∀ b o, b ∉ B.S → b ∉ TB → B.H b = some o → H b = some o
  k2 : ∀ b, H b = none → B.H b = none
  k3 : Same B.F F
  k4 : ∀ b o, F b = some o → B.F b = some o ∨ B.H b = none
  ks : ∀ a, a ∈ B.S → Src H a ∧ B.H a ≠ none
def R (K : PySem.W.Frag) (TB : Tbs) (B : Bs) (ρ : Ev) (σ : St) (es : Ps) (H : Hp) : Prop := ∃ F, Rf K TB B F ρ σ es H
section
variable {K : PySem.W.Frag} {TB : Tbs} {B : Bs} {F : Hp} {ρ : Ev} {σ : St} {es : Ps} {H : Hp}
theorem Rf.same_out {P : Addr} (h : Rf K TB B F ρ σ es H) (hP : P ∈ TB) : ∃ ps, H P = some (.tbl ps) := let ⟨ps, e, _⟩ := (h.tab P hP).1; ⟨ps, e⟩
/-- an entry fewer, or one that knows less -/
theorem fm_sub {α β : Type} {f : α → List β} {l m : List α} (h : l.Sublist m) (n : (m.flatMap f).Nodup) : (l.flatMap f).Nodup := n.sublist (fm_subl h)
theorem Rf.part (h : Rf K TB B F ρ σ es H) {es' : Ps} (s : (ens es' ρ σ).Sublist (ens es ρ σ)) : Rf K TB B F ρ σ es' H :=
  ⟨h.len, h.na, h.sub, h.tab, fun e m => h.ok e (s.subset m), fm_sub s h.nd, fun e a m => h.out e a (s.subset m), h.k1, h.k2, h.k3, h.k4, h.ks⟩
theorem Rf.pop {e : Lo × V} (h : Rf K TB B F ρ σ (e :: es) H) : Rf K TB B F ρ σ es H := h.part (List.sublist_cons_self ..)
theorem Rf.app {es' : Ps} (h : Rf K TB B F ρ σ (es' ++ es) H) : Rf K TB B F ρ σ es H := h.part (by unfold ens; rw [List.map_append, List.append_assoc]; exact List.sublist_append_right _ _)
theorem Rf.fst {e : Lo × V} (h : Rf K TB B F ρ σ (e :: es) H) : Rf K TB B F ρ σ [e] H := h.part (by unfold ens; rw [List.map_cons, List.map_cons, List.map_nil, List.cons_append, List.cons_append]; exact (List.sublist_append_right _ _).cons₂ _)
theorem Rf.okp {e : Lo × V} (h : Rf K TB B F ρ σ (e :: es) H) : Ok K F H ρ σ e.1 (some e.2) := h.ok _ List.mem_cons_self
/-- a value without a cell of its own is pushed -/
theorem Rf.push {l : Lo} {v : V} (h : Rf K TB B F ρ σ es H) (o : Ok K F H ρ σ l (some v)) (c : cells (l, some v) = []) : Rf K TB B F ρ σ ((l, v) :: es) H := by
  refine ⟨h.len, h.na, h.sub, h.tab, fun e m => ?_, ?_, fun e a m q => ?_, h.k1, h.k2, h.k3, h.k4, h.ks⟩
  · rcases List.mem_cons.mp m with rfl | m
    · exact o
    · exact h.ok e m
  · show ((((l, some v) : Lo × Option V) :: ens es ρ σ).flatMap cells).Nodup
    rw [flC0 c]
    exact h.nd
  · rcases List.mem_cons.mp m with rfl | m
    · rw [c] at q; exact in0 q
    · exact h.out e a m q
theorem Rf.pushS {d : Dt} {v : V} (h : Rf K TB B F ρ σ es H) (r : Rp K F v d) : Rf K TB B F ρ σ ((.sh d, v) :: es) H := h.push ⟨v, rfl, r⟩ rfl
theorem Ok.mono {F' H' : Hp} {l : Lo} {o : Option V} (h : Ok K F H ρ σ l o) (s : Same F F') (c : ∀ a, a ∈ cells (l, o) → H' a = H a ∨ (l = .src ∧ Src H' a)) : Ok K F' H' ρ σ l o := by
  cases l with
  | no => trivial
  | sh d => obtain ⟨v, e, r⟩ := h; exact ⟨v, e, r.same s⟩
  | sk t => obtain ⟨v, e, r⟩ := h; exact ⟨v, e, r.same s⟩
  | ow ds =>
    obtain ⟨a, vs, rfl, e, r⟩ := h
    rcases c a List.mem_cons_self with q | q
    · exact ⟨a, vs, rfl, q.trans e, r.same s⟩
    · cases q.1
  | od ds =>
    obtain ⟨a, vs, rfl, e, r⟩ := h
    rcases c a List.mem_cons_self with q | q
    · exact ⟨a, vs, rfl, q.trans e, r.same s⟩
    · cases q.1
  | fd ob vs ds =>
    obtain ⟨a, rfl, e, r⟩ := h
    rcases c a List.mem_cons_self with q | q
    · exact ⟨a, rfl, q.trans e, r.same s⟩
    · cases q.1
  | oi C p ns ds =>
    obtain ⟨dx, vs, rfl, e, n, r⟩ := h
    rcases c p List.mem_cons_self with q | q
    · exact ⟨dx, vs, rfl, q.trans e, n, r.same s⟩
    · cases q.1
  | src =>
    obtain ⟨a, rfl, e⟩ := h
    rcases c a List.mem_cons_self with q | q
    · obtain ⟨x, y, z⟩ := e
      exact ⟨a, rfl, x, y, q.trans z⟩
    · exact ⟨a, rfl, q.2⟩
  | tr t =>
    obtain ⟨v, rfl, r⟩ := h
    refine ⟨v, rfl, r.mono s fun a m => ?_⟩
    rcases c a m with q | q
    · exact q
    · cases q.1
  | al j => exact h
theorem Ok.cellAt {l : Lo} {o : Option V} {a : Addr} (h : Ok K F H ρ σ l o) (c : a ∈ cells (l, o)) : H a ≠ none := by
  cases l with
  | no => exact in0 c
  | sh d => exact in0 c
  | sk t => exact in0 c
  | al j => exact in0 c
  | tr t =>
    obtain ⟨v, rfl, r⟩ := h
    exact r.has c
  | ow ds =>
    obtain ⟨b, vs, rfl, e, r⟩ := h
    cases in1 c
    rw [e]; exact fun z => nomatch z
  | od ds =>
    obtain ⟨b, vs, rfl, e, r⟩ := h
    cases in1 c
    rw [e]; exact fun z => nomatch z
  | fd ob vs ds =>
    obtain ⟨b, rfl, e, r⟩ := h
    cases in1 c
    rw [e]; exact fun z => nomatch z
  | oi C p ns ds =>
    obtain ⟨dx, vs, rfl, e, n, r⟩ := h
    cases in1 c
    rw [e]; exact fun z => nomatch z
  | src =>
    obtain ⟨b, rfl, x, y, e⟩ := h
    cases in1 c
    rw [e]; exact fun z => nomatch z
theorem Rf.fresh {p : Addr} (h : Rf K TB B F ρ σ es H) (hp : H p = none) : F p = none ∧ p ∉ TB ∧ B.H p = none ∧ ∀ e a, e ∈ ens es ρ σ → a ∈ cells e → a ≠ p := by
  refine ⟨?_, fun z => ?_, h.k2 p hp, fun e a m c z => (h.ok e m).cellAt c (z ▸ hp)⟩
  · cases q : F p with
    | none => rfl
    | some o => rw [h.sub p o q] at hp; cases hp
  · obtain ⟨ps, e⟩ := h.same_out z
    rw [e] at hp; cases hp
theorem tab_ne {a P : Addr} {o : HO} (e : H P = some o) (n : ∀ ps, o ≠ .tbl ps) (t : TabG H a) : a ≠ P := fun z => by
  obtain ⟨ps, q, _⟩ := t
  rw [z, e] at q; exact n ps (Option.some.inj q)
theorem TabG.ups {p P : Addr} {o : HO} (t : TabG H P) (n : P ≠ p) : TabG (upd H p o) P := by
  obtain ⟨ps, e, q⟩ := t
  exact ⟨ps, by rw [upd_ne n]; exact e, q⟩
/-- a new object that is never changed -/
theorem Rf.newF {p : Addr} {o : HO} (h : Rf K TB B F ρ σ es H) (hp : H p = none) : Rf K TB B (upd F p o) ρ σ es (upd H p o) := by
  obtain ⟨f1, f2, f3, f4⟩ := h.fresh hp
  have sF : Same F (upd F p o) := Same.new f1
  refine ⟨h.len, h.na, fun b u q => ?_, fun P hP => ⟨(TabL.ups (p := p) (o := o) (h.tab P hP).1 (fun (z : P = p) => f2 (z ▸ hP))).mono sF, ?_⟩, fun e m => (h.ok e m).mono sF fun a c => .inl (upd_ne (f4 e a m c)), h.nd, fun e a m c => ⟨?_, (h.out e a m c).2⟩, fun b u b1 b2 q => ?_, fun b q => ?_, fun b u q => sF b u (h.k3 b u q), fun b u q => ?_, fun a ha => ⟨?_, (h.ks a ha).2⟩⟩
  · by_cases z : b = p
    · subst z; rw [upd_same] at q ⊢; exact q
    · rw [upd_ne z] at q ⊢; exact h.sub b u q
  · rw [upd_ne (fun (z : P = p) => f2 (z ▸ hP))]; exact (h.tab P hP).2
  · rw [upd_ne (f4 e a m c)]; exact (h.out e a m c).1
  · have := h.k1 b u b1 b2 q
    rw [upd_ne (ne_of_none this hp)]; exact this
  · by_cases z : b = p
    · subst z; exact f3
    · rw [upd_ne z] at q; exact h.k2 b q
  · by_cases z : b = p
    · subst z; exact .inr f3
    · rw [upd_ne z] at q; exact h.k4 b u q
  · exact ((h.ks a ha).1).same (Same.new hp)
theorem Rf.newTup {p : Addr} {vs : List V} {ds : List Dt} (h : Rf K TB B F ρ σ es H) (r : RpA K F vs ds) (hp : H p = none) : Rf K TB B (upd F p (.tup vs)) ρ σ ((.sh (.tup ds), .ref p) :: es) (upd H p (.tup vs)) :=
  (h.newF hp).pushS (.tup (.inl (.inl upd_same)) (r.same (Same.new (h.fresh hp).1)))
/-- a new object of one's own -/
theorem Rf.newO {p : Addr} {o : HO} {l : Lo} (h : Rf K TB B F ρ σ es H) (hp : H p = none) (k : Ok K F (upd H p o) ρ σ l (some (.ref p))) (c : cells (l, some (.ref p)) = [p]) : Rf K TB B F ρ σ ((l, .ref p) :: es) (upd H p o) := by
  obtain ⟨f1, f2, f3, f4⟩ := h.fresh hp
  have s : Same H (upd H p o) := Same.new hp
  refine ⟨h.len, h.na, fun b u q => s b u (h.sub b u q), fun P hP => ⟨TabL.ups (h.tab P hP).1 (fun z => f2 (z ▸ hP)), (h.tab P hP).2⟩, fun e m => ?_, ?_, fun e a m q => ?_, fun b u b1 b2 q => s b u (h.k1 b u b1 b2 q), fun b q => ?_, h.k3, h.k4, fun a ha => ⟨((h.ks a ha).1).same s, (h.ks a ha).2⟩⟩
  · rcases List.mem_cons.mp m with rfl | m
    · exact k
    · exact (h.ok e m).mono (fun _ _ z => z) fun a q => .inl (upd_ne (f4 e a m q))
  · show ((((l, some (.ref p)) : Lo × Option V) :: ens es ρ σ).flatMap cells).Nodup
    rw [flC1 c]
    refine List.nodup_cons.mpr ⟨fun m => ?_, h.nd⟩
    obtain ⟨e, m, q⟩ := List.mem_flatMap.mp m
    exact f4 e p m q rfl
  · rcases List.mem_cons.mp m with rfl | m
    · rw [c] at q
      cases in1 q
      exact ⟨f1, f2, .inl f3⟩
    · exact h.out e a m q
  · by_cases z : b = p
    · subst z; exact f3
    · rw [upd_ne z] at q; exact h.k2 b q
theorem Rf.newLst {p : Addr} {vs : List V} {ds : List Dt} (h : Rf K TB B F ρ σ es H) (r : RpA K F vs ds) (hp : H p = none) : Rf K TB B F ρ σ ((.ow ds, .ref p) :: es) (upd H p (.lst vs)) := h.newO hp ⟨p, vs, rfl, upd_same, r⟩ rfl
theorem Rf.newDic {p : Addr} (h : Rf K TB B F ρ σ es H) (hp : H p = none) : Rf K TB B F ρ σ ((.od [], .ref p) :: es) (upd H p (.dK [])) := h.newO hp ⟨p, [], rfl, upd_same, .nil⟩ rfl
/-- one's own object joins what is never changed -/
theorem Rf.frz {p : Addr} {o : HO} {l : Lo} {d : Dt} (h : Rf K TB B F ρ σ ((l, .ref p) :: es) H) (c : cells (l, some (.ref p)) = [p]) (ho : H p = some o) (k : Same F (upd F p o) → Rp K (upd F p o) (.ref p) d) (ns : l ≠ .src) : Rf K TB B (upd F p o) ρ σ ((.sh d, .ref p) :: es) H := by
  have f1 := (h.out _ p List.mem_cons_self (inC c)).1
  have f2 := (h.out _ p List.mem_cons_self (inC c)).2.1
  have f3 : B.H p = none := (h.out _ p List.mem_cons_self (inC c)).2.2.elim id fun z => absurd z.1 ns
  have sF : Same F (upd F p o) := Same.new f1
  have nd : (p :: (ens es ρ σ).flatMap cells).Nodup := by
    have := h.nd
    have e : (ens ((l, .ref p) :: es) ρ σ).flatMap cells = p :: (ens es ρ σ).flatMap cells := by
      show ((((l, some (.ref p)) : Lo × Option V) :: ens es ρ σ).flatMap cells) = _
      rw [flC1 c]
    rw [e] at this; exact this
  have f4 : ∀ e a, e ∈ ens es ρ σ → a ∈ cells e → a ≠ p := fun e a m q z => (List.nodup_cons.mp nd).1 (List.mem_flatMap.mpr ⟨e, m, z ▸ q⟩)
  have h' := h.pop
  refine Rf.pushS ⟨h.len, h.na, fun b u q => ?_, fun P hP => ⟨(h.tab P hP).1.mono sF, ?_⟩, fun e m => (h'.ok e m).mono sF fun a c => .inl rfl, h'.nd, fun e a m c => ⟨?_, (h'.out e a m c).2⟩, h.k1, h.k2, fun b u q => sF b u (h.k3 b u q), fun b u q => ?_, h.ks⟩ (k sF)
  · by_cases z : b = p
    · subst z; rw [upd_same] at q; cases q; exact ho
    · rw [upd_ne z] at q; exact h.sub b u q
  · rw [upd_ne (fun (z : P = p) => f2 (z ▸ hP))]; exact (h.tab P hP).2
  · rw [upd_ne (f4 e a m c)]; exact (h'.out e a m c).1
  · by_cases z : b = p
    · subst z; exact .inr f3
    · rw [upd_ne z] at q; exact h.k4 b u q
theorem Rf.frzL {ds : List Dt} {v : V} (h : Rf K TB B F ρ σ ((.ow ds, v) :: es) H) : R K TB B ρ σ ((.sh (.lst ds), v) :: es) H := by
  obtain ⟨a, vs, e, e2, r⟩ := h.okp
  cases Option.some.inj e
  exact ⟨_, h.frz rfl e2 (fun s => .lst upd_same (r.same s)) (fun z => nomatch z)⟩
theorem Rf.frzD {ds : List (Key × Dt)} {v : V} (h : Rf K TB B F ρ σ ((.od ds, v) :: es) H) : R K TB B ρ σ ((.sh (.dic ds), v) :: es) H := by
  obtain ⟨a, vs, e, e2, r⟩ := h.okp
  cases Option.some.inj e
  exact ⟨_, h.frz rfl e2 (fun s => .dic upd_same (r.same s)) (fun z => nomatch z)⟩
/-- all cells of an entry join what is never changed -/
theorem Rf.frzA {l : Lo} {v : V} {d : Dt} {F' : Hp} (h : Rf K TB B F ρ σ ((l, v) :: es) H) (ns : l ≠ .src) (hF : ∀ b, F' b = if b ∈ cells (l, some v) then H b else F b) (k : Same F F' → (∀ a, a ∈ cells (l, some v) → F' a = H a) → Rp K F' v d) : Rf K TB B F' ρ σ ((.sh d, v) :: es) H := by
  have f0 := fun a (m : a ∈ cells (l, some v)) => h.out _ a List.mem_cons_self m
  have f3 : ∀ a, a ∈ cells (l, some v) → B.H a = none := fun a m => (f0 a m).2.2.elim id fun z => absurd z.1 ns
  have yes : ∀ a, a ∈ cells (l, some v) → F' a = H a := fun a m => by rw [hF, if_pos m]
  have no : ∀ a, a ∉ cells (l, some v) → F' a = F a := fun a m => by rw [hF, if_neg m]
  have sF : Same F F' := fun b o e => by
    rw [no b (fun m => by rw [(f0 b m).1] at e; cases e)]; exact e
  have nd := h.nd
  have nd2 : ((cells (l, some v)) ++ (ens es ρ σ).flatMap cells).Nodup := nd
  have f4 : ∀ e a, e ∈ ens es ρ σ → a ∈ cells e → a ∉ cells (l, some v) := fun e a m q z => (List.nodup_append.mp nd2).2.2 a z a (List.mem_flatMap.mpr ⟨e, m, q⟩) rfl
  have h' := h.pop
  refine Rf.pushS ⟨h.len, h.na, fun b u q => ?_, fun P hP => ⟨(h.tab P hP).1.mono sF, ?_⟩, fun e m => (h'.ok e m).mono sF fun a c => .inl rfl, h'.nd, fun e a m c => ⟨?_, (h'.out e a m c).2⟩, h.k1, h.k2, fun b u q => sF b u (h.k3 b u q), fun b u q => ?_, h.ks⟩ (k sF yes)
  · by_cases z : b ∈ cells (l, some v)
    · rw [yes b z] at q; exact q
    · rw [no b z] at q; exact h.sub b u q
  · rw [no P (fun z => (f0 P z).2.1 hP)]; exact (h.tab P hP).2
  · rw [no a (f4 e a m c)]; exact (h'.out e a m c).1
  · by_cases z : b ∈ cells (l, some v)
    · exact .inr (f3 b z)
    · rw [no b z] at q; exact h.k4 b u q
theorem Rf.frzT {t : Tr} {v : V} (h : Rf K TB B F ρ σ ((.tr t, v) :: es) H) : R K TB B ρ σ ((.sh t.dat, v) :: es) H := by
  obtain ⟨u, e, r⟩ := h.okp
  cases Option.some.inj e
  exact ⟨_, h.frzA (fun z => nomatch z) (fun _ => rfl) fun s y => r.frz s y⟩
/-- pending values become one, their cells its cells -/
theorem Rf.rep {X : Ps} {l : Lo} {v : V} {H' : Hp} (h : Rf K TB B F ρ σ (X ++ es) H) (ns : ∀ e, e ∈ X → e.1 ≠ .src) (c : ∃ R2, (cells (l, some v) ++ R2).Perm ((X.map fun e => ((e.1, some e.2) : Lo × Option V)).flatMap cells)) (hh : ∀ b, b ∉ (X.map fun e => ((e.1, some e.2) : Lo × Option V)).flatMap cells → H' b = H b) (hn : ∀ b, b ∈ (X.map fun e => ((e.1, some e.2) : Lo × Option V)).flatMap cells → H' b ≠ none) (k : Ok K F H' ρ σ l (some v)) : Rf K TB B F ρ σ ((l, v) :: es) H' := by
  obtain ⟨R2, c⟩ := c
  generalize hC : (X.map fun e => ((e.1, some e.2) : Lo × Option V)).flatMap cells = C at c hh hn
  have mX : ∀ a, a ∈ C → ∃ e, e ∈ ens (X ++ es) ρ σ ∧ e.1 ≠ .src ∧ a ∈ cells e := fun a m => by
    rw [← hC] at m
    obtain ⟨e, m1, m2⟩ := List.mem_flatMap.mp m
    obtain ⟨x, m3, rfl⟩ := List.mem_map.mp m1
    refine ⟨_, List.mem_append_left _ (List.mem_map.mpr ⟨x, List.mem_append_left _ m3, rfl⟩), ns x m3, m2⟩
  have f0 : ∀ a, a ∈ C → F a = none ∧ a ∉ TB ∧ B.H a = none := fun a m => by
    obtain ⟨e, m1, m2, m3⟩ := mX a m
    have o := h.out e a m1 m3
    exact ⟨o.1, o.2.1, o.2.2.elim id fun z => absurd z.1 m2⟩
  have nd2 : (C ++ (ens es ρ σ).flatMap cells).Nodup := by
    have := h.nd
    have e : (ens (X ++ es) ρ σ).flatMap cells = C ++ (ens es ρ σ).flatMap cells := by
      unfold ens
      rw [List.map_append, List.append_assoc, List.flatMap_append, hC]
    rw [e] at this
    exact this
  have f4 : ∀ e a, e ∈ ens es ρ σ → a ∈ cells e → a ∉ C := fun e a m q z => (List.nodup_append.mp nd2).2.2 a z a (List.mem_flatMap.mpr ⟨e, m, q⟩) rfl
  have cm : ∀ a, a ∈ cells (l, some v) → a ∈ C := fun a m => c.mem_iff.mp (List.mem_append_left _ m)
  have h' := h.app
  refine ⟨h.len, h.na, fun b u q => ?_, fun P hP => ⟨?_, (h.tab P hP).2⟩, fun e m => ?_, ?_, fun e b m q => ?_, fun b u b1 b2 q => ?_, fun b q => ?_, h.k3, h.k4, fun b hb => ⟨?_, (h.ks b hb).2⟩⟩
  · rw [hh b (fun z => by rw [(f0 b z).1] at q; cases q)]; exact h.sub b u q
  · obtain ⟨ps, e, q⟩ := (h.tab P hP).1
    exact ⟨ps, by rw [hh P (fun z => (f0 P z).2.1 hP)]; exact e, q⟩
  · rcases List.mem_cons.mp m with rfl | m
    · exact k
    · exact (h'.ok e m).mono (fun _ _ z => z) fun b q => .inl (hh b (f4 e b m q))
  · show (cells (l, some v) ++ (ens es ρ σ).flatMap cells).Nodup
    have n1 := (List.nodup_append.mp ((c.append_right ((ens es ρ σ).flatMap cells)).nodup_iff.mpr nd2))
    refine List.nodup_append.mpr ⟨(List.nodup_append.mp n1.1).1, n1.2.1, fun a m b m2 => n1.2.2 a (List.mem_append_left _ m) b m2⟩
  · rcases List.mem_cons.mp m with rfl | m
    · have o := f0 b (cm b q)
      exact ⟨o.1, o.2.1, .inl o.2.2⟩
    · exact h'.out e b m q
  · rw [hh b (fun z => by rw [(f0 b z).2.2] at q; cases q)]; exact h.k1 b u b1 b2 q
  · by_cases z : b ∈ C
    · exact absurd q (hn b z)
    · rw [hh b z] at q; exact h.k2 b q
  · obtain ⟨x, y, e⟩ := (h.ks b hb).1
    exact ⟨x, y, by rw [hh b (fun z => (h.ks b hb).2 (f0 b z).2.2)]; exact e⟩
end

section
variable {K : PySem.W.Frag} {TB : Tbs} {B : Bs} {F : Hp} {ρ : Ev} {σ : St} {es : Ps} {H : Hp}
theorem zip_set {α β : Type} : ∀ (l : List α) (m : List β) (i : Nat) (a : α) (b : β), (l.set i a).zip (m.set i b) = (l.zip m).set i (a, b)
  | [], _, _, _, _ => rfl
  | _ :: _, [], i, _, _ => by cases i <;> rfl
  | _ :: _, _ :: _, 0, _, _ => rfl
  | _ :: l, _ :: m, i + 1, a, b => congrArg (_ :: ·) (zip_set l m i a b)
theorem zip_get : ∀ {l : List Lo} {m : St} {i : Nat} {o : Option V}, m[i]? = some o → gt l i ≠ .no → (l.zip m)[i]? = some (gt l i, o)
  | [], _, _, _, _, n => absurd rfl n
  | _ :: _, [], _, _, e, _ => by simp at e
  | _ :: _, _ :: _, 0, _, e, _ => by cases e; rfl
  | _ :: l, _ :: m, i + 1, o, e, n => by
    rw [List.getElem?_cons_succ] at e
    show ((_, _) :: l.zip m)[i + 1]? = _
    rw [List.getElem?_cons_succ]
    exact zip_get (l := l) e n
theorem gt_lt : ∀ {l : List Lo} {i : Nat}, gt l i ≠ .no → i < l.length
  | [], _, n => absurd rfl n
  | _ :: _, 0, _ => by simp
  | _ :: l, i + 1, n => by have := gt_lt (l := l) (i := i) n; simp; omega
theorem gt_set : ∀ (l : List Lo) (i j : Nat) (x : Lo), gt (l.set i x) j = if i = j ∧ i < l.length then x else gt l j
  | [], i, j, x => by simp [gt]
  | y :: l, 0, 0, x => by simp [gt]
  | y :: l, 0, j + 1, x => by simp [gt]
  | y :: l, i + 1, 0, x => by simp [gt]
  | y :: l, i + 1, j + 1, x => by
    show gt (l.set i x) j = _
    rw [gt_set l i j x]
    simp [gt]
theorem gt_mem : ∀ {l : List Lo} {i : Nat}, gt l i ≠ .no → gt l i ∈ l
  | [], _, n => absurd rfl n
  | _ :: _, 0, _ => List.mem_cons_self
  | _ :: l, i + 1, n => List.mem_cons_of_mem _ (gt_mem (l := l) (i := i) n)
/-- what stands in a slot -/
theorem Rf.slot (h : Rf K TB B F ρ σ es H) {i : Nat} (n : gt ρ i ≠ .no) : ∃ o, σ[i]? = some o ∧ (gt ρ i, o) ∈ ens es ρ σ ∧ Ok K F H ρ σ (gt ρ i) o := by
  have hi : i < σ.length := by rw [← h.len]; exact gt_lt n
  have e := List.getElem?_eq_getElem hi
  have m : (gt ρ i, σ[i]) ∈ ens es ρ σ := List.mem_append_right _ (List.mem_of_getElem? (zip_get e n))
  exact ⟨_, e, m, h.ok _ m⟩
theorem Ok.env {ρ' : Ev} {σ' : St} {l : Lo} {o : Option V} (h : Ok K F H ρ σ l o) (n : ∀ j, l = .al j → Ok K F H ρ' σ' l o) : Ok K F H ρ' σ' l o := by
  cases l with
  | al j => exact n j rfl
  | no => trivial
  | sh d => exact h
  | ow d => exact h
  | od d => exact h
  | fd o w d => exact h
  | oi C p n d => exact h
  | src => exact h
  | tr t => exact h
  | sk t => exact h
theorem mem_set' {α : Type} {x y : α} : ∀ {l : List α} {i : Nat}, x ∈ l.set i y → x = y ∨ x ∈ l
  | [], _, m => by simp at m
  | _ :: _, 0, m => by
    rcases List.mem_cons.mp m with z | z
    · exact .inl z
    · exact .inr (List.mem_cons_of_mem _ z)
  | a :: l, i + 1, m => by
    rcases List.mem_cons.mp m with z | z
    · exact .inr (z ▸ List.mem_cons_self)
    · rcases mem_set' z with q | q
      · exact .inl q
      · exact .inr (List.mem_cons_of_mem _ q)
theorem set_nodup {α β : Type} {f : α → List β} (A : List α) (e : α) : ∀ (Z : List α) (i : Nat), ((e :: (A ++ Z)).flatMap f).Nodup → ((A ++ Z.set i e).flatMap f).Nodup
  | [], i, n => fm_sub (List.sublist_cons_self ..) (by simpa using n)
  | z :: Z, 0, n => by
    have p : (A ++ e :: Z).Perm (e :: (A ++ Z)) := List.perm_middle
    have n2 : ((e :: (A ++ Z)).flatMap f).Nodup := fm_sub ((List.Sublist.append (List.Sublist.refl A) (List.sublist_cons_self z Z)).cons₂ e) n
    exact (p.flatMap_right f).nodup_iff.mpr n2
  | z :: Z, i + 1, n => by
    have p : (e :: (A ++ z :: Z)).Perm (e :: ((A ++ [z]) ++ Z)) := by rw [List.append_assoc]; exact List.Perm.refl _
    have := set_nodup (f := f) (A ++ [z]) e Z i ((p.flatMap_right f).nodup_iff.mp n)
    rw [List.append_assoc] at this
    exact this
theorem Rf.set {i : Nat} {l : Lo} {v : V} (h : Rf K TB B F ρ σ ((l, v) :: es) H) (hes : ∀ e, e ∈ es → e.1 ≠ .al i) (hl : ∀ j, l ≠ .al j) : Rf K TB B F (ρ.set i l) (σ.set i (some v)) es H := by
  have ez : ens es (ρ.set i l) (σ.set i (some v)) = es.map (fun e => (e.1, some e.2)) ++ (ρ.zip σ).set i (l, some v) := by unfold ens; rw [zip_set]
  have al : ∀ j (o : Option V), j ≠ i → Ok K F H ρ σ (.al j) o → Ok K F H (ρ.set i l) (σ.set i (some v)) (.al j) o := fun j o n q => by
    refine ⟨by rw [gt_set, if_neg (fun z => n z.1.symm)]; exact q.1, ?_⟩
    obtain ⟨u, e1, e2⟩ := q.2
    exact ⟨u, e1, by rw [List.getElem?_set_ne (Ne.symm n)]; exact e2⟩
  have mm : ∀ e, e ∈ ens es (ρ.set i l) (σ.set i (some v)) → e ∈ ens ((l, v) :: es) ρ σ := fun e m => by
    rw [ez] at m
    rcases List.mem_append.mp m with m | m
    · exact List.mem_cons_of_mem _ (List.mem_append_left _ m)
    · rcases mem_set' m with rfl | m
      · exact List.mem_cons_self
      · exact List.mem_cons_of_mem _ (List.mem_append_right _ m)
  refine ⟨by rw [List.length_set, List.length_set]; exact h.len, fun x m j => ?_, h.sub, h.tab, fun e m => (h.ok e (mm e m)).env fun j q => ?_, ?_, fun e a m => h.out e a (mm e m), h.k1, h.k2, h.k3, h.k4, h.ks⟩
  · rcases mem_set' m with rfl | m
    · exact hl j
    · exact h.na x m j
  · have := h.ok e (mm e m)
    rw [q] at this ⊢
    refine al j _ (fun z => ?_) this
    rw [ez] at m
    rcases List.mem_append.mp m with m | m
    · obtain ⟨e', m', rfl⟩ := List.mem_map.mp m
      exact hes e' m' (by rw [show e'.1 = .al j from q, z])
    · rcases mem_set' m with rfl | m
      · exact hl j q
      · exact h.na _ (List.of_mem_zip m).1 j q
  · rw [ez]
    exact set_nodup _ _ _ _ h.nd
/-- an environment that knows less -/
inductive WkL : Ev → St → Ev → St → Prop
  | nil : WkL [] [] [] []
  | no {ρ' ρ : Ev} {σ' σ : St} {l : Lo} {o o' : Option V} : WkL ρ' σ' ρ σ → WkL (.no :: ρ') (o' :: σ') (l :: ρ) (o :: σ)
  | eq {ρ' ρ : Ev} {σ' σ : St} {l : Lo} {o : Option V} : WkL ρ' σ' ρ σ → WkL (l :: ρ') (o :: σ') (l :: ρ) (o :: σ)
theorem WkL.of : ∀ {ρ' : Ev} {σ' : St} {ρ : Ev} {σ : St}, ρ'.length = ρ.length → σ'.length = σ.length → ρ.length = σ.length → (∀ i, gt ρ' i = .no ∨ gt ρ' i = gt ρ i ∧ σ'[i]? = σ[i]?) → WkL ρ' σ' ρ σ
  | [], [], [], [], _, _, _, _ => .nil
  | l' :: ρ', o' :: σ', l :: ρ, o :: σ, h1, h2, h3, h => by
    have t : WkL ρ' σ' ρ σ := WkL.of (by simpa using h1) (by simpa using h2) (by simpa using h3) fun i => by
      have := h (i + 1)
      rw [List.getElem?_cons_succ, List.getElem?_cons_succ] at this
      exact this
    rcases h 0 with z | ⟨z, y⟩
    · obtain rfl : l' = .no := z
      exact .no t
    · obtain rfl : l' = l := z
      obtain rfl : o' = o := by simpa using y
      exact .eq t
  | [], [], [], _ :: _, _, h, _, _ => by simp at h
  | [], _, _ :: _, _, h, _, _, _ => by simp at h
  | _ :: _, _, [], _, h, _, _, _ => by simp at h
  | [], _ :: _, [], [], _, h, _, _ => by simp at h
  | _ :: _, _, _ :: _, [], _, _, h, _ => by simp at h
  | _ :: _, [], _ :: _, _ :: _, _, h, _, _ => by simp at h
  | [], _ :: _, [], _ :: _, _, _, h, _ => by simp at h
theorem WkL.len {ρ' : Ev} {σ' : St} {ρ : Ev} {σ : St} (h : WkL ρ' σ' ρ σ) (e : ρ.length = σ.length) : ρ'.length = σ'.length := by
  induction h with
  | nil => rfl
  | no _ ih => simp at e ⊢; exact ih e
  | eq _ ih => simp at e ⊢; exact ih e
theorem WkL.mem {ρ' : Ev} {σ' : St} {ρ : Ev} {σ : St} (h : WkL ρ' σ' ρ σ) : ∀ e, e ∈ ρ'.zip σ' → e.1 = .no ∨ e ∈ ρ.zip σ := by
  induction h with
  | nil => exact fun e m => nomatch m
  | no _ ih =>
    intro e m
    rcases List.mem_cons.mp m with rfl | m
    · exact .inl rfl
    · exact (ih e m).imp id (List.mem_cons_of_mem _)
  | eq _ ih =>
    intro e m
    rcases List.mem_cons.mp m with rfl | m
    · exact .inr List.mem_cons_self
    · exact (ih e m).imp id (List.mem_cons_of_mem _)
theorem WkL.memL {ρ' : Ev} {σ' : St} {ρ : Ev} {σ : St} (h : WkL ρ' σ' ρ σ) : ∀ l, l ∈ ρ' → l = .no ∨ l ∈ ρ := by
  induction h with
  | nil => exact fun e m => nomatch m
  | no _ ih =>
    intro e m
    rcases List.mem_cons.mp m with rfl | m
    · exact .inl rfl
    · exact (ih e m).imp id (List.mem_cons_of_mem _)
  | eq _ ih =>
    intro e m
    rcases List.mem_cons.mp m with rfl | m
    · exact .inr List.mem_cons_self
    · exact (ih e m).imp id (List.mem_cons_of_mem _)
theorem WkL.fm {ρ' : Ev} {σ' : St} {ρ : Ev} {σ : St} (h : WkL ρ' σ' ρ σ) : ((ρ'.zip σ').flatMap cells).Sublist ((ρ.zip σ).flatMap cells) := by
  induction h with
  | nil => exact List.Sublist.refl _
  | @no ρ' ρ σ' σ l o o' _ ih =>
    show (((Lo.no, o') :: ρ'.zip σ').flatMap cells).Sublist (((l, o) :: ρ.zip σ).flatMap cells)
    rw [flC0 rfl]
    exact ih.trans (fm_subl (List.sublist_cons_self _ _))
  | @eq ρ' ρ σ' σ l o _ ih =>
    show (((l, o) :: ρ'.zip σ').flatMap cells).Sublist (((l, o) :: ρ.zip σ).flatMap cells)
    rw [List.flatMap_cons, List.flatMap_cons]
    exact List.Sublist.append (List.Sublist.refl _) ih
theorem Rf.env {ρ' : Ev} {σ' : St} (h : Rf K TB B F ρ σ es H) (w : WkL ρ' σ' ρ σ) (al : ∀ e, e ∈ es → ∀ j, e.1 = .al j → Ok K F H ρ' σ' e.1 (some e.2)) : Rf K TB B F ρ' σ' es H := by
  have mm : ∀ e, e ∈ ens es ρ' σ' → e.1 = .no ∨ e ∈ ens es ρ σ := fun e m => by
    rcases List.mem_append.mp m with m | m
    · exact .inr (List.mem_append_left _ m)
    · exact (w.mem e m).imp id (List.mem_append_right _)
  have na : ∀ l, l ∈ ρ' → ∀ j, l ≠ .al j := fun l m j => by
    rcases w.memL l m with rfl | m
    · exact fun z => nomatch z
    · exact h.na l m j
  refine ⟨w.len h.len, na, h.sub, h.tab, fun e m => ?_, ?_, fun e a m c => ?_, h.k1, h.k2, h.k3, h.k4, h.ks⟩
  · rcases mm e m with z | z
    · rw [z]; trivial
    · refine (h.ok e z).env fun j q => ?_
      rcases List.mem_append.mp m with m | m
      · obtain ⟨e', m', rfl⟩ := List.mem_map.mp m
        exact al e' m' j q
      · exact absurd q (na _ (List.of_mem_zip m).1 j)
  · have := h.nd
    unfold ens at this ⊢
    rw [List.flatMap_append] at this ⊢
    exact this.sublist (List.Sublist.append (List.Sublist.refl _) w.fm)
  · rcases mm e m with z | z
    · obtain ⟨l, o⟩ := e
      cases z
      exact in0 c
    · exact h.out e a z c
/-! ### judgements -/
abbrev DE := Ev → (Ev → Lo → Prop) → Prop
abbrev DA := Ev → (Ev → List Lo → Prop) → Prop
abbrev DTs := Ev → (Ev → Bool → Prop) → Prop
structure DEnds where
  nx : Ev → Prop
  rt : Lo → Prop
  bk : Ev → Prop := fun _ => False
  ct : Ev → Prop := fun _ => False
abbrev DS := DEnds → Ev → Prop
abbrev DG := Dt → Ev → (Ev → Prop) → Prop
abbrev DI := Ev → (Ev → List Dt → Prop) → Prop
def LE (K : PySem.W.Frag) (TB : Tbs) (t : TE) (e : DE) : Prop := ∀ (B : Bs) (ρ : Ev) (σ : St) (es : Ps) (H : Hp) (Q : VK) (Qd : Ev → Lo → Prop), R K TB B ρ σ es H → e ρ Qd → (∀ ρ' l v H', R K TB B ρ' σ ((l, v) :: es) H' → Qd ρ' l → Q v H') → t σ H Q
def LA (K : PySem.W.Frag) (TB : Tbs) (t : TA) (e : DA) : Prop := ∀ (B : Bs) (ρ : Ev) (σ : St) (es : Ps) (H : Hp) (Q : List V → Hp → Prop) (Qd : Ev → List Lo → Prop), R K TB B ρ σ es H → e ρ Qd → (∀ ρ' ls vs H', ls.length = vs.length → R K TB B ρ' σ ((ls.zip vs).reverse ++ es) H' → Qd ρ' ls → Q vs H') → t σ H Q
def LT (K : PySem.W.Frag) (TB : Tbs) (t : TT) (e : DTs) : Prop := ∀ (B : Bs) (ρ : Ev) (σ : St) (es : Ps) (H : Hp) (Q : Bool → Hp → Prop) (Qd : Ev → Bool → Prop), R K TB B ρ σ es H → e ρ Qd → (∀ ρ' b H', R K TB B ρ' σ es H' → Qd ρ' b → Q b H') → t σ H Q
def Shs (es : Ps) : Prop := ∀ e, e ∈ es → ∀ j, e.1 ≠ .al j
structure Lk (K : PySem.W.Frag) (TB : Tbs) (B : Bs) (n : Nat) (es : Ps) (D : Ends) (Dd : DEnds) : Prop where
  nx : ∀ ρ σ H, σ.length = n → R K TB B ρ σ es H → Dd.nx ρ → D.nx σ H
  rt : ∀ l v H, (∀ j, l ≠ .al j) → l ≠ .src → R K TB B [] [] [(l, v)] H → Dd.rt l → D.rt v H
  bk : ∀ ρ σ H, σ.length = n → R K TB B ρ σ es H → Dd.bk ρ → D.bk σ H
  ct : ∀ ρ σ H, σ.length = n → R K TB B ρ σ es H → Dd.ct ρ → D.ct σ H
def LS (K : PySem.W.Frag) (TB : Tbs) (t : TS) (s : DS) : Prop := ∀ (B : Bs) (ρ : Ev) (σ : St) (es : Ps) (H : Hp) (D : Ends) (Dd : DEnds), Shs es → R K TB B ρ σ es H → s Dd ρ → Lk K TB B σ.length es D Dd → t D σ H
def LG (K : PySem.W.Frag) (TB : Tbs) (g : TG) (dg : DG) (is : List Nat) : Prop := ∀ (B : Bs) (ρ : Ev) (σ : St) (es : Ps) (H : Hp) (x : V) (d : Dt) (Q : St → Hp → Prop) (Qd : Ev → Prop), (∀ e, e ∈ es → ∀ j, e.1 = .al j → j ∉ is) → R K TB B ρ σ ((.sh d, x) :: es) H → dg d ρ Qd →
  (∀ ρ' σ' H', σ'.length = σ.length → (∀ i, i ∉ is → σ'[i]? = σ[i]? ∧ gt ρ' i = gt ρ i) → R K TB B ρ' σ' es H' → Qd ρ' → Q σ' H') → g x σ H Q
/-- what an iterator yields, while the pending values ps stand -/
def ItOk (K : PySem.W.Frag) (TB : Tbs) (J : It) (ps : Ps) (ds : List Dt) : Prop := ∀ (B : Bs) (ρ : Ev) (σ : St) (es : Ps) (H : Hp), R K TB B ρ σ es H → (∀ e, e ∈ ps → e ∈ es) →
  (∀ i, i < ds.length → J.go i H) ∧ J.stop ds.length H ∧ ∀ i x H', i < ds.length → J.yld i H x H' → ∃ d, ds[i]? = some d ∧ R K TB B ρ σ ((.sh d, x) :: es) H'
/-- data only -/
def Shd (es : Ps) : Prop := ∀ e, e ∈ es → ∃ d, e.1 = .sh d
theorem Shd.s {es : Ps} (h : Shd es) : Shs es := fun e m j z => by
  obtain ⟨d, e1⟩ := h e m
  rw [e1] at z; cases z
def LI (K : PySem.W.Frag) (TB : Tbs) (w : TI) (s : DI) : Prop := ∀ (B : Bs) (ρ : Ev) (σ : St) (es : Ps) (H : Hp) (Rr : It → Hp → Prop) (Qd : Ev → List Dt → Prop), R K TB B ρ σ es H → s ρ Qd → (∀ ρ' ds J H' ps, Shd ps → R K TB B ρ' σ (ps ++ es) H' → ItOk K TB J ps ds → Qd ρ' ds → Rr J H') → w σ H Rr
/-! ### names, constants -/
def dat (ρ : Ev) : Lo → Option Dt
  | .sh d => some d
  | .ow ds => some (.lst ds)
  | .od ds => some (.dic ds)
  | .al j => match gt ρ j with
    | .sh d => some d
    | .ow ds => some (.lst ds)
    | .od ds => some (.dic ds)
    | _ => none
  | _ => none
theorem Rf.entL (h : Rf K TB B F ρ σ es H) {e : Lo × Option V} (m : e ∈ ens es ρ σ) {ds : List Dt} (q : dat ρ e.1 = some (.lst ds)) : ∃ a vs, e.2 = some (.ref a) ∧ H a = some (.lst vs) ∧ RpA K F vs ds := by
  have base : ∀ (l : Lo) (o : Option V), (∀ j, l ≠ .al j) → Ok K F H ρ σ l o → dat ρ l = some (.lst ds) → ∃ a vs, o = some (.ref a) ∧ H a = some (.lst vs) ∧ RpA K F vs ds := fun l o n k q => by
    cases l with
    | sh d =>
      cases q
      obtain ⟨v, e, r⟩ := k
      cases r with
      | lst h1 h2 => exact ⟨_, _, e, h.sub _ _ h1, h2⟩
    | ow d =>
      cases q
      obtain ⟨a, vs, e, h1, h2⟩ := k
      exact ⟨a, vs, e, h1, h2⟩
    | no => cases q
    | od d => cases q
    | fd o w d => cases q
    | oi C p n d => cases q
    | src => cases q
    | tr t => cases q
    | sk t => cases q
    | al j => exact absurd rfl (n j)
  obtain ⟨l, o⟩ := e
  by_cases n : ∀ j, l ≠ .al j
  · exact base l o n (h.ok _ m) q
  · cases l with
    | al j =>
      obtain ⟨n1, v, e1, e2⟩ := h.ok _ m
      obtain ⟨o', f1, f2, f3⟩ := h.slot n1
      rw [e2] at f1
      cases f1
      have q' : dat ρ (gt ρ j) = some (.lst ds) := by
        have na := h.na _ (gt_mem n1)
        revert q na
        show (match gt ρ j with
          | .sh d => some d
          | .ow ds => some (.lst ds)
          | .od ds => some (.dic ds)
          | _ => none) = some (.lst ds) → _
        cases gt ρ j <;> intro q na <;> first | exact q | exact absurd rfl (na _)
      obtain ⟨a, vs, g1, g2⟩ := base _ _ (h.na _ (gt_mem n1)) f3 q'
      exact ⟨a, vs, e1.trans g1, g2⟩
    | _ => exact absurd (fun j z => nomatch z) n
theorem Rf.entS (h : Rf K TB B F ρ σ es H) {e : Lo × Option V} (m : e ∈ ens es ρ σ) {d : Dt} (q : e.1 = .sh d) : ∃ v, e.2 = some v ∧ Rp K F v d := by
  have := h.ok e m
  rw [q] at this
  exact this
def eVar (i : Nat) : DE := fun ρ Qd => match gt ρ i with
  | .sh d => Qd ρ (.sh d)
  | .no => False
  | .al _ => False
  | .fd _ _ _ => False
  | .oi _ _ _ _ => False
  | .sk t => Qd ρ (.sk t)
  | _ => Qd ρ (.al i)
theorem le_var {i : Nat} : LE K TB (tVar i) (eVar i) := by
  intro B ρ σ es H Q Qd ⟨F, r⟩ h k
  unfold eVar at h
  have n : gt ρ i ≠ .no := fun z => by rw [z] at h; exact h
  obtain ⟨o, e, m, q⟩ := r.slot n
  revert h q n
  cases g : gt ρ i with
  | no => exact fun h => h.elim
  | al j => exact fun h => h.elim
  | fd _ _ _ => exact fun h => h.elim
  | oi _ _ _ _ => exact fun h => h.elim
  | sh d =>
    intro h _ ⟨v, e1, e2⟩
    subst e1
    exact ⟨v, e, k _ _ _ _ ⟨F, r.pushS e2⟩ h⟩
  | ow d =>
    intro h _ ⟨a, vs, e1, _⟩
    subst e1
    exact ⟨_, e, k _ _ _ _ ⟨F, r.push (l := .al i) ⟨by rw [g]; exact (fun z => nomatch z), _, rfl, e⟩ rfl⟩ h⟩
  | od d =>
    intro h _ ⟨a, vs, e1, _⟩
    subst e1
    exact ⟨_, e, k _ _ _ _ ⟨F, r.push (l := .al i) ⟨by rw [g]; exact (fun z => nomatch z), _, rfl, e⟩ rfl⟩ h⟩
  | sk t =>
    intro h _ ⟨v, e1, e2⟩
    subst e1
    exact ⟨_, e, k _ _ _ _ ⟨F, r.push (l := .sk t) ⟨_, rfl, e2⟩ rfl⟩ h⟩
  | tr t =>
    intro h _ ⟨v, e1, _⟩
    subst e1
    exact ⟨_, e, k _ _ _ _ ⟨F, r.push (l := .al i) ⟨by rw [g]; exact (fun z => nomatch z), _, rfl, e⟩ rfl⟩ h⟩
  | src =>
    intro h _ ⟨a, e1, _⟩
    subst e1
    exact ⟨_, e, k _ _ _ _ ⟨F, r.push (l := .al i) ⟨by rw [g]; exact (fun z => nomatch z), _, rfl, e⟩ rfl⟩ h⟩
def eC (d : Dt) : DE := fun ρ Qd => Qd ρ (.sh d)
theorem le_c {v : V} {d : Dt} (c : ∀ F, Rp K F v d) : LE K TB (tC v) (eC d) := fun _ _ _ _ _ _ _ ⟨F, r⟩ h k => k _ _ _ _ ⟨F, r.pushS (c F)⟩ h
theorem le_int {i : Int} : LE K TB (tC (.int i)) (eC (.int i)) := le_c fun _ => .int i
theorem le_bl {b : Bool} : LE K TB (tC (.bl b)) (eC (.bl b)) := le_c fun _ => .bl b
theorem le_non : LE K TB (tC .non) (eC .non) := le_c fun _ => .non
theorem le_str {s : Str} : LE K TB (tC (.str s)) (eC (.str s)) := le_c fun _ => .str s
/-! ### statements -/
def sNext : DS := fun D ρ => D.nx ρ
theorem ls_next : LS K TB tNext sNext := fun _ _ _ _ _ _ _ _ r h k => k.nx _ _ _ rfl r h
def sBreak : DS := fun D ρ => D.bk ρ
theorem ls_break : LS K TB tBreak sBreak := fun _ _ _ _ _ _ _ _ r h k => k.bk _ _ _ rfl r h
def sCont : DS := fun D ρ => D.ct ρ
theorem ls_cont : LS K TB tCont sCont := fun _ _ _ _ _ _ _ _ r h k => k.ct _ _ _ rfl r h
def sSeq (s u : DS) : DS := fun D ρ => s { D with nx := u D } ρ
theorem ls_seq {t t' : TS} {s s' : DS} (h1 : LS K TB t s) (h2 : LS K TB t' s') : LS K TB (tSeq t t') (sSeq s s') := fun B ρ σ es H D Dd z r h k =>
  h1 B ρ σ es H _ _ z r h ⟨fun ρ' σ' H' n r' h' => h2 B ρ' σ' es H' D Dd z r' h' (n ▸ k), k.rt, k.bk, k.ct⟩
theorem cutD {s u : DS} {D : DEnds} {ρ : Ev} (M : Ev → Prop) (hk : ∀ ρ', M ρ' → u D ρ') (h : (∀ ρ', M ρ' → u D ρ') → sSeq s u D ρ) : sSeq s u D ρ := h hk
def sIf (c : DTs) (s u : DS) : DS := fun D ρ => c ρ fun ρ1 b => (b = true → s D ρ1) ∧ (b = false → u D ρ1)
theorem ls_if {c : TT} {t t' : TS} {dc : DTs} {s s' : DS} (h0 : LT K TB c dc) (h1 : LS K TB t s) (h2 : LS K TB t' s') : LS K TB (tIfS c t t') (sIf dc s s') := fun B ρ σ es H D Dd z r h k =>
  h0 B ρ σ es H _ _ r h fun ρ1 b H1 r1 q => by
    cases b with
    | true => exact h1 B ρ1 σ es H1 D Dd z r1 (q.1 rfl) k
    | false => exact h2 B ρ1 σ es H1 D Dd z r1 (q.2 rfl) k
def nrm : Lo → Lo
  | .ow ds => .sh (.lst ds)
  | .od ds => .sh (.dic ds)
  | .tr t => .sh t.dat
  | l => l
theorem R.nrm {l : Lo} {v : V} (h : R K TB B ρ σ ((l, v) :: es) H) : R K TB B ρ σ ((nrm l, v) :: es) H := by
  obtain ⟨F, r⟩ := h
  cases l with
  | ow ds => exact r.frzL
  | od ds => exact r.frzD
  | fd o w ds => exact ⟨F, r⟩
  | oi C p n ds => exact ⟨F, r⟩
  | no => exact ⟨F, r⟩
  | sh d => exact ⟨F, r⟩
  | src => exact ⟨F, r⟩
  | tr t => exact r.frzT
  | sk t => exact ⟨F, r⟩
  | al j => exact ⟨F, r⟩
/-- a name gets a value that is never changed; sAsgO: a list or dict of its own -/
def sAsg (i : Nat) (e : DE) : DS := fun D ρ => e ρ fun ρ1 l => match nrm l with
  | .sh d => D.nx (ρ1.set i (.sh d))
  | _ => False
theorem ls_asg {te : TE} {i : Nat} {e : DE} (h0 : LE K TB te e) : LS K TB (tAsg te (gName i)) (sAsg i e) := fun B ρ σ es H D Dd z r h k =>
  h0 B ρ σ es H _ _ r h fun ρ1 l v H1 r1 q => by
    obtain ⟨F, r2⟩ := R.nrm r1
    revert r2 q
    cases nrm l with
    | sh d => exact fun q r2 => k.nx _ _ _ (by rw [List.length_set]) ⟨F, r2.set (fun e m => z e m i) (fun j y => nomatch y)⟩ q
    | _ => exact fun q => q.elim
def sAsgO (i : Nat) (e : DE) : DS := fun D ρ => e ρ fun ρ1 l => match l with
  | .ow ds => D.nx (ρ1.set i (.ow ds))
  | .od ds => D.nx (ρ1.set i (.od ds))
  | .src => D.nx (ρ1.set i .src)
  | .sh d => D.nx (ρ1.set i (.sh d))
  | .tr t => D.nx (ρ1.set i (.tr t))
  | _ => False
/-- an expression of a statement: no alias is pending -/
def LEZ (K : PySem.W.Frag) (TB : Tbs) (t : TE) (e : DE) : Prop := ∀ (B : Bs) (ρ : Ev) (σ : St) (es : Ps) (H : Hp) (Q : VK) (Qd : Ev → Lo → Prop), Shs es → R K TB B ρ σ es H → e ρ Qd → (∀ ρ' l v H', R K TB B ρ' σ ((l, v) :: es) H' → Qd ρ' l → Q v H') → t σ H Q
theorem LE.z {t : TE} {e : DE} (h : LE K TB t e) : LEZ K TB t e := fun B ρ σ es H Q Qd _ r q k => h B ρ σ es H Q Qd r q k
theorem ls_asgOZ {te : TE} {i : Nat} {e : DE} (h0 : LEZ K TB te e) : LS K TB (tAsg te (gName i)) (sAsgO i e) := fun B ρ σ es H D Dd z r h k =>
  h0 B ρ σ es H _ _ z r h fun ρ1 l v H1 ⟨F, r2⟩ q => by
    cases l with
    | ow d => exact k.nx _ _ _ (by rw [List.length_set]) ⟨F, r2.set (fun e m => z e m i) (fun j y => nomatch y)⟩ q
    | od d => exact k.nx _ _ _ (by rw [List.length_set]) ⟨F, r2.set (fun e m => z e m i) (fun j y => nomatch y)⟩ q
    | src => exact k.nx _ _ _ (by rw [List.length_set]) ⟨F, r2.set (fun e m => z e m i) (fun j y => nomatch y)⟩ q
    | sh d => exact k.nx _ _ _ (by rw [List.length_set]) ⟨F, r2.set (fun e m => z e m i) (fun j y => nomatch y)⟩ q
    | tr t => exact k.nx _ _ _ (by rw [List.length_set]) ⟨F, r2.set (fun e m => z e m i) (fun j y => nomatch y)⟩ q
    | _ => exact q.elim
theorem ls_asgO {te : TE} {i : Nat} {e : DE} (h0 : LE K TB te e) : LS K TB (tAsg te (gName i)) (sAsgO i e) := ls_asgOZ h0.z
def sDrop (e : DE) : DS := fun D ρ => e ρ fun ρ1 _ => D.nx ρ1
theorem ls_drop {te : TE} {e : DE} (h0 : LE K TB te e) : LS K TB (tDrop te) (sDrop e) := fun B ρ σ es H D Dd z r h k =>
  h0 B ρ σ es H _ _ r h fun ρ1 l v H1 ⟨F, r2⟩ q => k.nx _ _ _ rfl ⟨F, r2.pop⟩ q
/-- what is returned: a name's own list goes with it -/
def fin (ρ : Ev) : Lo → Lo
  | .al j => gt ρ j
  | l => l
theorem Rf.bare (h : Rf K TB B F ρ σ es H) {e : Lo × Option V} {l : Lo} {v : V} (m : e ∈ ens es ρ σ) (e1 : e = (l, some v)) (n : ∀ j, l ≠ .al j) : Rf K TB B F [] [] [(l, v)] H := by
  subst e1
  have em : ens [(l, v)] [] [] = [(l, some v)] := rfl
  refine ⟨rfl, (fun x y => nomatch y), h.sub, h.tab, fun e q => ?_, ?_, fun e a q c => ?_, h.k1, h.k2, h.k3, h.k4, h.ks⟩
  · rw [em] at q
    rw [List.mem_singleton.mp q]
    exact (h.ok _ m).env fun j z => absurd z (n j)
  · rw [em]
    exact h.nd.sublist (fm_subl (List.singleton_sublist.mpr m))
  · rw [em] at q
    rw [List.mem_singleton.mp q] at c ⊢
    exact h.out _ a m c
def sRet (e : DE) : DS := fun D ρ => e ρ fun ρ1 l => match fin ρ1 l with
  | .src => False
  | l' => D.rt l'
theorem ls_retZ {te : TE} {e : DE} (h0 : LEZ K TB te e) : LS K TB (tRet te) (sRet e) := fun B ρ σ es H D Dd z r h k =>
  h0 B ρ σ es H _ _ z r h fun ρ1 l v H1 ⟨F, r2⟩ q => by
    have q' : fin ρ1 l ≠ .src ∧ Dd.rt (fin ρ1 l) := by
      revert q
      cases fin ρ1 l <;> intro q <;> first | exact ⟨(fun z => nomatch z), q⟩ | exact q.elim
    clear q
    by_cases n : ∀ j, l ≠ .al j
    · have f : fin ρ1 l = l := by cases l <;> first | rfl | exact absurd rfl (n _)
      rw [f] at q'
      exact k.rt l v H1 n q'.1 ⟨F, r2.bare List.mem_cons_self rfl n⟩ q'.2
    · cases l with
      | al j =>
        obtain ⟨n1, v', e1, e2⟩ := r2.okp
        cases e1
        obtain ⟨o', f1, f2, f3⟩ := r2.slot n1
        rw [e2] at f1
        cases f1
        have na := r2.na _ (gt_mem n1)
        exact k.rt _ v H1 na q'.1 ⟨F, r2.bare f2 rfl na⟩ q'.2
      | _ => exact absurd (fun j z => nomatch z) n
theorem ls_ret {te : TE} {e : DE} (h0 : LE K TB te e) : LS K TB (tRet te) (sRet e) := ls_retZ h0.z
def sRetN : DS := fun D _ => D.rt (.sh .non)
theorem ls_retN : LS K TB tRetN sRetN := fun B ρ σ es H D Dd z ⟨F, r⟩ h k => k.rt (.sh .non) .non H (fun j z => nomatch z) (fun z => nomatch z) ⟨F, (r.pushS .non).bare List.mem_cons_self rfl (fun j z => nomatch z)⟩ h
end

section
variable {K : PySem.W.Frag} {TB : Tbs} {B : Bs} {F : Hp} {ρ : Ev} {σ : St} {es : Ps} {H : Hp}
/-! ### arithmetic -/
def oI (g : Int → Int → Dt) (a b : DE) : DE := fun ρ Qd => a ρ fun ρ1 l1 => b ρ1 fun ρ2 l2 => match l1, l2 with
  | .sh (.int i), .sh (.int j) => Qd ρ2 (.sh (g i j))
  | _, _ => False
def oC (C : Int → Int → Prop) (g : Int → Int → Dt) (a b : DE) : DE := fun ρ Qd => a ρ fun ρ1 l1 => b ρ1 fun ρ2 l2 => match l1, l2 with
  | .sh (.int i), .sh (.int j) => C i j ∧ Qd ρ2 (.sh (g i j))
  | _, _ => False
theorem Rf.okq {e e' : Lo × V} (h : Rf K TB B F ρ σ (e :: e' :: es) H) : Ok K F H ρ σ e'.1 (some e'.2) := h.pop.okp
theorem Rf.intP {i : Int} {v : V} (h : Rf K TB B F ρ σ ((.sh (.int i), v) :: es) H) : v = .int i := by
  obtain ⟨u, e, r⟩ := h.okp
  cases e
  cases r
  rfl
theorem Rf.blP {b : Bool} {v : V} (h : Rf K TB B F ρ σ ((.sh (.bl b), v) :: es) H) : v = .bl b := by
  obtain ⟨u, e, r⟩ := h.okp
  cases e
  cases r
  rfl
theorem le_oI {gv : Int → Int → V} {g : Int → Int → Dt} (hg : ∀ i j F, Rp K F (gv i j) (g i j)) {ta tb : TE} {a b : DE} (ha : LE K TB ta a) (hb : LE K TB tb b) : LE K TB (tOp (rI0 gv) ta tb) (oI g a b) := fun B ρ σ es H Q Qd r h k =>
  ha B ρ σ es H _ _ r h fun ρ1 l1 v1 H1 r1 q1 => hb B ρ1 σ _ H1 _ _ r1 q1 fun ρ2 l2 v2 H2 ⟨F, r2⟩ q2 => by
    split at q2
    · obtain rfl := r2.intP
      obtain rfl := r2.pop.intP
      exact ⟨_, _, rfl, rfl, k _ _ _ _ ⟨F, r2.pop.pop.pushS (hg _ _ F)⟩ q2⟩
    · exact q2.elim
theorem le_oC {C : Int → Int → Prop} {gv : Int → Int → V} {g : Int → Int → Dt} (hg : ∀ i j F, Rp K F (gv i j) (g i j)) {ta tb : TE} {a b : DE} (ha : LE K TB ta a) (hb : LE K TB tb b) : LE K TB (tOp (rI C gv) ta tb) (oC C g a b) := fun B ρ σ es H Q Qd r h k =>
  ha B ρ σ es H _ _ r h fun ρ1 l1 v1 H1 r1 q1 => hb B ρ1 σ _ H1 _ _ r1 q1 fun ρ2 l2 v2 H2 ⟨F, r2⟩ q2 => by
    split at q2
    · obtain rfl := r2.intP
      obtain rfl := r2.pop.intP
      exact ⟨_, _, rfl, rfl, q2.1, k _ _ _ _ ⟨F, r2.pop.pop.pushS (hg _ _ F)⟩ q2.2⟩
    · exact q2.elim
theorem le_add {ta tb : TE} {a b : DE} (ha : LE K TB ta a) (hb : LE K TB tb b) : LE K TB (tOp (rI0 fun i j => .int (i + j)) ta tb) (oI (fun i j => .int (i + j)) a b) := le_oI (fun _ _ _ => .int _) ha hb
theorem le_sub {ta tb : TE} {a b : DE} (ha : LE K TB ta a) (hb : LE K TB tb b) : LE K TB (tOp (rI0 fun i j => .int (i - j)) ta tb) (oI (fun i j => .int (i - j)) a b) := le_oI (fun _ _ _ => .int _) ha hb
theorem le_mul {ta tb : TE} {a b : DE} (ha : LE K TB ta a) (hb : LE K TB tb b) : LE K TB (tOp (rI CMul fun i j => .int (i * j)) ta tb) (oC CMul (fun i j => .int (i * j)) a b) := le_oC (fun _ _ _ => .int _) ha hb
theorem le_fdiv {ta tb : TE} {a b : DE} (ha : LE K TB ta a) (hb : LE K TB tb b) : LE K TB (tOp (rI CDiv fun i j => .int (i / j)) ta tb) (oC CDiv (fun i j => .int (i / j)) a b) := le_oC (fun _ _ _ => .int _) ha hb
theorem le_mod {ta tb : TE} {a b : DE} (ha : LE K TB ta a) (hb : LE K TB tb b) : LE K TB (tOp (rI (fun _ j => 0 < j) fun i j => .int (i % j)) ta tb) (oC (fun _ j => 0 < j) (fun i j => .int (i % j)) a b) := le_oC (fun _ _ _ => .int _) ha hb
theorem le_pow {ta tb : TE} {a b : DE} (ha : LE K TB ta a) (hb : LE K TB tb b) : LE K TB (tOp (rI CPow fun i j => .int (i ^ j.toNat)) ta tb) (oC CPow (fun i j => .int (i ^ j.toNat)) a b) := le_oC (fun _ _ _ => .int _) ha hb
theorem le_shl {ta tb : TE} {a b : DE} (ha : LE K TB ta a) (hb : LE K TB tb b) : LE K TB (tOp (rI CPow fun i j => .int (i * 2 ^ j.toNat)) ta tb) (oC CPow (fun i j => .int (i * 2 ^ j.toNat)) a b) := le_oC (fun _ _ _ => .int _) ha hb
theorem le_shr {ta tb : TE} {a b : DE} (ha : LE K TB ta a) (hb : LE K TB tb b) : LE K TB (tOp (rI (fun _ j => 0 ≤ j) fun i j => .int (i / 2 ^ j.toNat)) ta tb) (oC (fun _ j => 0 ≤ j) (fun i j => .int (i / 2 ^ j.toNat)) a b) := le_oC (fun _ _ _ => .int _) ha hb
theorem le_and {ta tb : TE} {a b : DE} (ha : LE K TB ta a) (hb : LE K TB tb b) : LE K TB (tOp (rI0 fun i j => .int (Builtin.bitAnd i j)) ta tb) (oI (fun i j => .int (Builtin.bitAnd i j)) a b) := le_oI (fun _ _ _ => .int _) ha hb
theorem le_or {ta tb : TE} {a b : DE} (ha : LE K TB ta a) (hb : LE K TB tb b) : LE K TB (tOp (rI0 fun i j => .int (Builtin.bitOr i j)) ta tb) (oI (fun i j => .int (Builtin.bitOr i j)) a b) := le_oI (fun _ _ _ => .int _) ha hb
theorem le_xor {ta tb : TE} {a b : DE} (ha : LE K TB ta a) (hb : LE K TB tb b) : LE K TB (tOp (rI0 fun i j => .int (Builtin.bitXor i j)) ta tb) (oI (fun i j => .int (Builtin.bitXor i j)) a b) := le_oI (fun _ _ _ => .int _) ha hb
theorem le_lt {ta tb : TE} {a b : DE} (ha : LE K TB ta a) (hb : LE K TB tb b) : LE K TB (tOp (rI0 fun i j => .bl (decide (i < j))) ta tb) (oI (fun i j => .bl (decide (i < j))) a b) := le_oI (fun _ _ _ => .bl _) ha hb
theorem le_le {ta tb : TE} {a b : DE} (ha : LE K TB ta a) (hb : LE K TB tb b) : LE K TB (tOp (rI0 fun i j => .bl (decide (i ≤ j))) ta tb) (oI (fun i j => .bl (decide (i ≤ j))) a b) := le_oI (fun _ _ _ => .bl _) ha hb
theorem le_gt {ta tb : TE} {a b : DE} (ha : LE K TB ta a) (hb : LE K TB tb b) : LE K TB (tOp (rI0 fun i j => .bl (decide (j < i))) ta tb) (oI (fun i j => .bl (decide (j < i))) a b) := le_oI (fun _ _ _ => .bl _) ha hb
theorem le_ge {ta tb : TE} {a b : DE} (ha : LE K TB ta a) (hb : LE K TB tb b) : LE K TB (tOp (rI0 fun i j => .bl (decide (j ≤ i))) ta tb) (oI (fun i j => .bl (decide (j ≤ i))) a b) := le_oI (fun _ _ _ => .bl _) ha hb
def oU (g : Int → Dt) (a : DE) : DE := fun ρ Qd => a ρ fun ρ1 l1 => match l1 with
  | .sh (.int i) => Qd ρ1 (.sh (g i))
  | _ => False
theorem le_neg {ta : TE} {a : DE} (ha : LE K TB ta a) : LE K TB (tUn (rU fun i => .int (-i)) ta) (oU (fun i => .int (-i)) a) := fun B ρ σ es H Q Qd r h k =>
  ha B ρ σ es H _ _ r h fun ρ1 l1 v1 H1 ⟨F, r1⟩ q1 => by
    split at q1
    · obtain rfl := r1.intP
      exact ⟨_, rfl, k _ _ _ _ ⟨F, r1.pop.pushS (.int _)⟩ q1⟩
    · exact q1.elim
/-! ### == of scalars, is None -/
def eqS (d e : Dt) : Option Bool := match d, e with
  | .int i, .int j => some (decide (i = j))
  | .bl a, .bl b => some (decide (a = b))
  | .str a, .str b => some (decide (a = b))
  | .non, .non => some true
  | .non, .int _ => some false
  | .int _, .non => some false
  | .str _, .non => some false
  | .non, .str _ => some false
  | _, _ => none
theorem eqS_ok {d e : Dt} {b : Bool} {x y : V} (h : eqS d e = some b) (rx : Rp K F x d) (ry : Rp K F y e) : scal x y = true ∧ decide (x = y) = b := by
  unfold eqS at h
  split at h <;> cases h <;> cases rx <;> cases ry <;> refine ⟨rfl, ?_⟩ <;> simp
def oEq (neg : Bool) (a b : DE) : DE := fun ρ Qd => a ρ fun ρ1 l1 => b ρ1 fun ρ2 l2 => match l1, l2 with
  | .sh d, .sh e => (match eqS d e with
    | some c => Qd ρ2 (.sh (.bl (match neg with | true => !c | false => c)))
    | none => False)
  | _, _ => False
theorem le_eq {ta tb : TE} {a b : DE} (ha : LE K TB ta a) (hb : LE K TB tb b) : LE K TB (tOp rEq ta tb) (oEq false a b) := fun B ρ σ es H Q Qd r h k =>
  ha B ρ σ es H _ _ r h fun ρ1 l1 v1 H1 r1 q1 => hb B ρ1 σ _ H1 _ _ r1 q1 fun ρ2 l2 v2 H2 ⟨F, r2⟩ q2 => by
    split at q2
    · split at q2
      · rename_i c hc
        obtain ⟨_, e1, p1⟩ := r2.okp
        obtain ⟨_, e2, p2⟩ := r2.pop.okp
        cases e1
        cases e2
        obtain ⟨s1, s2⟩ := eqS_ok hc p2 p1
        refine ⟨s1, ?_⟩
        rw [s2]
        exact k _ _ _ _ ⟨F, r2.pop.pop.pushS (.bl _)⟩ q2
      · exact q2.elim
    · exact q2.elim
theorem le_ne {ta tb : TE} {a b : DE} (ha : LE K TB ta a) (hb : LE K TB tb b) : LE K TB (tOp rNe ta tb) (oEq true a b) := fun B ρ σ es H Q Qd r h k =>
  ha B ρ σ es H _ _ r h fun ρ1 l1 v1 H1 r1 q1 => hb B ρ1 σ _ H1 _ _ r1 q1 fun ρ2 l2 v2 H2 ⟨F, r2⟩ q2 => by
    split at q2
    · split at q2
      · rename_i c hc
        obtain ⟨_, e1, p1⟩ := r2.okp
        obtain ⟨_, e2, p2⟩ := r2.pop.okp
        cases e1
        cases e2
        obtain ⟨s1, s2⟩ := eqS_ok hc p2 p1
        refine ⟨s1, ?_⟩
        rw [s2]
        exact k _ _ _ _ ⟨F, r2.pop.pop.pushS (.bl _)⟩ q2
      · exact q2.elim
    · exact q2.elim
def isNo (d : Dt) : Bool := match d with
  | .non => true
  | _ => false
theorem isNo_ok {d : Dt} {x : V} (r : Rp K F x d) : decide (x = .non) = isNo d := by cases r <;> rfl
def oIs (neg : Bool) (a b : DE) : DE := fun ρ Qd => a ρ fun ρ1 l1 => b ρ1 fun ρ2 l2 => match l1, l2 with
  | .sh d, .sh .non => Qd ρ2 (.sh (.bl (match neg with | true => !isNo d | false => isNo d)))
  | _, _ => False
theorem le_isN {ta tb : TE} {a b : DE} (ha : LE K TB ta a) (hb : LE K TB tb b) : LE K TB (tOp (fun x y H Q => y = .non ∧ Q (.bl (decide (x = .non))) H) ta tb) (oIs false a b) := fun B ρ σ es H Q Qd r h k =>
  ha B ρ σ es H _ _ r h fun ρ1 l1 v1 H1 r1 q1 => hb B ρ1 σ _ H1 _ _ r1 q1 fun ρ2 l2 v2 H2 ⟨F, r2⟩ q2 => by
    split at q2
    · obtain ⟨_, e1, p1⟩ := r2.okp
      obtain ⟨_, e2, p2⟩ := r2.pop.okp
      cases e1
      cases e2
      cases p1
      refine ⟨rfl, ?_⟩
      rw [isNo_ok p2]
      exact k _ _ _ _ ⟨F, r2.pop.pop.pushS (.bl _)⟩ q2
    · exact q2.elim
theorem le_notN {ta tb : TE} {a b : DE} (ha : LE K TB ta a) (hb : LE K TB tb b) : LE K TB (tOp (fun x y H Q => y = .non ∧ Q (.bl (!decide (x = .non))) H) ta tb) (oIs true a b) := fun B ρ σ es H Q Qd r h k =>
  ha B ρ σ es H _ _ r h fun ρ1 l1 v1 H1 r1 q1 => hb B ρ1 σ _ H1 _ _ r1 q1 fun ρ2 l2 v2 H2 ⟨F, r2⟩ q2 => by
    split at q2
    · obtain ⟨_, e1, p1⟩ := r2.okp
      obtain ⟨_, e2, p2⟩ := r2.pop.okp
      cases e1
      cases e2
      cases p1
      refine ⟨rfl, ?_⟩
      rw [isNo_ok p2]
      exact k _ _ _ _ ⟨F, r2.pop.pop.pushS (.bl _)⟩ q2
    · exact q2.elim
/-! ### truth, and, or, not, if -/
def dB (a : DE) : DTs := fun ρ Qd => a ρ fun ρ1 l => match l with
  | .sh (.bl b) => Qd ρ1 b
  | _ => False
theorem lt_B {ta : TE} {a : DE} (ha : LE K TB ta a) : LT K TB (tB ta) (dB a) := fun B ρ σ es H Q Qd r h k => ha B ρ σ es H _ _ r h fun ρ1 l v H1 ⟨F, r1⟩ q => by
  split at q
  · obtain rfl := r1.blP
    exact ⟨_, rfl, k _ _ _ ⟨F, r1.pop⟩ q⟩
  · exact q.elim
theorem lt_T {ta : TE} {a : DE} (ha : LE K TB ta a) : LT K TB (tTest ta) (dB a) := lt_B ha
/-- the truth of a list, a tuple, a number, None -/
def truD : Dt → Option Bool
  | .bl b => some b
  | .int i => some (i != 0)
  | .non => some false
  | .lst ds => some (!ds.isEmpty)
  | .tup ds => some (!ds.isEmpty)
  | .dic ks => some (!ks.isEmpty)
  | _ => none
theorem RpA.emp {vs : List V} {ds : List Dt} (h : RpA K F vs ds) : vs.isEmpty = ds.isEmpty := by cases h <;> rfl
def dTr (a : DE) : DTs := fun ρ Qd => a ρ fun ρ1 l => match dat ρ1 l with
  | some d => (match truD d with | some b => Qd ρ1 b | none => False)
  | none => False
theorem Rf.entD (h : Rf K TB B F ρ σ es H) {e : Lo × Option V} (m : e ∈ ens es ρ σ) {ds : List (Key × Dt)} (q : dat ρ e.1 = some (.dic ds)) : ∃ a vs, e.2 = some (.ref a) ∧ H a = some (.dK vs) ∧ RpK K F vs ds := by
  have base : ∀ (l : Lo) (o : Option V), (∀ j, l ≠ .al j) → Ok K F H ρ σ l o → dat ρ l = some (.dic ds) → ∃ a vs, o = some (.ref a) ∧ H a = some (.dK vs) ∧ RpK K F vs ds := fun l o n k q => by
    cases l with
    | sh d =>
      cases q
      obtain ⟨v, e, r⟩ := k
      cases r with
      | dic h1 h2 => exact ⟨_, _, e, h.sub _ _ h1, h2⟩
    | od d =>
      cases q
      obtain ⟨a, vs, e, h1, h2⟩ := k
      exact ⟨a, vs, e, h1, h2⟩
    | no => cases q
    | ow k => cases q
    | fd o w k => cases q
    | oi C p n k => cases q
    | src => cases q
    | tr t => cases q
    | sk t => cases q
    | al j => exact absurd rfl (n j)
  obtain ⟨l, o⟩ := e
  by_cases n : ∀ j, l ≠ .al j
  · exact base l o n (h.ok _ m) q
  · cases l with
    | al j =>
      obtain ⟨n1, v, e1, e2⟩ := h.ok _ m
      obtain ⟨o', f1, f2, f3⟩ := h.slot n1
      rw [e2] at f1
      cases f1
      have q' : dat ρ (gt ρ j) = some (.dic ds) := by
        have na := h.na _ (gt_mem n1)
        revert q na
        show (match gt ρ j with
          | .sh d => some d
          | .ow ds => some (.lst ds)
          | .od ds => some (.dic ds)
          | _ => none) = some (.dic ds) → _
        cases gt ρ j <;> intro q na <;> first | exact q | exact absurd rfl (na _)
      obtain ⟨a, vs, g1, g2⟩ := base _ _ (h.na _ (gt_mem n1)) f3 q'
      exact ⟨a, vs, e1.trans g1, g2⟩
    | _ => exact absurd (fun j z => nomatch z) n
/-- a pending value that is no list, no dict -/
theorem Rf.entO (h : Rf K TB B F ρ σ es H) {e : Lo × Option V} (m : e ∈ ens es ρ σ) {d : Dt} (q : dat ρ e.1 = some d) (n1 : ∀ ds, d ≠ .lst ds) (n2 : ∀ ds, d ≠ .dic ds) : ∃ v, e.2 = some v ∧ Rp K F v d := by
  obtain ⟨l, o⟩ := e
  cases l with
  | sh d' => cases q; exact h.entS m rfl
  | no => cases q
  | src => cases q
  | fd o w k => cases q
  | oi C p n k => cases q
  | tr t => cases q
  | sk t => cases q
  | ow k => cases q; exact absurd rfl (n1 _)
  | od ds => cases q; exact absurd rfl (n2 _)
  | al j =>
    obtain ⟨z1, v, e1, e2⟩ := h.ok _ m
    obtain ⟨o', f1, f2, f3⟩ := h.slot z1
    rw [e2] at f1
    cases f1
    have q1 : (match gt ρ j with
          | .sh d => some d
          | .ow ds => some (.lst ds)
          | .od ds => some (.dic ds)
          | _ => none) = some d := q
    revert q1 f3
    cases gt ρ j <;> intro f3 q1
    · cases q1
    · cases q1; obtain ⟨u, y1, y2⟩ := f3; exact ⟨u, e1.trans y1, y2⟩
    · cases q1; exact absurd rfl (n1 _)
    · cases q1; exact absurd rfl (n2 _)
    · cases q1
    · cases q1
    · cases q1
    · cases q1
    · cases q1
    · cases q1
theorem lt_Tr {ta : TE} {a : DE} (ha : LE K TB ta a) : LT K TB (fun σ H Q => ta σ H fun x H' => ∃ k, TruV K x H' k ∧ Q k H') (dTr a) := fun B ρ σ es H Q Qd r h k => ha B ρ σ es H _ _ r h fun ρ1 l v H1 ⟨F, r1⟩ q => by
  split at q
  · rename_i d hd
    split at q
    · rename_i b hb
      refine ⟨b, ?_, k _ _ _ ⟨F, r1.pop⟩ q⟩
      cases d with
      | lst ds =>
        obtain ⟨a, vs, e, h1, h2⟩ := r1.entL List.mem_cons_self hd
        cases e
        cases hb
        exact .inl ⟨vs, .inl (.inl h1), by rw [h2.emp]⟩
      | dic ds =>
        obtain ⟨a, vs, e, h1, h2⟩ := r1.entD List.mem_cons_self hd
        cases e
        cases hb
        refine .inr (.inr ⟨_, h1, ?_⟩)
        cases h2 <;> rfl
      | bl b => obtain ⟨u, e, r⟩ := r1.entO List.mem_cons_self hd (fun _ z => nomatch z) (fun _ z => nomatch z); cases e; cases r; cases hb; exact rfl
      | int b => obtain ⟨u, e, r⟩ := r1.entO List.mem_cons_self hd (fun _ z => nomatch z) (fun _ z => nomatch z); cases e; cases r; cases hb; exact rfl
      | non => obtain ⟨u, e, r⟩ := r1.entO List.mem_cons_self hd (fun _ z => nomatch z) (fun _ z => nomatch z); cases e; cases r; cases hb; exact rfl
      | tup ds =>
        obtain ⟨u, e, r⟩ := r1.entO List.mem_cons_self hd (fun _ z => nomatch z) (fun _ z => nomatch z)
        cases e
        cases r with
        | tup h1 h2 =>
          cases hb
          exact .inr (.inl ⟨_, SqU.at h1 r1.sub, by rw [h2.emp]⟩)
      | str s => cases hb
      | ty s => cases hb
      | cls s => cases hb
      | scr s => cases hb
      | ins _ _ _ => cases hb
    · exact q.elim
  · exact q.elim
/-- c and d, c or d: d is known, whatever c is -/
def dAnd (a b : DTs) : DTs := fun ρ Qd => a ρ fun ρ1 c => ∃ d, (c = true → b ρ1 fun ρ2 c2 => ρ2 = ρ1 ∧ c2 = d) ∧ Qd ρ1 (c && d)
def dOr (a b : DTs) : DTs := fun ρ Qd => a ρ fun ρ1 c => ∃ d, (c = false → b ρ1 fun ρ2 c2 => ρ2 = ρ1 ∧ c2 = d) ∧ Qd ρ1 (c || d)
def dNot (a : DTs) : DTs := fun ρ Qd => a ρ fun ρ1 c => Qd ρ1 (!c)
theorem lt_and {ta tb : TT} {a b : DTs} (ha : LT K TB ta a) (hb : LT K TB tb b) : LT K TB (tAnd ta tb) (dAnd a b) := fun B ρ σ es H Q Qd r h k => ha B ρ σ es H _ _ r h fun ρ1 c H1 r1 ⟨d, h1, q⟩ => by
  cases c with
  | true => exact iteT (hb B ρ1 σ es H1 _ _ r1 (h1 rfl) fun ρ2 c2 H2 r2 ⟨e1, e2⟩ => by
      subst e1
      subst e2
      exact k _ _ _ r2 q)
  | false => exact iteF (k _ _ _ r1 q)
theorem lt_or {ta tb : TT} {a b : DTs} (ha : LT K TB ta a) (hb : LT K TB tb b) : LT K TB (tOr ta tb) (dOr a b) := fun B ρ σ es H Q Qd r h k => ha B ρ σ es H _ _ r h fun ρ1 c H1 r1 ⟨d, h1, q⟩ => by
  cases c with
  | true => exact iteT (k _ _ _ r1 q)
  | false => exact iteF (hb B ρ1 σ es H1 _ _ r1 (h1 rfl) fun ρ2 c2 H2 r2 ⟨e1, e2⟩ => by
      subst e1
      subst e2
      exact k _ _ _ r2 q)
theorem lt_not {ta : TT} {a : DTs} (ha : LT K TB ta a) : LT K TB (tNot ta) (dNot a) := fun B ρ σ es H Q Qd r h k => ha B ρ σ es H _ _ r h fun ρ1 c H1 r1 q => k _ _ _ r1 q
/-- the same where the second may draw -/
def dAndB (a b : DTs) : DTs := fun ρ Qd => a ρ fun ρ1 c => (c = true → b ρ1 Qd) ∧ (c = false → Qd ρ1 false)
def dOrB (a b : DTs) : DTs := fun ρ Qd => a ρ fun ρ1 c => (c = true → Qd ρ1 true) ∧ (c = false → b ρ1 Qd)
theorem lt_andB {ta tb : TT} {a b : DTs} (ha : LT K TB ta a) (hb : LT K TB tb b) : LT K TB (tAnd ta tb) (dAndB a b) := fun B ρ σ es H Q Qd r h k => ha B ρ σ es H _ _ r h fun ρ1 c H1 r1 q => by
  cases c with
  | true => exact iteT (hb B ρ1 σ es H1 _ _ r1 (q.1 rfl) k)
  | false => exact iteF (k _ _ _ r1 (q.2 rfl))
theorem lt_orB {ta tb : TT} {a b : DTs} (ha : LT K TB ta a) (hb : LT K TB tb b) : LT K TB (tOr ta tb) (dOrB a b) := fun B ρ σ es H Q Qd r h k => ha B ρ σ es H _ _ r h fun ρ1 c H1 r1 q => by
  cases c with
  | true => exact iteT (k _ _ _ r1 (q.1 rfl))
  | false => exact iteF (hb B ρ1 σ es H1 _ _ r1 (q.2 rfl) k)
/-- as values -/
def eAnd (a b : DE) : DE := fun ρ Qd => a ρ fun ρ1 l => match l with
  | .sh (.bl c) => ∃ d, (c = true → b ρ1 fun ρ2 l2 => ρ2 = ρ1 ∧ l2 = .sh (.bl d)) ∧ Qd ρ1 (.sh (.bl (c && d)))
  | _ => False
def eOr (a b : DE) : DE := fun ρ Qd => a ρ fun ρ1 l => match l with
  | .sh (.bl c) => ∃ d, (c = false → b ρ1 fun ρ2 l2 => ρ2 = ρ1 ∧ l2 = .sh (.bl d)) ∧ Qd ρ1 (.sh (.bl (c || d)))
  | _ => False
def eNot (a : DE) : DE := fun ρ Qd => a ρ fun ρ1 l => match l with
  | .sh (.bl c) => Qd ρ1 (.sh (.bl (!c)))
  | _ => False
theorem blM {l : Lo} {P : Bool → Prop} (q : match l with | .sh (.bl c) => P c | _ => False) : ∃ c, l = .sh (.bl c) ∧ P c := by
  cases l with
  | sh d => cases d with
    | bl c => exact ⟨c, rfl, q⟩
    | _ => exact q.elim
  | _ => exact q.elim
theorem intM2 {l l' : Lo} {P : Int → Int → Prop} (q : match l, l' with | .sh (.int i), .sh (.int j) => P i j | _, _ => False) : ∃ i j, l = .sh (.int i) ∧ l' = .sh (.int j) ∧ P i j := by
  split at q
  · exact ⟨_, _, rfl, rfl, q⟩
  · exact q.elim
theorem le_andV {ta tb : TE} {a b : DE} (ha : LE K TB ta a) (hb : LE K TB tb b) : LE K TB (tAndV ta tb) (eAnd a b) := fun B ρ σ es H Q Qd r h k => ha B ρ σ es H _ _ r h fun ρ1 l v H1 ⟨F, r1⟩ q => by
  obtain ⟨c, rfl, d, h1, q⟩ := blM q
  obtain rfl := r1.blP
  cases c with
  | true => exact ⟨true, rfl, iteT (hb B ρ1 σ es H1 _ _ ⟨F, r1.pop⟩ (h1 rfl) fun ρ2 l2 v2 H2 r2 ⟨e1, e2⟩ => by
      subst e1
      subst e2
      exact k _ _ _ _ r2 q)⟩
  | false => exact ⟨false, rfl, iteF (k _ _ _ _ ⟨F, r1.pop.pushS (.bl false)⟩ q)⟩
theorem le_orV {ta tb : TE} {a b : DE} (ha : LE K TB ta a) (hb : LE K TB tb b) : LE K TB (tOrV ta tb) (eOr a b) := fun B ρ σ es H Q Qd r h k => ha B ρ σ es H _ _ r h fun ρ1 l v H1 ⟨F, r1⟩ q => by
  obtain ⟨c, rfl, d, h1, q⟩ := blM q
  obtain rfl := r1.blP
  cases c with
  | true => exact ⟨true, rfl, iteT (k _ _ _ _ ⟨F, r1.pop.pushS (.bl true)⟩ q)⟩
  | false => exact ⟨false, rfl, iteF (hb B ρ1 σ es H1 _ _ ⟨F, r1.pop⟩ (h1 rfl) fun ρ2 l2 v2 H2 r2 ⟨e1, e2⟩ => by
      subst e1
      subst e2
      exact k _ _ _ _ r2 q)⟩
theorem le_notV {ta : TE} {a : DE} (ha : LE K TB ta a) : LE K TB (tNotV ta) (eNot a) := fun B ρ σ es H Q Qd r h k => ha B ρ σ es H _ _ r h fun ρ1 l v H1 ⟨F, r1⟩ q => by
  split at q
  · obtain rfl := r1.blP
    exact ⟨_, rfl, k _ _ _ _ ⟨F, r1.pop.pushS (.bl _)⟩ q⟩
  · exact q.elim
def eIf (c : DTs) (a b : DE) : DE := fun ρ Qd => c ρ fun ρ1 x => (x = true → a ρ1 Qd) ∧ (x = false → b ρ1 Qd)
theorem le_if {c : TT} {ta tb : TE} {dc : DTs} {a b : DE} (h0 : LT K TB c dc) (ha : LE K TB ta a) (hb : LE K TB tb b) : LE K TB (tIf c ta tb) (eIf dc a b) := fun B ρ σ es H Q Qd r h k => h0 B ρ σ es H _ _ r h fun ρ1 x H1 r1 q => by
  cases x with
  | true => exact iteT (ha B ρ1 σ es H1 _ _ r1 (q.1 rfl) k)
  | false => exact iteF (hb B ρ1 σ es H1 _ _ r1 (q.2 rfl) k)
/-- low <= x <= high -/
def eChain (g g' : Int → Int → Bool) (a b c : DE) : DE := fun ρ Qd => a ρ fun ρ1 l1 => b ρ1 fun ρ2 l2 => match l1, l2 with
  | .sh (.int i), .sh (.int j) => ∃ d, (g i j = true → c ρ2 fun ρ3 l3 => ρ3 = ρ2 ∧ ∃ k, l3 = .sh (.int k) ∧ g' j k = d) ∧ Qd ρ2 (.sh (.bl (g i j && d)))
  | _, _ => False
theorem le_chain {g g' : Int → Int → Bool} {ta tb tc : TE} {a b c : DE} (ha : LE K TB ta a) (hb : LE K TB tb b) (hc : LE K TB tc c) : LE K TB (tChain (rI0 fun i j => .bl (g i j)) (rI0 fun i j => .bl (g' i j)) ta tb tc) (eChain g g' a b c) := fun B ρ σ es H Q Qd r h k =>
  ha B ρ σ es H _ _ r h fun ρ1 l1 v1 H1 r1 q1 => hb B ρ1 σ _ H1 _ _ r1 q1 fun ρ2 l2 v2 H2 ⟨F, r2⟩ q2 => by
    obtain ⟨i, j, rfl, rfl, q2⟩ := intM2 q2
    obtain rfl := r2.intP
    obtain rfl := r2.pop.intP
    obtain ⟨d, h1, q⟩ := q2
    refine ⟨i, j, rfl, rfl, g i j, rfl, ?_⟩
    cases e : g i j with
    | true =>
      rw [e] at q
      refine iteT (hc B ρ2 σ _ H2 _ _ ⟨F, r2⟩ (h1 e) fun ρ3 l3 v3 H3 ⟨F3, r3⟩ ⟨e1, z, e2, e3⟩ => ?_)
      subst e1
      subst e2
      obtain rfl := r3.intP
      refine ⟨j, z, rfl, rfl, ?_⟩
      show Q (.bl (g' j z)) H3
      rw [e3]
      exact k _ _ _ _ ⟨F3, r3.pop.pop.pop.pushS (.bl _)⟩ q
    | false =>
      rw [e] at q
      exact iteF (k _ _ _ _ ⟨F, r2.pop.pop.pushS (.bl false)⟩ q)
end

section
variable {K : PySem.W.Frag} {TB : Tbs} {B : Bs} {F : Hp} {ρ : Ev} {σ : St} {es : Ps} {H : Hp}
/-! ### lists and tuples as values -/
def seqD : Dt → Option (List Dt)
  | .lst ds => some ds
  | .tup ds => some ds
  | _ => none
def seqL (ρ : Ev) (l : Lo) : Option (List Dt) := match dat ρ l with
  | some d => seqD d
  | none => none
theorem Rf.entQ (h : Rf K TB B F ρ σ es H) {e : Lo × Option V} (m : e ∈ ens es ρ σ) {ds : List Dt} (q : seqL ρ e.1 = some ds) : ∃ a vs, e.2 = some (.ref a) ∧ (SqL K H a vs ∨ SqT K H a vs) ∧ RpA K F vs ds := by
  unfold seqL at q
  split at q
  · rename_i d hd
    cases d with
    | lst xs =>
      cases q
      obtain ⟨a, vs, e, h1, h2⟩ := h.entL m hd
      exact ⟨a, vs, e, .inl (.inl (.inl h1)), h2⟩
    | tup xs =>
      cases q
      obtain ⟨u, e, r⟩ := h.entO m hd (fun _ z => nomatch z) (fun _ z => nomatch z)
      cases r with
      | tup h1 h2 => exact ⟨_, _, e, .inr (SqU.at h1 h.sub), h2⟩
    | _ => cases q
  · cases q
theorem Rf.entT (h : Rf K TB B F ρ σ es H) {e : Lo × Option V} (m : e ∈ ens es ρ σ) {ds : List Dt} (q : dat ρ e.1 = some (.tup ds)) : ∃ a vs, e.2 = some (.ref a) ∧ SqT K H a vs ∧ RpA K F vs ds := by
  obtain ⟨u, e, r⟩ := h.entO m q (fun _ z => nomatch z) (fun _ z => nomatch z)
  cases r with
  | tup h1 h2 => exact ⟨_, _, e, SqU.at h1 h.sub, h2⟩
theorem atI_map {vs : List V} {ds : List Dt} {i : Int} {d : Dt} (r : RpA K F vs ds) (h : atI ds i = some d) : ∃ v, atI vs i = some v ∧ Rp K F v d := by
  unfold atI at h ⊢
  rw [r.len]
  cases e : ixN ds.length i with
  | none => rw [e] at h; cases h
  | some j => rw [e] at h; exact r.get h
/-- x[i] of a list; of a tuple -/
def eIx (a b : DE) : DE := fun ρ Qd => a ρ fun ρ1 l1 => b ρ1 fun ρ2 l2 => match dat ρ2 l1, l2 with
  | some (.lst ds), .sh (.int i) => ∃ d, atI ds i = some d ∧ Qd ρ2 (.sh d)
  | some (.tup ds), .sh (.int i) => ∃ d, atI ds i = some d ∧ Qd ρ2 (.sh d)
  | _, _ => False
def eIxL (a b : DE) : DE := fun ρ Qd => a ρ fun ρ1 l1 => b ρ1 fun ρ2 l2 => match dat ρ2 l1, l2 with
  | some (.lst ds), .sh (.int i) => ∃ d, atI ds i = some d ∧ Qd ρ2 (.sh d)
  | _, _ => False
def eIxT (a b : DE) : DE := fun ρ Qd => a ρ fun ρ1 l1 => b ρ1 fun ρ2 l2 => match dat ρ2 l1, l2 with
  | some (.tup ds), .sh (.int i) => ∃ d, atI ds i = some d ∧ Qd ρ2 (.sh d)
  | _, _ => False
theorem snd_mem {α : Type} {x y : α} {l : List α} : y ∈ x :: y :: l := List.mem_cons_of_mem _ List.mem_cons_self
theorem le_ixL {ta tb : TE} {a b : DE} (ha : LE K TB ta a) (hb : LE K TB tb b) : LE K TB (tOp (rIxL K) ta tb) (eIxL a b) := fun B ρ σ es H Q Qd r h k =>
  ha B ρ σ es H _ _ r h fun ρ1 l1 v1 H1 r1 q1 => hb B ρ1 σ _ H1 _ _ r1 q1 fun ρ2 l2 v2 H2 ⟨F, r2⟩ q2 => by
    split at q2
    · rename_i hd _
      obtain ⟨d, h1, q⟩ := q2
      obtain ⟨p, vs, e, hl, rr⟩ := r2.entL snd_mem hd
      obtain rfl := r2.intP
      cases Option.some.inj e
      obtain ⟨v, g1, g2⟩ := atI_map rr h1
      exact ⟨_, _, _, v, rfl, rfl, .inl (.inl hl), g1, k _ _ _ _ ⟨F, r2.pop.pop.pushS g2⟩ q⟩
    · exact q2.elim
theorem le_ixT {ta tb : TE} {a b : DE} (ha : LE K TB ta a) (hb : LE K TB tb b) : LE K TB (tOp (rIxT K) ta tb) (eIxT a b) := fun B ρ σ es H Q Qd r h k =>
  ha B ρ σ es H _ _ r h fun ρ1 l1 v1 H1 r1 q1 => hb B ρ1 σ _ H1 _ _ r1 q1 fun ρ2 l2 v2 H2 ⟨F, r2⟩ q2 => by
    split at q2
    · rename_i hd _
      obtain ⟨d, h1, q⟩ := q2
      obtain ⟨p, vs, e, hl, rr⟩ := r2.entT snd_mem hd
      obtain rfl := r2.intP
      cases Option.some.inj e
      obtain ⟨v, g1, g2⟩ := atI_map rr h1
      exact ⟨_, _, _, v, rfl, rfl, hl, g1, k _ _ _ _ ⟨F, r2.pop.pop.pushS g2⟩ q⟩
    · exact q2.elim
/-! ### arguments -/
def aNil : DA := fun ρ Qd => Qd ρ []
def aCons (a : DE) (r : DA) : DA := fun ρ Qd => a ρ fun ρ1 l => r ρ1 fun ρ2 ls => Qd ρ2 (nrm l :: ls)
theorem la_nil : LA K TB tNil aNil := fun _ _ _ _ _ _ _ r h k => k _ [] [] _ rfl r h
theorem la_cons {ta : TE} {tr : TA} {a : DE} {r : DA} (ha : LE K TB ta a) (hr : LA K TB tr r) : LA K TB (tCons ta tr) (aCons a r) := fun B ρ σ es H Q Qd z h k =>
  ha B ρ σ es H _ _ z h fun ρ1 l v H1 z1 q => hr B ρ1 σ _ H1 _ _ (R.nrm z1) q fun ρ2 ls vs H2 n z2 q2 => k ρ2 (nrm l :: ls) (v :: vs) H2 (congrArg (· + 1) n) (by
    show R K TB B ρ2 σ ((((nrm l, v) :: ls.zip vs)).reverse ++ es) H2
    rw [List.reverse_cons, List.append_assoc]
    exact z2) q2
def shs : List Lo → Option (List Dt)
  | [] => some []
  | .sh d :: ls => (match shs ls with | some ds => some (d :: ds) | none => none)
  | _ :: _ => none
theorem Rf.shs (h : Rf K TB B F ρ σ es H) : ∀ {ls : List Lo} {vs : List V} {ds : List Dt}, ls.length = vs.length → (∀ e, e ∈ ls.zip vs → e ∈ es) → Df.shs ls = some ds → RpA K F vs ds
  | [], [], ds, _, _, q => by cases q; exact .nil
  | [], _ :: _, _, n, _, _ => by simp at n
  | _ :: _, [], _, n, _, _ => by simp at n
  | .sh d :: ls, v :: vs, ds, n, m, q => by
    unfold Df.shs at q
    split at q
    · rename_i ds' e
      cases q
      have := h.ok (.sh d, some v) (List.mem_append_left _ (List.mem_map.mpr ⟨(.sh d, v), m _ List.mem_cons_self, rfl⟩))
      obtain ⟨u, e1, r⟩ := this
      cases e1
      exact .cons r (Rf.shs h (by simpa using n) (fun e x => m e (List.mem_cons_of_mem _ x)) e)
    · cases q
  | .no :: _, _ :: _, _, _, _, q => by cases q
  | .ow _ :: _, _ :: _, _, _, _, q => by cases q
  | .od _ :: _, _ :: _, _, _, _, q => by cases q
  | .fd _ _ _ :: _, _ :: _, _, _, _, q => by cases q
  | .oi _ _ _ _ :: _, _ :: _, _, _, _, q => by cases q
  | .src :: _, _ :: _, _, _, _, q => by cases q
  | .al _ :: _, _ :: _, _, _, _, q => by cases q
def eTup (a : DA) : DE := fun ρ Qd => a ρ fun ρ1 ls => match shs ls with
  | some ds => ds.length ≤ 100000 ∧ Qd ρ1 (.sh (.tup ds))
  | none => False
def eLst (a : DA) : DE := fun ρ Qd => a ρ fun ρ1 ls => match shs ls with
  | some ds => ds.length ≤ 100000 ∧ Qd ρ1 (.ow ds)
  | none => False
theorem le_tup {ta : TA} {a : DA} (ha : LA K TB ta a) : LE K TB (tTup ta) (eTup a) := fun B ρ σ es H Q Qd r h k => ha B ρ σ es H _ _ r h fun ρ1 ls vs H1 n ⟨F, r1⟩ q => by
  split at q
  · rename_i ds e
    have rr := r1.shs n (fun e m => List.mem_append_left _ (List.mem_reverse.mpr m)) e
    exact ⟨small6' (by rw [rr.len]; exact q.1), fun p hp => k _ _ _ _ ⟨_, r1.app.newTup rr hp⟩ q.2⟩
  · exact q.elim
theorem le_lst {ta : TA} {a : DA} (ha : LA K TB ta a) : LE K TB (tLst ta) (eLst a) := fun B ρ σ es H Q Qd r h k => ha B ρ σ es H _ _ r h fun ρ1 ls vs H1 n ⟨F, r1⟩ q => by
  split at q
  · rename_i ds e
    have rr := r1.shs n (fun e m => List.mem_append_left _ (List.mem_reverse.mpr m)) e
    exact ⟨small6' (by rw [rr.len]; exact q.1), fun p hp => k _ _ _ _ ⟨_, r1.app.newLst rr hp⟩ q.2⟩
  · exact q.elim
/-! ### built-ins -/
def one (ls : List Lo) (P : Lo → Prop) : Prop := match ls with
  | [l] => P l
  | _ => False
def two (ls : List Lo) (P : Lo → Lo → Prop) : Prop := match ls with
  | [l, m] => P l m
  | _ => False
theorem one_l {ls : List Lo} {vs : List V} {P : Lo → Prop} (n : ls.length = vs.length) (q : one ls P) : ∃ l v, ls = [l] ∧ vs = [v] ∧ P l := by
  cases ls with
  | nil => exact q.elim
  | cons l t => cases t with
    | nil =>
      cases vs with
      | nil => simp at n
      | cons v vs => cases vs with
        | nil => exact ⟨l, v, rfl, rfl, q⟩
        | cons _ _ => simp at n
    | cons _ _ => exact q.elim
theorem two_l {ls : List Lo} {vs : List V} {P : Lo → Lo → Prop} (n : ls.length = vs.length) (q : two ls P) : ∃ l m v w, ls = [l, m] ∧ vs = [v, w] ∧ P l m := by
  cases ls with
  | nil => exact q.elim
  | cons l t => cases t with
    | nil => exact q.elim
    | cons m t => cases t with
      | cons _ _ => exact q.elim
      | nil =>
        match vs, n with
        | [v, w], _ => exact ⟨l, m, v, w, rfl, rfl, q⟩
theorem mem_hd {e : Lo × V} {es : Ps} : ((e.1, some e.2) : Lo × Option V) ∈ ens (e :: es) ρ σ := List.mem_cons_self
def eLen (a : DA) : DE := fun ρ Qd => a ρ fun ρ1 ls => one ls fun l => (match seqL ρ1 l with | some ds => Qd ρ1 (.sh (.int (ds.length : Nat))) | none => False)
theorem le_len {ta : TA} {a : DA} (ha : LA K TB ta a) : LE K TB (tCB (fun xs H Q => ∃ p ys, xs = [.ref p] ∧ (SqL K H p ys ∨ SqT K H p ys) ∧ Q (.int ys.length) H) ta) (eLen a) := fun B ρ σ es H Q Qd r h k => ha B ρ σ es H _ _ r h fun ρ1 ls vs H1 n ⟨F, r1⟩ q => by
  obtain ⟨l, v, rfl, rfl, q⟩ := one_l n q
  split at q
  · rename_i ds e
    obtain ⟨p, ws, e1, e2, rr⟩ := r1.entQ mem_hd e
    cases Option.some.inj e1
    exact ⟨p, ws, rfl, e2, k _ _ _ _ ⟨F, r1.pop.pushS (by rw [rr.len]; exact .int _)⟩ q⟩
  · exact q.elim
def eInts (f : List Int → Dt → Prop) (a : DA) : DE := fun ρ Qd => a ρ fun ρ1 ls => (∃ is : List Int, shs ls = some (is.map Dt.int) ∧ ∀ d, f is d → Qd ρ1 (.sh d))
theorem RpA.ints : ∀ {vs : List V} {is : List Int}, RpA K F vs (is.map Dt.int) → vs = is.map V.int
  | [], [], _ => rfl
  | _, _ :: _, .cons r t => by cases r; exact congrArg (_ :: ·) (RpA.ints t)
theorem RpA.bls : ∀ {vs : List V} {is : List Bool}, RpA K F vs (is.map Dt.bl) → vs = is.map V.bl
  | [], [], _ => rfl
  | _, _ :: _, .cons r t => by cases r; exact congrArg (_ :: ·) (RpA.bls t)
theorem Rf.intsA {ls : List Lo} {vs : List V} {is : List Int} (h : Rf K TB B F ρ σ ((ls.zip vs).reverse ++ es) H) (n : ls.length = vs.length) (e : Df.shs ls = some (is.map Dt.int)) : vs = is.map V.int :=
  (h.shs n (fun e m => List.mem_append_left _ (List.mem_reverse.mpr m)) e).ints
def eI1 (g : Int → Int) (a : DA) : DE := fun ρ Qd => a ρ fun ρ1 ls => match ls with
  | [.sh (.int i)] => Qd ρ1 (.sh (.int (g i)))
  | _ => False
def eI2 (g : Int → Int → Int) (a : DA) : DE := fun ρ Qd => a ρ fun ρ1 ls => match ls with
  | [.sh (.int i), .sh (.int j)] => Qd ρ1 (.sh (.int (g i j)))
  | _ => False
theorem le_i1 {g : Int → Int} {ta : TA} {a : DA} (ha : LA K TB ta a) : LE K TB (tCB (fun xs H Q => ∃ i, xs = [.int i] ∧ Q (.int (g i)) H) ta) (eI1 g a) := fun B ρ σ es H Q Qd r h k => ha B ρ σ es H _ _ r h fun ρ1 ls vs H1 n ⟨F, r1⟩ q => by
  split at q
  · rename_i i _
    have e := r1.intsA (is := [i]) n rfl
    subst e
    exact ⟨i, rfl, k _ _ _ _ ⟨F, r1.app.pushS (.int _)⟩ q⟩
  · exact q.elim
theorem le_abs {ta : TA} {a : DA} (ha : LA K TB ta a) : LE K TB (tCB (fun xs H Q => ∃ i, xs = [.int i] ∧ Q (.int (if i < 0 then -i else i)) H) ta) (eI1 (fun i => if i < 0 then -i else i) a) := le_i1 ha
theorem le_i2 {g : Int → Int → Int} {ta : TA} {a : DA} (ha : LA K TB ta a) : LE K TB (tCB (fun xs H Q => ∃ i j, xs = [.int i, .int j] ∧ Q (.int (g i j)) H) ta) (eI2 g a) := fun B ρ σ es H Q Qd r h k => ha B ρ σ es H _ _ r h fun ρ1 ls vs H1 n ⟨F, r1⟩ q => by
  split at q
  · rename_i i j _
    have e := r1.intsA (is := [i, j]) n rfl
    subst e
    exact ⟨i, j, rfl, k _ _ _ _ ⟨F, r1.app.pushS (.int _)⟩ q⟩
  · exact q.elim
theorem le_max2 {ta : TA} {a : DA} (ha : LA K TB ta a) : LE K TB (tCB (fun xs H Q => ∃ i j, xs = [.int i, .int j] ∧ Q (.int (if j > i then j else i)) H) ta) (eI2 (fun i j => if j > i then j else i) a) := le_i2 ha
theorem le_min2 {ta : TA} {a : DA} (ha : LA K TB ta a) : LE K TB (tCB (fun xs H Q => ∃ i j, xs = [.int i, .int j] ∧ Q (.int (if j < i then j else i)) H) ta) (eI2 (fun i j => if j < i then j else i) a) := le_i2 ha
def eInt (a : DA) : DE := fun ρ Qd => a ρ fun ρ1 ls => match ls with
  | [.sh (.int i)] => Qd ρ1 (.sh (.int i))
  | [.sh (.bl b)] => Qd ρ1 (.sh (.int (if b then 1 else 0)))
  | _ => False
theorem le_intF {ta : TA} {a : DA} (ha : LA K TB ta a) : LE K TB (tCB (fun xs H Q => (∃ i, xs = [.int i] ∧ Q (.int i) H) ∨ ∃ k, xs = [.bl k] ∧ Q (.int (if k then 1 else 0)) H) ta) (eInt a) := fun B ρ σ es H Q Qd r h k => ha B ρ σ es H _ _ r h fun ρ1 ls vs H1 n ⟨F, r1⟩ q => by
  split at q
  · rename_i i _
    have e := r1.intsA (is := [i]) n rfl
    subst e
    exact .inl ⟨i, rfl, k _ _ _ _ ⟨F, r1.app.pushS (.int _)⟩ q⟩
  · rename_i b _
    have e := (r1.shs n (fun e m => List.mem_append_left _ (List.mem_reverse.mpr m)) (show Df.shs [.sh (.bl b)] = some ([b].map Dt.bl) from rfl)).bls
    subst e
    exact .inr ⟨b, rfl, k _ _ _ _ ⟨F, r1.app.pushS (.int _)⟩ q⟩
  · exact q.elim
def eList (a : DA) : DE := fun ρ Qd => a ρ fun ρ1 ls => one ls fun l => (match seqL ρ1 l with | some ds => Qd ρ1 (.ow ds) | none => False)
theorem le_list {ta : TA} {a : DA} (ha : LA K TB ta a) : LE K TB (tCB (fun xs H Q => ∃ p ys, xs = [.ref p] ∧ (SqL K H p ys ∨ SqT K H p ys) ∧ ∀ l, H l = none → Q (.ref l) (upd H l (.lst ys))) ta) (eList a) := fun B ρ σ es H Q Qd r h k => ha B ρ σ es H _ _ r h fun ρ1 ls vs H1 n ⟨F, r1⟩ q => by
  obtain ⟨l, v, rfl, rfl, q⟩ := one_l n q
  split at q
  · rename_i ds e
    obtain ⟨p, ws, e1, e2, rr⟩ := r1.entQ mem_hd e
    cases Option.some.inj e1
    exact ⟨p, ws, rfl, e2, fun l hl => k _ _ _ _ ⟨F, r1.pop.newLst rr hl⟩ q⟩
  · exact q.elim
def eTuple (a : DA) : DE := fun ρ Qd => a ρ fun ρ1 ls => one ls fun l => (match seqL ρ1 l with | some ds => Qd ρ1 (.sh (.tup ds)) | none => False)
theorem le_tuple {ta : TA} {a : DA} (ha : LA K TB ta a) : LE K TB (tCB (fun xs H Q => ∃ p ys, xs = [.ref p] ∧ ((SqL K H p ys ∧ ∀ l, H l = none → Q (.ref l) (upd H l (.tup ys))) ∨ (SqT K H p ys ∧ Q (.ref p) H))) ta) (eTuple a) := fun B ρ σ es H Q Qd r h k => ha B ρ σ es H _ _ r h fun ρ1 ls vs H1 n ⟨F, r1⟩ q => by
  obtain ⟨l, v, rfl, rfl, q⟩ := one_l n q
  split at q
  · rename_i ds e
    unfold seqL at e
    split at e
    · rename_i d hd
      cases d with
      | lst xs =>
        cases e
        obtain ⟨p, ws, e1, e2, rr⟩ := r1.entL mem_hd hd
        cases Option.some.inj e1
        exact ⟨p, ws, rfl, .inl ⟨.inl (.inl e2), fun l hl => k _ _ _ _ ⟨_, r1.pop.newTup rr hl⟩ q⟩⟩
      | tup xs =>
        cases e
        obtain ⟨u, e1, rr⟩ := r1.entO mem_hd hd (fun _ z => nomatch z) (fun _ z => nomatch z)
        cases Option.some.inj e1
        cases rr with
        | tup h1 h2 => exact ⟨_, _, rfl, .inr ⟨SqU.at h1 r1.sub, k _ _ _ _ ⟨F, r1.pop.pushS (.tup h1 h2)⟩ q⟩⟩
      | _ => cases e
    · cases e
  · exact q.elim
/-- sum, least, greatest of a list of whole numbers -/
def eSum (a : DA) : DE := fun ρ Qd => a ρ fun ρ1 ls => one ls fun l => ∃ is : List Int, dat ρ1 l = some (.lst (is.map Dt.int)) ∧ Qd ρ1 (.sh (.int is.sum))
theorem le_sum {ta : TA} {a : DA} (ha : LA K TB ta a) : LE K TB (tCB (rSum K) ta) (eSum a) := fun B ρ σ es H Q Qd r h k => ha B ρ σ es H _ _ r h fun ρ1 ls vs H1 n ⟨F, r1⟩ q => by
  obtain ⟨l, v, rfl, rfl, ⟨is, e, q⟩⟩ := one_l n q
  obtain ⟨p, ws, e1, e2, rr⟩ := r1.entL mem_hd e
  cases Option.some.inj e1
  exact ⟨p, is, rfl, .inl (.inl (by rw [← rr.ints]; exact e2)), k _ _ _ _ ⟨F, r1.pop.pushS (.int _)⟩ q⟩
def eMaxL (a : DA) : DE := fun ρ Qd => a ρ fun ρ1 ls => one ls fun l => ∃ is : List Int, dat ρ1 l = some (.lst (is.map Dt.int)) ∧ 0 < is.length ∧ ∀ m, m ∈ is → (∀ y, y ∈ is → y ≤ m) → Qd ρ1 (.sh (.int m))
theorem le_maxL {ta : TA} {a : DA} (ha : LA K TB ta a) : LE K TB (tCB (rMax K) ta) (eMaxL a) := fun B ρ σ es H Q Qd r h k => ha B ρ σ es H _ _ r h fun ρ1 ls vs H1 n ⟨F, r1⟩ q => by
  obtain ⟨l, v, rfl, rfl, ⟨is, e, q0, q⟩⟩ := one_l n q
  obtain ⟨p, ws, e1, e2, rr⟩ := r1.entL mem_hd e
  cases Option.some.inj e1
  exact ⟨p, is, rfl, .inl (.inl (by rw [← rr.ints]; exact e2)), q0, fun m h1 h2 => k _ _ _ _ ⟨F, r1.pop.pushS (.int _)⟩ (q m h1 h2)⟩
def eMinL (a : DA) : DE := fun ρ Qd => a ρ fun ρ1 ls => one ls fun l => ∃ is : List Int, dat ρ1 l = some (.lst (is.map Dt.int)) ∧ 0 < is.length ∧ ∀ m, m ∈ is → (∀ y, y ∈ is → m ≤ y) → Qd ρ1 (.sh (.int m))
theorem le_minL {ta : TA} {a : DA} (ha : LA K TB ta a) : LE K TB (tCB (rMin K) ta) (eMinL a) := fun B ρ σ es H Q Qd r h k => ha B ρ σ es H _ _ r h fun ρ1 ls vs H1 n ⟨F, r1⟩ q => by
  obtain ⟨l, v, rfl, rfl, ⟨is, e, q0, q⟩⟩ := one_l n q
  obtain ⟨p, ws, e1, e2, rr⟩ := r1.entL mem_hd e
  cases Option.some.inj e1
  exact ⟨p, is, rfl, .inl (.inl (by rw [← rr.ints]; exact e2)), q0, fun m h1 h2 => k _ _ _ _ ⟨F, r1.pop.pushS (.int _)⟩ (q m h1 h2)⟩
/-! ### + of lists, of tuples; slices -/
def eCat (a b : DE) : DE := fun ρ Qd => a ρ fun ρ1 l1 => b ρ1 fun ρ2 l2 => match dat ρ2 l1, dat ρ2 l2 with
  | some (.lst ds), some (.lst fs) => ds.length + fs.length ≤ 100000 ∧ Qd ρ2 (.ow (ds ++ fs))
  | _, _ => False
theorem le_cat {ta tb : TE} {a b : DE} (ha : LE K TB ta a) (hb : LE K TB tb b) : LE K TB (tOp rCat ta tb) (eCat a b) := fun B ρ σ es H Q Qd r h k =>
  ha B ρ σ es H _ _ r h fun ρ1 l1 v1 H1 r1 q1 => hb B ρ1 σ _ H1 _ _ r1 q1 fun ρ2 l2 v2 H2 ⟨F, r2⟩ q2 => by
    split at q2
    · rename_i hd he
      obtain ⟨p, vs, e1, f1, g1⟩ := r2.entL snd_mem hd
      obtain ⟨p', ws, e2, f2, g2⟩ := r2.entL mem_hd he
      cases Option.some.inj e1
      cases Option.some.inj e2
      exact ⟨p, p', vs, ws, rfl, rfl, f1, f2, small6' (by rw [g1.len, g2.len]; exact q2.1), fun l hl => k _ _ _ _ ⟨F, r2.pop.pop.newLst (g1.app g2) hl⟩ q2.2⟩
    · exact q2.elim
def cutL (xs : List Dt) (lo hi : Option Int) : List Dt := (xs.drop (HT.sIx xs.length 0 lo)).take (HT.sIx xs.length xs.length hi - HT.sIx xs.length 0 lo)
theorem RpA.cut {vs : List V} {ds : List Dt} (h : RpA K F vs ds) (lo hi : Option Int) : RpA K F (cutV vs lo hi) (cutL ds lo hi) := by
  unfold cutV cutL
  rw [h.len]
  exact (h.dr _).tk _
abbrev DO := Ev → (Ev → Option Int → Prop) → Prop
def LO (K : PySem.W.Frag) (TB : Tbs) (t : TO) (o : DO) : Prop := ∀ (B : Bs) (ρ : Ev) (σ : St) (es : Ps) (H : Hp) (Q : Option Int → Hp → Prop) (Qd : Ev → Option Int → Prop), R K TB B ρ σ es H → o ρ Qd → (∀ ρ' i H', R K TB B ρ' σ es H' → Qd ρ' i → Q i H') → t σ H Q
def oNo : DO := fun ρ Qd => Qd ρ none
def oSo (a : DE) : DO := fun ρ Qd => a ρ fun ρ1 l => match l with
  | .sh (.int i) => Qd ρ1 (some i)
  | _ => False
theorem lo_no : LO K TB tNoPart oNo := fun _ _ _ _ _ _ _ r h k => k _ _ _ r h
theorem lo_so {ta : TE} {a : DE} (ha : LE K TB ta a) : LO K TB (tPart ta) (oSo a) := fun B ρ σ es H Q Qd r h k => ha B ρ σ es H _ _ r h fun ρ1 l v H1 ⟨F, r1⟩ q => by
  split at q
  · obtain rfl := r1.intP
    exact ⟨_, rfl, k _ _ _ ⟨F, r1.pop⟩ q⟩
  · exact q.elim
def eSlL (a : DE) (lo hi : DO) : DE := fun ρ Qd => a ρ fun ρ1 l => lo ρ1 fun ρ2 i => hi ρ2 fun ρ3 j => match dat ρ3 l with
  | some (.lst ds) => Qd ρ3 (.ow (cutL ds i j))
  | _ => False
theorem le_slL {ta : TE} {tl th : TO} {a : DE} {lo hi : DO} (ha : LE K TB ta a) (hl : LO K TB tl lo) (hh : LO K TB th hi) : LE K TB (tSl (rSlL K) ta tl th) (eSlL a lo hi) := fun B ρ σ es H Q Qd r h k =>
  ha B ρ σ es H _ _ r h fun ρ1 l v H1 r1 q1 => hl B ρ1 σ _ H1 _ _ r1 q1 fun ρ2 i H2 r2 q2 => hh B ρ2 σ _ H2 _ _ r2 q2 fun ρ3 j H3 ⟨F, r3⟩ q3 => by
    split at q3
    · rename_i hd
      obtain ⟨p, vs, e1, f1, g1⟩ := r3.entL mem_hd hd
      cases Option.some.inj e1
      exact ⟨p, vs, rfl, .inl (.inl f1), fun q hq => k _ _ _ _ ⟨F, r3.pop.newLst (g1.cut i j) hq⟩ q3⟩
    · exact q3.elim
def eSlT (a : DE) (lo hi : DO) : DE := fun ρ Qd => a ρ fun ρ1 l => lo ρ1 fun ρ2 i => hi ρ2 fun ρ3 j => match dat ρ3 l with
  | some (.tup ds) => ¬ (HT.sIx ds.length 0 i = 0 ∧ HT.sIx ds.length ds.length j = ds.length) ∧ Qd ρ3 (.sh (.tup (cutL ds i j)))
  | _ => False
theorem le_slT {ta : TE} {tl th : TO} {a : DE} {lo hi : DO} (ha : LE K TB ta a) (hl : LO K TB tl lo) (hh : LO K TB th hi) : LE K TB (tSl (rSlT K) ta tl th) (eSlT a lo hi) := fun B ρ σ es H Q Qd r h k =>
  ha B ρ σ es H _ _ r h fun ρ1 l v H1 r1 q1 => hl B ρ1 σ _ H1 _ _ r1 q1 fun ρ2 i H2 r2 q2 => hh B ρ2 σ _ H2 _ _ r2 q2 fun ρ3 j H3 ⟨F, r3⟩ q3 => by
    split at q3
    · rename_i hd
      obtain ⟨p, vs, e1, f1, g1⟩ := r3.entT mem_hd hd
      cases Option.some.inj e1
      exact ⟨p, vs, rfl, f1, by rw [g1.len]; exact q3.1, fun q hq => k _ _ _ _ ⟨_, r3.pop.newTup (g1.cut i j) hq⟩ q3.2⟩
    · exact q3.elim
/-! ### == at any depth -/
mutual
def py : Dt → PyData
  | .int i => .int i
  | .bl b => .bool b
  | .non => .none
  | .str s => .str s
  | .ty _ => .none
  | .cls _ => .none
  | .lst xs => .list (pys xs)
  | .tup xs => .tuple (pys xs)
  | .scr ns => .list (ns.map PyData.int)
  | .dic _ => .none
  | .ins _ _ _ => .none
def pys : List Dt → List PyData
  | [] => []
  | d :: ds => py d :: pys ds
end
mutual
def flt : Dt → Bool
  | .lst xs => flts xs
  | .tup xs => flts xs
  | .scr _ => true
  | .ty _ => false
  | .cls _ => false
  | .dic _ => false
  | .ins _ _ _ => false
  | _ => true
def flts : List Dt → Bool
  | [] => true
  | d :: ds => flt d && flts ds
end
theorem dp_ints : ∀ ns : List Int, DpAll K H (ns.map V.int) (ns.map PyData.int)
  | [] => .nil
  | n :: ns => .cons (.int n) (dp_ints ns)
mutual
theorem Rp.dp (e : Same F H) : ∀ {v : V} {d : Dt}, Rp K F v d → flt d = true → Dp K H v (py d)
  | _, _, .int i, _ => .int i
  | _, _, .bl b, _ => .bl b
  | _, _, .non, _ => .non
  | _, _, .str s, _ => .str s
  | _, _, .lst h t, f => .lst (.inl (.inl (e _ _ h))) (RpA.dp e t f)
  | _, _, .scr (ns := ns) h, _ => .lst (e.seq h) (dp_ints ns)
  | _, _, .tup h t, f => .tup (SqU.at h e) (RpA.dp e t f)
theorem RpA.dp (e : Same F H) : ∀ {vs : List V} {ds : List Dt}, RpA K F vs ds → flts ds = true → DpAll K H vs (pys ds)
  | _, _, .nil, _ => .nil
  | _, _, .cons h t, f => .cons (Rp.dp e h (Bool.and_eq_true_iff.mp f).1) (RpA.dp e t (Bool.and_eq_true_iff.mp f).2)
end
mutual
/-- data that == may compare: lists and tuples, nested at most so deep -/
def fz : Nat → Dt → Bool
  | _, .int _ => true
  | _, .bl _ => true
  | _, .non => true
  | _, .str s => (PyData.str s).canLay0
  | n + 1, .lst xs => fzs n xs
  | n + 1, .tup xs => fzs n xs
  | _, _ => false
def fzs : Nat → List Dt → Bool
  | _, [] => true
  | n, d :: ds => fz n d && fzs n ds
end
mutual
theorem fz_ok : ∀ {n : Nat} {d : Dt}, fz n d = true → flt d = true ∧ (py d).canLay0 = true ∧ (py d).depth ≤ n
  | _, .int _, _ => ⟨rfl, rfl, Nat.zero_le _⟩
  | _, .bl _, _ => ⟨rfl, rfl, Nat.zero_le _⟩
  | _, .non, _ => ⟨rfl, rfl, Nat.zero_le _⟩
  | _, .str s, h => by unfold fz at h; exact ⟨rfl, h, Nat.zero_le _⟩
  | n + 1, .lst xs, h => by
    unfold fz at h
    obtain ⟨a, b, c⟩ := fzs_ok h
    exact ⟨a, by unfold py PyData.canLay0; exact b, by unfold py PyData.depth; omega⟩
  | n + 1, .tup xs, h => by
    unfold fz at h
    obtain ⟨a, b, c⟩ := fzs_ok h
    exact ⟨a, by unfold py PyData.canLay0; exact b, by unfold py PyData.depth; omega⟩
  | 0, .lst _, h => by unfold fz at h; cases h
  | 0, .tup _, h => by unfold fz at h; cases h
  | _, .ty _, h => by unfold fz at h; cases h
  | _, .cls _, h => by unfold fz at h; cases h
  | _, .scr _, h => by unfold fz at h; cases h
  | _, .dic _, h => by unfold fz at h; cases h
  | _, .ins _ _ _, h => by unfold fz at h; cases h
theorem fzs_ok : ∀ {n : Nat} {ds : List Dt}, fzs n ds = true → flts ds = true ∧ PyData.canLayAll0 (pys ds) = true ∧ PyData.depthAll (pys ds) ≤ n
  | _, [], _ => ⟨rfl, rfl, Nat.zero_le _⟩
  | n, d :: ds, h => by
    unfold fzs at h
    obtain ⟨h1, h2⟩ := Bool.and_eq_true_iff.mp h
    obtain ⟨a, b, c⟩ := fz_ok h1
    obtain ⟨a', b', c'⟩ := fzs_ok h2
    refine ⟨by unfold flts; rw [a, a']; rfl, by unfold pys PyData.canLayAll0; rw [b, b']; rfl, ?_⟩
    unfold pys PyData.depthAll
    omega
end
theorem fz_shaped {d : Dt} (h : fz 60 d = true) : flt d = true ∧ SeqAt.shaped (py d) = true := by
  obtain ⟨a, b, c⟩ := fz_ok h
  exact ⟨a, by unfold SeqAt.shaped; rw [b]; exact decide_eq_true (by omega)⟩
/-- == of data -/
def eqd (d e : Dt) : Bool := PyData.eqv (py d) (py e)
theorem eqd_refl {n : Nat} {d : Dt} (h : fz n d = true) : eqd d d = true := by
  have := fz_ok h
  unfold eqd
  exact SeqAt.eqv_refl _ this.2.1
theorem fzs_all {n : Nat} : ∀ {ds : List Dt}, (∀ d, d ∈ ds → fz n d = true) → fzs n ds = true
  | [], _ => by unfold fzs; rfl
  | d :: ds, h => by unfold fzs; rw [h d List.mem_cons_self, fzs_all fun x m => h x (List.mem_cons_of_mem _ m)]; rfl
theorem fz_lst {n : Nat} {ds : List Dt} (h : ∀ d, d ∈ ds → fz n d = true) : fz (n + 1) (.lst ds) = true := by unfold fz; exact fzs_all h
theorem fz_tup {n : Nat} {ds : List Dt} (h : ∀ d, d ∈ ds → fz n d = true) : fz (n + 1) (.tup ds) = true := by unfold fz; exact fzs_all h
theorem fz_int {n : Nat} {i : Int} : fz n (.int i) = true := by unfold fz; rfl
theorem fz_ints {n : Nat} (is : List Int) : fz (n + 1) (.lst (is.map Dt.int)) = true := fz_lst fun d m => by
  obtain ⟨i, _, rfl⟩ := List.mem_map.mp m
  exact fz_int
theorem fz_intsT {n : Nat} (is : List Int) : fz (n + 1) (.tup (is.map Dt.int)) = true := fz_tup fun d m => by
  obtain ⟨i, _, rfl⟩ := List.mem_map.mp m
  exact fz_int
theorem Rf.entP (h : Rf K TB B F ρ σ es H) {e : Lo × Option V} (m : e ∈ ens es ρ σ) {d : Dt} (q : dat ρ e.1 = some d) (f : flt d = true) : ∃ v, e.2 = some v ∧ Dp K H v (py d) := by
  cases d with
  | lst ds =>
    obtain ⟨a, vs, e1, h1, h2⟩ := h.entL m q
    exact ⟨_, e1, .lst (.inl (.inl h1)) (h2.dp h.sub f)⟩
  | dic _ => cases f
  | ins _ _ _ => cases f
  | ty _ => cases f
  | _ =>
    obtain ⟨u, e1, r⟩ := h.entO m q (fun _ z => nomatch z) (fun _ z => nomatch z)
    exact ⟨u, e1, r.dp h.sub f⟩
def oEqD (neg : Bool) (a b : DE) : DE := fun ρ Qd => a ρ fun ρ1 l1 => b ρ1 fun ρ2 l2 => match dat ρ2 l1, dat ρ2 l2 with
  | some d, some e => (fz 60 d = true ∧ fz 60 e = true) ∧ Qd ρ2 (.sh (.bl (match neg with | true => !eqd d e | false => eqd d e)))
  | _, _ => False
theorem le_eqD {ta tb : TE} {a b : DE} (ha : LE K TB ta a) (hb : LE K TB tb b) : LE K TB (tOp (rEqD K) ta tb) (oEqD false a b) := fun B ρ σ es H Q Qd r h k =>
  ha B ρ σ es H _ _ r h fun ρ1 l1 v1 H1 r1 q1 => hb B ρ1 σ _ H1 _ _ r1 q1 fun ρ2 l2 v2 H2 ⟨F, r2⟩ q2 => by
    split at q2
    · rename_i d e hd he
      obtain ⟨⟨g1, g2⟩, q⟩ := q2
      obtain ⟨f1, s1⟩ := fz_shaped g1
      obtain ⟨f2, s2⟩ := fz_shaped g2
      obtain ⟨u1, e1, g1⟩ := r2.entP snd_mem hd f1
      obtain ⟨u2, e2, g2⟩ := r2.entP mem_hd he f2
      cases Option.some.inj e1
      cases Option.some.inj e2
      exact ⟨_, _, g1, g2, s1, s2, k _ _ _ _ ⟨F, r2.pop.pop.pushS (.bl _)⟩ q⟩
    · exact q2.elim
theorem le_neD {ta tb : TE} {a b : DE} (ha : LE K TB ta a) (hb : LE K TB tb b) : LE K TB (tOp (rNeD K) ta tb) (oEqD true a b) := fun B ρ σ es H Q Qd r h k =>
  ha B ρ σ es H _ _ r h fun ρ1 l1 v1 H1 r1 q1 => hb B ρ1 σ _ H1 _ _ r1 q1 fun ρ2 l2 v2 H2 ⟨F, r2⟩ q2 => by
    split at q2
    · rename_i d e hd he
      obtain ⟨⟨g1, g2⟩, q⟩ := q2
      obtain ⟨f1, s1⟩ := fz_shaped g1
      obtain ⟨f2, s2⟩ := fz_shaped g2
      obtain ⟨u1, e1, g1⟩ := r2.entP snd_mem hd f1
      obtain ⟨u2, e2, g2⟩ := r2.entP mem_hd he f2
      cases Option.some.inj e1
      cases Option.some.inj e2
      exact ⟨_, _, g1, g2, s1, s2, k _ _ _ _ ⟨F, r2.pop.pop.pushS (.bl _)⟩ q⟩
    · exact q2.elim
/-- x in a list or a tuple of whole numbers -/
def oIn (neg : Bool) (a b : DE) : DE := fun ρ Qd => a ρ fun ρ1 l1 => b ρ1 fun ρ2 l2 => match l1 with
  | .sh (.int i) => ∃ is : List Int, seqL ρ2 l2 = some (is.map Dt.int) ∧ Qd ρ2 (.sh (.bl (match neg with | true => !is.contains i | false => is.contains i)))
  | _ => False
theorem inV_ints (i : Int) : ∀ is : List Int, inV (.int i) (is.map V.int) = is.contains i
  | [] => rfl
  | j :: is => by
    have := inV_ints i is
    unfold inV at this ⊢
    rw [List.map_cons, List.any_cons, this, List.contains_cons]
    congr 1
    show (j == i) = (i == j)
    exact Bool.beq_comm
theorem flat_ints : ∀ is : List Int, (is.map V.int).all flatV = true
  | [] => rfl
  | _ :: is => by rw [List.map_cons, List.all_cons, flat_ints is]; rfl
theorem le_in {ta tb : TE} {a b : DE} (ha : LE K TB ta a) (hb : LE K TB tb b) : LE K TB (tOp (rIn K false) ta tb) (oIn false a b) := fun B ρ σ es H Q Qd r h k =>
  ha B ρ σ es H _ _ r h fun ρ1 l1 v1 H1 r1 q1 => hb B ρ1 σ _ H1 _ _ r1 q1 fun ρ2 l2 v2 H2 ⟨F, r2⟩ q2 => by
    split at q2
    · rename_i i
      obtain ⟨is, e, q⟩ := q2
      obtain ⟨p, vs, e1, f1, g1⟩ := r2.entQ mem_hd e
      cases Option.some.inj e1
      obtain rfl := r2.pop.intP
      obtain rfl := g1.ints
      refine ⟨p, _, rfl, f1, rfl, flat_ints is, ?_⟩
      rw [inV_ints]
      exact k _ _ _ _ ⟨F, r2.pop.pop.pushS (.bl _)⟩ q
    · exact q2.elim
theorem le_notIn {ta tb : TE} {a b : DE} (ha : LE K TB ta a) (hb : LE K TB tb b) : LE K TB (tOp (rIn K true) ta tb) (oIn true a b) := fun B ρ σ es H Q Qd r h k =>
  ha B ρ σ es H _ _ r h fun ρ1 l1 v1 H1 r1 q1 => hb B ρ1 σ _ H1 _ _ r1 q1 fun ρ2 l2 v2 H2 ⟨F, r2⟩ q2 => by
    split at q2
    · rename_i i
      obtain ⟨is, e, q⟩ := q2
      obtain ⟨p, vs, e1, f1, g1⟩ := r2.entQ mem_hd e
      cases Option.some.inj e1
      obtain rfl := r2.pop.intP
      obtain rfl := g1.ints
      refine ⟨p, _, rfl, f1, rfl, flat_ints is, ?_⟩
      rw [inV_ints]
      exact k _ _ _ _ ⟨F, r2.pop.pop.pushS (.bl _)⟩ q
    · exact q2.elim
end

section
variable {K : PySem.W.Frag} {TB : Tbs} {B : Bs} {F : Hp} {ρ : Ev} {σ : St} {es : Ps} {H : Hp}
/-! ### one's own object changes -/
theorem take_perm {α : Type} {e1 : α} : ∀ {Z : List α} {i : Nat} {e0 : α}, Z[i]? = some e0 → (e1 :: Z).Perm (e0 :: Z.set i e1)
  | _ :: _, 0, _, e => by cases e; exact List.Perm.swap _ _ _
  | z :: Z, i + 1, e0, e => by
    rw [List.getElem?_cons_succ] at e
    have := take_perm (e1 := e1) e
    exact ((List.Perm.swap z e1 Z).trans (this.cons z)).trans (List.Perm.swap e0 z _)
theorem Rf.take {i : Nat} {v : V} (h : Rf K TB B F ρ σ es H) (n : gt ρ i ≠ .no) (e : σ[i]? = some (some v)) (z : Shs es) : Rf K TB B F (ρ.set i .no) σ ((gt ρ i, v) :: es) H := by
  have hz := zip_get e n
  have si : σ.set i (some v) = σ := List.ext_getElem? fun j => by
    by_cases q : i = j
    · subst q
      rw [List.getElem?_set_self (List.getElem?_eq_some_iff.mp e).1, e]
    · rw [List.getElem?_set_ne q]
  have ez : (ρ.set i .no).zip σ = (ρ.zip σ).set i (.no, some v) := by
    conv => lhs; rw [← si]
    exact zip_set ρ σ i .no (some v)
  have na : ∀ l, l ∈ ρ.set i .no → ∀ j, l ≠ .al j := fun l m j => by
    rcases mem_set' m with rfl | m
    · exact fun z => nomatch z
    · exact h.na l m j
  have mm : ∀ e, e ∈ ens ((gt ρ i, v) :: es) (ρ.set i .no) σ → e.1 = .no ∨ e ∈ ens es ρ σ := fun e m => by
    rcases List.mem_cons.mp m with rfl | m
    · exact .inr (List.mem_append_right _ (List.mem_of_getElem? hz))
    · rcases List.mem_append.mp m with m | m
      · exact .inr (List.mem_append_left _ m)
      · rw [ez] at m
        rcases mem_set' m with rfl | m
        · exact .inl rfl
        · exact .inr (List.mem_append_right _ m)
  refine ⟨by rw [List.length_set]; exact h.len, na, h.sub, h.tab, fun e m => ?_, ?_, fun e a m c => ?_, h.k1, h.k2, h.k3, h.k4, h.ks⟩
  · rcases mm e m with y | y
    · rw [y]; trivial
    · refine (h.ok e y).env fun j q => ?_
      rcases List.mem_cons.mp m with rfl | m
      · exact absurd q (h.na _ (gt_mem n) j)
      · rcases List.mem_append.mp m with m | m
        · obtain ⟨e', m', rfl⟩ := List.mem_map.mp m
          exact absurd q (z e' m' j)
        · exact absurd q (na _ (List.of_mem_zip m).1 j)
  · show (((gt ρ i, some v) :: (es.map (fun e => (e.1, some e.2)) ++ (ρ.set i .no).zip σ)).flatMap cells).Nodup
    rw [ez]
    have p : (((.no, some v) : Lo × Option V) :: (es.map (fun e => (e.1, some e.2)) ++ ρ.zip σ)).Perm ((gt ρ i, some v) :: (es.map (fun e => (e.1, some e.2)) ++ (ρ.zip σ).set i (.no, some v))) := by
      have p1 := (take_perm (e1 := ((.no, some v) : Lo × Option V)) hz).append_left (es.map (fun e => (e.1, some e.2)))
      exact (List.perm_middle.symm.trans p1).trans List.perm_middle
    refine (p.flatMap_right cells).nodup_iff.mp ?_
    rw [flC0 rfl]
    exact h.nd
  · rcases mm e m with y | y
    · obtain ⟨l, o⟩ := e
      cases y
      exact in0 c
    · exact h.out e a y c
theorem Rf.mutP {a : Addr} {o : HO} {l l' : Lo} (h : Rf K TB B F ρ σ ((l, .ref a) :: es) H) (c : cells (l, some (.ref a)) = [a]) (c' : cells (l', some (.ref a)) = [a]) (ns : l ≠ .src) (k : Ok K F (upd H a o) ρ σ l' (some (.ref a))) : Rf K TB B F ρ σ ((l', .ref a) :: es) (upd H a o) := by
  obtain ⟨f1, f2, f3⟩ := h.out _ a mem_hd (inC c)
  have f4 : B.H a = none := f3.elim id fun z => absurd z.1 ns
  have nd : (a :: (ens es ρ σ).flatMap cells).Nodup := by
    have := h.nd
    have e : (ens ((l, .ref a) :: es) ρ σ).flatMap cells = a :: (ens es ρ σ).flatMap cells := by
      show ((((l, some (.ref a)) : Lo × Option V) :: ens es ρ σ).flatMap cells) = _
      rw [flC1 c]
    rw [e] at this; exact this
  have ne : ∀ e b, e ∈ ens es ρ σ → b ∈ cells e → b ≠ a := fun e b m q z => (List.nodup_cons.mp nd).1 (List.mem_flatMap.mpr ⟨e, m, z ▸ q⟩)
  have h' := h.pop
  refine ⟨h.len, h.na, fun b u q => ?_, fun P hP => ⟨TabL.ups (h.tab P hP).1 (fun z => f2 (z ▸ hP)), (h.tab P hP).2⟩, fun e m => ?_, ?_, fun e b m q => ?_, fun b u b1 b2 q => ?_, fun b q => ?_, h.k3, h.k4, fun b hb => ⟨?_, (h.ks b hb).2⟩⟩
  · rw [upd_ne (fun z => by rw [z, f1] at q; cases q)]; exact h.sub b u q
  · rcases List.mem_cons.mp m with rfl | m
    · exact k
    · exact (h'.ok e m).mono (fun _ _ z => z) fun b q => .inl (upd_ne (ne e b m q))
  · show ((((l', some (.ref a)) : Lo × Option V) :: ens es ρ σ).flatMap cells).Nodup
    rw [flC1 c']
    exact nd
  · rcases List.mem_cons.mp m with rfl | m
    · rw [c'] at q
      cases in1 q
      exact ⟨f1, f2, .inl f4⟩
    · exact h'.out e b m q
  · rw [upd_ne (fun z => by rw [z, f4] at q; cases q)]; exact h.k1 b u b1 b2 q
  · by_cases z : b = a
    · subst z; rw [upd_same] at q; cases q
    · rw [upd_ne z] at q; exact h.k2 b q
  · obtain ⟨x, y, e⟩ := (h.ks b hb).1
    exact ⟨x, y, by rw [upd_ne (fun (z : b = a) => (h.ks b hb).2 (by rw [z]; exact f4))]; exact e⟩
theorem set_back {i : Nat} {v : V} (e : σ[i]? = some (some v)) : σ.set i (some v) = σ := List.ext_getElem? fun j => by
  by_cases q : i = j
  · subst q
    rw [List.getElem?_set_self (List.getElem?_eq_some_iff.mp e).1, e]
  · rw [List.getElem?_set_ne q]
theorem set_set (l : List Lo) (i : Nat) (x y : Lo) : (l.set i x).set i y = l.set i y := List.set_set x
/-- a slot's own object changes -/
theorem Rf.mutS {i : Nat} {a : Addr} {o : HO} {l' : Lo} (h : Rf K TB B F ρ σ es H) (n : gt ρ i ≠ .no) (e : σ[i]? = some (some (.ref a))) (z : Shs es) (c : cells (gt ρ i, some (.ref a)) = [a]) (c' : cells (l', some (.ref a)) = [a]) (ns : gt ρ i ≠ .src) (na : ∀ j, l' ≠ .al j)
    (k : Ok K F (upd H a o) (ρ.set i .no) σ l' (some (.ref a))) : Rf K TB B F (ρ.set i l') σ es (upd H a o) := by
  have h2 := ((h.take n e z).mutP c c' ns k).set (i := i) (fun e m => z e m i) na
  rw [set_set, set_back e] at h2
  exact h2
/-- x.append(e) -/
def sApp (i : Nat) (e : DE) : DS := fun D ρ => match gt ρ i with
  | .ow _ => e ρ fun ρ1 l => match gt ρ1 i, nrm l with
    | .ow ds, .sh d => ds.length < 100000 ∧ D.nx (ρ1.set i (.ow (ds ++ [d])))
    | _, _ => False
  | _ => False
theorem ls_app {i : Nat} {te : TE} {e : DE} (he : LE K TB te e) : LS K TB (tDrop (tBM K "list" rAppend (tVar i) (tCons te tNil))) (sApp i e) := fun B ρ σ es H D Dd z ⟨F, r⟩ h k => by
  unfold sApp at h
  split at h
  · rename_i ds0 g
    have n : gt ρ i ≠ .no := by rw [g]; exact fun z => nomatch z
    obtain ⟨o, e1, m, q⟩ := r.slot n
    rw [g] at q
    obtain ⟨a, vs, rfl, hl, rr⟩ := q
    refine ⟨_, e1, .inl ⟨rfl, _, .inl (.inl hl)⟩, ?_⟩
    refine he B ρ σ es H _ _ ⟨F, r⟩ h fun ρ1 l v H1 r1 q => ?_
    obtain ⟨F2, r2⟩ := R.nrm r1
    split at q
    · rename_i ds d g1 g2
      rw [g2] at r2
      obtain ⟨v', f1, f2⟩ := r2.okp
      cases f1
      have n1 : gt ρ1 i ≠ .no := by rw [g1]; exact fun z => nomatch z
      obtain ⟨o2, e2, m2, q2⟩ := r2.pop.slot n1
      rw [e1] at e2
      cases e2
      rw [g1] at q2
      obtain ⟨a2, ws, e3, hl2, rr2⟩ := q2
      cases e3
      refine ⟨a, ws, v, rfl, rfl, hl2, small6 (by rw [rr2.len]; omega), ?_⟩
      refine k.nx _ _ _ rfl ⟨F2, r2.pop.mutS (l' := .ow (ds ++ [d])) n1 e1 z (by rw [g1]; rfl) rfl (by rw [g1]; exact fun z => nomatch z) (fun j z => nomatch z) ⟨a, _, rfl, upd_same, rr2.app (.cons f2 .nil)⟩⟩ q.2
    · exact q.elim
  · exact h.elim
/-- x.extend(e), e a list -/
def sExt (i : Nat) (e : DE) : DS := fun D ρ => match gt ρ i with
  | .ow _ => e ρ fun ρ1 l => match gt ρ1 i, nrm l with
    | .ow ds, .sh (.lst fs) => ds.length + fs.length ≤ 100000 ∧ D.nx (ρ1.set i (.ow (ds ++ fs)))
    | _, _ => False
  | _ => False
theorem ls_ext {i : Nat} {te : TE} {e : DE} (he : LE K TB te e) : LS K TB (tDrop (tBM K "list" rExtend (tVar i) (tCons te tNil))) (sExt i e) := fun B ρ σ es H D Dd z ⟨F, r⟩ h k => by
  unfold sExt at h
  split at h
  · rename_i ds0 g
    have n : gt ρ i ≠ .no := by rw [g]; exact fun z => nomatch z
    obtain ⟨o, e1, m, q⟩ := r.slot n
    rw [g] at q
    obtain ⟨a, vs, rfl, hl, rr⟩ := q
    refine ⟨_, e1, .inl ⟨rfl, _, .inl (.inl hl)⟩, ?_⟩
    refine he B ρ σ es H _ _ ⟨F, r⟩ h fun ρ1 l v H1 r1 q => ?_
    obtain ⟨F2, r2⟩ := R.nrm r1
    split at q
    · rename_i ds fs g1 g2
      rw [g2] at r2
      obtain ⟨v', f1, f2⟩ := r2.okp
      cases f1
      cases f2 with
      | lst hb rb =>
        have n1 : gt ρ1 i ≠ .no := by rw [g1]; exact fun z => nomatch z
        obtain ⟨o2, e2, m2, q2⟩ := r2.pop.slot n1
        rw [e1] at e2
        cases e2
        rw [g1] at q2
        obtain ⟨a2, ws, e3, hl2, rr2⟩ := q2
        cases e3
        refine ⟨a, _, ws, _, rfl, rfl, hl2, r2.sub _ _ hb, small6' (by rw [rr2.len, rb.len]; exact q.1), ?_⟩
        refine k.nx _ _ _ rfl ⟨F2, r2.pop.mutS (l' := .ow (ds ++ fs)) n1 e1 z (by rw [g1]; rfl) rfl (by rw [g1]; exact fun z => nomatch z) (fun j z => nomatch z) ⟨a, _, rfl, upd_same, rr2.app rb⟩⟩ q.2
    · exact q.elim
  · exact h.elim
/-- x[i] = e -/
def sStL (i : Nat) (ie e : DE) : DS := fun D ρ => e ρ fun ρ1 l => match nrm l with
  | .sh d => (match gt ρ1 i with
    | .ow _ => ie ρ1 fun ρ2 l2 => (match gt ρ2 i, l2 with
      | .ow ds, .sh (.int k) => ∃ j, ixN ds.length k = some j ∧ D.nx (ρ2.set i (.ow (ds.set j d)))
      | _, _ => False)
    | _ => False)
  | _ => False
theorem ls_stL {i : Nat} {te ti : TE} {ie e : DE} (he : LE K TB te e) (hi : LE K TB ti ie) : LS K TB (tAsg te (gSub (tVar i) ti rSetL)) (sStL i ie e) := fun B ρ σ es H D Dd z r h k => by
  refine he B ρ σ es H _ _ r h fun ρ1 l v H1 r1 q => ?_
  obtain ⟨F1, r2⟩ := R.nrm r1
  split at q
  · rename_i d gd
    rw [gd] at r2
    split at q
    · rename_i ds0 g
      have n : gt ρ1 i ≠ .no := by rw [g]; exact fun z => nomatch z
      obtain ⟨o, e1, m, q0⟩ := r2.slot n
      rw [g] at q0
      obtain ⟨a, vs, rfl, hl, rr⟩ := q0
      refine ⟨_, e1, ?_⟩
      refine hi B ρ1 σ _ H1 _ _ ⟨F1, r2⟩ q fun ρ2 l2 v2 H2 ⟨F2, r3⟩ q => ?_
      split at q
      · rename_i ds k1 g1 _
        obtain ⟨j, q1, q⟩ := q
        obtain rfl := r3.intP
        obtain ⟨v', f1, f2⟩ := r3.pop.okp
        cases f1
        have n1 : gt ρ2 i ≠ .no := by rw [g1]; exact fun z => nomatch z
        obtain ⟨o2, e2, m2, q2⟩ := r3.pop.pop.slot n1
        rw [e1] at e2
        cases e2
        rw [g1] at q2
        obtain ⟨a2, ws, e3, hl2, rr2⟩ := q2
        cases e3
        refine ⟨a, ws, _, j, rfl, rfl, hl2, by rw [rr2.len]; exact q1, ?_⟩
        exact k.nx _ _ _ rfl ⟨F2, r3.pop.pop.mutS (l' := .ow (ds.set j d)) n1 e1 z (by rw [g1]; rfl) rfl (by rw [g1]; exact fun z => nomatch z) (fun j z => nomatch z) ⟨a, _, rfl, upd_same, RpA.set f2 j rr2⟩⟩ q
      · exact q.elim
    · exact q.elim
  · exact q.elim
/-- a name's own list joins what is never changed, as it is read -/
def eVarF (i : Nat) : DE := fun ρ Qd => match gt ρ i with
  | .sh d => Qd ρ (.sh d)
  | .ow ds => Qd (ρ.set i (.sh (.lst ds))) (.sh (.lst ds))
  | .od ds => Qd (ρ.set i (.sh (.dic ds))) (.sh (.dic ds))
  | _ => False
theorem set_ens {i : Nat} {l : Lo} {o : Option V} (e : σ[i]? = some o) : (ρ.set i l).zip σ = (ρ.zip σ).set i (l, o) := by
  have si : σ.set i o = σ := List.ext_getElem? fun j => by
    by_cases q : i = j
    · subst q
      rw [List.getElem?_set_self (List.getElem?_eq_some_iff.mp e).1, e]
    · rw [List.getElem?_set_ne q]
  conv => lhs; rw [← si]
  exact zip_set ρ σ i l o
theorem set_out {α β : Type} {f : α → List β} {a : β} {e0 e1 : α} (A : List α) : ∀ {Z : List α} {i : Nat}, Z[i]? = some e0 → f e0 = [a] → f e1 = [] → ((A ++ Z).flatMap f).Nodup → ((A ++ Z.set i e1).flatMap f).Nodup ∧ ∀ e, e ∈ A ++ Z.set i e1 → e = e1 ∨ (e ∈ A ++ Z ∧ a ∉ f e) := by
  intro Z i h h0 h1 n
  have p := (take_perm (e1 := e1) h).append_left A
  have q := (p.flatMap_right f).nodup_iff.mp ((List.Perm.flatMap_right f (List.perm_middle (a := e1) (l₁ := A) (l₂ := Z))).nodup_iff.mpr (by rw [List.flatMap_cons, h1]; exact n))
  have q2 := (List.Perm.flatMap_right f (List.perm_middle (a := e0) (l₁ := A) (l₂ := Z.set i e1))).nodup_iff.mp q
  rw [List.flatMap_cons, h0, List.singleton_append] at q2
  obtain ⟨q3, q4⟩ := List.nodup_cons.mp q2
  refine ⟨q4, fun e m => ?_⟩
  by_cases z : e = e1
  · exact .inl z
  · refine .inr ⟨?_, fun y => q3 (List.mem_flatMap.mpr ⟨e, m, y⟩)⟩
    rcases List.mem_append.mp m with m | m
    · exact List.mem_append_left _ m
    · rcases mem_set' m with m | m
      · exact absurd m z
      · exact List.mem_append_right _ m
theorem Rf.frzS {i : Nat} {p : Addr} {o : HO} {d : Dt} (h : Rf K TB B F ρ σ es H) (n : gt ρ i ≠ .no) (e : σ[i]? = some (some (.ref p))) (c : cells (gt ρ i, some (.ref p)) = [p]) (ho : H p = some o) (ns : gt ρ i ≠ .src) (k : Same F (upd F p o) → Rp K (upd F p o) (.ref p) d) : Rf K TB B (upd F p o) (ρ.set i (.sh d)) σ ((.sh d, .ref p) :: es) H := by
  have hz := zip_get e n
  have m0 : (gt ρ i, some (.ref p)) ∈ ens es ρ σ := List.mem_append_right _ (List.mem_of_getElem? hz)
  obtain ⟨f1, f2, f3⟩ := h.out _ p m0 (inC c)
  have f4 : B.H p = none := f3.elim id fun z => absurd z.1 ns
  have sF : Same F (upd F p o) := Same.new f1
  have hi : i < ρ.length := gt_lt n
  obtain ⟨nd, mm⟩ := set_out (f := cells) (e1 := ((.sh d, some (.ref p)) : Lo × Option V)) (es.map (fun e : Lo × V => ((e.1, some e.2) : Lo × Option V))) hz c rfl h.nd
  have ez : ens es (ρ.set i (.sh d)) σ = es.map (fun e => (e.1, some e.2)) ++ (ρ.zip σ).set i (.sh d, some (.ref p)) := by
    unfold ens
    rw [set_ens e]
  rw [← ez] at nd mm
  have gn : ∀ j, gt ρ j ≠ .no → gt (ρ.set i (.sh d)) j ≠ .no := fun j z => by
    rw [gt_set]
    split
    · exact fun z => nomatch z
    · exact z
  have na : ∀ l, l ∈ ρ.set i (.sh d) → ∀ j, l ≠ .al j := fun l m j => by
    rcases mem_set' m with rfl | m
    · exact fun z => nomatch z
    · exact h.na l m j
  refine Rf.pushS ⟨by rw [List.length_set]; exact h.len, na, fun b u q => ?_, fun P hP => ⟨(h.tab P hP).1.mono sF, ?_⟩, fun e m => ?_, nd, fun e a m q => ?_, h.k1, h.k2, fun b u q => sF b u (h.k3 b u q), fun b u q => ?_, h.ks⟩ (k sF)
  · by_cases z : b = p
    · subst z; rw [upd_same] at q; cases q; exact ho
    · rw [upd_ne z] at q; exact h.sub b u q
  · rw [upd_ne (fun (z : P = p) => f2 (z ▸ hP))]; exact (h.tab P hP).2
  · rcases mm e m with rfl | ⟨m', ne⟩
    · exact ⟨_, rfl, k sF⟩
    · refine ((h.ok e m').mono sF fun a q => .inl rfl).env fun j q => ?_
      have := h.ok e m'
      rw [q] at this ⊢
      exact ⟨gn j this.1, this.2⟩
  · rcases mm e m with rfl | ⟨m', ne⟩
    · exact in0 q
    · refine ⟨?_, (h.out e a m' q).2⟩
      rw [upd_ne (fun z => ne (by rw [← z]; exact q))]
      exact (h.out e a m' q).1
  · by_cases z : b = p
    · subst z; exact .inr f4
    · rw [upd_ne z] at q; exact h.k4 b u q
theorem le_varF {i : Nat} : LE K TB (tVar i) (eVarF i) := by
  intro B ρ σ es H Q Qd ⟨F, r⟩ h k
  unfold eVarF at h
  split at h
  · rename_i d g
    have n : gt ρ i ≠ .no := by rw [g]; exact fun z => nomatch z
    obtain ⟨o, e, m, q⟩ := r.slot n
    rw [g] at q
    obtain ⟨v, rfl, e2⟩ := q
    exact ⟨v, e, k _ _ _ _ ⟨F, r.pushS e2⟩ h⟩
  · rename_i ds g
    have n : gt ρ i ≠ .no := by rw [g]; exact fun z => nomatch z
    obtain ⟨o, e, m, q⟩ := r.slot n
    rw [g] at q
    obtain ⟨a, vs, rfl, hl, rr⟩ := q
    exact ⟨_, e, k _ _ _ _ ⟨_, r.frzS n e (by rw [g]; rfl) hl (by rw [g]; exact fun z => nomatch z) fun s => .lst upd_same (rr.same s)⟩ h⟩
  · rename_i ds g
    have n : gt ρ i ≠ .no := by rw [g]; exact fun z => nomatch z
    obtain ⟨o, e, m, q⟩ := r.slot n
    rw [g] at q
    obtain ⟨a, vs, rfl, hl, rr⟩ := q
    exact ⟨_, e, k _ _ _ _ ⟨_, r.frzS n e (by rw [g]; rfl) hl (by rw [g]; exact fun z => nomatch z) fun s => .dic upd_same (rr.same s)⟩ h⟩
  · exact h.elim
end

section
variable {K : PySem.W.Frag} {TB : Tbs} {B : Bs} {F : Hp} {ρ : Ev} {σ : St} {es : Ps} {H : Hp}
/-! ### what is walked -/
theorem shs1 (d : Dt) (v : V) : Shd [(.sh d, v)] := fun e m => ⟨d, by rw [List.mem_singleton.mp m]⟩
theorem ItOk.list {a : Addr} {ds : List Dt} : ItOk K TB (Itl K a) [(.sh (.lst ds), .ref a)] ds := fun B ρ σ es H ⟨F, r⟩ m => by
  obtain ⟨u, e1, rr⟩ := r.entS (List.mem_append_left _ (List.mem_map.mpr ⟨_, m _ List.mem_cons_self, rfl⟩)) rfl
  cases e1
  cases rr with
  | lst h1 h2 =>
    have hl : SqL K H a _ := .inl (.inl (r.sub _ _ h1))
    refine ⟨fun i hi => ?_, ⟨_, hl, by rw [h2.len]; exact Nat.le_refl _⟩, fun i x H' hi y => ?_⟩
    · obtain ⟨v, q, _⟩ := h2.get (List.getElem?_eq_getElem hi)
      exact ⟨_, v, hl, q⟩
    · obtain ⟨rfl, y⟩ := y
      obtain ⟨d, q1, q2⟩ := h2.get' (y _ hl)
      exact ⟨d, q1, F, r.pushS q2⟩
theorem ItOk.tup {a : Addr} {ds : List Dt} : ItOk K TB (Itt K a) [(.sh (.tup ds), .ref a)] ds := fun B ρ σ es H ⟨F, r⟩ m => by
  obtain ⟨u, e1, rr⟩ := r.entS (List.mem_append_left _ (List.mem_map.mpr ⟨_, m _ List.mem_cons_self, rfl⟩)) rfl
  cases e1
  cases rr with
  | tup h1 h2 =>
    have hl : SqT K H a _ := SqU.at h1 r.sub
    refine ⟨fun i hi => ?_, ⟨_, hl, by rw [h2.len]; exact Nat.le_refl _⟩, fun i x H' hi y => ?_⟩
    · obtain ⟨v, q, _⟩ := h2.get (List.getElem?_eq_getElem hi)
      exact ⟨_, v, hl, q⟩
    · obtain ⟨rfl, y⟩ := y
      obtain ⟨d, q1, q2⟩ := h2.get' (y _ hl)
      exact ⟨d, q1, F, r.pushS q2⟩
def iL (a : DE) : DI := fun ρ Qd => a ρ fun ρ1 l => match nrm l with
  | .sh (.lst ds) => Qd ρ1 ds
  | _ => False
def iT (a : DE) : DI := fun ρ Qd => a ρ fun ρ1 l => match l with
  | .sh (.tup ds) => Qd ρ1 ds
  | _ => False
theorem li_list {ta : TE} {a : DE} (ha : LE K TB ta a) : LI K TB (iList K ta) (iL a) := fun B ρ σ es H Rr Qd r h k => ha B ρ σ es H _ _ r h fun ρ1 l v H1 r1 q => by
  obtain ⟨F, r2⟩ := R.nrm r1
  split at q
  · rename_i ds g
    rw [g] at r2
    obtain ⟨u, e1, rr⟩ := r2.okp
    cases e1
    cases rr with
    | lst h1 h2 => exact ⟨_, rfl, ⟨_, .inl (.inl (r2.sub _ _ h1))⟩, k ρ1 ds _ H1 [(.sh (.lst ds), .ref _)] (shs1 _ _) ⟨F, r2⟩ ItOk.list q⟩
  · exact q.elim
theorem li_tup {ta : TE} {a : DE} (ha : LE K TB ta a) : LI K TB (iTup K ta) (iT a) := fun B ρ σ es H Rr Qd r h k => ha B ρ σ es H _ _ r h fun ρ1 l v H1 ⟨F, r2⟩ q => by
  split at q
  · rename_i ds _
    obtain ⟨u, e1, rr⟩ := r2.okp
    cases e1
    cases rr with
    | tup h1 h2 => exact ⟨_, rfl, ⟨_, SqU.at h1 r2.sub⟩, k ρ1 ds _ H1 [(.sh (.tup ds), .ref _)] (shs1 _ _) ⟨F, r2⟩ ItOk.tup q⟩
  · exact q.elim
/-- a list or a tuple, whichever it is -/
def iQ (a : DE) : DI := fun ρ Qd => a ρ fun ρ1 l => match nrm l with
  | .sh (.lst ds) => Qd ρ1 ds
  | .sh (.tup ds) => Qd ρ1 ds
  | _ => False
theorem li_or {i : Nat} : LI K TB (fun σ H R => iList K (tVar i) σ H R ∨ iTup K (tVar i) σ H R) (iQ (eVar i)) := fun B ρ σ es H Rr Qd r h k => by
  unfold iQ at h
  unfold eVar at h
  split at h
  · rename_i d g
    cases d with
    | lst ds => exact .inl (li_list le_var B ρ σ es H Rr Qd r (by unfold iL eVar; rw [g]; exact h) k)
    | tup ds => exact .inr (li_tup le_var B ρ σ es H Rr Qd r (by unfold iT eVar; rw [g]; exact h) k)
    | _ => exact h.elim
  · exact h.elim
  · exact h.elim
  · exact h.elim
  · exact h.elim
  · exact h.elim
  · exact h.elim
def rng (lo : Int) (n : Nat) : List Dt := (List.range n).map fun i : Nat => .int (lo + (i : Int))
theorem rng_len (lo : Int) (n : Nat) : (rng lo n).length = n := by simp [rng]
theorem rng_at {lo : Int} {n i : Nat} {d : Dt} (h : (rng lo n)[i]? = some d) : i < n ∧ d = .int (lo + (i : Int)) := by
  have hi : i < n := by have := (List.getElem?_eq_some_iff.mp h).1; rwa [rng_len] at this
  refine ⟨hi, ?_⟩
  unfold rng at h
  rw [List.getElem?_map, List.getElem?_range hi] at h
  exact (Option.some.inj h).symm
theorem rng_get {lo : Int} {n i : Nat} (h : i < n) : (rng lo n)[i]? = some (.int (lo + (i : Int))) := by
  unfold rng
  rw [List.getElem?_map, List.getElem?_range h]; rfl
theorem ItOk.rng {lo : Int} {n : Nat} : ItOk K TB (Itr lo n) [] (Df.rng lo n) := fun B ρ σ es H ⟨F, r⟩ m => by
  refine ⟨fun i hi => by rw [rng_len] at hi; exact hi, by rw [rng_len]; exact Nat.le_refl _, fun i x H' hi y => ?_⟩
  rw [rng_len] at hi
  obtain ⟨rfl, rfl⟩ := y
  exact ⟨_, rng_get hi, F, r.pushS (.int _)⟩
def iR1 (a : DA) : DI := fun ρ Qd => a ρ fun ρ1 ls => match ls with
  | [.sh (.int j)] => (-(2 ^ 62) ≤ j ∧ j < 2 ^ 62) ∧ Qd ρ1 (rng 0 j.toNat)
  | _ => False
def iR2 (a : DA) : DI := fun ρ Qd => a ρ fun ρ1 ls => match ls with
  | [.sh (.int i), .sh (.int j)] => (-(2 ^ 62) ≤ i ∧ i < 2 ^ 62 ∧ -(2 ^ 62) ≤ j ∧ j < 2 ^ 62) ∧ Qd ρ1 (rng i (j - i).toNat)
  | _ => False
theorem li_r1 {ta : TA} {a : DA} (ha : LA K TB ta a) : LI K TB (iRng1 ta) (iR1 a) := fun B ρ σ es H Rr Qd r h k => ha B ρ σ es H _ _ r h fun ρ1 ls vs H1 n ⟨F, r1⟩ q => by
  split at q
  · rename_i i _
    have e := r1.intsA (is := [i]) n rfl
    subst e
    exact ⟨i, rfl, q.1.1, q.1.2, k ρ1 _ _ H1 [] (fun _ m => nomatch m) ⟨F, r1.app⟩ ItOk.rng q.2⟩
  · exact q.elim
theorem li_r2 {ta : TA} {a : DA} (ha : LA K TB ta a) : LI K TB (iRng2 ta) (iR2 a) := fun B ρ σ es H Rr Qd r h k => ha B ρ σ es H _ _ r h fun ρ1 ls vs H1 n ⟨F, r1⟩ q => by
  split at q
  · rename_i i j _
    have e := r1.intsA (is := [i, j]) n rfl
    subst e
    exact ⟨i, j, rfl, q.1, k ρ1 _ _ H1 [] (fun _ m => nomatch m) ⟨F, r1.app⟩ ItOk.rng q.2⟩
  · exact q.elim
/-- enumerate(list) -/
def enm : Nat → List Dt → List Dt
  | _, [] => []
  | i, d :: ds => .tup [.int (i : Nat), d] :: enm (i + 1) ds
theorem enm_get : ∀ {ds : List Dt} {i k : Nat} {d : Dt}, ds[i]? = some d → (enm k ds)[i]? = some (.tup [.int ((k + i : Nat) : Int), d])
  | _ :: _, 0, k, _, e => by cases e; rfl
  | _ :: ds, i + 1, k, d, e => by
    rw [List.getElem?_cons_succ] at e
    show (_ :: enm (k + 1) ds)[i + 1]? = _
    rw [List.getElem?_cons_succ, enm_get (k := k + 1) e]
    congr 5
    omega
theorem enm_len : ∀ (k : Nat) (ds : List Dt), (enm k ds).length = ds.length
  | _, [] => rfl
  | k, _ :: ds => congrArg (· + 1) (enm_len (k + 1) ds)
theorem enm_at {ds : List Dt} {i : Nat} {d : Dt} (h : (enm 0 ds)[i]? = some d) : ∃ x, ds[i]? = some x ∧ d = .tup [.int (i : Nat), x] := by
  have hi : i < ds.length := by have := (List.getElem?_eq_some_iff.mp h).1; rwa [enm_len] at this
  refine ⟨_, List.getElem?_eq_getElem hi, ?_⟩
  rw [enm_get (List.getElem?_eq_getElem hi)] at h
  rw [← Option.some.inj h, Nat.zero_add]
theorem ItOk.enum {a : Addr} {ds : List Dt} : ItOk K TB (Ite K a) [(.sh (.lst ds), .ref a)] (enm 0 ds) := fun B ρ σ es H ⟨F, r⟩ m => by
  obtain ⟨u, e1, rr⟩ := r.entS (List.mem_append_left _ (List.mem_map.mpr ⟨_, m _ List.mem_cons_self, rfl⟩)) rfl
  cases e1
  cases rr with
  | lst h1 h2 =>
    have hl : SqL K H a _ := .inl (.inl (r.sub _ _ h1))
    refine ⟨fun i hi => ?_, ⟨_, hl, by rw [h2.len, enm_len]; exact Nat.le_refl _⟩, fun i x H' hi y => ?_⟩
    · rw [enm_len] at hi
      obtain ⟨v, q, _⟩ := h2.get (List.getElem?_eq_getElem hi)
      exact ⟨_, v, hl, q⟩
    · obtain ⟨T, x, rfl, hT, rfl, y⟩ := y
      obtain ⟨d, q1, q2⟩ := h2.get' (y _ hl)
      have := enm_get (k := 0) q1
      rw [Nat.zero_add] at this
      exact ⟨_, this, _, r.newTup (.cons (.int _) (.cons q2 .nil)) hT⟩
def iE (a : DA) : DI := fun ρ Qd => a ρ fun ρ1 ls => match ls with
  | [.sh (.lst ds)] => Qd ρ1 (enm 0 ds)
  | _ => False
theorem li_enum {ta : TA} {a : DA} (ha : LA K TB ta a) : LI K TB (iEnum K ta) (iE a) := fun B ρ σ es H Rr Qd r h k => ha B ρ σ es H _ _ r h fun ρ1 ls vs H1 n ⟨F, r1⟩ q => by
  split at q
  · rename_i ds _
    match vs, n, r1 with
    | [v], _, r1 =>
      obtain ⟨u, e1, rr⟩ := Rf.okp (e := (.sh (.lst ds), v)) r1
      cases e1
      cases rr with
      | lst h1 h2 => exact ⟨_, _, rfl, .inl (.inl (r1.sub _ _ h1)), k ρ1 _ _ H1 [(.sh (.lst ds), .ref _)] (shs1 _ _) ⟨F, r1⟩ ItOk.enum q⟩
  · exact q.elim
/-- zip(list, list) -/
def zp : List Dt → List Dt → List Dt
  | x :: xs, y :: ys => .tup [x, y] :: zp xs ys
  | _, _ => []
theorem zp_len : ∀ xs ys : List Dt, (zp xs ys).length = min xs.length ys.length
  | [], _ => by simp [zp]
  | _ :: _, [] => by simp [zp]
  | x :: xs, y :: ys => by simp [zp, zp_len xs ys]
theorem zp_get : ∀ {xs ys : List Dt} {i : Nat} {x y : Dt}, xs[i]? = some x → ys[i]? = some y → (zp xs ys)[i]? = some (.tup [x, y])
  | _ :: _, _ :: _, 0, _, _, h1, h2 => by cases h1; cases h2; rfl
  | x :: xs, y :: ys, i + 1, _, _, h1, h2 => by
    rw [List.getElem?_cons_succ] at h1 h2
    show (_ :: zp xs ys)[i + 1]? = _
    rw [List.getElem?_cons_succ]
    exact zp_get h1 h2
  | [], _, _, _, _, h1, _ => by simp at h1
  | _ :: _, [], _, _, _, _, h2 => by simp at h2
theorem zp_at {xs ys : List Dt} {i : Nat} {d : Dt} (h : (zp xs ys)[i]? = some d) : ∃ x y, xs[i]? = some x ∧ ys[i]? = some y ∧ d = .tup [x, y] := by
  have hi := (List.getElem?_eq_some_iff.mp h).1
  rw [zp_len] at hi
  have h1 := List.getElem?_eq_getElem (show i < xs.length by omega)
  have h2 := List.getElem?_eq_getElem (show i < ys.length by omega)
  refine ⟨_, _, h1, h2, ?_⟩
  rw [zp_get h1 h2] at h
  exact (Option.some.inj h).symm
theorem ItOk.zip {a b : Addr} {xs ys : List Dt} : ItOk K TB (Itz K a b) [(.sh (.lst ys), .ref b), (.sh (.lst xs), .ref a)] (zp xs ys) := fun B ρ σ es H ⟨F, r⟩ m => by
  obtain ⟨u, e1, rr⟩ := r.entS (List.mem_append_left _ (List.mem_map.mpr ⟨_, m _ List.mem_cons_self, rfl⟩)) rfl
  obtain ⟨u2, e2, ss⟩ := r.entS (List.mem_append_left _ (List.mem_map.mpr ⟨_, m _ snd_mem, rfl⟩)) rfl
  cases e1
  cases e2
  cases rr with
  | lst h1 h2 =>
    cases ss with
    | lst g1 g2 =>
      have hb : SqL K H b _ := .inl (.inl (r.sub _ _ h1))
      have ha : SqL K H a _ := .inl (.inl (r.sub _ _ g1))
      refine ⟨fun i hi => ?_, ⟨_, _, ha, hb, by rw [g2.len, h2.len, zp_len]; omega⟩, fun i x H' hi y => ?_⟩
      · rw [zp_len] at hi
        obtain ⟨v, q, _⟩ := g2.get (List.getElem?_eq_getElem (show i < xs.length by omega))
        obtain ⟨w, q', _⟩ := h2.get (List.getElem?_eq_getElem (show i < ys.length by omega))
        exact ⟨_, _, v, w, ha, hb, q, q'⟩
      · obtain ⟨T, x, z, rfl, hT, rfl, y1, y2⟩ := y
        obtain ⟨d, q1, q2⟩ := g2.get' (y1 _ ha)
        obtain ⟨d', q3, q4⟩ := h2.get' (y2 _ hb)
        exact ⟨_, zp_get q1 q3, _, r.newTup (.cons q2 (.cons q4 .nil)) hT⟩
def isTp : Lo → Bool
  | .sh (.tup _) => true
  | _ => false
def iZ (a : DA) : DI := fun ρ Qd => a ρ fun ρ1 ls => match ls with
  | [.sh (.lst xs), .sh (.lst ys)] => Qd ρ1 (zp xs ys)
  | _ => False
/-- the two lists are held by one pending value: the pair's first; the second stands below it -/
theorem li_zip {ta : TA} {a : DA} (ha : LA K TB ta a) : LI K TB (iZip K ta) (iZ a) := fun B ρ σ es H Rr Qd r h k => ha B ρ σ es H _ _ r h fun ρ1 ls vs H1 n ⟨F, r1⟩ q => by
  split at q
  · rename_i xs ys _
    match vs, n, r1 with
    | [v, w], _, r1 =>
      obtain ⟨u1, e1, rr1⟩ := Rf.okp (e := (.sh (.lst ys), w)) r1
      obtain ⟨u2, e2, rr2⟩ := Rf.okp (e := (.sh (.lst xs), v)) (Rf.pop (e := (.sh (.lst ys), w)) r1)
      cases e1
      cases e2
      cases rr1 with
      | @lst a1 _ _ h1 h2 =>
        cases rr2 with
        | @lst a2 _ _ g1 g2 =>
          refine ⟨a2, a1, _, _, rfl, .inl (.inl (r1.sub _ _ g1)), .inl (.inl (r1.sub _ _ h1)), k ρ1 _ _ H1 [(.sh (.lst ys), .ref a1), (.sh (.lst xs), .ref a2)] (fun e m => ?_) ⟨F, r1⟩ ItOk.zip q⟩
          rcases List.mem_cons.mp m with rfl | m
          · exact ⟨_, rfl⟩
          · exact shs1 _ _ e m
  · exact q.elim
end

section
variable {K : PySem.W.Frag} {TB : Tbs} {B : Bs} {F : Hp} {ρ : Ev} {σ : St} {es : Ps} {H : Hp}
/-! ### targets -/
def LF (K : PySem.W.Frag) (TB : Tbs) (g : TG) (dg : DG) (is : List Nat) : Prop := ∀ (B : Bs) (F : Hp) (ρ : Ev) (σ : St) (es : Ps) (H : Hp) (x : V) (d : Dt) (Q : St → Hp → Prop) (Qd : Ev → Prop), (∀ e, e ∈ es → ∀ j, e.1 = .al j → j ∉ is) → Rf K TB B F ρ σ es H → Rp K F x d → dg d ρ Qd →
  (∀ ρ' σ', σ'.length = σ.length → (∀ i, i ∉ is → σ'[i]? = σ[i]? ∧ gt ρ' i = gt ρ i) → Rf K TB B F ρ' σ' es H → Qd ρ' → Q σ' H) → g x σ H Q
abbrev DGs := List Dt → Ev → (Ev → Prop) → Prop
def LFs (K : PySem.W.Frag) (TB : Tbs) (g : TGs) (dg : DGs) (is : List Nat) : Prop := ∀ (B : Bs) (F : Hp) (ρ : Ev) (σ : St) (es : Ps) (H : Hp) (xs : List V) (ds : List Dt) (Q : St → Hp → Prop) (Qd : Ev → Prop), (∀ e, e ∈ es → ∀ j, e.1 = .al j → j ∉ is) → Rf K TB B F ρ σ es H → RpA K F xs ds → dg ds ρ Qd →
  (∀ ρ' σ', σ'.length = σ.length → (∀ i, i ∉ is → σ'[i]? = σ[i]? ∧ gt ρ' i = gt ρ i) → Rf K TB B F ρ' σ' es H → Qd ρ' → Q σ' H) → g xs σ H Q
def dgN (i : Nat) : DG := fun d ρ Q => Q (ρ.set i (.sh d))
theorem lf_name {i : Nat} : LF K TB (gName i) (dgN i) [i] := fun B F ρ σ es H x d Q Qd z r rx h k => by
  refine k _ _ (by rw [List.length_set]) (fun j hj => ?_) ((r.pushS rx).set (fun e m y => z e m i y (by simp)) (fun j y => nomatch y)) h
  have n : i ≠ j := fun y => hj (by simp [y])
  exact ⟨List.getElem?_set_ne n, by rw [gt_set, if_neg (fun y => n y.1)]⟩
def dgNil : DGs := fun ds ρ Q => match ds with
  | [] => Q ρ
  | _ => False
def dgCons (g : DG) (u : DGs) : DGs := fun ds ρ Q => match ds with
  | d :: ds => g d ρ fun ρ1 => u ds ρ1 Q
  | _ => False
theorem lf_nil : LFs K TB gNil dgNil [] := fun B F ρ σ es H xs ds Q Qd z r rx h k => by
  cases rx with
  | nil => exact ⟨rfl, k ρ σ rfl (fun _ _ => ⟨rfl, rfl⟩) r h⟩
  | cons _ _ => exact h.elim
theorem lf_cons {g : TG} {u : TGs} {dg : DG} {du : DGs} {is js : List Nat} (hg : LF K TB g dg is) (hu : LFs K TB u du js) : LFs K TB (gCons g u) (dgCons dg du) (is ++ js) := fun B F ρ σ es H xs ds Q Qd z r rx h k => by
  cases rx with
  | nil => exact h.elim
  | cons r1 r2 =>
    refine ⟨_, _, rfl, hg B F ρ σ es H _ _ _ _ (fun e m j y q => z e m j y (List.mem_append_left _ q)) r r1 h fun ρ1 σ1 n1 e1 z1 q1 => ?_⟩
    refine hu B F ρ1 σ1 es H _ _ _ _ (fun e m j y q => z e m j y (List.mem_append_right _ q)) z1 r2 q1 fun ρ2 σ2 n2 e2 z2 q2 => k ρ2 σ2 (n2.trans n1) (fun i hi => ?_) z2 q2
    have a := e1 i (fun q => hi (List.mem_append_left _ q))
    have b := e2 i (fun q => hi (List.mem_append_right _ q))
    exact ⟨b.1.trans a.1, b.2.trans a.2⟩
def dgT (n : Nat) (u : DGs) : DG := fun d ρ Q => match d with
  | .tup ds => ds.length = n ∧ u ds ρ Q
  | _ => False
theorem lf_tup {n : Nat} {u : TGs} {du : DGs} {is : List Nat} (hu : LFs K TB u du is) : LF K TB (gTup K n u) (dgT n du) is := fun B F ρ σ es H x d Q Qd z r rx h k => by
  cases rx with
  | tup h1 h2 => exact ⟨_, _, rfl, SqU.at h1 r.sub, h2.len.trans h.1, hu B F ρ σ es H _ _ _ _ z r h2 h.2 k⟩
  | _ => exact h.elim
theorem lg_of {g : TG} {dg : DG} {is : List Nat} (h : LF K TB g dg is) : LG K TB g dg is := fun B ρ σ es H x d Q Qd z ⟨F, r⟩ q k => by
  obtain ⟨u, e, rx⟩ := r.okp
  cases e
  exact h B F ρ σ es H x d Q Qd z r.pop rx q fun ρ' σ' n e r' q' => k ρ' σ' H n e ⟨F, r'⟩ q'
/-- a, b = e -/
def sAsgG (g : DG) (e : DE) : DS := fun D ρ => e ρ fun ρ1 l => match nrm l with
  | .sh d => g d ρ1 D.nx
  | _ => False
theorem ls_asgG {te : TE} {e : DE} {g : TG} {dg : DG} {is : List Nat} (h0 : LE K TB te e) (hg : LF K TB g dg is) : LS K TB (tAsg te g) (sAsgG dg e) := fun B ρ σ es H D Dd z r h k =>
  h0 B ρ σ es H _ _ r h fun ρ1 l v H1 r1 q => by
    obtain ⟨F, r2⟩ := R.nrm r1
    split at q
    · rename_i d gd
      rw [gd] at r2
      exact lg_of hg B ρ1 σ es H1 v d D.nx _ (fun e m j y => absurd y (z e m j)) ⟨F, r2⟩ q fun ρ' σ' H' n _ r' q' => k.nx _ _ _ n r' q'
    · exact q.elim
/-! ### for, while -/
def sFor (src : DI) (tgt : DG) (body : DS) : DS := fun D ρ => src ρ fun ρ1 ds => ∃ Iv : Nat → Ev → Prop, Iv 0 ρ1 ∧
  (∀ i d ρ', ds[i]? = some d → Iv i ρ' → tgt d ρ' fun ρ2 => body { nx := Iv (i + 1), rt := D.rt, bk := D.nx, ct := Iv (i + 1) } ρ2) ∧ ∀ ρ', Iv ds.length ρ' → D.nx ρ'
theorem ls_for {w : TI} {g : TG} {tb : TS} {src : DI} {tgt : DG} {body : DS} {is : List Nat} (hw : LI K TB w src) (hg : LF K TB g tgt is) (hb : LS K TB tb body) : LS K TB (tFor w g tb) (sFor src tgt body) := fun B ρ σ es H D Dd z r h k =>
  hw B ρ σ es H _ _ r h fun ρ1 ds J H1 ps zp r1 it ⟨Iv, i0, turn, fin⟩ => by
    have zz : Shs (ps ++ es) := fun e m => by
      rcases List.mem_append.mp m with m | m
      · exact zp.s e m
      · exact z e m
    have sub : ∀ e, e ∈ ps → e ∈ ps ++ es := fun e m => List.mem_append_left _ m
    refine ⟨fun i m σ' H' => m = ds.length - i ∧ i ≤ ds.length ∧ σ'.length = σ.length ∧ ∃ ρ', Iv i ρ' ∧ R K TB B ρ' σ' (ps ++ es) H', ⟨_, rfl, Nat.zero_le _, rfl, ρ1, i0, r1⟩, ?_⟩
    rintro i m σ' H' ⟨rfl, hi, n1, ρ', iv, r'⟩
    obtain ⟨go, stop, yld⟩ := it B ρ' σ' _ H' r' sub
    by_cases hl : i < ds.length
    · refine .inr ⟨go i hl, fun σ'' H'' => σ''.length = σ.length ∧ ∃ ρ'', Iv (i + 1) ρ'' ∧ R K TB B ρ'' σ'' (ps ++ es) H'', fun σ'' H'' ⟨n2, ρ'', q1, q2⟩ => ⟨ds.length - (i + 1), by omega, rfl, hl, n2, ρ'', q1, q2⟩, fun x H2 y => ?_⟩
      obtain ⟨d, e1, r2⟩ := yld i x H2 hl y
      refine lg_of hg B ρ' σ' (ps ++ es) H2 x d _ _ (fun e m j y => absurd y (zz e m j)) r2 (turn i d ρ' e1 iv) fun ρ2 σ2 H3 n2 _ r3 q3 => ?_
      refine hb B ρ2 σ2 (ps ++ es) H3 _ _ zz r3 q3 ⟨fun ρ4 σ4 H4 n4 r4 q4 => ⟨n4.trans (n2.trans n1), ρ4, q4, r4⟩, k.rt, fun ρ4 σ4 H4 n4 ⟨F4, r4⟩ q4 => k.nx ρ4 σ4 H4 (n4.trans (n2.trans n1)) ⟨F4, r4.app⟩ q4, fun ρ4 σ4 H4 n4 r4 q4 => ⟨n4.trans (n2.trans n1), ρ4, q4, r4⟩⟩
    · obtain rfl : i = ds.length := by omega
      obtain ⟨F', r''⟩ := r'
      exact .inl ⟨stop, k.nx ρ' σ' H' n1 ⟨F', r''.app⟩ (fin ρ' iv)⟩
def sWhile (c : DTs) (body : DS) : DS := fun D ρ => ∃ Iv : Nat → Ev → Prop, (∃ m, Iv m ρ) ∧ ∀ m ρ', Iv m ρ' → c ρ' fun ρ1 b =>
  (b = true → body { nx := fun ρ2 => ∃ m', m' < m ∧ Iv m' ρ2, rt := D.rt, bk := D.nx, ct := fun ρ2 => ∃ m', m' < m ∧ Iv m' ρ2 } ρ1) ∧ (b = false → D.nx ρ1)
theorem ls_while {c : TT} {tb : TS} {dc : DTs} {body : DS} (hc : LT K TB c dc) (hb : LS K TB tb body) : LS K TB (tWhile c tb) (sWhile dc body) := fun B ρ σ es H D Dd z r ⟨Iv, ⟨m0, i0⟩, turn⟩ k => by
  refine ⟨fun m σ' H' => σ'.length = σ.length ∧ ∃ ρ', Iv m ρ' ∧ R K TB B ρ' σ' es H', ⟨m0, rfl, ρ, i0, r⟩, ?_⟩
  rintro m σ' H' ⟨n1, ρ', iv, r'⟩
  refine hc B ρ' σ' es H' _ _ r' (turn m ρ' iv) fun ρ1 b H1 r1 q => ?_
  cases b with
  | true =>
    refine iteT ⟨fun σ'' H'' => σ''.length = σ.length ∧ ∃ m', m' < m ∧ ∃ ρ'', Iv m' ρ'' ∧ R K TB B ρ'' σ'' es H'', fun σ'' H'' ⟨n2, m', h1, ρ'', h2, h3⟩ => ⟨m', h1, n2, ρ'', h2, h3⟩, ?_⟩
    exact hb B ρ1 σ' es H1 _ _ z r1 (q.1 rfl) ⟨fun ρ4 σ4 H4 n4 r4 ⟨m', a, b⟩ => ⟨n4.trans n1, m', a, ρ4, b, r4⟩, k.rt, fun ρ4 σ4 H4 n4 r4 q4 => k.nx ρ4 σ4 H4 (n4.trans n1) r4 q4, fun ρ4 σ4 H4 n4 r4 ⟨m', a, b⟩ => ⟨n4.trans n1, m', a, ρ4, b, r4⟩⟩
  | false => exact iteF (k.nx ρ1 σ' H1 n1 r1 (q.2 rfl))
/-! ### list comprehensions -/
def nos : List Nat → Ev → Bool
  | [], _ => true
  | i :: is, ρ => match gt ρ i with
    | .no => nos is ρ
    | _ => false
theorem nos_at : ∀ {is : List Nat} {i : Nat}, nos is ρ = true → i ∈ is → gt ρ i = .no
  | j :: is, i, h, m => by
    unfold nos at h
    split at h
    · rename_i e
      rcases List.mem_cons.mp m with rfl | m
      · exact e
      · exact nos_at h m
    · cases h
/-- what an iterator yields while the environment stays -/
def ItC (K : PySem.W.Frag) (TB : Tbs) (J : It) (ρ : Ev) (σ : St) (ps : Ps) (ds : List Dt) : Prop := ∀ (B : Bs) (es : Ps) (H : Hp), R K TB B ρ σ es H → (∀ e, e ∈ ps → e ∈ es) →
  (∀ i, i < ds.length → J.go i H) ∧ J.stop ds.length H ∧ ∀ i x H', i < ds.length → J.yld i H x H' → ∃ d, ds[i]? = some d ∧ R K TB B ρ σ ((.sh d, x) :: es) H'
def LIC (K : PySem.W.Frag) (TB : Tbs) (w : TI) (s : DI) : Prop := ∀ (B : Bs) (ρ : Ev) (σ : St) (es : Ps) (H : Hp) (Rr : It → Hp → Prop) (Qd : Ev → List Dt → Prop), R K TB B ρ σ es H → s ρ Qd → (∀ ρ' ds J H' ps, Shs ps → R K TB B ρ' σ (ps ++ es) H' → ItC K TB J ρ' σ ps ds → Qd ρ' ds → Rr J H') → w σ H Rr
theorem LI.c {w : TI} {s : DI} (h : LI K TB w s) : LIC K TB w s := fun B ρ σ es H Rr Qd r q k => h B ρ σ es H Rr Qd r q fun ρ' ds J H' ps z r' it q' => k ρ' ds J H' ps z.s r' (fun B es H r m => it B ρ' σ es H r m) q'
def eLc (own : List Nat) (src : DI) (tgt : DG) (tst : DTs) (elt : DE) : DE := fun ρ Qd => src ρ fun ρ1 ds => (nos own ρ1 = true ∧ ds.length ≤ 100000) ∧ ∃ G : Nat → List Dt → Prop, G 0 [] ∧
  (∀ i d acc, ds[i]? = some d → G i acc → tgt d ρ1 fun ρ2 => tst ρ2 fun ρ3 b => (b = true → elt ρ3 fun ρ4 l => ρ4 = ρ2 ∧ (match nrm l with | .sh d' => G (i + 1) (acc ++ [d']) | _ => False)) ∧ (b = false → ρ3 = ρ2 ∧ G (i + 1) acc)) ∧
  ∀ acc, G ds.length acc → Qd ρ1 (.ow acc)
theorem wipe_eq : ∀ {vs : List Nat} {σ1 σ2 : St}, σ1.length = σ2.length → (∀ i, i ∉ vs → σ1[i]? = σ2[i]?) → wipe σ1 vs = wipe σ2 vs := fun {vs σ1 σ2} n h => by
  refine List.ext_getElem? fun i => ?_
  by_cases m : i ∈ vs
  · have key : ∀ (vs : List Nat) (σ : St), i ∈ vs → (wipe σ vs)[i]? = if i < σ.length then some none else none := fun vs => by
      induction vs with
      | nil => exact fun σ m => nomatch m
      | cons v vs ih =>
        intro σ m
        show ((wipe σ vs).set v none)[i]? = _
        by_cases e : v = i
        · subst e
          rw [List.getElem?_set]
          simp only [if_true, wipe_length]
        · rw [List.getElem?_set_ne e]
          exact ih σ ((List.mem_cons.mp m).resolve_left (fun z => e z.symm))
    rw [key vs σ1 m, key vs σ2 m, n]
  · rw [wipe_out m, wipe_out m, h i m]
theorem le_lcC {w : TI} {g : TG} {tt : TT} {te : TE} {own : List Nat} {src : DI} {tgt : DG} {tst : DTs} {elt : DE} {is : List Nat} (hw : LIC K TB w src) (hg : LF K TB g tgt is) (ht : LT K TB tt tst) (he : LE K TB te elt) (hi : ∀ i, i ∈ is → i ∈ own) : LE K TB (tLc w g tt te own) (eLc own src tgt tst elt) := fun B ρ σ es H Q Qd r h k =>
  hw B ρ σ es H _ _ r h fun ρ1 ds J H1 ps zp r1 it ⟨⟨hno, hz⟩, G, g0, turn, fin⟩ => by
    intro D hD
    obtain ⟨F1, r1⟩ := r1
    have alOk : ∀ e, e ∈ ps ++ es → ∀ j, e.1 = .al j → ∀ F H, Ok K F H ρ1 σ e.1 (some e.2) := fun e m j q F H => by
      have := r1.ok (e.1, some e.2) (List.mem_append_left _ (List.mem_map.mpr ⟨e, m, rfl⟩))
      rw [q] at this ⊢
      exact this
    have sub : ∀ acc (e : Lo × V), e ∈ ps → e ∈ ((.ow acc, .ref D) : Lo × V) :: (ps ++ es) := fun acc e m => List.mem_cons_of_mem _ (List.mem_append_left _ m)
    have jown : ∀ j o F H, Ok K F H ρ1 σ (.al j) o → j ∉ own := fun j o F H q m => q.1 (nos_at hno m)
    refine ⟨fun i m H' => m = ds.length - i ∧ i ≤ ds.length ∧ ∃ acc, acc.length ≤ i ∧ G i acc ∧ R K TB B ρ1 σ ((.ow acc, .ref D) :: (ps ++ es)) H', ⟨_, rfl, Nat.zero_le _, [], Nat.le_refl _, g0, F1, r1.newLst .nil hD⟩, ?_⟩
    rintro i m H' ⟨rfl, hin, acc, hacc, gi, r'⟩
    obtain ⟨go, stop, yld⟩ := it B _ H' r' (sub acc)
    by_cases hl : i < ds.length
    · refine .inr ⟨go i hl, fun H'' => ∃ acc', acc'.length ≤ i + 1 ∧ G (i + 1) acc' ∧ R K TB B ρ1 σ ((.ow acc', .ref D) :: (ps ++ es)) H'', fun H'' q => ⟨ds.length - (i + 1), by omega, rfl, hl, q⟩, fun x H2 y => ?_⟩
      obtain ⟨d, e1, F2, r2⟩ := yld i x H2 hl y
      have ln : ρ1.length = σ.length := r1.len
      -- into the block
      have wk : WkL ρ1 (wipe σ own) ρ1 σ := WkL.of rfl (wipe_length σ own) ln fun j => by
        by_cases m : j ∈ own
        · exact .inl (nos_at hno m)
        · exact .inr ⟨rfl, wipe_out m⟩
      have alw : ∀ e, e ∈ ((.sh d, x) : Lo × V) :: ((.ow acc, .ref D) : Lo × V) :: (ps ++ es) → ∀ j, e.1 = .al j → e ∈ ps ++ es := fun e m j q => by
        rcases List.mem_cons.mp m with rfl | m
        · cases q
        · rcases List.mem_cons.mp m with rfl | m
          · cases q
          · exact m
      have r3 := r2.env wk fun e m j q => by
        have := alOk e (alw e m j q) j q F2 H2
        rw [q] at this ⊢
        exact ⟨this.1, by rw [wipe_out (jown j _ _ _ this)]; exact this.2⟩
      refine lg_of hg B ρ1 (wipe σ own) _ H2 x d _ _ (fun e m j q z => ?_) ⟨F2, r3⟩ (turn i d acc e1 gi) fun ρ2 σ2 H3 n2 same2 r4 q4 => ?_
      · have := alOk e (alw e (List.mem_cons_of_mem _ m) j q) j q F2 H2
        rw [q] at this
        exact jown j _ _ _ this (hi j z)
      refine ⟨(wipe_eq (by rw [n2, wipe_length]) fun j hj => ?_), ?_⟩
      · rw [(same2 j (fun z => hj (hi j z))).1, wipe_out hj]
      have ln2 : ρ2.length = σ2.length := r4.choose_spec.len
      have back : WkL ρ1 σ ρ2 σ2 := WkL.of (by rw [ln2, n2, wipe_length, ln]) (by rw [n2, wipe_length]) ln2 fun j => by
        by_cases m : j ∈ own
        · exact .inl (nos_at hno m)
        · obtain ⟨s1, s2⟩ := same2 j (fun z => m (hi j z))
          exact .inr ⟨s2.symm, by rw [s1, wipe_out m]⟩
      have goback : ∀ F4 H4 acc', Rf K TB B F4 ρ2 σ2 ((.ow acc', .ref D) :: (ps ++ es)) H4 → R K TB B ρ1 σ ((.ow acc', .ref D) :: (ps ++ es)) H4 := fun F4 H4 acc' r5 => ⟨F4, r5.env back fun e m j q => by
        rcases List.mem_cons.mp m with rfl | m
        · cases q
        · exact alOk e m j q F4 H4⟩
      refine ht B ρ2 σ2 _ H3 _ _ r4 q4 fun ρ3 b H4 r5 q5 => ?_
      cases b with
      | true =>
        refine iteT (he B ρ3 σ2 _ H4 _ _ r5 (q5.1 rfl) fun ρ4 l v H5 r6 ⟨e4, q6⟩ => ?_)
        subst e4
        obtain ⟨F6, r7⟩ := R.nrm r6
        split at q6
        · rename_i d' gd
          rw [gd] at r7
          obtain ⟨u, f1, f2⟩ := r7.okp
          cases f1
          obtain ⟨a, vs, g1, g2, g3⟩ := r7.pop.okp
          cases g1
          exact ⟨vs, g2, small6 (by rw [g3.len]; omega), acc ++ [d'], by rw [List.length_append, List.length_singleton]; omega, q6, goback F6 _ _ (r7.pop.mutP rfl rfl (fun z => nomatch z) ⟨_, _, rfl, upd_same, g3.app (.cons f2 .nil)⟩)⟩
        · exact q6.elim
      | false =>
        obtain ⟨e3, q6⟩ := q5.2 rfl
        subst e3
        obtain ⟨F5, r5⟩ := r5
        exact iteF ⟨acc, by omega, q6, goback F5 _ _ r5⟩
    · obtain rfl : i = ds.length := by omega
      obtain ⟨F', r''⟩ := r'
      refine .inl ⟨stop, k ρ1 (.ow acc) _ H' ⟨F', r''.part ?_⟩ (fin acc gi)⟩
      unfold ens
      rw [List.map_cons, List.map_cons, List.cons_append, List.cons_append, List.map_append, List.append_assoc]
      exact (List.sublist_append_right _ _).cons₂ _
theorem le_lc {w : TI} {g : TG} {tt : TT} {te : TE} {own : List Nat} {src : DI} {tgt : DG} {tst : DTs} {elt : DE} {is : List Nat} (hw : LI K TB w src) (hg : LF K TB g tgt is) (ht : LT K TB tt tst) (he : LE K TB te elt) (hi : ∀ i, i ∈ is → i ∈ own) : LE K TB (tLc w g tt te own) (eLc own src tgt tst elt) := le_lcC hw.c hg ht he hi
def dYes : DTs := fun ρ Qd => Qd ρ true
theorem lt_yes : LT K TB tYes dYes := fun _ _ _ _ _ _ _ r h k => k _ _ _ r h
/-! ### calls -/
abbrev Ct := List Lo → (Lo → Prop) → Prop
def spOf (K : PySem.W.Frag) (TB : Tbs) (c : Ct) : Sp := fun vs H Q _ => ∃ (F : Hp) (ls : List Lo) (S : List Addr) (Qd : Lo → Prop), ls.length = vs.length ∧ Rf K TB ⟨H, F, S⟩ F ls (vs.map some) [] H ∧ c ls Qd ∧
  ∀ l v H', (∀ j, l ≠ .al j) → (∀ a, a ∈ cells (l, some v) → H a = none) → R K TB ⟨H, F, S⟩ [] [] [(l, v)] H' → Qd l → Q v H'
def argL (ρ : Ev) : Lo → Lo
  | .al j => match gt ρ j with
    | .src => .src
    | _ => .no
  | .sh d => .sh d
  | .src => .src
  | _ => .no
def noAl : List Lo → Bool
  | [] => true
  | .al _ :: _ => false
  | .src :: _ => false
  | _ :: ls => noAl ls
def oneAl : List Lo → Bool
  | [] => true
  | .al _ :: ls => noAl ls
  | .src :: ls => noAl ls
  | _ :: ls => oneAl ls
theorem argL_na (ρ : Ev) (l : Lo) (j : Nat) : argL ρ l ≠ .al j := by
  unfold argL
  split
  · split <;> exact fun z => nomatch z
  · exact fun z => nomatch z
  · exact fun z => nomatch z
  · exact fun z => nomatch z
theorem argL_cell {ρ : Ev} {l : Lo} {v : V} {a : Addr} (h : a ∈ cells (argL ρ l, some v)) : argL ρ l = .src ∧ v = .ref a ∧ (l = .src ∨ ∃ j, l = .al j ∧ gt ρ j = .src) := by
  unfold argL at h ⊢
  split at h
  · rename_i j
    split at h
    · rename_i g
      cases v <;> first | exact in0 h | (cases in1 h; exact ⟨by simp [g], rfl, .inr ⟨j, rfl, g⟩⟩)
    · exact in0 h
  · exact in0 h
  · cases v <;> first | exact in0 h | (cases in1 h; exact ⟨rfl, rfl, .inl rfl⟩)
  · exact in0 h
theorem noAl_cells (ρ : Ev) : ∀ (ls : List Lo) (vs : List V), noAl ls = true → ((ls.map (argL ρ)).zip (vs.map some)).flatMap cells = []
  | [], _, _ => rfl
  | _ :: _, [], _ => rfl
  | l :: ls, v :: vs, h => by
    have t : noAl ls = true ∧ (∀ j, l ≠ .al j) ∧ l ≠ .src := by
      cases l <;> first | exact ⟨h, (fun j z => nomatch z), (fun z => nomatch z)⟩ | cases h
    show ((argL ρ l, some v) :: (ls.map (argL ρ)).zip (vs.map some)).flatMap cells = []
    cases q : cells (argL ρ l, some v) with
    | nil => rw [flC0 q]; exact noAl_cells ρ ls vs t.1
    | cons a u =>
      obtain ⟨_, _, e | ⟨j, e, _⟩⟩ := argL_cell (ρ := ρ) (l := l) (v := v) (a := a) (by rw [q]; exact List.mem_cons_self)
      · exact absurd e t.2.2
      · exact absurd e (t.2.1 j)
theorem oneAl_cells (ρ : Ev) : ∀ (ls : List Lo) (vs : List V), oneAl ls = true → (((ls.map (argL ρ)).zip (vs.map some)).flatMap cells).length ≤ 1
  | [], _, _ => by simp
  | _ :: _, [], _ => by simp
  | l :: ls, v :: vs, h => by
    show (((argL ρ l, some v) :: (ls.map (argL ρ)).zip (vs.map some)).flatMap cells).length ≤ 1
    cases q : cells (argL ρ l, some v) with
    | nil =>
      rw [flC0 q]
      have n1 : ∀ ls : List Lo, noAl ls = true → oneAl ls = true := fun ls n => by
        induction ls with
        | nil => rfl
        | cons x xs ih => cases x <;> first | exact ih n | cases n
      have t : oneAl ls = true := by
        cases l <;> first | exact h | exact n1 ls h
      exact oneAl_cells ρ ls vs t
    | cons a u =>
      obtain ⟨e1, rfl, e2⟩ := argL_cell (ρ := ρ) (l := l) (v := v) (a := a) (by rw [q]; exact List.mem_cons_self)
      have t : noAl ls = true := by
        obtain rfl | ⟨j, rfl, _⟩ := e2
        · exact h
        · exact h
      rw [List.flatMap_cons, noAl_cells ρ ls vs t, e1]
      exact Nat.le_refl _
theorem argL_ok {l : Lo} {v : V} (r : Rf K TB B F ρ σ es H) (m : (l, some v) ∈ ens es ρ σ) (ρ' : Ev) (σ' : St) : Ok K F H ρ' σ' (argL ρ l) (some v) := by
  have ok := r.ok _ m
  cases l with
  | sh d => exact ok
  | no => trivial
  | ow d => trivial
  | od d => trivial
  | fd o w d => trivial
  | oi C p n d => trivial
  | tr t => trivial
  | sk t => trivial
  | src => exact ok.env fun j z => nomatch z
  | al j =>
    have e : argL ρ (.al j) = (match gt ρ j with | .src => .src | _ => .no) := rfl
    obtain ⟨n1, u, e3, e4⟩ := ok
    cases e3
    obtain ⟨o, f1, f2, f3⟩ := r.slot n1
    rw [e4] at f1
    cases f1
    rw [e]
    cases g : gt ρ j with
    | src =>
      rw [g] at f3
      exact f3
    | _ => trivial
theorem call_start {ls : List Lo} {vs : List V} (r : Rf K TB B F ρ σ ((ls.zip vs).reverse ++ es) H) (n : ls.length = vs.length) (hk : oneAl ls = true) :
    Rf K TB ⟨H, F, ((ls.map (argL ρ)).zip (vs.map some)).flatMap cells⟩ F (ls.map (argL ρ)) (vs.map some) [] H ∧ ∀ a, a ∈ ((ls.map (argL ρ)).zip (vs.map some)).flatMap cells → (.src, some (.ref a)) ∈ ens ((ls.zip vs).reverse ++ es) ρ σ := by
  have mem : ∀ e, e ∈ (ls.map (argL ρ)).zip (vs.map some) → ∃ l v, e = (argL ρ l, some v) ∧ (l, some v) ∈ ens ((ls.zip vs).reverse ++ es) ρ σ := fun e m => by
    rw [List.zip_map] at m
    obtain ⟨p, mp, rfl⟩ := List.mem_map.mp m
    exact ⟨p.1, p.2, rfl, List.mem_append_left _ (List.mem_map.mpr ⟨p, List.mem_append_left _ (List.mem_reverse.mpr mp), rfl⟩)⟩
  have srcs : ∀ e a, e ∈ (ls.map (argL ρ)).zip (vs.map some) → a ∈ cells e → e = (.src, some (.ref a)) ∧ Src H a ∧ (.src, some (.ref a)) ∈ ens ((ls.zip vs).reverse ++ es) ρ σ := fun e a m c => by
    obtain ⟨l, v, rfl, m'⟩ := mem e m
    obtain ⟨e2, rfl, rfl | ⟨j, rfl, g⟩⟩ := argL_cell c
    · obtain ⟨a', q1, q2⟩ := r.ok _ m'
      cases q1
      exact ⟨rfl, q2, m'⟩
    obtain ⟨n1, u, e3, e4⟩ := r.ok _ m'
    cases e3
    obtain ⟨o, f1, f2, f3⟩ := r.slot n1
    rw [e4] at f1
    cases f1
    have zz := zip_get e4 n1
    rw [g] at f3 zz
    obtain ⟨a', q1, q2⟩ := f3
    cases q1
    exact ⟨by rw [e2], q2, List.mem_append_right _ (List.mem_of_getElem? zz)⟩
  refine ⟨⟨by simp [n], fun l m j => ?_, r.sub, r.tab, fun e m => ?_, ?_, fun e a m c => ?_, fun b o _ _ q => q, fun b q => q, fun b o q => q, fun b o q => .inl q, fun a m => ?_⟩, fun a m => ?_⟩
  · obtain ⟨l', _, rfl⟩ := List.mem_map.mp m
    exact argL_na ρ l' j
  · obtain ⟨l, v, rfl, m'⟩ := mem e m
    exact argL_ok r m' _ _
  · have := oneAl_cells ρ ls vs hk
    show (((ls.map (argL ρ)).zip (vs.map some)).flatMap cells).Nodup
    match ((ls.map (argL ρ)).zip (vs.map some)).flatMap cells, this with
    | [], _ => exact List.nodup_nil
    | [a], _ => simp
  · obtain ⟨e1, e2, e3⟩ := srcs e a m c
    have := r.out _ a e3 (inC rfl)
    refine ⟨this.1, this.2.1, .inr ⟨by rw [e1], List.mem_flatMap.mpr ⟨e, m, c⟩⟩⟩
  · obtain ⟨e, m', c⟩ := List.mem_flatMap.mp m
    obtain ⟨_, e2, _⟩ := srcs e a m' c
    refine ⟨e2, ?_⟩
    obtain ⟨x, y, z⟩ := e2
    rw [show (Bs.mk H F _).H a = H a from rfl, z]
    exact fun z => nomatch z
  · obtain ⟨e, m', c⟩ := List.mem_flatMap.mp m
    exact (srcs e a m' c).2.2
/-- behind a call -/
theorem call_end {S : List Addr} {l : Lo} {v : V} {H' : Hp} (r : Rf K TB B F ρ σ es H) (hS : ∀ a, a ∈ S → (.src, some (.ref a)) ∈ ens es ρ σ) (hl : ∀ j, l ≠ .al j) (hc : ∀ a, a ∈ cells (l, some v) → H a = none) (q : R K TB ⟨H, F, S⟩ [] [] [(l, v)] H') : R K TB B ρ σ ((l, v) :: es) H' := by
  obtain ⟨F', q⟩ := q
  have sF : Same F F' := q.k3
  have nF : ∀ a, F a = none → H a ≠ none → F' a = none := fun a h1 h2 => by
    cases e : F' a with
    | none => rfl
    | some o => rcases q.k4 a o e with z | z
                · rw [show (Bs.mk H F S).F a = F a from rfl, h1] at z; cases z
                · exact absurd z h2
  have src1 : ∀ e a, e ∈ ens es ρ σ → a ∈ cells e → a ∈ S → e.1 = .src := fun e a m c s => by
    have h1 := hS a s
    -- two entries with one cell are one
    by_cases z : e = (.src, some (.ref a))
    · rw [z]
    · exfalso
      have nd := r.nd
      obtain ⟨A, C, e1⟩ := List.append_of_mem h1
      rw [e1] at m nd
      have m' : e ∈ A ++ C := by
        rcases List.mem_append.mp m with y | y
        · exact List.mem_append_left _ y
        · rcases List.mem_cons.mp y with y | y
          · exact absurd y z
          · exact List.mem_append_right _ y
      have p := (List.perm_middle (a := ((.src, some (.ref a)) : Lo × Option V)) (l₁ := A) (l₂ := C)).flatMap_right cells
      rw [flC1 (show cells (Lo.src, some (V.ref a)) = [a] from rfl)] at p
      exact (List.nodup_cons.mp (p.nodup_iff.mp nd)).1 (List.mem_flatMap.mpr ⟨e, m', c⟩)
  have clls : ∀ e a, e ∈ ens es ρ σ → a ∈ cells e → H' a = H a ∨ (e.1 = .src ∧ Src H' a) := fun e a m c => by
    by_cases s : a ∈ S
    · exact .inr ⟨src1 e a m c s, (q.ks a s).1⟩
    · cases z : H a with
      | none => exact absurd z ((r.ok e m).cellAt c)
      | some o => exact .inl (q.k1 a o s (r.out e a m c).2.1 z)
  have lok := q.okp
  refine ⟨F', r.len, r.na, q.sub, q.tab, fun e m => ?_, ?_, fun e a m c => ?_, fun b o b1 b2 e => ?_, fun b e => ?_, fun b o e => sF b o (r.k3 b o e), fun b o e => ?_, fun a ha => ⟨?_, (r.ks a ha).2⟩⟩
  · rcases List.mem_cons.mp m with rfl | m
    · exact lok.env fun j z => absurd z (hl j)
    · exact (r.ok e m).mono sF fun a c => clls e a m c
  · show (((l, some v) :: ens es ρ σ).flatMap cells).Nodup
    rw [List.flatMap_cons]
    refine List.nodup_append.mpr ⟨q.nd.sublist (fm_subl (l := [(l, some v)]) (List.Sublist.refl _)) |> fun z => by simpa using z, r.nd, fun a c b m e1 => ?_⟩
    obtain ⟨e, m', c'⟩ := List.mem_flatMap.mp m
    exact (r.ok e m').cellAt c' (hc b (e1 ▸ c))
  · rcases List.mem_cons.mp m with rfl | m
    · have o := q.out _ a mem_hd c
      exact ⟨o.1, o.2.1, .inl (r.k2 a (hc a c))⟩
    · have o := r.out e a m c
      exact ⟨nF a o.1 ((r.ok e m).cellAt c), o.2.1, o.2.2⟩
  · have h1 := r.k1 b o b1 b2 e
    by_cases s : b ∈ S
    · have o' := r.out _ b (hS b s) (inC rfl)
      rcases o'.2.2 with z | z
      · rw [z] at e; cases e
      · exact absurd z.2 b1
    · exact q.k1 b o s b2 h1
  · exact r.k2 b (q.k2 b e)
  · rcases q.k4 b o e with z | z
    · exact r.k4 b o z
    · exact .inr (r.k2 b z)
  · by_cases s : a ∈ S
    · exact (q.ks a s).1
    · obtain ⟨x, y, z⟩ := (r.ks a ha).1
      exact ⟨x, y, q.k1 a _ s (fun hP => by
        obtain ⟨ps, e⟩ := r.same_out hP
        rw [z] at e; cases e) z⟩
def eCall (c : Ct) (dl : List Dt) (a : DA) : DE := fun ρ Qd => a ρ fun ρ1 ls => match oneAl ls with
  | true => c (ls.map (argL ρ1) ++ dl.map Lo.sh) fun l => Qd ρ1 l
  | false => False
theorem Rf.dv {S : List Addr} {ls : List Lo} {vs dvs : List V} {dl : List Dt} (r : Rf K TB ⟨H, F, S⟩ F ls (vs.map some) [] H) (hd : RpA K F dvs dl) : Rf K TB ⟨H, F, S⟩ F (ls ++ dl.map Lo.sh) ((vs ++ dvs).map some) [] H := by
  have n : ls.length = (vs.map some).length := r.len
  have e : ens [] (ls ++ dl.map Lo.sh) ((vs ++ dvs).map some) = ls.zip (vs.map some) ++ (dl.map Lo.sh).zip (dvs.map some) := by
    show (ls ++ dl.map Lo.sh).zip ((vs ++ dvs).map some) = _
    rw [List.map_append, List.zip_append n]
  have sh : ∀ e, e ∈ (dl.map Lo.sh).zip (dvs.map some) → ∃ d v, e = (.sh d, some v) ∧ Rp K F v d := by
    intro e m
    obtain ⟨i, hi, e1⟩ := List.getElem_of_mem m
    have e2 := List.getElem?_eq_getElem hi
    rw [e1, List.getElem?_zip_eq_some, List.getElem?_map, List.getElem?_map] at e2
    obtain ⟨p, q⟩ := e2
    cases y : dl[i]? with
    | none => rw [y] at p; cases p
    | some d =>
      obtain ⟨v, w, rr⟩ := hd.get y
      rw [y] at p
      rw [w] at q
      obtain ⟨a, b⟩ := e
      cases p
      cases q
      exact ⟨d, v, rfl, rr⟩
  have nc : ((dl.map Lo.sh).zip (dvs.map some)).flatMap cells = [] := by
    rw [List.flatMap_eq_nil_iff]
    intro e m
    obtain ⟨d, v, rfl, _⟩ := sh e m
    rfl
  refine ⟨by simp [hd.len]; simpa using n, fun l m j => ?_, r.sub, r.tab, fun x m => ?_, ?_, fun x a m c => ?_, r.k1, r.k2, r.k3, r.k4, r.ks⟩
  · rcases List.mem_append.mp m with m | m
    · exact r.na l m j
    · obtain ⟨d, _, rfl⟩ := List.mem_map.mp m
      exact fun z => nomatch z
  · rw [e] at m
    rcases List.mem_append.mp m with m | m
    · exact (r.ok x m).env fun j q => absurd q (r.na _ (List.of_mem_zip m).1 j)
    · obtain ⟨d, v, rfl, q⟩ := sh x m
      exact ⟨v, rfl, q⟩
  · rw [e, List.flatMap_append, nc, List.append_nil]
    exact r.nd
  · rw [e] at m
    rcases List.mem_append.mp m with m | m
    · exact r.out x a m c
    · obtain ⟨d, v, rfl, q⟩ := sh x m
      exact in0 c
theorem le_call {c : Ct} {dvs : List V} {dl : List Dt} {E : XK} {ta : TA} {a : DA} (hd : ∀ F, RpA K F dvs dl) (ha : LA K TB ta a) : LE K TB (tCall (spOf K TB c) dvs E ta) (eCall c dl a) := fun B ρ σ es H Q Qd r h k =>
  ha B ρ σ es H _ _ r h fun ρ1 ls vs H1 n ⟨F, r1⟩ q => by
    split at q
    · rename_i hk
      obtain ⟨r2, hS⟩ := call_start r1 n hk
      refine ⟨F, _, _, _, by simp [n, (hd F).len], r2.dv (hd F), q, fun l v H' hl hc z q' => ?_⟩
      obtain ⟨F', z'⟩ := call_end r1 hS hl hc z
      refine k ρ1 l v H' ⟨F', z'.part ?_⟩ q'
      unfold ens
      rw [List.map_cons, List.map_cons, List.map_append, List.cons_append, List.cons_append, List.append_assoc]
      exact (List.sublist_append_right _ _).cons₂ _
    · exact q.elim
theorem le_call0 {c : Ct} {E : XK} {ta : TA} {a : DA} (ha : LA K TB ta a) : LE K TB (tCall (spOf K TB c) [] E ta) (eCall c [] a) := le_call (fun _ => .nil) ha
theorem Rf.pad {ls : List Lo} {vs : List V} (m : Nat) (r : Rf K TB B F ls (vs.map some) [] H) : Rf K TB B F (ls ++ List.replicate m Lo.no) (vs.map some ++ List.replicate m none) [] H := by
  have e : ens [] (ls ++ List.replicate m Lo.no) (vs.map some ++ List.replicate m none) = ls.zip (vs.map some) ++ (List.replicate m Lo.no).zip (List.replicate m (none : Option V)) := by
    show (ls ++ List.replicate m Lo.no).zip (vs.map some ++ List.replicate m none) = _
    rw [List.zip_append r.len]
  have no : ∀ e, e ∈ (List.replicate m Lo.no).zip (List.replicate m (none : Option V)) → e.1 = .no := fun e q => List.eq_of_mem_replicate (List.of_mem_zip q).1
  have nc : ((List.replicate m Lo.no).zip (List.replicate m (none : Option V))).flatMap cells = [] := by
    rw [List.flatMap_eq_nil_iff]
    intro e q
    obtain ⟨l, o⟩ := e
    cases no _ q
    rfl
  refine ⟨by simp; simpa using r.len, fun l q j => ?_, r.sub, r.tab, fun x q => ?_, ?_, fun x a q c => ?_, r.k1, r.k2, r.k3, r.k4, r.ks⟩
  · rcases List.mem_append.mp q with q | q
    · exact r.na l q j
    · rw [List.eq_of_mem_replicate q]; exact fun z => nomatch z
  · rw [e] at q
    rcases List.mem_append.mp q with q | q
    · exact (r.ok x q).env fun j y => absurd y (r.na _ (List.of_mem_zip q).1 j)
    · rw [no x q]; trivial
  · rw [e, List.flatMap_append, nc, List.append_nil]
    exact r.nd
  · rw [e] at q
    rcases List.mem_append.mp q with q | q
    · exact r.out x a q c
    · obtain ⟨l, o⟩ := x
      cases no _ q
      exact in0 c
/-- a def's body -/
def padE : Nat → Ev → Ev
  | 0, _ => []
  | n + 1, [] => .no :: padE n []
  | n + 1, l :: ls => l :: padE n ls
theorem padE_eq : ∀ (n : Nat) (ls : Ev), ls.length ≤ n → padE n ls = ls ++ List.replicate (n - ls.length) Lo.no
  | 0, [], _ => rfl
  | 0, _ :: _, h => by simp at h
  | n + 1, [], _ => by
    show Lo.no :: padE n [] = _
    rw [padE_eq n [] (Nat.zero_le _)]
    simp [List.replicate_succ]
  | n + 1, l :: ls, h => by
    show l :: padE n ls = _
    rw [padE_eq n ls (by simpa using h)]
    simp
theorem df_body {N : List Str} {c : Ct} {t : TS} {s : DS} {vs : List V} {Q : VK} {E : XK} {m : Nat} (L : LS K TB t s) (h : spOf K TB c vs H Q E) (hm : N.length = m) (hv : vs.length ≤ m)
    (hb : ∀ ls Qd, c ls Qd → s ⟨fun _ => Qd (.sh .non), Qd, fun _ => False, fun _ => False⟩ (padE m ls)) : t { nx := fun _ H' => Q .non H', rt := Q } (start N vs) H := by
  obtain ⟨F, ls, S, Qd, n, r, hc, k⟩ := h
  have e : padE m ls = ls ++ List.replicate (N.length - vs.length) Lo.no := by rw [padE_eq m ls (by omega), hm, n]
  refine L _ _ _ [] H _ ⟨fun _ => Qd (.sh .non), Qd, fun _ => False, fun _ => False⟩ (fun e m => nomatch m) ⟨F, r.pad _⟩ (e ▸ hb ls Qd hc) ⟨fun ρ σ H' _ ⟨F', r'⟩ q => ?_, fun l v H' hl hs r' q => ?_, fun _ _ _ _ _ q => q.elim, fun _ _ _ _ _ q => q.elim⟩
  · exact k (.sh .non) .non H' (fun j z => nomatch z) (fun a c => nomatch c) ⟨F', (r'.pushS .non).bare List.mem_cons_self rfl (fun j z => nomatch z)⟩ q
  · refine k l v H' hl (fun a c => ?_) r' q
    obtain ⟨F', r'⟩ := r'
    exact (r'.out _ a mem_hd c).2.2.elim id fun z => absurd z.1 hs
theorem spOf_len {c : Ct} {vs : List V} {Q : VK} {E : XK} {n : Nat} (h : spOf K TB c vs H Q E) (hn : ∀ ls Qd, c ls Qd → ls.length = n) : vs.length = n := by
  obtain ⟨F, ls, S, Qd, m, r, hc, k⟩ := h
  rw [← m]; exact hn ls Qd hc
end

section
variable {K : PySem.W.Frag} {TB : Tbs} {B : Bs} {F : Hp} {ρ : Ev} {σ : St} {es : Ps} {H : Hp}
/-! ### isinstance -/
def tyD (d : Dt) : Option String := match d with
  | .int _ => some "int"
  | .bl _ => some "bool"
  | .lst _ => some "list"
  | .tup _ => some "tuple"
  | .non => some "NoneType"
  | .str _ => some "str"
  | .dic _ => some "dict"
  | _ => none
/-- isinstance(x, T): d's type and T -/
inductive IsD : String → String → Bool → Prop
  | ii : IsD "int" "int" true
  | ib : IsD "int" "bool" false
  | bi : IsD "bool" "int" true
  | bb : IsD "bool" "bool" true
  | ll : IsD "list" "list" true
  | lt : IsD "list" "tuple" false
  | tt : IsD "tuple" "tuple" true
  | tl : IsD "tuple" "list" false
  | ni : IsD "NoneType" "int" false
  | nb : IsD "NoneType" "bool" false
  | nl : IsD "NoneType" "list" false
  | nt : IsD "NoneType" "tuple" false
  | ti : IsD "tuple" "int" false
  | li : IsD "list" "int" false
  | ss : IsD "str" "str" true
theorem IsD.kit {a b : String} {r : Bool} (h : IsD a b r) : PySem.W.kitOne K (.type a) (.type b) = some r := by
  cases h <;> exact kit_ty (by decide +kernel)
theorem Rf.entTy (h : Rf K TB B F ρ σ es H) {e : Lo × Option V} (m : e ∈ ens es ρ σ) {d : Dt} (q : dat ρ e.1 = some d) {n : String} (t : tyD d = some n) : ∃ v, e.2 = some v ∧ TyX K H v (.type n) := by
  cases d with
  | lst ds => cases t; obtain ⟨a, vs, e1, h1, _⟩ := h.entL m q; exact ⟨_, e1, .base (.lst h1)⟩
  | dic ds => cases t; obtain ⟨a, vs, e1, h1, _⟩ := h.entD m q; exact ⟨_, e1, .base (.dK h1)⟩
  | int i => cases t; obtain ⟨u, e1, r⟩ := h.entO m q (fun _ z => nomatch z) (fun _ z => nomatch z); cases r; exact ⟨_, e1, .base (.int i)⟩
  | bl i => cases t; obtain ⟨u, e1, r⟩ := h.entO m q (fun _ z => nomatch z) (fun _ z => nomatch z); cases r; exact ⟨_, e1, .base (.bl i)⟩
  | non => cases t; obtain ⟨u, e1, r⟩ := h.entO m q (fun _ z => nomatch z) (fun _ z => nomatch z); cases r; exact ⟨_, e1, .base .non⟩
  | str i => cases t; obtain ⟨u, e1, r⟩ := h.entO m q (fun _ z => nomatch z) (fun _ z => nomatch z); cases r; exact ⟨_, e1, .base (.str i)⟩
  | tup ds =>
    cases t
    obtain ⟨u, e1, r⟩ := h.entO m q (fun _ z => nomatch z) (fun _ z => nomatch z)
    cases r with
    | tup h1 h2 =>
      rcases SqU.at h1 h.sub with (x | ⟨o, x⟩) | ⟨o, _, _, x, y, _⟩
      · exact ⟨_, e1, .base (.tup x)⟩
      · exact ⟨_, e1, .fTuple x⟩
      · exact ⟨_, e1, .kTuple x y⟩
  | _ => cases t
def eIsi (a : DA) : DE := fun ρ Qd => a ρ fun ρ1 ls => match ls with
  | [l, .sh (.ty n)] => (match dat ρ1 l with
    | some d => (match tyD d with
      | some m => ∃ b, IsD m n b ∧ Qd ρ1 (.sh (.bl b))
      | none => False)
    | none => False)
  | _ => False
theorem le_isi {ta : TA} {a : DA} (ha : LA K TB ta a) : LE K TB (tCB (rIsi K) ta) (eIsi a) := fun B ρ σ es H Q Qd r h k => ha B ρ σ es H _ _ r h fun ρ1 ls vs H1 n ⟨F, r1⟩ q => by
  split at q
  · rename_i l n' _
    split at q
    · rename_i d hd
      split at q
      · rename_i m hm
        obtain ⟨b, hb, q⟩ := q
        match vs, n, r1 with
        | [v, w], _, r1 =>
          obtain ⟨u1, e1, rr1⟩ := Rf.okp (e := (.sh (.ty n'), w)) r1
          cases e1
          cases rr1
          obtain ⟨u2, e2, ty⟩ := Rf.entTy (e := (l, some v)) r1 snd_mem hd hm
          cases e2
          exact ⟨_, _, _, _, b, rfl, .ty _, ty, hb.kit, k _ _ _ _ ⟨F, r1.app.pushS (.bl _)⟩ q⟩
      · exact q.elim
    · exact q.elim
  · exact q.elim
theorem le_ty {n : String} : LE K TB (tC (.ty n)) (eC (.ty n)) := le_c fun _ => .ty n
/-! ### sorted, of whole numbers -/
def eSorted (a : DA) : DE := fun ρ Qd => a ρ fun ρ1 ls => one ls fun l => ∃ is : List Int, dat ρ1 l = some (.lst (is.map Dt.int)) ∧ ∀ js : List Int, js.Perm is → js.Pairwise (· ≤ ·) → Qd ρ1 (.ow (js.map Dt.int))
theorem ints_rp : ∀ is : List Int, RpA K F (is.map V.int) (is.map Dt.int)
  | [] => .nil
  | i :: is => .cons (.int i) (ints_rp is)
theorem le_sorted {ta : TA} {a : DA} (ha : LA K TB ta a) : LE K TB (tCB (rSortedI K) ta) (eSorted a) := fun B ρ σ es H Q Qd r h k => ha B ρ σ es H _ _ r h fun ρ1 ls vs H1 n ⟨F, r1⟩ q => by
  obtain ⟨l, v, rfl, rfl, ⟨is, e, q⟩⟩ := one_l n q
  obtain ⟨p, ws, e1, e2, rr⟩ := r1.entL mem_hd e
  cases Option.some.inj e1
  exact ⟨p, is, rfl, .inl (.inl (by rw [← rr.ints]; exact e2)), fun js p hp hs hn => k _ _ _ _ ⟨F, r1.pop.newLst (ints_rp js) hn⟩ (q js hp hs)⟩
/-! ### starred items -/
def aStar (a : DE) (r : DA) : DA := fun ρ Qd => a ρ fun ρ1 l => match nrm l with
  | .sh (.lst ds) => r ρ1 fun ρ2 ls => Qd ρ2 (ds.map .sh ++ ls)
  | .sh (.tup ds) => r ρ1 fun ρ2 ls => Qd ρ2 (ds.map .sh ++ ls)
  | _ => False
theorem shs_sh : ∀ (ds : List Dt) (ls : List Lo), shs (ds.map .sh ++ ls) = (match shs ls with | some es => some (ds ++ es) | none => none)
  | [], ls => by
    show shs ls = _
    cases shs ls <;> rfl
  | d :: ds, ls => by
    show (match shs (ds.map .sh ++ ls) with | some es => some (d :: es) | none => none) = _
    rw [shs_sh ds ls]
    cases shs ls <;> rfl
/-- all the values of pending data are pushed -/
theorem Rf.pushA : ∀ {vs : List V} {ds : List Dt} {es : Ps}, Rf K TB B F ρ σ es H → RpA K F vs ds → Rf K TB B F ρ σ (((ds.map Lo.sh).zip vs).reverse ++ es) H
  | [], [], _, h, _ => h
  | v :: vs, d :: ds, es, h, .cons r t => by
    show Rf K TB B F ρ σ ((((.sh d, v) : Lo × V) :: (ds.map Lo.sh).zip vs).reverse ++ es) H
    rw [List.reverse_cons, List.append_assoc]
    exact Rf.pushA (h.pushS r) t
theorem la_star {te : TE} {tr : TA} {a : DE} {r : DA} (ha : LE K TB te a) (hr : LA K TB tr r) : LA K TB (StX.tStar K te tr) (aStar a r) := fun B ρ σ es H Q Qd z h k =>
  ha B ρ σ es H _ _ z h fun ρ1 l v H1 z1 q => by
    obtain ⟨F, r2⟩ := R.nrm z1
    split at q
    · rename_i ds gd
      rw [gd] at r2
      obtain ⟨u, e1, rr⟩ := r2.okp
      cases e1
      cases rr with
      | @lst p vs _ h1 h2 =>
        refine ⟨p, vs, rfl, .inr (.inl (.inl (r2.sub _ _ h1))), hr B ρ1 σ _ H1 _ _ ⟨F, r2.pop.pushA h2⟩ q fun ρ2 ls ws H2 n z2 q2 => k ρ2 _ _ H2 (by simp [n, h2.len]) ?_ q2⟩
        rw [List.zip_append (by simp [h2.len]), List.reverse_append, List.append_assoc]
        exact z2
    · rename_i ds gd
      rw [gd] at r2
      obtain ⟨u, e1, rr⟩ := r2.okp
      cases e1
      cases rr with
      | @tup p vs _ h1 h2 =>
        refine ⟨p, vs, rfl, .inl (SqU.at h1 r2.sub), hr B ρ1 σ _ H1 _ _ ⟨F, r2.pop.pushA h2⟩ q fun ρ2 ls ws H2 n z2 q2 => k ρ2 _ _ H2 (by simp [n, h2.len]) ?_ q2⟩
        rw [List.zip_append (by simp [h2.len]), List.reverse_append, List.append_assoc]
        exact z2
    · exact q.elim
/-- y = x, of a list of one's own: it goes over -/
def sMove (i j : Nat) : DS := fun D ρ => match gt ρ j with
  | .ow ds => D.nx ((ρ.set j .no).set i (.ow ds))
  | .od ds => D.nx ((ρ.set j .no).set i (.od ds))
  | .src => D.nx ((ρ.set j .no).set i .src)
  | .tr t => D.nx ((ρ.set j .no).set i (.tr t))
  | _ => False
theorem ls_move {i j : Nat} : LS K TB (tAsg (tVar j) (gName i)) (sMove i j) := fun B ρ σ es H D Dd z ⟨F, r⟩ h k => by
  unfold sMove at h
  have n : gt ρ j ≠ .no := fun y => by rw [y] at h; exact h
  obtain ⟨o, e, m, q⟩ := r.slot n
  have na := r.na _ (gt_mem n)
  have go : ∀ v, o = some v → Dd.nx ((ρ.set j .no).set i (gt ρ j)) → tAsg (tVar j) (gName i) D σ H := fun v ev h => by
    subst ev
    exact ⟨v, e, k.nx _ _ _ (by rw [List.length_set]) ⟨F, (r.take n e z).set (fun e m => z e m i) na⟩ h⟩
  revert h q go
  cases gt ρ j <;> intro h q go
  · exact h.elim
  · exact h.elim
  · obtain ⟨a, vs, e1, _⟩ := q; exact go _ e1 h
  · obtain ⟨a, vs, e1, _⟩ := q; exact go _ e1 h
  · exact h.elim
  · exact h.elim
  · obtain ⟨a, e1, _⟩ := q; exact go _ e1 h
  · obtain ⟨v, e1, _⟩ := q; exact go _ e1 h
  · exact h.elim
  · exact h.elim
end

section
variable {K : PySem.W.Frag} {TB : Tbs} {B : Bs} {F : Hp} {ρ : Ev} {σ : St} {es : Ps} {H : Hp}
def eIxQ (a b : DE) : DE := fun ρ Qd => a ρ fun ρ1 l1 => b ρ1 fun ρ2 l2 => match seqL ρ2 l1, l2 with
  | some ds, .sh (.int i) => ∃ d, atI ds i = some d ∧ Qd ρ2 (.sh d)
  | _, _ => False
theorem le_ixQ {ta tb : TE} {a b : DE} (ha : LE K TB ta a) (hb : LE K TB tb b) : LE K TB (tOp (rIx K) ta tb) (eIxQ a b) := fun B ρ σ es H Q Qd r h k =>
  ha B ρ σ es H _ _ r h fun ρ1 l1 v1 H1 r1 q1 => hb B ρ1 σ _ H1 _ _ r1 q1 fun ρ2 l2 v2 H2 ⟨F, r2⟩ q2 => by
    split at q2
    · rename_i hd _
      obtain ⟨d, h1, q⟩ := q2
      obtain ⟨p, vs, e, hl, rr⟩ := r2.entQ snd_mem hd
      obtain rfl := r2.intP
      cases Option.some.inj e
      obtain ⟨v, g1, g2⟩ := atI_map rr h1
      rcases hl with hl | hl
      · exact .inl ⟨_, _, _, v, rfl, rfl, hl, g1, k _ _ _ _ ⟨F, r2.pop.pop.pushS g2⟩ q⟩
      · exact .inr (.inl ⟨_, _, _, v, rfl, rfl, hl, g1, k _ _ _ _ ⟨F, r2.pop.pop.pushS g2⟩ q⟩)
    · exact q2.elim
/-! ### sources and draws -/
def cSource : Ct := fun ls Q => ∃ (ns : List Int) (p : Int), ls = [.sh (.scr ns), .sh (.int p)] ∧ 0 ≤ p ∧ Q .src
def cDraw : Ct := fun ls Q => ∃ n : Int, ls = [.src, .sh (.int n)] ∧ (0 < n ∧ n < 1073741824) ∧ ∀ r : Int, 0 ≤ r → r < n → Q (.sh (.int r))
def cBetween : Ct := fun ls Q => ∃ lo hi : Int, ls = [.src, .sh (.int lo), .sh (.int hi)] ∧ (lo ≤ hi ∧ hi - lo < 1000000000) ∧ ∀ r : Int, lo ≤ r → r ≤ hi → Q (.sh (.int r))
theorem vs1 {vs : List V} {ls : List Lo} {l : Lo} {S : List Addr} (r : Rf K TB ⟨H, F, S⟩ F (l :: ls) (vs.map some) [] H) : ∃ v ws, vs = v :: ws ∧ (l, some v) ∈ ens [] (l :: ls) (vs.map some) := by
  have n := r.len
  match vs, n with
  | v :: ws, _ => exact ⟨v, ws, rfl, List.mem_cons_self⟩
theorem br_draw {vs : List V} {Q : VK} {E : XK} (h : spOf K TB cDraw vs H Q E) : spDraw vs H Q E := by
  obtain ⟨F, ls, S, Qd, n, r, ⟨m, rfl, hm, c⟩, k⟩ := h
  match vs, n with
  | [x, y], _ =>
    obtain ⟨a, e1, hs⟩ := r.ok (.src, some x) List.mem_cons_self
    obtain ⟨u, e2, ry⟩ := r.ok (.sh (.int m), some y) (List.mem_cons_of_mem _ List.mem_cons_self)
    cases e1
    cases e2
    cases ry
    refine ⟨a, m, rfl, hs, hm.1, hm.2, fun q H' q0 q1 hs' b => k (.sh (.int q)) (.int q) H' (fun j z => nomatch z) (fun a c => nomatch c) ?_ (c q q0 q1)⟩
    obtain ⟨f1, f2, f3⟩ := r.out (.src, some (.ref a)) a List.mem_cons_self (inC rfl)
    have aS : a ∈ S := f3.elim (fun z => absurd hs (fun ⟨x, y, w⟩ => by rw [show (Bs.mk H F S).H a = H a from rfl, w] at z; cases z)) And.right
    refine ⟨F, rfl, (fun l m => nomatch m), fun b' o e => b b' o (fun z => by rw [z, f1] at e; cases e) (r.sub b' o e), fun P hP => ⟨?_, (r.tab P hP).2⟩, fun e m => ?_, List.nodup_nil, fun e a m c => ?_, fun b' o b1 b2 e => b b' o (fun z => b1 (z ▸ aS)) e, fun b' e => ?_, fun b' o e => e, fun b' o e => .inl e, fun s ms => ?_⟩
    · obtain ⟨ps, e, t⟩ := (r.tab P hP).1
      exact ⟨ps, b P _ (fun z => f2 (z ▸ hP)) e, t⟩
    · rw [List.mem_singleton.mp m]; exact ⟨_, rfl, .int q⟩
    · rw [List.mem_singleton.mp m] at c; exact in0 c
    · cases z : (Bs.mk H F S).H b' with
      | none => rfl
      | some o =>
        by_cases w : b' = a
        · obtain ⟨x, y, g⟩ := hs'
          rw [w, g] at e; cases e
        · rw [b b' o w z] at e; cases e
    · refine ⟨?_, (r.ks s ms).2⟩
      by_cases w : s = a
      · rw [w]; exact hs'
      · obtain ⟨x, y, g⟩ := (r.ks s ms).1
        exact ⟨x, y, b s _ w g⟩
theorem br_source {vs : List V} {Q : VK} {E : XK} (h : spOf K TB cSource vs H Q E) : spSource K vs H Q E := by
  obtain ⟨F, ls, S, Qd, n, r, ⟨ns, p, rfl, hp, c⟩, k⟩ := h
  match vs, n with
  | [x, y], _ =>
    obtain ⟨u1, e1, rx⟩ := r.ok (.sh (.scr ns), some x) List.mem_cons_self
    obtain ⟨u, e2, ry⟩ := r.ok (.sh (.int p), some y) (List.mem_cons_of_mem _ List.mem_cons_self)
    cases e1
    cases e2
    cases ry
    cases rx with
    | scr hsc =>
      refine ⟨_, ns, p, rfl, r.sub.seq hsc, hp, fun l H' hl s hs => k .src (.ref l) H' (fun j z => nomatch z) (fun a c => by cases in1 c; exact hl) ?_ c⟩
      have fl : F l = none := by
        cases e : F l with
        | none => rfl
        | some o => rw [r.sub l o e] at hl; cases hl
      refine ⟨F, rfl, (fun l m => nomatch m), fun b o e => s b o (r.sub b o e), fun P hP => ⟨?_, (r.tab P hP).2⟩, fun e m => ?_, (show List.Nodup [l] by simp), fun e a m c => ?_, fun b o _ _ e => s b o e, fun b e => ?_, fun b o e => e, fun b o e => .inl e, fun a ms => ⟨(r.ks a ms).1.same s, (r.ks a ms).2⟩⟩
      · obtain ⟨ps, e, t⟩ := (r.tab P hP).1
        exact ⟨ps, s P _ e, t⟩
      · rw [List.mem_singleton.mp m]; exact ⟨l, rfl, hs⟩
      · rw [List.mem_singleton.mp m] at c
        cases in1 c
        refine ⟨fl, fun hP => ?_, .inl hl⟩
        obtain ⟨ps, e⟩ := r.same_out hP
        rw [hl] at e; cases e
      · cases z : (Bs.mk H F S).H b with
        | none => rfl
        | some o => rw [s b o z] at e; cases e
/-! ### the law -/
def cLaw : Ct := fun ls Q => ∃ ns : List Int, ls = [.sh (.scr ns)] ∧ ns.length ≤ 63 ∧ Q (.sh (.bl true))
theorem br_law {vs : List V} {Q : VK} {E : XK} {a : Addr} {ns : List Int} (hv : vs = [.ref a]) (hS : SqL K H a (ns.map V.int)) (hl : ns.length ≤ 63) (hT : ∀ P, P ∈ TB → H P = some (.tbl #[])) (k : ∀ H', Q (.bl true) H') : spOf K TB cLaw vs H Q E := by
  subst hv
  have tabs : ∀ P, P ∈ TB → TabL TB (wo TB.tabs H) H P := fun P hP => ⟨#[], hT P hP, True.intro, fun x hx e cv g => nomatch g⟩
  have sub : Same (wo TB.tabs H) H := wo_same TB.tabs H
  have hS' : SqL K (wo TB.tabs H) a (ns.map V.int) := by
    rcases hS with (h | ⟨o, h⟩) | h
    · exact .inl (.inl (by rw [wo_out (fun z => by rw [hT a z] at h; cases h)]; exact h))
    · exact .inl (.inr ⟨o, by rw [wo_out (fun z => by rw [hT a z] at h; cases h)]; exact h⟩)
    · exact .inr h
  refine ⟨wo TB.tabs H, [.sh (.scr ns)], [], fun l => l = .sh (.bl true), rfl, ⟨rfl, (fun l m j => by rw [List.mem_singleton.mp m]; exact (fun z => nomatch z)), sub, fun P hP => ⟨tabs P hP, wo_in hP⟩, fun e m => ?_, List.nodup_nil, fun e a m c => ?_, fun b o _ _ e => e, fun b e => e, fun b o e => e, fun b o e => .inl e, (fun s ms => nomatch ms)⟩, ⟨ns, rfl, hl, rfl⟩, fun l v H' _ _ q e => ?_⟩
  · rw [List.mem_singleton.mp m]; exact ⟨_, rfl, .scr hS'⟩
  · rw [List.mem_singleton.mp m] at c; exact in0 c
  · subst e
    obtain ⟨F', q⟩ := q
    obtain rfl := q.blP
    exact k H'
end

section
variable {K : PySem.W.Frag} {TB : Tbs} {B : Bs} {F : Hp} {ρ : Ev} {σ : St} {es : Ps} {H : Hp}
/-! ### dicts -/
def putD (kvs : List (Key × Dt)) (k : Key) (v : Dt) : List (Key × Dt) :=
  if (kvs.any fun kv => decide (kv.1 = k)) = true then kvs.map (fun kv => if kv.1 = k then (kv.1, v) else kv) else kvs ++ [(k, v)]
def valD (kvs : List (Key × Dt)) (k : Key) : Option Dt := (kvs.find? fun kv => decide (kv.1 = k)).map (·.2)
theorem RpK.len : ∀ {vs : List (Key × V)} {ds : List (Key × Dt)}, RpK K F vs ds → vs.length = ds.length
  | _, _, .nil => rfl
  | _, _, .cons _ t => congrArg (· + 1) (RpK.len t)
theorem RpK.any {k : Key} : ∀ {vs : List (Key × V)} {ds : List (Key × Dt)}, RpK K F vs ds → (vs.any fun kv => decide (kv.1 = k)) = (ds.any fun kv => decide (kv.1 = k))
  | _, _, .nil => rfl
  | _, _, .cons _ t => by rw [List.any_cons, List.any_cons, RpK.any t]
theorem RpK.mapP {k : Key} {v : V} {d : Dt} (r : Rp K F v d) : ∀ {vs : List (Key × V)} {ds : List (Key × Dt)}, RpK K F vs ds → RpK K F (vs.map (fun kv => if kv.1 = k then (kv.1, v) else kv)) (ds.map (fun kv => if kv.1 = k then (kv.1, d) else kv))
  | _, _, .nil => .nil
  | _, _, .cons (k := k') h t => by
    rw [List.map_cons, List.map_cons]
    by_cases e : k' = k
    · rw [if_pos e, if_pos e]; exact .cons r (RpK.mapP r t)
    · rw [if_neg e, if_neg e]; exact .cons h (RpK.mapP r t)
theorem RpK.snoc {k : Key} {v : V} {d : Dt} (r : Rp K F v d) : ∀ {vs : List (Key × V)} {ds : List (Key × Dt)}, RpK K F vs ds → RpK K F (vs ++ [(k, v)]) (ds ++ [(k, d)])
  | _, _, .nil => .cons r .nil
  | _, _, .cons h t => .cons h (RpK.snoc r t)
theorem RpK.put {k : Key} {v : V} {d : Dt} (r : Rp K F v d) {vs : List (Key × V)} {ds : List (Key × Dt)} (h : RpK K F vs ds) : RpK K F (putK vs k v) (putD ds k d) := by
  unfold putK putD
  rw [h.any]
  split
  · exact h.mapP r
  · exact h.snoc r
theorem RpK.val {k : Key} : ∀ {vs : List (Key × V)} {ds : List (Key × Dt)} {d : Dt}, RpK K F vs ds → valD ds k = some d → ∃ v, valV vs k = some v ∧ Rp K F v d
  | _, _, _, .nil, h => by cases h
  | _, _, d', .cons (k := k') (v := v) (d := d) (vs := vs) (ds := ds) h t, q => by
    unfold valD at q
    by_cases e : k' = k
    · rw [List.find?_cons_of_pos (by simpa using e)] at q
      cases q
      exact ⟨v, valV_pos e, h⟩
    · rw [List.find?_cons_of_neg (by simpa using e)] at q
      obtain ⟨v', q1, q2⟩ := RpK.val t q
      refine ⟨v', ?_, q2⟩
      unfold valV at q1 ⊢
      rw [List.find?_cons_of_neg (by simpa using e)]
      exact q1
theorem RpK.no {k : Key} : ∀ {vs : List (Key × V)} {ds : List (Key × Dt)}, RpK K F vs ds → valD ds k = none → valV vs k = none
  | _, _, .nil, h => rfl
  | _, _, .cons (k := k') (v := v) (d := d) (vs := vs) (ds := ds) h t, q => by
    unfold valD at q
    by_cases e : k' = k
    · rw [List.find?_cons_of_pos (by simpa using e)] at q
      cases q
    · rw [List.find?_cons_of_neg (by simpa using e)] at q
      have := RpK.no t q
      unfold valV at this ⊢
      rw [List.find?_cons_of_neg (by simpa using e)]
      exact this
theorem putD_len (kvs : List (Key × Dt)) (k : Key) (v : Dt) : (putD kvs k v).length ≤ kvs.length + 1 := by
  unfold putD
  split
  · rw [List.length_map]; omega
  · simp
/-- a key's data -/
def keyD : Dt → Option Key
  | .int i => some (.inl i)
  | .str s => some (.inr s)
  | _ => none
theorem key_of {d : Dt} {k : Key} {v : V} (h : keyD d = some k) (r : Rp K F v d) : v = kV k := by
  cases r <;> cases h <;> rfl
/-- {k: v for .. in ..} -/
def eDc (own : List Nat) (src : DI) (tgt : DG) (tst : DTs) (ek ev : DE) : DE := fun ρ Qd => src ρ fun ρ1 ds => (nos own ρ1 = true ∧ ds.length ≤ 100000) ∧ ∃ G : Nat → List (Key × Dt) → Prop, G 0 [] ∧
  (∀ i d acc, ds[i]? = some d → G i acc → tgt d ρ1 fun ρ2 => tst ρ2 fun ρ3 b => (b = true → ek ρ3 fun ρ4 lk => ev ρ4 fun ρ5 l => ρ5 = ρ2 ∧ (match lk, nrm l with | .sh dk, .sh d' => (match keyD dk with | some k => G (i + 1) (putD acc k d') | none => False) | _, _ => False)) ∧ (b = false → ρ3 = ρ2 ∧ G (i + 1) acc)) ∧
  ∀ acc, G ds.length acc → Qd ρ1 (.od acc)
theorem le_dc {w : TI} {g : TG} {tt : TT} {tk tv : TE} {own : List Nat} {src : DI} {tgt : DG} {tst : DTs} {ek ev : DE} {is : List Nat} (hw : LI K TB w src) (hg : LF K TB g tgt is) (ht : LT K TB tt tst) (hek : LE K TB tk ek) (hev : LE K TB tv ev) (hi : ∀ i, i ∈ is → i ∈ own) : LE K TB (tDc w g tt tk tv own) (eDc own src tgt tst ek ev) := fun B ρ σ es H Q Qd r h k =>
  hw B ρ σ es H _ _ r h fun ρ1 ds J H1 ps zp r1 it ⟨⟨hno, hz⟩, G, g0, turn, fin⟩ => by
    intro D hD
    obtain ⟨F1, r1⟩ := r1
    have alOk : ∀ e, e ∈ ps ++ es → ∀ j, e.1 = .al j → ∀ F H, Ok K F H ρ1 σ e.1 (some e.2) := fun e m j q F H => by
      have := r1.ok (e.1, some e.2) (List.mem_append_left _ (List.mem_map.mpr ⟨e, m, rfl⟩))
      rw [q] at this ⊢
      exact this
    have sub : ∀ acc (e : Lo × V), e ∈ ps → e ∈ ((.od acc, .ref D) : Lo × V) :: (ps ++ es) := fun acc e m => List.mem_cons_of_mem _ (List.mem_append_left _ m)
    have jown : ∀ j o F H, Ok K F H ρ1 σ (.al j) o → j ∉ own := fun j o F H q m => q.1 (nos_at hno m)
    refine ⟨fun i m H' => m = ds.length - i ∧ i ≤ ds.length ∧ ∃ acc, acc.length ≤ i ∧ G i acc ∧ R K TB B ρ1 σ ((.od acc, .ref D) :: (ps ++ es)) H', ⟨_, rfl, Nat.zero_le _, [], Nat.le_refl _, g0, F1, r1.newDic hD⟩, ?_⟩
    rintro i m H' ⟨rfl, hin, acc, hacc, gi, r'⟩
    obtain ⟨go, stop, yld⟩ := it B ρ1 σ _ H' r' (sub acc)
    by_cases hl : i < ds.length
    · refine .inr ⟨go i hl, fun H'' => ∃ acc', acc'.length ≤ i + 1 ∧ G (i + 1) acc' ∧ R K TB B ρ1 σ ((.od acc', .ref D) :: (ps ++ es)) H'', fun H'' q => ⟨ds.length - (i + 1), by omega, rfl, hl, q⟩, fun x H2 y => ?_⟩
      obtain ⟨d, e1, F2, r2⟩ := yld i x H2 hl y
      have ln : ρ1.length = σ.length := r1.len
      have wk : WkL ρ1 (wipe σ own) ρ1 σ := WkL.of rfl (wipe_length σ own) ln fun j => by
        by_cases m : j ∈ own
        · exact .inl (nos_at hno m)
        · exact .inr ⟨rfl, wipe_out m⟩
      have alw : ∀ e, e ∈ ((.sh d, x) : Lo × V) :: ((.od acc, .ref D) : Lo × V) :: (ps ++ es) → ∀ j, e.1 = .al j → e ∈ ps ++ es := fun e m j q => by
        rcases List.mem_cons.mp m with rfl | m
        · cases q
        · rcases List.mem_cons.mp m with rfl | m
          · cases q
          · exact m
      have r3 := r2.env wk fun e m j q => by
        have := alOk e (alw e m j q) j q F2 H2
        rw [q] at this ⊢
        exact ⟨this.1, by rw [wipe_out (jown j _ _ _ this)]; exact this.2⟩
      refine lg_of hg B ρ1 (wipe σ own) _ H2 x d _ _ (fun e m j q z => ?_) ⟨F2, r3⟩ (turn i d acc e1 gi) fun ρ2 σ2 H3 n2 same2 r4 q4 => ?_
      · have := alOk e (alw e (List.mem_cons_of_mem _ m) j q) j q F2 H2
        rw [q] at this
        exact jown j _ _ _ this (hi j z)
      refine ⟨(wipe_eq (by rw [n2, wipe_length]) fun j hj => ?_), ?_⟩
      · rw [(same2 j (fun z => hj (hi j z))).1, wipe_out hj]
      have ln2 : ρ2.length = σ2.length := r4.choose_spec.len
      have back : WkL ρ1 σ ρ2 σ2 := WkL.of (by rw [ln2, n2, wipe_length, ln]) (by rw [n2, wipe_length]) ln2 fun j => by
        by_cases m : j ∈ own
        · exact .inl (nos_at hno m)
        · obtain ⟨s1, s2⟩ := same2 j (fun z => m (hi j z))
          exact .inr ⟨s2.symm, by rw [s1, wipe_out m]⟩
      have goback : ∀ F4 H4 acc', Rf K TB B F4 ρ2 σ2 ((.od acc', .ref D) :: (ps ++ es)) H4 → R K TB B ρ1 σ ((.od acc', .ref D) :: (ps ++ es)) H4 := fun F4 H4 acc' r5 => ⟨F4, r5.env back fun e m j q => by
        rcases List.mem_cons.mp m with rfl | m
        · cases q
        · exact alOk e m j q F4 H4⟩
      refine ht B ρ2 σ2 _ H3 _ _ r4 q4 fun ρ3 b H4 r5 q5 => ?_
      cases b with
      | true =>
        refine iteT (hek B ρ3 σ2 _ H4 _ _ r5 (q5.1 rfl) fun ρ4 lk vk H5 r6 q6 => hev B ρ4 σ2 _ H5 _ _ r6 q6 fun ρ5 l v H6 r7 ⟨e4, q7⟩ => ?_)
        subst e4
        obtain ⟨F6, r8⟩ := R.nrm r7
        split at q7
        · rename_i dk d' gd _
          rw [gd] at r8
          split at q7
          · rename_i kk hkk
            obtain ⟨u, f1, f2⟩ := r8.okp
            cases f1
            obtain ⟨u2, f3, f4⟩ := r8.pop.okp
            cases f3
            obtain ⟨a, vs, g1, g2, g3⟩ := r8.pop.pop.okp
            cases g1
            have hl2 := putD_len acc kk d'
            exact ⟨vs, kk, key_of hkk f4, g2, small6 (by rw [g3.len]; omega), putD acc kk d', by omega, q7, goback F6 _ _ (r8.pop.pop.mutP rfl rfl (fun z => nomatch z) ⟨_, _, rfl, upd_same, g3.put f2⟩)⟩
          · exact q7.elim
        · exact q7.elim
      | false =>
        obtain ⟨e3, q6⟩ := q5.2 rfl
        subst e3
        obtain ⟨F5, r5⟩ := r5
        exact iteF ⟨acc, by omega, q6, goback F5 _ _ r5⟩
    · obtain rfl : i = ds.length := by omega
      obtain ⟨F', r''⟩ := r'
      refine .inl ⟨stop, k ρ1 (.od acc) _ H' ⟨F', r''.part ?_⟩ (fin acc gi)⟩
      unfold ens
      rw [List.map_cons, List.map_cons, List.cons_append, List.cons_append, List.map_append, List.append_assoc]
      exact (List.sublist_append_right _ _).cons₂ _
/-- d.update(e): a name's dict, a new dict -/
def mrgD (kvs more : List (Key × Dt)) : List (Key × Dt) := more.foldl (fun acc kv => putD acc kv.1 kv.2) kvs
theorem RpK.mrg : ∀ {ms : List (Key × V)} {more : List (Key × Dt)} {vs : List (Key × V)} {ds : List (Key × Dt)}, RpK K F vs ds → RpK K F ms more → RpK K F (Lz.mrgK vs ms) (mrgD ds more)
  | [], [], _, _, h, _ => h
  | (k, v) :: ms, (_, d) :: more, vs, ds, h, .cons r t => RpK.mrg (vs := putK vs k v) (ds := putD ds k d) (h.put r) t
def sUpd (i : Nat) (e : DE) : DS := fun D ρ => match gt ρ i with
  | .od _ => e ρ fun ρ1 l => (match gt ρ1 i, l with
    | .od ds, .od fs => ds.length + fs.length ≤ 100000 ∧ D.nx (ρ1.set i (.od (mrgD ds fs)))
    | _, _ => False)
  | _ => False
theorem ls_upd {i : Nat} {te : TE} {e : DE} (he : LE K TB te e) : LS K TB (tDrop (tBM K "dict" Lz.rUpd (tVar i) (tCons te tNil))) (sUpd i e) := fun B ρ σ es H D Dd z ⟨F, r⟩ h k => by
  unfold sUpd at h
  split at h
  · rename_i ds0 g
    have n : gt ρ i ≠ .no := by rw [g]; exact fun z => nomatch z
    obtain ⟨o, e1, m, q⟩ := r.slot n
    rw [g] at q
    obtain ⟨a, vs, rfl, hl, rr⟩ := q
    refine ⟨_, e1, .inr (.inr (.inl ⟨rfl, .inl ⟨_, hl⟩⟩)), ?_⟩
    refine he B ρ σ es H _ _ ⟨F, r⟩ h fun ρ1 l v H1 ⟨F2, r2⟩ q => ?_
    split at q
    · rename_i ds fs g1 _
      obtain ⟨b, ws, e2, hb, rb⟩ := r2.okp
      cases e2
      have n1 : gt ρ1 i ≠ .no := by rw [g1]; exact fun z => nomatch z
      obtain ⟨o2, e3, m2, q2⟩ := r2.pop.slot n1
      rw [e1] at e3
      cases e3
      rw [g1] at q2 m2
      obtain ⟨a2, ws2, e4, hl2, rr2⟩ := q2
      cases e4
      have ab : a ≠ b := fun z => by
        have nd := r2.nd
        have e : (ens ((.od fs, .ref b) :: es) ρ1 σ).flatMap cells = b :: (ens es ρ1 σ).flatMap cells := by
          show ((((.od fs, some (.ref b)) : Lo × Option V) :: ens es ρ1 σ).flatMap cells) = _
          rw [flC1 (show cells (Lo.od fs, some (V.ref b)) = [b] from rfl)]
        rw [e] at nd
        exact (List.nodup_cons.mp nd).1 (List.mem_flatMap.mpr ⟨_, m2, by rw [z]; exact inC rfl⟩)
      refine ⟨a, b, ws2, ws, rfl, rfl, ab, hl2, hb, small6' (by rw [rr2.len, rb.len]; exact q.1), ?_⟩
      exact k.nx _ _ _ rfl ⟨F2, r2.pop.mutS (l' := .od (mrgD ds fs)) n1 e1 z (by rw [g1]; rfl) rfl (by rw [g1]; exact fun z => nomatch z) (fun j z => nomatch z) ⟨a, _, rfl, upd_same, rr2.mrg rb⟩⟩ q.2
    · exact q.elim
  · exact h.elim
/-! ### x.index(e), of whole numbers -/
def eIndex (a b : DE) : DE := fun ρ Qd => a ρ fun ρ1 l1 => b ρ1 fun ρ2 l2 => match l2 with
  | .sh (.int i) => ∃ (is : List Int) (j : Nat), dat ρ2 l1 = some (.lst (is.map Dt.int)) ∧ is[j]? = some i ∧ (∀ m, m < j → is[m]? ≠ some i) ∧ Qd ρ2 (.sh (.int (j : Int)))
  | _ => False
theorem le_index {ta tb : TE} {a b : DE} (ha : LE K TB ta a) (hb : LE K TB tb b) : LE K TB (tBM K "list" (rIndex K) ta (tCons tb tNil)) (fun ρ Qd => a ρ fun ρ1 l1 => (∃ ds, dat ρ1 l1 = some (.lst ds)) ∧ eIndex (fun ρ Q => Q ρ l1) b ρ1 Qd) := fun B ρ σ es H Q Qd r h k =>
  ha B ρ σ es H _ _ r h fun ρ1 l1 v1 H1 r1 ⟨⟨ds0, hd0⟩, q1⟩ => by
    obtain ⟨F0, r0⟩ := r1
    obtain ⟨a0, vs0, e0, hl0, rr0⟩ := r0.entL mem_hd hd0
    cases Option.some.inj e0
    refine ⟨.inl ⟨rfl, _, .inl (.inl hl0)⟩, hb B ρ1 σ _ H1 _ _ ⟨F0, r0⟩ q1 fun ρ2 l2 v2 H2 ⟨F, r2⟩ q2 => ?_⟩
    split at q2
    · rename_i i _
      obtain ⟨is, j, e, hj, hn, q⟩ := q2
      obtain ⟨p, vs, e1, f1, g1⟩ := r2.entL snd_mem e
      cases Option.some.inj e1
      obtain rfl := r2.intP
      obtain rfl := g1.ints
      refine ⟨_, _, .int i, j, .int i, rfl, rfl, .inl (.inl f1), rfl, flat_ints is, by rw [List.getElem?_map, hj]; rfl, by show (i == i) = true; simp, fun m z hm hz => ?_, k _ _ _ _ ⟨F, r2.pop.pop.pushS (.int _)⟩ q⟩
      rw [List.getElem?_map] at hz
      cases y : is[m]? with
      | none => rw [y] at hz; cases hz
      | some x =>
        rw [y] at hz
        cases hz
        show (x == i) = false
        exact beq_eq_false_iff_ne.mpr fun z => hn m hm (by rw [y, z])
    · exact q2.elim
/-! ### generator expressions -/
theorem among_ne {p gp : Pos} {c cv : Value} (ne : p.line ≠ gp.line ∨ p.col ≠ gp.col) (l : List Value) (t : TriplesOk l) (h : codeAmong p (l ++ [rawInt (gp.line : Int), rawInt (gp.col : Int), c]) = some cv) : codeAmong p l = some cv := by
  induction l using TriplesOk.induct with
  | case1 =>
    rw [List.nil_append] at h
    unfold rawInt at h
    rw [codeAmong.eq_1, if_neg (by
      rw [Bool.and_eq_true, beq_iff_eq, beq_iff_eq]
      rintro ⟨a, b⟩
      rcases ne with n | n
      · exact n (Int.ofNat.inj a.symm)
      · exact n (Int.ofNat.inj b.symm))] at h
    cases h
  | case2 i a j b x rest ih =>
    rw [List.cons_append, List.cons_append, List.cons_append, codeAmong.eq_1] at h
    rw [codeAmong.eq_1]
    rw [TriplesOk.eq_2] at t
    split at h
    · rename_i z; rw [if_pos z]; exact h
    · rename_i z; rw [if_neg z]; exact ih t h
  | case3 l n1 n2 => rw [TriplesOk.eq_3 l n1 n2] at t; exact t.elim
/-- no lambda of the def stands at gp -/
def LmFree (TB : Tbs) (P : Addr) (gp : Pos) : Prop := ∀ x, x ∈ TB.lams → x.1 = P → x.2.1.line ≠ gp.line ∨ x.2.1.col ≠ gp.col
theorem Rf.tabE {P : Addr} {H2 : Hp} (h : Rf K TB B F ρ σ es H) (hP : P ∈ TB) (tl : TabL TB F H2 P) (t2 : ∀ b, b ≠ P → H2 b = H b) : Rf K TB B F ρ σ es H2 := by
  have fP := (h.tab P hP).2
  have t : Tabbed P H H2 := ⟨tl.g, t2⟩
  refine ⟨h.len, h.na, fun b o e => ?_, fun P' hP' => ⟨?_, (h.tab P' hP').2⟩, fun e m => ?_, h.nd, h.out, fun b o b1 b2 e => ?_, fun b e => ?_, h.k3, h.k4, fun a ha => ⟨?_, (h.ks a ha).2⟩⟩
  · rw [t.2 b (fun z => by rw [z, fP] at e; cases e)]; exact h.sub b o e
  · by_cases z : P' = P
    · rw [z]; exact tl
    · obtain ⟨ps, e, q⟩ := (h.tab P' hP').1
      exact ⟨ps, by rw [t.2 P' z]; exact e, q⟩
  · exact (h.ok e m).mono (fun _ _ z => z) fun a c => .inl (t.2 a (fun z => (h.out e a m c).2.1 (z ▸ hP)))
  · rw [t.2 b (fun z => b2 (z ▸ hP))]; exact h.k1 b o b1 b2 e
  · by_cases z : b = P
    · obtain ⟨ps, q, _⟩ := t.1
      rw [z, q] at e; cases e
    · rw [t.2 b z] at e; exact h.k2 b e
  · obtain ⟨x, y, e⟩ := (h.ks a ha).1
    refine ⟨x, y, ?_⟩
    rw [t.2 a (fun z => by
      obtain ⟨ps, q⟩ := h.same_out hP
      rw [z, q] at e; cases e)]
    exact e
theorem Rf.tabbed {P : Addr} {gp : Pos} {H2 : Hp} (h : Rf K TB B F ρ σ es H) (hP : P ∈ TB) (hg : LmFree TB P gp) (t2 : Gq.Tb2 P gp H H2) : Rf K TB B F ρ σ es H2 := by
  obtain ⟨t, t3⟩ := t2
  have fP := (h.tab P hP).2
  have tl : TabL TB F H2 P := by
    obtain ⟨ps, e, q, lm⟩ := (h.tab P hP).1
    obtain ⟨qs, e2, q2⟩ := t.1
    obtain ⟨more, e3, mk⟩ := t3 ps e
    rw [e2] at e3
    cases e3
    refine ⟨_, e2, q2, fun x hx ex cv hc => lm x hx ex cv ?_⟩
    rcases mk with rfl | ⟨c, rfl⟩
    · simpa using hc
    · rw [Array.toList_append] at hc
      exact among_ne (hg x hx ex) _ q hc
  exact h.tabE hP tl t.2
abbrev DQ := List Dt → Ev → (Dt → Prop) → Prop
/-- what an element says, by data -/
def LQ (K : PySem.W.Frag) (TB : Tbs) (rd : Gq.QT) (q : DQ) : Prop := ∀ (B : Bs) (F : Hp) (ρ : Ev) (σ : St) (es : Ps) (H : Hp) (vs : List V) (ds : List Dt) (Q : V → Prop) (Qd : Dt → Prop), Rf K TB B F ρ σ es H → RpA K F vs ds → q ds ρ Qd → (∀ v d, Rp K F v d → Qd d → Q v) → rd vs σ H Q
def qV (j : Nat) : DQ := fun ds _ Q => ∃ d, ds[j]? = some d ∧ Q d
theorem lq_var {j : Nat} : LQ K TB (Gq.qVar j) (qV j) := fun B F ρ σ es H vs ds Q Qd r rv ⟨d, e, q⟩ k => let ⟨v, e1, r1⟩ := rv.get e; ⟨v, e1, k v d r1 q⟩
def qO (i : Nat) : DQ := fun _ ρ Q => match gt ρ i with
  | .sh d => Q d
  | _ => False
theorem lq_out {i : Nat} : LQ K TB (Gq.qOut i) (qO i) := fun B F ρ σ es H vs ds Q Qd r rv h k => by
  unfold qO at h
  split at h
  · rename_i d g
    obtain ⟨o, e, m, q⟩ := r.slot (i := i) (by rw [g]; exact fun z => nomatch z)
    rw [g] at q
    obtain ⟨v, rfl, r1⟩ := q
    exact ⟨v, e, k v d r1 h⟩
  · exact h.elim
def qK (d : Dt) : DQ := fun _ _ Q => Q d
theorem lq_c {v : V} {d : Dt} (c : ∀ F, Rp K F v d) : LQ K TB (Gq.qC v) (qK d) := fun B F ρ σ es H vs ds Q Qd r rv h k => k v d (c F) h
theorem lq_int {i : Int} : LQ K TB (Gq.qC (.int i)) (qK (.int i)) := lq_c fun _ => .int i
def qCmp (f : Int → Int → Bool) (a b : DQ) : DQ := fun ds ρ Q => a ds ρ fun x => b ds ρ fun y => match x, y with
  | .int i, .int j => Q (.bl (f i j))
  | _, _ => False
theorem lq_cmp {ra rb : Gq.QT} {f : Int → Int → Bool} {a b : DQ} (ha : LQ K TB ra a) (hb : LQ K TB rb b) : LQ K TB (Gq.qc ra rb f) (qCmp f a b) := fun B F ρ σ es H vs ds Q Qd r rv h k =>
  ha B F ρ σ es H vs ds _ _ r rv h fun x d r1 q1 => hb B F ρ σ es H vs ds _ _ r rv q1 fun y e r2 q2 => by
    split at q2
    · cases r1; cases r2; exact ⟨_, _, rfl, rfl, k _ _ (.bl _) q2⟩
    · exact q2.elim
def qBin (ok : Int → Int → Prop) (f : Int → Int → Int) (a b : DQ) : DQ := fun ds ρ Q => a ds ρ fun x => b ds ρ fun y => match x, y with
  | .int i, .int j => ok i j ∧ Q (.int (f i j))
  | _, _ => False
theorem lq_bin {ra rb : Gq.QT} {ok : Int → Int → Prop} {f : Int → Int → Int} {a b : DQ} (ha : LQ K TB ra a) (hb : LQ K TB rb b) : LQ K TB (Gq.q2 ra rb ok f) (qBin ok f a b) := fun B F ρ σ es H vs ds Q Qd r rv h k =>
  ha B F ρ σ es H vs ds _ _ r rv h fun x d r1 q1 => hb B F ρ σ es H vs ds _ _ r rv q1 fun y e r2 q2 => by
    split at q2
    · cases r1; cases r2; exact ⟨_, _, rfl, rfl, q2.1, k _ _ (.int _) q2.2⟩
    · exact q2.elim
def qIdx (a b : DQ) : DQ := fun ds ρ Q => a ds ρ fun x => b ds ρ fun y => match seqD x, y with
  | some es, .int i => ∃ (j : Nat) (d : Dt), i = j ∧ es[j]? = some d ∧ Q d
  | _, _ => False
theorem lq_ix {ra rb : Gq.QT} {a b : DQ} (ha : LQ K TB ra a) (hb : LQ K TB rb b) : LQ K TB (Gq.qIx K ra rb) (qIdx a b) := fun B F ρ σ es H vs ds Q Qd r rv h k =>
  ha B F ρ σ es H vs ds _ _ r rv h fun x d r1 q1 => hb B F ρ σ es H vs ds _ _ r rv q1 fun y e r2 q2 => by
    split at q2
    · rename_i xs i hx
      obtain ⟨j, d', rfl, e1, q⟩ := q2
      cases r2
      cases d with
      | lst zs =>
        cases hx
        cases r1 with
        | lst h1 h2 =>
          obtain ⟨v, e2, r3⟩ := h2.get e1
          exact ⟨_, _, j, v, rfl, rfl, .inl (.inl (.inl (r.sub _ _ h1))), e2, k v d' r3 q⟩
      | tup zs =>
        cases hx
        cases r1 with
        | tup h1 h2 =>
          obtain ⟨v, e2, r3⟩ := h2.get e1
          exact ⟨_, _, j, v, rfl, rfl, .inr (SqU.at h1 r.sub), e2, k v d' r3 q⟩
      | _ => cases hx
    · exact q2.elim
/-- a test of an element -/
abbrev DB := List Dt → Ev → (Bool → Prop) → Prop
def LB (K : PySem.W.Frag) (TB : Tbs) (rt : Gf.QB) (q : DB) : Prop := ∀ (B : Bs) (F : Hp) (ρ : Ev) (σ : St) (es : Ps) (H : Hp) (vs : List V) (ds : List Dt) (Q : Bool → Prop) (Qd : Bool → Prop), Rf K TB B F ρ σ es H → RpA K F vs ds → q ds ρ Qd → (∀ b, Qd b → Q b) → rt vs σ H Q
theorem lb_not {rd : Gf.QB} {q : DB} (h : LB K TB rd q) : LB K TB (fun vs σ H Q => rd vs σ H fun b => Q (!b)) (fun ds ρ Q => q ds ρ fun b => Q (!b)) := fun B F ρ σ es H vs ds Q Qd r rv z k => h B F ρ σ es H vs ds _ _ r rv z fun b q => k _ q
def bChain (f g : Int → Int → Bool) (a b c : DQ) : DB := fun ds ρ Q => a ds ρ fun x => b ds ρ fun y => c ds ρ fun z => match x, y, z with
  | .int i, .int j, .int k => Q (f i j && g j k)
  | _, _, _ => False
/-- the third is read whatever the first two say -/
theorem lb_chain {ra rb rc : Gq.QT} {f g : Int → Int → Bool} {a b c : DQ} (ha : LQ K TB ra a) (hb : LQ K TB rb b) (hc : LQ K TB rc c) : LB K TB (fun vs σ H Q => ra vs σ H fun x => rb vs σ H fun y => ∃ i j, x = .int i ∧ y = .int j ∧ if f i j = true then rc vs σ H fun z => ∃ k, z = .int k ∧ Q (g j k) else Q false)
    (fun ds ρ Q => a ds ρ fun x => b ds ρ fun y => match x, y with
      | .int i, .int j => ∃ d, (f i j = true → c ds ρ fun z => ∃ k, z = .int k ∧ g j k = d) ∧ Q (f i j && d)
      | _, _ => False) := fun B F ρ σ es H vs ds Q Qd r rv h k =>
  ha B F ρ σ es H vs ds _ _ r rv h fun x d r1 q1 => hb B F ρ σ es H vs ds _ _ r rv q1 fun y e r2 q2 => by
    split at q2
    · rename_i i j
      cases r1; cases r2
      obtain ⟨d, h1, q⟩ := q2
      refine ⟨_, _, rfl, rfl, ?_⟩
      cases e : f i j with
      | true =>
        rw [e] at q
        refine iteT (hc B F ρ σ es H vs ds _ _ r rv (h1 e) fun z dz r3 ⟨kk, e3, e4⟩ => ?_)
        subst e3
        cases r3
        exact ⟨kk, rfl, k _ (by rw [e4]; exact q)⟩
      | false =>
        rw [e] at q
        exact iteF (k _ q)
    · exact q2.elim
theorem preSum_list (is : List Int) : ∀ n, n ≤ is.length → PySem.preSum (fun j => is.getD j 0) n = (is.take n).sum
  | 0, _ => by simp [PySem.preSum]
  | n + 1, h => by
    have e : is[n]? = some is[n] := List.getElem?_eq_getElem (by omega)
    show PySem.preSum (fun j => is.getD j 0) n + is.getD n 0 = _
    rw [preSum_list is n (by omega), take_snoc e, List.sum_append, List.getD_eq_getElem?_getD, e]
    simp
/-- sum(elt for x in source), any, all -/
def eGenS (src : DE) (q : DQ) : DE := fun ρ Qd => src ρ fun ρ1 l => match seqL ρ1 l with
  | some ds => ∃ is : List Int, is.length = ds.length ∧ (∀ (i : Nat) (d : Dt) (j : Int), ds[i]? = some d → is[i]? = some j → q [d] ρ1 fun y => y = .int j) ∧ Qd ρ1 (.sh (.int is.sum))
  | none => False
theorem le_genS {P : Addr} {gp : Pos} {rd : Gq.QT} {te : TE} {q : DQ} {src : DE} (hP : P ∈ TB) (hg : LmFree TB P gp) (hs : LE K TB te src) (hq : LQ K TB rd q) : LE K TB (Gq.tGen P gp K rd Gq.resSum te) (eGenS src q) := fun B ρ σ es H Q Qd r h k =>
  hs B ρ σ es H _ _ r h fun ρ1 l v H1 ⟨F, r1⟩ q1 => by
    split at q1
    · rename_i ds e
      obtain ⟨is, hn, hel, qf⟩ := q1
      obtain ⟨a, vs, e1, hl, rr⟩ := r1.entQ mem_hd e
      cases Option.some.inj e1
      refine ⟨(r1.tab P hP).1.g, a, vs, fun i => .int (is.getD i 0), rfl, hl, fun i x hx => ?_, ?_⟩
      · obtain ⟨d, hd, rx⟩ := rr.get' hx
        have hi : i < is.length := by rw [hn]; exact (List.getElem?_eq_some_iff.mp hd).1
        have hj : is[i]? = some (is.getD i 0) := by rw [List.getD_eq_getElem?_getD, List.getElem?_eq_getElem hi]; rfl
        refine hq B F ρ1 σ _ H1 [x] [d] _ _ r1 (.cons rx .nil) (hel i d _ hd hj) fun v d' r' z => ?_
        rw [z] at r'
        cases r'
        rfl
      · refine ⟨fun i => is.getD i 0, fun _ _ => rfl, fun H2 tb => ?_⟩
        rw [preSum_list is _ (by rw [hn, rr.len]; exact Nat.le_refl _), rr.len, ← hn, List.take_length]
        exact k _ _ _ _ ⟨F, (r1.pop.tabbed hP hg tb).pushS (.int _)⟩ qf
    · exact q1.elim
def eGenAny (src : DE) (q : DQ) : DE := fun ρ Qd => src ρ fun ρ1 l => match seqL ρ1 l with
  | some ds => ∃ bs : List Bool, bs.length = ds.length ∧ (∀ (i : Nat) (d : Dt) (j : Bool), ds[i]? = some d → bs[i]? = some j → q [d] ρ1 fun y => y = .bl j) ∧ Qd ρ1 (.sh (.bl (bs.any id)))
  | none => False
def eGenAll (src : DE) (q : DQ) : DE := fun ρ Qd => src ρ fun ρ1 l => match seqL ρ1 l with
  | some ds => ∃ bs : List Bool, bs.length = ds.length ∧ (∀ (i : Nat) (d : Dt) (j : Bool), ds[i]? = some d → bs[i]? = some j → q [d] ρ1 fun y => y = .bl j) ∧ Qd ρ1 (.sh (.bl (bs.all id)))
  | none => False
theorem range_any (bs : List Bool) : (List.range bs.length).any (fun i => bs.getD i false) = bs.any id := by
  rw [Bool.eq_iff_iff, List.any_eq_true, List.any_eq_true]
  constructor
  · rintro ⟨i, hi, h⟩
    have hi := List.mem_range.mp hi
    rw [List.getD_eq_getElem?_getD, List.getElem?_eq_getElem hi] at h
    exact ⟨_, List.getElem_mem hi, h⟩
  · rintro ⟨b, hb, h⟩
    obtain ⟨i, hi, e⟩ := List.getElem_of_mem hb
    refine ⟨i, List.mem_range.mpr hi, ?_⟩
    rw [List.getD_eq_getElem?_getD, List.getElem?_eq_getElem hi]
    show bs[i] = true
    rw [e]; exact h
theorem range_all (bs : List Bool) : (List.range bs.length).all (fun i => bs.getD i false) = bs.all id := by
  rw [Bool.eq_iff_iff, List.all_eq_true, List.all_eq_true]
  constructor
  · intro h b hb
    obtain ⟨i, hi, e⟩ := List.getElem_of_mem hb
    have := h i (List.mem_range.mpr hi)
    rw [List.getD_eq_getElem?_getD, List.getElem?_eq_getElem hi] at this
    rw [← e]; exact this
  · intro h i hi
    have hi := List.mem_range.mp hi
    rw [List.getD_eq_getElem?_getD, List.getElem?_eq_getElem hi]
    exact h _ (List.getElem_mem hi)
theorem le_genAny {P : Addr} {gp : Pos} {rd : Gq.QT} {te : TE} {q : DQ} {src : DE} (hP : P ∈ TB) (hg : LmFree TB P gp) (hs : LE K TB te src) (hq : LQ K TB rd q) : LE K TB (Gq.tGen P gp K rd Gq.resAny te) (eGenAny src q) := fun B ρ σ es H Q Qd r h k =>
  hs B ρ σ es H _ _ r h fun ρ1 l v H1 ⟨F, r1⟩ q1 => by
    split at q1
    · rename_i ds e
      obtain ⟨is, hn, hel, qf⟩ := q1
      obtain ⟨a, vs, e1, hl, rr⟩ := r1.entQ mem_hd e
      cases Option.some.inj e1
      refine ⟨(r1.tab P hP).1.g, a, vs, fun i => .bl (is.getD i false), rfl, hl, fun i x hx => ?_, ?_⟩
      · obtain ⟨d, hd, rx⟩ := rr.get' hx
        have hi : i < is.length := by rw [hn]; exact (List.getElem?_eq_some_iff.mp hd).1
        have hj : is[i]? = some (is.getD i false) := by rw [List.getD_eq_getElem?_getD, List.getElem?_eq_getElem hi]; rfl
        refine hq B F ρ1 σ _ H1 [x] [d] _ _ r1 (.cons rx .nil) (hel i d _ hd hj) fun v d' r' z => ?_
        rw [z] at r'
        cases r'
        rfl
      · refine ⟨fun i => is.getD i false, fun _ _ => rfl, fun H2 tb => ?_⟩
        rw [rr.len, ← hn, range_any]
        exact k _ _ _ _ ⟨F, (r1.pop.tabbed hP hg tb).pushS (.bl _)⟩ qf
    · exact q1.elim
theorem le_genAll {P : Addr} {gp : Pos} {rd : Gq.QT} {te : TE} {q : DQ} {src : DE} (hP : P ∈ TB) (hg : LmFree TB P gp) (hs : LE K TB te src) (hq : LQ K TB rd q) : LE K TB (Gq.tGen P gp K rd Gq.resAll te) (eGenAll src q) := fun B ρ σ es H Q Qd r h k =>
  hs B ρ σ es H _ _ r h fun ρ1 l v H1 ⟨F, r1⟩ q1 => by
    split at q1
    · rename_i ds e
      obtain ⟨is, hn, hel, qf⟩ := q1
      obtain ⟨a, vs, e1, hl, rr⟩ := r1.entQ mem_hd e
      cases Option.some.inj e1
      refine ⟨(r1.tab P hP).1.g, a, vs, fun i => .bl (is.getD i false), rfl, hl, fun i x hx => ?_, ?_⟩
      · obtain ⟨d, hd, rx⟩ := rr.get' hx
        have hi : i < is.length := by rw [hn]; exact (List.getElem?_eq_some_iff.mp hd).1
        have hj : is[i]? = some (is.getD i false) := by rw [List.getD_eq_getElem?_getD, List.getElem?_eq_getElem hi]; rfl
        refine hq B F ρ1 σ _ H1 [x] [d] _ _ r1 (.cons rx .nil) (hel i d _ hd hj) fun v d' r' z => ?_
        rw [z] at r'
        cases r'
        rfl
      · refine ⟨fun i => is.getD i false, fun _ _ => rfl, fun H2 tb => ?_⟩
        rw [rr.len, ← hn, range_all]
        exact k _ _ _ _ ⟨F, (r1.pop.tabbed hP hg tb).pushS (.bl _)⟩ qf
    · exact q1.elim
end

section
variable {K : PySem.W.Frag} {TB : Tbs} {B : Bs} {F : Hp} {ρ : Ev} {σ : St} {es : Ps} {H : Hp}
/-! ### sum(elt for a, b, c in source if test) -/
theorem passing_len (pz : Nat → Bool) (n : Nat) : PySem.passing pz n 0 = (List.range n).filter pz := by
  unfold PySem.passing
  rw [List.drop_zero]
/-- the test and the element are functions of the item -/
def eGenTF (src : DE) (q : DQ) (t : DB) : DE := fun ρ Qd => src ρ fun ρ1 l => match seqL ρ1 l with
  | some ds => (∀ (i : Nat) (d : Dt), ds[i]? = some d → ∃ xs, d = .tup xs ∧ xs.length = 3) ∧ ∃ (pz : List Bool) (is : List Int), pz.length = ds.length ∧ is.length = ds.length ∧
    (∀ (i : Nat) (xs : List Dt) (b : Bool) (j : Int), ds[i]? = some (.tup xs) → pz[i]? = some b → is[i]? = some j → t xs ρ1 (fun c => c = b) ∧ (b = true → q xs ρ1 fun y => y = .int j)) ∧
    Qd ρ1 (.sh (.int (((pz.zip is).filter fun p => p.1).map fun p => p.2).sum))
  | none => False
theorem tf_sum : ∀ (pz : List Bool) (is : List Int), pz.length = is.length → ((((List.range is.length).filter fun i => pz.getD i false)).map fun i => is.getD i 0).sum = (((pz.zip is).filter fun p => p.1).map fun p => p.2).sum
  | [], [], _ => rfl
  | b :: pz, j :: is, h => by
    have ih := tf_sum pz is (by simpa using h)
    rw [List.length_cons, List.range_succ_eq_map, List.filter_cons, List.filter_map]
    have e : ((List.range is.length).filter ((fun i => (b :: pz).getD i false) ∘ Nat.succ)) = (List.range is.length).filter fun i => pz.getD i false := by
      refine List.filter_congr fun i _ => ?_
      simp
    rw [e]
    cases b
    · rw [if_neg (by simp)]
      rw [List.map_map]
      show ((List.map ((fun i => (j :: is).getD i 0) ∘ Nat.succ) _)).sum = _
      have : ((fun i => (j :: is).getD i 0) ∘ Nat.succ) = fun i => is.getD i 0 := by funext i; simp
      rw [this, ih]
      rfl
    · rw [if_pos (by simp)]
      rw [List.map_cons, List.map_map]
      have : ((fun i => (j :: is).getD i 0) ∘ Nat.succ) = fun i => is.getD i 0 := by funext i; simp
      rw [this, List.sum_cons, ih]
      rfl
theorem pre_list (l : List Nat) (g : Nat → Int) : ∀ n, n ≤ l.length → PySem.preSum (fun j => g (l.getD j 0)) n = ((l.take n).map g).sum
  | 0, _ => by simp [PySem.preSum]
  | n + 1, h => by
    have e : l[n]? = some l[n] := List.getElem?_eq_getElem (by omega)
    show PySem.preSum (fun j => g (l.getD j 0)) n + g (l.getD n 0) = _
    rw [pre_list l g n (by omega), take_snoc e, List.map_append, List.sum_append, List.getD_eq_getElem?_getD, e]
    simp
theorem le_genTF {P : Addr} {gp : Pos} {rd : Gq.QT} {rt : Gf.QB} {te : TE} {q : DQ} {t : DB} {src : DE} (hP : P ∈ TB) (hg : LmFree TB P gp) (hs : LE K TB te src) (hq : LQ K TB rd q) (ht : LB K TB rt t) : LE K TB (Gf.tGenTF P gp K rd rt Gq.resSum te) (eGenTF src q t) := fun B ρ σ es H Q Qd r h k =>
  hs B ρ σ es H _ _ r h fun ρ1 l v H1 ⟨F, r1⟩ q1 => by
    split at q1
    · rename_i ds e
      obtain ⟨h3, pz, is, np, ni, hel, qf⟩ := q1
      obtain ⟨a, vs, e1, hl, rr⟩ := r1.entQ mem_hd e
      cases Option.some.inj e1
      have tri : ∀ (i : Nat) (x : V), vs[i]? = some x → ∃ (u : Addr) (ws : List V) (xs : List Dt), x = .ref u ∧ SqT K H1 u ws ∧ RpA K F ws xs ∧ ds[i]? = some (.tup xs) ∧ xs.length = 3 := fun i x hx => by
        obtain ⟨d, hd, rx⟩ := rr.get' hx
        obtain ⟨xs, rfl, n3⟩ := h3 i d hd
        cases rx with
        | tup h1 h2 => exact ⟨_, _, xs, rfl, SqU.at h1 r1.sub, h2, hd, n3⟩
      have ch : ∃ tp : Nat → List V, ∀ (i : Nat) (x : V), vs[i]? = some x → ∃ (u : Addr) (xs : List Dt), x = .ref u ∧ SqT K H1 u (tp i) ∧ RpA K F (tp i) xs ∧ ds[i]? = some (.tup xs) ∧ xs.length = 3 := by
        classical
        refine ⟨fun i => if h : ∃ ws, ∀ x, vs[i]? = some x → ∃ (u : Addr) (xs : List Dt), x = .ref u ∧ SqT K H1 u ws ∧ RpA K F ws xs ∧ ds[i]? = some (.tup xs) ∧ xs.length = 3 then h.choose else [], fun i x hx => ?_⟩
        have hh : ∃ ws, ∀ x, vs[i]? = some x → ∃ (u : Addr) (xs : List Dt), x = .ref u ∧ SqT K H1 u ws ∧ RpA K F ws xs ∧ ds[i]? = some (.tup xs) ∧ xs.length = 3 := by
          obtain ⟨u, ws, xs, e1, e2, e3, e4, e5⟩ := tri i x hx
          refine ⟨ws, fun x' hx' => ?_⟩
          rw [hx] at hx'
          cases hx'
          exact ⟨u, xs, e1, e2, e3, e4, e5⟩
        simp only [dif_pos hh]
        exact hh.choose_spec x hx
      obtain ⟨tp, htp⟩ := ch
      have at' : ∀ i, i < vs.length → ∃ (u : Addr) (xs : List Dt), SqT K H1 u (tp i) ∧ RpA K F (tp i) xs ∧ ds[i]? = some (.tup xs) ∧ xs.length = 3 ∧ pz[i]? = some (pz.getD i false) ∧ is[i]? = some (is.getD i 0) := fun i hi => by
        obtain ⟨u, xs, _, e2, e3, e4, e5⟩ := htp i _ (List.getElem?_eq_getElem hi)
        have n := rr.len
        refine ⟨u, xs, e2, e3, e4, e5, ?_, ?_⟩
        · rw [List.getD_eq_getElem?_getD, List.getElem?_eq_getElem (by omega)]; rfl
        · rw [List.getD_eq_getElem?_getD, List.getElem?_eq_getElem (by omega)]; rfl
      refine ⟨(r1.tab P hP).1.g, a, vs, tp, fun i => .int (is.getD i 0), fun i => pz.getD i false, rfl, hl, fun i x hx => ?_, fun i hi => ?_, fun i hi => ?_, fun i hi hp => ?_, ?_⟩
      · obtain ⟨u, xs, e1, e2, _⟩ := htp i x hx
        exact ⟨u, e1, e2⟩
      · obtain ⟨u, xs, e2, e3, e4, e5, _⟩ := at' i hi
        rw [e3.len]; exact e5
      · obtain ⟨u, xs, e2, e3, e4, e5, e6, e7⟩ := at' i hi
        exact ht B F ρ1 σ _ H1 _ xs _ _ r1 e3 (hel i xs _ _ e4 e6 e7).1 fun b z => z
      · obtain ⟨u, xs, e2, e3, e4, e5, e6, e7⟩ := at' i hi
        refine hq B F ρ1 σ _ H1 _ xs _ _ r1 e3 ((hel i xs _ _ e4 e6 e7).2 hp) fun v d' r' z => ?_
        rw [z] at r'
        cases r'
        rfl
      · refine ⟨fun j => is.getD ((PySem.passing (fun i => pz.getD i false) vs.length 0).getD j 0) 0, fun i _ => rfl, fun H2 tb => ?_⟩
        rw [List.length_replicate, pre_list (PySem.passing (fun i => pz.getD i false) vs.length 0) (fun i => is.getD i 0) _ (Nat.le_refl _), List.take_length, passing_len, rr.len, ← ni, tf_sum pz is (by omega)]
        exact k _ _ _ _ ⟨F, (r1.pop.tabbed hP hg tb).pushS (.int _)⟩ qf
    · exact q1.elim
/-! ### list(zip(a, b)), lists of one length -/
def eLz (a : DA) : DE := fun ρ Qd => a ρ fun ρ1 ls => two ls fun l1 l2 => ∃ xs ys, dat ρ1 l1 = some (.lst xs) ∧ dat ρ1 l2 = some (.lst ys) ∧ xs.length = ys.length ∧ Qd ρ1 (.sh (.lst (zp xs ys)))
theorem Rf.grow {H' : Hp} (h : Rf K TB B F ρ σ es H) (s : Same H H') : Rf K TB B (fun b => if H b = none then H' b else F b) ρ σ es H' := by
  have sF : Same F (fun b => if H b = none then H' b else F b) := fun b o e => by
    show (if H b = none then H' b else F b) = some o
    rw [if_neg (by rw [h.sub b o e]; exact (fun z => nomatch z))]
    exact e
  refine ⟨h.len, h.na, fun b o e => ?_, fun P hP => ⟨?_, ?_⟩, fun e m => (h.ok e m).mono sF fun a c => .inl ?_, h.nd, fun e a m c => ⟨?_, (h.out e a m c).2⟩, fun b o b1 b2 e => s b o (h.k1 b o b1 b2 e), fun b e => ?_, fun b o e => sF b o (h.k3 b o e), fun b o e => ?_, fun a ha => ⟨(h.ks a ha).1.same s, (h.ks a ha).2⟩⟩
  · have e' : (if H b = none then H' b else F b) = some o := e
    split at e'
    · exact e'
    · exact s b o (h.sub b o e')
  · obtain ⟨ps, e, q⟩ := (h.tab P hP).1.mono sF
    exact ⟨ps, s P _ e, q⟩
  · obtain ⟨ps, e⟩ := h.same_out hP
    show (if H P = none then H' P else F P) = none
    rw [if_neg (by rw [e]; exact (fun z => nomatch z))]
    exact (h.tab P hP).2
  · cases z : H a with
    | none => exact absurd z ((h.ok e m).cellAt c)
    | some o => exact s a o z
  · show (if H a = none then H' a else F a) = none
    rw [if_neg ((h.ok e m).cellAt c)]
    exact (h.out e a m c).1
  · cases z : H b with
    | none => exact h.k2 b z
    | some o => rw [s b o z] at e; cases e
  · have e' : (if H b = none then H' b else F b) = some o := e
    split at e'
    · rename_i z; exact .inr (h.k2 b z)
    · exact h.k4 b o e'
theorem rp_grow {H' : Hp} {a : Addr} {o : HO} (n : H a = none) (e : H' a = some o) : (fun b => if H b = none then H' b else F b) a = some o := by
  show (if H a = none then H' a else F a) = some o
  rw [if_pos n]; exact e
theorem le_lz {ta : TA} {a : DA} (ha : LA K TB ta a) : LE K TB (Lz.tListZip K ta) (eLz a) := fun B ρ σ es H Q Qd r h k => ha B ρ σ es H _ _ r h fun ρ1 ls vs H1 n ⟨F, r1⟩ q => by
  obtain ⟨l1, l2, v1, v2, rfl, rfl, ⟨xs, ys, d1, d2, hn, q⟩⟩ := two_l n q
  obtain ⟨p2, ws2, e2, h2, rr2⟩ := r1.entL (e := (l2, some v2)) mem_hd d2
  obtain ⟨p1, ws1, e1, h1, rr1⟩ := r1.entL (e := (l1, some v1)) snd_mem d1
  cases Option.some.inj e1
  cases Option.some.inj e2
  refine ⟨p1, p2, ws1, ws2, rfl, .inl (.inl h1), .inl (.inl h2), by rw [rr1.len, rr2.len, hn], fun S ts H2 s hS hS2 hl hat hnew => k _ _ _ _ ⟨_, (Rf.grow (Rf.app (es' := ([l1, l2].zip [V.ref p1, V.ref p2]).reverse) r1) s).pushS (.lst (rp_grow hS hS2) ?_)⟩ q⟩
  have sF : Same F (fun b => if H1 b = none then H2 b else F b) := fun b o e => by
    show (if H1 b = none then H2 b else F b) = some o
    rw [if_neg (by rw [r1.sub b o e]; exact (fun z => nomatch z))]
    exact e
  -- item by item
  have go : ∀ (ts : List Addr) (w1 w2 : List V) (xs ys : List Dt), RpA K F w1 xs → RpA K F w2 ys → ts.length = w1.length → w1.length = w2.length → (∀ (j : Nat) (t : Addr), ts[j]? = some t → ∃ x y, w1[j]? = some x ∧ w2[j]? = some y ∧ H2 t = some (.tup [x, y])) → (∀ t, t ∈ ts → H1 t = none) → RpA K (fun b => if H1 b = none then H2 b else F b) (ts.map V.ref) (zp xs ys) := by
    intro ts
    induction ts with
    | nil =>
      intro w1 w2 xs ys r1 r2 n1 n2 _ _
      cases r1 with
      | nil => cases r2 <;> exact .nil
      | cons _ _ => simp at n1
    | cons t ts ih =>
      intro w1 w2 xs ys r1 r2 n1 n2 hat hnew
      cases r1 with
      | nil => simp at n1
      | cons a1 b1 =>
        cases r2 with
        | nil => simp at n2
        | cons a2 b2 =>
          obtain ⟨x, y, e1, e2, e3⟩ := hat 0 t rfl
          cases e1
          cases e2
          refine .cons (.tup (.inl (.inl (rp_grow (hnew t List.mem_cons_self) e3))) (.cons (a1.same sF) (.cons (a2.same sF) .nil))) (ih _ _ _ _ b1 b2 (by simpa using n1) (by simpa using n2) (fun j t' e => ?_) fun t' m => hnew t' (List.mem_cons_of_mem _ m))
          obtain ⟨x, y, f1, f2, f3⟩ := hat (j + 1) t' (by rw [List.getElem?_cons_succ]; exact e)
          rw [List.getElem?_cons_succ] at f1 f2
          exact ⟨x, y, f1, f2, f3⟩
  exact go ts ws1 ws2 xs ys rr1 rr2 (by rw [hl]) (by rw [rr1.len, rr2.len, hn]) hat hnew
/-! ### [e for x in d ..], d a dict of one's own -/
theorem Rf.mutE {i : Nat} {a : Addr} {o : HO} {l' : Lo} (h : Rf K TB B F ρ σ es H) (n : gt ρ i ≠ .no) (e : σ[i]? = some (some (.ref a))) (c : cells (gt ρ i, some (.ref a)) = [a]) (c' : cells (l', some (.ref a)) = [a]) (ns : gt ρ i ≠ .src) (hn : l' ≠ .no) (na : ∀ j, l' ≠ .al j)
    (k : Ok K F (upd H a o) (ρ.set i l') σ l' (some (.ref a))) : Rf K TB B F (ρ.set i l') σ es (upd H a o) := by
  have hz := zip_get e n
  have m0 : (gt ρ i, some (.ref a)) ∈ ens es ρ σ := List.mem_append_right _ (List.mem_of_getElem? hz)
  obtain ⟨f1, f2, f3⟩ := h.out _ a m0 (inC c)
  have f4 : B.H a = none := f3.elim id fun z => absurd z.1 ns
  obtain ⟨_, mm⟩ := set_out (f := cells) (e1 := ((.no, some (.ref a)) : Lo × Option V)) (es.map (fun e : Lo × V => ((e.1, some e.2) : Lo × Option V))) hz c rfl h.nd
  have ez : ens es (ρ.set i l') σ = es.map (fun e => (e.1, some e.2)) ++ (ρ.zip σ).set i (l', some (.ref a)) := by
    unfold ens
    rw [set_ens e]
  have oth : ∀ x, x ∈ ens es (ρ.set i l') σ → x = (l', some (.ref a)) ∨ (x ∈ ens es ρ σ ∧ a ∉ cells x) := fun x m => by
    rw [ez] at m
    by_cases q : x = (l', some (.ref a))
    · exact .inl q
    · have m2 : x ∈ es.map (fun e : Lo × V => ((e.1, some e.2) : Lo × Option V)) ++ (ρ.zip σ).set i (.no, some (.ref a)) := by
        rcases List.mem_append.mp m with m | m
        · exact List.mem_append_left _ m
        · refine List.mem_append_right _ ?_
          obtain ⟨j, hj, e1⟩ := List.getElem_of_mem m
          rw [List.length_set] at hj
          by_cases y : i = j
          · subst y
            rw [List.getElem_set_self] at e1
            exact absurd e1.symm q
          · rw [List.getElem_set_ne y] at e1
            refine List.mem_of_getElem? (i := j) ?_
            rw [List.getElem?_set_ne y, List.getElem?_eq_getElem hj, e1]
      rcases mm x m2 with z | z
      · rw [z] at m
        rcases List.mem_append.mp m with m | m
        · refine .inr ⟨?_, by rw [z]; exact (fun y => nomatch y)⟩
          rw [z]
          exact List.mem_append_left _ m
        · rcases mem_set' m with y | y
          · exact absurd (z.trans y) q
          · refine .inr ⟨?_, by rw [z]; exact (fun y => nomatch y)⟩
            rw [z]
            exact List.mem_append_right _ y
      · exact .inr z
  have gn : ∀ j, gt ρ j ≠ .no → gt (ρ.set i l') j ≠ .no := fun j z => by
    rw [gt_set]
    split
    · exact hn
    · exact z
  refine ⟨by rw [List.length_set]; exact h.len, fun l m j => ?_, fun b u q => ?_, fun P hP => ⟨TabL.ups (h.tab P hP).1 (fun z => f2 (z ▸ hP)), (h.tab P hP).2⟩, fun x m => ?_, ?_, fun x b m q => ?_, fun b u b1 b2 q => ?_, fun b q => ?_, h.k3, h.k4, fun b hb => ⟨?_, (h.ks b hb).2⟩⟩
  · rcases mem_set' m with rfl | m
    · exact na j
    · exact h.na l m j
  · rw [upd_ne (fun z => by rw [z, f1] at q; cases q)]; exact h.sub b u q
  · rcases oth x m with rfl | ⟨m', ne⟩
    · exact k
    · refine ((h.ok x m').mono (fun _ _ z => z) fun b q => .inl (upd_ne (fun z => ne (by rw [← z]; exact q)))).env fun j q => ?_
      have := h.ok x m'
      rw [q] at this ⊢
      exact ⟨gn j this.1, this.2⟩
  · rw [ez, List.flatMap_append]
    have := h.nd
    unfold ens at this
    rw [List.flatMap_append] at this
    have e3 : ((ρ.zip σ).set i (l', some (.ref a))).flatMap cells = (ρ.zip σ).flatMap cells := by
      obtain ⟨hi, e4⟩ := List.getElem?_eq_some_iff.mp hz
      rw [List.set_eq_take_append_cons_drop, if_pos hi]
      conv => rhs; rw [← List.take_append_drop i (ρ.zip σ)]
      rw [List.flatMap_append, List.flatMap_append]
      congr 1
      rw [flC1 c', List.drop_eq_getElem_cons hi, e4, flC1 c]
    rw [e3]; exact this
  · rcases oth x m with rfl | ⟨m', ne⟩
    · rw [c'] at q
      cases in1 q
      exact ⟨f1, f2, .inl f4⟩
    · exact h.out x b m' q
  · rw [upd_ne (fun z => by rw [z, f4] at q; cases q)]; exact h.k1 b u b1 b2 q
  · by_cases z : b = a
    · subst z; rw [upd_same] at q; cases q
    · rw [upd_ne z] at q; exact h.k2 b q
  · obtain ⟨x, y, e1⟩ := (h.ks b hb).1
    exact ⟨x, y, by rw [upd_ne (fun (z : b = a) => (h.ks b hb).2 (by rw [z]; exact f4))]; exact e1⟩
def keyOf : Key → Dt
  | .inl i => .int i
  | .inr s => .str s
theorem keyOf_rp (k : Key) : Rp K F (kV k) (keyOf k) := by
  cases k
  · exact .int _
  · exact .str _
theorem RpK.get : ∀ {vs : List (Key × V)} {ds : List (Key × Dt)} {i : Nat} {k : Key} {v : V}, RpK K F vs ds → vs[i]? = some (k, v) → ∃ d, ds[i]? = some (k, d)
  | _, _, 0, _, _, .cons _ _, e => by cases e; exact ⟨_, rfl⟩
  | _ :: _, _ :: _, i + 1, _, _, .cons _ t, e => by
    rw [List.getElem?_cons_succ] at e
    obtain ⟨d, h⟩ := RpK.get t e
    exact ⟨d, by rw [List.getElem?_cons_succ]; exact h⟩
  | [], [], _, _, _, .nil, e => by simp at e
def iKd (dv : Nat) : DI := fun ρ Qd => match gt ρ dv with
  | .fd _ _ kvs => Qd ρ (kvs.map fun kv => keyOf kv.1)
  | _ => False
theorem li_keys {dv : Nat} : LIC K TB (iKeys (tVar dv)) (iKd dv) := fun B ρ σ es H Rr Qd ⟨F, r⟩ h k => by
  unfold iKd at h
  split at h
  · rename_i ob vs kvs g
    have n : gt ρ dv ≠ .no := by rw [g]; exact fun z => nomatch z
    obtain ⟨o, e, m, q⟩ := r.slot n
    rw [g] at q
    obtain ⟨a, rfl, ha, rr⟩ := q
    refine ⟨_, e, a, ob, rfl, .inl ⟨vs, ha, k ρ _ _ H [] (fun e m => nomatch m) ⟨F, r⟩ (fun B2 es2 H2 r2 _ => ?_) h⟩⟩
    obtain ⟨F2, r2⟩ := r2
    obtain ⟨o2, e2, m2, q2⟩ := r2.slot n
    rw [e] at e2
    cases e2
    rw [g] at q2
    obtain ⟨a2, e3, ha2, rr2⟩ := q2
    cases e3
    have ln : vs.length = kvs.length := rr2.len
    refine ⟨fun i hi => ⟨ha2, by rw [List.length_map] at hi; omega⟩, ⟨ha2, by rw [List.length_map]; omega⟩, fun i x H' hi y => ?_⟩
    obtain ⟨rfl, kk, v, y1, rfl⟩ := y
    obtain ⟨d, hd⟩ := rr2.get y1
    exact ⟨keyOf kk, by rw [List.getElem?_map, hd]; rfl, F2, r2.pushS (keyOf_rp kk)⟩
  · exact h.elim
def eLcD (own : List Nat) (dv : Nat) (tgt : DG) (tst : DTs) (elt : DE) : DE := fun ρ Qd => match gt ρ dv with
  | .od kvs => ∀ ob vs, eLc own (iKd dv) tgt tst elt (ρ.set dv (.fd ob vs kvs)) fun ρ1 l => gt ρ1 dv = .fd ob vs kvs ∧ Qd (ρ1.set dv (.od kvs)) l
  | _ => False
theorem le_lcD {dv : Nat} {g : TG} {tt : TT} {te : TE} {own : List Nat} {tgt : DG} {tst : DTs} {elt : DE} {is : List Nat} (hg : LF K TB g tgt is) (ht : LT K TB tt tst) (he : LE K TB te elt) (hi : ∀ i, i ∈ is → i ∈ own) : LE K TB (tLockE (tLc (iKeys (tVar dv)) g tt te own)) (eLcD own dv tgt tst elt) := fun B ρ σ es H Q Qd ⟨F, r⟩ h k => by
  unfold eLcD at h
  split at h
  · rename_i kvs g'
    have n : gt ρ dv ≠ .no := by rw [g']; exact fun z => nomatch z
    obtain ⟨o, e, m, q⟩ := r.slot n
    rw [g'] at q
    obtain ⟨a, vs, rfl, ha, rr⟩ := q
    refine ⟨a, _, ha, trivial, fun od => ?_⟩
    have r2 : Rf K TB B F (ρ.set dv (.fd od vs kvs)) σ es (upd H a (.frz od (.dK vs))) := r.mutE (l' := .fd od vs kvs) n e (by rw [g']; rfl) rfl (by rw [g']; exact fun z => nomatch z) (fun z => nomatch z) (fun j z => nomatch z) ⟨a, rfl, upd_same, rr⟩
    refine le_lcC li_keys hg ht he hi B _ σ es _ _ _ ⟨F, r2⟩ (h od vs) fun ρ1 l v H1 ⟨F1, r1⟩ ⟨g1, q1⟩ => ?_
    have n1 : gt ρ1 dv ≠ .no := by rw [g1]; exact fun z => nomatch z
    obtain ⟨o1, e1, m1, q2⟩ := r1.slot n1
    rw [e] at e1
    cases e1
    rw [g1] at q2
    obtain ⟨a1, e2, ha1, rr1⟩ := q2
    cases e2
    exact ⟨ha1, k _ _ _ _ ⟨F1, r1.mutE (l' := .od kvs) n1 e (by rw [g1]; rfl) rfl (by rw [g1]; exact fun z => nomatch z) (fun z => nomatch z) (fun j z => nomatch z) ⟨a, vs, rfl, upd_same, rr1⟩⟩ q1⟩
  · exact h.elim
end

end Df
namespace Df
open PySem L2 GxR My
section
variable {K : PySem.W.Frag} {TB : Tbs} {B : Bs} {F : Hp} {ρ : Ev} {σ : St} {es : Ps} {H : Hp}
/-- min(xs, key=lambda x: x[i]) -/
def eMk (i : Nat) (a : DE) : DE := fun ρ Qd => a ρ fun ρ1 l => ∃ (ds : List Dt) (ks : List Int), dat ρ1 l = some (.lst ds) ∧ ks.length = ds.length ∧ 0 < ds.length ∧
  (∀ (j : Nat) (d : Dt) (k : Int), ds[j]? = some d → ks[j]? = some k → ∃ ts, d = .tup ts ∧ ts[i]? = some (.int k)) ∧
  ∀ (j : Nat) (d : Dt) (k : Int), ds[j]? = some d → ks[j]? = some k → (∀ (m : Nat) (k' : Int), m < j → ks[m]? = some k' → k < k') → (∀ (m : Nat) (k' : Int), ks[m]? = some k' → k ≤ k') → Qd ρ1 (.sh d)
/-- what a def's lambdas are called -/
def LmName (TB : Tbs) (P : Addr) (lp : Pos) (q : Str) : Prop := ∀ x, x ∈ TB.lams → x.1 = P → (x.2.1.line ≠ lp.line ∨ x.2.1.col ≠ lp.col) ∨ x.2.2 = q
theorem le_minI {P : Addr} {lp : Pos} {q : Str} {i : Nat} {te : TE} {a : DE} (hP : P ∈ TB) (hx : (P, lp, q) ∈ TB.lams) (hn : LmName TB P lp q) (ha : LE K TB te a) : LE K TB (Gq.tMinI P lp q K i te) (eMk i a) := fun B ρ σ es H Q Qd r h k =>
  ha B ρ σ es H _ _ r h fun ρ1 l v H1 ⟨F, r1⟩ ⟨ds, ks, hd, hlen, hpos, hkeys, fin⟩ => by
    obtain ⟨p, ws, e1, e2, rr⟩ := r1.entL mem_hd hd
    cases Option.some.inj e1
    have wl := rr.len
    obtain ⟨ps, tabH, trip, lm⟩ := (r1.tab P hP).1
    refine ⟨p, ws, ks, ps, rfl, .inl (.inl e2), by omega, by omega, fun m x kk hx' hk => ?_, tabH, trip, fun cv hc => ?_, fun m x kk H2 hx' hk h1 h2 up => ?_⟩
    · obtain ⟨d, hd', rp⟩ := rr.get' hx'
      obtain ⟨ts, rfl, ht⟩ := hkeys m d kk hd' hk
      cases rp with
      | tup hs ra =>
        obtain ⟨y, hy, ry⟩ := ra.get ht
        cases ry
        exact ⟨_, _, rfl, SqU.at hs r1.sub, hy⟩
    · obtain ⟨c', e, g⟩ := lm _ hx rfl cv hc
      exact ⟨c', e, r1.sub _ _ g⟩
    · obtain ⟨d, hd', rp⟩ := rr.get' hx'
      have r2 := r1.pop.pushS rp
      refine k ρ1 (.sh d) x H2 ?_ (fin m d kk hd' hk h1 h2)
      rcases up with rfl | ⟨c', hc', ne, trip2, among, rfl⟩
      · exact ⟨F, r2.tabE hP ⟨ps ++ #[], upd_same, by rw [Array.append_empty]; exact trip, fun x hx ex cv hc => lm x hx ex cv (by rw [Array.append_empty] at hc; exact hc)⟩ fun b nb => upd_ne nb⟩
      · have r3 := r2.newF (o := LamX.CodeO c' q) hc'
        have sF : Same F (upd F c' (LamX.CodeO c' q)) := Same.new (r2.fresh hc').1
        refine ⟨_, r3.tabE hP ⟨_, by rw [upd_ne ne.symm, upd_same], trip2, fun x hx ex cv hc => ?_⟩ fun b nb => ?_⟩
        · rw [Array.toList_append] at hc
          rcases hn x hx ex with ne2 | eq2
          · obtain ⟨c2, e, g⟩ := lm x hx ex cv (among_ne ne2 _ trip hc)
            exact ⟨c2, e, sF _ _ g⟩
          · rcases LamX.among_app _ trip hc with y | y
            · obtain ⟨c2, e, g⟩ := lm x hx ex cv y
              exact ⟨c2, e, sF _ _ g⟩
            · exact ⟨c', y, by rw [upd_same, eq2]⟩
        · by_cases z : b = c'
          · rw [z, upd_same, upd_same]
          · rw [upd_ne z, upd_ne nb, upd_ne z]
end
end Df

namespace Df
open PySem L2 GxR My
section
variable {K : PySem.W.Frag} {TB : Tbs} {B : Bs} {F : Hp} {ρ : Ev} {σ : St} {es : Ps} {H : Hp}
/-! ### calls that only read a name's own list -/
def argB (ρ : Ev) : Lo → Lo
  | .al j => match gt ρ j with
    | .src => .src
    | .ow ds => .sh (.lst ds)
    | _ => .no
  | .sh d => .sh d
  | .src => .src
  | _ => .no
def noS : List Lo → Bool
  | [] => true
  | .src :: _ => false
  | _ :: ls => noS ls
def oneS : List Lo → Bool
  | [] => true
  | .src :: ls => noS ls
  | _ :: ls => oneS ls
/-- data without addresses -/
def scal : Dt → Bool
  | .int _ => true
  | .bl _ => true
  | .non => true
  | .str _ => true
  | _ => false
theorem scal_rp {F' : Hp} {v : V} {d : Dt} (h : scal d = true) (r : Rp K F v d) : Rp K F' v d := by
  cases r <;> first | exact .int _ | exact .bl _ | exact .non | exact .str _ | cases h
/-- two entries with one cell are one -/
theorem Rf.cell1 (r : Rf K TB B F ρ σ es H) {e e' : Lo × Option V} {a : Addr} (m : e ∈ ens es ρ σ) (m' : e' ∈ ens es ρ σ) (c : a ∈ cells e) (c' : a ∈ cells e') : e = e' := by
  apply Classical.byContradiction
  intro z
  have nd := r.nd
  obtain ⟨A, C, e1⟩ := List.append_of_mem m'
  rw [e1] at m nd
  have m2 : e ∈ A ++ C := by
    rcases List.mem_append.mp m with y | y
    · exact List.mem_append_left _ y
    · rcases List.mem_cons.mp y with y | y
      · exact absurd y z
      · exact List.mem_append_right _ y
  have p := (List.perm_middle (a := e') (l₁ := A) (l₂ := C)).flatMap_right cells
  rw [List.flatMap_cons] at p
  exact (List.nodup_append.mp (p.nodup_iff.mp nd)).2.2 a c' a (List.mem_flatMap.mpr ⟨e, m2, c⟩) rfl
theorem noS_cells : ∀ (ls : List Lo) (os : List (Option V)), (∀ e a, e ∈ ls.zip os → a ∈ cells e → e.1 = .src) → noS ls = true → (ls.zip os).flatMap cells = []
  | [], _, _, _ => rfl
  | _ :: _, [], _, _ => rfl
  | l :: ls, o :: os, h, n => by
    have t : noS ls = true ∧ l ≠ .src := by
      cases l <;> first | exact ⟨n, (fun z => nomatch z)⟩ | cases n
    show ((l, o) :: ls.zip os).flatMap cells = []
    cases q : cells (l, o) with
    | nil => rw [flC0 q]; exact noS_cells ls os (fun e a m => h e a (List.mem_cons_of_mem _ m)) t.1
    | cons a u => exact absurd (h _ a List.mem_cons_self (by rw [q]; exact List.mem_cons_self)) t.2
theorem oneS_cells : ∀ (ls : List Lo) (os : List (Option V)), (∀ e a, e ∈ ls.zip os → a ∈ cells e → e.1 = .src) → oneS ls = true → ((ls.zip os).flatMap cells).length ≤ 1
  | [], _, _, _ => by simp
  | _ :: _, [], _, _ => by simp
  | l :: ls, o :: os, h, n => by
    have n1 : ∀ ls : List Lo, noS ls = true → oneS ls = true := fun ls n => by
      induction ls with
      | nil => rfl
      | cons x xs ih => cases x <;> first | exact ih n | cases n
    show (((l, o) :: ls.zip os).flatMap cells).length ≤ 1
    cases q : cells (l, o) with
    | nil =>
      rw [flC0 q]
      have t : oneS ls = true := by cases l <;> first | exact n | exact n1 ls n
      exact oneS_cells ls os (fun e a m => h e a (List.mem_cons_of_mem _ m)) t
    | cons a u =>
      have e := h _ a List.mem_cons_self (by rw [q]; exact List.mem_cons_self)
      have e : l = .src := e
      subst e
      rw [List.flatMap_cons, noS_cells ls os (fun e a m => h e a (List.mem_cons_of_mem _ m)) n]
      match o with
      | some (.ref b) => exact Nat.le_refl _
      | some (.int _) | some (.bl _) | some .non | some (.str _) | none => exact Nat.zero_le _
/-- what is lent is no tuple, no code -/
def NoT (o : HO) : Prop := (∀ c' q, o ≠ LamX.CodeO c' q) ∧ (∀ xs, o ≠ .tup xs) ∧ ∀ ob xs, o ≠ .frz ob (.tup xs)
theorem call_startB {ls : List Lo} {vs : List V} (r : Rf K TB B F ρ σ ((ls.zip vs).reverse ++ es) H) (n : ls.length = vs.length) (hk : oneS (ls.map (argB ρ)) = true) :
    ∃ (F0 : Hp) (S : List Addr), Rf K TB ⟨H, F0, S⟩ F0 (ls.map (argB ρ)) (vs.map some) [] H ∧ (∀ a, a ∈ S → (.src, some (.ref a)) ∈ ens ((ls.zip vs).reverse ++ es) ρ σ) ∧ Same F F0 ∧ (∀ b o, F0 b = some o → F b = some o ∨ NoT o ∧ F b = none ∧ H b = some o) := by
  have mem : ∀ e, e ∈ (ls.map (argB ρ)).zip (vs.map some) → ∃ l v, e = (argB ρ l, some v) ∧ (l, some v) ∈ ens ((ls.zip vs).reverse ++ es) ρ σ := fun e m => by
    rw [List.zip_map] at m
    obtain ⟨p, mp, rfl⟩ := List.mem_map.mp m
    exact ⟨p.1, p.2, rfl, List.mem_append_left _ (List.mem_map.mpr ⟨p, List.mem_append_left _ (List.mem_reverse.mpr mp), rfl⟩)⟩
  -- the lists lent
  obtain ⟨L, hL⟩ : ∃ L : Addr → Prop, L = fun a => ∃ ds, (Lo.ow ds, some (V.ref a)) ∈ ens ((ls.zip vs).reverse ++ es) ρ σ := ⟨_, rfl⟩
  obtain ⟨F0, hF0⟩ : ∃ F0 : Hp, ∀ b, (L b → F0 b = H b) ∧ (¬ L b → F0 b = F b) := by
    refine ⟨fun b => by classical exact if L b then H b else F b, fun b => ⟨fun h => by dsimp only; exact if_pos h, fun h => by dsimp only; exact if_neg h⟩⟩
  have lent : ∀ a, L a → F a = none ∧ a ∉ TB ∧ ∃ vs, H a = some (.lst vs) := fun a h => by
    rw [hL] at h
    obtain ⟨ds, m⟩ := h
    obtain ⟨f1, f2, _⟩ := r.out _ a m (inC rfl)
    obtain ⟨a', vs, e, ha, _⟩ := r.ok _ m
    cases e
    exact ⟨f1, f2, vs, ha⟩
  have sF : Same F F0 := fun b o e => by
    by_cases h : L b
    · have := (lent b h).1
      rw [e] at this; cases this
    · rw [(hF0 b).2 h]; exact e
  have sub : Same F0 H := fun b o e => by
    by_cases h : L b
    · rw [(hF0 b).1 h] at e; exact e
    · rw [(hF0 b).2 h] at e; exact r.sub b o e
  have argOk : ∀ (l : Lo) (v : V), (l, some v) ∈ ens ((ls.zip vs).reverse ++ es) ρ σ → ∀ (ρ' : Ev) (σ' : St), Ok K F0 H ρ' σ' (argB ρ l) (some v) ∧ ∀ a, a ∈ cells (argB ρ l, some v) → argB ρ l = .src ∧ Src H a ∧ v = .ref a ∧ (.src, some (.ref a)) ∈ ens ((ls.zip vs).reverse ++ es) ρ σ := fun l v m ρ' σ' => by
    have ok := r.ok _ m
    cases l with
    | sh d =>
      obtain ⟨u, e, rp⟩ := ok
      exact ⟨⟨u, e, rp.same sF⟩, fun a c => nomatch c⟩
    | no => exact ⟨trivial, fun a c => nomatch c⟩
    | ow d => exact ⟨trivial, fun a c => nomatch c⟩
    | od d => exact ⟨trivial, fun a c => nomatch c⟩
    | fd o w d => exact ⟨trivial, fun a c => nomatch c⟩
    | oi C p n d => exact ⟨trivial, fun a c => nomatch c⟩
    | tr t => exact ⟨trivial, fun a c => nomatch c⟩
    | sk t => exact ⟨trivial, fun a c => nomatch c⟩
    | src =>
      obtain ⟨a, e, hs⟩ := ok
      cases e
      exact ⟨⟨a, rfl, hs⟩, fun a' c => by cases in1 c; exact ⟨rfl, hs, rfl, m⟩⟩
    | al j =>
      have e : argB ρ (.al j) = (match gt ρ j with | .src => .src | .ow ds => .sh (.lst ds) | _ => .no) := rfl
      obtain ⟨n1, u, e3, e4⟩ := ok
      cases e3
      obtain ⟨o, f1, f2, f3⟩ := r.slot n1
      rw [e4] at f1
      cases f1
      rw [e]
      cases g : gt ρ j with
      | src =>
        rw [g] at f2 f3
        obtain ⟨a, e5, hs⟩ := f3
        cases e5
        exact ⟨⟨a, rfl, hs⟩, fun a' c => by cases in1 c; exact ⟨rfl, hs, rfl, f2⟩⟩
      | ow ds =>
        rw [g] at f2 f3
        obtain ⟨a, ws, e5, ha, rp⟩ := f3
        cases e5
        have la : L a := by rw [hL]; exact ⟨ds, f2⟩
        exact ⟨⟨_, rfl, .lst ((hF0 a).1 la ▸ ha) (rp.same sF)⟩, fun a c => nomatch c⟩
      | _ => exact ⟨trivial, fun a c => nomatch c⟩
  have isS : ∀ e a, e ∈ (ls.map (argB ρ)).zip (vs.map some) → a ∈ cells e → e.1 = .src := fun e a m c => by
    obtain ⟨l, v, rfl, m'⟩ := mem e m
    exact ((argOk l v m' [] []).2 a c).1
  refine ⟨F0, ((ls.map (argB ρ)).zip (vs.map some)).flatMap cells, ⟨by simp [n], fun l m j => ?_, sub, fun P hP => ⟨(r.tab P hP).1.mono sF, ?_⟩, fun e m => ?_, ?_, fun e a m c => ?_, fun b o _ _ q => q, fun b q => q, fun b o q => q, fun b o q => .inl q, fun a m => ?_⟩, fun a m => ?_, sF, fun b o e => ?_⟩
  · obtain ⟨l', _, rfl⟩ := List.mem_map.mp m
    unfold argB
    split
    · split <;> exact fun z => nomatch z
    all_goals exact fun z => nomatch z
  · have np : ¬ L P := fun h => (lent P h).2.1 hP
    rw [(hF0 P).2 np]
    exact (r.tab P hP).2
  · obtain ⟨l, v, rfl, m'⟩ := mem e m
    exact (argOk l v m' _ _).1
  · have := oneS_cells (ls.map (argB ρ)) (vs.map some) isS hk
    show (((ls.map (argB ρ)).zip (vs.map some)).flatMap cells).Nodup
    match ((ls.map (argB ρ)).zip (vs.map some)).flatMap cells, this with
    | [], _ => exact List.nodup_nil
    | [a], _ => simp
  · obtain ⟨l, v, rfl, m'⟩ := mem e m
    obtain ⟨e1, hs, rfl, m2⟩ := (argOk l v m' [] []).2 a c
    have o := r.out _ a m2 (inC rfl)
    have nl : ¬ L a := fun h => by
      rw [hL] at h
      obtain ⟨ds, m3⟩ := h
      have := r.cell1 m2 m3 (a := a) (inC rfl) (inC rfl)
      cases this
    exact ⟨by rw [(hF0 a).2 nl]; exact o.1, o.2.1, .inr ⟨e1, List.mem_flatMap.mpr ⟨_, m, c⟩⟩⟩
  · obtain ⟨e, m', c⟩ := List.mem_flatMap.mp m
    obtain ⟨l, v, rfl, m2⟩ := mem e m'
    obtain ⟨_, hs, _, _⟩ := (argOk l v m2 [] []).2 a c
    refine ⟨hs, ?_⟩
    obtain ⟨x, y, z⟩ := hs
    rw [show (Bs.mk H F0 _).H a = H a from rfl, z]
    exact fun z => nomatch z
  · obtain ⟨e, m', c⟩ := List.mem_flatMap.mp m
    obtain ⟨l, v, rfl, m2⟩ := mem e m'
    exact ((argOk l v m2 [] []).2 a c).2.2.2
  · by_cases h : L b
    · rw [(hF0 b).1 h] at e
      obtain ⟨f1, _, ws, hw⟩ := lent b h
      rw [hw] at e
      cases e
      exact .inr ⟨⟨(fun c' q z => by cases z), (fun xs z => by cases z), (fun ob xs z => by cases z)⟩, f1, hw⟩
    · rw [(hF0 b).2 h] at e
      exact .inl e
theorem call_end0 {S : List Addr} {X : Ps} {H' F0 F' : Hp} (r : Rf K TB B F ρ σ es H) (hS : ∀ a, a ∈ S → (.src, some (.ref a)) ∈ ens es ρ σ) (s0 : Same F F0) (f0 : ∀ b o, F0 b = some o → F b = some o ∨ NoT o ∧ F b = none ∧ H b = some o) (q : Rf K TB ⟨H, F0, S⟩ F' [] [] X H') : Rf K TB B (fun b => if H b = none then F' b else F b) ρ σ es H' := by
  have hn : ∀ b o, F b = some o → H b ≠ none := fun b o e z => by rw [r.sub b o e] at z; cases z
  have sF : Same F (fun b => if H b = none then F' b else F b) := fun b o e => by
    show (if H b = none then F' b else F b) = some o
    rw [if_neg (hn b o e)]; exact e
  have src1 : ∀ e a, e ∈ ens es ρ σ → a ∈ cells e → a ∈ S → e.1 = .src := fun e a m c s => by
    rw [r.cell1 m (hS a s) c (inC rfl)]
  have clls : ∀ e a, e ∈ ens es ρ σ → a ∈ cells e → H' a = H a ∨ (e.1 = .src ∧ Src H' a) := fun e a m c => by
    by_cases s : a ∈ S
    · exact .inr ⟨src1 e a m c s, (q.ks a s).1⟩
    · cases z : H a with
      | none => exact absurd z ((r.ok e m).cellAt c)
      | some o => exact .inl (q.k1 a o s (r.out e a m c).2.1 z)
  refine ⟨r.len, r.na, fun b o e => ?_, fun P hP => ⟨?_, ?_⟩, fun e m => (r.ok e m).mono sF fun a c => clls e a m c, r.nd, fun e a m c => ⟨?_, (r.out e a m c).2⟩, fun b o b1 b2 e => ?_, fun b e => ?_, fun b o e => sF b o (r.k3 b o e), fun b o e => ?_, fun a ha => ⟨?_, (r.ks a ha).2⟩⟩
  · have e : (if H b = none then F' b else F b) = some o := e
    split at e
    · exact q.sub b o e
    · exact q.sub b o (q.k3 b o (s0 b o e))
  · obtain ⟨ps, e, trip, lm⟩ := (q.tab P hP).1
    refine ⟨ps, e, trip, fun x hx ex cv hc => ?_⟩
    obtain ⟨c', e1, e2⟩ := lm x hx ex cv hc
    refine ⟨c', e1, ?_⟩
    show (if H c' = none then F' c' else F c') = _
    by_cases z : H c' = none
    · rw [if_pos z]; exact e2
    · rw [if_neg z]
      rcases q.k4 c' _ e2 with y | y
      · rcases f0 c' _ y with w | ⟨w, _⟩
        · exact w
        · exact absurd rfl (w.1 _ _)
      · exact absurd y z
  · obtain ⟨ps, e⟩ := r.same_out hP
    show (if H P = none then F' P else F P) = none
    rw [if_neg (by rw [e]; exact fun z => nomatch z)]
    exact (r.tab P hP).2
  · show (if H a = none then F' a else F a) = none
    rw [if_neg ((r.ok e m).cellAt c)]
    exact (r.out e a m c).1
  · have h1 := r.k1 b o b1 b2 e
    by_cases s : b ∈ S
    · have o' := r.out _ b (hS b s) (inC rfl)
      rcases o'.2.2 with z | z
      · rw [z] at e; cases e
      · exact absurd z.2 b1
    · exact q.k1 b o s b2 h1
  · exact r.k2 b (q.k2 b e)
  · have e : (if H b = none then F' b else F b) = some o := e
    split at e
    · rename_i z; exact .inr (r.k2 b z)
    · exact r.k4 b o e
  · by_cases s : a ∈ S
    · exact (q.ks a s).1
    · obtain ⟨x, y, z⟩ := (r.ks a ha).1
      exact ⟨x, y, q.k1 a _ s (fun hP => by
        obtain ⟨ps, e⟩ := r.same_out hP
        rw [z] at e; cases e) z⟩
theorem call_endB {S : List Addr} {d : Dt} {v : V} {H' F0 : Hp} (r : Rf K TB B F ρ σ es H) (hS : ∀ a, a ∈ S → (.src, some (.ref a)) ∈ ens es ρ σ) (s0 : Same F F0) (f0 : ∀ b o, F0 b = some o → F b = some o ∨ NoT o ∧ F b = none ∧ H b = some o) (hd : scal d = true) (q : R K TB ⟨H, F0, S⟩ [] [] [(.sh d, v)] H') : R K TB B ρ σ ((.sh d, v) :: es) H' := by
  obtain ⟨F', q⟩ := q
  obtain ⟨u, eu, rp⟩ := q.okp
  exact ⟨_, (call_end0 r hS s0 f0 q).pushS (by cases eu; exact scal_rp hd rp)⟩
/-- a call that only reads its lists and gives a number, a truth value, a text or None -/
def eCallB (c : Ct) (dl : List Dt) (a : DA) : DE := fun ρ Qd => a ρ fun ρ1 ls => match oneS (ls.map (argB ρ1)) with
  | true => c (ls.map (argB ρ1) ++ dl.map Lo.sh) fun l => match l with
    | .sh d => scal d = true ∧ Qd ρ1 (.sh d)
    | _ => False
  | false => False
theorem le_callB {c : Ct} {dvs : List V} {dl : List Dt} {E : XK} {ta : TA} {a : DA} (hd : ∀ F, RpA K F dvs dl) (ha : LA K TB ta a) : LE K TB (tCall (spOf K TB c) dvs E ta) (eCallB c dl a) := fun B ρ σ es H Q Qd r h k =>
  ha B ρ σ es H _ _ r h fun ρ1 ls vs H1 n ⟨F, r1⟩ q => by
    split at q
    · rename_i hk
      obtain ⟨F0, S, r2, hS, s0, f0⟩ := call_startB r1 n hk
      refine ⟨F0, _, _, _, by simp [n, (hd F).len], r2.dv (hd F0), q, fun l v H' hl hc z q' => ?_⟩
      split at q'
      · obtain ⟨F', z'⟩ := call_endB r1 hS s0 f0 q'.1 z
        refine k ρ1 _ v H' ⟨F', z'.part ?_⟩ q'.2
        unfold ens
        rw [List.map_cons, List.map_cons, List.map_append, List.cons_append, List.cons_append, List.append_assoc]
        exact (List.sublist_append_right _ _).cons₂ _
      · exact q'.elim
    · exact q.elim
theorem le_callB0 {c : Ct} {E : XK} {ta : TA} {a : DA} (ha : LA K TB ta a) : LE K TB (tCall (spOf K TB c) [] E ta) (eCallB c [] a) := le_callB (fun _ => .nil) ha
/-! ### reversed(range(..)) -/
def rngD (lo : Int) (n : Nat) : List Dt := (List.range n).map fun i : Nat => .int (lo + (i : Int) * (-1))
theorem rngD_len (lo : Int) (n : Nat) : (rngD lo n).length = n := by unfold rngD; simp
theorem rngD_get {lo : Int} {n i : Nat} (h : i < n) : (rngD lo n)[i]? = some (.int (lo + (i : Int) * (-1))) := by
  unfold rngD
  rw [List.getElem?_map, List.getElem?_range h]; rfl
theorem ItOk.rngD {lo : Int} {n : Nat} : ItOk K TB (Itc lo (-1) n) [] (Df.rngD lo n) := fun B ρ σ es H ⟨F, r⟩ m => by
  refine ⟨fun i hi => by rw [rngD_len] at hi; exact hi, by rw [rngD_len]; exact Nat.le_refl _, fun i x H' hi y => ?_⟩
  rw [rngD_len] at hi
  obtain ⟨rfl, rfl⟩ := y
  exact ⟨_, rngD_get hi, F, r.pushS (.int _)⟩
def iRR1 (a : DE) : DI := fun ρ Qd => a ρ fun ρ1 l => match l with
  | .sh (.int j) => (-(2 ^ 62) ≤ j ∧ j < 2 ^ 62) ∧ Qd ρ1 (rngD (0 + (((j - 0).toNat : Nat) : Int) - 1) (j - 0).toNat)
  | _ => False
theorem li_rr1 {te : TE} {a : DE} (ha : LE K TB te a) : LI K TB (iRevR (tRg1 te)) (iRR1 a) := fun B ρ σ es H Rr Qd r h k => ha B ρ σ es H _ _ r h fun ρ1 l v H1 ⟨F, r1⟩ q => by
  split at q
  · rename_i j
    obtain rfl := r1.intP
    exact ⟨_, rfl, by decide, by decide, q.1.1, q.1.2, k ρ1 _ _ H1 [] (fun _ m => nomatch m) ⟨F, r1.pop⟩ ItOk.rngD q.2⟩
  · exact q.elim
/-- list(range(n)) -/
def eLrg (a : DE) : DE := fun ρ Qd => a ρ fun ρ1 l => match l with
  | .sh (.int j) => (-(2 ^ 24) ≤ j ∧ j ≤ 2 ^ 24) ∧ Qd ρ1 (.ow (rng 0 j.toNat))
  | _ => False
theorem rgV_rp (n : Nat) : RpA K F ((List.range n).map fun i : Nat => V.int (0 + (i : Int))) (rng 0 n) := by
  unfold rng
  generalize List.range n = l
  induction l with
  | nil => exact .nil
  | cons x l ih => exact .cons (.int _) ih
theorem le_lrg {te : TE} {a : DE} (ha : LE K TB te a) : LE K TB (tLstRg (tRg1 te)) (eLrg a) := fun B ρ σ es H Q Qd r h k => ha B ρ σ es H _ _ r h fun ρ1 l v H1 ⟨F, r1⟩ q => by
  split at q
  · rename_i j0 _
    obtain rfl := r1.intP
    obtain ⟨⟨q1, q2⟩, q3⟩ := q
    refine ⟨_, rfl, ⟨by decide, by decide, by omega, by omega, by omega⟩, fun p hp => ?_⟩
    have e : (j0 - 0).toNat = j0.toNat := by rw [Int.sub_zero]
    refine k ρ1 _ _ _ ⟨_, r1.pop.newLst (rgV_rp (j0 - 0).toNat) hp⟩ ?_
    rw [e]
    exact q3
  · exact q.elim
/-- a comprehension over a name's own list, which stays its own -/
def iOw (dv : Nat) : DI := fun ρ Qd => match gt ρ dv with
  | .ow ds => Qd ρ ds
  | _ => False
theorem li_own {dv : Nat} : LIC K TB (iList K (tVar dv)) (iOw dv) := fun B ρ σ es H Rr Qd ⟨F, r⟩ h k => by
  unfold iOw at h
  split at h
  · rename_i ds g
    have n : gt ρ dv ≠ .no := by rw [g]; exact fun z => nomatch z
    obtain ⟨o, e, m, q⟩ := r.slot n
    rw [g] at q
    obtain ⟨a, vs, rfl, ha, rr⟩ := q
    refine ⟨_, e, a, rfl, ⟨vs, .inl (.inl ha)⟩, k ρ ds _ H [] (fun _ m => nomatch m) ⟨F, r⟩ (fun B2 es2 H2 ⟨F2, r2⟩ _ => ?_) h⟩
    obtain ⟨o2, e2, m2, q2⟩ := r2.slot n
    rw [e] at e2
    cases e2
    rw [g] at q2
    obtain ⟨a2, ws, e3, ha2, rr2⟩ := q2
    cases e3
    have hl : SqL K H2 a ws := .inl (.inl ha2)
    refine ⟨fun i hi => ?_, ⟨ws, hl, by rw [rr2.len]; exact Nat.le_refl _⟩, fun i x H' hi y => ?_⟩
    · obtain ⟨v, q, _⟩ := rr2.get (List.getElem?_eq_getElem hi)
      exact ⟨_, v, hl, q⟩
    · obtain ⟨rfl, y⟩ := y
      obtain ⟨d, q1, q2⟩ := rr2.get' (y _ hl)
      exact ⟨d, q1, F2, r2.pushS q2⟩
  · exact h.elim
end
end Df

namespace Df
open PySem L2 GxR My
section
variable {K : PySem.W.Frag} {TB : Tbs} {B : Bs} {F : Hp} {ρ : Ev} {σ : St} {es : Ps} {H : Hp}
/-! ### instances -/
theorem zl_get {α : Type} : ∀ {ns : List Str} {xs : List α} {j : Nat} {f : Str}, ns.Nodup → ns[j]? = some f → (ns.zip xs).lookup f = xs[j]?
  | [], _, _, _, _, e => by simp at e
  | n :: ns, [], j, f, _, _ => by simp
  | n :: ns, x :: xs, 0, f, _, e => by
    cases e
    simp [List.lookup]
  | n :: ns, x :: xs, j + 1, f, d, e => by
    rw [List.getElem?_cons_succ] at e
    obtain ⟨d1, d2⟩ := List.nodup_cons.mp d
    have ne : (f == n) = false := beq_eq_false_iff_ne.mpr fun z => d1 (z ▸ List.mem_of_getElem? e)
    rw [List.zip_cons_cons, List.lookup_cons, ne, List.getElem?_cons_succ]
    exact zl_get d2 e
theorem zl_none {α : Type} : ∀ {ns : List Str} {xs : List α} {f : Str}, f ∉ ns → (ns.zip xs).lookup f = none
  | [], _, _, _ => rfl
  | n :: ns, [], f, _ => rfl
  | n :: ns, x :: xs, f, h => by
    have ne : (f == n) = false := beq_eq_false_iff_ne.mpr fun z => h (z ▸ List.mem_cons_self)
    rw [List.zip_cons_cons, List.lookup_cons, ne]
    exact zl_none fun z => h (List.mem_cons_of_mem _ z)
theorem zl_put {f : Str} {v : V} : ∀ {ns : List Str} {xs : List V}, f ∉ ns → ns.length = xs.length → putF f v (ns.zip xs) = (ns ++ [f]).zip (xs ++ [v])
  | [], [], _, _ => rfl
  | [], _ :: _, _, n => by simp at n
  | _ :: _, [], _, n => by simp at n
  | n :: ns, x :: xs, h, e => by
    show (if n = f then (n, v) :: ns.zip xs else (n, x) :: putF f v (ns.zip xs)) = (n, x) :: (ns ++ [f]).zip (xs ++ [v])
    rw [if_neg (fun z => h (by rw [z]; exact List.mem_cons_self)), zl_put (fun z => h (List.mem_cons_of_mem _ z)) (by simpa using e)]
theorem RpA.snoc {vs : List V} {ds : List Dt} {v : V} {d : Dt} (h : RpA K F vs ds) (r : Rp K F v d) : RpA K F (vs ++ [v]) (ds ++ [d]) := h.app (.cons r .nil)
/-- a pending instance -/
theorem Rf.entI (h : Rf K TB B F ρ σ es H) {e : Lo × Option V} (m : e ∈ ens es ρ σ) {C : Addr} {ns : List Str} {xs : List Dt} (q : dat ρ e.1 = some (.ins C ns xs)) : ∃ a dx vs, e.2 = some (.ref a) ∧ H a = some (.ins C dx (ns.zip vs)) ∧ ns.length = vs.length ∧ RpA K F vs xs := by
  obtain ⟨u, e1, rp⟩ := h.entO m q (fun _ z => nomatch z) (fun _ z => nomatch z)
  cases rp with
  | ins hF hl ra => exact ⟨_, _, _, e1, h.sub _ _ hF, hl, ra⟩
/-- o.f, the field at the place j -/
def eFld (C : Addr) (ns : List Str) (j : Nat) (a : DE) : DE := fun ρ Qd => a ρ fun ρ1 l => match dat ρ1 l with
  | some (.ins C' ns' xs) => (C' = C ∧ ns' = ns) ∧ ∃ d, xs[j]? = some d ∧ Qd ρ1 (.sh d)
  | _ => False
theorem le_fld {C : Addr} {ns : List Str} {j : Nat} {f : Str} {ta : TE} {a : DE} (c : Cls K C) (na : NoAttr K C f) (nd : ns.Nodup) (hj : ns[j]? = some f) (ha : LE K TB ta a) : LE K TB (tFld K ta f) (eFld C ns j a) := fun B ρ σ es H Q Qd r h k => ha B ρ σ es H _ _ r h fun ρ1 l v H1 ⟨F, r1⟩ q => by
  split at q
  · rename_i C' ns' xs hd
    obtain ⟨⟨rfl, rfl⟩, d, hx, q⟩ := q
    obtain ⟨a, dx, vs, e, hH, hl, ra⟩ := r1.entI mem_hd hd
    cases e
    obtain ⟨w, hw, rw⟩ := ra.get hx
    exact ⟨a, _, dx, _, w, rfl, hH, c, na, (zl_get nd hj).trans hw, k _ _ _ _ ⟨F, r1.pop.pushS rw⟩ q⟩
  · exact q.elim
/-- o.m(..) -/
def eMeth (C : Addr) (ns : List Str) (c : Ct) (dl : List Dt) (o : DE) (a : DA) : DE := fun ρ Qd => o ρ fun ρ1 l => match l with
  | .sh (.ins C' ns' xs) => (C' = C ∧ ns' = ns) ∧ a ρ1 fun ρ2 ls => match oneAl ls with
    | true => c (.sh (.ins C ns xs) :: ls.map (argL ρ2) ++ dl.map Lo.sh) fun l => Qd ρ2 l
    | false => False
  | _ => False
theorem le_meth {C : Addr} {ns : List Str} {m : Str} {c : Ct} {dvs : List V} {dl : List Dt} {E : XK} {ta : TE} {o : DE} {t : TA} {a : DA} (hm : m ∉ ns) (hd : ∀ F, RpA K F dvs dl) (ho : LE K TB ta o) (ha : LA K TB t a) : LE K TB (tMeth C m (spOf K TB c) dvs E ta t) (eMeth C ns c dl o a) := fun B ρ σ es H Q Qd r h k =>
  ho B ρ σ es H _ _ r h fun ρ1 l v H1 ⟨F1, r1⟩ q => by
    split at q
    · rename_i C' ns' xs _
      obtain ⟨⟨rfl, rfl⟩, q⟩ := q
      obtain ⟨p, dx, vs, e, hH, hl, ra⟩ := r1.entI (e := (.sh (.ins C' ns' xs), some v)) mem_hd rfl
      cases e
      refine ⟨p, dx, _, rfl, hH, zl_none hm, ?_⟩
      refine ha B ρ1 σ _ H1 _ _ ⟨F1, r1⟩ q fun ρ2 ls ws H2 n ⟨F, r2⟩ q => ?_
      split at q
      · rename_i hk
        have r2' : Rf K TB B F ρ2 σ (((Lo.sh (.ins C' ns' xs) :: ls).zip (V.ref p :: ws)).reverse ++ es) H2 := by
          rw [List.zip_cons_cons, List.reverse_cons, List.append_assoc]
          exact r2
        obtain ⟨r3, hS⟩ := call_start r2' (by simp [n]) (show oneAl (Lo.sh (.ins C' ns' xs) :: ls) = true from hk)
        have r4 := r3.dv (hd F)
        refine ⟨F, _, _, _, ?_, r4, q, fun l v H' hl hc z q' => ?_⟩
        · simp [n, (hd F).len]
        obtain ⟨F', z'⟩ := call_end r2' hS hl hc z
        refine k ρ2 l v H' ⟨F', z'.part ?_⟩ q'
        unfold ens
        rw [List.map_cons, List.map_cons, List.map_append, List.cons_append, List.cons_append, List.append_assoc]
        exact (List.sublist_append_right _ _).cons₂ _
      · exact q.elim
    · exact q.elim
/-! ### a new instance -/
abbrev CtI := List Lo → (List Str → List Dt → Prop) → Prop
def rmv (H : Hp) (p : Addr) : Hp := fun b => if b = p then none else H b
theorem rmv_same {H : Hp} {a : Addr} : rmv H a a = none := if_pos rfl
theorem rmv_ne {H : Hp} {a b : Addr} (h : b ≠ a) : rmv H a b = H b := if_neg h
def spIn (K : PySem.W.Frag) (TB : Tbs) (C : Addr) (c : CtI) : Sp := fun vs H Q _ => ∃ (p dx : Addr) (us : List V) (F : Hp) (ls : List Lo) (S : List Addr) (Qd : List Str → List Dt → Prop), vs = .ref p :: us ∧ ls.length = us.length ∧ H p = some (.ins C dx []) ∧
  Rf K TB ⟨rmv H p, F, S⟩ F (.oi C p [] [] :: ls) ((V.ref p :: us).map some) [] H ∧ c ls Qd ∧ ∀ ns ds H', R K TB ⟨rmv H p, F, S⟩ [] [] [(.oi C p ns ds, .ref p)] H' → Qd ns ds → Q .non H'
theorem rmv_of {H : Hp} {p : Addr} {o : HO} (h : H p = none) : rmv (upd H p o) p = H := by
  funext b
  by_cases z : b = p
  · rw [z, h]; exact rmv_same
  · rw [rmv_ne z, upd_ne z]
theorem init_start {C x dx : Addr} {S : List Addr} {ls : List Lo} {vs : List V} (r : Rf K TB ⟨H, F, S⟩ F ls (vs.map some) [] H) (hx : H x = none) (hd : H dx = none) (n : dx ≠ x) :
    Rf K TB ⟨upd H dx (.own x), F, S⟩ F (.oi C x [] [] :: ls) ((V.ref x :: vs).map some) [] (upd (upd H dx (.own x)) x (.ins C dx [])) := by
  have s1 : Same H (upd H dx (.own x)) := Same.new hd
  have hx1 : upd H dx (.own x) x = none := by rw [upd_ne n.symm]; exact hx
  have s2 : Same (upd H dx (.own x)) (upd (upd H dx (.own x)) x (.ins C dx [])) := Same.new hx1
  have s : Same H (upd (upd H dx (.own x)) x (.ins C dx [])) := s1.trans s2
  obtain ⟨f1, f2, _, f4⟩ := r.fresh hx
  obtain ⟨g1, g2, _, g4⟩ := r.fresh hd
  have ne : ∀ e a, e ∈ ens [] ls (vs.map some) → a ∈ cells e → a ≠ x ∧ a ≠ dx := fun e a m c => ⟨f4 e a m c, g4 e a m c⟩
  refine ⟨by simpa using r.len, fun l m j => ?_, fun b o q => s b o (r.sub b o q), fun P hP => ⟨TabL.ups (TabL.ups (r.tab P hP).1 (fun z => g2 (z ▸ hP))) (fun z => f2 (z ▸ hP)), (r.tab P hP).2⟩, fun e m => ?_, ?_, fun e a m c => ?_, fun b o b1 b2 q => s2 b o q, fun b q => ?_, fun b o q => q, fun b o q => .inl q, fun a ha => ⟨(r.ks a ha).1.same s, ?_⟩⟩
  · rcases List.mem_cons.mp m with rfl | m
    · exact fun z => nomatch z
    · exact r.na l m j
  · rcases List.mem_cons.mp m with rfl | m
    · exact ⟨dx, [], rfl, upd_same, rfl, .nil⟩
    · have m' : e ∈ ens [] ls (vs.map some) := m
      refine ((r.ok e m').mono (fun _ _ z => z) fun a c => .inl ?_).env fun j q => absurd q (r.na _ (List.of_mem_zip m).1 j)
      rw [upd_ne (ne e a m' c).1, upd_ne (ne e a m' c).2]
  · show (((Lo.oi C x [] [], some (V.ref x)) :: ens [] ls (vs.map some)).flatMap cells).Nodup
    rw [flC1 (show cells (Lo.oi C x [] [], some (V.ref x)) = [x] from rfl)]
    refine List.nodup_cons.mpr ⟨fun m => ?_, r.nd⟩
    obtain ⟨e, m', c⟩ := List.mem_flatMap.mp m
    exact (ne e x m' c).1 rfl
  · rcases List.mem_cons.mp m with rfl | m
    · cases in1 c
      exact ⟨f1, f2, .inl hx1⟩
    · have o := r.out e a m c
      refine ⟨o.1, o.2.1, .inr ?_⟩
      rcases o.2.2 with z | z
      · exact absurd z ((r.ok e m).cellAt c)
      · exact z
  · by_cases z : b = x
    · rw [z]; exact hx1
    · rw [upd_ne z] at q; exact q
  · intro z
    have := (r.ks a ha).2
    cases e : H a with
    | none => exact this e
    | some o => rw [show (Bs.mk (upd H dx (.own x)) F S).H a = upd H dx (.own x) a from rfl, s1 a o e] at z; cases z
theorem Rf.rebase {H0 H0' F0 : Hp} {S : List Addr} (r : Rf K TB ⟨H0', F0, S⟩ F ρ σ es H) (s : Same H0 H0') (hS : ∀ a, a ∈ S → H0 a ≠ none) : Rf K TB ⟨H0, F0, S⟩ F ρ σ es H := by
  have no : ∀ a, H0' a = none → H0 a = none := fun a z => by
    cases e : H0 a with
    | none => rfl
    | some o => rw [s a o e] at z; cases z
  refine ⟨r.len, r.na, r.sub, r.tab, r.ok, r.nd, fun e a m c => ?_, fun b o b1 b2 q => r.k1 b o b1 b2 (s b o q), fun b q => no b (r.k2 b q), r.k3, fun b o q => (r.k4 b o q).imp id (no b), fun a ha => ⟨(r.ks a ha).1, hS a ha⟩⟩
  have o := r.out e a m c
  exact ⟨o.1, o.2.1, o.2.2.imp (no a) id⟩
def eMake (C : Addr) (c : CtI) (dl : List Dt) (a : DA) : DE := fun ρ Qd => a ρ fun ρ1 ls => match oneAl ls with
  | true => c (ls.map (argL ρ1) ++ dl.map Lo.sh) fun ns ds => Qd ρ1 (.sh (.ins C ns ds))
  | false => False
theorem le_make {C : Addr} {c : CtI} {dvs : List V} {dl : List Dt} {E : XK} {ta : TA} {a : DA} (hd : ∀ F, RpA K F dvs dl) (ha : LA K TB ta a) : LE K TB (tMake C (spIn K TB C c) dvs E ta) (eMake C c dl a) := fun B ρ σ es H Q Qd r h k =>
  ha B ρ σ es H _ _ r h fun ρ1 ls vs H1 n ⟨F, r1⟩ q => by
    split at q
    · rename_i hk
      intro x dx hx hdx nx
      obtain ⟨r2, hS⟩ := call_start r1 n hk
      generalize ((ls.map (argL ρ1)).zip (vs.map some)).flatMap cells = S at r2 hS
      have r3 := init_start (C := C) (r2.dv (hd F)) hx hdx nx
      have s1 : Same H1 (upd H1 dx (.own x)) := Same.new hdx
      have hx1 : upd H1 dx (.own x) x = none := by rw [upd_ne nx.symm]; exact hx
      have er := rmv_of (o := HO.ins C dx []) hx1
      refine ⟨x, dx, vs ++ dvs, F, ls.map (argL ρ1) ++ dl.map Lo.sh, S, fun ns ds => Qd ρ1 (.sh (.ins C ns ds)), rfl, by simp [n, (hd F).len], upd_same, er.symm ▸ r3, q, fun ns ds H' z q' => ⟨rfl, ?_⟩⟩
      rw [er] at z
      obtain ⟨F1, z1⟩ := z
      have z2 := z1.rebase s1 fun a m e => by
        have := (r2.ks a m).2
        exact this e
      obtain ⟨F2, z3⟩ := call_end (l := .oi C x ns ds) (v := .ref x) r1 hS (fun j z => nomatch z) (fun a c => by cases in1 c; exact hx) ⟨F1, z2⟩
      obtain ⟨dx', ws, e1, e2, e3, ra⟩ := z3.okp
      have z4 := z3.frz (o := .ins C dx' (ns.zip ws)) (d := .ins C ns ds) rfl e2 (fun s => .ins upd_same e3 (ra.same s)) (fun z => nomatch z)
      refine k ρ1 _ _ H' ⟨_, z4.part ?_⟩ q'
      unfold ens
      rw [List.map_cons, List.map_cons, List.map_append, List.cons_append, List.cons_append, List.append_assoc]
      exact (List.sublist_append_right _ _).cons₂ _
    · exact q.elim
theorem le_make0 {C : Addr} {c : CtI} {E : XK} {ta : TA} {a : DA} (ha : LA K TB ta a) : LE K TB (tMake C (spIn K TB C c) [] E ta) (eMake C c [] a) := le_make (fun _ => .nil) ha
/-- self.f = e in an __init__ -/
def sFldS (C : Addr) (pre : List Str) (f : Str) (i : Nat) (e : DE) : DS := fun D ρ => e ρ fun ρ1 l => match gt ρ1 i, nrm l with
  | .oi C' p ns ds, .sh d => (C' = C ∧ ns = pre) ∧ D.nx (ρ1.set i (.oi C p (pre ++ [f]) (ds ++ [d])))
  | _, _ => False
theorem ls_fld {C : Addr} {pre : List Str} {f : Str} {i : Nat} {te : TE} {e : DE} (c : Cls K C) (na : NoAttr K C f) (hf : f ∉ pre) (hl : pre.length < 1000) (he : LE K TB te e) : LS K TB (sFld K (tVar i) te f) (sFldS C pre f i e) := fun B ρ σ es H D Dd z r h k => by
  refine he B ρ σ es H _ _ r h fun ρ1 l v H1 r1 q => ?_
  obtain ⟨F2, r2⟩ := R.nrm r1
  split at q
  · rename_i C' p ns ds d g1 g2
    obtain ⟨⟨rfl, rfl⟩, q⟩ := q
    rw [g2] at r2
    obtain ⟨v', f1, f2⟩ := r2.okp
    cases f1
    have n1 : gt ρ1 i ≠ .no := by rw [g1]; exact fun z => nomatch z
    obtain ⟨o2, e2, m2, q2⟩ := r2.pop.slot n1
    rw [g1] at q2
    obtain ⟨dx, ws, rfl, hH, hn, ra⟩ := q2
    refine ⟨_, e2, p, C', dx, ns.zip ws, rfl, hH, c, na, ?_, ?_⟩
    · rw [List.length_zip]; omega
    refine k.nx _ _ _ rfl ⟨F2, r2.pop.mutS (l' := .oi C' p (ns ++ [f]) (ds ++ [d])) n1 e2 z (by rw [g1]; rfl) rfl (by rw [g1]; exact fun z => nomatch z) (fun j z => nomatch z) ⟨dx, ws ++ [v], rfl, ?_, by simp [hn], ra.snoc f2⟩⟩ q
    rw [upd_same, zl_put hf hn]
  · exact q.elim
def selfD (C p : Addr) (Qd : List Str → List Dt → Prop) : Ev → Prop := fun ρ => match gt ρ 0 with
  | .oi C' p' ns ds => (C' = C ∧ p' = p) ∧ Qd ns ds
  | _ => False
theorem df_init {N : List Str} {C : Addr} {c : CtI} {t : TS} {s : DS} {vs : List V} {Q : VK} {E : XK} {m : Nat} (L : LS K TB t s) (h : spIn K TB C c vs H Q E) (hm : N.length = m) (hv : vs.length ≤ m)
    (hb : ∀ p ls Qd, c ls Qd → s ⟨selfD C p Qd, fun _ => False, fun _ => False, fun _ => False⟩ (padE m (.oi C p [] [] :: ls))) : t { nx := fun _ H' => Q .non H', rt := Q } (start N vs) H := by
  obtain ⟨p, dx, us, F, ls, S, Qd, rfl, n, hp, r, hc, k⟩ := h
  have e : padE m (.oi C p [] [] :: ls) = (.oi C p [] [] :: ls) ++ List.replicate (N.length - (V.ref p :: us).length) Lo.no := by
    rw [padE_eq m _ (by simp only [List.length_cons] at hv ⊢; omega), hm]
    simp [n]
  refine L ⟨rmv H p, F, S⟩ _ _ [] H _ ⟨selfD C p Qd, fun _ => False, fun _ => False, fun _ => False⟩ (fun e m => nomatch m) ⟨F, r.pad _⟩ (e ▸ hb p ls Qd hc) ⟨fun ρ σ H' _ ⟨F', r'⟩ q => ?_, fun l v H' hl hs r' q => q.elim, fun _ _ _ _ _ q => q.elim, fun _ _ _ _ _ q => q.elim⟩
  dsimp only [selfD] at q
  split at q
  · rename_i C' p' ns ds g
    obtain ⟨⟨rfl, rfl⟩, q⟩ := q
    have n1 : gt ρ 0 ≠ .no := by rw [g]; exact fun z => nomatch z
    obtain ⟨o, e1, m1, q1⟩ := r'.slot n1
    rw [g] at m1 q1
    obtain ⟨dx', ws, rfl, _⟩ := q1
    exact k ns ds H' ⟨F', r'.bare m1 rfl (fun j z => nomatch z)⟩ q
  · exact q.elim
theorem spIn_len {C : Addr} {c : CtI} {vs : List V} {Q : VK} {E : XK} {n : Nat} (h : spIn K TB C c vs H Q E) (hn : ∀ ls Qd, c ls Qd → ls.length = n) : vs.length = n + 1 := by
  obtain ⟨p, dx, us, F, ls, S, Qd, rfl, m, hp, r, hc, k⟩ := h
  rw [List.length_cons, ← m, hn ls Qd hc]
end

section
variable {K : PySem.W.Frag} {TB : Tbs} {B : Bs} {F : Hp} {ρ : Ev} {σ : St} {es : Ps} {H : Hp}
theorem le_cls {C : Addr} : LE K TB (tC (.ref C)) (eC (.cls C)) := le_c fun _ => .cls C
theorem insM {l : Lo} {P : Addr → List Str → List Dt → Prop} (q : match l with | .sh (.ins C ns xs) => P C ns xs | _ => False) : ∃ C ns xs, l = .sh (.ins C ns xs) ∧ P C ns xs := by
  cases l with
  | sh d => cases d with
    | ins C ns xs => exact ⟨_, _, _, rfl, q⟩
    | _ => exact q.elim
  | _ => exact q.elim
/-- what isinstance(o, C) wants of an own class -/
structure IsC (K : PySem.W.Frag) (C : Addr) : Prop where
  cl : Cls K C
  ha : PySem.W.findIn K (.ref C) "__class__" = some (some (.builtin "object.__class__"))
  hn : PySem.W.specialIn K (.builtin "object.__class__") "__get__" = some (some (.builtin "getset_descriptor.__get__"))
  ht : PySem.W.takesIn K (.builtin "object.__class__") = some true
  hm : PySem.W.mroIn K C (.type "object") = some true
/-- isinstance(o, D), D an own class, o an instance -/
def eIsiC (C D : Addr) (b : Bool) (a : DA) : DE := fun ρ Qd => a ρ fun ρ1 ls => two ls fun l m => (match l with
  | .sh (.ins C' _ _) => (C' = C ∧ m = .sh (.cls D)) ∧ Qd ρ1 (.sh (.bl b))
  | _ => False)
theorem le_isiC {C D : Addr} {b : Bool} {ta : TA} {a : DA} (I : IsC K C) (kt : PySem.W.kitOne K (.ref C) (.ref D) = some b) (ha : LA K TB ta a) : LE K TB (tCB (rIsi K) ta) (eIsiC C D b a) := fun B ρ σ es H Q Qd r h k => ha B ρ σ es H _ _ r h fun ρ1 ls vs H1 n ⟨F, r1⟩ q => by
  obtain ⟨l, m, v, w, rfl, rfl, q⟩ := two_l n q
  obtain ⟨C', ns, xs, rfl, q0⟩ := insM q
  obtain ⟨⟨rfl, rfl⟩, q9⟩ := q0
  obtain ⟨u1, e1, rr1⟩ := Rf.okp (e := (.sh (.cls D), w)) r1
  cases e1
  cases rr1
  obtain ⟨p, dx, vs, e, hH, hl, ra⟩ := Rf.entI (e := (.sh (.ins C' ns xs), some v)) r1 snd_mem rfl
  cases e
  exact ⟨_, _, _, _, b, rfl, .own D, .base (.ins hH I.cl I.ha I.hn I.ht I.hm), kt, k _ _ _ _ ⟨F, r1.app.pushS (.bl _)⟩ q9⟩
/-- bool(x) of a tuple -/
def eBoolT (a : DA) : DE := fun ρ Qd => a ρ fun ρ1 ls => one ls fun l => (match dat ρ1 l with
  | some (.tup ds) => Qd ρ1 (.sh (.bl (!ds.isEmpty)))
  | _ => False)
theorem le_boolT {ta : TA} {a : DA} (ha : LA K TB ta a) : LE K TB (tCB (fun xs H Q => ∃ (a : Addr) (zs : List V), xs = [V.ref a] ∧ SqT K H a zs ∧ Q (.bl (!zs.isEmpty)) H) ta) (eBoolT a) := fun B ρ σ es H Q Qd r h k => ha B ρ σ es H _ _ r h fun ρ1 ls vs H1 n ⟨F, r1⟩ q => by
  obtain ⟨l, v, rfl, rfl, q⟩ := one_l n q
  split at q
  · rename_i ds hd
    obtain ⟨p, ws, e1, e2, rr⟩ := r1.entT mem_hd hd
    cases Option.some.inj e1
    exact ⟨p, ws, rfl, e2, by rw [rr.emp]; exact k _ _ _ _ ⟨F, r1.pop.pushS (.bl _)⟩ q⟩
  · exact q.elim
/-- a def called at instances -/
theorem own_call {c : Ct} {ls : List Lo} {vs : List V} {Q : VK} {E : XK} {Qd : Lo → Prop} (r : Rf K TB B F ρ σ ((ls.zip vs).reverse ++ es) H) (n : ls.length = vs.length) (hk : oneAl ls = true) (q : c (ls.map (argL ρ)) Qd)
    (k : ∀ l v H', R K TB B ρ σ ((l, v) :: es) H' → Qd l → Q v H') : spOf K TB c vs H Q E := by
  obtain ⟨r2, hS⟩ := call_start r n hk
  refine ⟨F, _, _, _, by simp [n], r2, q, fun l v H' hl hc z q' => ?_⟩
  obtain ⟨F', z'⟩ := call_end r hS hl hc z
  refine k l v H' ⟨F', z'.part ?_⟩ q'
  unfold ens
  rw [List.map_cons, List.map_cons, List.map_append, List.cons_append, List.cons_append, List.append_assoc]
  exact (List.sublist_append_right _ _).cons₂ _
/-- bool(o), by its own __bool__ -/
def eBoolO (C : Addr) (c : Ct) (a : DA) : DE := fun ρ Qd => a ρ fun ρ1 ls => one ls fun l => (match l with
  | .sh (.ins C' ns xs) => C' = C ∧ c [.sh (.ins C' ns xs)] fun l => ∃ b, l = .sh (.bl b) ∧ Qd ρ1 (.sh (.bl b))
  | _ => False)
theorem le_boolO {C : Addr} {c : Ct} {E : XK} {ta : TA} {a : DA} (ha : LA K TB ta a) : LE K TB (tCB (fun xs H Q => ∃ a dx fs, xs = [V.ref a] ∧ H a = some (.ins C dx fs) ∧ spOf K TB c [.ref a] H (fun v H2 => ∃ b, v = .bl b ∧ Q (.bl b) H2) E) ta) (eBoolO C c a) := fun B ρ σ es H Q Qd r h k => ha B ρ σ es H _ _ r h fun ρ1 ls vs H1 n ⟨F, r1⟩ q => by
  obtain ⟨l, v, rfl, rfl, q⟩ := one_l n q
  · obtain ⟨C', ns, xs, rfl, q0⟩ := insM q
    obtain ⟨rfl, q9⟩ := q0
    obtain ⟨p, dx, ws, e, hH, hl, ra⟩ := Rf.entI (e := (.sh (.ins C' ns xs), some v)) r1 mem_hd rfl
    cases e
    refine ⟨p, dx, _, rfl, hH, own_call (ls := [.sh (.ins C' ns xs)]) (vs := [.ref p]) r1 rfl rfl q9 fun l v H' r2 q2 => ?_⟩
    obtain ⟨b, rfl, q2⟩ := q2
    obtain ⟨F2, r3⟩ := r2
    obtain rfl := r3.blP
    exact ⟨b, rfl, k _ _ _ _ ⟨F2, r3⟩ q2⟩
/-- a op b, by the own method of a's class -/
def eBinO (C : Addr) (c : Ct) (a b : DE) : DE := fun ρ Qd => a ρ fun ρ1 l1 => b ρ1 fun ρ2 l2 => match l1 with
  | .sh (.ins C1 ns xs) => (match l2 with
    | .sh (.ins C2 ms ys) => (C1 = C ∧ C2 = C) ∧ c [.sh (.ins C1 ns xs), .sh (.ins C2 ms ys)] fun l => (∃ D os zs, l = .sh (.ins D os zs)) ∧ Qd ρ2 l
    | _ => False)
  | _ => False
theorem le_binO {C : Addr} {c : Ct} {E : XK} {ta tb : TE} {a b : DE} (ha : LE K TB ta a) (hb : LE K TB tb b) : LE K TB (tOp (Gq.rBinO C (spOf K TB c) E) ta tb) (eBinO C c a b) := fun B ρ σ es H Q Qd r h k => ha B ρ σ es H _ _ r h fun ρ1 l1 v1 H1 r1 q1 => hb B ρ1 σ _ H1 _ _ r1 q1 fun ρ2 l2 v2 H2 ⟨F, r2⟩ q2 => by
  · obtain ⟨C1, ns, xs, rfl, q3⟩ := insM q2
    clear q2
    obtain ⟨C2, ms, ys, rfl, q4⟩ := insM q3
    clear q3
    obtain ⟨⟨rfl, rfl⟩, q2⟩ := q4
    obtain ⟨p, dx, ws, e, hH, hl, ra⟩ := Rf.entI (e := (.sh (.ins C2 ms ys), some v2)) r2 mem_hd rfl
    cases e
    obtain ⟨p1, dx1, ws1, e1, hH1, hl1, ra1⟩ := Rf.entI (e := (.sh (.ins C2 ns xs), some v1)) r2 snd_mem rfl
    cases e1
    refine ⟨p1, dx1, _, p, dx, _, rfl, rfl, hH1, hH, own_call (ls := [.sh (.ins C2 ns xs), .sh (.ins C2 ms ys)]) (vs := [.ref p1, .ref p]) r2 rfl rfl q2 fun l v H' r3 q3 => ?_⟩
    obtain ⟨⟨D, os, zs, rfl⟩, q3⟩ := q3
    obtain ⟨F3, r4⟩ := r3
    obtain ⟨p3, _, _, e3, _⟩ := Rf.entI (e := (.sh (.ins D os zs), some v)) r4 mem_hd rfl
    cases e3
    exact ⟨⟨_, rfl⟩, k _ _ _ _ ⟨F3, r4⟩ q3⟩
/-- .. in o: its __iter__ walks the tuple in the field at the place j -/
def iOwnD (C : Addr) (ns : List Str) (j : Nat) (a : DE) : DI := fun ρ Qd => a ρ fun ρ1 l => match l with
  | .sh (.ins C' ns' xs) => (C' = C ∧ ns' = ns) ∧ ∃ ds, xs[j]? = some (.tup ds) ∧ Qd ρ1 ds
  | _ => False
theorem li_ownI {C : Addr} {ns : List Str} {j : Nat} {f : Str} {ta : TE} {a : DE} (nd : ns.Nodup) (hj : ns[j]? = some f) (ha : LE K TB ta a) : LI K TB (Gq.iOwn K C f ta) (iOwnD C ns j a) := fun B ρ σ es H Rr Qd r h k => ha B ρ σ es H _ _ r h fun ρ1 l v H1 ⟨F, r2⟩ q => by
  · obtain ⟨C', ns', xs, rfl, q0⟩ := insM q
    clear q
    obtain ⟨⟨rfl, rfl⟩, ds, hx, q⟩ := q0
    obtain ⟨p, dx, ws, e, hH, hl, ra⟩ := Rf.entI (e := (.sh (.ins C' ns' xs), some v)) r2 mem_hd rfl
    cases e
    obtain ⟨w, hw, rw⟩ := ra.get hx
    have rw' := rw
    cases rw with
    | @tup a vs ds h1 h2 => exact ⟨p, dx, _, a, vs, rfl, hH, (zl_get nd hj).trans hw, SqU.at h1 r2.sub, k ρ1 ds _ H1 [(.sh (.tup ds), .ref a)] (shs1 _ _) ⟨F, r2.pop.pushS rw'⟩ ItOk.tup q⟩
/-- a name's own operator and assignment in one -/
def sAug (g : Int → Int → Int) (i : Nat) (e : DE) : DS := fun D ρ => match gt ρ i with
  | .sh (.int x) => e ρ fun ρ1 l => match l with
    | .sh (.int y) => D.nx (ρ1.set i (.sh (.int (g x y))))
    | _ => False
  | _ => False
theorem ls_augI {g : Int → Int → Int} {i : Nat} {te : TE} {e : DE} (he : LE K TB te e) : LS K TB (tAug i te (ipI g)) (sAug g i e) := fun B ρ σ es H D Dd z ⟨F, r⟩ h k => by
  unfold sAug at h
  split at h
  · rename_i x g0
    have n : gt ρ i ≠ .no := by rw [g0]; exact fun z => nomatch z
    obtain ⟨o, e1, m, q⟩ := r.slot n
    rw [g0] at q
    obtain ⟨v, rfl, rv⟩ := q
    cases rv
    refine ⟨_, e1, he B ρ σ es H _ _ ⟨F, r⟩ h fun ρ1 l v1 H1 ⟨F1, r1⟩ q1 => ?_⟩
    split at q1
    · rename_i y _
      obtain rfl := r1.intP
      exact ⟨x, y, rfl, rfl, k.nx _ _ _ (by rw [List.length_set]) ⟨F1, (r1.pop.pushS (.int _)).set (fun e m => z e m i) (fun j y => nomatch y)⟩ q1⟩
    · exact q1.elim
  · exact h.elim
theorem ls_augAdd {i : Nat} {te : TE} {e : DE} (he : LE K TB te e) : LS K TB (tAug i te (ipI fun i j => i + j)) (sAug (fun i j => i + j) i e) := ls_augI he
theorem ls_augSub {i : Nat} {te : TE} {e : DE} (he : LE K TB te e) : LS K TB (tAug i te (ipI fun i j => i - j)) (sAug (fun i j => i - j) i e) := ls_augI he
/-- sum(elt for a, b in source), the source a row of pairs of whole numbers -/
def dPr (p : Int × Int) : Dt := .tup [.int p.1, .int p.2]
def eGenPS (src : DE) (q : DQ) : DE := fun ρ Qd => src ρ fun ρ1 l => ∃ ps : List (Int × Int), seqL ρ1 l = some (ps.map dPr) ∧ ∃ is : List Int, is.length = ps.length ∧ (∀ (i : Nat) (p : Int × Int) (j : Int), ps[i]? = some p → is[i]? = some j → q [.int p.1, .int p.2] ρ1 fun y => y = .int j) ∧ Qd ρ1 (.sh (.int is.sum))
theorem le_genPS {P : Addr} {gp : Pos} {rd : Gq.QT} {te : TE} {q : DQ} {src : DE} (hP : P ∈ TB) (hg : LmFree TB P gp) (hs : LE K TB te src) (hq : LQ K TB rd q) : LE K TB (Gq.tGenP P gp K rd Gq.resSum te) (eGenPS src q) := fun B ρ σ es H Q Qd r h k =>
  hs B ρ σ es H _ _ r h fun ρ1 l v H1 ⟨F, r1⟩ ⟨ps, e, is, hn, hel, qf⟩ => by
    obtain ⟨a, vs, e1, hl, rr⟩ := r1.entQ mem_hd e
    cases Option.some.inj e1
    have vl : vs.length = ps.length := by rw [rr.len, List.length_map]
    refine ⟨(r1.tab P hP).1.g, a, vs, fun i => (.int (ps.getD i (0, 0)).1, .int (ps.getD i (0, 0)).2), fun i => .int (is.getD i 0), rfl, hl, fun i x hx => ?_, fun i hi => ?_, ?_⟩
    · obtain ⟨d, hd, rx⟩ := rr.get' hx
      rw [List.getElem?_map] at hd
      obtain ⟨p, hp, rfl⟩ := Option.map_eq_some_iff.mp hd
      unfold dPr at rx
      cases rx with
      | @tup t ws ds h1 h2 =>
        cases h2 with
        | cons a1 a2 => cases a2 with
          | cons b1 b2 =>
            cases b2
            cases a1
            cases b1
            simp only [List.getD_eq_getElem?_getD, hp, Option.getD_some]
            exact ⟨t, rfl, SqU.at h1 r1.sub⟩
    · have hp : ps[i]? = some ps[i] := List.getElem?_eq_getElem (by omega)
      have hj : is[i]? = some (is.getD i 0) := by rw [List.getD_eq_getElem?_getD, List.getElem?_eq_getElem (by omega)]; rfl
      simp only [List.getD_eq_getElem?_getD (l := ps), hp, Option.getD_some]
      refine hq B F ρ1 σ _ H1 [.int ps[i].1, .int ps[i].2] [.int ps[i].1, .int ps[i].2] _ _ r1 (.cons (.int _) (.cons (.int _) .nil)) (hel i _ _ hp hj) fun v d' r' z => ?_
      rw [z] at r'
      cases r'
      rfl
    · refine ⟨fun i => is.getD i 0, fun _ _ => rfl, fun H2 tb => ?_⟩
      rw [preSum_list is _ (by omega), vl, ← hn, List.take_length]
      exact k _ _ _ _ ⟨F, (r1.pop.tabbed hP hg tb).pushS (.int _)⟩ qf
/-- sorted of data -/
def lePr (p q : Int × Int) : Prop := p.1 < q.1 ∨ p.1 = q.1 ∧ p.2 ≤ q.2
structure SrtD (ds : List Dt) : Prop where
  fl : fzs 60 ds = true
  al : PySem.W.AllAlike (ds.map py)
  so : PySem.W.Sortable (ds.map py)
def leD : Dt → Dt → Bool := PySem.W.dataLe false py
def eSortedD (a : DA) : DE := fun ρ Qd => a ρ fun ρ1 ls => one ls fun l => ∃ ds, dat ρ1 l = some (.lst ds) ∧ SrtD ds ∧ Qd ρ1 (.ow (ds.mergeSort leD))
theorem RpA.zip_mem {vs : List V} {ds : List Dt} (h : RpA K F vs ds) : ∀ b, b ∈ vs.zip ds → Rp K F b.1 b.2 := by
  induction vs generalizing ds with
  | nil => intro b m; simp at m
  | cons v vs ih =>
    cases h with
    | cons r t =>
      intro b m
      rcases List.mem_cons.mp m with rfl | m
      · exact r
      · exact ih t b m
theorem RpA.of_zip : ∀ {zs : List (V × Dt)}, (∀ b, b ∈ zs → Rp K F b.1 b.2) → RpA K F (zs.map (·.1)) (zs.map (·.2))
  | [], _ => .nil
  | z :: zs, h => .cons (h z List.mem_cons_self) (RpA.of_zip fun b m => h b (List.mem_cons_of_mem _ m))
theorem zip_fst {α β : Type} : ∀ {l : List α} {m : List β}, l.length = m.length → (l.zip m).map (·.1) = l
  | [], [], _ => rfl
  | _ :: _, _ :: _, h => congrArg (_ :: ·) (zip_fst (by simpa using h))
  | [], _ :: _, h => by simp at h
  | _ :: _, [], h => by simp at h
theorem zip_snd {α β : Type} : ∀ {l : List α} {m : List β}, l.length = m.length → (l.zip m).map (·.2) = m
  | [], [], _ => rfl
  | _ :: _, _ :: _, h => congrArg (_ :: ·) (zip_snd (by simpa using h))
  | [], _ :: _, h => by simp at h
  | _ :: _, [], h => by simp at h
theorem fzs_mem : ∀ {n : Nat} {ds : List Dt} {d : Dt}, fzs n ds = true → d ∈ ds → fz n d = true
  | n, e :: ds, d, h, m => by
    unfold fzs at h
    obtain ⟨h1, h2⟩ := Bool.and_eq_true_iff.mp h
    rcases List.mem_cons.mp m with rfl | m
    · exact h1
    · exact fzs_mem h2 m
theorem le_sortedD {ta : TA} {a : DA} (ha : LA K TB ta a) : LE K TB (tCB (Gq.rSortedDt K) ta) (eSortedD a) := fun B ρ σ es H Q Qd r h k => ha B ρ σ es H _ _ r h fun ρ1 ls vs H1 n ⟨F, r1⟩ q => by
  obtain ⟨l, v, rfl, rfl, ⟨ds, e, S, q⟩⟩ := one_l n q
  obtain ⟨p, ws, e1, e2, rr⟩ := r1.entL mem_hd e
  cases Option.some.inj e1
  have zl := rr.len
  have ez : ((ws.zip ds).map fun b => (b.1, py b.2)).map (·.2) = ds.map py := by
    rw [List.map_map]
    show (ws.zip ds).map (fun b => py b.2) = _
    rw [show (fun b : V × Dt => py b.2) = py ∘ (·.2) from rfl, ← List.map_map, zip_snd zl]
  refine ⟨p, (ws.zip ds).map fun b => (b.1, py b.2), rfl, ?_, fun b m => ?_, by rw [ez]; exact S.al, by rw [ez]; exact S.so, fun b m => ?_, fun p hn => ?_⟩
  · rw [List.map_map]
    show SqL K H1 p ((ws.zip ds).map (·.1))
    rw [zip_fst zl]
    exact .inl (.inl e2)
  · obtain ⟨z, mz, rfl⟩ := List.mem_map.mp m
    exact (rr.zip_mem z mz).dp r1.sub (fz_ok (fzs_mem S.fl (List.of_mem_zip mz).2)).1
  · obtain ⟨z, mz, rfl⟩ := List.mem_map.mp m
    exact (fz_ok (fzs_mem S.fl (List.of_mem_zip mz).2)).2.2
  · have er : (((ws.zip ds).map fun b => (b.1, py b.2)).mergeSort (PySem.W.dataLe false (·.2))).map (·.1) = ((ws.zip ds).mergeSort fun x y => leD x.2 y.2).map (·.1) := by
      rw [← List.map_mergeSort (r := fun x y : V × Dt => leD x.2 y.2) (f := fun b : V × Dt => (b.1, py b.2)) (fun a _ b _ => rfl), List.map_map]
      rfl
    have ed : ((ws.zip ds).mergeSort fun x y => leD x.2 y.2).map (·.2) = ds.mergeSort leD := by
      rw [List.map_mergeSort (r := fun x y : V × Dt => leD x.2 y.2) (s := leD) (f := fun x : V × Dt => x.2) (fun a _ b _ => rfl), zip_snd zl]
    rw [er]
    refine k _ _ _ _ ⟨F, r1.pop.newLst (ds := ds.mergeSort leD) ?_ hn⟩ q
    rw [← ed]
    exact RpA.of_zip fun b m => rr.zip_mem b ((List.mergeSort_perm _ _).mem_iff.mp m)
/-- of pairs of whole numbers -/
theorem leD_pr (p q : Int × Int) : leD (dPr p) (dPr q) = decide (p.1 < q.1 ∨ (p.1 = q.1 ∧ p.2 ≤ q.2)) := by
  have := congrFun (congrFun (PySem.W.dataLe_ii (fun p : Int × Int => p.1) (fun p : Int × Int => p.2)) p) q
  exact this
theorem srt_pr (ps : List (Int × Int)) : SrtD (ps.map dPr) := by
  have e : (ps.map dPr).map py = ps.map fun p => PyData.tuple [.int p.1, .int p.2] := by rw [List.map_map]; rfl
  refine ⟨?_, by rw [e]; exact PySem.W.AllAlike.of fun b b' => rfl, by rw [e]; exact PySem.W.Sortable.tuples fun b => ⟨_, _, rfl⟩⟩
  clear e
  induction ps with
  | nil => rfl
  | cons p ps ih => exact Bool.and_eq_true_iff.mpr ⟨rfl, ih⟩
theorem sort_pr (ps : List (Int × Int)) : ∃ qs : List (Int × Int), (ps.map dPr).mergeSort leD = qs.map dPr ∧ qs.Perm ps ∧ qs.Pairwise lePr := by
  refine ⟨ps.mergeSort fun p q => leD (dPr p) (dPr q), (List.map_mergeSort (r := fun p q => leD (dPr p) (dPr q)) (s := leD) (f := dPr) (fun a _ b _ => rfl)).symm, List.mergeSort_perm .., ?_⟩
  have := List.pairwise_mergeSort (le := fun p q : Int × Int => leD (dPr p) (dPr q)) (fun a b c h1 h2 => by
    rw [leD_pr] at *
    simp at *
    omega) (fun a b => by
    rw [leD_pr, leD_pr]
    simp
    omega) ps
  exact this.imp fun h => by
    rw [leD_pr] at h
    have h2 := of_decide_eq_true h
    exact h2
/-- zip of two tuples too -/
theorem ItOk.zipT {a b : Addr} {xs ys : List Dt} : ItOk K TB (RZ.ItzT K a b) [(.sh (.tup ys), .ref b), (.sh (.tup xs), .ref a)] (zp xs ys) := fun B ρ σ es H ⟨F, r⟩ m => by
  obtain ⟨u, e1, rr⟩ := r.entS (List.mem_append_left _ (List.mem_map.mpr ⟨_, m _ List.mem_cons_self, rfl⟩)) rfl
  obtain ⟨u2, e2, ss⟩ := r.entS (List.mem_append_left _ (List.mem_map.mpr ⟨_, m _ snd_mem, rfl⟩)) rfl
  cases e1
  cases e2
  cases rr with
  | tup h1 h2 =>
    cases ss with
    | tup g1 g2 =>
      have hb := SqU.at (K := K) h1 r.sub
      have ha := SqU.at (K := K) g1 r.sub
      refine ⟨fun i hi => ?_, ⟨_, _, ha, hb, by rw [g2.len, h2.len, zp_len]; omega⟩, fun i x H' hi y => ?_⟩
      · rw [zp_len] at hi
        obtain ⟨v, q, _⟩ := g2.get (List.getElem?_eq_getElem (show i < xs.length by omega))
        obtain ⟨w, q', _⟩ := h2.get (List.getElem?_eq_getElem (show i < ys.length by omega))
        exact ⟨_, _, v, w, ha, hb, q, q'⟩
      · obtain ⟨T, x, z, rfl, hT, rfl, y1, y2⟩ := y
        obtain ⟨d, q1, q2⟩ := g2.get' (y1 _ ha)
        obtain ⟨d', q3, q4⟩ := h2.get' (y2 _ hb)
        exact ⟨_, zp_get q1 q3, _, r.newTup (.cons q2 (.cons q4 .nil)) hT⟩
def iZA (a : DA) : DI := fun ρ Qd => a ρ fun ρ1 ls => two ls fun l m => (∃ xs ys, l = .sh (.lst xs) ∧ m = .sh (.lst ys) ∧ Qd ρ1 (zp xs ys)) ∨ ∃ xs ys, l = .sh (.tup xs) ∧ m = .sh (.tup ys) ∧ Qd ρ1 (zp xs ys)
theorem li_zipA {ta : TA} {a : DA} (ha : LA K TB ta a) : LI K TB (RZ.iZipA K ta) (iZA a) := fun B ρ σ es H Rr Qd r h k => ha B ρ σ es H _ _ r h fun ρ1 ls vs H1 n ⟨F, r1⟩ q => by
  obtain ⟨l, m, v, w, rfl, rfl, q0⟩ := two_l n q
  have zz : ∀ (d d' : Dt) (v w : V), Shd [(.sh d, w), (.sh d', v)] := fun d d' v w e m => by
    rcases List.mem_cons.mp m with rfl | m
    · exact ⟨_, rfl⟩
    · exact shs1 _ _ e m
  rcases q0 with ⟨xs, ys, rfl, rfl, q1⟩ | ⟨xs, ys, rfl, rfl, q1⟩
  · obtain ⟨u1, e1, rr1⟩ := Rf.okp (e := (.sh (.lst ys), w)) r1
    obtain ⟨u2, e2, rr2⟩ := Rf.okp (e := (.sh (.lst xs), v)) (Rf.pop (e := (.sh (.lst ys), w)) r1)
    cases e1
    cases e2
    cases rr1 with
    | @lst a1 _ _ h1 h2 =>
      cases rr2 with
      | @lst a2 _ _ g1 g2 => exact ⟨a2, a1, _, _, rfl, .inl ⟨.inl (.inl (r1.sub _ _ g1)), .inl (.inl (r1.sub _ _ h1)), k ρ1 _ _ H1 [(.sh (.lst ys), .ref a1), (.sh (.lst xs), .ref a2)] (zz _ _ _ _) ⟨F, r1⟩ ItOk.zip q1⟩⟩
  · obtain ⟨u1, e1, rr1⟩ := Rf.okp (e := (.sh (.tup ys), w)) r1
    obtain ⟨u2, e2, rr2⟩ := Rf.okp (e := (.sh (.tup xs), v)) (Rf.pop (e := (.sh (.tup ys), w)) r1)
    cases e1
    cases e2
    cases rr1 with
    | @tup a1 _ _ h1 h2 =>
      cases rr2 with
      | @tup a2 _ _ g1 g2 => exact ⟨a2, a1, _, _, rfl, .inr ⟨SqU.at g1 r1.sub, SqU.at h1 r1.sub, k ρ1 _ _ H1 [(.sh (.tup ys), .ref a1), (.sh (.tup xs), .ref a2)] (zz _ _ _ _) ⟨F, r1⟩ ItOk.zipT q1⟩⟩
/-- t[i:j] of a tuple, also the whole of it -/
def eSlA (a : DE) (lo hi : DO) : DE := fun ρ Qd => a ρ fun ρ1 l => lo ρ1 fun ρ2 i => hi ρ2 fun ρ3 j => match dat ρ3 l with
  | some (.tup ds) => Qd ρ3 (.sh (.tup (cutL ds i j)))
  | _ => False
theorem le_slA {ta : TE} {tl th : TO} {a : DE} {lo hi : DO} (ha : LE K TB ta a) (hl : LO K TB tl lo) (hh : LO K TB th hi) : LE K TB (tSl (rSlA K) ta tl th) (eSlA a lo hi) := fun B ρ σ es H Q Qd r h k =>
  ha B ρ σ es H _ _ r h fun ρ1 l v H1 r1 q1 => hl B ρ1 σ _ H1 _ _ r1 q1 fun ρ2 i H2 r2 q2 => hh B ρ2 σ _ H2 _ _ r2 q2 fun ρ3 j H3 ⟨F, r3⟩ q3 => by
    split at q3
    · rename_i ds hd
      obtain ⟨u, e0, rp⟩ := r3.entO (e := (l, some v)) mem_hd hd (fun _ z => nomatch z) (fun _ z => nomatch z)
      cases e0
      obtain ⟨p, vs, e1, f1, g1⟩ := r3.entT mem_hd hd
      cases Option.some.inj e1
      refine ⟨p, vs, rfl, f1, fun hw => ?_, fun hw q hq => k _ _ _ _ ⟨_, r3.pop.newTup (g1.cut i j) hq⟩ q3⟩
      refine k _ _ _ _ ⟨F, r3.pop.pushS rp⟩ ?_
      rw [g1.len] at hw
      have e : cutL ds i j = ds := by
        unfold cutL
        rw [hw.1, hw.2]
        simp
      rw [e] at q3
      exact q3
    · exact q3.elim
theorem cut_tail (xs : List Dt) : cutL xs (some 1) none = xs.drop 1 := by
  unfold cutL
  rw [HT.sIx_none, show (1 : Int) = ((1 : Nat) : Int) from rfl, HT.sIx_nat]
  cases xs with
  | nil => rfl
  | cons x xs =>
    have e : min 1 (x :: xs).length = 1 := by simp only [List.length_cons]; omega
    rw [e, List.take_of_length_le (by simp)]
end

section
variable {K : PySem.W.Frag} {TB : Tbs} {B : Bs} {F F' : Hp} {ρ : Ev} {σ : St} {es : Ps} {H H' : Hp}
/-! ### own trees -/
/-- a tree without its places -/
inductive Td where
  | d (x : Dt)
  | l (ts : List Td)
  | t (ts : List Td)
mutual
def Tr.td : Tr → Td
  | .d x => .d x
  | .l _ ts => .l (Tr.tds ts)
  | .t ts => .t (Tr.tds ts)
def Tr.tds : List Tr → List Td
  | [] => []
  | x :: ts => Tr.td x :: Tr.tds ts
end
mutual
def Td.dat : Td → Dt
  | .d x => x
  | .l ts => .lst (Td.dats ts)
  | .t ts => .tup (Td.dats ts)
def Td.dats : List Td → List Dt
  | [] => []
  | x :: ts => Td.dat x :: Td.dats ts
end
theorem tds_map : ∀ ts : List Tr, Tr.tds ts = ts.map Tr.td
  | [] => rfl
  | _ :: ts => by unfold Tr.tds; rw [tds_map ts]; rfl
theorem dats_map : ∀ ts : List Tr, Tr.dats ts = ts.map Tr.dat
  | [] => rfl
  | _ :: ts => by unfold Tr.dats; rw [dats_map ts]; rfl
theorem tdats_map : ∀ ts : List Td, Td.dats ts = ts.map Td.dat
  | [] => rfl
  | _ :: ts => by unfold Td.dats; rw [tdats_map ts]; rfl
theorem inns_map : ∀ ts : List Tr, Tr.inns ts = ts.flatMap Tr.inn
  | [] => rfl
  | _ :: ts => by unfold Tr.inns; rw [inns_map ts]; rfl
mutual
theorem td_dat : ∀ t : Tr, t.td.dat = t.dat
  | .d x => by unfold Tr.td Td.dat Tr.dat; rfl
  | .l a ts => by unfold Tr.td Td.dat Tr.dat; rw [tds_dats ts]
  | .t ts => by unfold Tr.td Td.dat Tr.dat; rw [tds_dats ts]
theorem tds_dats : ∀ ts : List Tr, Td.dats (Tr.tds ts) = Tr.dats ts
  | [] => rfl
  | x :: ts => by unfold Tr.tds Td.dats Tr.dats; rw [td_dat x, tds_dats ts]
end
theorem td_d (x : Dt) : (Tr.d x).td = .d x := by unfold Tr.td; rfl
theorem td_l (a : Addr) (ts : List Tr) : (Tr.l a ts).td = .l (ts.map Tr.td) := by unfold Tr.td; rw [tds_map]
theorem td_t (ts : List Tr) : (Tr.t ts).td = .t (ts.map Tr.td) := by unfold Tr.td; rw [tds_map]
theorem tdat_d (x : Dt) : (Td.d x).dat = x := by unfold Td.dat; rfl
theorem tdat_l (ts : List Td) : (Td.l ts).dat = .lst (ts.map Td.dat) := by unfold Td.dat; rw [tdats_map]
theorem tdat_t (ts : List Td) : (Td.t ts).dat = .tup (ts.map Td.dat) := by unfold Td.dat; rw [tdats_map]
theorem inn_d (x : Dt) : (Tr.d x).inn = [] := by unfold Tr.inn; rfl
theorem inn_l (a : Addr) (ts : List Tr) : (Tr.l a ts).inn = a :: Tr.inns ts := by rw [Tr.inn]
theorem inn_t (ts : List Tr) : (Tr.t ts).inn = Tr.inns ts := by rw [Tr.inn]
theorem inns_ds : ∀ ds : List Dt, Tr.inns (ds.map Tr.d) = []
  | [] => rfl
  | d :: ds => by
    rw [inns_map, List.map_cons, List.flatMap_cons, inn_d, ← inns_map, inns_ds ds]; rfl
theorem inns_app (ts us : List Tr) : Tr.inns (ts ++ us) = Tr.inns ts ++ Tr.inns us := by rw [inns_map, inns_map, inns_map, List.flatMap_append]
/-! places in a tree -/
def Tr.kids : Tr → List Tr
  | .d _ => []
  | .l _ ts => ts
  | .t ts => ts
def Tr.put1 (t : Tr) (us : List Tr) : Tr := match t with
  | .d x => .d x
  | .l a _ => .l a us
  | .t _ => .t us
def Tr.get : Tr → List Nat → Option Tr
  | u, [] => some u
  | u, i :: p => match u.kids[i]? with
    | some c => c.get p
    | none => none
def Tr.put : Tr → List Nat → Tr → Tr
  | _, [], s => s
  | u, i :: p, s => match u.kids[i]? with
    | some c => u.put1 (u.kids.set i (c.put p s))
    | none => u
theorem inns_at : ∀ {ts : List Tr} {i : Nat} {c : Tr}, ts[i]? = some c → ∃ R, (Tr.inns ts).Perm (c.inn ++ R) ∧ ∀ c' : Tr, (Tr.inns (ts.set i c')).Perm (c'.inn ++ R)
  | x :: ts, 0, c, e => by
    cases e
    exact ⟨Tr.inns ts, by rw [Tr.inns], fun c' => by rw [List.set_cons_zero, Tr.inns]⟩
  | x :: ts, i + 1, c, e => by
    rw [List.getElem?_cons_succ] at e
    obtain ⟨R, h1, h2⟩ := inns_at e
    refine ⟨x.inn ++ R, ?_, fun c' => ?_⟩
    · rw [Tr.inns]
      exact (h1.append_left _).trans (by rw [← List.append_assoc, ← List.append_assoc]; exact List.perm_append_comm.append_right _)
    · rw [List.set_cons_succ, Tr.inns]
      exact ((h2 c').append_left _).trans (by rw [← List.append_assoc, ← List.append_assoc]; exact List.perm_append_comm.append_right _)
  | [], _, _, e => by simp at e
theorem kids_inn (t : Tr) : ∃ A, t.inn = A ++ Tr.inns t.kids ∧ ∀ us, (t.kids ≠ [] → (t.put1 us).inn = A ++ Tr.inns us) := by
  cases t with
  | d x => exact ⟨[], by rw [inn_d]; rfl, fun us n => absurd rfl n⟩
  | l a ts => exact ⟨[a], by rw [inn_l]; rfl, fun us _ => by show (Tr.l a us).inn = _; rw [inn_l]; rfl⟩
  | t ts => exact ⟨[], by rw [inn_t]; rfl, fun us _ => by show (Tr.t us).inn = _; rw [inn_t]; rfl⟩
theorem put_inn : ∀ {p : List Nat} {t s : Tr}, t.get p = some s → ∃ R, t.inn.Perm (s.inn ++ R) ∧ ∀ s' : Tr, (t.put p s').inn.Perm (s'.inn ++ R)
  | [], t, s, e => by cases e; exact ⟨[], by simp, fun s' => by show s'.inn.Perm _; simp⟩
  | i :: p, t, s, e => by
    unfold Tr.get at e
    cases q : t.kids[i]? with
    | none => rw [q] at e; cases e
    | some c =>
      rw [q] at e
      obtain ⟨R1, h1, h2⟩ := put_inn (p := p) e
      obtain ⟨R2, g1, g2⟩ := inns_at q
      obtain ⟨A, a1, a2⟩ := kids_inn t
      have kn : t.kids ≠ [] := fun z => by rw [z] at q; simp at q
      have mix : ∀ X Y : List Addr, (A ++ (Y ++ R2)).Perm (X ++ (A ++ R2)) ↔ (A ++ (Y ++ R2)).Perm (X ++ (A ++ R2)) := fun _ _ => Iff.rfl
      refine ⟨R1 ++ (A ++ R2), ?_, fun s' => ?_⟩
      · rw [a1]
        refine ((g1.append_left A).trans ((h1.append_right R2).append_left A)).trans ?_
        rw [List.append_assoc, ← List.append_assoc, ← List.append_assoc s.inn]
        have : (A ++ s.inn ++ (R1 ++ R2)).Perm (s.inn ++ A ++ (R1 ++ R2)) := List.perm_append_comm.append_right _
        refine this.trans ?_
        rw [List.append_assoc, List.append_assoc]
        refine List.Perm.append_left _ ?_
        rw [← List.append_assoc, ← List.append_assoc]
        exact List.perm_append_comm.append_right _
      · show (Tr.put t (i :: p) s').inn.Perm _
        unfold Tr.put
        rw [q]
        show (t.put1 (t.kids.set i (c.put p s'))).inn.Perm _
        rw [a2 _ kn]
        refine (((g2 _).append_left A).trans (((h2 s').append_right R2).append_left A)).trans ?_
        rw [List.append_assoc, ← List.append_assoc, ← List.append_assoc s'.inn]
        have : (A ++ s'.inn ++ (R1 ++ R2)).Perm (s'.inn ++ A ++ (R1 ++ R2)) := List.perm_append_comm.append_right _
        refine this.trans ?_
        rw [List.append_assoc, List.append_assoc]
        refine List.Perm.append_left _ ?_
        rw [← List.append_assoc, ← List.append_assoc]
        exact List.perm_append_comm.append_right _
theorem RTs.len : ∀ {vs : List V} {ts : List Tr}, RTs K F H vs ts → vs.length = ts.length
  | _, _, .nil => rfl
  | _, _, .cons _ u => congrArg (· + 1) (RTs.len u)
theorem RTs.at : ∀ {vs : List V} {ts : List Tr} {i : Nat} {c : Tr}, RTs K F H vs ts → ts[i]? = some c → ∃ w, vs[i]? = some w ∧ RT K F H w c
  | _, _ :: _, 0, _, .cons r _, e => ⟨_, rfl, by cases e; exact r⟩
  | _, _ :: _, i + 1, _, .cons _ u, e => by
    rw [List.getElem?_cons_succ] at e
    obtain ⟨w, h1, h2⟩ := RTs.at u e
    exact ⟨w, by rw [List.getElem?_cons_succ]; exact h1, h2⟩
  | _, [], _, _, _, e => by simp at e
theorem RTs.app : ∀ {vs ws : List V} {ts us : List Tr}, RTs K F H vs ts → RTs K F H ws us → RTs K F H (vs ++ ws) (ts ++ us)
  | _, _, _, _, .nil, h => h
  | _, _, _, _, .cons r u, h => .cons r (RTs.app u h)
theorem RTs.ds : ∀ {vs : List V} {ds : List Dt}, RpA K F vs ds → RTs K F H vs (ds.map Tr.d)
  | _, _, .nil => .nil
  | _, _, .cons r u => .cons (.d r) (RTs.ds u)
/-- one child changes -/
theorem RTs.set : ∀ {vs : List V} {ts : List Tr} {i : Nat} {c c' : Tr}, RTs K F H vs ts → ts[i]? = some c → (Tr.inns ts).Nodup → (∀ w, RT K F H w c → RT K F H' w c') → (∀ b, b ∈ Tr.inns ts → b ∉ c.inn → H' b = H b) → RTs K F H' vs (ts.set i c')
  | _, x :: ts, 0, c, c', .cons r u, e, nd, k, hh => by
    cases e
    rw [Tr.inns] at nd
    rw [List.set_cons_zero]
    refine .cons (k _ r) (RTs.mono (fun _ _ z => z) (fun b m => hh b (by rw [Tr.inns]; exact List.mem_append_right _ m) fun z => (List.nodup_append.mp nd).2.2 b z b m rfl) u)
  | _, x :: ts, i + 1, c, c', .cons r u, e, nd, k, hh => by
    rw [List.getElem?_cons_succ] at e
    rw [Tr.inns] at nd
    rw [List.set_cons_succ]
    obtain ⟨n1, n2, n3⟩ := List.nodup_append.mp nd
    have ci : ∀ b, b ∈ c.inn → b ∈ Tr.inns ts := fun b m => by
      obtain ⟨R, h1, _⟩ := inns_at e
      exact h1.mem_iff.mpr (List.mem_append_left _ m)
    exact .cons (RT.mono (fun _ _ z => z) (fun b m => hh b (by rw [Tr.inns]; exact List.mem_append_left _ m) fun z => n3 b m b (ci b z) rfl) r) (RTs.set u e n2 k fun b m n => hh b (by rw [Tr.inns]; exact List.mem_append_right _ m) n)
  | _, [], _, _, _, _, e, _, _, _ => by simp at e
theorem RT.at : ∀ {p : List Nat} {v : V} {t s : Tr}, RT K F H v t → t.get p = some s → ∃ w, RT K F H w s
  | [], _, _, _, r, e => by cases e; exact ⟨_, r⟩
  | i :: p, v, tt, s, r, e => by
    unfold Tr.get at e
    cases q : tt.kids[i]? with
    | none => rw [q] at e; cases e
    | some c =>
      rw [q] at e
      cases r with
      | d r => simp [Tr.kids] at q
      | l h u => obtain ⟨w, _, h2⟩ := u.at q; exact RT.at h2 e
      | t h u => obtain ⟨w, _, h2⟩ := u.at q; exact RT.at h2 e
theorem RT.put : ∀ {p : List Nat} {v : V} {t s s' : Tr}, RT K F H v t → t.get p = some s → t.inn.Nodup → (∀ w, RT K F H w s → RT K F H' w s') → (∀ b, b ∈ t.inn → b ∉ s.inn → H' b = H b) → RT K F H' v (t.put p s')
  | [], _, _, _, _, r, e, _, k, _ => by cases e; exact k _ r
  | i :: p, v, tt, s, s', r, e, nd, k, hh => by
    unfold Tr.get at e
    unfold Tr.put
    cases q : tt.kids[i]? with
    | none => rw [q] at e; cases e
    | some c =>
      rw [q] at e
      have si : ∀ b, b ∈ s.inn → b ∈ c.inn := fun b m => by
        obtain ⟨R, h1, _⟩ := put_inn e
        exact h1.mem_iff.mpr (List.mem_append_left _ m)
      have ci : ∀ b, b ∈ c.inn → b ∈ Tr.inns tt.kids := fun b m => by
        obtain ⟨R, h1, _⟩ := inns_at q
        exact h1.mem_iff.mpr (List.mem_append_left _ m)
      have step : (Tr.inns tt.kids).Nodup → (∀ b, b ∈ Tr.inns tt.kids → b ∈ tt.inn) → ∀ vs, RTs K F H vs tt.kids → RTs K F H' vs (tt.kids.set i (c.put p s')) := fun n1 sb vs u => by
        refine RTs.set u q n1 (fun w r1 => RT.put r1 e ?_ k fun b m n => hh b (sb b (ci b m)) n) fun b m n => hh b (sb b m) fun z => n (si b z)
        obtain ⟨R, h1, _⟩ := inns_at q
        exact (List.nodup_append.mp (h1.nodup_iff.mp n1)).1
      cases r with
      | d r => simp [Tr.kids] at q
      | @l a vs ts h u =>
        rw [inn_l] at nd
        obtain ⟨n1, n2⟩ := List.nodup_cons.mp nd
        refine .l ((hh a (by rw [inn_l]; exact List.mem_cons_self) fun z => n1 (ci a (si a z))).trans h) (step n2 (fun b m => by rw [inn_l]; exact List.mem_cons_of_mem _ m) _ u)
      | t h u =>
        rw [inn_t] at nd
        exact .t h (step nd (fun b m => by rw [inn_t]; exact m) _ u)
theorem Sks.at : ∀ {vs : List V} {ts : List Tr} {i : Nat} {c : Tr}, Sks K F vs ts → ts[i]? = some c → ∃ w, vs[i]? = some w ∧ Sk K F w c
  | _, _ :: _, 0, _, .cons r _, e => ⟨_, rfl, by cases e; exact r⟩
  | _, _ :: _, i + 1, _, .cons _ u, e => by
    rw [List.getElem?_cons_succ] at e
    obtain ⟨w, h1, h2⟩ := Sks.at u e
    exact ⟨w, by rw [List.getElem?_cons_succ]; exact h1, h2⟩
  | _, [], _, _, _, e => by simp at e
theorem Sks.len : ∀ {vs : List V} {ts : List Tr}, Sks K F vs ts → vs.length = ts.length
  | _, _, .nil => rfl
  | _, _, .cons _ u => congrArg (· + 1) (Sks.len u)
/-! what is pending as a tree -/
def trq (l : Lo) (P : Tr → Prop) : Prop := match l with
  | .sh d => P (.d d)
  | .ow ds => ∀ b, P (.l b (ds.map Tr.d))
  | .tr t => P t
  | _ => False
theorem trq_ok {l : Lo} {v : V} {P : Tr → Prop} (h : Rf K TB B F ρ σ ((l, v) :: es) H) (q : trq l P) : ∃ t, Rf K TB B F ρ σ ((.tr t, v) :: es) H ∧ P t := by
  unfold trq at q
  split at q
  · rename_i d
    obtain ⟨u, e, r⟩ := h.okp
    cases e
    refine ⟨.d d, Rf.rep (X := [(.sh d, v)]) h (fun e m => by rw [List.mem_singleton.mp m]; exact fun z => nomatch z) ⟨[], ?_⟩ (fun _ _ => rfl) (fun b m => nomatch m) ⟨v, rfl, .d r⟩, q⟩
    show ((Tr.d d).inn ++ []).Perm _
    rw [inn_d]; exact List.Perm.refl _
  · rename_i ds
    obtain ⟨a, vs, e, hl, r⟩ := h.okp
    cases Option.some.inj e
    refine ⟨.l a (ds.map Tr.d), Rf.rep (X := [(.ow ds, .ref a)]) h (fun e m => by rw [List.mem_singleton.mp m]; exact fun z => nomatch z) ⟨[], ?_⟩ (fun _ _ => rfl) (fun b m => ?_) ⟨_, rfl, .l hl (RTs.ds r)⟩, q a⟩
    · show ((Tr.l a (ds.map Tr.d)).inn ++ []).Perm _
      rw [inn_l, inns_ds]; exact List.Perm.refl _
    · have m : b ∈ [a] := m
      rw [in1 m, hl]; exact fun z => nomatch z
  · rename_i t
    exact ⟨t, h, q⟩
  · exact q.elim
theorem Rf.perm {es' : Ps} (h : Rf K TB B F ρ σ es H) (p : es'.Perm es) : Rf K TB B F ρ σ es' H := by
  have pe : (ens es' ρ σ).Perm (ens es ρ σ) := (p.map _).append_right _
  exact ⟨h.len, h.na, h.sub, h.tab, fun e m => h.ok e (pe.mem_iff.mp m), (pe.flatMap_right cells).nodup_iff.mpr h.nd, fun e a m => h.out e a (pe.mem_iff.mp m), h.k1, h.k2, h.k3, h.k4, h.ks⟩
def trqs : List Lo → (List Tr → Prop) → Prop
  | [], P => P []
  | l :: ls, P => trq l fun t => trqs ls fun ts => P (t :: ts)
theorem trqs_ok : ∀ {ls : List Lo} {vs : List V} {es : Ps} {P : List Tr → Prop}, ls.length = vs.length → Rf K TB B F ρ σ ((ls.zip vs) ++ es) H → trqs ls P → ∃ ts : List Tr, ts.length = vs.length ∧ Rf K TB B F ρ σ (((ts.map Lo.tr).zip vs) ++ es) H ∧ P ts
  | [], [], _, _, _, h, q => ⟨[], rfl, h, q⟩
  | l :: ls, v :: vs, es, P, n, h, q => by
    obtain ⟨t, h1, q1⟩ := trq_ok (es := ls.zip vs ++ es) h q
    have h2 : Rf K TB B F ρ σ (ls.zip vs ++ ((.tr t, v) :: es)) H := h1.perm List.perm_middle
    obtain ⟨ts, n2, h3, q3⟩ := trqs_ok (by simpa using n) h2 q1
    exact ⟨t :: ts, by simpa using n2, h3.perm List.perm_middle.symm, q3⟩
  | [], _ :: _, _, _, n, _, _ => by simp at n
  | _ :: _, [], _, _, n, _, _ => by simp at n
theorem zip_cells : ∀ {ts : List Tr} {vs : List V}, ts.length = vs.length → ((((ts.map Lo.tr).zip vs).map fun e => ((e.1, some e.2) : Lo × Option V)).flatMap cells) = Tr.inns ts
  | [], [], _ => rfl
  | t :: ts, v :: vs, n => by
    have := zip_cells (ts := ts) (vs := vs) (by simpa using n)
    rw [Tr.inns, ← this]
    rfl
  | [], _ :: _, n => by simp at n
  | _ :: _, [], n => by simp at n
theorem zip_rts : ∀ {ts : List Tr} {vs : List V} {es : Ps}, ts.length = vs.length → Rf K TB B F ρ σ (((ts.map Lo.tr).zip vs) ++ es) H → RTs K F H vs ts
  | [], [], _, _, _ => .nil
  | t :: ts, v :: vs, es, n, h => by
    obtain ⟨u, e, r⟩ := Rf.okp (e := (.tr t, v)) (es := (ts.map Lo.tr).zip vs ++ es) h
    cases e
    exact .cons r (zip_rts (by simpa using n) (Rf.pop (e := (.tr t, v)) h))
  | [], _ :: _, _, n, _ => by simp at n
  | _ :: _, [], _, n, _ => by simp at n
theorem zip_nsrc {ts : List Tr} {vs : List V} : ∀ e, e ∈ (ts.map Lo.tr).zip vs → e.1 ≠ .src := fun e m => by
  obtain ⟨t, _, e1⟩ := List.mem_map.mp (List.of_mem_zip m).1
  rw [← e1]; exact fun z => nomatch z
/-- a list of pending trees -/
theorem Rf.lstT {ts : List Tr} {vs : List V} {p : Addr} (n : ts.length = vs.length) (h : Rf K TB B F ρ σ (((ts.map Lo.tr).zip vs) ++ es) H) (hp : H p = none) : Rf K TB B F ρ σ ((.tr (.l p ts), .ref p) :: es) (upd H p (.lst vs)) := by
  have rt := zip_rts n h
  have zc := zip_cells (ts := ts) (vs := vs) n
  have h1 : Rf K TB B F ρ σ (((.ow [], .ref p) : Lo × V) :: ((ts.map Lo.tr).zip vs ++ es)) (upd H p (.lst [])) := h.newO hp ⟨p, [], rfl, upd_same, .nil⟩ rfl
  have old : ∀ b, b ∈ Tr.inns ts → b ≠ p := fun b m z => rt.has m (z ▸ hp)
  refine Rf.rep (X := (.ow [], .ref p) :: (ts.map Lo.tr).zip vs) h1 (fun e m => ?_) ⟨[], ?_⟩ (fun b m => ?_) (fun b m => ?_) ⟨_, rfl, .l upd_same (rt.mono (fun _ _ z => z) fun b m => upd_ne (old b m))⟩
  · rcases List.mem_cons.mp m with rfl | m
    · exact fun z => nomatch z
    · exact zip_nsrc e m
  · rw [List.map_cons, List.flatMap_cons, zc, List.append_nil]
    show ((Tr.l p ts).inn).Perm ([p] ++ _)
    rw [inn_l]; exact List.Perm.refl _
  · rw [List.map_cons, List.flatMap_cons, zc] at m
    have : b ≠ p := fun z => m (List.mem_append_left _ (by rw [z]; exact List.mem_singleton.mpr rfl))
    rw [upd_ne this, upd_ne this]
  · rw [List.map_cons, List.flatMap_cons, zc] at m
    by_cases z : b = p
    · rw [z, upd_same]; exact fun z => nomatch z
    · rw [upd_ne z]
      rcases List.mem_append.mp m with m | m
      · exact absurd (in1 m) z
      · exact rt.has m
/-- a tuple of pending trees -/
theorem Rf.tupT {ts : List Tr} {vs : List V} {p : Addr} (n : ts.length = vs.length) (h : Rf K TB B F ρ σ (((ts.map Lo.tr).zip vs) ++ es) H) (hp : H p = none) : Rf K TB B (upd F p (.tup vs)) ρ σ ((.tr (.t ts), .ref p) :: es) (upd H p (.tup vs)) := by
  have zc := zip_cells (ts := ts) (vs := vs) n
  have h1 := h.newF (p := p) (o := .tup vs) hp
  have rt := zip_rts n h1
  refine Rf.rep (X := (ts.map Lo.tr).zip vs) h1 zip_nsrc ⟨[], ?_⟩ (fun b m => rfl) (fun b m => ?_) ⟨_, rfl, .t (.inl (.inl upd_same)) rt⟩
  · rw [zc, List.append_nil]
    show ((Tr.t ts).inn).Perm _
    rw [inn_t]
  · rw [zc] at m; exact rt.has m
/-! displays -/
def aConsT (a : DE) (r : DA) : DA := fun ρ Qd => a ρ fun ρ1 l => r ρ1 fun ρ2 ls => Qd ρ2 (l :: ls)
theorem la_consT {ta : TE} {tr : TA} {a : DE} {r : DA} (ha : LE K TB ta a) (hr : LA K TB tr r) : LA K TB (tCons ta tr) (aConsT a r) := fun B ρ σ es H Q Qd z h k =>
  ha B ρ σ es H _ _ z h fun ρ1 l v H1 z1 q => hr B ρ1 σ _ H1 _ _ z1 q fun ρ2 ls vs H2 n z2 q2 => k ρ2 (l :: ls) (v :: vs) H2 (congrArg (· + 1) n) (by
    show R K TB B ρ2 σ ((((l, v) :: ls.zip vs)).reverse ++ es) H2
    rw [List.reverse_cons, List.append_assoc]
    exact z2) q2
/-- a name's own thing goes into the display -/
def eVarM (i : Nat) : DE := fun ρ Qd => match gt ρ i with
  | .sh d => Qd ρ (.sh d)
  | .ow ds => Qd (ρ.set i .no) (.ow ds)
  | .tr t => Qd (ρ.set i .no) (.tr t)
  | _ => False
def eLstT (a : DA) : DE := fun ρ Qd => a ρ fun ρ1 ls => ls.length ≤ 100000 ∧ trqs ls fun ts => ∀ p, Qd ρ1 (.tr (.l p ts))
def eTupT (a : DA) : DE := fun ρ Qd => a ρ fun ρ1 ls => ls.length ≤ 100000 ∧ trqs ls fun ts => Qd ρ1 (.tr (.t ts))
theorem le_lstT {ta : TA} {a : DA} (ha : LA K TB ta a) : LE K TB (tLst ta) (eLstT a) := fun B ρ σ es H Q Qd r h k => ha B ρ σ es H _ _ r h fun ρ1 ls vs H1 n ⟨F, r1⟩ ⟨n1, q⟩ => by
  obtain ⟨ts, n2, r2, q2⟩ := trqs_ok n (r1.perm ((List.reverse_perm _).symm.append_right _)) q
  exact ⟨small6' (by omega), fun p hp => k _ _ _ _ ⟨_, r2.lstT n2 hp⟩ (q2 p)⟩
theorem le_tupT {ta : TA} {a : DA} (ha : LA K TB ta a) : LE K TB (tTup ta) (eTupT a) := fun B ρ σ es H Q Qd r h k => ha B ρ σ es H _ _ r h fun ρ1 ls vs H1 n ⟨F, r1⟩ ⟨n1, q⟩ => by
  obtain ⟨ts, n2, r2, q2⟩ := trqs_ok n (r1.perm ((List.reverse_perm _).symm.append_right _)) q
  exact ⟨small6' (by omega), fun p hp => k _ _ _ _ ⟨_, r2.tupT n2 hp⟩ q2⟩
end

section
variable {K : PySem.W.Frag} {TB : Tbs} {B : Bs} {F F' : Hp} {ρ : Ev} {σ : St} {es : Ps} {H H' : Hp}
/-- a list inside a name's tree changes -/
theorem Rf.mutT {j : Nat} {a : Addr} {X : Ps} {T : Tr} {p : List Nat} {ts ts' : List Tr} {vs' : List V} (h : Rf K TB B F ρ σ (X ++ es) H) (z : Shs (X ++ es)) (nX : ∀ e, e ∈ X → e.1 ≠ .src) (g : gt ρ j = .tr T) (get : T.get p = some (.l a ts))
    (c : ∃ R2, (Tr.inns ts' ++ R2).Perm (Tr.inns ts ++ (X.map fun e => ((e.1, some e.2) : Lo × Option V)).flatMap cells)) (hr : RTs K F (upd H a (.lst vs')) vs' ts') : Rf K TB B F (ρ.set j (.tr (T.put p (.l a ts')))) σ es (upd H a (.lst vs')) := by
  have n : gt ρ j ≠ .no := by rw [g]; exact fun z => nomatch z
  obtain ⟨o, e1, m, q⟩ := h.slot n
  rw [g] at q
  obtain ⟨v, rfl, rt⟩ := q
  have h1 := h.take n e1 z
  rw [g] at h1
  obtain ⟨R, p1, p2⟩ := put_inn get
  have nd : T.inn.Nodup := by
    have := h1.nd
    exact (List.nodup_append.mp this).1
  have h2 : Rf K TB B F (ρ.set j .no) σ ((.tr (T.put p (.l a ts')), v) :: es) (upd H a (.lst vs')) := by
    refine Rf.rep (X := (.tr T, v) :: X) h1 (fun e m => ?_) ?_ (fun b m => ?_) (fun b m => ?_) ⟨v, rfl, rt.put get nd (fun w r => ?_) fun b m1 m2 => ?_⟩
    · rcases List.mem_cons.mp m with rfl | m
      · exact fun z => nomatch z
      · exact nX e m
    · obtain ⟨R2, c⟩ := c
      refine ⟨R2, ?_⟩
      rw [List.map_cons, List.flatMap_cons]
      show ((T.put p (.l a ts')).inn ++ R2).Perm (T.inn ++ _)
      have q1 := (p2 (.l a ts')).append_right R2
      have q2 := p1.append_right ((X.map fun e => ((e.1, some e.2) : Lo × Option V)).flatMap cells)
      rw [inn_l] at q1 q2
      refine q1.trans (List.Perm.trans ?_ q2.symm)
      show (a :: (Tr.inns ts' ++ R) ++ R2).Perm (a :: (Tr.inns ts ++ R) ++ _)
      rw [List.cons_append, List.cons_append, List.append_assoc, List.append_assoc]
      refine List.Perm.cons _ ?_
      refine (List.perm_append_comm.append_left _).trans (List.Perm.trans ?_ (List.perm_append_comm.append_left _))
      rw [← List.append_assoc, ← List.append_assoc]
      exact c.append_right R
    · have : b ≠ a := fun y => m (by
        rw [List.map_cons, List.flatMap_cons, y]
        exact List.mem_append_left _ (p1.mem_iff.mpr (by rw [inn_l]; exact List.mem_append_left _ List.mem_cons_self)))
      exact upd_ne this
    · by_cases y : b = a
      · rw [y, upd_same]; exact fun z => nomatch z
      · rw [upd_ne y]
        obtain ⟨e, m1, m2⟩ := List.mem_flatMap.mp m
        obtain ⟨x, m3, rfl⟩ := List.mem_map.mp m1
        exact (h1.ok _ (List.mem_append_left _ (List.mem_map.mpr ⟨x, List.mem_append_left _ m3, rfl⟩))).cellAt m2
    · cases r with
      | l _ _ => exact .l upd_same hr
    · have : b ≠ a := fun y => m2 (by rw [y, inn_l]; exact List.mem_cons_self)
      exact upd_ne this
  have h3 := h2.set (i := j) (fun e m => z e (List.mem_append_right _ m) j) (fun i z => nomatch z)
  rw [set_set, set_back e1] at h3
  exact h3
/-- what a receiver is known by -/
def skq (ρ : Ev) (l : Lo) (P : Tr → Prop) : Prop := match l with
  | .sk t => P t
  | .al j => (match gt ρ j with
    | .tr t => P t
    | _ => False)
  | _ => False
theorem skq_ok {l : Lo} {o : Option V} {P : Tr → Prop} (h : Rf K TB B F ρ σ es H) (m : (l, o) ∈ ens es ρ σ) (q : skq ρ l P) : ∃ t v, o = some v ∧ Sk K F v t ∧ P t := by
  unfold skq at q
  split at q
  · rename_i t
    obtain ⟨u, e, r⟩ := h.ok _ m
    exact ⟨t, u, e, r, q⟩
  · rename_i j
    split at q
    · rename_i t g
      obtain ⟨n1, u, e1, e2⟩ := h.ok _ m
      obtain ⟨o', f1, _, f3⟩ := h.slot n1
      rw [e2] at f1
      cases f1
      rw [g] at f3
      obtain ⟨w, e3, r⟩ := f3
      cases e3
      exact ⟨t, u, e1, r.sk, q⟩
    · exact q.elim
  · exact q.elim
/-- a list inside a name's tree as it is -/
theorem Rf.look (h : Rf K TB B F ρ σ es H) {j : Nat} {T : Tr} {p : List Nat} {a : Addr} {ts : List Tr} (g : gt ρ j = .tr T) (get : T.get p = some (.l a ts)) : ∃ vs, H a = some (.lst vs) ∧ RTs K F H vs ts := by
  obtain ⟨o, e1, m, q⟩ := h.slot (i := j) (by rw [g]; exact fun z => nomatch z)
  rw [g] at q
  obtain ⟨v, rfl, rt⟩ := q
  obtain ⟨w, r⟩ := rt.at get
  cases r with
  | l h1 h2 => exact ⟨_, h1, h2⟩
def skl : Tr → Lo
  | .d x => .sh x
  | t => .sk t
theorem skl_ok {t : Tr} {v : V} (r : Sk K F v t) : Ok K F H ρ σ (skl t) (some v) ∧ cells (skl t, some v) = [] := by
  cases r with
  | d r => exact ⟨⟨v, rfl, r⟩, rfl⟩
  | l => exact ⟨⟨_, rfl, .l⟩, rfl⟩
  | t h u => exact ⟨⟨_, rfl, .t h u⟩, rfl⟩
/-! x[i] of a tree -/
def eIxTK (a b : DE) : DE := fun ρ Qd => a ρ fun ρ1 l1 => b ρ1 fun ρ2 l2 => ∃ i, l2 = .sh (.int i) ∧ skq ρ2 l1 fun t => ∃ ts c, t = .t ts ∧ atI ts i = some c ∧ Qd ρ2 (skl c)
def eIxLK (a b : DE) : DE := fun ρ Qd => a ρ fun ρ1 l1 => b ρ1 fun ρ2 l2 => ∃ i, l2 = .sh (.int i) ∧ skq ρ2 l1 fun t => ∃ x ts0 j T p ts c, t = .l x ts0 ∧ gt ρ2 j = .tr T ∧ T.get p = some (.l x ts) ∧ atI ts i = some c ∧ Qd ρ2 (skl c)
theorem atI_sks {vs : List V} {ts : List Tr} {i : Int} {c : Tr} (r : Sks K F vs ts) (h : atI ts i = some c) : ∃ v, atI vs i = some v ∧ Sk K F v c := by
  unfold atI at h ⊢
  rw [r.len]
  cases e : ixN ts.length i with
  | none => rw [e] at h; cases h
  | some j => rw [e] at h; exact r.at h
theorem le_ixTK {ta tb : TE} {a b : DE} (ha : LE K TB ta a) (hb : LE K TB tb b) : LE K TB (tOp (rIxT K) ta tb) (eIxTK a b) := fun B ρ σ es H Q Qd r h k =>
  ha B ρ σ es H _ _ r h fun ρ1 l1 v1 H1 r1 q1 => hb B ρ1 σ _ H1 _ _ r1 q1 fun ρ2 l2 v2 H2 ⟨F, r2⟩ ⟨i, e0, q2⟩ => by
    subst e0
    obtain ⟨t, u, e1, sk, ts, c, rfl, h1, q⟩ := skq_ok r2 snd_mem q2
    obtain rfl := r2.intP
    cases e1
    cases sk with
    | t hs su =>
      obtain ⟨v, g1, g2⟩ := atI_sks su h1
      obtain ⟨o1, o2⟩ := skl_ok (H := H2) (ρ := ρ2) (σ := σ) g2
      exact ⟨_, _, _, v, rfl, rfl, SqU.at hs r2.sub, g1, k _ _ _ _ ⟨F, r2.pop.pop.push o1 o2⟩ q⟩
theorem le_ixLK {ta tb : TE} {a b : DE} (ha : LE K TB ta a) (hb : LE K TB tb b) : LE K TB (tOp (rIxL K) ta tb) (eIxLK a b) := fun B ρ σ es H Q Qd r h k =>
  ha B ρ σ es H _ _ r h fun ρ1 l1 v1 H1 r1 q1 => hb B ρ1 σ _ H1 _ _ r1 q1 fun ρ2 l2 v2 H2 ⟨F, r2⟩ ⟨i, e0, q2⟩ => by
    subst e0
    obtain ⟨t, u, e1, sk, x, ts0, j, T, p, ts, c, rfl, g, get, h1, q⟩ := skq_ok r2 snd_mem q2
    obtain rfl := r2.intP
    cases e1
    cases sk with
    | l =>
      obtain ⟨vs, hv, su⟩ := r2.look g get
      obtain ⟨v, g1, g2⟩ := atI_sks su.sk h1
      obtain ⟨o1, o2⟩ := skl_ok (H := H2) (ρ := ρ2) (σ := σ) g2
      exact ⟨_, _, _, v, rfl, rfl, .inl (.inl hv), g1, k _ _ _ _ ⟨F, r2.pop.pop.push o1 o2⟩ q⟩
theorem le_varM {i : Nat} : ∀ (B : Bs) (ρ : Ev) (σ : St) (es : Ps) (H : Hp) (Q : VK) (Qd : Ev → Lo → Prop), Shs es → R K TB B ρ σ es H → eVarM i ρ Qd → (∀ ρ' l v H', R K TB B ρ' σ ((l, v) :: es) H' → Qd ρ' l → Q v H') → tVar i σ H Q := by
  intro B ρ σ es H Q Qd z ⟨F, r⟩ h k
  unfold eVarM at h
  have n : gt ρ i ≠ .no := fun z => by rw [z] at h; exact h
  obtain ⟨o, e, m, q⟩ := r.slot n
  split at h
  · rename_i d g
    rw [g] at q
    obtain ⟨v, rfl, e2⟩ := q
    exact ⟨v, e, k _ _ _ _ ⟨F, r.pushS e2⟩ h⟩
  · rename_i ds g
    rw [g] at q
    obtain ⟨a, vs, rfl, _⟩ := q
    have := r.take n e z
    rw [g] at this
    exact ⟨_, e, k _ _ _ _ ⟨F, this⟩ h⟩
  · rename_i t g
    rw [g] at q
    obtain ⟨v, rfl, _⟩ := q
    have := r.take n e z
    rw [g] at this
    exact ⟨_, e, k _ _ _ _ ⟨F, this⟩ h⟩
  · exact h.elim
/-! x.append(e), x[i] = e, x a list in a tree -/
def sAppT (a e : DE) : DS := fun D ρ => a ρ fun ρ0 l0 => skq ρ0 l0 fun t => ∃ x ts0, t = .l x ts0 ∧ ((∃ j T p ts, gt ρ0 j = .tr T ∧ T.get p = some (.l x ts)) ∧ e ρ0 fun ρ1 l => ∃ j T p ts, gt ρ1 j = .tr T ∧ T.get p = some (.l x ts) ∧ ts.length < 100000 ∧ trq l fun s => D.nx (ρ1.set j (.tr (T.put p (.l x (ts ++ [s]))))))
theorem shs_one {es : Ps} {l : Lo} {v : V} (n : ∀ j, l ≠ .al j) (z : Shs es) : Shs ((l, v) :: es) := fun e m j => by
  rcases List.mem_cons.mp m with rfl | m
  · exact n j
  · exact z e m j
theorem ls_appT {ta te : TE} {a e : DE} (ha : LE K TB ta a) (he : LEZ K TB te e) : LS K TB (tDrop (tBM K "list" rAppend ta (tCons te tNil))) (sAppT a e) := fun B ρ σ es H D Dd z r h k => by
  refine ha B ρ σ es H _ _ r h fun ρ0 l0 v0 H0 ⟨F0, r0⟩ q0 => ?_
  obtain ⟨t, u, e1, sk, x, ts0, rfl, ⟨j0, T0, p0, us, g0, get0⟩, q⟩ := skq_ok r0 mem_hd q0
  cases e1
  cases sk with
  | l =>
    obtain ⟨vs0, hv0, _⟩ := r0.look g0 get0
    refine ⟨.inl ⟨rfl, _, .inl (.inl hv0)⟩, he B ρ0 σ es H0 _ _ z ⟨F0, r0.pop⟩ q fun ρ1 l v H1 ⟨F1, r1⟩ ⟨j, T, p, ts, g, get, hz, q1⟩ => ?_⟩
    obtain ⟨s, r2, q2⟩ := trq_ok r1 q1
    obtain ⟨vs, hv, su⟩ := r2.look g get
    obtain ⟨w, ew, rw1⟩ := r2.okp
    cases ew
    refine ⟨x, vs, v, rfl, rfl, hv, small6 (by rw [su.len]; omega), k.nx _ _ _ rfl ⟨F1, r2.mutT (X := [(.tr s, v)]) (shs_one (fun j z => nomatch z) z) (fun e m => by rw [List.mem_singleton.mp m]; exact fun z => nomatch z) g get ⟨[], ?_⟩ ?_⟩ q2⟩
    · rw [inns_app, List.append_nil]
      refine List.Perm.append_left _ ?_
      show (Tr.inns [s]).Perm (s.inn ++ [])
      exact List.Perm.refl _
    · -- the cells of the list's children and of the new one are not the list itself
      have nx : ∀ b, b ∈ Tr.inns ts ∨ b ∈ s.inn → b ≠ x := fun b m y => by
        have n : gt ρ1 j ≠ .no := by rw [g]; exact fun z => nomatch z
        obtain ⟨o, f1, f2, f3⟩ := r2.slot n
        rw [g] at f3 f2
        obtain ⟨v3, rfl, _⟩ := f3
        have h1 := r2.take n f1 (shs_one (fun j z => nomatch z) z)
        rw [g] at h1
        have nd : (T.inn ++ (s.inn ++ (ens es (ρ1.set j .no) σ).flatMap cells)).Nodup := h1.nd
        obtain ⟨n1, _, n3⟩ := List.nodup_append.mp nd
        obtain ⟨R, p1, _⟩ := put_inn get
        rw [inn_l] at p1
        have n4 := p1.nodup_iff.mp n1
        rcases m with m | m
        · rw [y] at m
          exact (List.nodup_cons.mp n4).1 (List.mem_append_left _ m)
        · exact n3 x (p1.mem_iff.mpr List.mem_cons_self) x (List.mem_append_left _ (y ▸ m)) rfl
      exact (su.mono (fun _ _ z => z) fun b m => upd_ne (nx b (.inl m))).app (.cons (rw1.mono (fun _ _ z => z) fun b m => upd_ne (nx b (.inr m))) .nil)
def sStT (a ie e : DE) : DS := fun D ρ => e ρ fun ρ0 l => a ρ0 fun ρ1 l1 => ie ρ1 fun ρ2 l2 => skq ρ2 l1 fun t => ∃ x ts0, t = .l x ts0 ∧ ∃ i d, l2 = .sh (.int i) ∧ nrm l = .sh d ∧ ∃ j T p ts m, gt ρ2 j = .tr T ∧ T.get p = some (.l x ts) ∧ ixN ts.length i = some m ∧ D.nx (ρ2.set j (.tr (T.put p (.l x (ts.set m (.d d))))))
theorem inns_set_sub : ∀ (ts : List Tr) (m : Nat) (d : Dt), ∃ R2, (Tr.inns (ts.set m (.d d)) ++ R2).Perm (Tr.inns ts)
  | [], m, d => ⟨[], by simp⟩
  | t :: ts, 0, d => ⟨t.inn, by rw [List.set_cons_zero, Tr.inns, Tr.inns, inn_d]; exact List.perm_append_comm⟩
  | t :: ts, m + 1, d => by
    obtain ⟨R2, h⟩ := inns_set_sub ts m d
    refine ⟨R2, ?_⟩
    rw [List.set_cons_succ, Tr.inns, Tr.inns, List.append_assoc]
    exact h.append_left _
theorem RTs.setD {v : V} {d : Dt} (r : Rp K F v d) : ∀ {vs : List V} {ts : List Tr} (m : Nat), RTs K F H vs ts → RTs K F H (vs.set m v) (ts.set m (.d d))
  | _, _, _, .nil => .nil
  | _, _, 0, .cons _ u => .cons (.d r) u
  | _, _, m + 1, .cons q u => .cons q (RTs.setD r m u)
theorem ls_stT {ta te ti : TE} {a ie e : DE} (ha : LE K TB ta a) (hi : LE K TB ti ie) (he : LE K TB te e) : LS K TB (tAsg te (gSub ta ti rSetL)) (sStT a ie e) := fun B ρ σ es H D Dd z r h k => by
  refine he B ρ σ es H _ _ r h fun ρ0 l v H0 r0 q0 => ?_
  have r0 := R.nrm r0
  refine ha B ρ0 σ _ H0 _ _ r0 q0 fun ρ1 l1 v1 H1 r1 q1 => hi B ρ1 σ _ H1 _ _ r1 q1 fun ρ2 l2 v2 H2 ⟨F, r2⟩ q2 => ?_
  obtain ⟨t, u, e1, sk, x, ts0, rfl, i, d, rfl, ed, j, T, p, ts, m, g, get, hx, q⟩ := skq_ok r2 snd_mem q2
  cases e1
  obtain rfl := r2.intP
  cases sk with
  | l =>
    obtain ⟨vs, hv, su⟩ := r2.look g get
    rw [ed] at r2
    obtain ⟨w, ew, rw1⟩ := r2.pop.pop.okp
    cases ew
    refine ⟨x, vs, i, m, rfl, rfl, hv, by rw [su.len]; exact hx, k.nx _ _ _ rfl ⟨F, Rf.mutT (X := []) r2.pop.pop.pop z (fun e m => nomatch m) g get ?_ ?_⟩ q⟩
    · obtain ⟨R2, h⟩ := inns_set_sub ts m d
      exact ⟨R2, by show (Tr.inns (ts.set m (.d d)) ++ R2).Perm (Tr.inns ts ++ []); rw [List.append_nil]; exact h⟩
    · have nd : T.inn.Nodup := by
        have n : gt ρ2 j ≠ .no := by rw [g]; exact fun z => nomatch z
        obtain ⟨o, f1, f2, f3⟩ := r2.pop.pop.pop.slot n
        rw [g] at f3
        obtain ⟨v3, rfl, _⟩ := f3
        have h1 := r2.pop.pop.pop.take n f1 z
        rw [g] at h1
        exact (List.nodup_append.mp h1.nd).1
      obtain ⟨R, p1, _⟩ := put_inn get
      rw [inn_l] at p1
      have n4 := p1.nodup_iff.mp nd
      have nx : ∀ b, b ∈ Tr.inns ts → b ≠ x := fun b m y => (List.nodup_cons.mp n4).1 (List.mem_append_left _ (y ▸ m))
      exact RTs.setD (rw1.same (fun _ _ z => z)) m (su.mono (fun _ _ z => z) fun b m => upd_ne (nx b m))
end

section
variable {K : PySem.W.Frag} {TB : Tbs} {B : Bs} {F F' : Hp} {ρ : Ev} {σ : St} {es : Ps} {H H' : Hp}
/-- a name's own thing is handed on -/
def mvq (ρ : Ev) (l : Lo) (P : Ev → Lo → Prop) : Prop := match l with
  | .al j => (match gt ρ j with
    | .ow ds => P (ρ.set j .no) (.ow ds)
    | .tr t => P (ρ.set j .no) (.tr t)
    | .od kvs => P (ρ.set j .no) (.od kvs)
    | _ => False)
  | l => P ρ l
theorem mvq_ok {l : Lo} {v : V} {P : Ev → Lo → Prop} (h : Rf K TB B F ρ σ ((l, v) :: es) H) (z : Shs es) (q : mvq ρ l P) : ∃ ρ' l', Rf K TB B F ρ' σ ((l', v) :: es) H ∧ (∀ j, l' ≠ .al j) ∧ P ρ' l' := by
  unfold mvq at q
  split at q
  · rename_i j
    obtain ⟨n1, u, e1, e2⟩ := h.okp
    cases e1
    have h1 := h.pop.take n1 e2 z
    split at q
    · rename_i ds g; rw [g] at h1; exact ⟨_, _, h1, (fun j z => nomatch z), q⟩
    · rename_i t g; rw [g] at h1; exact ⟨_, _, h1, (fun j z => nomatch z), q⟩
    · rename_i t g; rw [g] at h1; exact ⟨_, _, h1, (fun j z => nomatch z), q⟩
    · exact q.elim
  · rename_i n
    exact ⟨_, _, h, n, q⟩
def eMov (e : DE) : DE := fun ρ Qd => e ρ fun ρ1 l => mvq ρ1 l Qd
theorem lz_mov {te : TE} {e : DE} (he : LE K TB te e) : LEZ K TB te (eMov e) := fun B ρ σ es H Q Qd z r h k => he B ρ σ es H _ _ r h fun ρ1 l v H1 ⟨F, r1⟩ q => by
  obtain ⟨ρ', l', r2, _, q2⟩ := mvq_ok r1 z q
  exact k ρ' l' v H1 ⟨F, r2⟩ q2
/-! displays that take names' own things -/
def mvs (ρ : Ev) : List Lo → (Ev → List Tr → Prop) → Prop
  | [], P => P ρ []
  | l :: ls, P => match l with
    | .al j => (match gt ρ j with
      | .ow ds => ∀ b, mvs (ρ.set j .no) ls fun ρ' ts => P ρ' (.l b (ds.map Tr.d) :: ts)
      | .tr t => mvs (ρ.set j .no) ls fun ρ' ts => P ρ' (t :: ts)
      | _ => False)
    | .sh d => mvs ρ ls fun ρ' ts => P ρ' (.d d :: ts)
    | .ow ds => ∀ b, mvs ρ ls fun ρ' ts => P ρ' (.l b (ds.map Tr.d) :: ts)
    | .tr t => mvs ρ ls fun ρ' ts => P ρ' (t :: ts)
    | _ => False
def nal : Lo → Lo
  | .al _ => .no
  | l => l
theorem nal_na (l : Lo) (j : Nat) : nal l ≠ .al j := by cases l <;> exact fun z => nomatch z
theorem Rf.nals {X : Ps} (h : Rf K TB B F ρ σ (X ++ es) H) : Rf K TB B F ρ σ (X.map (fun e => (nal e.1, e.2)) ++ es) H := by
  have mm : ∀ e, e ∈ ens (X.map (fun e => (nal e.1, e.2)) ++ es) ρ σ → e.1 = .no ∨ e ∈ ens (X ++ es) ρ σ := fun e m => by
    rcases List.mem_append.mp m with m | m
    · obtain ⟨x, m1, rfl⟩ := List.mem_map.mp m
      rcases List.mem_append.mp m1 with m1 | m1
      · obtain ⟨y, m2, rfl⟩ := List.mem_map.mp m1
        have my : ((y.1, some y.2) : Lo × Option V) ∈ ens (X ++ es) ρ σ := List.mem_append_left _ (List.mem_map.mpr ⟨y, List.mem_append_left _ m2, rfl⟩)
        obtain ⟨l, v⟩ := y
        cases l with
        | al j => exact .inl rfl
        | _ => exact .inr my
      · exact .inr (List.mem_append_left _ (List.mem_map.mpr ⟨x, List.mem_append_right _ m1, rfl⟩))
    · exact .inr (List.mem_append_right _ m)
  have ce : (ens (X.map (fun e => (nal e.1, e.2)) ++ es) ρ σ).flatMap cells = (ens (X ++ es) ρ σ).flatMap cells := by
    unfold ens
    rw [List.map_append, List.map_append, List.flatMap_append, List.flatMap_append, List.flatMap_append, List.flatMap_append]
    congr 2
    induction X with
    | nil => rfl
    | cons x X ih =>
      have := ih (Rf.pop (e := x) h) (fun e m => by
        rcases mm e (by
          rcases List.mem_append.mp m with m | m
          · rw [List.map_append] at m
            rcases List.mem_append.mp m with m | m
            · exact List.mem_append_left _ (by rw [List.map_append]; exact List.mem_append_left _ (List.mem_cons_of_mem _ m))
            · exact List.mem_append_left _ (by rw [List.map_append]; exact List.mem_append_right _ m)
          · exact List.mem_append_right _ m) with z | z
        · exact .inl z
        · by_cases y : e.1 = .no
          · exact .inl y
          · refine .inr ?_
            rcases List.mem_append.mp m with m | m
            · rw [List.map_append] at m
              rcases List.mem_append.mp m with m | m
              · obtain ⟨w, m1, rfl⟩ := List.mem_map.mp m
                obtain ⟨u, m2, rfl⟩ := List.mem_map.mp m1
                obtain ⟨l, v⟩ := u
                cases l with
                | al j => exact absurd rfl y
                | _ => exact List.mem_append_left _ (List.mem_map.mpr ⟨_, List.mem_append_left _ m2, rfl⟩)
              · obtain ⟨w, m1, rfl⟩ := List.mem_map.mp m
                exact List.mem_append_left _ (List.mem_map.mpr ⟨_, List.mem_append_right _ m1, rfl⟩)
            · exact List.mem_append_right _ m)
      rw [List.map_cons, List.map_cons, List.map_cons, List.flatMap_cons, List.flatMap_cons]
      congr 1
      obtain ⟨l, v⟩ := x
      cases l <;> rfl
  refine ⟨h.len, h.na, h.sub, h.tab, fun e m => ?_, ce ▸ h.nd, fun e a m c => ?_, h.k1, h.k2, h.k3, h.k4, h.ks⟩
  · rcases mm e m with z | z
    · rw [z]; trivial
    · exact h.ok e z
  · rcases mm e m with z | z
    · obtain ⟨l, o⟩ := e
      cases z
      exact in0 c
    · exact h.out e a z c
theorem shs_nal {ls : List Lo} {vs : List V} {es : Ps} (z : Shs es) : Shs ((ls.map nal).zip vs ++ es) := fun e m j => by
  rcases List.mem_append.mp m with m | m
  · obtain ⟨l, _, e1⟩ := List.mem_map.mp (List.of_mem_zip m).1
    rw [← e1]; exact nal_na l j
  · exact z e m j
theorem mvs_ok : ∀ {ls : List Lo} {vs : List V} {es : Ps} {ρ : Ev} {P : Ev → List Tr → Prop}, ls.length = vs.length → (∀ j v, (Lo.al j, v) ∈ ls.zip vs → σ[j]? = some (some v)) → Rf K TB B F ρ σ ((ls.map nal).zip vs ++ es) H → Shs es → mvs ρ ls P → ∃ ρ' ts, ts.length = vs.length ∧ Rf K TB B F ρ' σ ((ts.map Lo.tr).zip vs ++ es) H ∧ P ρ' ts
  | [], [], _, ρ, _, _, _, h, _, q => ⟨ρ, [], rfl, h, q⟩
  | l :: ls, v :: vs, es, ρ, P, n, al, h, z, q => by
    have go : ∀ (ρ1 : Ev) (l1 : Lo), (∀ j, l1 ≠ .al j) → Rf K TB B F ρ1 σ ((l1, v) :: ((ls.map nal).zip vs ++ es)) H → trq l1 (fun t => mvs ρ1 ls fun ρ' ts => P ρ' (t :: ts)) → ∃ ρ' ts, ts.length = (v :: vs).length ∧ Rf K TB B F ρ' σ ((ts.map Lo.tr).zip (v :: vs) ++ es) H ∧ P ρ' ts := fun ρ1 l1 n1 h1 q1 => by
      obtain ⟨t, h2, q2⟩ := trq_ok h1 q1
      have h3 : Rf K TB B F ρ1 σ ((ls.map nal).zip vs ++ ((.tr t, v) :: es)) H := h2.perm List.perm_middle
      obtain ⟨ρ', ts, n2, h4, q4⟩ := mvs_ok (by simpa using n) (fun j w m => al j w (List.mem_cons_of_mem _ m)) h3 (shs_one (fun j z => nomatch z) z) q2
      exact ⟨ρ', t :: ts, by simpa using n2, h4.perm List.perm_middle.symm, q4⟩
    cases l with
    | al j =>
      have e2 : σ[j]? = some (some v) := al j v List.mem_cons_self
      have n1 : gt ρ j ≠ .no := fun y => by
        have q : (match gt ρ j with
          | .ow ds => ∀ b, mvs (ρ.set j .no) ls fun ρ' ts => P ρ' (.l b (ds.map Tr.d) :: ts)
          | .tr t => mvs (ρ.set j .no) ls fun ρ' ts => P ρ' (t :: ts)
          | _ => False) := q
        rw [y] at q; exact q
      have h1 := (Rf.pop (e := (.no, v)) h).take n1 e2 (shs_nal z)
      have q : (match gt ρ j with
          | .ow ds => ∀ b, mvs (ρ.set j .no) ls fun ρ' ts => P ρ' (.l b (ds.map Tr.d) :: ts)
          | .tr t => mvs (ρ.set j .no) ls fun ρ' ts => P ρ' (t :: ts)
          | _ => False) := q
      split at q
      · rename_i ds g; rw [g] at h1; exact go (ρ.set j .no) (.ow ds) (fun j z => nomatch z) h1 q
      · rename_i t g; rw [g] at h1; exact go (ρ.set j .no) (.tr t) (fun j z => nomatch z) h1 q
      · exact q.elim
    | sh d => exact go ρ (.sh d) (fun j z => nomatch z) h q
    | ow ds => exact go ρ (.ow ds) (fun j z => nomatch z) h q
    | tr t => exact go ρ (.tr t) (fun j z => nomatch z) h q
    | no => exact q.elim
    | od _ => exact q.elim
    | fd _ _ _ => exact q.elim
    | oi _ _ _ _ => exact q.elim
    | src => exact q.elim
    | sk _ => exact q.elim
  | [], _ :: _, _, _, _, n, _, _, _, _ => by simp at n
  | _ :: _, [], _, _, _, n, _, _, _, _ => by simp at n
theorem mvs_go {ls : List Lo} {vs : List V} {P : Ev → List Tr → Prop} (n : ls.length = vs.length) (h : Rf K TB B F ρ σ ((ls.zip vs).reverse ++ es) H) (z : Shs es) (q : mvs ρ ls P) : ∃ ρ' ts, ts.length = vs.length ∧ Rf K TB B F ρ' σ ((ts.map Lo.tr).zip vs ++ es) H ∧ P ρ' ts := by
  have h1 := h.perm (es' := ls.zip vs ++ es) ((List.reverse_perm _).symm.append_right _)
  have h2 := h1.nals
  have e : (ls.zip vs).map (fun e => (nal e.1, e.2)) = (ls.map nal).zip vs := by
    rw [List.zip_map_left]; rfl
  rw [e] at h2
  refine mvs_ok n (fun j v m => ?_) h2 z q
  obtain ⟨n1, u, e1, e2⟩ := h1.ok (.al j, some v) (List.mem_append_left _ (List.mem_map.mpr ⟨_, List.mem_append_left _ m, rfl⟩))
  cases e1
  exact e2
def eLstM (a : DA) : DE := fun ρ Qd => a ρ fun ρ1 ls => ls.length ≤ 100000 ∧ mvs ρ1 ls fun ρ2 ts => ∀ p, Qd ρ2 (.tr (.l p ts))
def eTupM (a : DA) : DE := fun ρ Qd => a ρ fun ρ1 ls => ls.length ≤ 100000 ∧ mvs ρ1 ls fun ρ2 ts => Qd ρ2 (.tr (.t ts))
theorem lz_lstM {ta : TA} {a : DA} (ha : LA K TB ta a) : LEZ K TB (tLst ta) (eLstM a) := fun B ρ σ es H Q Qd z r h k => ha B ρ σ es H _ _ r h fun ρ1 ls vs H1 n ⟨F, r1⟩ ⟨n1, q⟩ => by
  obtain ⟨ρ2, ts, n2, r2, q2⟩ := mvs_go n r1 z q
  exact ⟨small6' (by omega), fun p hp => k _ _ _ _ ⟨_, r2.lstT n2 hp⟩ (q2 p)⟩
theorem lz_tupM {ta : TA} {a : DA} (ha : LA K TB ta a) : LEZ K TB (tTup ta) (eTupM a) := fun B ρ σ es H Q Qd z r h k => ha B ρ σ es H _ _ r h fun ρ1 ls vs H1 n ⟨F, r1⟩ ⟨n1, q⟩ => by
  obtain ⟨ρ2, ts, n2, r2, q2⟩ := mvs_go n r1 z q
  exact ⟨small6' (by omega), fun p hp => k _ _ _ _ ⟨_, r2.tupT n2 hp⟩ q2⟩
/-! ### list comprehensions whose elements are one's own -/
def eLcT (own : List Nat) (src : DI) (tgt : DG) (tst : DTs) (elt : DE) : DE := fun ρ Qd => src ρ fun ρ1 ds => (nos own ρ1 = true ∧ ds.length ≤ 100000) ∧ ∃ G : Nat → List Tr → Prop, G 0 [] ∧
  (∀ i d acc, ds[i]? = some d → G i acc → tgt d ρ1 fun ρ2 => tst ρ2 fun ρ3 b => (b = true → elt ρ3 fun ρ4 l => ρ4 = ρ2 ∧ trq l fun t => G (i + 1) (acc ++ [t])) ∧ (b = false → ρ3 = ρ2 ∧ G (i + 1) acc)) ∧
  ∀ p acc, G ds.length acc → Qd ρ1 (.tr (.l p acc))
theorem le_lcT {w : TI} {g : TG} {tt : TT} {te : TE} {own : List Nat} {src : DI} {tgt : DG} {tst : DTs} {elt : DE} {is : List Nat} (hw : LIC K TB w src) (hg : LF K TB g tgt is) (ht : LT K TB tt tst) (he : LE K TB te elt) (hi : ∀ i, i ∈ is → i ∈ own) : LE K TB (tLc w g tt te own) (eLcT own src tgt tst elt) := fun B ρ σ es H Q Qd r h k =>
  hw B ρ σ es H _ _ r h fun ρ1 ds J H1 ps zp r1 it ⟨⟨hno, hz⟩, G, g0, turn, fin⟩ => by
    intro D hD
    obtain ⟨F1, r1⟩ := r1
    have alOk : ∀ e, e ∈ ps ++ es → ∀ j, e.1 = .al j → ∀ F H, Ok K F H ρ1 σ e.1 (some e.2) := fun e m j q F H => by
      have := r1.ok (e.1, some e.2) (List.mem_append_left _ (List.mem_map.mpr ⟨e, m, rfl⟩))
      rw [q] at this ⊢
      exact this
    have sub : ∀ acc (e : Lo × V), e ∈ ps → e ∈ ((.tr (.l D acc), .ref D) : Lo × V) :: (ps ++ es) := fun acc e m => List.mem_cons_of_mem _ (List.mem_append_left _ m)
    have jown : ∀ j o F H, Ok K F H ρ1 σ (.al j) o → j ∉ own := fun j o F H q m => q.1 (nos_at hno m)
    refine ⟨fun i m H' => m = ds.length - i ∧ i ≤ ds.length ∧ ∃ acc, acc.length ≤ i ∧ G i acc ∧ R K TB B ρ1 σ ((.tr (.l D acc), .ref D) :: (ps ++ es)) H', ⟨_, rfl, Nat.zero_le _, [], Nat.le_refl _, g0, F1, Rf.lstT (ts := []) (vs := []) rfl r1 hD⟩, ?_⟩
    rintro i m H' ⟨rfl, hin, acc, hacc, gi, r'⟩
    obtain ⟨go, stop, yld⟩ := it B _ H' r' (sub acc)
    by_cases hl : i < ds.length
    · refine .inr ⟨go i hl, fun H'' => ∃ acc', acc'.length ≤ i + 1 ∧ G (i + 1) acc' ∧ R K TB B ρ1 σ ((.tr (.l D acc'), .ref D) :: (ps ++ es)) H'', fun H'' q => ⟨ds.length - (i + 1), by omega, rfl, hl, q⟩, fun x H2 y => ?_⟩
      obtain ⟨d, e1, F2, r2⟩ := yld i x H2 hl y
      have ln : ρ1.length = σ.length := r1.len
      have wk : WkL ρ1 (wipe σ own) ρ1 σ := WkL.of rfl (wipe_length σ own) ln fun j => by
        by_cases m : j ∈ own
        · exact .inl (nos_at hno m)
        · exact .inr ⟨rfl, wipe_out m⟩
      have alw : ∀ e, e ∈ ((.sh d, x) : Lo × V) :: ((.tr (.l D acc), .ref D) : Lo × V) :: (ps ++ es) → ∀ j, e.1 = .al j → e ∈ ps ++ es := fun e m j q => by
        rcases List.mem_cons.mp m with rfl | m
        · cases q
        · rcases List.mem_cons.mp m with rfl | m
          · cases q
          · exact m
      have r3 := r2.env wk fun e m j q => by
        have := alOk e (alw e m j q) j q F2 H2
        rw [q] at this ⊢
        exact ⟨this.1, by rw [wipe_out (jown j _ _ _ this)]; exact this.2⟩
      refine lg_of hg B ρ1 (wipe σ own) _ H2 x d _ _ (fun e m j q z => ?_) ⟨F2, r3⟩ (turn i d acc e1 gi) fun ρ2 σ2 H3 n2 same2 r4 q4 => ?_
      · have := alOk e (alw e (List.mem_cons_of_mem _ m) j q) j q F2 H2
        rw [q] at this
        exact jown j _ _ _ this (hi j z)
      refine ⟨(wipe_eq (by rw [n2, wipe_length]) fun j hj => ?_), ?_⟩
      · rw [(same2 j (fun z => hj (hi j z))).1, wipe_out hj]
      have ln2 : ρ2.length = σ2.length := r4.choose_spec.len
      have back : WkL ρ1 σ ρ2 σ2 := WkL.of (by rw [ln2, n2, wipe_length, ln]) (by rw [n2, wipe_length]) ln2 fun j => by
        by_cases m : j ∈ own
        · exact .inl (nos_at hno m)
        · obtain ⟨s1, s2⟩ := same2 j (fun z => m (hi j z))
          exact .inr ⟨s2.symm, by rw [s1, wipe_out m]⟩
      have goback : ∀ F4 H4 acc', Rf K TB B F4 ρ2 σ2 ((.tr (.l D acc'), .ref D) :: (ps ++ es)) H4 → R K TB B ρ1 σ ((.tr (.l D acc'), .ref D) :: (ps ++ es)) H4 := fun F4 H4 acc' r5 => ⟨F4, r5.env back fun e m j q => by
        rcases List.mem_cons.mp m with rfl | m
        · cases q
        · exact alOk e m j q F4 H4⟩
      refine ht B ρ2 σ2 _ H3 _ _ r4 q4 fun ρ3 b H4 r5 q5 => ?_
      cases b with
      | true =>
        refine iteT (he B ρ3 σ2 _ H4 _ _ r5 (q5.1 rfl) fun ρ4 l v H5 r6 ⟨e4, q6⟩ => ?_)
        subst e4
        obtain ⟨F6, r6⟩ := r6
        obtain ⟨t, r7, q7⟩ := trq_ok r6 q6
        obtain ⟨u, f1, f2⟩ := r7.okp
        cases f1
        obtain ⟨w, g1, g2⟩ := r7.pop.okp
        cases g1
        cases g2 with
        | @l _ vs _ hv su =>
          have nd : (t.inn ++ ((Tr.l D acc).inn ++ (ens (ps ++ es) ρ4 σ2).flatMap cells)).Nodup := r7.nd
          obtain ⟨_, n1, n2⟩ := List.nodup_append.mp nd
          have n3 := (List.nodup_append.mp n1).1
          rw [inn_l] at n3 n2
          have d1 : ∀ b, b ∈ Tr.inns acc → b ≠ D := fun b m y => (List.nodup_cons.mp n3).1 (y ▸ m)
          have d2 : ∀ b, b ∈ t.inn → b ≠ D := fun b m y => n2 b m D (List.mem_append_left _ List.mem_cons_self) y
          refine ⟨vs, hv, small6 (by rw [su.len]; omega), acc ++ [t], by rw [List.length_append, List.length_singleton]; omega, q7, goback F6 _ _ (Rf.rep (X := [(.tr t, v), (.tr (.l D acc), .ref D)]) r7 (fun e m => ?_) ⟨[], ?_⟩ (fun b m => ?_) (fun b m => ?_) ⟨_, rfl, .l upd_same ((su.mono (fun _ _ z => z) fun b m => upd_ne (d1 b m)).app (.cons (f2.mono (fun _ _ z => z) fun b m => upd_ne (d2 b m)) .nil))⟩)⟩
          · rcases List.mem_cons.mp m with rfl | m
            · exact fun z => nomatch z
            · rw [List.mem_singleton.mp m]; exact fun z => nomatch z
          · show ((Tr.l D (acc ++ [t])).inn ++ []).Perm (t.inn ++ ((Tr.l D acc).inn ++ []))
            rw [inn_l, inn_l, inns_app, List.append_nil, List.append_nil]
            show (D :: (Tr.inns acc ++ (t.inn ++ []))).Perm _
            rw [List.append_nil]
            exact (List.perm_append_comm (l₁ := t.inn) (l₂ := D :: Tr.inns acc)).symm
          · have m : b ∉ t.inn ++ ((Tr.l D acc).inn ++ []) := m
            rw [inn_l] at m
            exact upd_ne fun y => m (List.mem_append_right _ (List.mem_append_left _ (by rw [y]; exact List.mem_cons_self)))
          · have m : b ∈ t.inn ++ ((Tr.l D acc).inn ++ []) := m
            rw [inn_l, List.append_nil] at m
            by_cases y : b = D
            · rw [y, upd_same]; exact fun z => nomatch z
            · rw [upd_ne y]
              rcases List.mem_append.mp m with m | m
              · exact f2.has m
              · rcases List.mem_cons.mp m with m | m
                · exact absurd m y
                · exact su.has m
      | false =>
        obtain ⟨e3, q6⟩ := q5.2 rfl
        subst e3
        obtain ⟨F5, r5⟩ := r5
        exact iteF ⟨acc, by omega, q6, goback F5 _ _ r5⟩
    · obtain rfl : i = ds.length := by omega
      obtain ⟨F', r''⟩ := r'
      refine .inl ⟨stop, k ρ1 (.tr (.l D acc)) _ H' ⟨F', r''.part ?_⟩ (fin D acc gi)⟩
      unfold ens
      rw [List.map_cons, List.map_cons, List.cons_append, List.cons_append, List.map_append, List.append_assoc]
      exact (List.sublist_append_right _ _).cons₂ _
/-! ### for row in a tree's list -/
def sForT (r j : Nat) (body : DS) : DS := fun D ρ => ∃ a ts0, gt ρ j = .tr (.l a ts0) ∧ r ≠ j ∧ ∃ Iv : Nat → Ev → Prop, Iv 0 ρ ∧
  (∀ i ρ', i ≤ ts0.length → Iv i ρ' → ∃ ts, gt ρ' j = .tr (.l a ts) ∧ ts.length = ts0.length ∧ ∀ c, ts[i]? = some c → body { nx := Iv (i + 1), rt := D.rt, bk := D.nx, ct := Iv (i + 1) } (ρ'.set r (skl c))) ∧ ∀ ρ', Iv ts0.length ρ' → D.nx ρ'
theorem ls_forT {r j : Nat} {tb : TS} {body : DS} (hb : LS K TB tb body) : LS K TB (tFor (iList K (tVar j)) (gName r) tb) (sForT r j body) := fun B ρ σ es H D Dd z ⟨F, rf⟩ ⟨a, ts0, g, rj, Iv, i0, turn, fin⟩ k => by
  have n : gt ρ j ≠ .no := by rw [g]; exact fun z => nomatch z
  obtain ⟨o, e, m, q⟩ := rf.slot n
  rw [g] at q
  obtain ⟨v, rfl, rt⟩ := q
  cases rt with
  | l hv su =>
    refine ⟨_, e, a, rfl, ⟨_, .inl (.inl hv)⟩, ?_⟩
    refine ⟨fun i m σ' H' => m = ts0.length - i ∧ i ≤ ts0.length ∧ σ'.length = σ.length ∧ ∃ ρ', Iv i ρ' ∧ R K TB B ρ' σ' es H', ⟨_, rfl, Nat.zero_le _, rfl, ρ, i0, F, rf⟩, ?_⟩
    rintro i m σ' H' ⟨rfl, hi, n1, ρ', iv, F', r'⟩
    obtain ⟨ts, g1, n2, tn⟩ := turn i ρ' hi iv
    obtain ⟨vs, hv1, su1⟩ := r'.look (p := []) g1 rfl
    have hl : SqL K H' a vs := .inl (.inl hv1)
    by_cases hlt : i < ts0.length
    · refine .inr ⟨⟨vs, vs[i]'(by rw [su1.len]; omega), hl, List.getElem?_eq_getElem _⟩, fun σ'' H'' => σ''.length = σ.length ∧ ∃ ρ'', Iv (i + 1) ρ'' ∧ R K TB B ρ'' σ'' es H'', fun σ'' H'' ⟨n2, ρ'', q1, q2⟩ => ⟨ts0.length - (i + 1), by omega, rfl, hlt, n2, ρ'', q1, q2⟩, fun x H2 y => ?_⟩
      obtain ⟨rfl, y⟩ := y
      have hx := y vs hl
      have hc : ts[i]? = some (ts[i]'(by omega)) := List.getElem?_eq_getElem _
      obtain ⟨w, hw, rw1⟩ := su1.at hc
      rw [hw] at hx
      cases hx
      obtain ⟨o1, o2⟩ := skl_ok (H := H2) (ρ := ρ') (σ := σ') rw1.sk
      have r2 := (r'.push o1 o2).set (i := r) (fun e m => z e m r) (fun j' => by
        cases ts[i]'(by omega) <;> exact fun z => nomatch z)
      exact hb B _ _ es H2 _ _ z ⟨F', r2⟩ (tn _ hc) ⟨fun ρ4 σ4 H4 n4 r4 q4 => ⟨n4.trans (by rw [List.length_set]; exact n1), ρ4, q4, r4⟩, k.rt, fun ρ4 σ4 H4 n4 r4 q4 => k.nx ρ4 σ4 H4 (n4.trans (by rw [List.length_set]; exact n1)) r4 q4, fun ρ4 σ4 H4 n4 r4 q4 => ⟨n4.trans (by rw [List.length_set]; exact n1), ρ4, q4, r4⟩⟩
    · obtain rfl : i = ts0.length := by omega
      exact .inl ⟨⟨vs, hl, by rw [su1.len]; omega⟩, k.nx ρ' σ' H' n1 ⟨F', r'⟩ (fin ρ' iv)⟩
end

section
variable {K : PySem.W.Frag} {TB : Tbs} {B : Bs} {F F' : Hp} {ρ : Ev} {σ : St} {es : Ps} {H H' : Hp}
/-! ### everything is lent while an expression is read -/
def lendL : Lo → Lo
  | .sh d => .sh d
  | .ow ds => .sh (.lst ds)
  | .od kvs => .sh (.dic kvs)
  | .tr t => .sh t.dat
  | .src => .src
  | _ => .no
def lendE : Ev → Ev
  | [] => []
  | l :: ρ => lendL l :: lendE ρ
theorem lendE_map : ∀ ρ : Ev, lendE ρ = ρ.map lendL
  | [] => rfl
  | _ :: ρ => congrArg (_ :: ·) (lendE_map ρ)
theorem RT.obj : ∀ {t : Tr} {v : V} {a : Addr}, RT K F H v t → a ∈ t.inn → ∃ vs, H a = some (.lst vs)
  | .d x, v, a, .d r, m => by rw [inn_d] at m; exact in0 m
  | .l b ts, _, a, .l h u, m => by
    rw [inn_l] at m
    rcases List.mem_cons.mp m with rfl | m
    · exact ⟨_, h⟩
    · rw [inns_map] at m
      obtain ⟨c, mc, ma⟩ := List.mem_flatMap.mp m
      obtain ⟨i, hi, e⟩ := List.getElem_of_mem mc
      obtain ⟨w, _, r⟩ := u.at (List.getElem?_eq_some_iff.mpr ⟨hi, e⟩)
      exact RT.obj r ma
  | .t ts, _, a, .t h u, m => by
    rw [inn_t] at m
    rw [inns_map] at m
    obtain ⟨c, mc, ma⟩ := List.mem_flatMap.mp m
    obtain ⟨i, hi, e⟩ := List.getElem_of_mem mc
    obtain ⟨w, _, r⟩ := u.at (List.getElem?_eq_some_iff.mpr ⟨hi, e⟩)
    exact RT.obj r ma
termination_by t => sizeOf t
decreasing_by
  all_goals simp_wf
  all_goals (have := List.sizeOf_lt_of_mem mc; omega)
theorem not_lst (vs : List V) : NoT (.lst vs) := ⟨(fun c' q z => by cases z), (fun xs z => by cases z), (fun ob xs z => by cases z)⟩
theorem Ok.obj {l : Lo} {o : Option V} {a : Addr} (h : Ok K F H ρ σ l o) (c : a ∈ cells (l, o)) (n : l ≠ .src) : ∃ u, H a = some u ∧ NoT u := by
  cases l with
  | no => exact in0 c
  | sh d => exact in0 c
  | sk t => exact in0 c
  | al j => exact in0 c
  | src => exact absurd rfl n
  | tr t =>
    obtain ⟨v, rfl, r⟩ := h
    obtain ⟨vs, e⟩ := r.obj c
    exact ⟨_, e, not_lst vs⟩
  | ow ds =>
    obtain ⟨b, vs, rfl, e, r⟩ := h
    cases in1 c
    exact ⟨_, e, not_lst vs⟩
  | od ds =>
    obtain ⟨b, vs, rfl, e, r⟩ := h
    cases in1 c
    exact ⟨_, e, (fun c' q z => by cases z), (fun xs z => by cases z), (fun ob xs z => by cases z)⟩
  | fd ob ws ds =>
    obtain ⟨b, rfl, e, r⟩ := h
    cases in1 c
    exact ⟨_, e, (fun c' q z => by cases z), (fun xs z => by cases z), (fun ob xs z => by cases z)⟩
  | oi C p ns ds =>
    obtain ⟨dx, vs, rfl, e, n, r⟩ := h
    cases in1 c
    exact ⟨_, e, (fun c' q z => by cases z), (fun xs z => by cases z), (fun ob xs z => by cases z)⟩
theorem lend_cells : ∀ {ρ : Ev} {σ : St}, (((ρ.map lendL).zip σ).flatMap cells).Sublist ((ρ.zip σ).flatMap cells)
  | [], _ => List.Sublist.refl _
  | _ :: _, [] => List.Sublist.refl _
  | l :: ρ, o :: σ => by
    rw [List.map_cons, List.zip_cons_cons, List.zip_cons_cons, List.flatMap_cons, List.flatMap_cons]
    refine List.Sublist.append ?_ lend_cells
    cases l with
    | src => exact List.Sublist.refl _
    | no => exact List.nil_sublist _
    | sh d => exact List.nil_sublist _
    | sk t => exact List.nil_sublist _
    | al j => exact List.nil_sublist _
    | tr t => exact List.nil_sublist _
    | ow ds => exact List.nil_sublist _
    | od ds => exact List.nil_sublist _
    | fd ob ws ds => exact List.nil_sublist _
    | oi C p ns ds => exact List.nil_sublist _
theorem lend_src {l : Lo} {o : Option V} {a : Addr} (c : a ∈ cells (lendL l, o)) : l = .src := by
  cases l with
  | src => rfl
  | no => exact in0 c
  | sh d => exact in0 c
  | sk t => exact in0 c
  | al j => exact in0 c
  | tr t => exact in0 c
  | ow ds => exact in0 c
  | od ds => exact in0 c
  | fd ob ws ds => exact in0 c
  | oi C p ns ds => exact in0 c
open Classical in
theorem lend_start (r : Rf K TB B F ρ σ es H) : ∃ (F0 : Hp) (S : List Addr), Rf K TB ⟨H, F0, S⟩ F0 (lendE ρ) σ [] H ∧ (∀ a, a ∈ S → (.src, some (.ref a)) ∈ ens es ρ σ) ∧ Same F F0 ∧ (∀ b o, F0 b = some o → F b = some o ∨ NoT o ∧ F b = none ∧ H b = some o) := by
  rw [lendE_map]
  let L : Addr → Prop := fun a => ∃ e, e ∈ ens es ρ σ ∧ a ∈ cells e ∧ e.1 ≠ .src
  have hL : ∀ a, L a → F a = none ∧ a ∉ TB ∧ ∃ u, H a = some u ∧ NoT u := fun a ⟨e, m, c, n⟩ => ⟨(r.out e a m c).1, (r.out e a m c).2.1, (r.ok e m).obj c n⟩
  let F0 : Hp := fun b => if L b then H b else F b
  have yes : ∀ a, L a → F0 a = H a := fun a h => if_pos h
  have no : ∀ a, ¬ L a → F0 a = F a := fun a h => if_neg h
  have sF : Same F F0 := fun b o e => by
    rw [no b (fun z => by rw [(hL b z).1] at e; cases e)]; exact e
  have sH : Same F0 H := fun b o e => by
    by_cases z : L b
    · rw [yes b z] at e; exact e
    · rw [no b z] at e; exact r.sub b o e
  have mm : ∀ e, e ∈ (ρ.map lendL).zip σ → ∃ l, e.1 = lendL l ∧ (l, e.2) ∈ ens es ρ σ := fun e m => by
    rw [List.zip_map_left] at m
    obtain ⟨x, mx, rfl⟩ := List.mem_map.mp m
    exact ⟨x.1, rfl, List.mem_append_right _ mx⟩
  have srcs : ∀ e a, e ∈ (ρ.map lendL).zip σ → a ∈ cells e → (Lo.src, some (V.ref a)) ∈ ens es ρ σ ∧ Src H a ∧ e.1 = .src := fun e a m c => by
    obtain ⟨l, e1, m1⟩ := mm e m
    obtain ⟨x, o⟩ := e
    cases e1
    obtain rfl := lend_src c
    obtain ⟨b, e2, hs⟩ := r.ok _ m1
    obtain rfl : o = some (.ref b) := e2
    cases in1 c
    exact ⟨m1, hs, rfl⟩
  refine ⟨F0, ((ρ.map lendL).zip σ).flatMap cells, ⟨by rw [List.length_map]; exact r.len, fun l m j => ?_, sH, fun P hP => ⟨(r.tab P hP).1.mono sF, ?_⟩, fun e m => ?_, ?_, fun e a m c => ?_, fun b o _ _ q => q, fun b q => q, fun b o q => q, fun b o q => .inl q, fun a m => ?_⟩, fun a m => ?_, sF, fun b o e => ?_⟩
  · obtain ⟨l', _, rfl⟩ := List.mem_map.mp m
    cases l' <;> exact fun z => nomatch z
  · rw [no P (fun z => (hL P z).2.1 hP)]; exact (r.tab P hP).2
  · have m' : e ∈ (ρ.map lendL).zip σ := m
    obtain ⟨l, e1, m1⟩ := mm e m'
    have ok := r.ok _ m1
    obtain ⟨x, o⟩ := e
    cases e1
    cases l with
    | src => exact ok
    | no => trivial
    | sh d => obtain ⟨v, e2, rr⟩ := ok; exact ⟨v, e2, rr.same sF⟩
    | sk t => trivial
    | al j => trivial
    | tr t =>
      obtain ⟨v, e2, rr⟩ := ok
      have e2 : o = some v := e2
      subst e2
      exact ⟨v, rfl, rr.frz sF fun a c => yes a ⟨_, m1, c, fun z => nomatch z⟩⟩
    | ow ds =>
      obtain ⟨a, vs, e2, h1, h2⟩ := ok
      have e2 : o = some (.ref a) := e2
      subst e2
      exact ⟨_, rfl, .lst ((yes a ⟨_, m1, inC rfl, fun z => nomatch z⟩).trans h1) (h2.same sF)⟩
    | od ds =>
      obtain ⟨a, vs, e2, h1, h2⟩ := ok
      have e2 : o = some (.ref a) := e2
      subst e2
      exact ⟨_, rfl, .dic ((yes a ⟨_, m1, inC rfl, fun z => nomatch z⟩).trans h1) (h2.same sF)⟩
    | fd ob ws ds => trivial
    | oi C p ns ds => trivial
  · have n := r.nd
    unfold ens at n
    rw [List.flatMap_append] at n
    exact ((List.nodup_append.mp n).2.1).sublist lend_cells
  · obtain ⟨m1, hs, e1⟩ := srcs e a m c
    have o := r.out _ a m1 (inC rfl)
    have nl : ¬ L a := fun ⟨e', m', c', n'⟩ => n' (by rw [r.cell1 m' m1 c' (inC rfl)])
    exact ⟨by rw [no a nl]; exact o.1, o.2.1, .inr ⟨e1, List.mem_flatMap.mpr ⟨e, m, c⟩⟩⟩
  · obtain ⟨e, m1, c⟩ := List.mem_flatMap.mp m
    obtain ⟨_, hs, _⟩ := srcs e a m1 c
    refine ⟨hs, ?_⟩
    obtain ⟨x, y, z⟩ := hs
    show H a ≠ none
    rw [z]; exact fun z => nomatch z
  · obtain ⟨e, m1, c⟩ := List.mem_flatMap.mp m
    exact (srcs e a m1 c).1
  · by_cases z : L b
    · rw [yes b z] at e
      obtain ⟨h1, _, u, hu, nt⟩ := hL b z
      rw [hu] at e
      cases e
      exact .inr ⟨nt, h1, hu⟩
    · rw [no b z] at e
      exact .inl e
def eLend (e : DE) : DE := fun ρ Qd => e (lendE ρ) fun _ l => match l with
  | .sh d => scal d = true ∧ Qd ρ (.sh d)
  | _ => False
def dLend (c : DTs) : DTs := fun ρ Qd => c (lendE ρ) fun _ b => Qd ρ b
theorem le_lend {te : TE} {e : DE} (he : LE K TB te e) : LE K TB te (eLend e) := fun B ρ σ es H Q Qd ⟨F, r⟩ h k => by
  obtain ⟨F0, S, r0, hS, s0, f0⟩ := lend_start r
  refine he ⟨H, F0, S⟩ (lendE ρ) σ [] H _ _ ⟨F0, r0⟩ h fun ρ' l v H' r1 q => ?_
  obtain ⟨F1, r1⟩ := r1
  split at q
  · rename_i d
    obtain ⟨F2, r2⟩ := call_endB r hS s0 f0 q.1 ⟨F1, r1.bare List.mem_cons_self rfl (fun j z => nomatch z)⟩
    exact k ρ _ v H' ⟨F2, r2⟩ q.2
  · exact q.elim
theorem lt_lend {tt : TT} {c : DTs} (hc : LT K TB tt c) : LT K TB tt (dLend c) := fun B ρ σ es H Q Qd ⟨F, r⟩ h k => by
  obtain ⟨F0, S, r0, hS, s0, f0⟩ := lend_start r
  refine hc ⟨H, F0, S⟩ (lendE ρ) σ [] H _ _ ⟨F0, r0⟩ h fun ρ' b H' r1 q => ?_
  obtain ⟨F1, r1⟩ := r1
  obtain ⟨F2, r2⟩ := call_endB r hS s0 f0 (d := .non) (v := .non) rfl ⟨F1, (r1.pushS .non).bare List.mem_cons_self rfl (fun j z => nomatch z)⟩
  exact k ρ b H' ⟨F2, r2.pop⟩ q
end

section
variable {K : PySem.W.Frag} {TB : Tbs} {B : Bs} {F F' : Hp} {ρ : Ev} {σ : St} {es : Ps} {H H' : Hp}
/-! ### dicts: what stands under a key -/
theorem RpK.val2 {k : Key} : ∀ {vs : List (Key × V)} {ds : List (Key × Dt)}, RpK K F vs ds → (valV vs k = none ∧ valD ds k = none) ∨ ∃ v d, valV vs k = some v ∧ valD ds k = some d ∧ Rp K F v d
  | _, _, .nil => .inl ⟨rfl, rfl⟩
  | (k', v) :: vs, (_, d) :: ds, .cons r t => by
    by_cases e : k' = k
    · refine .inr ⟨v, d, valV_pos (p := (k', v)) e, ?_, r⟩
      simp [valD, List.find?_cons, e]
    · have h1 : valV ((k', v) :: vs) k = valV vs k := valV_neg (p := (k', v)) e
      have h2 : valD ((k', d) :: ds) k = valD ds k := by simp [valD, List.find?_cons, e]
      rw [h1, h2]
      exact RpK.val2 t
/-- d[k] -/
def eDGet (a b : DE) : DE := fun ρ Qd => a ρ fun ρ1 l1 => b ρ1 fun ρ2 l2 => ∃ kvs d k v, dat ρ2 l1 = some (.dic kvs) ∧ l2 = .sh d ∧ keyD d = some k ∧ valD kvs k = some v ∧ Qd ρ2 (.sh v)
theorem le_dget {ta tb : TE} {a b : DE} (ha : LE K TB ta a) (hb : LE K TB tb b) : LE K TB (tDGet ta tb) (eDGet a b) := fun B ρ σ es H Q Qd r h k =>
  ha B ρ σ es H _ _ r h fun ρ1 l1 v1 H1 r1 q1 => hb B ρ1 σ _ H1 _ _ r1 q1 fun ρ2 l2 v2 H2 ⟨F, r2⟩ ⟨kvs, d, kk, x, hd, e0, hk, hx, q⟩ => by
    subst e0
    obtain ⟨a, vs, e, hl, rr⟩ := r2.entD snd_mem hd
    cases Option.some.inj e
    obtain ⟨u, f1, f2⟩ := r2.okp
    cases f1
    obtain rfl := key_of hk f2
    rcases rr.val2 (k := kk) with ⟨_, n⟩ | ⟨v, d', g1, g2, g3⟩
    · rw [n] at hx; cases hx
    · rw [g2] at hx
      cases hx
      exact ⟨a, v, rfl, .inl ⟨vs, kk, .inl hl, rfl, g1.symm⟩, k _ _ _ _ ⟨F, r2.pop.pop.pushS g3⟩ q⟩
/-- k in d, k not in d -/
def eDIn (neg : Bool) (a b : DE) : DE := fun ρ Qd => a ρ fun ρ1 l1 => b ρ1 fun ρ2 l2 => ∃ kvs d k, dat ρ2 l2 = some (.dic kvs) ∧ l1 = .sh d ∧ keyD d = some k ∧ Qd ρ2 (.sh (.bl ((valD kvs k).isSome != neg)))
theorem le_din {ta tb : TE} {a b : DE} (ha : LE K TB ta a) (hb : LE K TB tb b) : LE K TB (tDIn ta tb) (eDIn false a b) := fun B ρ σ es H Q Qd r h k =>
  ha B ρ σ es H _ _ r h fun ρ1 l1 v1 H1 r1 q1 => hb B ρ1 σ _ H1 _ _ r1 q1 fun ρ2 l2 v2 H2 ⟨F, r2⟩ ⟨kvs, d, kk, hd, e0, hk, q⟩ => by
    subst e0
    obtain ⟨a, vs, e, hl, rr⟩ := r2.entD mem_hd hd
    cases Option.some.inj e
    obtain ⟨u, f1, f2⟩ := r2.pop.okp
    cases f1
    obtain rfl := key_of hk f2
    refine ⟨a, _, rfl, .inl ⟨vs, kk, .inl hl, rfl, rfl⟩, k _ _ _ _ ⟨F, r2.pop.pop.pushS (d := .bl ((valD kvs kk).isSome != false)) ?_⟩ q⟩
    rcases rr.val2 (k := kk) with ⟨n1, n⟩ | ⟨v, d', g1, g2, g3⟩
    · rw [n1, n]; exact .bl _
    · rw [g1, g2]; exact .bl _
theorem le_dnotin {ta tb : TE} {a b : DE} (ha : LE K TB ta a) (hb : LE K TB tb b) : LE K TB (tDNotIn ta tb) (eDIn true a b) := fun B ρ σ es H Q Qd r h k =>
  ha B ρ σ es H _ _ r h fun ρ1 l1 v1 H1 r1 q1 => hb B ρ1 σ _ H1 _ _ r1 q1 fun ρ2 l2 v2 H2 ⟨F, r2⟩ ⟨kvs, d, kk, hd, e0, hk, q⟩ => by
    subst e0
    obtain ⟨a, vs, e, hl, rr⟩ := r2.entD mem_hd hd
    cases Option.some.inj e
    obtain ⟨u, f1, f2⟩ := r2.pop.okp
    cases f1
    obtain rfl := key_of hk f2
    refine ⟨a, _, rfl, .inl ⟨vs, kk, .inl hl, rfl, rfl⟩, k _ _ _ _ ⟨F, r2.pop.pop.pushS (d := .bl ((valD kvs kk).isSome != true)) ?_⟩ q⟩
    rcases rr.val2 (k := kk) with ⟨n1, n⟩ | ⟨v, d', g1, g2, g3⟩
    · rw [n1, n]; exact .bl _
    · rw [g1, g2]; exact .bl _
/-- d[k] = v of a name's own dict -/
def sStD (i : Nat) (ie e : DE) : DS := fun D ρ => e ρ fun ρ1 l => ∃ d, nrm l = .sh d ∧ (∃ kvs0, gt ρ1 i = .od kvs0) ∧ ie ρ1 fun ρ2 l2 => ∃ kvs dk k, gt ρ2 i = .od kvs ∧ l2 = .sh dk ∧ keyD dk = some k ∧ kvs.length < 100000 ∧ D.nx (ρ2.set i (.od (putD kvs k d)))
theorem ls_stD {i : Nat} {te ti : TE} {ie e : DE} (he : LE K TB te e) (hi : LE K TB ti ie) : LS K TB (sDPut (tVar i) ti te) (sStD i ie e) := fun B ρ σ es H D Dd z r h k => by
  refine he B ρ σ es H _ _ r h fun ρ1 l v H1 r1 ⟨d, gd, ⟨kvs0, g⟩, q⟩ => ?_
  obtain ⟨F1, r2⟩ := R.nrm r1
  rw [gd] at r2
  have n : gt ρ1 i ≠ .no := by rw [g]; exact fun z => nomatch z
  obtain ⟨o, e1, m, q0⟩ := r2.slot n
  rw [g] at q0
  obtain ⟨a, vs, rfl, hl, rr⟩ := q0
  refine ⟨_, e1, ?_⟩
  refine hi B ρ1 σ _ H1 _ _ ⟨F1, r2⟩ q fun ρ2 l2 v2 H2 ⟨F2, r3⟩ ⟨kvs, dk, kk, g1, e0, hk, hn, q⟩ => ?_
  subst e0
  obtain ⟨u, f1, f2⟩ := r3.okp
  cases f1
  obtain rfl := key_of hk f2
  obtain ⟨v', f1, f3⟩ := r3.pop.okp
  cases f1
  have n1 : gt ρ2 i ≠ .no := by rw [g1]; exact fun z => nomatch z
  obtain ⟨o2, e2, m2, q2⟩ := r3.pop.pop.slot n1
  rw [e1] at e2
  cases e2
  rw [g1] at q2
  obtain ⟨a2, ws, e3, hl2, rr2⟩ := q2
  cases e3
  exact ⟨a, _, rfl, .inl ⟨ws, kk, hl2, rfl, small6 (by rw [rr2.len]; omega), rfl⟩, k.nx _ _ _ rfl ⟨F2, r3.pop.pop.mutS (l' := .od (putD kvs kk d)) n1 e1 z (by rw [g1]; rfl) rfl (by rw [g1]; exact fun z => nomatch z) (fun j z => nomatch z) ⟨a, _, rfl, upd_same, rr2.put f3⟩⟩ q⟩
/-- {k: v} -/
def eDisp1 (a b : DE) : DE := fun ρ Qd => a ρ fun ρ1 l1 => b ρ1 fun ρ2 l2 => ∃ dk k d, l1 = .sh dk ∧ keyD dk = some k ∧ nrm l2 = .sh d ∧ Qd ρ2 (.od [(k, d)])
theorem le_disp1 {ta tb : TE} {a b : DE} (ha : LE K TB ta a) (hb : LE K TB tb b) : LE K TB (tDisp [(ta, tb)]) (eDisp1 a b) := fun B ρ σ es H Q Qd ⟨F, r⟩ h k p hp => by
  refine ha B ρ σ _ _ _ _ ⟨F, r.newDic hp⟩ h fun ρ1 l1 v1 H1 r1 q1 => hb B ρ1 σ _ H1 _ _ r1 q1 fun ρ2 l2 v2 H2 r2 ⟨dk, kk, d, e0, hk, gd, q⟩ => ?_
  obtain ⟨F2, r2⟩ := R.nrm r2
  rw [gd] at r2
  subst e0
  obtain ⟨u, f1, f2⟩ := r2.pop.okp
  cases f1
  obtain rfl := key_of hk f2
  obtain ⟨w, f1, f3⟩ := r2.okp
  cases f1
  obtain ⟨a, vs, f1, g1, g2⟩ := r2.pop.pop.okp
  cases Option.some.inj f1
  cases g2
  exact ⟨g1, [(kk, v2)], rfl, by show (1 : Nat) ≤ 15; decide, k _ _ _ _ ⟨F2, r2.pop.pop.mutP (l' := .od [(kk, d)]) rfl rfl (fun z => nomatch z) ⟨p, _, rfl, upd_same, .cons f3 .nil⟩⟩ q⟩
def eDisp2 (a b a' b' : DE) : DE := fun ρ Qd => a ρ fun ρ1 l1 => b ρ1 fun ρ2 l2 => ∃ dk k d, l1 = .sh dk ∧ keyD dk = some k ∧ nrm l2 = .sh d ∧ a' ρ2 fun ρ3 l3 => b' ρ3 fun ρ4 l4 => ∃ dk' k' d', l3 = .sh dk' ∧ keyD dk' = some k' ∧ nrm l4 = .sh d' ∧ Qd ρ4 (.od (putD [(k, d)] k' d'))
theorem le_disp2 {ta tb ta' tb' : TE} {a b a' b' : DE} (ha : LE K TB ta a) (hb : LE K TB tb b) (ha' : LE K TB ta' a') (hb' : LE K TB tb' b') : LE K TB (tDisp [(ta, tb), (ta', tb')]) (eDisp2 a b a' b') := fun B ρ σ es H Q Qd ⟨F, r⟩ h k p hp => by
  refine ha B ρ σ _ _ _ _ ⟨F, r.newDic hp⟩ h fun ρ1 l1 v1 H1 r1 q1 => hb B ρ1 σ _ H1 _ _ r1 q1 fun ρ2 l2 v2 H2 r2 ⟨dk, kk, d, e0, hk, gd, q⟩ => ?_
  have r2 := R.nrm r2
  rw [gd] at r2
  subst e0
  refine ha' B ρ2 σ _ _ _ _ r2 q fun ρ3 l3 v3 H3 r3 q3 => hb' B ρ3 σ _ H3 _ _ r3 q3 fun ρ4 l4 v4 H4 r4 ⟨dk', kk', d', e0, hk', gd', q⟩ => ?_
  subst e0
  obtain ⟨F4, r4⟩ := R.nrm r4
  rw [gd'] at r4
  obtain ⟨u, f1, f2⟩ := r4.pop.okp
  cases f1
  obtain rfl := key_of hk' f2
  obtain ⟨w, f1, f3⟩ := r4.okp
  cases f1
  obtain ⟨w, f1, f4⟩ := r4.pop.pop.okp
  cases f1
  obtain ⟨u, f1, f5⟩ := r4.pop.pop.pop.okp
  cases f1
  obtain rfl := key_of hk f5
  obtain ⟨a, vs, f1, g1, g2⟩ := r4.pop.pop.pop.pop.okp
  cases Option.some.inj f1
  cases g2
  have rr : RpK K F4 (putK [(kk, v2)] kk' v4) (putD [(kk, d)] kk' d') := RpK.put f3 (.cons f4 .nil)
  exact ⟨g1, [(kk, v2), (kk', v4)], rfl, by show (2 : Nat) ≤ 15; decide, k _ _ _ _ ⟨F4, r4.pop.pop.pop.pop.mutP (l' := .od (putD [(kk, d)] kk' d')) rfl rfl (fun z => nomatch z) ⟨p, _, rfl, upd_same, rr⟩⟩ q⟩
end

section
variable {K : PySem.W.Frag} {TB : Tbs} {B : Bs} {F F' : Hp} {ρ : Ev} {σ : St} {es : Ps} {H H' : Hp}
/-! ### any, all of a generator expression, whatever its source and its element -/
def capL (l : Lo) : Lo := match lendL l with
  | .sh d => .sh d
  | _ => .no
def capE (ρ : Ev) : List Nat → Ev
  | [] => []
  | j :: cap => capL (gt ρ j) :: capE ρ cap
def noE : Nat → Ev
  | 0 => []
  | n + 1 => .no :: noE n
def genE (nt : Nat) (cap : List Nat) (ρ : Ev) : Ev := noE nt ++ capE ρ cap
theorem noE_eq : ∀ n, noE n = List.replicate n Lo.no
  | 0 => rfl
  | n + 1 => by rw [List.replicate_succ, ← noE_eq n]; rfl
theorem capE_map (ρ : Ev) : ∀ cap : List Nat, capE ρ cap = cap.map fun j => capL (gt ρ j)
  | [] => rfl
  | _ :: cap => congrArg (_ :: ·) (capE_map ρ cap)
theorem capL_is (l : Lo) : capL l = .no ∨ ∃ d, capL l = .sh d ∧ lendL l = .sh d := by
  unfold capL
  cases e : lendL l with
  | sh d => exact .inr ⟨d, rfl, rfl⟩
  | _ => exact .inl rfl
def DatOnly (l : Lo) : Prop := l = .no ∨ ∃ d, l = .sh d
theorem genE_dat {nt : Nat} {cap : List Nat} {ρ : Ev} : ∀ l, l ∈ genE nt cap ρ → DatOnly l := fun l m => by
  unfold genE at m
  rw [noE_eq, capE_map] at m
  rcases List.mem_append.mp m with m | m
  · exact .inl (List.eq_of_mem_replicate m)
  · obtain ⟨j, _, rfl⟩ := List.mem_map.mp m
    rcases capL_is (gt ρ j) with z | ⟨d, z, _⟩
    · exact .inl z
    · exact .inr ⟨d, z⟩
/-- other slots, of data alone -/
theorem Rf.slots {ρ' : Ev} {σ' : St} (h : Rf K TB B F ρ σ es H) (z : Shd es) (len : ρ'.length = σ'.length) (dat : ∀ l, l ∈ ρ' → DatOnly l) (ok : ∀ (i : Nat) d, ρ'[i]? = some (.sh d) → ∃ v, σ'[i]? = some (some v) ∧ Rp K F v d) : Rf K TB B F ρ' σ' es H := by
  have mz : ∀ e, e ∈ ρ'.zip σ' → e.1 = .no ∨ ∃ d v, e.1 = .sh d ∧ e.2 = some v ∧ Rp K F v d := fun e m => by
    obtain ⟨i, hi, e1⟩ := List.getElem_of_mem m
    have l1 : i < ρ'.length := by rw [List.length_zip] at hi; omega
    have l2 : i < σ'.length := by omega
    rw [List.getElem_zip] at e1
    rcases dat _ (List.getElem_mem l1) with q | ⟨d, q⟩
    · exact .inl (by rw [← e1]; exact q)
    · obtain ⟨v, h1, h2⟩ := ok i d (by rw [List.getElem?_eq_getElem l1, q])
      rw [List.getElem?_eq_getElem l2] at h1
      exact .inr ⟨d, v, by rw [← e1]; exact q, by rw [← e1]; exact Option.some.inj h1, h2⟩
  have c0 : ∀ e, e ∈ ens es ρ' σ' → cells e = [] := fun e m => by
    rcases List.mem_append.mp m with m | m
    · obtain ⟨x, mx, rfl⟩ := List.mem_map.mp m
      obtain ⟨d, e1⟩ := z x mx
      show cells (x.1, some x.2) = []
      rw [e1]; rfl
    · obtain ⟨l, o⟩ := e
      rcases mz _ m with q | ⟨d, v, q, _⟩
      · have q : l = .no := q
        rw [q]; rfl
      · have q : l = .sh d := q
        rw [q]; rfl
  refine ⟨len, fun l m j => ?_, h.sub, h.tab, fun e m => ?_, ?_, fun e a m c => ?_, h.k1, h.k2, h.k3, h.k4, h.ks⟩
  · rcases dat l m with q | ⟨d, q⟩ <;> rw [q] <;> exact fun z => nomatch z
  · rcases List.mem_append.mp m with m | m
    · have := h.ok e (List.mem_append_left _ m)
      obtain ⟨x, mx, rfl⟩ := List.mem_map.mp m
      obtain ⟨d, e1⟩ := z x mx
      have e1 : x.1 = .sh d := e1
      show Ok K F H ρ' σ' x.1 (some x.2)
      have this : Ok K F H ρ σ x.1 (some x.2) := this
      rw [e1] at this ⊢
      exact this
    · rcases mz e m with q | ⟨d, v, q1, q2, q3⟩
      · rw [q]; trivial
      · rw [q1]; exact ⟨v, q2, q3⟩
  · rw [List.flatMap_eq_nil_iff.mpr c0]; exact List.nodup_nil
  · rw [c0 e m] at c; exact in0 c
theorem Rf.pushes : ∀ {ps : Ps}, Rf K TB B F ρ σ es H → (∀ e, e ∈ ps → ∃ d, e.1 = .sh d ∧ Rp K F e.2 d) → Rf K TB B F ρ σ (ps ++ es) H
  | [], h, _ => h
  | (l, v) :: ps, h, k => by
    obtain ⟨d, e, r⟩ := k _ List.mem_cons_self
    have e : l = .sh d := e
    subst e
    exact (Rf.pushes h fun e m => k e (List.mem_cons_of_mem _ m)).pushS r
def eGenB (res : List Bool → Bool) (nt : Nat) (cap : List Nat) (src : DI) (tgt : DG) (tst : DTs) (elt : DE) : DE := fun ρ Qd => src ρ fun ρ1 ds => ∃ (bs : List Bool) (Iv : Nat → Nat → Prop), Iv 0 0 ∧
  (∀ i j d, ds[i]? = some d → Iv i j → tgt d (genE nt cap ρ1) fun ρ2 => tst ρ2 fun ρ3 b => (b = true → elt ρ3 fun _ l => ∃ c, l = .sh (.bl c) ∧ bs[j]? = some c ∧ Iv (i + 1) (j + 1)) ∧ (b = false → Iv (i + 1) j)) ∧
  (∀ j, Iv ds.length j → j = bs.length) ∧ Qd ρ1 (.sh (.bl (res bs)))
theorem le_genB {P : Addr} {gp : Pos} {res : List Bool → Bool} {nt : Nat} {cap is : List Nat} {w : TI} {g : TG} {tt : TT} {te : TE} {src : DI} {tgt : DG} {tst : DTs} {elt : DE} (hP : P ∈ TB) (hgl : LmFree TB P gp)
    (hw : LI K TB w src) (hg : LF K TB g tgt is) (ht : LT K TB tt tst) (he : LE K TB te elt) (his : ∀ i, i ∈ is → i < nt) : LE K TB (Gc.tGenB P gp res nt cap w g tt te) (eGenB res nt cap src tgt tst elt) := fun B ρ σ es H Q Qd r h k =>
  hw B ρ σ es H _ _ r h fun ρ1 ds J H1 ps zp ⟨F1, r1⟩ it ⟨bs, Iv, i0, turn, fin, qf⟩ => by
    refine ⟨(r1.tab P hP).1.g, fun H2 tb => ?_⟩
    have r2 := r1.tabbed hP hgl tb
    obtain ⟨F0, S, r0, hS, s0, f0⟩ := lend_start r2
    have dps : ∀ F', Same F0 F' → ∀ e, e ∈ ps → ∃ d, e.1 = .sh d ∧ Rp K F' e.2 d := fun F' sF e m => by
      obtain ⟨d, e1⟩ := zp e m
      have := r2.ok (e.1, some e.2) (List.mem_append_left _ (List.mem_map.mpr ⟨e, List.mem_append_left _ m, rfl⟩))
      rw [e1] at this
      obtain ⟨v, e2, rp⟩ := this
      cases e2
      exact ⟨d, e1, (rp.same s0).same sF⟩
    -- what is captured stays known
    have capOk : ∀ (q j : Nat) d, cap[q]? = some j → capL (gt ρ1 j) = .sh d → ∃ v, (σ[j]?).getD none = some v ∧ ∀ F', Same F0 F' → Rp K F' v d := fun q j d hq hd => by
      have hl : lendL (gt ρ1 j) = .sh d := by
        rcases capL_is (gt ρ1 j) with z | ⟨d', z1, z2⟩
        · rw [z] at hd; cases hd
        · rw [z1] at hd; cases hd; exact z2
      have n1 : gt ρ1 j ≠ .no := fun z => by rw [z] at hl; cases hl
      have hj : gt (lendE ρ1) j = .sh d := by
        rw [lendE_map]
        have := gt_lt n1
        have e : ∀ (ρ : Ev) (j : Nat), j < ρ.length → gt (ρ.map lendL) j = lendL (gt ρ j) := fun ρ => by
          induction ρ with
          | nil => exact fun j hj => absurd hj (Nat.not_lt_zero _)
          | cons l ρ ih =>
            intro j hj
            cases j with
            | zero => rfl
            | succ j => exact ih j (by simpa using hj)
        rw [e _ _ this, hl]
      obtain ⟨o, e1, _, ok⟩ := r0.slot (i := j) (by rw [hj]; exact fun z => nomatch z)
      rw [hj] at ok
      obtain ⟨v, rfl, rp⟩ := ok
      exact ⟨v, by rw [e1]; rfl, fun F' sF => rp.same sF⟩
    have gl : (genE nt cap ρ1).length = (Gc.start nt cap σ).length := by
      unfold genE Gc.start
      rw [noE_eq, capE_map, List.length_append, List.length_append, List.length_replicate, List.length_replicate, List.length_map, List.length_map]
    -- a state's slots: those captured stand as they stood
    let Cp : St → Prop := fun σg => σg.length = (Gc.start nt cap σ).length ∧ ∀ i, nt ≤ i → σg[i]? = (Gc.start nt cap σ)[i]?
    have back : ∀ {F' ρ' σ' σg H'}, Cp σg → Rf K TB ⟨H2, F0, S⟩ F' ρ' σ' ps H' → Rf K TB ⟨H2, F0, S⟩ F' (genE nt cap ρ1) σg ps H' := fun {F' ρ' σ' σg H'} hc rf => by
      refine rf.slots zp (gl.trans hc.1.symm) genE_dat fun i d hd => ?_
      have hi : ¬ i < nt := fun z => by
        unfold genE at hd
        rw [noE_eq, List.getElem?_append_left (by simpa using z), List.getElem?_replicate] at hd
        split at hd <;> cases hd
      have hd2 : (cap.map fun j => capL (gt ρ1 j))[i - nt]? = some (.sh d) := by
        unfold genE at hd
        rw [noE_eq, capE_map, List.getElem?_append_right (by simpa using hi), List.length_replicate] at hd
        exact hd
      rw [List.getElem?_map] at hd2
      cases e : cap[i - nt]? with
      | none => rw [e] at hd2; cases hd2
      | some j =>
        rw [e] at hd2
        have hd3 : capL (gt ρ1 j) = .sh d := by simpa using hd2
        obtain ⟨v, e1, rp⟩ := capOk _ _ _ e hd3
        refine ⟨v, ?_, rp F' rf.k3⟩
        rw [hc.2 i (by omega)]
        unfold Gc.start
        rw [List.getElem?_append_right (by simpa using hi), List.length_replicate, List.getElem?_map, e]
        exact congrArg some e1
    have cp0 : Cp (Gc.start nt cap σ) := ⟨rfl, fun _ _ => rfl⟩
    have rs : Rf K TB ⟨H2, F0, S⟩ F0 (genE nt cap ρ1) (Gc.start nt cap σ) ps H2 := by
      have := r0.pushes (ps := ps) (dps F0 fun _ _ z => z)
      rw [List.append_nil] at this
      exact back cp0 this
    refine ⟨bs, fun i j m σg Hg => m = ds.length - i ∧ i ≤ ds.length ∧ Iv i j ∧ Cp σg ∧ ∃ F', Rf K TB ⟨H2, F0, S⟩ F' (genE nt cap ρ1) σg ps Hg, fun Hg => ∃ F' ρ' σ', Rf K TB ⟨H2, F0, S⟩ F' ρ' σ' ps Hg, ds.length, ⟨rfl, Nat.zero_le _, i0, cp0, F0, rs⟩, ⟨?_, ?_⟩, ?_⟩
    · rintro i j m σg Hg ⟨_, _, _, _, F', rf⟩
      exact ⟨F', _, _, rf⟩
    · rintro i j m σg Hg ⟨rfl, hi, iv, cp, F', rf⟩
      obtain ⟨gon, stop, yld⟩ := it ⟨H2, F0, S⟩ (genE nt cap ρ1) σg ps Hg ⟨F', rf⟩ (fun e m => m)
      by_cases hl : i < ds.length
      · refine .inr ⟨gon i hl, fun j' σ' H' => Iv (i + 1) j' ∧ Cp σ' ∧ ∃ F', Rf K TB ⟨H2, F0, S⟩ F' (genE nt cap ρ1) σ' ps H', fun j' σ' H' ⟨a, b, c⟩ => ⟨ds.length - (i + 1), by omega, rfl, hl, a, b, c⟩, fun x H3 y => ?_⟩
        obtain ⟨d, e1, r3⟩ := yld i x H3 hl y
        refine lg_of hg ⟨H2, F0, S⟩ _ σg ps H3 x d _ _ (fun e m j' y => absurd y (zp.s e m j')) r3 (turn i j d e1 iv) fun ρ2 σ2 H4 n2 same ⟨F4, r4⟩ q4 => ?_
        have cp2 : Cp σ2 := ⟨n2.trans cp.1, fun q hq => (same q (fun m => absurd (his q m) (by omega))).1.trans (cp.2 q hq)⟩
        refine ht ⟨H2, F0, S⟩ ρ2 σ2 ps H4 _ _ ⟨F4, r4⟩ q4 fun ρ3 b H5 r5 q5 => ?_
        cases b with
        | true =>
          rw [if_pos rfl]
          refine he ⟨H2, F0, S⟩ ρ3 σ2 ps H5 _ _ r5 (q5.1 rfl) fun ρ4 l v H6 ⟨F6, r6⟩ ⟨c, el, hc, iv2⟩ => ?_
          subst el
          obtain rfl := r6.blP
          exact ⟨c, rfl, hc, iv2, cp2, F6, back cp2 r6.pop⟩
        | false =>
          rw [if_neg Bool.false_ne_true]
          obtain ⟨F5, r5⟩ := r5
          exact ⟨q5.2 rfl, cp2, F5, back cp2 r5⟩
      · obtain rfl : i = ds.length := by omega
        exact .inl ⟨stop, fin j iv⟩
    · rintro H3 ⟨F', ρ', σ', rf⟩
      have r9 := (call_end0 r2 hS s0 f0 (rf.part (es' := []) (List.sublist_append_right _ _) |>.slots (ρ' := []) (σ' := []) (fun e m => nomatch m) rfl (fun l m => nomatch m) (fun i d z => by simp at z))).app
      exact k ρ1 _ _ H3 ⟨_, r9.pushS (.bl _)⟩ qf
end

section
variable {K : PySem.W.Frag} {TB : Tbs} {B : Bs} {F F' : Hp} {ρ : Ev} {σ : St} {es : Ps} {H H' : Hp}
/-- a statement that is never reached -/
def sNever : DS := fun _ _ => False
theorem ls_never : LS K TB tNever sNever := fun _ _ _ _ _ _ _ _ _ h _ => h.elim
theorem set_outA {α β : Type} {f : α → List β} {e0 e1 : α} (A : List α) : ∀ {Z : List α} {i : Nat}, Z[i]? = some e0 → f e1 = [] → ((A ++ Z).flatMap f).Nodup → ((A ++ Z.set i e1).flatMap f).Nodup ∧ ∀ e, e ∈ A ++ Z.set i e1 → e = e1 ∨ (e ∈ A ++ Z ∧ ∀ a, a ∈ f e0 → a ∉ f e) := by
  intro Z i h h1 n
  have p := (take_perm (e1 := e1) h).append_left A
  have q := (p.flatMap_right f).nodup_iff.mp ((List.Perm.flatMap_right f (List.perm_middle (a := e1) (l₁ := A) (l₂ := Z))).nodup_iff.mpr (by rw [List.flatMap_cons, h1]; exact n))
  have q2 := (List.Perm.flatMap_right f (List.perm_middle (a := e0) (l₁ := A) (l₂ := Z.set i e1))).nodup_iff.mp q
  rw [List.flatMap_cons] at q2
  obtain ⟨q3, q4, q5⟩ := List.nodup_append.mp q2
  refine ⟨q4, fun e m => ?_⟩
  by_cases z : e = e1
  · exact .inl z
  · refine .inr ⟨?_, fun a ha y => q5 a ha a (List.mem_flatMap.mpr ⟨e, m, y⟩) rfl⟩
    rcases List.mem_append.mp m with m | m
    · exact List.mem_append_left _ m
    · rcases mem_set' m with m | m
      · exact absurd m z
      · exact List.mem_append_right _ m
/-- a name's own tree joins what is never changed, as it is read -/
theorem Rf.frzTS {i : Nat} {v : V} {t : Tr} (h : Rf K TB B F ρ σ es H) (g : gt ρ i = .tr t) (e : σ[i]? = some (some v)) : ∃ F', Rf K TB B F' (ρ.set i (.sh t.dat)) σ ((.sh t.dat, v) :: es) H := by
  have n : gt ρ i ≠ .no := by rw [g]; exact fun z => nomatch z
  have hz := zip_get e n
  have m0 : (gt ρ i, some v) ∈ ens es ρ σ := List.mem_append_right _ (List.mem_of_getElem? hz)
  have ok0 := h.ok _ m0
  rw [g] at hz m0 ok0
  obtain ⟨v', e', rt⟩ := ok0
  have e' : some v = some v' := e'
  cases e'
  have f0 : ∀ a, a ∈ t.inn → F a = none ∧ a ∉ TB ∧ B.H a = none := fun a m => by
    have o := h.out _ a m0 m
    exact ⟨o.1, o.2.1, o.2.2.elim id fun z => by cases z.1⟩
  let F' : Hp := fun b => if b ∈ t.inn then H b else F b
  have yes : ∀ a, a ∈ t.inn → F' a = H a := fun a m => if_pos m
  have no : ∀ a, a ∉ t.inn → F' a = F a := fun a m => if_neg m
  have sF : Same F F' := fun b o q => by
    rw [no b (fun m => by rw [(f0 b m).1] at q; cases q)]; exact q
  have rp := rt.frz sF yes
  obtain ⟨nd, mm⟩ := set_outA (f := cells) (e1 := ((.sh t.dat, some v) : Lo × Option V)) (es.map (fun e : Lo × V => ((e.1, some e.2) : Lo × Option V))) hz rfl h.nd
  have ez : ens es (ρ.set i (.sh t.dat)) σ = es.map (fun e => (e.1, some e.2)) ++ (ρ.zip σ).set i (.sh t.dat, some v) := by
    unfold ens
    rw [set_ens e]
  rw [← ez] at nd mm
  have gn : ∀ j, gt ρ j ≠ .no → gt (ρ.set i (.sh t.dat)) j ≠ .no := fun j z => by
    rw [gt_set]
    split
    · exact fun z => nomatch z
    · exact z
  refine ⟨F', Rf.pushS ⟨by rw [List.length_set]; exact h.len, fun l m j => ?_, fun b u q => ?_, fun P hP => ⟨(h.tab P hP).1.mono sF, ?_⟩, fun e m => ?_, nd, fun e a m q => ?_, h.k1, h.k2, fun b u q => sF b u (h.k3 b u q), fun b u q => ?_, h.ks⟩ rp⟩
  · rcases mem_set' m with rfl | m
    · exact fun z => nomatch z
    · exact h.na l m j
  · by_cases z : b ∈ t.inn
    · rw [yes b z] at q; exact q
    · rw [no b z] at q; exact h.sub b u q
  · rw [no P (fun z => (f0 P z).2.1 hP)]; exact (h.tab P hP).2
  · rcases mm e m with rfl | ⟨m', ne⟩
    · exact ⟨_, rfl, rp⟩
    · refine ((h.ok e m').mono sF fun a q => .inl rfl).env fun j q => ?_
      have := h.ok e m'
      rw [q] at this ⊢
      exact ⟨gn j this.1, this.2⟩
  · rcases mm e m with rfl | ⟨m', ne⟩
    · exact in0 q
    · refine ⟨?_, (h.out e a m' q).2⟩
      rw [no a (fun z => ne a z q)]
      exact (h.out e a m' q).1
  · by_cases z : b ∈ t.inn
    · exact .inr (f0 b z).2.2
    · rw [no b z] at q; exact h.k4 b u q
def eVarT (i : Nat) : DE := fun ρ Qd => match gt ρ i with
  | .tr t => Qd (ρ.set i (.sh t.dat)) (.sh t.dat)
  | .sh d => Qd ρ (.sh d)
  | .ow ds => Qd (ρ.set i (.sh (.lst ds))) (.sh (.lst ds))
  | _ => False
theorem le_varT {i : Nat} : LE K TB (tVar i) (eVarT i) := by
  intro B ρ σ es H Q Qd ⟨F, r⟩ h k
  unfold eVarT at h
  split at h
  · rename_i t g
    obtain ⟨o, e, m, q⟩ := r.slot (i := i) (by rw [g]; exact fun z => nomatch z)
    rw [g] at q
    obtain ⟨v, rfl, _⟩ := q
    obtain ⟨F', r'⟩ := r.frzTS g e
    exact ⟨v, e, k _ _ _ _ ⟨F', r'⟩ h⟩
  · rename_i d g
    exact le_varF B ρ σ es H Q Qd ⟨F, r⟩ (by unfold eVarF; rw [g]; exact h) k
  · rename_i d g
    exact le_varF B ρ σ es H Q Qd ⟨F, r⟩ (by unfold eVarF; rw [g]; exact h) k
  · exact h.elim
/-- len of a dict -/
def eLenD (a : DA) : DE := fun ρ Qd => a ρ fun ρ1 ls => one ls fun l => ∃ kvs, dat ρ1 l = some (.dic kvs) ∧ Qd ρ1 (.sh (.int (kvs.length : Nat)))
theorem le_lenD {ta : TA} {a : DA} (ha : LA K TB ta a) : LE K TB (tCB (fun xs H Q => ∃ a kvs, xs = [V.ref a] ∧ H a = some (.dK kvs) ∧ Q (.int kvs.length) H) ta) (eLenD a) := fun B ρ σ es H Q Qd r h k => ha B ρ σ es H _ _ r h fun ρ1 ls vs H1 n ⟨F, r1⟩ q => by
  obtain ⟨l, v, rfl, rfl, ⟨kvs, e, q⟩⟩ := one_l n q
  obtain ⟨p, ws, e1, e2, rr⟩ := r1.entD mem_hd e
  cases Option.some.inj e1
  refine ⟨p, ws, rfl, e2, ?_⟩
  rw [rr.len]
  exact k _ _ _ _ ⟨F, r1.pop.pushS (.int _)⟩ q
/-- x[i] += e, x[i] -= e, of a name's own list of whole numbers -/
def sAugL (g : Int → Int → Int) (i : Nat) (ie e : DE) : DS := fun D ρ => (∃ ds0, gt ρ i = .ow ds0) ∧ ie ρ fun ρ1 l1 => ∃ k ds n, l1 = .sh (.int k) ∧ gt ρ1 i = .ow ds ∧ atI ds k = some (.int n) ∧ e ρ1 fun ρ2 l2 => ∃ m ds2 j, l2 = .sh (.int m) ∧ gt ρ2 i = .ow ds2 ∧ ixN ds2.length k = some j ∧ D.nx (ρ2.set i (.ow (ds2.set j (.int (g n m)))))
end
section
variable {K : PySem.W.Frag} {TB : Tbs} {B : Bs} {F F' : Hp} {ρ : Ev} {σ : St} {es : Ps} {H H' : Hp}
def qAbsD (a : DQ) : DQ := fun ds ρ Q => a ds ρ fun x => match x with
  | .int i => Q (.int (if i < 0 then -i else i))
  | _ => False
theorem lq_abs {ra : Gq.QT} {a : DQ} (ha : LQ K TB ra a) : LQ K TB (Gq.qAbs ra) (qAbsD a) := fun B F ρ σ es H vs ds Q Qd r rv h k => ha B F ρ σ es H vs ds _ _ r rv h fun v d r1 q => by
  split at q
  · cases r1
    exact ⟨_, rfl, k _ _ (.int _) q⟩
  · exact q.elim
end

end Df
namespace My
open PySem L2 GxR Gq Gn Df
section
variable {P : Program} {w : World} {K : PySem.W.Frag} {mg : Str → Option Value} {base : Heap}

end
end My
namespace Df
open PySem L2 GxR My
/-! ### named things are lent while an expression is read, whatever it gives -/
mutual
/-- no script, no class in it -/
def Dt.pur : Dt → Bool
  | .int _ => true
  | .bl _ => true
  | .non => true
  | .str _ => true
  | .ty _ => true
  | .cls _ => false
  | .lst xs => Dt.purs xs
  | .tup xs => Dt.purs xs
  | .scr _ => false
  | .dic _ => false
  | .ins _ _ xs => Dt.purs xs
def Dt.purs : List Dt → Bool
  | [] => true
  | x :: xs => Dt.pur x && Dt.purs xs
end
mutual
/-- the lists in it -/
def Dt.nds : Dt → List Dt
  | .int _ => []
  | .bl _ => []
  | .non => []
  | .str _ => []
  | .ty _ => []
  | .cls _ => []
  | .lst xs => .lst xs :: Dt.ndss xs
  | .tup xs => Dt.ndss xs
  | .scr _ => []
  | .dic _ => []
  | .ins _ _ xs => Dt.ndss xs
def Dt.ndss : List Dt → List Dt
  | [] => []
  | x :: xs => Dt.nds x ++ Dt.ndss xs
end
theorem purs_c {x : Dt} {xs : List Dt} (h : Dt.purs (x :: xs) = true) : x.pur = true ∧ Dt.purs xs = true := by
  unfold Dt.purs at h
  exact Bool.and_eq_true_iff.mp h
theorem zip_one : ∀ {ns ms : List Str} {xs ys : List V}, ns.zip xs = ms.zip ys → ns.length = xs.length → ms.length = ys.length → ns = ms ∧ xs = ys
  | [], [], [], [], _, _, _ => ⟨rfl, rfl⟩
  | _ :: _, [], _ :: _, [], h, _, _ => by simp at h
  | [], _ :: _, [], _ :: _, h, _, _ => by simp at h
  | n :: ns, m :: ms, x :: xs, y :: ys, h, h1, h2 => by
    rw [List.zip_cons_cons, List.zip_cons_cons] at h
    injection h with a b
    cases a
    obtain ⟨c, d⟩ := zip_one b (by simpa using h1) (by simpa using h2)
    rw [c, d]
    exact ⟨rfl, rfl⟩
  | [], _, _ :: _, _, _, h, _ => by simp at h
  | _ :: _, _, [], _, _, h, _ => by simp at h
  | _, [], _, _ :: _, _, _, h => by simp at h
  | _, _ :: _, _, [], _, _, h => by simp at h
section
variable {K : PySem.W.Frag} {F F' : Hp}
theorem SqU.not {a : Addr} {vs : List V} {o : HO} (h : SqU F a vs) (e : F a = some o) : o = .tup vs ∨ ∃ u, o = .frz u (.tup vs) := by
  rcases h with (h | ⟨u, h⟩) | h
  · rw [e] at h; exact .inl (Option.some.inj h)
  · rw [e] at h; exact .inr ⟨u, Option.some.inj h⟩
  · exact h.elim
theorem SqU.nl {a : Addr} {vs : List V} {o : HO} (h : SqU F a vs) (e : F a = some o) (n1 : ∀ ws, o ≠ .tup ws) (n2 : ∀ u ws, o ≠ .frz u (.tup ws)) : False := by
  rcases h.not e with z | ⟨u, z⟩
  · exact n1 _ z
  · exact n2 _ _ z
mutual
/-- a value stands for one datum -/
theorem Rp.one : ∀ {v : V} {d d' : Dt}, Rp K F v d → Rp K F v d' → d.pur = true → d'.pur = true → d = d'
  | _, _, _, .int i, h, _, _ => by cases h; rfl
  | _, _, _, .bl i, h, _, _ => by cases h; rfl
  | _, _, _, .non, h, _, _ => by cases h; rfl
  | _, _, _, .str i, h, _, _ => by cases h; rfl
  | _, _, _, .ty i, h, _, _ => by cases h; rfl
  | _, _, _, .cls C, _, p, _ => by unfold Dt.pur at p; cases p
  | _, _, _, .scr _, _, p, _ => by unfold Dt.pur at p; cases p
  | _, _, _, .dic _ _, _, p, _ => by unfold Dt.pur at p; cases p
  | _, _, _, .lst h t, g, p, q => by
    unfold Dt.pur at p
    cases g with
    | lst h' t' =>
      unfold Dt.pur at q
      rw [h] at h'
      cases h'
      rw [RpA.one t t' p q]
    | cls C => unfold Dt.pur at q; cases q
    | scr _ => unfold Dt.pur at q; cases q
    | dic _ _ => unfold Dt.pur at q; cases q
    | tup h' _ => exact (h'.nl h (fun _ z => nomatch z) (fun _ _ z => nomatch z)).elim
    | ins h' _ _ => rw [h] at h'; cases h'
  | _, _, _, .tup h t, g, p, q => by
    unfold Dt.pur at p
    cases g with
    | lst h' t' => exact (h.nl h' (fun _ z => nomatch z) (fun _ _ z => nomatch z)).elim
    | cls C => unfold Dt.pur at q; cases q
    | scr _ => unfold Dt.pur at q; cases q
    | dic _ _ => unfold Dt.pur at q; cases q
    | tup h' t' =>
      unfold Dt.pur at q
      cases h.one h'
      rw [RpA.one t t' p q]
    | ins h' _ _ => exact (h.nl h' (fun _ z => nomatch z) (fun _ _ z => nomatch z)).elim
  | _, _, _, .ins h n t, g, p, q => by
    unfold Dt.pur at p
    cases g with
    | lst h' t' => rw [h] at h'; cases h'
    | cls C => unfold Dt.pur at q; cases q
    | scr _ => unfold Dt.pur at q; cases q
    | dic _ _ => unfold Dt.pur at q; cases q
    | tup h' t' => exact (h'.nl h (fun _ z => nomatch z) (fun _ _ z => nomatch z)).elim
    | ins h' n' t' =>
      unfold Dt.pur at q
      rw [h] at h'
      injection h' with h'
      injection h' with h1 h2 h3
      obtain ⟨e1, e2⟩ := zip_one h3 n n'
      subst h1 e1 e2
      rw [RpA.one t t' p q]
theorem RpA.one : ∀ {vs : List V} {ds ds' : List Dt}, RpA K F vs ds → RpA K F vs ds' → Dt.purs ds = true → Dt.purs ds' = true → ds = ds'
  | _, _, _, .nil, g, _, _ => by cases g; rfl
  | _, _, _, .cons h t, g, p, q => by
    cases g with
    | cons h' t' => rw [Rp.one h h' (purs_c p).1 (purs_c q).1, RpA.one t t' (purs_c p).2 (purs_c q).2]
end
def Lnt (K : PySem.W.Frag) (F : Hp) (X : List Dt) (o : HO) : Prop := ∃ ws ds, o = .lst ws ∧ RpA K F ws ds ∧ Dt.lst ds ∈ X
mutual
/-- the lists that were lent are not in it -/
theorem Rp.drop {X : List Dt} (c : ∀ b o, F b = some o → F' b = some o ∨ Lnt K F X o) (hx : ∀ x, x ∈ X → x.pur = true) : ∀ {v : V} {d : Dt}, Rp K F v d → d.pur = true → (∀ x, x ∈ d.nds → x ∉ X) → Rp K F' v d
  | _, _, .int i, _, _ => .int i
  | _, _, .bl b, _, _ => .bl b
  | _, _, .non, _, _ => .non
  | _, _, .str s, _, _ => .str s
  | _, _, .ty s, _, _ => .ty s
  | _, _, .cls C, p, _ => by unfold Dt.pur at p; cases p
  | _, _, .scr h, p, _ => by unfold Dt.pur at p; cases p
  | _, _, .dic h t, p, _ => by unfold Dt.pur at p; cases p
  | _, _, .lst h t, p, n => by
    unfold Dt.pur at p
    unfold Dt.nds at n
    rcases c _ _ h with h' | ⟨ws, ds', e, ra, m⟩
    · exact .lst h' (RpA.drop c hx t p fun x m => n x (List.mem_cons_of_mem _ m))
    · cases e
      have q := hx _ m
      unfold Dt.pur at q
      cases RpA.one t ra p q
      exact absurd m (n _ List.mem_cons_self)
  | _, _, .tup h t, p, n => by
    unfold Dt.pur at p
    unfold Dt.nds at n
    refine .tup ?_ (RpA.drop c hx t p n)
    rcases h with (h | ⟨u, h⟩) | h
    · rcases c _ _ h with h' | ⟨ws, ds', e, _⟩
      · exact .inl (.inl h')
      · cases e
    · rcases c _ _ h with h' | ⟨ws, ds', e, _⟩
      · exact .inl (.inr ⟨u, h'⟩)
      · cases e
    · exact h.elim
  | _, _, .ins h k t, p, n => by
    unfold Dt.pur at p
    unfold Dt.nds at n
    rcases c _ _ h with h' | ⟨ws, ds', e, _⟩
    · exact .ins h' k (RpA.drop c hx t p n)
    · cases e
theorem RpA.drop {X : List Dt} (c : ∀ b o, F b = some o → F' b = some o ∨ Lnt K F X o) (hx : ∀ x, x ∈ X → x.pur = true) : ∀ {vs : List V} {ds : List Dt}, RpA K F vs ds → Dt.purs ds = true → (∀ x, x ∈ Dt.ndss ds → x ∉ X) → RpA K F' vs ds
  | _, _, .nil, _, _ => .nil
  | _, _, .cons h t, p, n => by
    unfold Dt.ndss at n
    exact .cons (Rp.drop c hx h (purs_c p).1 fun x m => n x (List.mem_append_left _ m)) (RpA.drop c hx t (purs_c p).2 fun x m => n x (List.mem_append_right _ m))
end
end
section
variable {K : PySem.W.Frag} {TB : Tbs} {B : Bs} {F F' : Hp} {ρ : Ev} {σ : St} {es : Ps} {H H' : Hp}
mutual
theorem RT.node (s : Same F F') : ∀ {v : V} {t : Tr} {a : Addr}, (∀ a, a ∈ t.inn → F' a = H a) → RT K F H v t → a ∈ t.inn → ∃ ws ds, H a = some (.lst ws) ∧ RpA K F' ws ds ∧ Dt.lst ds ∈ t.dat.nds
  | _, _, _, _, .d _, m => by unfold Tr.inn at m; exact nomatch m
  | _, .l b ts, a, c, .l h r, m => by
    unfold Tr.inn at m c
    unfold Tr.dat Dt.nds
    rcases List.mem_cons.mp m with rfl | m
    · exact ⟨_, _, h, RTs.frz s (fun b m => c b (List.mem_cons_of_mem _ m)) r, List.mem_cons_self⟩
    · obtain ⟨ws, ds, h1, h2, h3⟩ := RTs.node s (fun b m => c b (List.mem_cons_of_mem _ m)) r m
      exact ⟨ws, ds, h1, h2, List.mem_cons_of_mem _ h3⟩
  | _, .t ts, a, c, .t h r, m => by
    unfold Tr.inn at m c
    unfold Tr.dat Dt.nds
    exact RTs.node s c r m
theorem RTs.node (s : Same F F') : ∀ {vs : List V} {ts : List Tr} {a : Addr}, (∀ a, a ∈ Tr.inns ts → F' a = H a) → RTs K F H vs ts → a ∈ Tr.inns ts → ∃ ws ds, H a = some (.lst ws) ∧ RpA K F' ws ds ∧ Dt.lst ds ∈ Dt.ndss (Tr.dats ts)
  | _, _, _, _, .nil, m => by unfold Tr.inns at m; exact nomatch m
  | _, _ :: _, a, c, .cons r u, m => by
    unfold Tr.inns at m c
    unfold Tr.dats Dt.ndss
    rcases List.mem_append.mp m with m | m
    · obtain ⟨ws, ds, h1, h2, h3⟩ := RT.node s (fun b m => c b (List.mem_append_left _ m)) r m
      exact ⟨ws, ds, h1, h2, List.mem_append_left _ h3⟩
    · obtain ⟨ws, ds, h1, h2, h3⟩ := RTs.node s (fun b m => c b (List.mem_append_right _ m)) u m
      exact ⟨ws, ds, h1, h2, List.mem_append_right _ h3⟩
end
def lndL : Bool → Lo → Lo
  | _, .sh d => .sh d
  | _, .src => .src
  | true, .ow ds => .sh (.lst ds)
  | true, .tr t => .sh t.dat
  | _, _ => .no
def lndE : List Bool → Ev → Ev
  | _, [] => []
  | [], l :: ρ => lndL false l :: lndE [] ρ
  | b :: bs, l :: ρ => lndL b l :: lndE bs ρ
/-- the lists that are lent -/
def lnx : Bool → Lo → List Dt
  | true, .ow ds => Dt.nds (.lst ds)
  | true, .tr t => t.dat.nds
  | _, _ => []
def lnX : List Bool → Ev → List Dt
  | _, [] => []
  | [], _ => []
  | b :: bs, l :: ρ => lnx b l ++ lnX bs ρ
def pad (bs : List Bool) (n : Nat) : List Bool := bs ++ List.replicate (n - bs.length) false
theorem lnd_len : ∀ (bs : List Bool) (ρ : Ev), (lndE bs ρ).length = ρ.length
  | _, [] => by cases ‹List Bool› <;> rfl
  | [], l :: ρ => congrArg (· + 1) (lnd_len [] ρ)
  | b :: bs, l :: ρ => congrArg (· + 1) (lnd_len bs ρ)
/-- an entry of what is lent -/
theorem lnd_at : ∀ (bs : List Bool) (ρ : Ev) (σ : St) (e : Lo × Option V), e ∈ (lndE bs ρ).zip σ → ∃ b l, e.1 = lndL b l ∧ (l, e.2) ∈ ρ.zip σ ∧ ∀ x, x ∈ lnx b l → x ∈ lnX bs ρ
  | bs, [], _, e, m => by cases bs <;> exact nomatch m
  | [], l :: ρ, [], e, m => nomatch m
  | _ :: _, l :: ρ, [], e, m => nomatch m
  | [], l :: ρ, o :: σ, e, m => by
    rcases List.mem_cons.mp m with rfl | m
    · exact ⟨false, l, rfl, List.mem_cons_self, fun x m => by cases l <;> exact nomatch m⟩
    · obtain ⟨b, l', h1, h2, h3⟩ := lnd_at [] ρ σ e m
      exact ⟨b, l', h1, List.mem_cons_of_mem _ h2, fun x m => by have := h3 x m; cases ρ <;> exact nomatch this⟩
  | b :: bs, l :: ρ, o :: σ, e, m => by
    rcases List.mem_cons.mp m with rfl | m
    · exact ⟨b, l, rfl, List.mem_cons_self, fun x m => List.mem_append_left _ m⟩
    · obtain ⟨b', l', h1, h2, h3⟩ := lnd_at bs ρ σ e m
      exact ⟨b', l', h1, List.mem_cons_of_mem _ h2, fun x m => List.mem_append_right _ (h3 x m)⟩
theorem lndL_src {b : Bool} {l : Lo} {o : Option V} {a : Addr} (c : a ∈ cells (lndL b l, o)) : l = .src := by
  cases b <;> cases l <;> first | rfl | exact in0 c
theorem lnd_cells : ∀ {bs : List Bool} {ρ : Ev} {σ : St}, (((lndE bs ρ).zip σ).flatMap cells).Sublist ((ρ.zip σ).flatMap cells)
  | bs, [], _ => by cases bs <;> exact List.Sublist.refl _
  | [], _ :: _, [] => List.Sublist.refl _
  | _ :: _, _ :: _, [] => List.Sublist.refl _
  | [], l :: ρ, o :: σ => by
    show (((lndL false l, o) :: (lndE [] ρ).zip σ).flatMap cells).Sublist _
    rw [List.zip_cons_cons, List.flatMap_cons, List.flatMap_cons]
    refine List.Sublist.append ?_ lnd_cells
    cases l <;> first | exact List.Sublist.refl _ | exact List.nil_sublist _
  | b :: bs, l :: ρ, o :: σ => by
    show (((lndL b l, o) :: (lndE bs ρ).zip σ).flatMap cells).Sublist _
    rw [List.zip_cons_cons, List.flatMap_cons, List.flatMap_cons]
    refine List.Sublist.append ?_ lnd_cells
    cases b <;> cases l <;> first | exact List.Sublist.refl _ | exact List.nil_sublist _
open Classical in
theorem lend_startN (bs : List Bool) (r : Rf K TB B F ρ σ es H) : ∃ (F0 : Hp) (S : List Addr), Rf K TB ⟨H, F0, S⟩ F0 (lndE bs ρ) σ [] H ∧ (∀ a, a ∈ S → (.src, some (.ref a)) ∈ ens es ρ σ) ∧ Same F F0 ∧ (∀ b o, F0 b = some o → F b = some o ∨ (NoT o ∧ F b = none ∧ H b = some o) ∧ Lnt K F0 (lnX bs ρ) o) := by
  -- what is lent
  let L : Addr → Prop := fun a => ∃ e, e ∈ (lndE bs ρ).zip σ ∧ ∃ b l, e.1 = lndL b l ∧ (l, e.2) ∈ ρ.zip σ ∧ a ∈ cells (l, e.2) ∧ l ≠ .src ∧ (∃ d, lndL b l = .sh d) ∧ ∀ x, x ∈ lnx b l → x ∈ lnX bs ρ
  have hL : ∀ a, L a → F a = none ∧ a ∉ TB ∧ ∃ u, H a = some u ∧ NoT u := fun a ⟨e, m, b, l, e1, m1, c, n, _⟩ => ⟨(r.out _ a (List.mem_append_right _ m1) c).1, (r.out _ a (List.mem_append_right _ m1) c).2.1, (r.ok _ (List.mem_append_right _ m1)).obj c n⟩
  let F0 : Hp := fun b => if L b then H b else F b
  have yes : ∀ a, L a → F0 a = H a := fun a h => if_pos h
  have no : ∀ a, ¬ L a → F0 a = F a := fun a h => if_neg h
  have sF : Same F F0 := fun b o e => by
    rw [no b (fun z => by rw [(hL b z).1] at e; cases e)]; exact e
  have sH : Same F0 H := fun b o e => by
    by_cases z : L b
    · rw [yes b z] at e; exact e
    · rw [no b z] at e; exact r.sub b o e
  have srcs : ∀ e a, e ∈ (lndE bs ρ).zip σ → a ∈ cells e → (Lo.src, some (V.ref a)) ∈ ens es ρ σ ∧ Src H a ∧ e.1 = .src := fun e a m c => by
    obtain ⟨b, l, e1, m1, _⟩ := lnd_at bs ρ σ e m
    obtain ⟨x, o⟩ := e
    cases e1
    obtain rfl := lndL_src c
    obtain ⟨b', e2, hs⟩ := r.ok _ (List.mem_append_right _ m1)
    have e2 : o = some (.ref b') := e2
    subst e2
    have c' : a ∈ cells (Lo.src, some (V.ref b')) := by cases b <;> exact c
    cases in1 c'
    exact ⟨List.mem_append_right _ m1, hs, by cases b <;> rfl⟩
  refine ⟨F0, ((lndE bs ρ).zip σ).flatMap cells, ⟨by rw [lnd_len]; exact r.len, fun l m j => ?_, sH, fun P hP => ⟨(r.tab P hP).1.mono sF, ?_⟩, fun e m => ?_, ?_, fun e a m c => ?_, fun b o _ _ q => q, fun b q => q, fun b o q => q, fun b o q => .inl q, fun a m => ?_⟩, fun a m => ?_, sF, fun b o e => ?_⟩
  · have : ∀ (bs : List Bool) (ρ : Ev), l ∈ lndE bs ρ → ∃ b l', l = lndL b l' := fun bs ρ => by
      induction ρ generalizing bs with
      | nil => intro m; cases bs <;> exact nomatch m
      | cons x ρ ih =>
        intro m
        cases bs with
        | nil => rcases List.mem_cons.mp m with rfl | m
                 · exact ⟨_, _, rfl⟩
                 · exact ih _ m
        | cons b bs => rcases List.mem_cons.mp m with rfl | m
                       · exact ⟨_, _, rfl⟩
                       · exact ih _ m
    obtain ⟨b, l', rfl⟩ := this _ _ m
    cases b <;> cases l' <;> exact fun z => nomatch z
  · rw [no P (fun z => (hL P z).2.1 hP)]; exact (r.tab P hP).2
  · have m' : e ∈ (lndE bs ρ).zip σ := m
    obtain ⟨b, l, e1, m1, mx⟩ := lnd_at bs ρ σ e m'
    have ok := r.ok _ (List.mem_append_right _ m1)
    have ly : ∀ a, l ≠ .src → (∃ d, lndL b l = .sh d) → a ∈ cells (l, e.2) → L a := fun a n1 n2 c => ⟨e, m', b, l, e1, m1, c, n1, n2, mx⟩
    obtain ⟨x, o⟩ := e
    cases e1
    cases l with
    | src => cases b <;> exact ok
    | no => cases b <;> trivial
    | sh d => obtain ⟨v, e2, rr⟩ := ok; cases b <;> exact ⟨v, e2, rr.same sF⟩
    | sk t => cases b <;> trivial
    | al j => cases b <;> trivial
    | od ds => cases b <;> trivial
    | fd ob ws ds => cases b <;> trivial
    | oi C p ns ds => cases b <;> trivial
    | tr t =>
      cases b with
      | false => trivial
      | true =>
        obtain ⟨v, e2, rr⟩ := ok
        have e2 : o = some v := e2
        subst e2
        exact ⟨v, rfl, rr.frz sF fun a c => yes a (ly a (fun z => nomatch z) ⟨_, rfl⟩ c)⟩
    | ow ds =>
      cases b with
      | false => trivial
      | true =>
        obtain ⟨a, vs, e2, h1, h2⟩ := ok
        have e2 : o = some (.ref a) := e2
        subst e2
        exact ⟨_, rfl, .lst ((yes a (ly a (fun z => nomatch z) ⟨_, rfl⟩ (inC rfl))).trans h1) (h2.same sF)⟩
  · have n := r.nd
    unfold ens at n
    rw [List.flatMap_append] at n
    exact ((List.nodup_append.mp n).2.1).sublist lnd_cells
  · obtain ⟨m1, hs, e1⟩ := srcs e a m c
    have o := r.out _ a m1 (inC rfl)
    have nl : ¬ L a := fun ⟨e', m', b', l', e1', m2, c', n', _⟩ => n' (by
      have := r.cell1 (List.mem_append_right _ m2) m1 c' (inC rfl)
      exact congrArg Prod.fst this)
    exact ⟨by rw [no a nl]; exact o.1, o.2.1, .inr ⟨e1, List.mem_flatMap.mpr ⟨e, m, c⟩⟩⟩
  · obtain ⟨e, m1, c⟩ := List.mem_flatMap.mp m
    obtain ⟨_, hs, _⟩ := srcs e a m1 c
    refine ⟨hs, ?_⟩
    obtain ⟨x, y, z⟩ := hs
    show H a ≠ none
    rw [z]; exact fun z => nomatch z
  · obtain ⟨e, m1, c⟩ := List.mem_flatMap.mp m
    exact (srcs e a m1 c).1
  · by_cases z : L b
    · have z' := z
      rw [yes b z] at e
      obtain ⟨h1, _, u, hu, nt⟩ := hL b z
      rw [hu] at e
      cases e
      refine .inr ⟨⟨nt, h1, hu⟩, ?_⟩
      obtain ⟨e, m, f, l, e1, m1, c, n1, ⟨d, n2⟩, mx⟩ := z'
      have ok := r.ok _ (List.mem_append_right _ m1)
      have ly : ∀ a, a ∈ cells (l, e.2) → L a := fun a c => ⟨e, m, f, l, e1, m1, c, n1, ⟨d, n2⟩, mx⟩
      obtain ⟨x, o⟩ := e
      cases l with
      | src => exact absurd rfl n1
      | no => exact in0 c
      | sh d => exact in0 c
      | sk t => exact in0 c
      | al j => exact in0 c
      | od ds => cases f <;> cases n2
      | fd ob ws ds => cases f <;> cases n2
      | oi C p ns ds => cases f <;> cases n2
      | tr t =>
        cases f with
        | false => cases n2
        | true =>
          obtain ⟨v, e2, rr⟩ := ok
          have e2 : o = some v := e2
          subst e2
          obtain ⟨ws, ds, q1, q2, q3⟩ := rr.node sF (fun a c => yes a (ly a c)) c
          rw [hu] at q1
          cases q1
          exact ⟨ws, ds, rfl, q2, mx _ q3⟩
      | ow ds =>
        cases f with
        | false => cases n2
        | true =>
          obtain ⟨a, vs, e2, q1, q2⟩ := ok
          have e2 : o = some (.ref a) := e2
          subst e2
          cases in1 c
          rw [hu] at q1
          cases q1
          exact ⟨vs, ds, rfl, q2.same sF, mx _ (by unfold lnx Dt.nds; exact List.mem_cons_self)⟩
    · rw [no b z] at e
      exact .inl e
/-- one's own thing that stands in the heap already is pushed -/
theorem Rf.pushO {p : Addr} {l : Lo} {v : V} (h : Rf K TB B F ρ σ es H) (k : Ok K F H ρ σ l (some v)) (c : cells (l, some v) = [p]) (f1 : F p = none) (f2 : p ∉ TB) (f3 : B.H p = none) (f4 : ∀ e a, e ∈ ens es ρ σ → a ∈ cells e → a ≠ p) : Rf K TB B F ρ σ ((l, v) :: es) H := by
  refine ⟨h.len, h.na, h.sub, h.tab, fun e m => ?_, ?_, fun e a m q => ?_, h.k1, h.k2, h.k3, h.k4, h.ks⟩
  · rcases List.mem_cons.mp m with rfl | m
    · exact k
    · exact h.ok e m
  · show ((((l, some v) : Lo × Option V) :: ens es ρ σ).flatMap cells).Nodup
    rw [flC1 c]
    refine List.nodup_cons.mpr ⟨fun m => ?_, h.nd⟩
    obtain ⟨e, m, q⟩ := List.mem_flatMap.mp m
    exact f4 e p m q rfl
  · rcases List.mem_cons.mp m with rfl | m
    · rw [c] at q
      cases in1 q
      exact ⟨f1, f2, .inl f3⟩
    · exact h.out e a m q
/-- what it gives holds nothing that was lent -/
def Apart (X : List Dt) (ds : List Dt) : Prop := (∀ x, x ∈ X → x.pur = true) ∧ Dt.purs ds = true ∧ ∀ x, x ∈ Dt.ndss ds → x ∉ X
def eLendN (bs : List Bool) (e : DE) : DE := fun ρ Qd => e (lndE bs ρ) fun _ l => match l with
  | .sh d => Apart (lnX bs ρ) [d] ∧ Qd ρ (.sh d)
  | .ow ds => Apart (lnX bs ρ) ds ∧ Qd ρ (.ow ds)
  | _ => False
theorem le_lendN {te : TE} {e : DE} (bs : List Bool) (he : LE K TB te e) : LE K TB te (eLendN bs e) := fun B ρ σ es H Q Qd ⟨F, r⟩ h k => by
  obtain ⟨F0, S, r0, hS, s0, f0⟩ := lend_startN bs r
  have f0' : ∀ b o, F0 b = some o → F b = some o ∨ NoT o ∧ F b = none ∧ H b = some o := fun b o e => (f0 b o e).imp id fun z => z.1
  refine he ⟨H, F0, S⟩ (lndE bs ρ) σ [] H _ _ ⟨F0, r0⟩ h fun ρ' l v H' r1 q => ?_
  obtain ⟨F1, r1⟩ := r1
  -- what was lent leaves the heap that never changes
  have dr : ∀ b o, F1 b = some o → (if H b = none then F1 b else F b) = some o ∨ Lnt K F1 (lnX bs ρ) o := fun b o e => by
    by_cases z : H b = none
    · rw [if_pos z]; exact .inl e
    · rw [if_neg z]
      rcases r1.k4 b o e with y | y
      · rcases f0 b o y with w | ⟨_, ws, ds, w1, w2, w3⟩
        · exact .inl w
        · exact .inr ⟨ws, ds, w1, w2.same r1.k3, w3⟩
      · exact absurd y z
  split at q
  · rename_i d
    obtain ⟨⟨a1, a2, a3⟩, q⟩ := q
    have rb := r1.bare List.mem_cons_self rfl (fun j z => nomatch z)
    obtain ⟨u, eu, rp⟩ := rb.okp
    cases eu
    have n : ∀ x, x ∈ d.nds → x ∉ lnX bs ρ := fun x m => a3 x (by unfold Dt.ndss; exact List.mem_append_left _ m)
    exact k ρ _ _ H' ⟨_, (call_end0 r hS s0 f0' rb).pushS (rp.drop dr a1 (purs_c a2).1 n)⟩ q
  · rename_i ds
    obtain ⟨⟨a1, a2, a3⟩, q⟩ := q
    have rb := r1.bare List.mem_cons_self rfl (fun j z => nomatch z)
    obtain ⟨a, vs, eu, ha, ra⟩ := rb.okp
    cases eu
    have o := rb.out _ a List.mem_cons_self (inC rfl)
    have hn : H a = none := o.2.2.elim id fun z => by cases z.1
    have r2 := call_end0 r hS s0 f0' rb
    refine k ρ _ _ H' ⟨_, r2.pushO (l := .ow ds) ⟨a, vs, rfl, ha, ra.drop dr a1 a2 a3⟩ rfl ?_ o.2.1 (r.k2 a hn) fun e b m c z => (r.ok e m).cellAt c (z ▸ hn)⟩ q
    show (if H a = none then F1 a else F a) = none
    rw [if_pos hn]
    exact o.1
  · exact q.elim
end

theorem ndss_0 {α : Type} {f : α → Dt} (h : ∀ x, (f x).nds = []) : ∀ xs : List α, Dt.ndss (xs.map f) = []
  | [] => by unfold List.map Dt.ndss; rfl
  | x :: xs => by rw [List.map_cons]; unfold Dt.ndss; rw [h x, ndss_0 h xs]; rfl
theorem purs_1 {α : Type} {f : α → Dt} (h : ∀ x, (f x).pur = true) : ∀ xs : List α, Dt.purs (xs.map f) = true
  | [] => by unfold List.map Dt.purs; rfl
  | x :: xs => by rw [List.map_cons]; unfold Dt.purs; rw [h x, purs_1 h xs]; rfl
theorem nds_lst (xs : List Dt) : Dt.nds (.lst xs) = .lst xs :: Dt.ndss xs := by rw [Dt.nds]
theorem nds_tup (xs : List Dt) : Dt.nds (.tup xs) = Dt.ndss xs := by rw [Dt.nds]
theorem nds_ins (C : Addr) (ns : List Str) (xs : List Dt) : Dt.nds (.ins C ns xs) = Dt.ndss xs := by rw [Dt.nds]
theorem nds_int (i : Int) : Dt.nds (.int i) = [] := by rw [Dt.nds]
theorem pur_lst (xs : List Dt) : Dt.pur (.lst xs) = Dt.purs xs := by rw [Dt.pur]
theorem pur_tup (xs : List Dt) : Dt.pur (.tup xs) = Dt.purs xs := by rw [Dt.pur]
theorem pur_ins (C : Addr) (ns : List Str) (xs : List Dt) : Dt.pur (.ins C ns xs) = Dt.purs xs := by rw [Dt.pur]
theorem pur_int (i : Int) : Dt.pur (.int i) = true := by rw [Dt.pur]
theorem ndss_nil : Dt.ndss [] = [] := by rw [Dt.ndss]
theorem ndss_cons (x : Dt) (xs : List Dt) : Dt.ndss (x :: xs) = Dt.nds x ++ Dt.ndss xs := by rw [Dt.ndss]
theorem purs_nil : Dt.purs [] = true := by rw [Dt.purs]
theorem purs_cons (x : Dt) (xs : List Dt) : Dt.purs (x :: xs) = (Dt.pur x && Dt.purs xs) := by rw [Dt.purs]
theorem ndss_ints (w : List Int) : Dt.ndss (w.map Dt.int) = [] := ndss_0 nds_int w
theorem purs_ints (w : List Int) : Dt.purs (w.map Dt.int) = true := purs_1 pur_int w
/-- what it gives holds no list -/
theorem Apart.no {X ds : List Dt} (h1 : ∀ x, x ∈ X → x.pur = true) (h2 : Dt.purs ds = true) (h3 : Dt.ndss ds = []) : Apart X ds := ⟨h1, h2, fun x m => by rw [h3] at m; exact nomatch m⟩
theorem lent_ints {w : List Int} : ∀ x, x ∈ Dt.nds (.lst (w.map Dt.int)) → x.pur = true := fun x m => by
  rw [nds_lst, ndss_ints] at m
  rw [List.mem_singleton.mp m, pur_lst, purs_ints]
/-- a statement behind which only M is known -/
def sCut (s : DS) : DS := fun D ρ => ∃ M : Ev → Prop, s { D with nx := M } ρ ∧ ∀ ρ', M ρ' → D.nx ρ'
theorem ls_cut {K : PySem.W.Frag} {TB : Tbs} {t : TS} {s : DS} (h : LS K TB t s) : LS K TB t (sCut s) := fun B ρ σ es H D Dd z r ⟨M, h1, h2⟩ k => h B ρ σ es H D { Dd with nx := M } z r h1 ⟨fun ρ' σ' H' n r' q => k.nx ρ' σ' H' n r' (h2 ρ' q), k.rt, k.bk, k.ct⟩

section
variable {K : PySem.W.Frag} {TB : Tbs} {B : Bs} {F : Hp} {ρ : Ev} {σ : St} {es : Ps} {H : Hp}
/-! ### calls to which names' own lists and trees are lent -/
def argM (ρ : Ev) : Lo → Lo
  | .al j => match gt ρ j with
    | .src => .src
    | .ow ds => .sh (.lst ds)
    | .tr t => .sh t.dat
    | _ => .no
  | .sh d => .sh d
  | .src => .src
  | _ => .no
/-- the lists that are lent with an argument -/
def argX (ρ : Ev) : Lo → List Dt
  | .al j => match gt ρ j with
    | .ow ds => Dt.nds (.lst ds)
    | .tr t => t.dat.nds
    | _ => []
  | _ => []
theorem al_slot {ls : List Lo} {vs : List V} {j : Nat} {v : V} (r : Rf K TB B F ρ σ ((ls.zip vs).reverse ++ es) H) (m : (Lo.al j, v) ∈ ls.zip vs) : (gt ρ j, some v) ∈ ens ((ls.zip vs).reverse ++ es) ρ σ := by
  obtain ⟨n1, u, e3, e4⟩ := r.ok (Lo.al j, some v) (List.mem_append_left _ (List.mem_map.mpr ⟨_, List.mem_append_left _ (List.mem_reverse.mpr m), rfl⟩))
  cases e3
  obtain ⟨o, f1, f2, f3⟩ := r.slot n1
  rw [e4] at f1
  cases f1
  exact f2
open Classical in
theorem call_startL {ls : List Lo} {vs : List V} (r : Rf K TB B F ρ σ ((ls.zip vs).reverse ++ es) H) (n : ls.length = vs.length) (hk : oneS (ls.map (argM ρ)) = true) :
    ∃ (F0 : Hp) (S : List Addr), Rf K TB ⟨H, F0, S⟩ F0 (ls.map (argM ρ)) (vs.map some) [] H ∧ (∀ a, a ∈ S → (.src, some (.ref a)) ∈ ens ((ls.zip vs).reverse ++ es) ρ σ) ∧ Same F F0 ∧ (∀ b o, F0 b = some o → F b = some o ∨ (NoT o ∧ F b = none ∧ H b = some o) ∧ Lnt K F0 (ls.flatMap (argX ρ)) o) := by
  have mem : ∀ e, e ∈ (ls.map (argM ρ)).zip (vs.map some) → ∃ l v, e = (argM ρ l, some v) ∧ (l, v) ∈ ls.zip vs ∧ (l, some v) ∈ ens ((ls.zip vs).reverse ++ es) ρ σ := fun e m => by
    rw [List.zip_map] at m
    obtain ⟨p, mp, rfl⟩ := List.mem_map.mp m
    exact ⟨p.1, p.2, rfl, mp, List.mem_append_left _ (List.mem_map.mpr ⟨p, List.mem_append_left _ (List.mem_reverse.mpr mp), rfl⟩)⟩
  let L : Addr → Prop := fun a => ∃ j v, (Lo.al j, v) ∈ ls.zip vs ∧ a ∈ cells (gt ρ j, some v) ∧ gt ρ j ≠ .src ∧ ∃ d, argM ρ (.al j) = .sh d
  have hL : ∀ a, L a → F a = none ∧ a ∉ TB ∧ ∃ u, H a = some u ∧ NoT u := fun a ⟨j, v, m, c, ns, _⟩ => ⟨(r.out _ a (al_slot r m) c).1, (r.out _ a (al_slot r m) c).2.1, (r.ok _ (al_slot r m)).obj c ns⟩
  let F0 : Hp := fun b => if L b then H b else F b
  have yes : ∀ a, L a → F0 a = H a := fun a h => if_pos h
  have no : ∀ a, ¬ L a → F0 a = F a := fun a h => if_neg h
  have sF : Same F F0 := fun b o e => by
    rw [no b (fun z => by rw [(hL b z).1] at e; cases e)]; exact e
  have sub : Same F0 H := fun b o e => by
    by_cases z : L b
    · rw [yes b z] at e; exact e
    · rw [no b z] at e; exact r.sub b o e
  have argOk : ∀ (l : Lo) (v : V), (l, v) ∈ ls.zip vs → (l, some v) ∈ ens ((ls.zip vs).reverse ++ es) ρ σ → ∀ (ρ' : Ev) (σ' : St), Ok K F0 H ρ' σ' (argM ρ l) (some v) ∧ ∀ a, a ∈ cells (argM ρ l, some v) → argM ρ l = .src ∧ Src H a ∧ v = .ref a ∧ (.src, some (.ref a)) ∈ ens ((ls.zip vs).reverse ++ es) ρ σ := fun l v mz m ρ' σ' => by
    have ok := r.ok _ m
    cases l with
    | sh d =>
      obtain ⟨u, e, rp⟩ := ok
      exact ⟨⟨u, e, rp.same sF⟩, fun a c => nomatch c⟩
    | no => exact ⟨trivial, fun a c => nomatch c⟩
    | ow d => exact ⟨trivial, fun a c => nomatch c⟩
    | od d => exact ⟨trivial, fun a c => nomatch c⟩
    | fd o w d => exact ⟨trivial, fun a c => nomatch c⟩
    | oi C p n d => exact ⟨trivial, fun a c => nomatch c⟩
    | tr t => exact ⟨trivial, fun a c => nomatch c⟩
    | sk t => exact ⟨trivial, fun a c => nomatch c⟩
    | src =>
      obtain ⟨a, e, hs⟩ := ok
      cases e
      exact ⟨⟨a, rfl, hs⟩, fun a' c => by cases in1 c; exact ⟨rfl, hs, rfl, m⟩⟩
    | al j =>
      have e : argM ρ (.al j) = (match gt ρ j with | .src => .src | .ow ds => .sh (.lst ds) | .tr t => .sh t.dat | _ => .no) := rfl
      have f2 := al_slot r mz
      have f3 := r.ok _ f2
      have ly : ∀ a, gt ρ j ≠ .src → (∃ d, argM ρ (.al j) = .sh d) → a ∈ cells (gt ρ j, some v) → L a := fun a n1 n2 c => ⟨j, v, mz, c, n1, n2⟩
      rw [e]
      rw [e] at ly
      cases g : gt ρ j with
      | src =>
        rw [g] at f2 f3
        obtain ⟨a, e5, hs⟩ := f3
        cases e5
        exact ⟨⟨a, rfl, hs⟩, fun a' c => by cases in1 c; exact ⟨rfl, hs, rfl, f2⟩⟩
      | ow ds =>
        rw [g] at f3 ly
        obtain ⟨a, ws, e5, ha, rp⟩ := f3
        cases e5
        exact ⟨⟨_, rfl, .lst ((yes a (ly a (fun z => nomatch z) ⟨_, rfl⟩ (inC rfl))).trans ha) (rp.same sF)⟩, fun a c => nomatch c⟩
      | tr t =>
        rw [g] at f3 ly
        obtain ⟨u, e5, rr⟩ := f3
        cases e5
        exact ⟨⟨_, rfl, rr.frz sF fun a c => yes a (ly a (fun z => nomatch z) ⟨_, rfl⟩ c)⟩, fun a c => nomatch c⟩
      | _ => exact ⟨trivial, fun a c => nomatch c⟩
  have isS : ∀ e a, e ∈ (ls.map (argM ρ)).zip (vs.map some) → a ∈ cells e → e.1 = .src := fun e a m c => by
    obtain ⟨l, v, rfl, mz, m'⟩ := mem e m
    exact ((argOk l v mz m' [] []).2 a c).1
  refine ⟨F0, ((ls.map (argM ρ)).zip (vs.map some)).flatMap cells, ⟨by simp [n], fun l m j => ?_, sub, fun P hP => ⟨(r.tab P hP).1.mono sF, ?_⟩, fun e m => ?_, ?_, fun e a m c => ?_, fun b o _ _ q => q, fun b q => q, fun b o q => q, fun b o q => .inl q, fun a m => ?_⟩, fun a m => ?_, sF, fun b o e => ?_⟩
  · obtain ⟨l', _, rfl⟩ := List.mem_map.mp m
    unfold argM
    split
    · split <;> exact fun z => nomatch z
    all_goals exact fun z => nomatch z
  · rw [no P (fun z => (hL P z).2.1 hP)]; exact (r.tab P hP).2
  · obtain ⟨l, v, rfl, mz, m'⟩ := mem e m
    exact (argOk l v mz m' _ _).1
  · have := oneS_cells (ls.map (argM ρ)) (vs.map some) isS hk
    show (((ls.map (argM ρ)).zip (vs.map some)).flatMap cells).Nodup
    match ((ls.map (argM ρ)).zip (vs.map some)).flatMap cells, this with
    | [], _ => exact List.nodup_nil
    | [a], _ => simp
  · obtain ⟨l, v, rfl, mz, m'⟩ := mem e m
    obtain ⟨e1, hs, rfl, m2⟩ := (argOk l v mz m' [] []).2 a c
    have o := r.out _ a m2 (inC rfl)
    have nl : ¬ L a := fun ⟨j, v, m3, c3, ns, _⟩ => ns (congrArg Prod.fst (r.cell1 (al_slot r m3) m2 c3 (inC rfl)))
    exact ⟨by rw [no a nl]; exact o.1, o.2.1, .inr ⟨e1, List.mem_flatMap.mpr ⟨_, m, c⟩⟩⟩
  · obtain ⟨e, m', c⟩ := List.mem_flatMap.mp m
    obtain ⟨l, v, rfl, mz, m2⟩ := mem e m'
    obtain ⟨_, hs, _, _⟩ := (argOk l v mz m2 [] []).2 a c
    refine ⟨hs, ?_⟩
    obtain ⟨x, y, z⟩ := hs
    rw [show (Bs.mk H F0 _).H a = H a from rfl, z]
    exact fun z => nomatch z
  · obtain ⟨e, m', c⟩ := List.mem_flatMap.mp m
    obtain ⟨l, v, rfl, mz, m2⟩ := mem e m'
    exact ((argOk l v mz m2 [] []).2 a c).2.2.2
  · by_cases z : L b
    · have z' := z
      rw [yes b z] at e
      obtain ⟨h1, _, u, hu, nt⟩ := hL b z
      rw [hu] at e
      cases e
      refine .inr ⟨⟨nt, h1, hu⟩, ?_⟩
      obtain ⟨j, v, mz, c, n1, d, n2⟩ := z'
      have ok := r.ok _ (al_slot r mz)
      have ly : ∀ a, a ∈ cells (gt ρ j, some v) → L a := fun a c => ⟨j, v, mz, c, n1, d, n2⟩
      have mx : ∀ x, x ∈ argX ρ (.al j) → x ∈ ls.flatMap (argX ρ) := fun x m => List.mem_flatMap.mpr ⟨.al j, (List.of_mem_zip mz).1, m⟩
      have ea : argM ρ (.al j) = (match gt ρ j with | .src => .src | .ow ds => .sh (.lst ds) | .tr t => .sh t.dat | _ => .no) := rfl
      have ex : argX ρ (.al j) = (match gt ρ j with | .ow ds => Dt.nds (.lst ds) | .tr t => t.dat.nds | _ => []) := rfl
      rw [ea] at n2
      rw [ex] at mx
      generalize gt ρ j = l at c ok ly mx n1 n2
      cases l with
      | src => exact absurd rfl n1
      | no => exact in0 c
      | sh d => exact in0 c
      | sk t => exact in0 c
      | al j => exact in0 c
      | od ds => cases n2
      | fd ob ws ds => cases n2
      | oi C p ns ds => cases n2
      | tr t =>
        obtain ⟨v, e2, rr⟩ := ok
        cases e2
        obtain ⟨ws, ds, q1, q2, q3⟩ := rr.node sF (fun a c => yes a (ly a c)) c
        rw [hu] at q1
        cases q1
        exact ⟨ws, ds, rfl, q2, mx _ q3⟩
      | ow ds =>
        obtain ⟨a, vs, e2, q1, q2⟩ := ok
        cases e2
        cases in1 c
        rw [hu] at q1
        cases q1
        exact ⟨vs, ds, rfl, q2.same sF, mx _ (by unfold Dt.nds; exact List.mem_cons_self)⟩
    · rw [no b z] at e
      exact .inl e
/-- behind a call to which things were lent -/
theorem lent_sh {X : List Dt} {S : List Addr} {d : Dt} {v : V} {H' F0 : Hp} (r : Rf K TB B F ρ σ es H) (hS : ∀ a, a ∈ S → (.src, some (.ref a)) ∈ ens es ρ σ) (s0 : Same F F0) (f0 : ∀ b o, F0 b = some o → F b = some o ∨ (NoT o ∧ F b = none ∧ H b = some o) ∧ Lnt K F0 X o) (ap : Apart X [d]) (q : R K TB ⟨H, F0, S⟩ [] [] [(.sh d, v)] H') : R K TB B ρ σ ((.sh d, v) :: es) H' := by
  obtain ⟨F1, r1⟩ := q
  obtain ⟨a1, a2, a3⟩ := ap
  have f0' : ∀ b o, F0 b = some o → F b = some o ∨ NoT o ∧ F b = none ∧ H b = some o := fun b o e => (f0 b o e).imp id fun z => z.1
  have dr : ∀ b o, F1 b = some o → (if H b = none then F1 b else F b) = some o ∨ Lnt K F1 X o := fun b o e => by
    by_cases z : H b = none
    · rw [if_pos z]; exact .inl e
    · rw [if_neg z]
      rcases r1.k4 b o e with y | y
      · rcases f0 b o y with w | ⟨_, ws, ds, w1, w2, w3⟩
        · exact .inl w
        · exact .inr ⟨ws, ds, w1, w2.same r1.k3, w3⟩
      · exact absurd y z
  obtain ⟨u, eu, rp⟩ := r1.okp
  cases eu
  have n : ∀ x, x ∈ d.nds → x ∉ X := fun x m => a3 x (by unfold Dt.ndss; exact List.mem_append_left _ m)
  exact ⟨_, (call_end0 r hS s0 f0' r1).pushS (rp.drop dr a1 (purs_c a2).1 n)⟩
theorem lent_ow {X : List Dt} {S : List Addr} {ds : List Dt} {v : V} {H' F0 : Hp} (r : Rf K TB B F ρ σ es H) (hS : ∀ a, a ∈ S → (.src, some (.ref a)) ∈ ens es ρ σ) (s0 : Same F F0) (f0 : ∀ b o, F0 b = some o → F b = some o ∨ (NoT o ∧ F b = none ∧ H b = some o) ∧ Lnt K F0 X o) (ap : Apart X ds) (q : R K TB ⟨H, F0, S⟩ [] [] [(.ow ds, v)] H') : R K TB B ρ σ ((.ow ds, v) :: es) H' := by
  obtain ⟨F1, r1⟩ := q
  obtain ⟨a1, a2, a3⟩ := ap
  have f0' : ∀ b o, F0 b = some o → F b = some o ∨ NoT o ∧ F b = none ∧ H b = some o := fun b o e => (f0 b o e).imp id fun z => z.1
  have dr : ∀ b o, F1 b = some o → (if H b = none then F1 b else F b) = some o ∨ Lnt K F1 X o := fun b o e => by
    by_cases z : H b = none
    · rw [if_pos z]; exact .inl e
    · rw [if_neg z]
      rcases r1.k4 b o e with y | y
      · rcases f0 b o y with w | ⟨_, ws, ds, w1, w2, w3⟩
        · exact .inl w
        · exact .inr ⟨ws, ds, w1, w2.same r1.k3, w3⟩
      · exact absurd y z
  obtain ⟨a, vs, eu, ha, ra⟩ := r1.okp
  cases eu
  have o := r1.out _ a List.mem_cons_self (inC rfl)
  have hn : H a = none := o.2.2.elim id fun z => by cases z.1
  have r2 := call_end0 r hS s0 f0' r1
  refine ⟨_, r2.pushO (l := .ow ds) ⟨a, vs, rfl, ha, ra.drop dr a1 a2 a3⟩ rfl ?_ o.2.1 (r.k2 a hn) fun e b m c z => (r.ok e m).cellAt c (z ▸ hn)⟩
  show (if H a = none then F1 a else F a) = none
  rw [if_pos hn]
  exact o.1
def eCallL (c : Ct) (dl : List Dt) (a : DA) : DE := fun ρ Qd => a ρ fun ρ1 ls => match oneS (ls.map (argM ρ1)) with
  | true => c (ls.map (argM ρ1) ++ dl.map Lo.sh) fun l => match l with
    | .sh d => Apart (ls.flatMap (argX ρ1)) [d] ∧ Qd ρ1 (.sh d)
    | .ow ds => Apart (ls.flatMap (argX ρ1)) ds ∧ Qd ρ1 (.ow ds)
    | _ => False
  | false => False
theorem le_callL {c : Ct} {dvs : List V} {dl : List Dt} {E : XK} {ta : TA} {a : DA} (hd : ∀ F, RpA K F dvs dl) (ha : LA K TB ta a) : LE K TB (tCall (spOf K TB c) dvs E ta) (eCallL c dl a) := fun B ρ σ es H Q Qd r h k =>
  ha B ρ σ es H _ _ r h fun ρ1 ls vs H1 n ⟨F, r1⟩ q => by
    split at q
    · rename_i hk
      obtain ⟨F0, S, r2, hS, s0, f0⟩ := call_startL r1 n hk
      have part : ∀ (l : Lo) (v : V), (ens ((l, v) :: es) ρ1 σ).Sublist (ens ((l, v) :: ((ls.zip vs).reverse ++ es)) ρ1 σ) := fun l v => by
        unfold ens
        rw [List.map_cons, List.map_cons, List.map_append, List.cons_append, List.cons_append, List.append_assoc]
        exact (List.sublist_append_right _ _).cons₂ _
      refine ⟨F0, _, _, _, by simp [n, (hd F).len], r2.dv (hd F0), q, fun l v H' hl hc z q' => ?_⟩
      split at q'
      · obtain ⟨F', z'⟩ := lent_sh r1 hS s0 f0 q'.1 z
        exact k ρ1 _ v H' ⟨F', z'.part (part _ _)⟩ q'.2
      · obtain ⟨F', z'⟩ := lent_ow r1 hS s0 f0 q'.1 z
        exact k ρ1 _ v H' ⟨F', z'.part (part _ _)⟩ q'.2
      · exact q'.elim
    · exact q.elim
theorem le_callL0 {c : Ct} {E : XK} {ta : TA} {a : DA} (ha : LA K TB ta a) : LE K TB (tCall (spOf K TB c) [] E ta) (eCallL c [] a) := le_callL (fun _ => .nil) ha
def eMakeL (C : Addr) (c : CtI) (dl : List Dt) (a : DA) : DE := fun ρ Qd => a ρ fun ρ1 ls => match oneS (ls.map (argM ρ1)) with
  | true => c (ls.map (argM ρ1) ++ dl.map Lo.sh) fun ns ds => Apart (ls.flatMap (argX ρ1)) [.ins C ns ds] ∧ Qd ρ1 (.sh (.ins C ns ds))
  | false => False
theorem le_makeL {C : Addr} {c : CtI} {dvs : List V} {dl : List Dt} {E : XK} {ta : TA} {a : DA} (hd : ∀ F, RpA K F dvs dl) (ha : LA K TB ta a) : LE K TB (tMake C (spIn K TB C c) dvs E ta) (eMakeL C c dl a) := fun B ρ σ es H Q Qd r h k =>
  ha B ρ σ es H _ _ r h fun ρ1 ls vs H1 n ⟨F, r1⟩ q => by
    split at q
    · rename_i hk
      intro x dx hx hdx nx
      obtain ⟨F0, S, r2, hS, s0, f0⟩ := call_startL r1 n hk
      have r3 := init_start (C := C) (r2.dv (hd F0)) hx hdx nx
      have s1 : Same H1 (upd H1 dx (.own x)) := Same.new hdx
      have hx1 : upd H1 dx (.own x) x = none := by rw [upd_ne nx.symm]; exact hx
      have er := rmv_of (o := HO.ins C dx []) hx1
      refine ⟨x, dx, vs ++ dvs, F0, ls.map (argM ρ1) ++ dl.map Lo.sh, S, fun ns ds => Apart (ls.flatMap (argX ρ1)) [.ins C ns ds] ∧ Qd ρ1 (.sh (.ins C ns ds)), rfl, by simp [n, (hd F).len], upd_same, er.symm ▸ r3, q, fun ns ds H' z q' => ⟨rfl, ?_⟩⟩
      rw [er] at z
      obtain ⟨F1, z1⟩ := z
      have z2 := z1.rebase s1 fun a m e => (r2.ks a m).2 e
      obtain ⟨dx', ws, e1, e2, e3, ra⟩ := z2.okp
      have z4 := z2.frz (o := .ins C dx' (ns.zip ws)) (d := .ins C ns ds) rfl e2 (fun s => .ins upd_same e3 (ra.same s)) (fun z => nomatch z)
      obtain ⟨F', z'⟩ := lent_sh r1 hS s0 f0 q'.1 ⟨_, z4⟩
      refine k ρ1 _ _ H' ⟨F', z'.part ?_⟩ q'.2
      unfold ens
      rw [List.map_cons, List.map_cons, List.map_append, List.cons_append, List.cons_append, List.append_assoc]
      exact (List.sublist_append_right _ _).cons₂ _
    · exact q.elim
theorem le_makeL0 {C : Addr} {c : CtI} {E : XK} {ta : TA} {a : DA} (ha : LA K TB ta a) : LE K TB (tMake C (spIn K TB C c) [] E ta) (eMakeL C c [] a) := le_makeL (fun _ => .nil) ha
/-- o.m(..) -/
def eMethL (C : Addr) (ns : List Str) (c : Ct) (dl : List Dt) (o : DE) (a : DA) : DE := fun ρ Qd => o ρ fun ρ1 l => match l with
  | .sh (.ins C' ns' xs) => (C' = C ∧ ns' = ns) ∧ a ρ1 fun ρ2 ls => match oneS (ls.map (argM ρ2)) with
    | true => c (.sh (.ins C ns xs) :: ls.map (argM ρ2) ++ dl.map Lo.sh) fun l => match l with
      | .sh d => Apart (ls.flatMap (argX ρ2)) [d] ∧ Qd ρ2 (.sh d)
      | .ow ds => Apart (ls.flatMap (argX ρ2)) ds ∧ Qd ρ2 (.ow ds)
      | _ => False
    | false => False
  | _ => False
theorem le_methL {C : Addr} {ns : List Str} {m : Str} {c : Ct} {dvs : List V} {dl : List Dt} {E : XK} {ta : TE} {o : DE} {t : TA} {a : DA} (hm : m ∉ ns) (hd : ∀ F, RpA K F dvs dl) (ho : LE K TB ta o) (ha : LA K TB t a) : LE K TB (tMeth C m (spOf K TB c) dvs E ta t) (eMethL C ns c dl o a) := fun B ρ σ es H Q Qd r h k =>
  ho B ρ σ es H _ _ r h fun ρ1 l v H1 ⟨F1, r1⟩ q => by
    split at q
    · rename_i C' ns' xs _
      obtain ⟨⟨rfl, rfl⟩, q⟩ := q
      obtain ⟨p, dx, vs, e, hH, hl, ra⟩ := r1.entI (e := (.sh (.ins C' ns' xs), some v)) mem_hd rfl
      cases e
      refine ⟨p, dx, _, rfl, hH, zl_none hm, ?_⟩
      refine ha B ρ1 σ _ H1 _ _ ⟨F1, r1⟩ q fun ρ2 ls ws H2 n ⟨F, r2⟩ q => ?_
      split at q
      · rename_i hk
        have r2' : Rf K TB B F ρ2 σ (((Lo.sh (.ins C' ns' xs) :: ls).zip (V.ref p :: ws)).reverse ++ es) H2 := by
          rw [List.zip_cons_cons, List.reverse_cons, List.append_assoc]
          exact r2
        obtain ⟨F0, S, r3, hS, s0, f0⟩ := call_startL r2' (by simp [n]) (show oneS ((Lo.sh (.ins C' ns' xs) :: ls).map (argM ρ2)) = true from hk)
        have part : ∀ (l : Lo) (v : V), (ens ((l, v) :: es) ρ2 σ).Sublist (ens ((l, v) :: (((Lo.sh (.ins C' ns' xs) :: ls).zip (V.ref p :: ws)).reverse ++ es)) ρ2 σ) := fun l v => by
          unfold ens
          rw [List.map_cons, List.map_cons, List.map_append, List.cons_append, List.cons_append, List.append_assoc]
          exact (List.sublist_append_right _ _).cons₂ _
        refine ⟨F0, _, _, _, by simp [n, (hd F).len], r3.dv (hd F0), q, fun l v H' hl hc z q' => ?_⟩
        split at q'
        · obtain ⟨F', z'⟩ := lent_sh r2' hS s0 f0 q'.1 z
          exact k ρ2 _ v H' ⟨F', z'.part (part _ _)⟩ q'.2
        · obtain ⟨F', z'⟩ := lent_ow r2' hS s0 f0 q'.1 z
          exact k ρ2 _ v H' ⟨F', z'.part (part _ _)⟩ q'.2
        · exact q'.elim
      · exact q.elim
    · exact q.elim
end

end Df
namespace My
open PySem L2 GxR Gq Gn Df
section
variable {P : Program} {w : World} {K : PySem.W.Frag} {mg : Str → Option Value} {base : Heap}

def top (i : Nat) : Stmt := PySem.Challenge.pw_counthall_k06_frame_allows.main.body.getD i (.Pass ⟨0, 0, 0, 0⟩)
abbrev s_FrameI__initI : Stmt := inClass (top 7) 0
abbrev s_Frame_allows : Stmt := inClass (top 7) 1
abbrev s_is_rule : Stmt := top 8
abbrev s_is_connected : Stmt := top 9
abbrev s_greatest_differences : Stmt := top 10
abbrev s_law_source : Stmt := top 12
abbrev s_law_draw : Stmt := top 13
abbrev s_law_between : Stmt := top 14
abbrev s_law_rule : Stmt := top 15
abbrev s_law_rules : Stmt := top 16
abbrev s_law_keeps : Stmt := top 17
abbrev s_law_arcs : Stmt := top 18
abbrev s_law_table : Stmt := top 19
abbrev s_law_all_worlds : Stmt := top 20
abbrev s_law_lists : Stmt := top 21
abbrev s_law_more_rules : Stmt := top 22
abbrev s_law_asked : Stmt := top 23
abbrev s_law : Stmt := top 24
theorem sc_FrameI__initI : FnScope ["self", "size", "rules", "kept", "table", "rule", "node"] ["self", "size", "rules"] (defScope s_FrameI__initI) := ⟨rfl, rfl, rfl, by decide +kernel, rfl, by decide +kernel, by decide +kernel⟩
theorem sc_Frame_allows : FnScope ["self", "levels", "first", "second", "low", "high"] ["self", "levels"] (defScope s_Frame_allows) := ⟨rfl, rfl, rfl, by decide +kernel, rfl, by decide +kernel, by decide +kernel⟩
theorem sc_is_rule : FnScope ["size", "rule", "first", "second", "low", "high"] ["size", "rule"] (defScope s_is_rule) := ⟨rfl, rfl, rfl, by decide +kernel, rfl, by decide +kernel, by decide +kernel⟩
theorem sc_is_connected : FnScope ["size", "rules", "reached", "_", "rule"] ["size", "rules"] (defScope s_is_connected) := ⟨rfl, rfl, rfl, by decide +kernel, rfl, by decide +kernel, by decide +kernel⟩
theorem sc_greatest_differences : FnScope ["size", "rules", "far", "table", "first", "second", "low", "high", "middle", "beyond", "node", "other", "row", "known", "more", "rule"] ["size", "rules"] (defScope s_greatest_differences) := ⟨rfl, rfl, rfl, by decide +kernel, rfl, by decide +kernel, by decide +kernel⟩
theorem sc_law_source : FnScope ["_law_script", "_law_place"] ["_law_script", "_law_place"] (defScope s_law_source) := ⟨rfl, rfl, rfl, by decide +kernel, rfl, by decide +kernel, by decide +kernel⟩
theorem sc_law_draw : FnScope ["_law_source_here", "_law_size", "_law_cell", "_law_mixed"] ["_law_source_here", "_law_size"] (defScope s_law_draw) := ⟨rfl, rfl, rfl, by decide +kernel, rfl, by decide +kernel, by decide +kernel⟩
theorem sc_law_between : FnScope ["_law_source_here", "_law_least", "_law_most"] ["_law_source_here", "_law_least", "_law_most"] (defScope s_law_between) := ⟨rfl, rfl, rfl, by decide +kernel, rfl, by decide +kernel, by decide +kernel⟩
theorem sc_law_rule : FnScope ["_law_source_here", "_law_base", "_law_first", "_law_second", "_law_reach", "_law_gap", "_law_wide", "_law_below"] ["_law_source_here", "_law_base", "_law_first", "_law_second", "_law_reach"] (defScope s_law_rule) := ⟨rfl, rfl, rfl, by decide +kernel, rfl, by decide +kernel, by decide +kernel⟩
theorem sc_law_rules : FnScope ["_law_source_here", "_law_size", "_law_reach", "_law_far", "_law_base", "_law_rules_here", "_law_node", "_law_other", "_law_first", "_law_second", "_law_turn"] ["_law_source_here", "_law_size", "_law_reach", "_law_far"] (defScope s_law_rules) := ⟨rfl, rfl, rfl, by decide +kernel, rfl, by decide +kernel, by decide +kernel⟩
theorem sc_law_keeps : FnScope ["_law_levels", "_law_rules_here", "_law_rule_here", "_law_gap"] ["_law_levels", "_law_rules_here"] (defScope s_law_keeps) := ⟨rfl, rfl, rfl, by decide +kernel, rfl, by decide +kernel, by decide +kernel⟩
theorem sc_law_arcs : FnScope ["_law_rows", "_law_arcs_here", "_law_row"] ["_law_rows"] (defScope s_law_arcs) := ⟨rfl, rfl, rfl, by decide +kernel, rfl, by decide +kernel, by decide +kernel⟩
theorem sc_law_table : FnScope ["_law_size", "_law_arcs_here", "_law_table_here", "_law_first", "_law_second", "_law_arc", "_law_best", "_law_middle", "_law_total"] ["_law_size", "_law_arcs_here"] (defScope s_law_table) := ⟨rfl, rfl, rfl, by decide +kernel, rfl, by decide +kernel, by decide +kernel⟩
theorem sc_law_all_worlds : FnScope ["_law_size", "_law_rules_here", "_law_table_here", "_law_found", "_law_node", "_law_longer", "_law_partial", "_law_level"] ["_law_size", "_law_rules_here"] (defScope s_law_all_worlds) := ⟨rfl, rfl, rfl, by decide +kernel, rfl, by decide +kernel, by decide +kernel⟩
theorem sc_law_lists : FnScope ["_law_source_here", "_law_size", "_law_base", "_law_rules_here", "_law_reach", "_law_rows", "_law_level", "_law_rule_here", "_law_gap", "_law_row", "_law_node", "_law_again", "_law_moved"] ["_law_source_here", "_law_size", "_law_base", "_law_rules_here", "_law_reach"] (defScope s_law_lists) := ⟨rfl, rfl, rfl, by decide +kernel, rfl, by decide +kernel, by decide +kernel⟩
theorem sc_law_more_rules : FnScope ["_law_source_here", "_law_size", "_law_base", "_law_reach", "_law_found", "_law_turn", "_law_first", "_law_second"] ["_law_source_here", "_law_size", "_law_base", "_law_reach"] (defScope s_law_more_rules) := ⟨rfl, rfl, rfl, by decide +kernel, rfl, by decide +kernel, by decide +kernel⟩
theorem sc_law_asked : FnScope ["_law_frame", "_law_size", "_law_rules_here", "_law_rows", "_law_row", "_law_passed", "_law_actual", "_law_due", "_law_again"] ["_law_frame", "_law_size", "_law_rules_here", "_law_rows"] (defScope s_law_asked) := ⟨rfl, rfl, rfl, by decide +kernel, rfl, by decide +kernel, by decide +kernel⟩
theorem sc_law : FnScope ["_law_script", "_law_head", "_law_sizes", "_law_far", "_law_reach", "_law_one", "_law_two", "_law_passed", "_law_first", "_law_second", "_law_side", "_law_lists_here", "_law_others"] ["_law_script"] (defScope s_law) := ⟨rfl, rfl, rfl, by decide +kernel, rfl, by decide +kernel, by decide +kernel⟩
/-! ### defs with a table of their own -/
/-- the rule for a def whose code object is known -/
theorem ok_code {P : Program} {w : World} {K : PySem.W.Frag} {mg : Str → Option Value} {base : Heap} {x qual : Str} {params : Arguments} {body : List Stmt} {scope : Scope} {dvs : List V} {kws : List (Str × V)} {f : Addr} {fd : FuncData} {CX : CXT} {N ps : List Str} {k : Nat} {sp : Sp} {c : Addr} (F : FunD K x qual params body scope dvs kws f fd) (hc : fd.code = .ref c) (S : FnScope N ps scope) (len : ∀ vs H Q E, sp vs H Q E → vs.length = ps.length)
    (hbody : ∀ (A : Around) (outer : List Env) (s : Shared) (H : Hp) (vs : List V) (Q : VK) (E : XK), Room k (A.deeper (PyProof.Rows.envOfC qual scope s.heap.objs.size f (.ref c))) → sp vs H Q E →
      ∃ t, PSs (cxOf CX P w K mg base N qual scope f (.ref c) A outer s H E) body t ∧ t { nx := fun _ H' => Q .non H', rt := Q } (start N vs) H) : FnOk P w K mg base CX (k + 1) f fd ps sp := by
  obtain ⟨oc, od, dV, kV, doc, pm, an, cdv, ct, osl, rfl, lk, hcd, _, _⟩ := F.ex
  have e : cdv = .ref c := hc
  subst e
  exact fn_of lk hcd S len fun A outer s H vs Q E hr h => hbody A outer s H vs Q E hr h
theorem no_free {l : List (Str × NameKind)} {cells : List (Str × Addr)} (h : (l.all fun y => match y.2 with | .free => false | _ => true) = true) : ∀ y ∈ l, y.2 = .free → ∃ c, cells.lookup y.1 = some c := fun y hy e => by
  have q := List.all_eq_true.mp h y hy
  rw [e] at q
  cases q
theorem some_free {l : List (Str × NameKind)} {cells : List (Str × Addr)} (h : (l.all fun y => match y.2 with | .free => (cells.lookup y.1).isSome | _ => true) = true) : ∀ y ∈ l, y.2 = .free → ∃ c, cells.lookup y.1 = some c := fun y hy e => by
  have q := List.all_eq_true.mp h y hy
  rw [e] at q
  exact Option.isSome_iff_exists.mp q
theorem TabG.same {H H' : Hp} {T : Addr} (h : TabG H T) (e : Same H H') : TabG H' T := by
  obtain ⟨ps, a, b⟩ := h
  exact ⟨ps, e _ _ a, b⟩
theorem TabG.ne {H : Hp} {T a : Addr} {xs : List V} (h : TabG H T) (e : H a = some (.lst xs)) : a ≠ T := fun z => by
  obtain ⟨ps, q, _⟩ := h
  rw [z, q] at e; cases e
theorem TabG.but {H H' : Hp} {T s : Addr} (h : TabG H T) (b : But s H H') (hs : Src H s) : TabG H' T := by
  obtain ⟨ps, a, z⟩ := h
  obtain ⟨c, p, e⟩ := hs
  exact ⟨ps, b _ _ (fun y => by rw [y, e] at a; cases a) a, z⟩
theorem TabG.set {H : Hp} {T l : Addr} {o : HO} {xs : List V} (h : TabG H T) (e : H l = some (.lst xs)) : TabG (L2.upd H l o) T := by
  have n := TabG.ne h e
  obtain ⟨ps, a, z⟩ := h
  exact ⟨ps, by rw [upd_ne n.symm]; exact a, z⟩
theorem tabbed_but {T : Addr} {H H' : Hp} (h : Tabbed T H H') : But T H H' := fun b o n e => by rw [h.2 b n]; exact e
theorem sql_off {K : PySem.W.Frag} {H : Hp} {T a : Addr} {xs : List V} (h : SqL K H a xs) (t : TabG H T) : SqL K (wo [T] H) a xs := by
  obtain ⟨ps, e, _⟩ := t
  rcases h with (h | ⟨o, h⟩) | h
  · exact .inl (.inl (by rw [wo_out (by simp only [List.mem_singleton]; intro z; rw [z, e] at h; cases h)]; exact h))
  · exact .inl (.inr ⟨o, by rw [wo_out (by simp only [List.mem_singleton]; intro z; rw [z, e] at h; cases h)]; exact h⟩)
  · exact .inr h
theorem sqt_off {K : PySem.W.Frag} {H : Hp} {T a : Addr} {xs : List V} (h : SqT K H a xs) (t : TabG H T) : SqT K (wo [T] H) a xs := by
  obtain ⟨ps, e, _⟩ := t
  rcases h with (h | ⟨o, h⟩) | h
  · exact .inl (.inl (by rw [wo_out (by simp only [List.mem_singleton]; intro z; rw [z, e] at h; cases h)]; exact h))
  · exact .inl (.inr ⟨o, by rw [wo_out (by simp only [List.mem_singleton]; intro z; rw [z, e] at h; cases h)]; exact h⟩)
  · exact .inr h
theorem sql_but {K : PySem.W.Frag} {H H' : Hp} {T a : Addr} {xs : List V} (h : SqL K H a xs) (t : TabG H T) (b : But T H H') : SqL K H' a xs := (wo_same [T] H').seq ((b.wo (by simp)).seq (sql_off h t))
theorem sqt_but {K : PySem.W.Frag} {H H' : Hp} {T a : Addr} {xs : List V} (h : SqT K H a xs) (t : TabG H T) (b : But T H H') : SqT K H' a xs := SqT.keep (SqT.keep (sqt_off h t) (b.wo (by simp))) (wo_same [T] H')
theorem sqa_but {K : PySem.W.Frag} {H H' : Hp} {T a : Addr} {xs : List V} (h : SqA K H a xs) (t : TabG H T) (b : But T H H') : SqA K H' a xs := h.elim (fun h => .inl (sql_but h t b)) (fun h => .inr (sqt_but h t b))
/-- a loop over n turns of anything -/
theorem for_any {J : It} {n : Nat} {g : TG} {tb : TS} {D : Ends} {σ : L2.St} {H : Hp} (Pv : Nat → L2.St → Hp → Prop) (h0 : Pv 0 σ H) (hgo : ∀ i σ H, i < n → Pv i σ H → J.go i H) (hst : ∀ σ H, Pv n σ H → J.stop n H)
    (hs : ∀ i x σ H H', i < n → Pv i σ H → J.yld i H x H' → g x σ H' fun σ2 H2 => tb { D with nx := Pv (i + 1), ct := Pv (i + 1), bk := D.nx } σ2 H2) (hd : ∀ σ H, Pv n σ H → D.nx σ H) :
    ∃ W : Nat → Nat → L2.St → Hp → Prop, (∃ m, W 0 m σ H) ∧ ∀ i m σ H, W i m σ H → (J.stop i H ∧ D.nx σ H) ∨ (J.go i H ∧ ∃ N : L2.St → Hp → Prop, (∀ σ' H', N σ' H' → ∃ m', m' < m ∧ W (i + 1) m' σ' H') ∧ ∀ x H', J.yld i H x H' → g x σ H' fun σ2 H2 => tb { D with nx := N, ct := N, bk := D.nx } σ2 H2) := by
  refine ⟨fun i m σ H => m = n - i ∧ i ≤ n ∧ Pv i σ H, ⟨n, rfl, Nat.zero_le _, h0⟩, ?_⟩
  rintro i m σ H ⟨rfl, hi, p⟩
  by_cases hl : i < n
  · exact .inr ⟨hgo i σ H hl p, Pv (i + 1), fun σ' H' q => ⟨n - (i + 1), by omega, rfl, hl, q⟩, fun x H' y => hs i x σ H H' hl p y⟩
  · obtain rfl : i = n := by omega
    exact .inl ⟨hst σ H p, hd σ H p⟩
/-- a list or a tuple, walked -/
theorem or_iter {K : PySem.W.Frag} {i : Nat} {σ : L2.St} {H0 H : Hp} {a : Addr} {xs : List V} {R : It → Hp → Prop} (e : σ[i]? = some (some (.ref a))) (h0 : SqA K H0 a xs) (s : Same H0 H)
    (k : ∀ J : It, (∀ j H1, Same H0 H1 → j < xs.length → J.go j H1) → (∀ H1, Same H0 H1 → J.stop xs.length H1) → (∀ j H1 x H2, Same H0 H1 → J.yld j H1 x H2 → H2 = H1 ∧ xs[j]? = some x) → R J H) : iList K (tVar i) σ H R ∨ iTup K (tVar i) σ H R := by
  rcases h0 with h | h
  · exact .inl ⟨_, e, a, rfl, ⟨_, s.seq h⟩, k _ (fun j H1 q hj => ⟨xs, xs[j], q.seq h, List.getElem?_eq_getElem hj⟩) (fun H1 q => ⟨xs, q.seq h, Nat.le_refl _⟩) fun j H1 x H2 q y => ⟨y.1, y.2 xs (q.seq h)⟩⟩
  · exact .inr ⟨_, e, a, rfl, ⟨_, SqT.keep h s⟩, k _ (fun j H1 q hj => ⟨xs, xs[j], SqT.keep h q, List.getElem?_eq_getElem hj⟩) (fun H1 q => ⟨xs, SqT.keep h q, Nat.le_refl _⟩) fun j H1 x H2 q y => ⟨y.1, y.2 xs (SqT.keep h q)⟩⟩
theorem call_max3i {X : Cx} (hc : X.calm = true) : CallR X (.builtin "max") (fun xs H Q => ∃ i j l, xs = [.int i, .int j, .int l] ∧ Q (.int (if j > i then (if l > j then l else j) else (if l > i then l else i))) H) := by
  intro pins s σ H xs us Q I r h
  obtain ⟨i, j, l, rfl, q⟩ := h
  obtain ⟨u, v, z, rfl, ⟨t1, rfl⟩, ⟨t2, rfl⟩, ⟨t3, rfl⟩⟩ : ∃ u v z, us = [u, v, z] ∧ RelV (.int i) u ∧ RelV (.int j) v ∧ RelV (.int l) z := by
    cases r with
    | cons r1 r => cases r with
      | cons r2 r => cases r with
        | cons r3 r => cases r; exact ⟨_, _, _, rfl, r1, r2, r3⟩
  refine max_three_ints (I.ok.hd hc) fun h' tk k => ⟨_, H, I.kept k, ?_, q⟩
  by_cases u1 : j > i <;> by_cases u2 : l > j <;> by_cases u3 : l > i <;> simp only [u1, u2, u3, if_true, if_false] <;> exact ⟨_, rfl⟩

def ns_Frame : List Str := ["size", "rules", "_table"]
theorem nd_Frame : ns_Frame.Nodup := by decide +kernel
/-! ### what the defs promise -/
abbrev R4 := Int × Int × Int × Int
def dR (r : R4) : Dt := .tup [.int r.1, .int r.2.1, .int r.2.2.1, .int r.2.2.2]
def isR (n : Int) (r : R4) : Bool := (decide (0 ≤ r.1) && decide (r.1 < n)) && ((decide (0 ≤ r.2.1) && decide (r.2.1 < n)) && ((!decide (r.1 = r.2.1)) && decide (r.2.2.1 ≤ r.2.2.2)))
def cIsRule : Ct := fun ls Q => ∃ (n : Int) (r : R4), ls = [.sh (.int n), .sh (dR r)] ∧ Q (.sh (.bl (isR n r)))
/-- each node has a rule to an earlier one -/
def Spans (n : Nat) (rs : List R4) : Prop := ∀ k, 1 ≤ k → k < n → ∃ r, r ∈ rs ∧ ∃ j, j < k ∧ ((r.1 = (j : Int) ∧ r.2.1 = (k : Int)) ∨ (r.1 = (k : Int) ∧ r.2.1 = (j : Int)))
def Good (n : Nat) (rs : List R4) : Prop := 1 ≤ n ∧ n ≤ 16 ∧ rs.length ≤ 60 ∧ (∀ r, r ∈ rs → isR n r = true) ∧ Spans n rs
def SatW (rs : List R4) (w : Nat → Int) : Prop := ∀ r, r ∈ rs → r.2.2.1 ≤ w r.2.1.toNat - w r.1.toNat ∧ w r.2.1.toNat - w r.1.toNat ≤ r.2.2.2
def cConn : Ct := fun ls Q => ∃ (n : Nat) (rs : List R4), ls = [.sh (.int (n : Int)), .sh (.tup (rs.map dR))] ∧ Good n rs ∧ Q (.sh (.bl true))
def tblD (n : Nat) (T : Nat → Nat → Int) : List Dt := (List.range n).map fun i => Dt.lst ((List.range n).map fun j => Dt.int (T i j))
def Sound (n : Nat) (rs : List R4) (T : Nat → Nat → Int) : Prop := ∀ w, SatW rs w → ∀ i j, i < n → j < n → w j - w i ≤ T i j
def cGreat : Ct := fun ls Q => ∃ (n : Nat) (rs : List R4), ls = [.sh (.int (n : Int)), .sh (.tup (rs.map dR))] ∧ Good n rs ∧ ∀ T, Sound n rs T → Q (.ow (tblD n T))
def dFrame (C : Addr) (n : Nat) (rs : List R4) (tb : Dt) : Dt := .ins C ns_Frame [.int (n : Int), .tup (rs.map dR), tb]
def SeqR (d : Dt) (rs : List R4) : Prop := d = .lst (rs.map dR) ∨ d = .tup (rs.map dR)
def cFrame : CtI := fun ls Q => ∃ (n : Nat) (rs : List R4) (q : Dt), ls = [.sh (.int (n : Int)), .sh q] ∧ (SeqR q rs ∧ Good n rs ∧ ∃ w, SatW rs w) ∧ ∀ T, Sound n rs T → Q ns_Frame [.int (n : Int), .tup (rs.map dR), .lst (tblD n T)]
def keepsB (rs : List R4) (w : List Int) : Bool := rs.all fun r => decide (r.2.2.1 ≤ w.getD r.2.1.toNat 0 - w.getD r.1.toNat 0) && decide (w.getD r.2.1.toNat 0 - w.getD r.1.toNat 0 ≤ r.2.2.2)
def allowsB (n : Nat) (rs : List R4) (w : List Int) : Bool := decide (w.length = n) && (decide (w.getD 0 0 = 0) && keepsB rs w)
def cAllows (C : Addr) : Ct := fun ls Q => ∃ (n : Nat) (rs : List R4) (tb d : Dt) (w : List Int), ls = [.sh (dFrame C n rs tb), .sh d] ∧ (d = .lst (w.map Dt.int) ∨ d = .tup (w.map Dt.int)) ∧ (1 ≤ n ∧ ∀ r, r ∈ rs → isR n r = true) ∧ Q (.sh (.bl (allowsB n rs w)))

/-- a rule between two nodes of a list of levels, that these levels keep -/
def Fits (base : List Int) (f s reach : Int) (r : R4) : Prop := ((r.1 = f ∧ r.2.1 = s) ∨ (r.1 = s ∧ r.2.1 = f)) ∧ r.2.2.1 ≤ base.getD r.2.1.toNat 0 - base.getD r.1.toNat 0 ∧ base.getD r.2.1.toNat 0 - base.getD r.1.toNat 0 ≤ r.2.2.2 ∧ r.2.2.2 - r.2.2.1 ≤ reach
def cRule : Ct := fun ls Q => ∃ (base : List Int) (f s reach : Int), ls = [.src, .sh (.lst (base.map Dt.int)), .sh (.int f), .sh (.int s), .sh (.int reach)] ∧ ((0 ≤ f ∧ f < (base.length : Int)) ∧ (0 ≤ s ∧ s < (base.length : Int)) ∧ 0 ≤ reach ∧ reach ≤ 1000000000) ∧ ∀ r, Fits base f s reach r → Q (.sh (dR r))
/-! ### what the laws' helpers for frames promise -/
def dLI (w : List Int) : Dt := .lst (w.map Dt.int)
def wAt (w : List Int) (i : Int) : Int := w.getD i.toNat 0
def KeepsR (reach : Int) (w : List Int) (r : R4) : Prop := r.2.2.1 ≤ wAt w r.2.1 - wAt w r.1 ∧ wAt w r.2.1 - wAt w r.1 ≤ r.2.2.2 ∧ r.2.2.2 - r.2.2.1 ≤ reach
structure OkRules (n : Nat) (reach : Int) (base : List Int) (rs : List R4) : Prop where
  len : base.length = n
  zero : base.getD 0 0 = 0
  bnd : ∀ i : Nat, i < n → -(2 ^ 40) ≤ base.getD i 0 ∧ base.getD i 0 ≤ 2 ^ 40
  num : rs.length ≤ 60
  ok : ∀ r, r ∈ rs → isR (n : Int) r = true
  sp : Spans n rs
  fit : ∀ r, r ∈ rs → KeepsR reach base r
def cRules : Ct := fun ls Q => ∃ (n : Nat) (reach far : Int), ls = [.src, .sh (.int (n : Int)), .sh (.int reach), .sh (.int far)] ∧ ((1 ≤ n ∧ n ≤ 16) ∧ (0 ≤ reach ∧ reach ≤ 1000000000) ∧ 0 ≤ far ∧ far ≤ 100000000) ∧ ∀ base rs, OkRules n reach base rs → rs.length ≤ n → Q (.ow [dLI base, .lst (rs.map dR)])
def keep1P (w : List Int) (r : R4) : Bool := if r.1 < (w.length : Int) ∧ r.2.1 < (w.length : Int) then decide (r.2.2.1 ≤ wAt w r.2.1 - wAt w r.1) && decide (wAt w r.2.1 - wAt w r.1 ≤ r.2.2.2) else true
def keepsP (rs : List R4) (w : List Int) : Bool := rs.all (keep1P w)
def cKeeps : Ct := fun ls Q => ∃ (w : List Int) (rs : List R4), ls = [.sh (dLI w), .sh (.lst (rs.map dR))] ∧ (∀ r, r ∈ rs → 0 ≤ r.1 ∧ 0 ≤ r.2.1) ∧ Q (.sh (.bl (keepsP rs w)))
/-! ### tables of greatest differences: folds -/
abbrev TabO := Nat → Nat → Option Int
abbrev Arc := Int × Int × Int
def put2 (T : TabO) (a b : Nat) (v : Int) : TabO := fun i j => if i = a ∧ j = b then some v else T i j
def low2 (T : TabO) (a b : Nat) (v : Int) : TabO := match T a b with
  | none => put2 T a b v
  | some x => if v < x then put2 T a b v else T
def tab0 : TabO := fun i j => if i = j then some 0 else none
def arcT (T : TabO) (a : Arc) : TabO := low2 T a.1.toNat a.2.1.toNat a.2.2
def arcsT (as : List Arc) : TabO := as.foldl arcT tab0
def rlx (m i : Nat) (T : TabO) (j : Nat) : TabO := match T i m, T m j with
  | some x, some y => low2 T i j (x + y)
  | _, _ => T
def rlxRow (n m : Nat) (T : TabO) (i : Nat) : TabO := (List.range n).foldl (rlx m i) T
def rlxAll (n : Nat) (T : TabO) (m : Nat) : TabO := (List.range n).foldl (rlxRow n m) T
def fw (n : Nat) (T : TabO) : TabO := (List.range n).foldl (rlxAll n) T
def lawT (n : Nat) (as : List Arc) : TabO := fw n (arcsT as)
def LeO (T' T : TabO) : Prop := ∀ i j x, T i j = some x → ∃ y, T' i j = some y ∧ y ≤ x
theorem LeO.refl (T : TabO) : LeO T T := fun _ _ x h => ⟨x, h, Int.le_refl _⟩
theorem LeO.trans {T T' T'' : TabO} (h : LeO T'' T') (g : LeO T' T) : LeO T'' T := fun i j x e => by
  obtain ⟨y, e1, l1⟩ := g i j x e
  obtain ⟨z, e2, l2⟩ := h i j y e1
  exact ⟨z, e2, by omega⟩
theorem low2_eq (T : TabO) (a b : Nat) (v : Int) : low2 T a b v = put2 T a b v ∧ (∀ x, T a b = some x → v < x) ∨ low2 T a b v = T ∧ ∃ x, T a b = some x ∧ x ≤ v := by
  unfold low2
  cases h : T a b with
  | none => exact .inl ⟨rfl, fun x e => nomatch e⟩
  | some x =>
    dsimp only
    by_cases q : v < x
    · rw [if_pos q]; exact .inl ⟨rfl, fun y e => by cases e; exact q⟩
    · rw [if_neg q]; exact .inr ⟨rfl, x, rfl, by omega⟩
theorem low2_le (T : TabO) (a b : Nat) (v : Int) : LeO (low2 T a b v) T := fun i j x e => by
  rcases low2_eq T a b v with ⟨h, g⟩ | ⟨h, _⟩
  · rw [h]
    unfold put2
    by_cases q : i = a ∧ j = b
    · rw [if_pos q]
      rw [q.1, q.2] at e
      exact ⟨v, rfl, by have := g x e; omega⟩
    · rw [if_neg q]; exact ⟨x, e, Int.le_refl _⟩
  · rw [h]; exact ⟨x, e, Int.le_refl _⟩
theorem low2_at (T : TabO) (a b : Nat) (v : Int) : ∃ y, low2 T a b v a b = some y ∧ y ≤ v := by
  rcases low2_eq T a b v with ⟨h, g⟩ | ⟨h, x, e, l⟩
  · rw [h]; exact ⟨v, if_pos ⟨rfl, rfl⟩, Int.le_refl _⟩
  · rw [h]; exact ⟨x, e, l⟩
theorem rlx_le (m i : Nat) (T : TabO) (j : Nat) : LeO (rlx m i T j) T := by
  unfold rlx
  split
  · exact low2_le _ _ _ _
  · exact LeO.refl _
theorem fold_le {α : Type} {f : TabO → α → TabO} (h : ∀ T a, LeO (f T a) T) : ∀ (l : List α) (T : TabO), LeO (l.foldl f T) T
  | [], T => LeO.refl T
  | a :: l, T => (fold_le h l (f T a)).trans (h T a)
theorem rlxRow_le (n m : Nat) (T : TabO) (i : Nat) : LeO (rlxRow n m T i) T := fold_le (rlx_le m i) _ _
theorem rlxAll_le (n : Nat) (T : TabO) (m : Nat) : LeO (rlxAll n T m) T := fold_le (rlxRow_le n m) _ _
/-- what is reached at one turn stays -/
theorem fold_good {α : Type} {f : TabO → α → TabO} (h : ∀ T a, LeO (f T a) T) (G : TabO → Prop) (hG : ∀ T T', LeO T' T → G T → G T') {a : α} {T0 : TabO} (ha : ∀ T, LeO T T0 → G (f T a)) : ∀ (l : List α) (T : TabO), a ∈ l → LeO T T0 → G (l.foldl f T)
  | b :: l, T, m, le => by
    rcases List.mem_cons.mp m with rfl | m
    · exact hG _ _ (fold_le h l _) (ha T le)
    · exact fold_good h G hG ha l (f T b) m ((h T b).trans le)
def AtMost2 (i j : Nat) (v : Int) (T : TabO) : Prop := ∃ y, T i j = some y ∧ y ≤ v
theorem AtMost2.mono {i j : Nat} {v : Int} (T T' : TabO) (l : LeO T' T) (h : AtMost2 i j v T) : AtMost2 i j v T' := by
  obtain ⟨y, e, q⟩ := h
  obtain ⟨z, e2, q2⟩ := l i j y e
  exact ⟨z, e2, by omega⟩
theorem rlxAll_at {n m i j : Nat} {x y : Int} {T : TabO} (hi : i < n) (hj : j < n) (h1 : AtMost2 i m x T) (h2 : AtMost2 m j y T) : AtMost2 i j (x + y) (rlxAll n T m) := by
  refine fold_good (T0 := T) (rlxRow_le n m) _ AtMost2.mono (a := i) (fun T1 l1 => ?_) _ _ (List.mem_range.mpr hi) (LeO.refl _)
  refine fold_good (T0 := T1) (rlx_le m i) _ AtMost2.mono (a := j) (fun T2 l2 => ?_) _ _ (List.mem_range.mpr hj) (LeO.refl _)
  obtain ⟨x', e1, q1⟩ := h1.mono _ _ (l2.trans l1)
  obtain ⟨y', e2, q2⟩ := h2.mono _ _ (l2.trans l1)
  unfold rlx
  rw [e1, e2]
  obtain ⟨z, e3, q3⟩ := low2_at T2 i j (x' + y')
  exact ⟨z, e3, by omega⟩
/-! what no world leaves stays true -/
def SndO (w : Nat → Int) (T : TabO) : Prop := ∀ i j x, T i j = some x → w j - w i ≤ x
theorem low2_snd {w : Nat → Int} {T : TabO} {a b : Nat} {v : Int} (h : SndO w T) (hv : w b - w a ≤ v) : SndO w (low2 T a b v) := by
  have p : SndO w (put2 T a b v) := fun i j x e => by
    unfold put2 at e
    split at e
    · rename_i q
      cases e
      rw [q.1, q.2]; exact hv
    · exact h i j x e
  unfold low2
  split
  · exact p
  · split
    · exact p
    · exact h
theorem rlx_snd {w : Nat → Int} {m i : Nat} (T : TabO) (j : Nat) (h : SndO w T) : SndO w (rlx m i T j) := by
  unfold rlx
  split
  · rename_i x y e1 e2
    have := h _ _ _ e1
    have := h _ _ _ e2
    exact low2_snd h (by omega)
  · exact h
theorem fold_inv {α : Type} {f : TabO → α → TabO} {P : TabO → Prop} : ∀ (l : List α) (T : TabO), (∀ T a, a ∈ l → P T → P (f T a)) → P T → P (l.foldl f T)
  | [], _, _, h => h
  | a :: l, T, hf, h => fold_inv l (f T a) (fun T b m => hf T b (List.mem_cons_of_mem _ m)) (hf T a List.mem_cons_self h)
theorem rlxRow_snd {w : Nat → Int} {n m : Nat} (T : TabO) (i : Nat) (h : SndO w T) : SndO w (rlxRow n m T i) := fold_inv _ _ (fun T j _ h => rlx_snd T j h) h
theorem rlxAll_snd {w : Nat → Int} {n : Nat} (T : TabO) (m : Nat) (h : SndO w T) : SndO w (rlxAll n T m) := fold_inv _ _ (fun T i _ h => rlxRow_snd T i h) h
theorem fw_snd {w : Nat → Int} {n : Nat} {T : TabO} (h : SndO w T) : SndO w (fw n T) := fold_inv _ _ (fun T m _ h => rlxAll_snd T m h) h
theorem tab0_snd (w : Nat → Int) : SndO w tab0 := fun i j x e => by
  unfold tab0 at e
  split at e
  · rename_i q
    cases e
    rw [q]; omega
  · cases e
theorem arcsT_snd {w : Nat → Int} {as : List Arc} (h : ∀ a, a ∈ as → w a.2.1.toNat - w a.1.toNat ≤ a.2.2) : SndO w (arcsT as) := fold_inv _ _ (fun _ a m q => low2_snd q (h a m)) (tab0_snd w)
theorem arcsT_at {as : List Arc} {a : Arc} (m : a ∈ as) : AtMost2 a.1.toNat a.2.1.toNat a.2.2 (arcsT as) := fold_good (f := arcT) (T0 := tab0) (fun T a => low2_le T _ _ _) (AtMost2 a.1.toNat a.2.1.toNat a.2.2) AtMost2.mono (fun T _ => low2_at T _ _ _) _ _ m (LeO.refl _)
theorem arcsT_diag (as : List Arc) (i : Nat) : AtMost2 i i 0 (arcsT as) := AtMost2.mono _ _ (fold_le (f := arcT) (fun T a => low2_le T _ _ _) as tab0) ⟨0, if_pos rfl, Int.le_refl _⟩
/-- along a tree whose nodes come behind the nodes they hang on -/
theorem fw_tree {n : Nat} {T : TabO} (up dn : Nat → Int) (h0 : AtMost2 0 0 0 T) (u0 : up 0 = 0) (d0 : dn 0 = 0) (h : ∀ a, 1 ≤ a → a < n → ∃ p, p < a ∧ AtMost2 p a (up a - up p) T ∧ AtMost2 a p (dn a - dn p) T) :
    ∀ a, a < n → AtMost2 0 a (up a) (fw n T) ∧ AtMost2 a 0 (dn a) (fw n T) := by
  have pre : ∀ t, t ≤ n → LeO ((List.range t).foldl (rlxAll n) T) T := fun t _ => fold_le (rlxAll_le n) _ _
  have key : ∀ a, a < n → ∀ t, a ≤ t → t ≤ n → AtMost2 0 a (up a) ((List.range t).foldl (rlxAll n) T) ∧ AtMost2 a 0 (dn a) ((List.range t).foldl (rlxAll n) T) := fun a => by
    induction a using Nat.strongRecOn with
    | _ a ih =>
      intro ha t hat htn
      rcases Nat.eq_zero_or_pos a with rfl | pos
      · rw [u0, d0]
        exact ⟨h0.mono _ _ (pre t htn), h0.mono _ _ (pre t htn)⟩
      · induction t with
        | zero => omega
        | succ t iht =>
          rw [List.range_succ, List.foldl_append]
          by_cases e : a ≤ t
          · obtain ⟨q1, q2⟩ := iht e (by omega)
            exact ⟨q1.mono _ _ (rlxAll_le n _ t), q2.mono _ _ (rlxAll_le n _ t)⟩
          · obtain ⟨p, hp, a1, a2⟩ := h a pos ha
            -- the turn of p lies behind
            have at1 : ∀ s, p < s → s ≤ n → AtMost2 0 a (up a) ((List.range s).foldl (rlxAll n) T) ∧ AtMost2 a 0 (dn a) ((List.range s).foldl (rlxAll n) T) := fun s => by
              induction s with
              | zero => intro h _; omega
              | succ s ihs =>
                intro h1 h2
                rw [List.range_succ, List.foldl_append]
                by_cases e : p < s
                · obtain ⟨q1, q2⟩ := ihs e (by omega)
                  exact ⟨q1.mono _ _ (rlxAll_le n _ s), q2.mono _ _ (rlxAll_le n _ s)⟩
                · have es : s = p := by omega
                  subst es
                  obtain ⟨q1, q2⟩ := ih s hp (by omega) s (Nat.le_refl _) (by omega)
                  have r1 := rlxAll_at (n := n) (m := s) (i := 0) (j := a) (by omega) ha q1 (a1.mono _ _ (pre s (by omega)))
                  have r2 := rlxAll_at (n := n) (m := s) (i := a) (j := 0) ha (by omega) (a2.mono _ _ (pre s (by omega))) q2
                  rw [show up s + (up a - up s) = up a by omega] at r1
                  rw [show dn a - dn s + dn s = dn a by omega] at r2
                  exact ⟨r1, r2⟩
            have := at1 (t + 1) (by omega) htn
            rw [List.range_succ, List.foldl_append] at this
            exact this
  exact fun a ha => key a ha n (by omega) (Nat.le_refl _)

def dO : Option Int → Dt
  | none => .non
  | some i => .int i
abbrev RowO := Int × Int × Option Int × Option Int
def dRow (r : RowO) : Dt := .tup [.int r.1, .int r.2.1, dO r.2.2.1, dO r.2.2.2]
def dArc (a : Arc) : Dt := .tup [.int a.1, .int a.2.1, .int a.2.2]
def arcsH (r : RowO) : List Arc := match r.2.2.2 with | some h => [(r.1, r.2.1, h)] | none => []
def arcsL (r : RowO) : List Arc := match r.2.2.1 with | some l => [(r.2.1, r.1, 0 - l)] | none => []
def arcs2 (r : RowO) : List Arc := arcsH r ++ arcsL r
def cArcs : Ct := fun ls Q => ∃ (rs : List RowO), ls = [.sh (.lst (rs.map dRow))] ∧ rs.length ≤ 40000 ∧ Q (.ow ((rs.flatMap arcs2).map dArc))
def tblO (n : Nat) (T : TabO) : Dt := .lst ((List.range n).map fun i => .lst ((List.range n).map fun j => dO (T i j)))
def cTable : Ct := fun ls Q => ∃ (n : Nat) (as : List Arc), ls = [.sh (.int (n : Int)), .sh (.lst (as.map dArc))] ∧ (n < 100000 ∧ ∀ a, a ∈ as → (0 ≤ a.1 ∧ a.1 < (n : Int)) ∧ 0 ≤ a.2.1 ∧ a.2.1 < (n : Int)) ∧ ∀ t : Tr, t.dat = tblO n (lawT n as) → Q (.tr t)
def rowOf (r : R4) : RowO := (r.1, r.2.1, some r.2.2.1, some r.2.2.2)
theorem dR_row (r : R4) : dR r = dRow (rowOf r) := rfl
theorem map_dR (rs : List R4) : rs.map dR = (rs.map rowOf).map dRow := by rw [List.map_map]; rfl

def cAll : Ct := fun ls Q => ∃ (n : Nat) (base : List Int) (rs : List R4), ls = [.sh (.int (n : Int)), .sh (.lst (rs.map dR))] ∧ (OkRules n 3 base rs ∧ 1 ≤ n ∧ n < 5) ∧ ∀ ws : List (List Int), ws.length ≤ 1000 → Q (.sh (.lst (ws.map dLI)))
def cLists : Ct := fun ls Q => ∃ (n : Nat) (base : List Int) (rs : List R4) (reach : Int), ls = [.src, .sh (.int (n : Int)), .sh (dLI base), .sh (.lst (rs.map dR)), .sh (.int reach)] ∧ (OkRules n reach base rs ∧ 1 ≤ n ∧ n ≤ 16) ∧ ∀ ws : List (List Int), Q (.ow (ws.map dLI))
def cMore : Ct := fun ls Q => ∃ (n : Nat) (base : List Int) (reach : Int), ls = [.src, .sh (.int (n : Int)), .sh (dLI base), .sh (.int reach)] ∧ (base.length = n ∧ 2 ≤ n ∧ n ≤ 16 ∧ 0 ≤ reach ∧ reach ≤ 1000000000) ∧ ∀ rs : List R4, (rs.length ≤ 44 ∧ ∀ r, r ∈ rs → isR (n : Int) r = true ∧ KeepsR reach base r) → Q (.ow (rs.map dR))
def cAsked (C : Addr) : Ct := fun ls Q => ∃ (n : Nat) (rs : List R4) (tb : Dt) (ws : List (List Int)), ls = [.sh (dFrame C n rs tb), .sh (.int (n : Int)), .sh (.lst (rs.map dR)), .sh (.lst (ws.map dLI))] ∧ (1 ≤ n ∧ rs.length ≤ 60 ∧ ∀ r, r ∈ rs → isR (n : Int) r = true) ∧ Q (.sh (.bl true))

structure Txt (P : Program) (K : PySem.W.Frag) (mg : Str → Option Value) where
  a_FrameI__initI : Addr
  d_FrameI__initI : FuncData
  F_FrameI__initI : FunD K "__init__" "Frame.__init__" (defArgs s_FrameI__initI) (defBody s_FrameI__initI) (defScope s_FrameI__initI) [] [] a_FrameI__initI d_FrameI__initI
  b_FrameI__initI : Binds K d_FrameI__initI ["self", "size", "rules"] []
  c_FrameI__initI : Addr
  P_FrameI__initI : Addr
  hc_FrameI__initI : d_FrameI__initI.code = .ref c_FrameI__initI
  a_Frame_allows : Addr
  d_Frame_allows : FuncData
  F_Frame_allows : FunD K "allows" "Frame.allows" (defArgs s_Frame_allows) (defBody s_Frame_allows) (defScope s_Frame_allows) [] [] a_Frame_allows d_Frame_allows
  b_Frame_allows : Binds K d_Frame_allows ["self", "levels"] []
  c_Frame_allows : Addr
  P_Frame_allows : Addr
  hc_Frame_allows : d_Frame_allows.code = .ref c_Frame_allows
  a_is_rule : Addr
  d_is_rule : FuncData
  F_is_rule : Fun K "_is_rule" "_is_rule" s_is_rule a_is_rule d_is_rule
  b_is_rule : Binds K d_is_rule ["size", "rule"] []
  m_is_rule : mg "_is_rule" = some (.ref a_is_rule)
  a_is_connected : Addr
  d_is_connected : FuncData
  F_is_connected : Fun K "is_connected" "is_connected" s_is_connected a_is_connected d_is_connected
  b_is_connected : Binds K d_is_connected ["size", "rules"] []
  m_is_connected : mg "is_connected" = some (.ref a_is_connected)
  a_greatest_differences : Addr
  d_greatest_differences : FuncData
  F_greatest_differences : FunD K "_greatest_differences" "_greatest_differences" (defArgs s_greatest_differences) (defBody s_greatest_differences) (defScope s_greatest_differences) [] [] a_greatest_differences d_greatest_differences
  b_greatest_differences : Binds K d_greatest_differences ["size", "rules"] []
  c_greatest_differences : Addr
  P_greatest_differences : Addr
  hc_greatest_differences : d_greatest_differences.code = .ref c_greatest_differences
  m_greatest_differences : mg "_greatest_differences" = some (.ref a_greatest_differences)
  a_law_source : Addr
  d_law_source : FuncData
  F_law_source : Fun K "_law_source" "_law_source" s_law_source a_law_source d_law_source
  b_law_source : Binds K d_law_source ["_law_script", "_law_place"] []
  m_law_source : mg "_law_source" = some (.ref a_law_source)
  a_law_draw : Addr
  d_law_draw : FuncData
  F_law_draw : Fun K "_law_draw" "_law_draw" s_law_draw a_law_draw d_law_draw
  b_law_draw : Binds K d_law_draw ["_law_source_here", "_law_size"] []
  m_law_draw : mg "_law_draw" = some (.ref a_law_draw)
  a_law_between : Addr
  d_law_between : FuncData
  F_law_between : Fun K "_law_between" "_law_between" s_law_between a_law_between d_law_between
  b_law_between : Binds K d_law_between ["_law_source_here", "_law_least", "_law_most"] []
  m_law_between : mg "_law_between" = some (.ref a_law_between)
  a_law_rule : Addr
  d_law_rule : FuncData
  F_law_rule : Fun K "_law_rule" "_law_rule" s_law_rule a_law_rule d_law_rule
  b_law_rule : Binds K d_law_rule ["_law_source_here", "_law_base", "_law_first", "_law_second", "_law_reach"] []
  m_law_rule : mg "_law_rule" = some (.ref a_law_rule)
  a_law_rules : Addr
  d_law_rules : FuncData
  F_law_rules : Fun K "_law_rules" "_law_rules" s_law_rules a_law_rules d_law_rules
  b_law_rules : Binds K d_law_rules ["_law_source_here", "_law_size", "_law_reach", "_law_far"] []
  m_law_rules : mg "_law_rules" = some (.ref a_law_rules)
  a_law_keeps : Addr
  d_law_keeps : FuncData
  F_law_keeps : Fun K "_law_keeps" "_law_keeps" s_law_keeps a_law_keeps d_law_keeps
  b_law_keeps : Binds K d_law_keeps ["_law_levels", "_law_rules_here"] []
  m_law_keeps : mg "_law_keeps" = some (.ref a_law_keeps)
  a_law_arcs : Addr
  d_law_arcs : FuncData
  F_law_arcs : Fun K "_law_arcs" "_law_arcs" s_law_arcs a_law_arcs d_law_arcs
  b_law_arcs : Binds K d_law_arcs ["_law_rows"] []
  m_law_arcs : mg "_law_arcs" = some (.ref a_law_arcs)
  a_law_table : Addr
  d_law_table : FuncData
  F_law_table : Fun K "_law_table" "_law_table" s_law_table a_law_table d_law_table
  b_law_table : Binds K d_law_table ["_law_size", "_law_arcs_here"] []
  m_law_table : mg "_law_table" = some (.ref a_law_table)
  a_law_all_worlds : Addr
  d_law_all_worlds : FuncData
  F_law_all_worlds : Fun K "_law_all_worlds" "_law_all_worlds" s_law_all_worlds a_law_all_worlds d_law_all_worlds
  b_law_all_worlds : Binds K d_law_all_worlds ["_law_size", "_law_rules_here"] []
  m_law_all_worlds : mg "_law_all_worlds" = some (.ref a_law_all_worlds)
  a_law_lists : Addr
  d_law_lists : FuncData
  F_law_lists : Fun K "_law_lists" "_law_lists" s_law_lists a_law_lists d_law_lists
  b_law_lists : Binds K d_law_lists ["_law_source_here", "_law_size", "_law_base", "_law_rules_here", "_law_reach"] []
  m_law_lists : mg "_law_lists" = some (.ref a_law_lists)
  a_law_more_rules : Addr
  d_law_more_rules : FuncData
  F_law_more_rules : Fun K "_law_more_rules" "_law_more_rules" s_law_more_rules a_law_more_rules d_law_more_rules
  b_law_more_rules : Binds K d_law_more_rules ["_law_source_here", "_law_size", "_law_base", "_law_reach"] []
  m_law_more_rules : mg "_law_more_rules" = some (.ref a_law_more_rules)
  a_law_asked : Addr
  d_law_asked : FuncData
  F_law_asked : Fun K "_law_asked" "_law_asked" s_law_asked a_law_asked d_law_asked
  b_law_asked : Binds K d_law_asked ["_law_frame", "_law_size", "_law_rules_here", "_law_rows"] []
  m_law_asked : mg "_law_asked" = some (.ref a_law_asked)
  a_law : Addr
  d_law : FuncData
  F_law : Fun K "law" "law" s_law a_law d_law
  b_law : Binds K d_law ["_law_script"] []
  m_law : mg "law" = some (.ref a_law)
  C_Frame : Addr
  m_Frame : mg "Frame" = some (.ref C_Frame)
  cl_Frame : Cls K C_Frame
  mkc_Frame : PySem.W.makesIn K C_Frame = true
  kpc_Frame : PySem.W.keepIn K (.ref C_Frame) = true
  n_Frame_size : NoAttr K C_Frame "size"
  n_Frame_rules : NoAttr K C_Frame "rules"
  n_Frame__table : NoAttr K C_Frame "_table"
  mk_Frame : Mk K C_Frame a_FrameI__initI
  t_Frame_allows : Meth K C_Frame "allows" a_Frame_allows
  sf_Frame : PySem.W.selfFirst K C_Frame = true
  k_MOST_RULES : Gc.isI 60 (mg "MOST_RULES") = true
  k_MOST_NODES : Gc.isI 16 (mg "MOST_NODES") = true
  z_abs : mg "abs" = none
  z_all : mg "all" = none
  z_any : mg "any" = none
  z_bool : mg "bool" = none
  z_int : mg "int" = none
  z_isinstance : mg "isinstance" = none
  z_len : mg "len" = none
  z_list : mg "list" = none
  z_min : mg "min" = none
  z_range : mg "range" = none
  z_sum : mg "sum" = none
  z_tuple : mg "tuple" = none
  z_zip : mg "zip" = none
structure Tb {P : Program} {K : PySem.W.Frag} {mg : Str → Option Value} (T : Txt P K mg) (base : Heap) : Prop where
  tb_FrameI__initI : TabB base mg T.c_FrameI__initI T.P_FrameI__initI
  tb_Frame_allows : TabB base mg T.c_Frame_allows T.P_Frame_allows
  tb_greatest_differences : TabB base mg T.c_greatest_differences T.P_greatest_differences
def Txt.tb {P : Program} {K : PySem.W.Frag} {mg : Str → Option Value} (T : Txt P K mg) : Tbs := ⟨[T.P_FrameI__initI, T.P_Frame_allows, T.P_greatest_differences], []⟩
/-! ### help for the readings -/
theorem take_get {α : Type} {xs : List α} {i : Nat} {x : α} (h : xs[i]? = some x) : xs.take (i + 1) = xs.take i ++ [x] := by
  rw [List.take_add_one, h]; rfl
/-- [f x for x in xs if p x] -/
theorem lcE {α : Type} {own : List Nat} {src : DI} {tgt : DG} {tst : DTs} {elt : DE} {ρ1 : Ev} {Qd : Ev → Lo → Prop} (enc : α → Dt) (xs : List α) (p : α → Bool) (f : α → Dt) (h0 : nos own ρ1 = true) (hl : xs.length ≤ 100000) (hs : ∀ k : Ev → List Dt → Prop, k ρ1 (xs.map enc) → src ρ1 k)
    (h : ∀ x, x ∈ xs → ∀ (C : Dt → Prop) (N : Prop), (p x = true → C (f x)) → (p x = false → N) → tgt (enc x) ρ1 fun ρ2 => tst ρ2 fun ρ3 b => (b = true → elt ρ3 fun ρ4 l => ρ4 = ρ2 ∧ (match nrm l with | .sh d' => C d' | _ => False)) ∧ (b = false → ρ3 = ρ2 ∧ N))
    (k : Qd ρ1 (.ow ((xs.filter p).map f))) : eLc own src tgt tst elt ρ1 Qd := by
  refine hs _ ⟨⟨h0, by rw [List.length_map]; exact hl⟩, fun i acc => acc = ((xs.take i).filter p).map f, rfl, fun i d acc hd e => ?_, fun acc e => ?_⟩
  · rw [List.getElem?_map] at hd
    obtain ⟨x, hx, rfl⟩ := Option.map_eq_some_iff.mp hd
    subst e
    refine h x (List.mem_of_getElem? hx) _ _ (fun q => ?_) fun q => ?_
    · show _ = _
      rw [take_get hx, List.filter_append, List.map_append, List.filter_cons_of_pos q]; rfl
    · show _ = _
      rw [take_get hx, List.filter_append, List.filter_cons_of_neg (by rw [q]; exact fun z => nomatch z), List.filter_nil, List.append_nil]
  · rw [List.length_map, List.take_length] at e
    subst e
    exact k
/-- [f x for x in xs] -/
theorem lcM {α : Type} {own : List Nat} {src : DI} {tgt : DG} {elt : DE} {ρ1 : Ev} {Qd : Ev → Lo → Prop} (enc : α → Dt) (xs : List α) (f : α → Dt) (h0 : nos own ρ1 = true) (hl : xs.length ≤ 100000) (hs : ∀ k : Ev → List Dt → Prop, k ρ1 (xs.map enc) → src ρ1 k)
    (hm : ∀ d ρ (P Q : Ev → Prop), (∀ ρ, P ρ → Q ρ) → tgt d ρ P → tgt d ρ Q)
    (h : ∀ x, x ∈ xs → ∀ (C : Dt → Prop), C (f x) → tgt (enc x) ρ1 fun ρ2 => elt ρ2 fun ρ4 l => ρ4 = ρ2 ∧ (match nrm l with | .sh d' => C d' | _ => False))
    (k : Qd ρ1 (.ow (xs.map f))) : eLc own src tgt dYes elt ρ1 Qd :=
  lcE enc xs (fun _ => true) f h0 hl hs (fun x hx C N hc _ => hm _ _ _ _ (fun ρ q => ⟨fun _ => q, fun z => nomatch z⟩) (h x hx C (hc rfl))) (by rw [List.filter_eq_self.mpr fun _ _ => rfl]; exact k)
/-- a display whose items are known -/
theorem lstR {a : DA} {ρ : Ev} {Qd : Ev → Lo → Prop} (ls : List Lo) (ds : List Dt) (hr : ∀ k : Ev → List Lo → Prop, k ρ ls → a ρ k) (h : shs ls = some ds) (hl : ds.length ≤ 100000) (k : Qd ρ (.ow ds)) : eLst a ρ Qd := hr _ (by rw [h]; exact ⟨hl, k⟩)
def foB (tgt : DG) (body : DS) (D : DEnds) (ρ1 : Ev) (ds : List Dt) : Prop := ∃ Iv : Nat → Ev → Prop, Iv 0 ρ1 ∧
  (∀ i d ρ', ds[i]? = some d → Iv i ρ' → tgt d ρ' fun ρ2 => body { nx := Iv (i + 1), rt := D.rt, bk := D.nx, ct := Iv (i + 1) } ρ2) ∧ ∀ ρ', Iv ds.length ρ' → D.nx ρ'
theorem forE {α : Type} {tgt : DG} {body : DS} {D : DEnds} {ρ1 : Ev} (enc : α → Dt) (xs : List α) (Iv : Nat → Ev → Prop) (h0 : Iv 0 ρ1)
    (h : ∀ i x ρ', xs[i]? = some x → Iv i ρ' → tgt (enc x) ρ' fun ρ2 => body { nx := Iv (i + 1), rt := D.rt, bk := D.nx, ct := Iv (i + 1) } ρ2) (k : ∀ ρ', Iv xs.length ρ' → D.nx ρ') : foB tgt body D ρ1 (xs.map enc) := by
  refine ⟨Iv, h0, fun i d ρ' hd iv => ?_, fun ρ' iv => k ρ' (by rw [List.length_map] at iv; exact iv)⟩
  rw [List.getElem?_map] at hd
  obtain ⟨x, hx, rfl⟩ := Option.map_eq_some_iff.mp hd
  exact h i x ρ' hx iv
def dI (i : Nat) : Dt := .int (i : Int)
theorem rng_dI (n : Nat) : rng 0 n = (List.range n).map dI := by
  unfold rng
  refine List.map_congr_left fun i _ => ?_
  show Dt.int (0 + (i : Int)) = .int (i : Int)
  rw [Int.zero_add]
theorem rng_dI' {z : Int} {n : Nat} (h : z = (n : Int)) : rng 0 z.toNat = (List.range n).map dI := by rw [h, Int.toNat_natCast, rng_dI]
theorem dg2_mono {i j : Nat} (d : Dt) (ρ : Ev) (P Q : Ev → Prop) (h : ∀ ρ, P ρ → Q ρ) (t : dgT 2 (dgCons (dgN i) (dgCons (dgN j) dgNil)) d ρ P) : dgT 2 (dgCons (dgN i) (dgCons (dgN j) dgNil)) d ρ Q := by
  unfold dgT at t ⊢
  cases d with
  | tup ds =>
    refine ⟨t.1, ?_⟩
    obtain ⟨t1, t2⟩ := t
    match ds, t1, t2 with
    | [x, y], _, t2 => exact h _ t2
  | _ => exact t.elim
theorem atZ (d : Dt) (ds : List Dt) : atI (d :: ds) 0 = some d := by
  have h : atI (d :: ds) ((0 : Nat) : Int) = some d := atI_nat rfl
  exact h
theorem atO (c d : Dt) (ds : List Dt) : atI (c :: d :: ds) 1 = some d := by
  have h : atI (c :: d :: ds) ((1 : Nat) : Int) = some d := atI_nat rfl
  exact h
theorem shs_two {xs ys : List Dt} : shs (xs.map Lo.sh ++ (ys.map Lo.sh ++ [])) = some (xs ++ ys) := by
  rw [shs_sh, shs_sh]
  simp [shs]
theorem forEx {α : Type} {tgt : DG} {body : DS} {nx : Ev → Prop} {rt : Lo → Prop} {ρ1 : Ev} (enc : α → Dt) (xs : List α) (Iv : Nat → Ev → Prop) (h0 : Iv 0 ρ1)
    (h : ∀ i x ρ', xs[i]? = some x → Iv i ρ' → tgt (enc x) ρ' fun ρ2 => body { nx := Iv (i + 1), rt := rt, bk := nx, ct := Iv (i + 1) } ρ2) (k : ∀ ρ', Iv xs.length ρ' → nx ρ') :
    ∃ Iv : Nat → Ev → Prop, Iv 0 ρ1 ∧ (∀ (i : Nat) (d : Dt) (ρ' : Ev), (xs.map enc)[i]? = some d → Iv i ρ' → tgt d ρ' fun ρ2 => body { nx := Iv (i + 1), rt := rt, bk := nx, ct := Iv (i + 1) } ρ2) ∧ ∀ ρ', Iv (xs.map enc).length ρ' → nx ρ' :=
  forE (D := ⟨nx, rt, fun _ => False, fun _ => False⟩) enc xs Iv h0 h k
theorem forR {tgt : DG} {body : DS} {D : DEnds} {ρ1 : Ev} (lo : Int) (n : Nat) (Iv : Nat → Ev → Prop) (h0 : Iv 0 ρ1)
    (h : ∀ i ρ', i < n → Iv i ρ' → tgt (.int (lo + (i : Int))) ρ' fun ρ2 => body { nx := Iv (i + 1), rt := D.rt, bk := D.nx, ct := Iv (i + 1) } ρ2) (k : ∀ ρ', Iv n ρ' → D.nx ρ') : foB tgt body D ρ1 (rng lo n) := by
  have hl : (rng lo n).length = n := by unfold rng; simp
  refine ⟨Iv, h0, fun i d ρ' hd iv => ?_, fun ρ' iv => k ρ' (by rw [hl] at iv; exact iv)⟩
  have hi : i < n := by rw [← hl]; exact (List.getElem?_eq_some_iff.mp hd).1
  unfold rng at hd
  rw [List.getElem?_map, List.getElem?_range hi] at hd
  cases hd
  exact h i ρ' hi iv
theorem forD {tgt : DG} {body : DS} {D : DEnds} {ρ1 : Ev} (lo : Int) (n : Nat) (Iv : Nat → Ev → Prop) (h0 : Iv 0 ρ1)
    (h : ∀ i ρ', i < n → Iv i ρ' → tgt (.int (lo + (i : Int) * (-1))) ρ' fun ρ2 => body { nx := Iv (i + 1), rt := D.rt, bk := D.nx, ct := Iv (i + 1) } ρ2) (k : ∀ ρ', Iv n ρ' → D.nx ρ') : foB tgt body D ρ1 (rngD lo n) := by
  refine ⟨Iv, h0, fun i d ρ' hd iv => ?_, fun ρ' iv => k ρ' (by rw [rngD_len] at iv; exact iv)⟩
  have hi : i < n := by rw [← rngD_len lo n]; exact (List.getElem?_eq_some_iff.mp hd).1
  rw [rngD_get hi] at hd
  cases hd
  exact h i ρ' hi iv
theorem atD {α : Type} {enc : α → Dt} {xs : List α} {j : Nat} {x : α} (h : xs[j]? = some x) : atI (xs.map enc) (j : Int) = some (enc x) := atI_nat (by rw [List.getElem?_map, h]; rfl)
theorem cutI {c : DTs} {s u : DS} {D : DEnds} {ρ : Ev} (M : Ev → Prop) (hk : ∀ ρ', M ρ' → D.nx ρ') (h : (∀ ρ', M ρ' → D.nx ρ') → sIf c s u D ρ) : sIf c s u D ρ := h hk

def spLawD (K : PySem.W.Frag) (TB : Tbs) : Sp := fun vs H Q _ => ∃ (a : Addr) (ns : List Int), vs = [.ref a] ∧ SqL K H a (ns.map V.int) ∧ ns.length ≤ 63 ∧ (∀ P, P ∈ TB → H P = some (.tbl #[])) ∧ ∀ H', Q (.bl true) H'

/-! ### slices, lists that grow -/
theorem cut_from (xs : List Dt) {t : Int} (h : 0 ≤ t) : cutL xs (some t) none = xs.drop t.toNat := by
  obtain ⟨k, rfl⟩ := Int.eq_ofNat_of_zero_le h
  unfold cutL
  rw [HT.sIx_none, HT.sIx_nat, Int.toNat_natCast]
  by_cases q : k ≤ xs.length
  · rw [Nat.min_eq_left q, List.take_of_length_le (by rw [List.length_drop]; omega)]
  · rw [Nat.min_eq_right (by omega), List.drop_eq_nil_of_le (by omega), List.drop_eq_nil_of_le (show xs.length ≤ k by omega), List.take_nil]
theorem cut_to (xs : List Dt) {t : Int} (h : 0 ≤ t) : cutL xs none (some t) = xs.take t.toNat := by
  obtain ⟨k, rfl⟩ := Int.eq_ofNat_of_zero_le h
  unfold cutL
  rw [HT.sIx_none, HT.sIx_nat, Int.toNat_natCast, List.drop_zero, Nat.sub_zero]
  by_cases q : k ≤ xs.length
  · rw [Nat.min_eq_left q]
  · rw [Nat.min_eq_right (by omega), List.take_of_length_le (Nat.le_refl _), List.take_of_length_le (by omega)]
theorem sIx_neg (n d k : Nat) (hk : 0 < k) : HT.sIx n d (some (-(k : Int))) = n - k := by
  show (if -(k : Int) < 0 then (-(k : Int) + (n : Int)).toNat else _) = n - k
  rw [if_pos (by omega)]
  omega
theorem cut_end (xs : List Dt) (k : Nat) (hk : 0 < k) : cutL xs (some (-(k : Int))) none = xs.drop (xs.length - k) := by
  unfold cutL
  rw [HT.sIx_none, sIx_neg _ _ _ hk, List.take_of_length_le (by rw [List.length_drop]; omega)]
theorem cut_but (xs : List Dt) (k : Nat) (hk : 0 < k) : cutL xs none (some (-(k : Int))) = xs.take (xs.length - k) := by
  unfold cutL
  rw [HT.sIx_none, sIx_neg _ _ _ hk, List.drop_zero, Nat.sub_zero]
theorem cut_turn {α : Type} {f : α → Dt} (xs : List α) {t : Int} (h : 0 ≤ t) : cutL (xs.map f) (some t) none ++ cutL (xs.map f) none (some t) = (xs.drop t.toNat ++ xs.take t.toNat).map f := by
  rw [cut_from _ h, cut_to _ h, List.map_append, List.map_drop, List.map_take]
theorem mem_turn {α : Type} {xs : List α} {k : Nat} {x : α} : x ∈ xs.drop k ++ xs.take k ↔ x ∈ xs := by
  constructor
  · intro m
    rcases List.mem_append.mp m with m | m
    · exact List.mem_of_mem_drop m
    · exact List.mem_of_mem_take m
  · intro m
    rw [← List.take_append_drop k xs] at m
    rcases List.mem_append.mp m with m | m
    · exact List.mem_append_right _ m
    · exact List.mem_append_left _ m
theorem len_turn {α : Type} {xs : List α} {k : Nat} : (xs.drop k ++ xs.take k).length = xs.length := by
  rw [List.length_append, List.length_drop, List.length_take]; omega
theorem gdL {w : List Int} {v : Int} {i : Nat} (h : i < w.length) : (w ++ [v]).getD i 0 = w.getD i 0 := by
  rw [List.getD_eq_getElem?_getD, List.getD_eq_getElem?_getD, List.getElem?_append_left h]
theorem gdR {w : List Int} {v : Int} {i : Nat} (h : i = w.length) : (w ++ [v]).getD i 0 = v := by
  rw [h, List.getD_eq_getElem?_getD, List.getElem?_append_right (Nat.le_refl _), Nat.sub_self]; rfl
theorem map_snoc {α : Type} {f : α → Dt} {xs : List α} {x : α} : xs.map f ++ [f x] = (xs ++ [x]).map f := by rw [List.map_append]; rfl
theorem forRx {tgt : DG} {body : DS} {nx : Ev → Prop} {rt : Lo → Prop} {ρ1 : Ev} (lo : Int) (n : Nat) (Iv : Nat → Ev → Prop) (h0 : Iv 0 ρ1)
    (h : ∀ i ρ', i < n → Iv i ρ' → tgt (.int (lo + (i : Int))) ρ' fun ρ2 => body { nx := Iv (i + 1), rt := rt, bk := nx, ct := Iv (i + 1) } ρ2) (k : ∀ ρ', Iv n ρ' → nx ρ') :
    ∃ Iv : Nat → Ev → Prop, Iv 0 ρ1 ∧ (∀ (i : Nat) (d : Dt) (ρ' : Ev), (rng lo n)[i]? = some d → Iv i ρ' → tgt d ρ' fun ρ2 => body { nx := Iv (i + 1), rt := rt, bk := nx, ct := Iv (i + 1) } ρ2) ∧ ∀ ρ', Iv (rng lo n).length ρ' → nx ρ' :=
  forR (D := ⟨nx, rt, fun _ => False, fun _ => False⟩) lo n Iv h0 h k
/-- one statement at a time: what is behind it stays closed -/
theorem seqE {s u : DS} {D : DEnds} {ρ : Ev} (h : ∀ N : Ev → Prop, (∀ ρ, N ρ = u D ρ) → s { D with nx := N } ρ) : sSeq s u D ρ := h (u D) fun _ => rfl

theorem ok_is_rule (T : Txt P K mg) (B : Tb T base) : FnOk P w K mg base CX0 1 T.a_is_rule T.d_is_rule ["size", "rule"] (spOf K T.tb cIsRule) := by
  refine T.F_is_rule.ok sc_is_rule (fun vs H Q E h => spOf_len h (by rintro ls Qd ⟨n, r, rfl, _⟩; rfl)) (fun cdv A outer s H vs Q E hr h => ?_)
  refine ⟨_, (pss_cons (ps_asg (pv 1) (pg_tup rfl (pgs_cons (pg_name (i := 2) sc_is_rule.nd rfl (Or.inl rfl)) (pgs_cons (pg_name (i := 3) sc_is_rule.nd rfl (Or.inl rfl)) (pgs_cons (pg_name (i := 4) sc_is_rule.nd rfl (Or.inl rfl)) (pgs_cons (pg_name (i := 5) sc_is_rule.nd rfl (Or.inl rfl)) pgs_nil)))))) (pss_one (ps_ret (pe_and (pe_chain op_le op_lt pe_int (pv 2) (pv 0)) (pe_and (pe_chain op_le op_lt pe_int (pv 3) (pv 0)) (pe_and (pe_cmpR op_ne (pv 2) (pv 3) (nomark _)) (pe_one (pe_cmpR op_le (pv 4) (pv 5) (nomark _))))))))), ?_⟩
  refine df_body (m := 6) (ls_seq (ls_asgG (le_var (i := 1)) (lf_tup (n := 4) (lf_cons (lf_name (i := 2)) (lf_cons (lf_name (i := 3)) (lf_cons (lf_name (i := 4)) (lf_cons (lf_name (i := 5)) lf_nil)))))) (ls_ret (le_andV (le_chain (g := (fun i j => decide (i ≤ j))) (g' := (fun i j => decide (i < j))) le_int (le_var (i := 2)) (le_var (i := 0))) (le_andV (le_chain (g := (fun i j => decide (i ≤ j))) (g' := (fun i j => decide (i < j))) le_int (le_var (i := 3)) (le_var (i := 0))) (le_andV (le_ne (le_var (i := 2)) (le_var (i := 3))) (le_le (le_var (i := 4)) (le_var (i := 5)))))))) h rfl (Nat.le_trans (Nat.le_of_eq (spOf_len (n := 2) h (by rintro ls Qd ⟨n, r, rfl, _⟩; rfl))) (by decide)) ?_
  clear h
  rintro ls Q ⟨n, ⟨a, b, lo, hi⟩, rfl, k⟩
  dsimp only [Df.dgN, Df.sSeq, Df.sAsg, Df.sAsgO, Df.sMove, Df.sNext, Df.sRet, Df.eVar, Df.eVarF, Df.eC, Df.oI, Df.oU, Df.aCons, Df.aNil, Df.eCat, Df.eSum, Df.eMaxL, Df.eMinL, Df.eSorted, Df.eList, Df.eTuple, Df.eLz, Df.eLen, Df.eIndex, Df.one, Df.two, Df.nrm, Df.gt, List.set, Df.padE, Df.dat, Df.argL, Df.seqL, Df.seqD, Df.sAsgG, Df.dgT, Df.dgCons, Df.dgNil, Df.eChain, Df.eAnd, Df.eOr, Df.oEq, Df.eFld, Df.dOr, Df.dAnd, Df.dOrB, Df.dAndB, Df.eInt, Df.eSlL, Df.oSo, Df.oNo, Df.eI2, Df.eI1, Df.oIs, Df.sIf, Df.eIxQ, Df.iT, Df.dYes, Df.sNever, Df.sCut, Df.eGenB, Df.genE, Df.noE, Df.capE, Df.capL, Df.lendL, Df.lendE, Df.eLend, Df.dLend, Df.eLendN, Df.lndE, Df.lndL, Df.lnX, Df.lnx, List.cons_append, List.nil_append, Df.sFor, Df.iL, Df.iQ, Df.iR1, Df.iR2, Df.eIxT, Df.eIxL, Df.eCall, Df.eCallB, Df.oC, Df.dNot, Df.dB, Df.sApp, Df.sStD, Df.eDIn, Df.eDisp1, Df.eLenD]
  refine ⟨rfl, decide (a < n), fun _ => ⟨rfl, n, rfl, rfl⟩, (decide (0 ≤ b) && decide (b < n)) && ((!decide (a = b)) && decide (lo ≤ hi)), fun _ => ⟨decide (b < n), fun _ => ⟨rfl, n, rfl, rfl⟩, ((!decide (a = b)) && decide (lo ≤ hi)), fun _ => ⟨decide (lo ≤ hi), fun _ => ⟨rfl, rfl⟩, rfl, rfl⟩, rfl, rfl⟩, k⟩
theorem atG {w : List Int} {i : Int} (h0 : 0 ≤ i) (h1 : i < (w.length : Int)) : atI (w.map Dt.int) i = some (.int (w.getD i.toNat 0)) := by
  have e : i = (i.toNat : Int) := by omega
  have h2 : i.toNat < w.length := by omega
  rw [e]
  refine atI_nat ?_
  rw [List.getElem?_map, List.getElem?_eq_getElem h2, Int.toNat_natCast, List.getD_eq_getElem?_getD, List.getElem?_eq_getElem h2]
  rfl
theorem isR_in {n : Int} {a b lo hi : Int} (h : isR n (a, b, lo, hi) = true) : 0 ≤ a ∧ a < n ∧ 0 ≤ b ∧ b < n ∧ a ≠ b ∧ lo ≤ hi := by
  unfold isR at h
  simp only [Bool.and_eq_true, decide_eq_true_eq, Bool.not_eq_true', decide_eq_false_iff_not] at h
  omega
def keeps1 (w : List Int) (r : R4) : Bool := decide (r.2.2.1 ≤ w.getD r.2.1.toNat 0 - w.getD r.1.toNat 0) && decide (w.getD r.2.1.toNat 0 - w.getD r.1.toNat 0 ≤ r.2.2.2)
theorem keeps_all (rs : List R4) (w : List Int) : (rs.map (keeps1 w)).all id = keepsB rs w := by
  unfold keepsB
  rw [List.all_map]
  rfl
theorem ok_Frame_allows (T : Txt P K mg) (B : Tb T base) : FnOk P w K mg base CX0 1 T.a_Frame_allows T.d_Frame_allows ["self", "levels"] (spOf K T.tb (cAllows T.C_Frame)) := by
  refine ok_code T.F_Frame_allows T.hc_Frame_allows sc_Frame_allows (fun vs H Q E h => spOf_len h (by rintro ls Qd ⟨n, rs, tb, d, w, rfl, _⟩; rfl)) (fun A outer s H vs Q E hr h => ?_)
  refine ⟨_, PSs.nox ((pss_cons (ps_if (PW.pt (pw_or (pt_cmpR op_ne (pe_callB call_len_seq (by rfl) T.z_len (by decide +kernel) (pa_cons (pv 1) pa_nil)) (pe_fld (pv 0) rfl) (nomark _)) (pw_or1 (pt_cmpR op_ne (pe_ix ix_seq (pv 1) pe_int (fun _ _ => rfl)) pe_int (nomark _))))) (pss_one (ps_ret pe_bl)) pss_nil) (pss_one (ps_ret (Gc.pe_genB (N' := (["first", "second", "low", "high"] : List Str) ++ (["levels"] : List Str)) (nt := List.length (["first", "second", "low", "high"] : List Str)) (cap := [1]) (g := (gTup K 4 (gCons (gName 0) (gCons (gName 1) (gCons (gName 2) (gCons (gName 3) gNil)))))) (tt := tYes) Gc.eats_all hr (by rfl) T.z_all (by decide +kernel) B.tb_Frame_allows rfl ⟨rfl, rfl, by decide +kernel, rfl, some_free rfl⟩ (Gc.Cap.of (ts := (["first", "second", "low", "high"] : List Str)) (.cons rfl rfl (Or.inl rfl) (.inr (.inl rfl)) .nil)) (pi_tup (pe_fld (pv 0) rfl)) ⟨fun _ _ _ _ _ _ => (pg_tup rfl (pgs_cons (pg_name (i := 0) (show (["first", "second", "low", "high", "levels"] : List Str).Nodup from by decide +kernel) rfl (Or.inl rfl)) (pgs_cons (pg_name (i := 1) (show (["first", "second", "low", "high", "levels"] : List Str).Nodup from by decide +kernel) rfl (Or.inl rfl)) (pgs_cons (pg_name (i := 2) (show (["first", "second", "low", "high", "levels"] : List Str).Nodup from by decide +kernel) rfl (Or.inl rfl)) (pgs_cons (pg_name (i := 3) (show (["first", "second", "low", "high", "levels"] : List Str).Nodup from by decide +kernel) rfl (Or.inl rfl)) pgs_nil))))), fun _ _ _ _ _ _ => (pts_nil), fun _ _ _ _ _ _ => ((pe_chain op_le op_le (pv 2) (pe_op op_sub (pe_ix (show IxR _ (rIx K) from ix_seq) (pv 4) (pv 1) (fun _ _ => rfl)) (pe_ix (show IxR _ (rIx K) from ix_seq) (pv 4) (pv 0) (fun _ _ => rfl))) (pv 3)))⟩ (fun _ => rfl)))))), ?_⟩
  refine df_body (m := 6) (ls_seq (ls_if (lt_or (lt_T (le_ne (le_len (la_cons (le_var (i := 1)) la_nil)) (le_fld (ns := ns_Frame) (j := 0) T.cl_Frame T.n_Frame_size nd_Frame (by rfl) (le_var (i := 0))))) (lt_T (le_ne (le_ixQ (le_var (i := 1)) le_int) le_int))) (ls_ret le_bl) ls_next) (ls_ret (le_genB (nt := 4) (cap := [1]) (by show _ ∈ Tbs.tabs _; unfold Txt.tb; simp) (by intro x hx; exact nomatch hx) (li_tup (le_fld (ns := ns_Frame) (j := 1) T.cl_Frame T.n_Frame_rules nd_Frame (by rfl) (le_var (i := 0)))) (lf_tup (n := 4) (lf_cons (lf_name (i := 0)) (lf_cons (lf_name (i := 1)) (lf_cons (lf_name (i := 2)) (lf_cons (lf_name (i := 3)) lf_nil))))) lt_yes (le_chain (g := (fun i j => decide (i ≤ j))) (g' := (fun i j => decide (i ≤ j))) (le_var (i := 2)) (le_sub (le_ixQ (le_var (i := 4)) (le_var (i := 1))) (le_ixQ (le_var (i := 4)) (le_var (i := 0)))) (le_var (i := 3))) (by decide)))) h rfl (Nat.le_trans (Nat.le_of_eq (spOf_len (n := 2) h (by rintro ls Qd ⟨n, rs, tb, d, w, rfl, _⟩; rfl))) (by decide)) ?_
  clear h
  rintro ls Q ⟨n, rs, tb, d, w, rfl, hd, ⟨n1, c⟩, k⟩
  rcases hd with rfl | rfl
  · dsimp only [Df.dgN, Df.sSeq, Df.sAsg, Df.sAsgO, Df.sMove, Df.sNext, Df.sRet, Df.eVar, Df.eVarF, Df.eC, Df.oI, Df.oU, Df.aCons, Df.aNil, Df.eCat, Df.eSum, Df.eMaxL, Df.eMinL, Df.eSorted, Df.eList, Df.eTuple, Df.eLz, Df.eLen, Df.eIndex, Df.one, Df.two, Df.nrm, Df.gt, List.set, Df.padE, Df.dat, Df.argL, Df.seqL, Df.seqD, Df.sAsgG, Df.dgT, Df.dgCons, Df.dgNil, Df.eChain, Df.eAnd, Df.eOr, Df.oEq, Df.eFld, Df.dOr, Df.dAnd, Df.dOrB, Df.dAndB, Df.eInt, Df.eSlL, Df.oSo, Df.oNo, Df.eI2, Df.eI1, Df.oIs, Df.sIf, Df.eIxQ, Df.iT, Df.dYes, Df.sNever, Df.sCut, Df.eGenB, Df.genE, Df.noE, Df.capE, Df.capL, Df.lendL, Df.lendE, Df.eLend, Df.dLend, Df.eLendN, Df.lndE, Df.lndL, Df.lnX, Df.lnx, List.cons_append, List.nil_append, Df.sFor, Df.iL, Df.iQ, Df.iR1, Df.iR2, Df.eIxT, Df.eIxL, Df.eCall, Df.eCallB, Df.oC, Df.dNot, Df.dB, Df.sApp, Df.sStD, Df.eDIn, Df.eDisp1, Df.eLenD]
    refine ⟨⟨rfl, rfl⟩, _, rfl, decide (w.getD 0 0 ≠ 0), fun hl => ⟨.int (w.getD 0 0), atG (i := 0) (Int.le_refl _) (by simp at hl; omega), rfl, by simp⟩, fun hx => ?_, fun hn => ?_⟩
    · have e : allowsB n rs w = false := by
        simp at hx
        unfold allowsB
        rcases hx with h | h
        · have : ¬ w.length = n := by omega
          simp [this]
        · simp [h]
      rw [e] at k
      exact k
    · simp only [Bool.or_eq_false_iff, Bool.not_eq_false', decide_eq_true_eq, decide_eq_false_iff_not, ne_eq, Classical.not_not, List.length_map] at hn
      have hw : w.length = n := by omega
      refine ⟨⟨rfl, rfl⟩, _, rfl, rs.map (keeps1 w), fun i j => j = i, rfl, fun i j d hd e => ?_, fun j e => by rw [e, List.length_map, List.length_map], ?_⟩
      · subst e
        rw [List.getElem?_map] at hd
        cases er : rs[j]? with
        | none => rw [er] at hd; cases hd
        | some r =>
          rw [er] at hd
          cases hd
          obtain ⟨a, b, lo, hi⟩ := r
          have q := isR_in (c _ (List.mem_of_getElem? er))
          have qb : b < (w.length : Int) := by omega
          have qa : a < (w.length : Int) := by omega
          refine ⟨rfl, fun _ => ⟨_, atG q.2.2.1 qb, _, atG q.1 qa, _, fun _ => ⟨rfl, _, rfl, rfl⟩, _, rfl, ?_, rfl⟩, fun z => by cases z⟩
          rw [List.getElem?_map, er]
          rfl
      · rw [keeps_all]
        have e : allowsB n rs w = keepsB rs w := by
          unfold allowsB
          rw [hn.2]
          simp [hw]
        rw [e] at k
        exact k
  · dsimp only [Df.dgN, Df.sSeq, Df.sAsg, Df.sAsgO, Df.sMove, Df.sNext, Df.sRet, Df.eVar, Df.eVarF, Df.eC, Df.oI, Df.oU, Df.aCons, Df.aNil, Df.eCat, Df.eSum, Df.eMaxL, Df.eMinL, Df.eSorted, Df.eList, Df.eTuple, Df.eLz, Df.eLen, Df.eIndex, Df.one, Df.two, Df.nrm, Df.gt, List.set, Df.padE, Df.dat, Df.argL, Df.seqL, Df.seqD, Df.sAsgG, Df.dgT, Df.dgCons, Df.dgNil, Df.eChain, Df.eAnd, Df.eOr, Df.oEq, Df.eFld, Df.dOr, Df.dAnd, Df.dOrB, Df.dAndB, Df.eInt, Df.eSlL, Df.oSo, Df.oNo, Df.eI2, Df.eI1, Df.oIs, Df.sIf, Df.eIxQ, Df.iT, Df.dYes, Df.sNever, Df.sCut, Df.eGenB, Df.genE, Df.noE, Df.capE, Df.capL, Df.lendL, Df.lendE, Df.eLend, Df.dLend, Df.eLendN, Df.lndE, Df.lndL, Df.lnX, Df.lnx, List.cons_append, List.nil_append, Df.sFor, Df.iL, Df.iQ, Df.iR1, Df.iR2, Df.eIxT, Df.eIxL, Df.eCall, Df.eCallB, Df.oC, Df.dNot, Df.dB, Df.sApp, Df.sStD, Df.eDIn, Df.eDisp1, Df.eLenD]
    refine ⟨⟨rfl, rfl⟩, _, rfl, decide (w.getD 0 0 ≠ 0), fun hl => ⟨.int (w.getD 0 0), atG (i := 0) (Int.le_refl _) (by simp at hl; omega), rfl, by simp⟩, fun hx => ?_, fun hn => ?_⟩
    · have e : allowsB n rs w = false := by
        simp at hx
        unfold allowsB
        rcases hx with h | h
        · have : ¬ w.length = n := by omega
          simp [this]
        · simp [h]
      rw [e] at k
      exact k
    · simp only [Bool.or_eq_false_iff, Bool.not_eq_false', decide_eq_true_eq, decide_eq_false_iff_not, ne_eq, Classical.not_not, List.length_map] at hn
      have hw : w.length = n := by omega
      refine ⟨⟨rfl, rfl⟩, _, rfl, rs.map (keeps1 w), fun i j => j = i, rfl, fun i j d hd e => ?_, fun j e => by rw [e, List.length_map, List.length_map], ?_⟩
      · subst e
        rw [List.getElem?_map] at hd
        cases er : rs[j]? with
        | none => rw [er] at hd; cases hd
        | some r =>
          rw [er] at hd
          cases hd
          obtain ⟨a, b, lo, hi⟩ := r
          have q := isR_in (c _ (List.mem_of_getElem? er))
          have qb : b < (w.length : Int) := by omega
          have qa : a < (w.length : Int) := by omega
          refine ⟨rfl, fun _ => ⟨_, atG q.2.2.1 qb, _, atG q.1 qa, _, fun _ => ⟨rfl, _, rfl, rfl⟩, _, rfl, ?_, rfl⟩, fun z => by cases z⟩
          rw [List.getElem?_map, er]
          rfl
      · rw [keeps_all]
        have e : allowsB n rs w = keepsB rs w := by
          unfold allowsB
          rw [hn.2]
          simp [hw]
        rw [e] at k
        exact k

def encK (ks : List Nat) : List (Key × Dt) := ks.map fun i : Nat => ((Sum.inl (i : Int) : Key), Dt.bl true)
def addK (ks : List Nat) (i : Nat) : List Nat := if i ∈ ks then ks else ks ++ [i]
theorem any_enc (i : Nat) : ∀ ks : List Nat, ((encK ks).any fun kv => decide (kv.1 = (Sum.inl (i : Int) : Key))) = decide (i ∈ ks)
  | [] => rfl
  | j :: ks => by
    show (decide ((Sum.inl (j : Int) : Key) = Sum.inl (i : Int)) || (encK ks).any fun kv => decide (kv.1 = (Sum.inl (i : Int) : Key))) = _
    rw [any_enc i ks, Bool.eq_iff_iff]
    simp only [Bool.or_eq_true, decide_eq_true_eq, List.mem_cons, Sum.inl.injEq]
    constructor
    · rintro (h | h)
      · exact .inl (by omega)
      · exact .inr h
    · rintro (h | h)
      · exact .inl (by omega)
      · exact .inr h
theorem valD_enc (i : Nat) (ks : List Nat) : (valD (encK ks) (.inl (i : Int))).isSome = decide (i ∈ ks) := by
  rw [← any_enc]
  unfold valD
  rw [Option.isSome_map, Bool.eq_iff_iff, List.find?_isSome, List.any_eq_true]
theorem putD_enc (i : Nat) (ks : List Nat) : putD (encK ks) (.inl (i : Int)) (.bl true) = encK (addK ks i) := by
  unfold putD addK
  rw [any_enc]
  by_cases h : i ∈ ks
  · rw [if_pos (by simpa using h), if_pos h]
    unfold encK
    rw [List.map_map]
    refine List.map_congr_left fun j _ => ?_
    show (if (Sum.inl (j : Int) : Key) = Sum.inl (i : Int) then _ else _) = _
    split <;> rfl
  · rw [if_neg (by simpa using h), if_neg h]
    unfold encK
    rw [List.map_append]; rfl
theorem addK_mem {ks : List Nat} {i j : Nat} : j ∈ addK ks i ↔ j ∈ ks ∨ j = i := by
  unfold addK
  split
  · rename_i h
    exact ⟨.inl, fun z => z.elim id fun e => e ▸ h⟩
  · simp
theorem addK_nd {ks : List Nat} {i : Nat} (h : ks.Nodup) : (addK ks i).Nodup := by
  unfold addK
  split
  · exact h
  · rename_i n
    refine List.nodup_append.mpr ⟨h, by simp, fun a ha b hb e => ?_⟩
    rw [List.mem_singleton.mp hb] at e
    exact n (e ▸ ha)
def OkS (n : Nat) (ks : List Nat) : Prop := ks.Nodup ∧ ∀ i, i ∈ ks → i < n
theorem okS_full {n : Nat} {ks : List Nat} (h : OkS n ks) (f : ∀ i, i < n → i ∈ ks) : ks.length = n := by
  have p := (List.perm_ext_iff_of_nodup h.1 List.nodup_range).mpr fun a => ⟨fun m => List.mem_range.mpr (h.2 a m), fun m => f a (List.mem_range.mp m)⟩
  rw [p.length_eq, List.length_range]
theorem okS_add {n i : Nat} {ks : List Nat} (h : OkS n ks) (hi : i < n) : OkS n (addK ks i) := ⟨addK_nd h.1, fun j m => (addK_mem.mp m).elim (h.2 j) fun e => e ▸ hi⟩
theorem okS_len {n : Nat} {ks : List Nat} (h : OkS n ks) : ks.length ≤ n := by
  have : ∀ (n : Nat) (ks : List Nat), ks.Nodup → (∀ i, i ∈ ks → i < n) → ks.length ≤ n := fun n => by
    induction n with
    | zero =>
      intro ks _ hl
      cases ks with
      | nil => exact Nat.le_refl _
      | cons a t => exact absurd (hl a List.mem_cons_self) (Nat.not_lt_zero _)
    | succ n ih =>
      intro ks nd hl
      have h1 := ih (ks.filter fun i => decide (i ≠ n)) (nd.sublist List.filter_sublist) fun i m => by
        obtain ⟨a, b⟩ := List.mem_filter.mp m
        have := hl i a
        have : i ≠ n := by simpa using b
        omega
      have h2 : ks.length ≤ (ks.filter fun i => decide (i ≠ n)).length + 1 := by
        have h3 : (ks.filter fun i => decide (i ≠ n)).length + (ks.filter fun i => decide (i = n)).length = ks.length := by
          induction ks with
          | nil => rfl
          | cons a t ih2 =>
            have := ih2 (List.nodup_cons.mp nd).2 (fun i m => hl i (List.mem_cons_of_mem _ m)) (ih _ ((List.nodup_cons.mp nd).2.sublist List.filter_sublist) fun i m => by
              obtain ⟨a, b⟩ := List.mem_filter.mp m
              have := hl i (List.mem_cons_of_mem _ a)
              have : i ≠ n := by simpa using b
              omega)
            by_cases e : a = n
            · rw [List.filter_cons_of_neg (by simpa using e), List.filter_cons_of_pos (by simpa using e), List.length_cons, List.length_cons]; omega
            · rw [List.filter_cons_of_pos (by simpa using e), List.filter_cons_of_neg (by simpa using e), List.length_cons, List.length_cons]; omega
        have h4 : (ks.filter fun i => decide (i = n)).length ≤ 1 := by
          have nd2 := nd.sublist (List.filter_sublist (p := fun i => decide (i = n)) (l := ks))
          have all : ∀ i, i ∈ ks.filter (fun i => decide (i = n)) → i = n := fun i m => by simpa using (List.mem_filter.mp m).2
          match ks.filter (fun i => decide (i = n)), nd2, all with
          | [], _, _ => exact Nat.zero_le _
          | [a], _, _ => exact Nat.le_refl _
          | a :: b :: t, nd2, all => exact absurd ((all a List.mem_cons_self).trans (all b (List.mem_cons_of_mem _ List.mem_cons_self)).symm) (fun e => (List.nodup_cons.mp nd2).1 (e ▸ List.mem_cons_self))
        omega
      omega
  exact this n ks h.1 h.2
theorem ok_is_connected (T : Txt P K mg) (B : Tb T base) : FnOk P w K mg base CX0 1 T.a_is_connected T.d_is_connected ["size", "rules"] (spOf K T.tb cConn) := by
  refine T.F_is_connected.ok sc_is_connected (fun vs H Q E h => spOf_len h (by rintro ls Qd ⟨n, rs, rfl, _⟩; rfl)) (fun cdv A outer s H vs Q E hr h => ?_)
  refine ⟨_, (pss_cons (ps_set (i := 2) sc_is_connected.nd rfl (Or.inl rfl) (pe_disp (pps_cons pe_int pe_bl pps_nil) rfl rfl (by simp) (by decide))) (pss_cons (ps_for PassesOwn.never rfl (pi_range1 (by rfl) T.z_range (pa_cons (pv 0) pa_nil)) (pg_name (i := 3) sc_is_connected.nd rfl (Or.inl rfl)) (pss_one (ps_for PassesOwn.never rfl (pi_tup (pv 1)) (pg_name (i := 4) sc_is_connected.nd rfl (Or.inl rfl)) (pss_one (ps_if (PW.pt (pw_or (pt_cmp (pc_din (Gc.un1 hr) (pe_ix ix_tup (pv 4) pe_int (fun _ _ => rfl)) (pv 2)) (by with_unfolding_all rfl)) (pw_or1 (pt_cmp (pc_din (Gc.un1 hr) (pe_ix ix_tup (pv 4) pe_int (fun _ _ => rfl)) (pv 2)) (by with_unfolding_all rfl))))) (pss_cons (ps_dput (Gc.un1 hr) (pv 2) (pe_ix ix_tup (pv 4) pe_int (fun _ _ => rfl)) pe_bl rfl) (pss_one (ps_dput (Gc.un1 hr) (pv 2) (pe_ix ix_tup (pv 4) pe_int (fun _ _ => rfl)) pe_bl rfl))) pss_nil))))) (pss_one (ps_ret (pe_cmpR op_eq (pe_callB call_lenD (by rfl) T.z_len (by decide +kernel) (pa_cons (pv 2) pa_nil)) (pv 0) (nomark _)))))), ?_⟩
  refine df_body (m := 5) (ls_seq (ls_asgO (i := 2) (le_disp1 le_int le_bl)) (ls_seq (ls_for (li_r1 (la_cons (le_var (i := 0)) la_nil)) (lf_name (i := 3)) (ls_for (li_tup (le_var (i := 1))) (lf_name (i := 4)) (ls_if (lt_or (lt_T (le_din (le_ixT (le_var (i := 4)) le_int) (le_var (i := 2)))) (lt_T (le_din (le_ixT (le_var (i := 4)) le_int) (le_var (i := 2))))) (ls_seq (ls_stD (i := 2) le_bl (le_ixT (le_var (i := 4)) le_int)) (ls_stD (i := 2) le_bl (le_ixT (le_var (i := 4)) le_int))) ls_next))) (ls_ret (le_eq (le_lenD (la_cons (le_var (i := 2)) la_nil)) (le_var (i := 0)))))) h rfl (Nat.le_trans (Nat.le_of_eq (spOf_len (n := 2) h (by rintro ls Qd ⟨n, rs, rfl, _⟩; rfl))) (by decide)) ?_
  clear h
  rintro ls Q ⟨n, rs, rfl, ⟨n1, n16, hl, hr', sp⟩, k⟩
  dsimp only [Df.dgN, Df.sSeq, Df.sAsg, Df.sAsgO, Df.sMove, Df.sNext, Df.sRet, Df.eVar, Df.eVarF, Df.eC, Df.oI, Df.oU, Df.aCons, Df.aNil, Df.eCat, Df.eSum, Df.eMaxL, Df.eMinL, Df.eSorted, Df.eList, Df.eTuple, Df.eLz, Df.eLen, Df.eIndex, Df.one, Df.two, Df.nrm, Df.gt, List.set, Df.padE, Df.dat, Df.argL, Df.seqL, Df.seqD, Df.eIxT, Df.eIxL, Df.eIxQ, Df.eCall, Df.eCallB, Df.oI, Df.oC, Df.dNot, Df.dB, Df.eDisp1, Df.eDIn, Df.sStD, Df.eLenD, Df.oEq, Df.dOr, Df.dAnd, Df.dOrB, Df.dAndB, Df.sNever, Df.sCut, Df.iR1, Df.iR2, Df.eInt, Df.sIf, Df.eSlL, Df.oSo, Df.oNo, Df.eLendN, Df.lndE, Df.lndL, Df.lnX, Df.lnx, Df.eLend, Df.dLend, Df.lendE, Df.lendL]
  refine ⟨.int 0, .inl 0, .bl true, rfl, rfl, rfl, ⟨by omega, by omega⟩, ?_⟩
  refine forR 0 _ (fun t ρ => ∃ (ks : List Nat) (v3 v4 : Lo), ρ = [.sh (.int (n : Int)), .sh (.tup (rs.map dR)), .od (encK ks), v3, v4] ∧ OkS n ks ∧ ∀ i, i ≤ t → i < n → i ∈ ks) ⟨[0], _, _, rfl, ⟨by simp, fun i m => by rw [List.mem_singleton.mp m]; omega⟩, fun i h _ => by rw [Nat.le_zero.mp h]; exact List.mem_cons_self⟩ ?_ ?_
  · rintro t ρ ht ⟨ks, v3, v4, rfl, ok, hin⟩
    dsimp only [Df.dgN, Df.sSeq, Df.sAsg, Df.sAsgO, Df.sMove, Df.sNext, Df.sRet, Df.eVar, Df.eVarF, Df.eC, Df.oI, Df.oU, Df.aCons, Df.aNil, Df.eCat, Df.eSum, Df.eMaxL, Df.eMinL, Df.eSorted, Df.eList, Df.eTuple, Df.eLz, Df.eLen, Df.eIndex, Df.one, Df.two, Df.nrm, Df.gt, List.set, Df.padE, Df.dat, Df.argL, Df.seqL, Df.seqD, Df.eIxT, Df.eIxL, Df.eIxQ, Df.eCall, Df.eCallB, Df.oI, Df.oC, Df.dNot, Df.dB, Df.eDisp1, Df.eDIn, Df.sStD, Df.eLenD, Df.oEq, Df.dOr, Df.dAnd, Df.dOrB, Df.dAndB, Df.sNever, Df.sCut, Df.iR1, Df.iR2, Df.eInt, Df.sIf, Df.eSlL, Df.oSo, Df.oNo, Df.eLendN, Df.lndE, Df.lndL, Df.lnX, Df.lnx, Df.eLend, Df.dLend, Df.lendE, Df.lendL]
    refine forE dR rs (fun i ρ => ∃ (ks2 : List Nat) (v4 : Lo), ρ = [.sh (.int (n : Int)), .sh (.tup (rs.map dR)), .od (encK ks2), .sh (.int (0 + (t : Int))), v4] ∧ OkS n ks2 ∧ (∀ j, j ∈ ks → j ∈ ks2) ∧ ∀ r, r ∈ rs.take i → (r.1.toNat ∈ ks ∨ r.2.1.toNat ∈ ks) → r.1.toNat ∈ ks2 ∧ r.2.1.toNat ∈ ks2) ⟨ks, _, rfl, ok, fun _ m => m, fun r m => by simp at m⟩ ?_ ?_
    · rintro i ⟨a, b, lo, hi⟩ ρ hx ⟨ks2, v4, rfl, ok2, sub, done⟩
      have hm : (a, b, lo, hi) ∈ rs := List.mem_of_getElem? hx
      have q := isR_in (hr' _ hm)
      obtain ⟨A', rfl⟩ : ∃ A' : Nat, a = (A' : Int) := ⟨a.toNat, by omega⟩
      obtain ⟨B', rfl⟩ : ∃ B' : Nat, b = (B' : Int) := ⟨b.toNat, by omega⟩
      have hA : A' < n := by omega
      have hB : B' < n := by omega
      have tk : ∀ r, r ∈ rs.take (i + 1) → r ∈ rs.take i ∨ r = ((A' : Int), (B' : Int), lo, hi) := fun r m => by
        rw [List.take_succ, hx] at m
        rcases List.mem_append.mp m with m | m
        · exact .inl m
        · exact .inr (by simpa using m)
      dsimp only [Df.dgN, Df.sSeq, Df.sAsg, Df.sAsgO, Df.sMove, Df.sNext, Df.sRet, Df.eVar, Df.eVarF, Df.eC, Df.oI, Df.oU, Df.aCons, Df.aNil, Df.eCat, Df.eSum, Df.eMaxL, Df.eMinL, Df.eSorted, Df.eList, Df.eTuple, Df.eLz, Df.eLen, Df.eIndex, Df.one, Df.two, Df.nrm, Df.gt, List.set, Df.padE, Df.dat, Df.argL, Df.seqL, Df.seqD, Df.eIxT, Df.eIxL, Df.eIxQ, Df.eCall, Df.eCallB, Df.oI, Df.oC, Df.dNot, Df.dB, Df.eDisp1, Df.eDIn, Df.sStD, Df.eLenD, Df.oEq, Df.dOr, Df.dAnd, Df.dOrB, Df.dAndB, Df.sNever, Df.sCut, Df.iR1, Df.iR2, Df.eInt, Df.sIf, Df.eSlL, Df.oSo, Df.oNo, Df.eLendN, Df.lndE, Df.lndL, Df.lnX, Df.lnx, Df.eLend, Df.dLend, Df.lendE, Df.lendL]
      refine ⟨.int (A' : Int), rfl, encK ks2, .int (A' : Int), .inl (A' : Int), rfl, rfl, rfl, decide (B' ∈ ks2), fun _ => ⟨.int (B' : Int), rfl, encK ks2, .int (B' : Int), .inl (B' : Int), rfl, rfl, rfl, rfl, ?_⟩, fun h => ?_, fun h => ?_⟩
      · rw [valD_enc]; simp
      · have ok3 := okS_add ok2 hA
        have ok4 := okS_add ok3 hB
        have l2 : (encK ks2).length < 100000 := by
          have := okS_len ok2
          unfold encK; rw [List.length_map]; omega
        have l3 : (encK (addK ks2 A')).length < 100000 := by
          have := okS_len ok3
          unfold encK; rw [List.length_map]; omega
        refine ⟨.bl true, rfl, ⟨_, rfl⟩, .int (A' : Int), rfl, encK ks2, .int (A' : Int), .inl (A' : Int), rfl, rfl, rfl, l2, .bl true, rfl, ⟨_, rfl⟩, .int (B' : Int), rfl, encK (addK ks2 A'), .int (B' : Int), .inl (B' : Int), by rw [putD_enc], rfl, rfl, l3, addK (addK ks2 A') B', _, by rw [putD_enc], ok4, fun j m => addK_mem.mpr (.inl (addK_mem.mpr (.inl (sub j m)))), fun r m o => ?_⟩
        rcases tk r m with m | rfl
        · have d := done r m o
          exact ⟨addK_mem.mpr (.inl (addK_mem.mpr (.inl d.1))), addK_mem.mpr (.inl (addK_mem.mpr (.inl d.2)))⟩
        · exact ⟨addK_mem.mpr (.inl (addK_mem.mpr (.inr (by simp)))), addK_mem.mpr (.inr (by simp))⟩
      · refine ⟨ks2, _, rfl, ok2, sub, fun r m o => ?_⟩
        rcases tk r m with m | rfl
        · exact done r m o
        · rw [valD_enc] at h
          simp only [Bool.or_eq_false_iff, bne_eq_false_iff_eq, decide_eq_false_iff_not] at h
          rcases o with o | o
          · exact absurd (sub _ o) (by simpa using h.1)
          · exact absurd (sub _ o) (by simpa using h.2)
    · rintro ρ ⟨ks2, v4, rfl, ok2, sub, done⟩
      refine ⟨ks2, _, _, rfl, ok2, fun i hi hn => ?_⟩
      by_cases h : i ≤ t
      · exact sub i (hin i h hn)
      · obtain ⟨r, hr, j, hj, e⟩ := sp i (by omega) hn
        have one : r.1.toNat ∈ ks ∨ r.2.1.toNat ∈ ks := by
          rcases e with ⟨e1, e2⟩ | ⟨e1, e2⟩
          · exact .inl (by rw [e1]; exact hin j (by omega) (by omega))
          · exact .inr (by rw [e2]; exact hin j (by omega) (by omega))
        have := done r (by rw [List.take_length]; exact hr) one
        rcases e with ⟨e1, e2⟩ | ⟨e1, e2⟩
        · have q := this.2; rw [e2] at q; exact q
        · have q := this.1; rw [e1] at q; exact q
  · rintro ρ ⟨ks, v3, v4, rfl, ok, hin⟩
    dsimp only [Df.dgN, Df.sSeq, Df.sAsg, Df.sAsgO, Df.sMove, Df.sNext, Df.sRet, Df.eVar, Df.eVarF, Df.eC, Df.oI, Df.oU, Df.aCons, Df.aNil, Df.eCat, Df.eSum, Df.eMaxL, Df.eMinL, Df.eSorted, Df.eList, Df.eTuple, Df.eLz, Df.eLen, Df.eIndex, Df.one, Df.two, Df.nrm, Df.gt, List.set, Df.padE, Df.dat, Df.argL, Df.seqL, Df.seqD, Df.eIxT, Df.eIxL, Df.eIxQ, Df.eCall, Df.eCallB, Df.oI, Df.oC, Df.dNot, Df.dB, Df.eDisp1, Df.eDIn, Df.sStD, Df.eLenD, Df.oEq, Df.dOr, Df.dAnd, Df.dOrB, Df.dAndB, Df.sNever, Df.sCut, Df.iR1, Df.iR2, Df.eInt, Df.sIf, Df.eSlL, Df.oSo, Df.oNo, Df.eLendN, Df.lndE, Df.lndL, Df.lnX, Df.lnx, Df.eLend, Df.dLend, Df.lendE, Df.lendL]
    refine ⟨encK ks, rfl, (show Q (.sh (.bl (decide (((encK ks).length : Int) = (n : Int))))) from ?_)⟩
    have e : (encK ks).length = n := by
      unfold encK
      rw [List.length_map]
      exact okS_full ok fun i hi => hin i (by rw [Int.toNat_natCast]; omega) hi
    rw [e, decide_eq_true rfl]
    exact k
/-! ### help for readings over tables: lists of lists of one's own -/
def tblT (n m : Nat) (E : Nat → Nat → Dt) : Td := .l ((List.range n).map fun i => .l ((List.range m).map fun j => .d (E i j)))
theorem td_isD {t : Tr} {x : Dt} (h : t.td = .d x) : t = .d x := by
  cases t with
  | d y => rw [td_d] at h; cases h; rfl
  | l a ts => rw [td_l] at h; cases h
  | t ts => rw [td_t] at h; cases h
theorem td_isL {t : Tr} {xs : List Td} (h : t.td = .l xs) : ∃ a ts, t = .l a ts ∧ ts.map Tr.td = xs := by
  cases t with
  | d y => rw [td_d] at h; cases h
  | l a ts => rw [td_l] at h; cases h; exact ⟨a, ts, rfl, rfl⟩
  | t ts => rw [td_t] at h; cases h
theorem map_at {α β : Type} {f : α → β} {ts : List α} {xs : List β} {i : Nat} {y : β} (h : ts.map f = xs) (e : xs[i]? = some y) : ∃ t, ts[i]? = some t ∧ f t = y := by
  rw [← h, List.getElem?_map] at e
  exact Option.map_eq_some_iff.mp e
theorem rng_at' {α : Type} {n i : Nat} (f : Nat → α) (h : i < n) : ((List.range n).map f)[i]? = some (f i) := by
  rw [List.getElem?_map, List.getElem?_range h]; rfl
theorem tblT_is {n m : Nat} {E : Nat → Nat → Dt} {t : Tr} (h : t.td = tblT n m E) : ∃ x ts, t = .l x ts ∧ ts.length = n ∧ ∀ a, a < n → ∃ y us, ts[a]? = some (.l y us) ∧ us.length = m ∧ ∀ b, b < m → us[b]? = some (.d (E a b)) := by
  obtain ⟨x, ts, rfl, e⟩ := td_isL h
  refine ⟨x, ts, rfl, by have := congrArg List.length e; simpa using this, fun a ha => ?_⟩
  obtain ⟨c, c1, c2⟩ := map_at e (rng_at' _ ha)
  obtain ⟨y, us, rfl, e2⟩ := td_isL c2
  refine ⟨y, us, c1, by have := congrArg List.length e2; simpa using this, fun b hb => ?_⟩
  obtain ⟨v, v1, v2⟩ := map_at e2 (rng_at' _ hb)
  rw [td_isD v2] at v1
  exact v1
/-- x[a][b] = d -/
theorem tblT_put {n m a b : Nat} {E : Nat → Nat → Dt} {x y : Addr} {ts us : List Tr} {d : Dt} (h : (Tr.l x ts).td = tblT n m E) (ha : ts[a]? = some (.l y us)) (hb : b < m) :
    ((Tr.l x ts).put [a] (.l y (us.set b (.d d)))).td = tblT n m (fun i j => if i = a ∧ j = b then d else E i j) := by
  have hp : (Tr.l x ts).put [a] (.l y (us.set b (.d d))) = .l x (ts.set a (.l y (us.set b (.d d)))) := by
    unfold Tr.put
    show (match ts[a]? with | some c => (Tr.l x ts).put1 (ts.set a (Tr.put c [] (.l y (us.set b (.d d))))) | none => Tr.l x ts) = _
    rw [ha]
    rfl
  rw [hp, td_l]
  obtain ⟨x', ts', e1, hn, hrow⟩ := tblT_is h
  cases e1
  have hal : a < n := by rw [← hn]; exact (List.getElem?_eq_some_iff.mp ha).1
  unfold tblT
  congr 1
  refine List.ext_getElem? fun i => ?_
  rw [List.map_set]
  by_cases e : a = i
  · subst e
    rw [List.getElem?_set_self (by rw [List.length_map, hn]; exact hal), rng_at' _ hal, td_l]
    congr 2
    obtain ⟨y', us', q1, q2, q3⟩ := hrow a hal
    rw [ha] at q1
    cases q1
    refine List.ext_getElem? fun j => ?_
    rw [List.map_set]
    by_cases f : b = j
    · subst f
      rw [List.getElem?_set_self (by rw [List.length_map, q2]; exact hb), rng_at' _ hb, td_d]
      show some (Td.d d) = some (Td.d (if a = a ∧ b = b then d else E a b))
      rw [if_pos ⟨rfl, rfl⟩]
    · rw [List.getElem?_set_ne f]
      by_cases hj : j < m
      · rw [rng_at' _ hj, List.getElem?_map, q3 j hj]
        show some (Tr.d (E a j)).td = some (Td.d (if a = a ∧ j = b then d else E a j))
        rw [td_d, if_neg (fun z => f z.2.symm)]
      · rw [List.getElem?_eq_none (by rw [List.length_map, q2]; omega), List.getElem?_eq_none (by simp; omega)]
  · rw [List.getElem?_set_ne e]
    by_cases hi : i < n
    · obtain ⟨y', us', q1, q2, q3⟩ := hrow i hi
      rw [rng_at' _ hi, List.getElem?_map, q1]
      show some (Tr.l y' us').td = _
      rw [td_l]
      congr 2
      refine List.ext_getElem? fun j => ?_
      by_cases hj : j < m
      · rw [rng_at' _ hj, List.getElem?_map, q3 j hj]
        show some (Tr.d (E i j)).td = some (Td.d (if i = a ∧ j = b then d else E i j))
        rw [td_d, if_neg (fun z => e z.1.symm)]
      · rw [List.getElem?_eq_none (by rw [List.length_map, q2]; omega), List.getElem?_eq_none (by simp; omega)]
    · rw [List.getElem?_eq_none (by rw [List.length_map, hn]; omega), List.getElem?_eq_none (by simp; omega)]
theorem tblT_dat {n m : Nat} {E : Nat → Nat → Dt} {t : Tr} (h : t.td = tblT n m E) : t.dat = .lst ((List.range n).map fun i => .lst ((List.range m).map fun j => E i j)) := by
  rw [← td_dat, h]
  unfold tblT
  rw [tdat_l, List.map_map]
  congr 1
  refine List.map_congr_left fun i _ => ?_
  show (Td.l _).dat = _
  rw [tdat_l, List.map_map]
  congr 1
/-- [f x for x in xs], the elements one's own -/
theorem lcTM {α : Type} {own : List Nat} {src : DI} {tgt : DG} {elt : DE} {ρ1 : Ev} {Qd : Ev → Lo → Prop} (enc : α → Dt) (xs : List α) (f : α → Td) (h0 : nos own ρ1 = true) (hl : xs.length ≤ 100000) (hs : ∀ k : Ev → List Dt → Prop, k ρ1 (xs.map enc) → src ρ1 k)
    (hm : ∀ d ρ (P Q : Ev → Prop), (∀ ρ, P ρ → Q ρ) → tgt d ρ P → tgt d ρ Q)
    (h : ∀ x, x ∈ xs → ∀ (C : Tr → Prop), (∀ t, t.td = f x → C t) → tgt (enc x) ρ1 fun ρ2 => elt ρ2 fun ρ4 l => ρ4 = ρ2 ∧ trq l C)
    (k : ∀ t, t.td = .l (xs.map f) → Qd ρ1 (.tr t)) : eLcT own src tgt dYes elt ρ1 Qd := by
  refine hs _ ⟨⟨h0, by rw [List.length_map]; exact hl⟩, fun i acc => acc.map Tr.td = (xs.take i).map f, rfl, fun i d acc hd e => ?_, fun p acc e => ?_⟩
  · rw [List.getElem?_map] at hd
    obtain ⟨x, hx, rfl⟩ := Option.map_eq_some_iff.mp hd
    refine hm _ _ _ _ (fun ρ q => ⟨fun _ => q, fun z => nomatch z⟩) (h x (List.mem_of_getElem? hx) _ fun t ht => ?_)
    show (acc ++ [t]).map Tr.td = _
    rw [take_get hx, List.map_append, List.map_append, e]
    show _ ++ [t.td] = _ ++ [f x]
    rw [ht]
  · rw [List.length_map, List.take_length] at e
    exact k _ (by rw [td_l, e])

def ab (i : Int) : Int := if i < 0 then -i else i
def wt (r : R4) : Int := ab r.2.2.1 + ab r.2.2.2
def farOf (rs : List R4) : Int := 1 + 2 * (rs.map wt).sum
theorem ab_nn (i : Int) : 0 ≤ ab i ∧ i ≤ ab i ∧ -i ≤ ab i := by
  unfold ab
  split <;> omega
theorem wt_nn (r : R4) : 0 ≤ wt r := by
  unfold wt
  have := ab_nn r.2.2.1
  have := ab_nn r.2.2.2
  omega
theorem sum_mono {f g : R4 → Int} : ∀ rs : List R4, (∀ r, r ∈ rs → f r ≤ g r) → (rs.map f).sum ≤ (rs.map g).sum
  | [], _ => Int.le_refl _
  | r :: rs, h => by
    rw [List.map_cons, List.map_cons, List.sum_cons, List.sum_cons]
    have h1 := h r List.mem_cons_self
    have h2 := sum_mono rs fun x m => h x (List.mem_cons_of_mem _ m)
    omega
theorem sum_gap {f g : R4 → Int} {d : Int} : ∀ (rs : List R4) (r : R4), r ∈ rs → (∀ x, x ∈ rs → f x ≤ g x) → f r + d ≤ g r → (rs.map f).sum + d ≤ (rs.map g).sum
  | x :: rs, r, m, h, e => by
    rw [List.map_cons, List.map_cons, List.sum_cons, List.sum_cons]
    rcases List.mem_cons.mp m with rfl | m
    · have h2 := sum_mono rs fun x m => h x (List.mem_cons_of_mem _ m)
      omega
    · have h1 := h x List.mem_cons_self
      have h2 := sum_gap rs r m (fun x m => h x (List.mem_cons_of_mem _ m)) e
      omega
def mxR (r : R4) : Nat := max r.1.toNat r.2.1.toNat
def upTo (rs : List R4) (k : Nat) : Int := (rs.map fun r => if mxR r ≤ k then wt r else 0).sum
theorem upTo_le (rs : List R4) (k : Nat) : upTo rs k ≤ (rs.map wt).sum := sum_mono rs fun r _ => by
  have := wt_nn r
  show (if mxR r ≤ k then wt r else 0) ≤ wt r
  split <;> omega
theorem upTo_nn (rs : List R4) (k : Nat) : 0 ≤ upTo rs k := by
  have h := sum_mono (f := fun _ => 0) (g := fun r => if mxR r ≤ k then wt r else 0) rs fun r _ => by
    have := wt_nn r
    show 0 ≤ (if mxR r ≤ k then wt r else 0)
    split <;> omega
  have z : ∀ rs : List R4, (rs.map fun _ => (0 : Int)).sum = 0 := fun rs => by
    induction rs with
    | nil => rfl
    | cons r rs ih => rw [List.map_cons, List.sum_cons, ih]; rfl
  rw [z] at h
  exact h
theorem upTo_step {rs : List R4} {r : R4} {j k : Nat} (m : r ∈ rs) (hk : mxR r = k) (hj : j < k) : upTo rs j + wt r ≤ upTo rs k := by
  refine sum_gap rs r m (fun x _ => ?_) ?_
  · have := wt_nn x
    show (if mxR x ≤ j then wt x else 0) ≤ (if mxR x ≤ k then wt x else 0)
    split
    · rw [if_pos (by omega)]; omega
    · split <;> omega
  · show (if mxR r ≤ j then wt r else 0) + wt r ≤ (if mxR r ≤ k then wt r else 0)
    rw [if_neg (by omega), if_pos (by omega)]; omega
theorem far_ok {n : Nat} {rs : List R4} (g : Good n rs) : Sound n rs fun i j => if i = j then 0 else farOf rs := by
  intro w hw
  have key : ∀ k, k < n → w k - w 0 ≤ upTo rs k ∧ w 0 - w k ≤ upTo rs k := fun k => by
    induction k using Nat.strongRecOn with
    | ind k ih =>
      intro hk
      by_cases h0 : k = 0
      · subst h0
        have := upTo_nn rs 0
        omega
      · obtain ⟨r, m, j, hj, e⟩ := g.2.2.2.2 k (by omega) hk
        have h1 := ih j hj (by omega)
        have h2 := hw r m
        have a1 := ab_nn r.2.2.1
        have a2 := ab_nn r.2.2.2
        have mx : mxR r = k := by
          unfold mxR
          rcases e with ⟨e1, e2⟩ | ⟨e1, e2⟩ <;> rw [e1, e2, Int.toNat_natCast, Int.toNat_natCast] <;> omega
        have h3 := upTo_step m mx hj
        have wd : wt r = ab r.2.2.1 + ab r.2.2.2 := rfl
        rcases e with ⟨e1, e2⟩ | ⟨e1, e2⟩
        · rw [e1, e2, Int.toNat_natCast, Int.toNat_natCast] at h2
          omega
        · rw [e1, e2, Int.toNat_natCast, Int.toNat_natCast] at h2
          omega
  intro i j hi hj
  show _ ≤ (if i = j then 0 else farOf rs)
  split
  · rename_i e; subst e; omega
  · have h1 := key i hi
    have h2 := key j hj
    have h3 := upTo_le rs i
    have h4 := upTo_le rs j
    unfold farOf
    omega
theorem tblT_int {n m a b : Nat} {T : Nat → Nat → Int} {v : Int} : tblT n m (fun i j => if i = a ∧ j = b then Dt.int v else Dt.int (T i j)) = tblT n m (fun i j => Dt.int (if i = a ∧ j = b then v else T i j)) := by
  congr 1
  funext i j
  split <;> rfl
theorem sound_set {n a b : Nat} {rs : List R4} {T : Nat → Nat → Int} {v : Int} (h : Sound n rs T) (hv : ∀ w, SatW rs w → w b - w a ≤ v) : Sound n rs (fun i j => if i = a ∧ j = b then (if v < T a b then v else T a b) else T i j) := fun w hw i j hi hj => by
  by_cases e : i = a ∧ j = b
  · obtain ⟨rfl, rfl⟩ := e
    show _ ≤ (if i = i ∧ j = j then (if v < T i j then v else T i j) else T i j)
    rw [if_pos ⟨rfl, rfl⟩]
    have h1 := h w hw i j hi hj
    have h2 := hv w hw
    split <;> omega
  · show _ ≤ (if i = a ∧ j = b then (if v < T a b then v else T a b) else T i j)
    rw [if_neg e]
    exact h w hw i j hi hj
theorem sound_mid {n m : Nat} {rs : List R4} {T : Nat → Nat → Int} (h : Sound n rs T) (hm : m < n) : Sound n rs (fun i j => if T i m + T m j < T i j then T i m + T m j else T i j) := fun w hw i j hi hj => by
  have h1 := h w hw i j hi hj
  have h2 := h w hw i m hi hm
  have h3 := h w hw m j hm hj
  show _ ≤ (if T i m + T m j < T i j then T i m + T m j else T i j)
  split <;> omega
theorem zp_map {α : Type} (f g : α → Dt) : ∀ xs : List α, zp (xs.map f) (xs.map g) = xs.map fun x => Dt.tup [f x, g x]
  | [] => rfl
  | x :: xs => by
    show Dt.tup [f x, g x] :: zp (xs.map f) (xs.map g) = _
    rw [zp_map f g xs]; rfl
theorem ok_greatest_differences (T : Txt P K mg) (B : Tb T base) : FnOk P w K mg base CX0 1 T.a_greatest_differences T.d_greatest_differences ["size", "rules"] (spOf K T.tb cGreat) := by
  refine ok_code T.F_greatest_differences T.hc_greatest_differences sc_greatest_differences (fun vs H Q E h => spOf_len h (by rintro ls Qd ⟨n, rs, rfl, _⟩; rfl)) (fun A outer s H vs Q E hr h => ?_)
  refine ⟨_, PSs.nox ((pss_cons (ps_set (i := 2) sc_greatest_differences.nd rfl (Or.inr rfl) (pe_op op_add pe_int (pe_op op_mul pe_int (pe_gen (x := "rule") eats_sum hr (by rfl) T.z_sum (by decide +kernel) B.tb_greatest_differences rfl ⟨rfl, rfl, by decide +kernel, rfl, rfl, no_free rfl⟩ (pv 1) (q_bi bi_add (q_abs rfl rfl T.z_abs (q_ix (q_var (j := 0) rfl rfl rfl) q_int (fun _ _ => rfl))) (q_abs rfl rfl T.z_abs (q_ix (q_var (j := 0) rfl rfl rfl) q_int (fun _ _ => rfl)))) (fun _ => rfl))))) (pss_cons (ps_setLc (i := 3) (own := [("node", 10)]) (g := gName 10) (tt := tYes) (by rfl) sc_greatest_differences.nd rfl rfl (sw_true rfl rfl rfl (by decide +kernel)) (pi_range1 (by rfl) T.z_range (pa_cons (pv 0) pa_nil)) (blkOk_by (own := [("node", 10)]) (N := ["size", "rules", "far", "table", "first", "second", "low", "high", "middle", "beyond", "node", "other", "row", "known", "more", "rule"]) (sc := defScope s_greatest_differences) (by decide +kernel)) (fun _ _ _ _ _ => pg_name (i := 10) sc_greatest_differences.nd rfl (by first | exact Or.inl rfl | exact Or.inr rfl)) (fun _ _ _ _ _ => pts_nil) (fun _ _ _ _ _ => (pe_lc (own := [("other", 11)]) (g := gName 11) (tt := tYes) (by rfl) sc_greatest_differences.nd (pi_range1 (by rfl) T.z_range (pa_cons (pv 0) pa_nil)) (blkOk_by (own := [("other", 11)]) (N := ["size", "rules", "far", "table", "first", "second", "low", "high", "middle", "beyond", "node", "other", "row", "known", "more", "rule"]) (sc := _) (by dsimp only [cxOf, Cx.nox, Cx.blk, compEnvC, relabel, Env.kindOf, PyProof.Rows.envOfC]; first | decide +kernel | exact (by rfl) | with_unfolding_all rfl)) (fun _ _ _ _ _ => pg_name (i := 11) sc_greatest_differences.nd rfl (by first | exact Or.inl rfl | exact Or.inr rfl)) (fun _ _ _ _ _ => pts_nil) (fun _ _ _ _ _ => (pe_ifExp (pt_cmpR op_eq (pv 10) (pv 11) (nomark _)) pe_int (pv 2)))))) (pss_cons (ps_for PassesOwn.never rfl (pi_tup (pv 1)) (pg_tup rfl (pgs_cons (pg_name (i := 4) sc_greatest_differences.nd rfl (Or.inl rfl)) (pgs_cons (pg_name (i := 5) sc_greatest_differences.nd rfl (Or.inl rfl)) (pgs_cons (pg_name (i := 6) sc_greatest_differences.nd rfl (Or.inl rfl)) (pgs_cons (pg_name (i := 7) sc_greatest_differences.nd rfl (Or.inl rfl)) pgs_nil))))) (pss_cons (ps_asg (pe_callB (call_min2 rfl) (by rfl) T.z_min (by decide +kernel) (pa_cons (pe_ix ix_list (pe_ix ix_list (pv 3) (pv 4) (fun _ _ => rfl)) (pv 5) (fun _ _ => rfl)) (pa_cons (pv 7) pa_nil))) (pg_sub (pe_ix ix_list (pv 3) (pv 4) (fun _ _ => rfl)) (pv 5) set_list)) (pss_one (ps_asg (pe_callB (call_min2 rfl) (by rfl) T.z_min (by decide +kernel) (pa_cons (pe_ix ix_list (pe_ix ix_list (pv 3) (pv 5) (fun _ _ => rfl)) (pv 4) (fun _ _ => rfl)) (pa_cons (pe_un un_neg (pv 6)) pa_nil))) (pg_sub (pe_ix ix_list (pv 3) (pv 5) (fun _ _ => rfl)) (pv 4) set_list))))) (pss_cons (ps_for PassesOwn.never rfl (pi_range1 (by rfl) T.z_range (pa_cons (pv 0) pa_nil)) (pg_name (i := 8) sc_greatest_differences.nd rfl (Or.inr rfl)) (pss_cons (ps_set (i := 9) sc_greatest_differences.nd rfl (Or.inr rfl) (pe_ix ix_list (pv 3) (pv 8) (fun _ _ => rfl))) (pss_one (ps_setLc (i := 3) (own := [("row", 12)]) (g := gName 12) (tt := tYes) (by rfl) sc_greatest_differences.nd rfl rfl (sw_true rfl rfl rfl (by decide +kernel)) (pi_list (pv 3)) (blkOk_by (own := [("row", 12)]) (N := ["size", "rules", "far", "table", "first", "second", "low", "high", "middle", "beyond", "node", "other", "row", "known", "more", "rule"]) (sc := defScope s_greatest_differences) (by decide +kernel)) (fun _ _ _ _ _ => pg_name (i := 12) sc_greatest_differences.nd rfl (by first | exact Or.inl rfl | exact Or.inr rfl)) (fun _ _ _ _ _ => pts_nil) (fun _ _ _ _ _ => (pe_lc (own := [("known", 13), ("more", 14)]) (g := (gTup K 2 (gCons (gName 13) (gCons (gName 14) gNil)))) (tt := tYes) (by rfl) sc_greatest_differences.nd (show PI _ _ _ (RZ.iZipA K _) from RZ.pi_zipA (by rfl) T.z_zip (pa_cons (pv 12) (pa_cons (pv 9) pa_nil))) (blkOk_by (own := [("known", 13), ("more", 14)]) (N := ["size", "rules", "far", "table", "first", "second", "low", "high", "middle", "beyond", "node", "other", "row", "known", "more", "rule"]) (sc := _) (by dsimp only [cxOf, Cx.nox, Cx.blk, compEnvC, relabel, Env.kindOf, PyProof.Rows.envOfC]; first | decide +kernel | exact (by rfl) | with_unfolding_all rfl)) (fun _ _ _ _ _ => pg_tup rfl (pgs_cons (pg_name (i := 13) sc_greatest_differences.nd rfl (by first | exact Or.inl rfl | exact Or.inr rfl)) (pgs_cons (pg_name (i := 14) sc_greatest_differences.nd rfl (by first | exact Or.inl rfl | exact Or.inr rfl)) pgs_nil))) (fun _ _ _ _ _ => pts_nil) (fun _ _ _ _ _ => (pe_callB (call_min2 rfl) (by rfl) T.z_min (by decide +kernel) (pa_cons (pv 13) (pa_cons (pe_op op_add (pe_ix (show IxR _ (rIxL K) from ix_list) (pv 12) (pv 8) (fun _ _ => rfl)) (pv 14)) pa_nil)))))))))) (pss_one (ps_ret (pv 3)))))))), ?_⟩
  refine df_body (m := 16) (ls_seq (ls_asg (i := 2) (le_add le_int (le_mul le_int (le_genS (by show _ ∈ Tbs.tabs _; unfold Txt.tb; simp) (by intro x hx; exact nomatch hx) (le_var (i := 1)) (lq_bin (lq_abs (lq_ix (lq_var (j := 0)) lq_int)) (lq_abs (lq_ix (lq_var (j := 0)) lq_int))))))) (ls_seq (ls_asgO (i := 3) (le_lcT (own := [10]) ((li_r1 (la_cons (le_var (i := 0)) la_nil))).c (lf_name (i := 10)) lt_yes (le_lcT (own := [11]) ((li_r1 (la_cons (le_var (i := 0)) la_nil))).c (lf_name (i := 11)) lt_yes (le_if (lt_T (le_eq (le_var (i := 10)) (le_var (i := 11)))) le_int (le_var (i := 2))) (by decide)) (by decide))) (ls_seq (ls_for (li_tup (le_var (i := 1))) (lf_tup (n := 4) (lf_cons (lf_name (i := 4)) (lf_cons (lf_name (i := 5)) (lf_cons (lf_name (i := 6)) (lf_cons (lf_name (i := 7)) lf_nil))))) (ls_seq (ls_stT (le_ixLK (le_var (i := 3)) (le_var (i := 4))) (le_var (i := 5)) (le_lend (le_min2 (la_cons (le_ixL (le_ixL (le_var (i := 3)) (le_var (i := 4))) (le_var (i := 5))) (la_cons (le_var (i := 7)) la_nil))))) (ls_stT (le_ixLK (le_var (i := 3)) (le_var (i := 5))) (le_var (i := 4)) (le_lend (le_min2 (la_cons (le_ixL (le_ixL (le_var (i := 3)) (le_var (i := 5))) (le_var (i := 4))) (la_cons (le_neg (le_var (i := 6))) la_nil))))))) (ls_seq (ls_for (li_r1 (la_cons (le_var (i := 0)) la_nil)) (lf_name (i := 8)) (ls_seq (ls_asg (i := 9) (le_ixL (le_varT (i := 3)) (le_var (i := 8)))) (ls_asgO (i := 3) (le_lc (own := [12]) (li_list (le_varT (i := 3))) (lf_name (i := 12)) lt_yes (le_lc (own := [13, 14]) (li_zipA (la_cons (le_var (i := 12)) (la_cons (le_var (i := 9)) la_nil))) (lf_tup (n := 2) (lf_cons (lf_name (i := 13)) (lf_cons (lf_name (i := 14)) lf_nil))) lt_yes (le_min2 (la_cons (le_var (i := 13)) (la_cons (le_add (le_ixL (le_var (i := 12)) (le_var (i := 8))) (le_var (i := 14))) la_nil))) (by decide)) (by decide))))) (ls_ret (le_var (i := 3))))))) h rfl (Nat.le_trans (Nat.le_of_eq (spOf_len (n := 2) h (by rintro ls Qd ⟨n, rs, rfl, _⟩; rfl))) (by decide)) ?_
  clear h
  rintro ls Q ⟨n, rs, rfl, good, k⟩
  have g16 := good.2.1
  have g1 := good.1
  have g60 := good.2.2.1
  have gr := good.2.2.2.1
  dsimp only [Df.dgN, Df.sSeq, Df.sAsg, Df.sAsgO, Df.sMove, Df.sNext, Df.sRet, Df.eVar, Df.eVarF, Df.eC, Df.oI, Df.oU, Df.aCons, Df.aNil, Df.eCat, Df.eSum, Df.eMaxL, Df.eMinL, Df.eSorted, Df.eList, Df.eTuple, Df.eLz, Df.eLen, Df.eIndex, Df.one, Df.two, Df.nrm, Df.gt, List.set, Df.padE, Df.dat, Df.argL, Df.seqL, Df.seqD, Df.eIxT, Df.eIxL, Df.eIxQ, Df.eCall, Df.eCallB, Df.oI, Df.oC, Df.dNot, Df.dB, Df.sNever, Df.sCut, Df.eGenB, Df.genE, Df.noE, Df.capE, Df.capL, Df.lendL, Df.lendE, Df.eLend, Df.dLend, Df.eLendN, Df.lndE, Df.lndL, Df.lnX, Df.lnx, List.cons_append, List.nil_append]
  refine ⟨rs.map wt, by simp, fun i d j hd hj => ?_, .inl ⟨by decide, by decide⟩, ?_⟩
  · rw [List.getElem?_map] at hd hj
    cases er : rs[i]? with
    | none => rw [er] at hd; cases hd
    | some r =>
      rw [er] at hd hj
      cases hd
      cases hj
      exact ⟨dR r, rfl, 2, _, rfl, rfl, dR r, rfl, 3, _, rfl, rfl, trivial, rfl⟩
  · refine lcTM dI (List.range n) (fun i => Td.l ((List.range n).map fun j => Td.d (.int (if i = j then 0 else farOf rs)))) rfl (by simp; omega) (fun k h => ⟨⟨by omega, by omega⟩, by rw [rng_dI' rfl]; exact h⟩) (fun d ρ P Q h => h _) (fun x hx C cc => ?_) (fun t ht => ?_)
    · dsimp only [Df.dgN, Df.sSeq, Df.sAsg, Df.sAsgO, Df.sMove, Df.sNext, Df.sRet, Df.eVar, Df.eVarF, Df.eC, Df.oI, Df.oU, Df.aCons, Df.aNil, Df.eCat, Df.eSum, Df.eMaxL, Df.eMinL, Df.eSorted, Df.eList, Df.eTuple, Df.eLz, Df.eLen, Df.eIndex, Df.one, Df.two, Df.nrm, Df.gt, List.set, Df.padE, Df.dat, Df.argL, Df.seqL, Df.seqD, Df.eIxT, Df.eIxL, Df.eIxQ, Df.eCall, Df.eCallB, Df.oI, Df.oC, Df.dNot, Df.dB, Df.eDisp1, Df.eDIn, Df.sStD, Df.eLenD, Df.oEq, Df.dOr, Df.dAnd, Df.dOrB, Df.dAndB, Df.sNever, Df.sCut, Df.iR1, Df.iR2, Df.eInt, Df.sIf, Df.eSlL, Df.oSo, Df.oNo, Df.eLendN, Df.lndE, Df.lndL, Df.lnX, Df.lnx, Df.eLend, Df.dLend, Df.lendE, Df.lendL]
      refine lcTM dI (List.range n) (fun j => Td.d (.int (if x = j then 0 else farOf rs))) rfl (by simp; omega) (fun k h => ⟨⟨by omega, by omega⟩, by rw [rng_dI' rfl]; exact h⟩) (fun d ρ P Q h => h _) (fun y hy C2 c2 => ?_) (fun t ht => ⟨rfl, cc t ht⟩)
      dsimp only [Df.dgN, Df.sSeq, Df.sAsg, Df.sAsgO, Df.sMove, Df.sNext, Df.sRet, Df.eVar, Df.eVarF, Df.eC, Df.oI, Df.oU, Df.aCons, Df.aNil, Df.eCat, Df.eSum, Df.eMaxL, Df.eMinL, Df.eSorted, Df.eList, Df.eTuple, Df.eLz, Df.eLen, Df.eIndex, Df.one, Df.two, Df.nrm, Df.gt, List.set, Df.padE, Df.dat, Df.argL, Df.seqL, Df.seqD, Df.eIxT, Df.eIxL, Df.eIxQ, Df.eCall, Df.eCallB, Df.oI, Df.oC, Df.dNot, Df.dB, Df.eDisp1, Df.eDIn, Df.sStD, Df.eLenD, Df.oEq, Df.dOr, Df.dAnd, Df.dOrB, Df.dAndB, Df.sNever, Df.sCut, Df.iR1, Df.iR2, Df.eInt, Df.sIf, Df.eSlL, Df.oSo, Df.oNo, Df.eLendN, Df.lndE, Df.lndL, Df.lnX, Df.lnx, Df.eLend, Df.dLend, Df.lendE, Df.lendL]
      refine ⟨fun h => ⟨rfl, c2 _ ?_⟩, fun h => ⟨rfl, c2 _ ?_⟩⟩
      · have h : ((x : Int) = (y : Int)) := by simpa [dI] using h
        rw [td_d, if_pos (by omega)]
      · have h : ¬ ((x : Int) = (y : Int)) := by simpa [dI] using h
        rw [td_d, if_neg (by omega)]
        rfl
    · dsimp only [Df.dgN, Df.sSeq, Df.sAsg, Df.sAsgO, Df.sMove, Df.sNext, Df.sRet, Df.eVar, Df.eVarF, Df.eC, Df.oI, Df.oU, Df.aCons, Df.aNil, Df.eCat, Df.eSum, Df.eMaxL, Df.eMinL, Df.eSorted, Df.eList, Df.eTuple, Df.eLz, Df.eLen, Df.eIndex, Df.one, Df.two, Df.nrm, Df.gt, List.set, Df.padE, Df.dat, Df.argL, Df.seqL, Df.seqD, Df.eIxT, Df.eIxL, Df.eIxQ, Df.eCall, Df.eCallB, Df.oI, Df.oC, Df.dNot, Df.dB, Df.eDisp1, Df.eDIn, Df.sStD, Df.eLenD, Df.oEq, Df.dOr, Df.dAnd, Df.dOrB, Df.dAndB, Df.sNever, Df.sCut, Df.iR1, Df.iR2, Df.eInt, Df.sIf, Df.eSlL, Df.oSo, Df.oNo, Df.eLendN, Df.lndE, Df.lndL, Df.lnX, Df.lnx, Df.eLend, Df.dLend, Df.lendE, Df.lendL]
      refine forE dR rs (fun i ρ => ∃ (t : Tr) (T : Nat → Nat → Int) (v4 v5 v6 v7 : Lo), ρ = [.sh (.int (n : Int)), .sh (.tup (rs.map dR)), .sh (.int (farOf rs)), .tr t, v4, v5, v6, v7, .no, .no, .no, .no, .no, .no, .no, .no] ∧ t.td = tblT n n (fun i j => .int (T i j)) ∧ Sound n rs T) ⟨t, _, _, _, _, _, rfl, ht, far_ok good⟩ ?_ ?_
      · rintro i ⟨a, b, lo, hi⟩ ρ hx ⟨t, T, v4, v5, v6, v7, rfl, ht, hs⟩
        have hm : (a, b, lo, hi) ∈ rs := List.mem_of_getElem? hx
        have q := isR_in (gr _ hm)
        obtain ⟨A', rfl⟩ : ∃ A' : Nat, a = (A' : Int) := ⟨a.toNat, by omega⟩
        obtain ⟨B', rfl⟩ : ∃ B' : Nat, b = (B' : Int) := ⟨b.toNat, by omega⟩
        have hA : A' < n := by omega
        have hB : B' < n := by omega
        dsimp only [dR, Df.dgT, Df.dgCons, Df.dgN, Df.dgNil, Df.sSeq, Df.sStT, Df.eLend, Df.lendE, Df.lendL, Df.eI2, Df.aCons, Df.aNil, Df.eIxL, Df.eVar, Df.gt, List.set, Df.dat, Df.nrm, Df.eIxLK, Df.skq, Df.oU]
        have hdt := tblT_dat ht
        obtain ⟨x, ts, rfl, hn, hrow⟩ := tblT_is ht
        obtain ⟨y, us, ta, ul, uat⟩ := hrow A' hA
        have ht2 := tblT_put (d := .int (if hi < T A' B' then hi else T A' B')) ht ta hB
        have gA : (Tr.l x ts).get [A'] = some (.l y us) := by
          show (match ts[A']? with | some c => Tr.get c [] | none => none) = _
          rw [ta]; rfl
        rw [hdt]
        refine ⟨rfl, _, atI_nat (rng_at' _ hA), _, atI_nat (rng_at' _ hB), rfl, (A' : Int), rfl, x, ts, 3, .l x ts, [], ts, .l y us, rfl, rfl, rfl, atI_nat ta, y, us, rfl, (B' : Int), .int (if hi < T A' B' then hi else T A' B'), rfl, rfl, 3, .l x ts, [A'], us, B', rfl, gA, ixN_j (by omega), ?_⟩
        rw [tblT_int] at ht2
        have hs2 : Sound n rs _ := sound_set (a := A') (b := B') (v := hi) hs fun w hw => by
          have := (hw _ hm).2
          simpa using this
        generalize (Tr.l x ts).put [A'] (.l y (us.set B' (.d (.int (if hi < T A' B' then hi else T A' B'))))) = t2 at ht2 ⊢
        have key : ∃ T2 : Nat → Nat → Int, t2.td = tblT n n (fun i j => .int (T2 i j)) ∧ Sound n rs T2 := ⟨_, ht2, hs2⟩
        clear ht2 hs2
        obtain ⟨T2, ht2, hs2⟩ := key
        dsimp only [dR, Df.dgT, Df.dgCons, Df.dgN, Df.dgNil, Df.sSeq, Df.sStT, Df.eLend, Df.lendE, Df.lendL, Df.eI2, Df.aCons, Df.aNil, Df.eIxL, Df.eVar, Df.gt, List.set, Df.dat, Df.nrm, Df.eIxLK, Df.skq, Df.oU]
        have hdt := tblT_dat ht2
        obtain ⟨x, ts, rfl, hn, hrow⟩ := tblT_is ht2
        obtain ⟨y, us, ta, ul, uat⟩ := hrow B' hB
        have ht3 := tblT_put (d := .int (if -lo < T2 B' A' then -lo else T2 B' A')) ht2 ta hA
        have gB : (Tr.l x ts).get [B'] = some (.l y us) := by
          show (match ts[B']? with | some c => Tr.get c [] | none => none) = _
          rw [ta]; rfl
        rw [hdt]
        rw [tblT_int] at ht3
        have hs3 : Sound n rs _ := sound_set (a := B') (b := A') (v := -lo) hs2 fun w hw => by
          have := (hw _ hm).1
          have : lo ≤ w B' - w A' := by simpa using this
          omega
        exact ⟨_, atI_nat (rng_at' _ hB), _, atI_nat (rng_at' _ hA), rfl, (B' : Int), rfl, x, ts, 3, .l x ts, [], ts, .l y us, rfl, rfl, rfl, atI_nat ta, y, us, rfl, (A' : Int), _, rfl, rfl, 3, .l x ts, [B'], us, A', rfl, gB, ixN_j (by omega), _, _, _, _, _, _, rfl, ht3, hs3⟩
      · rintro ρ ⟨t, T, v4, v5, v6, v7, rfl, ht, hs⟩
        dsimp only [Df.dgN, Df.sSeq, Df.sAsg, Df.sAsgO, Df.sMove, Df.sNext, Df.sRet, Df.eVar, Df.eVarF, Df.eC, Df.oI, Df.oU, Df.aCons, Df.aNil, Df.eCat, Df.eSum, Df.eMaxL, Df.eMinL, Df.eSorted, Df.eList, Df.eTuple, Df.eLz, Df.eLen, Df.eIndex, Df.one, Df.two, Df.nrm, Df.gt, List.set, Df.padE, Df.dat, Df.argL, Df.seqL, Df.seqD, Df.eIxT, Df.eIxL, Df.eIxQ, Df.eCall, Df.eCallB, Df.oI, Df.oC, Df.dNot, Df.dB, Df.eDisp1, Df.eDIn, Df.sStD, Df.eLenD, Df.oEq, Df.dOr, Df.dAnd, Df.dOrB, Df.dAndB, Df.sNever, Df.sCut, Df.iR1, Df.iR2, Df.eInt, Df.sIf, Df.eSlL, Df.oSo, Df.oNo, Df.eLendN, Df.lndE, Df.lndL, Df.lnX, Df.lnx, Df.eLend, Df.dLend, Df.lendE, Df.lendL]
        refine ⟨⟨by omega, by omega⟩, ?_⟩
        refine forR 0 _ (fun m ρ => ∃ (L v4 v5 v6 v7 v8 v9 : Lo) (T : Nat → Nat → Int), ρ = [.sh (.int (n : Int)), .sh (.tup (rs.map dR)), .sh (.int (farOf rs)), L, v4, v5, v6, v7, v8, v9, .no, .no, .no, .no, .no, .no] ∧ ((m = 0 ∧ ∃ t : Tr, L = .tr t ∧ t.dat = .lst (tblD n T)) ∨ L = .ow (tblD n T)) ∧ Sound n rs T) ⟨_, _, _, _, _, _, _, T, rfl, .inl ⟨rfl, t, rfl, tblT_dat ht⟩, hs⟩ ?_ ?_
        · rintro m ρ hm ⟨L, v4, v5, v6, v7, v8, v9, T, rfl, hL, hs⟩
          have hmn : m < n := by rw [Int.toNat_natCast] at hm; exact hm
          have go : ∀ ρ0, ρ0 = [.sh (.int (n : Int)), .sh (.tup (rs.map dR)), .sh (.int (farOf rs)), .sh (.lst (tblD n T)), v4, v5, v6, v7, .sh (.int (0 + (m : Int))), .sh (.lst ((List.range n).map fun j => Dt.int (T m j))), .no, .no, .no, .no, .no, .no] → True := fun _ _ => trivial
          rcases hL with ⟨_, t, rfl, hd⟩ | rfl
          · dsimp only [Df.dgN, Df.sSeq, Df.sAsg, Df.sAsgO, Df.eIxL, Df.eVarT, Df.eVar, Df.gt, List.set, Df.dat, Df.nrm]
            rw [hd]
            refine ⟨_, (by rw [Int.zero_add]; exact atI_nat (rng_at' _ hmn)), ?_⟩
            refine lcM (fun i => Dt.lst ((List.range n).map fun j => Dt.int (T i j))) (List.range n) (fun i => Dt.lst ((List.range n).map fun j => Dt.int (if T i m + T m j < T i j then T i m + T m j else T i j))) rfl (by simp; omega) (fun k h => h) (fun d ρ P Q h => h _) (fun i hi C c => ?_) ?_
            · dsimp only [Df.dgN, List.set]
              refine lcM (fun j => Dt.tup [.int (T i j), .int (T m j)]) (List.range n) (fun j => Dt.int (if T i m + T m j < T i j then T i m + T m j else T i j)) rfl (by simp; omega) (fun k h => .inl ⟨_, _, rfl, rfl, by rw [zp_map]; exact h⟩) dg2_mono (fun j hj C2 c2 => ?_) ⟨rfl, c⟩
              exact ⟨rfl, .int (T i m), (by rw [Int.zero_add]; exact atI_nat (rng_at' _ hmn)), rfl, c2⟩
            · exact ⟨_, _, _, _, _, _, _, _, rfl, .inr rfl, sound_mid hs hmn⟩
          · dsimp only [Df.dgN, Df.sSeq, Df.sAsg, Df.sAsgO, Df.eIxL, Df.eVarT, Df.eVar, Df.gt, List.set, Df.dat, Df.nrm]
            refine ⟨_, (by rw [Int.zero_add]; exact atI_nat (rng_at' _ hmn)), ?_⟩
            refine lcM (fun i => Dt.lst ((List.range n).map fun j => Dt.int (T i j))) (List.range n) (fun i => Dt.lst ((List.range n).map fun j => Dt.int (if T i m + T m j < T i j then T i m + T m j else T i j))) rfl (by simp; omega) (fun k h => h) (fun d ρ P Q h => h _) (fun i hi C c => ?_) ?_
            · dsimp only [Df.dgN, List.set]
              refine lcM (fun j => Dt.tup [.int (T i j), .int (T m j)]) (List.range n) (fun j => Dt.int (if T i m + T m j < T i j then T i m + T m j else T i j)) rfl (by simp; omega) (fun k h => .inl ⟨_, _, rfl, rfl, by rw [zp_map]; exact h⟩) dg2_mono (fun j hj C2 c2 => ?_) ⟨rfl, c⟩
              exact ⟨rfl, .int (T i m), (by rw [Int.zero_add]; exact atI_nat (rng_at' _ hmn)), rfl, c2⟩
            · exact ⟨_, _, _, _, _, _, _, _, rfl, .inr rfl, sound_mid hs hmn⟩
        · rintro ρ ⟨L, v4, v5, v6, v7, v8, v9, T, rfl, hL, hs⟩
          rcases hL with ⟨h0, _⟩ | rfl
          · omega
          · exact k T hs
theorem ok_FrameI__initI (T : Txt P K mg) (B : Tb T base) : FnOk P w K mg base CX0 5 T.a_FrameI__initI T.d_FrameI__initI ["self", "size", "rules"] (spIn K T.tb T.C_Frame cFrame) := by
  refine ok_code T.F_FrameI__initI T.hc_FrameI__initI sc_FrameI__initI (fun vs H Q E h => spIn_len h (by rintro ls Qd ⟨n, rs, q, rfl, _⟩; rfl)) (fun A outer s H vs Q E hr h => ?_)
  refine ⟨_, PSs.nox ((pss_cons (ps_set (i := 3) sc_FrameI__initI.nd rfl (Or.inl rfl) (pe_callTy call_tuple_of (by rfl) T.z_tuple (by decide +kernel) (pa_cons (pe_lc (own := [("rule", 5)]) (g := gName 5) (tt := tYes) (by rfl) sc_FrameI__initI.nd (pi_or (pi_list (pv 2)) (pi_tup (pv 2))) (blkOk_by (own := [("rule", 5)]) (N := ["self", "size", "rules", "kept", "table", "rule", "node"]) (sc := defScope s_FrameI__initI) (by decide +kernel)) (fun _ _ _ _ _ => pg_name (i := 5) sc_FrameI__initI.nd rfl (by first | exact Or.inl rfl | exact Or.inr rfl)) (fun _ _ _ _ _ => pts_nil) (fun _ _ _ _ _ => (pe_callTy (show CallR _ (.type "tuple") (Gc.rTupOf K) from call_tuple_of) (by rfl) T.z_tuple (by decide +kernel) (pa_cons (pv 5) pa_nil)))) pa_nil))) (pss_cons (ps_if (pt_not (pt_chain op_le op_le pe_int (pv 1) (Gc.pe_globI (i := 16) rfl T.k_MOST_NODES))) (pss_one ps_never) pss_nil) (pss_cons (ps_if (PW.pt (pw_or (pt_cmpR op_gt (pe_callB call_len_seq (by rfl) T.z_len (by decide +kernel) (pa_cons (pv 3) pa_nil)) (Gc.pe_globI (i := 60) rfl T.k_MOST_RULES) (nomark _)) (pw_or1 (pt_not (pt_val (Gc.pe_genB (N' := (["rule"] : List Str) ++ (["size"] : List Str)) (nt := List.length (["rule"] : List Str)) (cap := [1]) (g := (gName 0)) (tt := tYes) Gc.eats_all hr (by rfl) T.z_all (by decide +kernel) B.tb_FrameI__initI rfl ⟨rfl, rfl, by decide +kernel, rfl, some_free rfl⟩ (Gc.Cap.of (ts := (["rule"] : List Str)) (.cons rfl rfl (Or.inl rfl) (.inr (.inl rfl)) .nil)) (pi_tup (pv 3)) ⟨fun _ _ _ _ _ _ => (pg_name (i := 0) (show (["rule", "size"] : List Str).Nodup from by decide +kernel) rfl (Or.inl rfl)), fun _ _ _ _ _ _ => (pts_nil), fun _ _ _ _ _ _ => ((pe_call (ok_is_rule T B) ((hr.in1.in1.deeper _).mono (by decide)) (by rfl) T.m_is_rule T.F_is_rule.kp T.b_is_rule .nil pass0 (pa_cons (pv 1) (pa_cons (pv 0) pa_nil))))⟩ (fun _ => rfl))))))) (pss_one ps_never) pss_nil) (pss_cons (ps_if (pt_not (pt_val (pe_call (ok_is_connected T B) (hr.mono (by decide)) (by rfl) T.m_is_connected T.F_is_connected.kp T.b_is_connected .nil pass0 (pa_cons (pv 1) (pa_cons (pv 3) pa_nil))))) (pss_one ps_never) pss_nil) (pss_cons (ps_set (i := 4) sc_FrameI__initI.nd rfl (Or.inr rfl) (pe_call (ok_greatest_differences T B) (hr.mono (by decide)) (by rfl) T.m_greatest_differences T.F_greatest_differences.kp T.b_greatest_differences .nil pass0 (pa_cons (pv 1) (pa_cons (pv 3) pa_nil)))) (pss_cons (ps_if (pt_val (Gc.pe_genB (N' := (["node"] : List Str) ++ (["table"] : List Str)) (nt := List.length (["node"] : List Str)) (cap := [4]) (g := (gName 0)) (tt := tYes) Gc.eats_any hr (by rfl) T.z_any (by decide +kernel) B.tb_FrameI__initI rfl ⟨rfl, rfl, by decide +kernel, rfl, some_free rfl⟩ (Gc.Cap.of (ts := (["node"] : List Str)) (.cons rfl rfl (Or.inl rfl) (.inr (.inl rfl)) .nil)) (pi_range1 (by rfl) T.z_range (pa_cons (pv 1) pa_nil)) ⟨fun _ _ _ _ _ _ => (pg_name (i := 0) (show (["node", "table"] : List Str).Nodup from by decide +kernel) rfl (Or.inl rfl)), fun _ _ _ _ _ _ => (pts_nil), fun _ _ _ _ _ _ => ((pe_cmpR op_lt (pe_ix (show IxR _ (rIxL K) from ix_list) (pe_ix (show IxR _ (rIxL K) from ix_list) (pv 1) (pv 0) (fun _ _ => rfl)) (pv 0) (fun _ _ => rfl)) pe_int (nomark _)))⟩ (fun _ => rfl))) (pss_one ps_never) pss_nil) (pss_cons (ps_fld (pv 0) (pv 1) rfl) (pss_cons (ps_fld (pv 0) (pv 3) rfl) (pss_one (ps_fld (pv 0) (pv 4) rfl))))))))))), ?_⟩
  refine df_init (m := 7) (ls_seq (ls_asg (i := 3) (le_tuple (la_cons (le_lc (own := [5]) (li_or (i := 2)) (lf_name (i := 5)) lt_yes (le_tuple (la_cons (le_var (i := 5)) la_nil)) (by decide)) la_nil))) (ls_seq (ls_if (lt_not (lt_T (le_chain (g := (fun i j => decide (i ≤ j))) (g' := (fun i j => decide (i ≤ j))) le_int (le_var (i := 1)) le_int))) ls_never ls_next) (ls_seq (ls_if (lt_or (lt_T (le_gt (le_len (la_cons (le_var (i := 3)) la_nil)) le_int)) (lt_not (lt_B (le_genB (nt := 1) (cap := [1]) (by show _ ∈ Tbs.tabs _; unfold Txt.tb; simp) (by intro x hx; exact nomatch hx) (li_tup (le_var (i := 3))) (lf_name (i := 0)) lt_yes (le_call0 (la_cons (le_var (i := 1)) (la_cons (le_var (i := 0)) la_nil))) (by decide))))) ls_never ls_next) (ls_seq (ls_if (lt_not (lt_B (le_call0 (la_cons (le_var (i := 1)) (la_cons (le_var (i := 3)) la_nil))))) ls_never ls_next) (ls_seq (ls_asg (i := 4) (le_call0 (la_cons (le_var (i := 1)) (la_cons (le_var (i := 3)) la_nil)))) (ls_seq (ls_if (lt_B (le_genB (nt := 1) (cap := [4]) (by show _ ∈ Tbs.tabs _; unfold Txt.tb; simp) (by intro x hx; exact nomatch hx) (li_r1 (la_cons (le_var (i := 1)) la_nil)) (lf_name (i := 0)) lt_yes (le_lt (le_ixL (le_ixL (le_var (i := 1)) (le_var (i := 0))) (le_var (i := 0))) le_int) (by decide))) ls_never ls_next) (ls_seq (ls_fld (pre := []) T.cl_Frame T.n_Frame_size (by decide +kernel) (by decide) (le_var (i := 1))) (ls_seq (ls_fld (pre := ["size"]) T.cl_Frame T.n_Frame_rules (by decide +kernel) (by decide) (le_var (i := 3))) (ls_fld (pre := ["size", "rules"]) T.cl_Frame T.n_Frame__table (by decide +kernel) (by decide) (le_var (i := 4))))))))))) h rfl (Nat.le_trans (Nat.le_of_eq (spIn_len (n := 2) h (by rintro ls Qd ⟨n, rs, q, rfl, _⟩; rfl))) (by decide)) ?_
  clear h
  rintro pp ls Q ⟨n, rs, q, rfl, ⟨hq, good, wx⟩, k⟩
  have g16 := good.2.1
  have g1 := good.1
  have g60 := good.2.2.1
  have gr := good.2.2.2.1
  rcases hq with rfl | rfl
  · dsimp only [Df.dgN, Df.sSeq, Df.sAsg, Df.sAsgO, Df.sMove, Df.sNext, Df.sRet, Df.eVar, Df.eVarF, Df.eC, Df.oI, Df.oU, Df.aCons, Df.aNil, Df.eCat, Df.eSum, Df.eMaxL, Df.eMinL, Df.eSorted, Df.eList, Df.eTuple, Df.eLz, Df.eLen, Df.eIndex, Df.one, Df.two, Df.nrm, Df.gt, List.set, Df.padE, Df.dat, Df.argL, Df.seqL, Df.seqD, Df.eIxT, Df.eIxL, Df.eIxQ, Df.eCall, Df.eCallB, Df.oI, Df.oC, Df.dNot, Df.dB, Df.eDisp1, Df.eDIn, Df.sStD, Df.eLenD, Df.oEq, Df.dOr, Df.dAnd, Df.dOrB, Df.dAndB, Df.sNever, Df.sCut, Df.iR1, Df.iR2, Df.eInt, Df.sIf, Df.eSlL, Df.oSo, Df.oNo, Df.eLendN, Df.lndE, Df.lndL, Df.lnX, Df.lnx, Df.eLend, Df.dLend, Df.lendE, Df.lendL]
    refine lcM dR rs dR rfl (by omega) (fun k h => h) (fun d ρ P Q h => h _) (fun r hr C c => ⟨rfl, c⟩) ?_
    dsimp only [Df.dgN, Df.sSeq, Df.sAsg, Df.sAsgO, Df.sMove, Df.sNext, Df.sRet, Df.eVar, Df.eVarF, Df.eC, Df.oI, Df.oU, Df.aCons, Df.aNil, Df.eCat, Df.eSum, Df.eMaxL, Df.eMinL, Df.eSorted, Df.eList, Df.eTuple, Df.eLz, Df.eLen, Df.eIndex, Df.one, Df.two, Df.nrm, Df.gt, List.set, Df.padE, Df.dat, Df.argL, Df.seqL, Df.seqD, Df.sAsgG, Df.dgT, Df.dgCons, Df.dgNil, Df.eChain, Df.eAnd, Df.eOr, Df.oEq, Df.eFld, Df.dOr, Df.dAnd, Df.dOrB, Df.dAndB, Df.eInt, Df.eSlL, Df.oSo, Df.oNo, Df.eI2, Df.eI1, Df.oIs, Df.sIf, Df.eIxQ, Df.iT, Df.dYes, Df.sNever, Df.sCut, Df.eGenB, Df.genE, Df.noE, Df.capE, Df.capL, Df.lendL, Df.lendE, Df.eLend, Df.dLend, Df.eLendN, Df.lndE, Df.lndL, Df.lnX, Df.lnx, List.cons_append, List.nil_append, Df.sFor, Df.iL, Df.iQ, Df.iR1, Df.iR2, Df.eIxT, Df.eIxL, Df.eCall, Df.eCallB, Df.oC, Df.dNot, Df.dB, Df.sApp, Df.sStD, Df.eDIn, Df.eDisp1, Df.eLenD]
    refine ⟨decide ((n : Int) ≤ 16), fun _ => ⟨rfl, 16, rfl, rfl⟩, fun h => ?_, fun _ => ⟨false, fun _ => ⟨rs.map (isR n), fun i j => j = i, rfl, fun i j d hd e => ?_, fun j e => by rw [e, List.length_map, List.length_map], rfl, ?_⟩, fun h => ?_, fun _ => ⟨n, rs, rfl, good, ⟨(fun h => by cases h), fun _ => ⟨n, rs, rfl, good, fun Tb hT => ⟨⟨by omega, by omega⟩, (List.range n).map (fun i => decide (Tb i i < 0)), fun i j => j = i, rfl, fun i j d hd e => ?_, fun j e => by rw [e, rng_len, List.length_map, List.length_range, Int.toNat_natCast], fun h => ?_, fun _ => ⟨⟨rfl, rfl⟩, ⟨⟨rfl, rfl⟩, ⟨⟨rfl, rfl⟩, ⟨⟨rfl, rfl⟩, k Tb hT⟩⟩⟩⟩⟩⟩⟩⟩⟩⟩
    · simp at h
      omega
    · subst e
      rw [List.getElem?_map] at hd
      cases er : rs[j]? with
      | none => rw [er] at hd; cases hd
      | some r =>
        rw [er] at hd
        cases hd
        exact ⟨fun _ => ⟨(n : Int), r, rfl, isR n r, rfl, by rw [List.getElem?_map, er]; rfl, rfl⟩, fun z => nomatch z⟩
    · have : (rs.map (isR n)).all id = true := by
        rw [List.all_map, List.all_eq_true]
        exact fun r m => gr r m
      rw [this]; rfl
    · simp at h
      omega
    · subst e
      obtain ⟨hi, rfl⟩ := rng_at hd
      have hi : j < n := by rw [Int.toNat_natCast] at hi; exact hi
      refine ⟨fun _ => ⟨.lst ((List.range n).map fun x => Dt.int (Tb j x)), ?_, .int (Tb j j), ?_, decide (Tb j j < 0), rfl, ?_, rfl⟩, fun z => nomatch z⟩
      · rw [Int.zero_add]
        exact atI_nat (by unfold tblD; rw [List.getElem?_map, List.getElem?_range hi]; rfl)
      · rw [Int.zero_add]
        exact atI_nat (by rw [List.getElem?_map, List.getElem?_range hi]; rfl)
      · rw [List.getElem?_map, List.getElem?_range hi]; rfl
    · obtain ⟨w, hw⟩ := wx
      rw [List.any_map, List.any_eq_true] at h
      obtain ⟨i, m, q⟩ := h
      have := hT w hw i i (List.mem_range.mp m) (List.mem_range.mp m)
      have q : Tb i i < 0 := by simpa using q
      omega
  · dsimp only [Df.dgN, Df.sSeq, Df.sAsg, Df.sAsgO, Df.sMove, Df.sNext, Df.sRet, Df.eVar, Df.eVarF, Df.eC, Df.oI, Df.oU, Df.aCons, Df.aNil, Df.eCat, Df.eSum, Df.eMaxL, Df.eMinL, Df.eSorted, Df.eList, Df.eTuple, Df.eLz, Df.eLen, Df.eIndex, Df.one, Df.two, Df.nrm, Df.gt, List.set, Df.padE, Df.dat, Df.argL, Df.seqL, Df.seqD, Df.eIxT, Df.eIxL, Df.eIxQ, Df.eCall, Df.eCallB, Df.oI, Df.oC, Df.dNot, Df.dB, Df.eDisp1, Df.eDIn, Df.sStD, Df.eLenD, Df.oEq, Df.dOr, Df.dAnd, Df.dOrB, Df.dAndB, Df.sNever, Df.sCut, Df.iR1, Df.iR2, Df.eInt, Df.sIf, Df.eSlL, Df.oSo, Df.oNo, Df.eLendN, Df.lndE, Df.lndL, Df.lnX, Df.lnx, Df.eLend, Df.dLend, Df.lendE, Df.lendL]
    refine lcM dR rs dR rfl (by omega) (fun k h => h) (fun d ρ P Q h => h _) (fun r hr C c => ⟨rfl, c⟩) ?_
    dsimp only [Df.dgN, Df.sSeq, Df.sAsg, Df.sAsgO, Df.sMove, Df.sNext, Df.sRet, Df.eVar, Df.eVarF, Df.eC, Df.oI, Df.oU, Df.aCons, Df.aNil, Df.eCat, Df.eSum, Df.eMaxL, Df.eMinL, Df.eSorted, Df.eList, Df.eTuple, Df.eLz, Df.eLen, Df.eIndex, Df.one, Df.two, Df.nrm, Df.gt, List.set, Df.padE, Df.dat, Df.argL, Df.seqL, Df.seqD, Df.sAsgG, Df.dgT, Df.dgCons, Df.dgNil, Df.eChain, Df.eAnd, Df.eOr, Df.oEq, Df.eFld, Df.dOr, Df.dAnd, Df.dOrB, Df.dAndB, Df.eInt, Df.eSlL, Df.oSo, Df.oNo, Df.eI2, Df.eI1, Df.oIs, Df.sIf, Df.eIxQ, Df.iT, Df.dYes, Df.sNever, Df.sCut, Df.eGenB, Df.genE, Df.noE, Df.capE, Df.capL, Df.lendL, Df.lendE, Df.eLend, Df.dLend, Df.eLendN, Df.lndE, Df.lndL, Df.lnX, Df.lnx, List.cons_append, List.nil_append, Df.sFor, Df.iL, Df.iQ, Df.iR1, Df.iR2, Df.eIxT, Df.eIxL, Df.eCall, Df.eCallB, Df.oC, Df.dNot, Df.dB, Df.sApp, Df.sStD, Df.eDIn, Df.eDisp1, Df.eLenD]
    refine ⟨decide ((n : Int) ≤ 16), fun _ => ⟨rfl, 16, rfl, rfl⟩, fun h => ?_, fun _ => ⟨false, fun _ => ⟨rs.map (isR n), fun i j => j = i, rfl, fun i j d hd e => ?_, fun j e => by rw [e, List.length_map, List.length_map], rfl, ?_⟩, fun h => ?_, fun _ => ⟨n, rs, rfl, good, ⟨(fun h => by cases h), fun _ => ⟨n, rs, rfl, good, fun Tb hT => ⟨⟨by omega, by omega⟩, (List.range n).map (fun i => decide (Tb i i < 0)), fun i j => j = i, rfl, fun i j d hd e => ?_, fun j e => by rw [e, rng_len, List.length_map, List.length_range, Int.toNat_natCast], fun h => ?_, fun _ => ⟨⟨rfl, rfl⟩, ⟨⟨rfl, rfl⟩, ⟨⟨rfl, rfl⟩, ⟨⟨rfl, rfl⟩, k Tb hT⟩⟩⟩⟩⟩⟩⟩⟩⟩⟩
    · simp at h
      omega
    · subst e
      rw [List.getElem?_map] at hd
      cases er : rs[j]? with
      | none => rw [er] at hd; cases hd
      | some r =>
        rw [er] at hd
        cases hd
        exact ⟨fun _ => ⟨(n : Int), r, rfl, isR n r, rfl, by rw [List.getElem?_map, er]; rfl, rfl⟩, fun z => nomatch z⟩
    · have : (rs.map (isR n)).all id = true := by
        rw [List.all_map, List.all_eq_true]
        exact fun r m => gr r m
      rw [this]; rfl
    · simp at h
      omega
    · subst e
      obtain ⟨hi, rfl⟩ := rng_at hd
      have hi : j < n := by rw [Int.toNat_natCast] at hi; exact hi
      refine ⟨fun _ => ⟨.lst ((List.range n).map fun x => Dt.int (Tb j x)), ?_, .int (Tb j j), ?_, decide (Tb j j < 0), rfl, ?_, rfl⟩, fun z => nomatch z⟩
      · rw [Int.zero_add]
        exact atI_nat (by unfold tblD; rw [List.getElem?_map, List.getElem?_range hi]; rfl)
      · rw [Int.zero_add]
        exact atI_nat (by rw [List.getElem?_map, List.getElem?_range hi]; rfl)
      · rw [List.getElem?_map, List.getElem?_range hi]; rfl
    · obtain ⟨w, hw⟩ := wx
      rw [List.any_map, List.any_eq_true] at h
      obtain ⟨i, m, q⟩ := h
      have := hT w hw i i (List.mem_range.mp m) (List.mem_range.mp m)
      have q : Tb i i < 0 := by simpa using q
      omega

theorem atI_int {ns : List Int} {j : Nat} (h : j < ns.length) : atI (ns.map V.int) (j : Int) = some (.int ns[j]) :=
  atI_nat (by rw [List.getElem?_map, List.getElem?_eq_getElem h]; rfl)
theorem sz1 : 1 ≤ sizeLine := by decide
theorem sz2 : 2 ≤ sizeLine := by decide
theorem sz3 : 3 ≤ sizeLine := by decide
theorem sz4 : 4 ≤ sizeLine := by decide
theorem sz5 : 5 ≤ sizeLine := by decide
theorem sz6 : 6 ≤ sizeLine := by decide
theorem ok0_law_source (T : Txt P K mg) (B : Tb T base) : FnOk P w K mg base CX0 1 T.a_law_source T.d_law_source ["_law_script", "_law_place"] (spSource K) := by
  refine T.F_law_source.ok sc_law_source (fun vs H Q E h => ?_) (fun cdv A outer s H vs Q E hr h => ?_)
  · obtain ⟨a, ns, p, rfl, _⟩ := h
    rfl
  refine ⟨_, (pss_cons (ps_if (pt_cmpR op_lt (pv 1) (pe_callB call_len_seq (by rfl) T.z_len (by decide +kernel) (pa_cons (pv 0) pa_nil)) (nomark _)) (pss_one (ps_ret (pe_lst (pa_cons (pe_callB call_abs (by rfl) T.z_abs (by decide +kernel) (pa_cons (pe_ix ix_list (pv 0) (pv 1) (fun _ _ => rfl)) pa_nil)) (pa_cons (pv 1) pa_nil))))) pss_nil) (pss_cons (ps_if (pt_cmpR op_eq (pe_callB call_len_seq (by rfl) T.z_len (by decide +kernel) (pa_cons (pv 0) pa_nil)) pe_int (nomark _)) (pss_one (ps_ret (pe_lst (pa_cons (pe_op op_add (pe_op op_mul pe_int (pv 1)) pe_int) (pa_cons (pv 1) pa_nil))))) pss_nil) (pss_one (ps_ret (pe_lst (pa_cons (pe_op op_add (pe_op op_add (pe_op op_mul pe_int (pe_callB call_abs (by rfl) T.z_abs (by decide +kernel) (pa_cons (pe_ix ix_list (pv 0) (pe_op op_mod (pe_callTy call_int1 (by rfl) T.z_int (by decide +kernel) (pa_cons (pv 1) pa_nil)) (pe_callB call_len_seq (by rfl) T.z_len (by decide +kernel) (pa_cons (pv 0) pa_nil))) (fun _ _ => rfl)) pa_nil))) (pe_op op_mul pe_int (pv 1))) pe_int) (pa_cons (pv 1) pa_nil))))))), ?_⟩
  obtain ⟨a, ns, p, rfl, hS, hp, k⟩ := h
  refine ⟨_, rfl, _, rfl, a, _, rfl, .inl hS, _, _, rfl, rfl, _, rfl, ?_⟩
  refine ite2 (fun c => ?_) (fun c => ?_)
  · have c := of_decide_eq_true c
    rw [List.length_map] at c
    obtain ⟨j, rfl⟩ := Int.eq_ofNat_of_zero_le hp
    have hj : j < ns.length := by omega
    refine ⟨_, rfl, _, rfl, a, _, _, _, rfl, rfl, hS, atI_int hj, _, rfl, _, rfl, sz2, fun l hl => ?_⟩
    exact k l _ hl (Same.new hl) ⟨_, _, upd_same⟩
  · refine ⟨_, rfl, a, _, rfl, .inl hS, rfl, _, rfl, ?_⟩
    refine ite2 (fun c2 => ?_) (fun c2 => ?_)
    · refine ⟨_, rfl, _, _, rfl, rfl, .inl ⟨by decide, by decide⟩, _, _, rfl, rfl, _, rfl, sz2, fun l hl => ?_⟩
      exact k l _ hl (Same.new hl) ⟨_, _, upd_same⟩
    · have c2 := of_decide_eq_false (Bool.eq_false_iff.mpr c2)
      have hpos : 0 < ns.length := by
        cases ns with
        | nil => exact absurd rfl c2
        | cons _ _ => exact Nat.succ_pos _
      have hm : (0 : Int) < ((ns.map V.int).length : Int) := by rw [List.length_map]; omega
      have h0 := Int.emod_nonneg p (Int.ne_of_gt hm)
      have h1 := Int.emod_lt_of_pos p hm
      obtain ⟨j, hj⟩ := Int.eq_ofNat_of_zero_le h0
      rw [List.length_map] at h1 hj
      have hj2 : j < ns.length := by omega
      refine ⟨_, rfl, _, rfl, .inl ⟨_, rfl, _, rfl, a, _, rfl, .inl hS, _, _, rfl, rfl, hm, ?_⟩⟩
      refine ⟨a, _, _, _, rfl, rfl, hS, (by rw [List.length_map, hj]; exact atI_int hj2), _, rfl, _, _, rfl, rfl, .inl ⟨by decide, by decide⟩, _, rfl, _, _, rfl, rfl, .inl ⟨by decide, by decide⟩, _, _, rfl, rfl, _, _, rfl, rfl, _, rfl, sz2, fun l hl => ?_⟩
      exact k l _ hl (Same.new hl) ⟨_, _, upd_same⟩
theorem ok0_law_draw (T : Txt P K mg) (B : Tb T base) : FnOk P w K mg base CX0 1 T.a_law_draw T.d_law_draw ["_law_source_here", "_law_size"] (spDraw) := by
  refine T.F_law_draw.ok sc_law_draw (fun vs H Q E h => ?_) (fun cdv A outer s H vs Q E hr h => ?_)
  · obtain ⟨a, n, rfl, _⟩ := h
    rfl
  refine ⟨_, (pss_cons (ps_set (i := 2) sc_law_draw.nd rfl (Or.inl rfl) (pe_ix ix_list (pv 0) pe_int (fun _ _ => rfl))) (pss_cons (ps_if (pt_cmpR op_ge (pv 2) (pe_op op_pow pe_int pe_int) (nomark _)) (pss_cons (ps_asg (pe_op op_fdiv (pv 2) (pv 1)) (pg_sub (pv 0) pe_int set_list)) (pss_one (ps_ret (pe_op op_mod (pe_callTy call_int1 (by rfl) T.z_int (by decide +kernel) (pa_cons (pv 2) pa_nil)) (pv 1))))) pss_nil) (pss_cons (ps_asg (pe_op op_add (pe_ix ix_list (pv 0) pe_int (fun _ _ => rfl)) pe_int) (pg_sub (pv 0) pe_int set_list)) (pss_cons (ps_set (i := 3) sc_law_draw.nd rfl (Or.inl rfl) (pe_op op_mod (pe_callTy call_int1 (by rfl) T.z_int (by decide +kernel) (pa_cons (pe_op op_add (pe_op op_add (pv 2) (pe_op op_mul pe_int (pe_ix ix_list (pv 0) pe_int (fun _ _ => rfl)))) pe_int) pa_nil)) pe_int)) (pss_cons (ps_set (i := 3) sc_law_draw.nd rfl (Or.inl rfl) (pe_op op_mod (pe_callTy call_int1 (by rfl) T.z_int (by decide +kernel) (pa_cons (pe_op op_mul (pv 3) (pe_op op_add (pv 3) pe_int)) pa_nil)) pe_int)) (pss_cons (ps_set (i := 3) sc_law_draw.nd rfl (Or.inl rfl) (pe_op op_mod (pe_callTy call_int1 (by rfl) T.z_int (by decide +kernel) (pa_cons (pe_op op_add (pe_op op_mul (pv 3) (pe_op op_add (pv 3) pe_int)) (pe_op op_mul pe_int (pe_ix ix_list (pv 0) pe_int (fun _ _ => rfl)))) pa_nil)) pe_int)) (pss_one (ps_ret (pe_op op_mod (pe_callTy call_int1 (by rfl) T.z_int (by decide +kernel) (pa_cons (pe_op op_fdiv (pv 3) pe_int) pa_nil)) (pv 1)))))))))), ?_⟩
  obtain ⟨a, n, rfl, ⟨c, p, hS⟩, n0, n1, k⟩ := h
  refine ⟨_, rfl, _, _, _, _, rfl, rfl, .inl (.inl hS), rfl, ?_⟩
  refine ⟨_, rfl, _, _, rfl, rfl, ⟨by decide, by decide, by decide⟩, _, _, rfl, rfl, _, rfl, ?_⟩
  refine ite2 (fun c1 => ?_) (fun c1 => ?_)
  · refine ⟨_, rfl, _, rfl, _, _, rfl, rfl, ⟨n0, n1⟩, _, rfl, _, _, _, 0, rfl, rfl, hS, rfl, ?_⟩
    refine ⟨_, rfl, .inl ⟨_, rfl, _, rfl, _, _, rfl, rfl, n0, ?_⟩⟩
    exact k _ _ (Int.emod_nonneg c (Int.ne_of_gt n0)) (Int.emod_lt_of_pos c n0) ⟨_, _, upd_same⟩ But.upd
  · refine ⟨_, rfl, _, _, _, _, rfl, rfl, .inl (.inl hS), rfl, _, _, rfl, rfl, _, rfl, _, _, _, 1, rfl, rfl, hS, rfl, ?_⟩
    have hS1 : upd H a (.lst [.int c, .int (p + 1)]) a = some (.lst [.int c, .int (p + 1)]) := upd_same
    refine ⟨_, rfl, _, rfl, _, _, _, _, rfl, rfl, .inl (.inl hS1), rfl, _, _, rfl, rfl, .inl ⟨by decide, by decide⟩, _, _, rfl, rfl, _, _, rfl, rfl, .inl ⟨_, rfl, _, _, rfl, rfl, (show (0 : Int) < 2147483647 by decide), ?_⟩⟩
    have m0 := Int.emod_nonneg (c + 7919 * (p + 1) + 13) (show (2147483647 : Int) ≠ 0 by decide)
    have m1 := Int.emod_lt_of_pos (c + 7919 * (p + 1) + 13) (show (0 : Int) < 2147483647 by decide)
    generalize (c + 7919 * (p + 1) + 13) % 2147483647 = m at m0 m1 ⊢
    refine ⟨_, rfl, _, rfl, _, _, rfl, rfl, _, _, rfl, rfl, .inl ⟨by omega, by omega⟩, .inl ⟨_, rfl, _, _, rfl, rfl, (show (0 : Int) < 2147483629 by decide), ?_⟩⟩
    have m2 := Int.emod_nonneg (m * (m + 48271)) (show (2147483629 : Int) ≠ 0 by decide)
    have m3 := Int.emod_lt_of_pos (m * (m + 48271)) (show (0 : Int) < 2147483629 by decide)
    generalize m * (m + 48271) % 2147483629 = m' at m2 m3 ⊢
    refine ⟨_, rfl, _, rfl, _, _, rfl, rfl, _, _, rfl, rfl, .inl ⟨by omega, by omega⟩, _, rfl, _, _, _, _, rfl, rfl, .inl (.inl hS1), rfl, _, _, rfl, rfl, .inl ⟨by decide, by decide⟩, _, _, rfl, rfl, .inl ⟨_, rfl, _, _, rfl, rfl, (show (0 : Int) < 2147483647 by decide), ?_⟩⟩
    refine ⟨_, rfl, _, _, rfl, rfl, ⟨by decide, by decide⟩, .inl ⟨_, rfl, _, rfl, _, _, rfl, rfl, n0, ?_⟩⟩
    exact k _ _ (Int.emod_nonneg _ (Int.ne_of_gt n0)) (Int.emod_lt_of_pos _ n0) ⟨_, _, hS1⟩ But.upd
theorem ok_law_source (T : Txt P K mg) (B : Tb T base) : FnOk P w K mg base CX0 1 T.a_law_source T.d_law_source ["_law_script", "_law_place"] (spOf K T.tb cSource) := FnOk.imp (ok0_law_source T B) fun vs H Q E h => br_source h
theorem ok_law_draw (T : Txt P K mg) (B : Tb T base) : FnOk P w K mg base CX0 1 T.a_law_draw T.d_law_draw ["_law_source_here", "_law_size"] (spOf K T.tb cDraw) := FnOk.imp (ok0_law_draw T B) fun vs H Q E h => br_draw h

theorem ok_law_between (T : Txt P K mg) (B : Tb T base) : FnOk P w K mg base CX0 2 T.a_law_between T.d_law_between ["_law_source_here", "_law_least", "_law_most"] (spOf K T.tb cBetween) := by
  refine T.F_law_between.ok sc_law_between (fun vs H Q E h => spOf_len h (by rintro ls Qd ⟨lo, hi, rfl, _⟩; rfl)) (fun cdv A outer s H vs Q E hr h => ?_)
  refine ⟨_, (pss_one (ps_ret (pe_op op_add (pv 1) (pe_call (ok_law_draw T B) (hr.mono (by decide)) (by rfl) T.m_law_draw T.F_law_draw.kp T.b_law_draw .nil pass0 (pa_cons (pv 0) (pa_cons (pe_op op_add (pe_op op_sub (pv 2) (pv 1)) pe_int) pa_nil)))))), ?_⟩
  refine df_body (m := 3) (ls_ret (le_add (le_var (i := 1)) (le_call0 (la_cons (le_var (i := 0)) (la_cons (le_add (le_sub (le_var (i := 2)) (le_var (i := 1))) le_int) la_nil))))) h rfl (Nat.le_trans (Nat.le_of_eq (spOf_len (n := 3) h (by rintro ls Qd ⟨lo, hi, rfl, _⟩; rfl))) (by decide)) ?_
  clear h
  rintro ls Q ⟨lo, hi, rfl, ⟨h0, h1⟩, k⟩
  dsimp only [Df.dgN, Df.sSeq, Df.sAsg, Df.sAsgO, Df.sMove, Df.sNext, Df.sRet, Df.eVar, Df.eVarF, Df.eC, Df.oI, Df.oU, Df.aCons, Df.aNil, Df.eCat, Df.eSum, Df.eMaxL, Df.eMinL, Df.eSorted, Df.eList, Df.eTuple, Df.eLz, Df.eLen, Df.eIndex, Df.one, Df.two, Df.nrm, Df.gt, List.set, Df.padE, Df.dat, Df.argL, Df.seqL, Df.seqD, Df.sAsgG, Df.dgT, Df.dgCons, Df.dgNil, Df.eChain, Df.eAnd, Df.eOr, Df.oEq, Df.eFld, Df.dOr, Df.dAnd, Df.dOrB, Df.dAndB, Df.eInt, Df.eSlL, Df.oSo, Df.oNo, Df.eI2, Df.eI1, Df.oIs, Df.sIf, Df.eIxQ, Df.iT, Df.dYes, Df.sNever, Df.sCut, Df.eGenB, Df.genE, Df.noE, Df.capE, Df.capL, Df.lendL, Df.lendE, Df.eLend, Df.dLend, Df.eLendN, Df.lndE, Df.lndL, Df.lnX, Df.lnx, List.cons_append, List.nil_append, Df.sFor, Df.iL, Df.iQ, Df.iR1, Df.iR2, Df.eIxT, Df.eIxL, Df.eCall, Df.eCallB, Df.oC, Df.dNot, Df.dB, Df.sApp, Df.sStD, Df.eDIn, Df.eDisp1, Df.eLenD]
  refine ⟨_, rfl, ⟨by omega, by omega⟩, fun r r0 r1 => k _ ?_ ?_⟩
  all_goals omega
theorem ok_law_rule (T : Txt P K mg) (B : Tb T base) : FnOk P w K mg base CX0 2 T.a_law_rule T.d_law_rule ["_law_source_here", "_law_base", "_law_first", "_law_second", "_law_reach"] (spOf K T.tb cRule) := by
  refine T.F_law_rule.ok sc_law_rule (fun vs H Q E h => spOf_len h (by rintro ls Qd ⟨base, f, s, reach, rfl, _⟩; rfl)) (fun cdv A outer s H vs Q E hr h => ?_)
  refine ⟨_, (pss_cons (ps_set (i := 5) sc_law_rule.nd rfl (Or.inl rfl) (pe_op op_sub (pe_ix ix_list (pv 1) (pv 3) (fun _ _ => rfl)) (pe_ix ix_list (pv 1) (pv 2) (fun _ _ => rfl)))) (pss_cons (ps_set (i := 6) sc_law_rule.nd rfl (Or.inl rfl) (pe_op op_sub (pv 4) (pe_call (ok_law_draw T B) (hr.mono (by decide)) (by rfl) T.m_law_draw T.F_law_draw.kp T.b_law_draw .nil pass0 (pa_cons (pv 0) (pa_cons (pe_op op_add (pe_call (ok_law_draw T B) (hr.mono (by decide)) (by rfl) T.m_law_draw T.F_law_draw.kp T.b_law_draw .nil pass0 (pa_cons (pv 0) (pa_cons (pe_op op_add (pv 4) pe_int) pa_nil))) pe_int) pa_nil))))) (pss_cons (ps_set (i := 7) sc_law_rule.nd rfl (Or.inl rfl) (pe_call (ok_law_draw T B) (hr.mono (by decide)) (by rfl) T.m_law_draw T.F_law_draw.kp T.b_law_draw .nil pass0 (pa_cons (pv 0) (pa_cons (pe_op op_add (pv 6) pe_int) pa_nil)))) (pss_cons (ps_if (pt_cmpR op_eq (pe_call (ok_law_draw T B) (hr.mono (by decide)) (by rfl) T.m_law_draw T.F_law_draw.kp T.b_law_draw .nil pass0 (pa_cons (pv 0) (pa_cons pe_int pa_nil))) pe_int (nomark _)) (pss_one (ps_ret (pe_tup (pa_cons (pv 3) (pa_cons (pv 2) (pa_cons (pe_op op_sub (pe_op op_sub (pv 7) (pv 6)) (pv 5)) (pa_cons (pe_op op_sub (pv 7) (pv 5)) pa_nil))))))) pss_nil) (pss_one (ps_ret (pe_tup (pa_cons (pv 2) (pa_cons (pv 3) (pa_cons (pe_op op_sub (pv 5) (pv 7)) (pa_cons (pe_op op_sub (pe_op op_add (pv 5) (pv 6)) (pv 7)) pa_nil))))))))))), ?_⟩
  refine df_body (m := 8) (ls_seq (ls_asg (i := 5) (le_sub (le_ixL (le_var (i := 1)) (le_var (i := 3))) (le_ixL (le_var (i := 1)) (le_var (i := 2))))) (ls_seq (ls_asg (i := 6) (le_sub (le_var (i := 4)) (le_call0 (la_cons (le_var (i := 0)) (la_cons (le_add (le_call0 (la_cons (le_var (i := 0)) (la_cons (le_add (le_var (i := 4)) le_int) la_nil))) le_int) la_nil))))) (ls_seq (ls_asg (i := 7) (le_call0 (la_cons (le_var (i := 0)) (la_cons (le_add (le_var (i := 6)) le_int) la_nil)))) (ls_seq (ls_if (lt_T (le_eq (le_call0 (la_cons (le_var (i := 0)) (la_cons le_int la_nil))) le_int)) (ls_ret (le_tup (la_cons (le_var (i := 3)) (la_cons (le_var (i := 2)) (la_cons (le_sub (le_sub (le_var (i := 7)) (le_var (i := 6))) (le_var (i := 5))) (la_cons (le_sub (le_var (i := 7)) (le_var (i := 5))) la_nil)))))) ls_next) (ls_ret (le_tup (la_cons (le_var (i := 2)) (la_cons (le_var (i := 3)) (la_cons (le_sub (le_var (i := 5)) (le_var (i := 7))) (la_cons (le_sub (le_add (le_var (i := 5)) (le_var (i := 6))) (le_var (i := 7))) la_nil)))))))))) h rfl (Nat.le_trans (Nat.le_of_eq (spOf_len (n := 5) h (by rintro ls Qd ⟨base, f, s, reach, rfl, _⟩; rfl))) (by decide)) ?_
  clear h
  rintro ls Q ⟨base, f, s, reach, rfl, ⟨⟨f0, f1⟩, ⟨s0, s1⟩, r0, r1⟩, k⟩
  dsimp only [Df.dgN, Df.sSeq, Df.sAsg, Df.sAsgO, Df.sMove, Df.sNext, Df.sRet, Df.eVar, Df.eVarF, Df.eC, Df.oI, Df.oU, Df.aCons, Df.aNil, Df.eCat, Df.eSum, Df.eMaxL, Df.eMinL, Df.eSorted, Df.eList, Df.eTuple, Df.eLz, Df.eLen, Df.eIndex, Df.one, Df.two, Df.nrm, Df.gt, List.set, Df.padE, Df.dat, Df.argL, Df.seqL, Df.seqD, Df.sAsgG, Df.dgT, Df.dgCons, Df.dgNil, Df.eChain, Df.eAnd, Df.eOr, Df.oEq, Df.eFld, Df.dOr, Df.dAnd, Df.dOrB, Df.dAndB, Df.eInt, Df.eSlL, Df.oSo, Df.oNo, Df.eI2, Df.eI1, Df.oIs, Df.sIf, Df.eIxQ, Df.iT, Df.dYes, Df.sNever, Df.sCut, Df.eGenB, Df.genE, Df.noE, Df.capE, Df.capL, Df.lendL, Df.lendE, Df.eLend, Df.dLend, Df.eLendN, Df.lndE, Df.lndL, Df.lnX, Df.lnx, List.cons_append, List.nil_append, Df.sFor, Df.iL, Df.iQ, Df.iR1, Df.iR2, Df.eIxT, Df.eIxL, Df.eCall, Df.eCallB, Df.oC, Df.dNot, Df.dB, Df.sApp, Df.sStD, Df.eDIn, Df.eDisp1, Df.eLenD]
  refine ⟨_, atG s0 s1, _, atG f0 f1, ?_⟩
  refine ⟨_, rfl, ⟨by omega, by omega⟩, fun a a0 a1 => ⟨_, rfl, ⟨by omega, by omega⟩, fun b b0 b1 => ⟨_, rfl, ⟨by omega, by omega⟩, fun c c0 c1 => ⟨_, rfl, by decide, fun e _ _ => ⟨fun _ => ⟨(Nat.le_of_ble_eq_true rfl), k (s, f, _, _) ⟨.inr ⟨rfl, rfl⟩, ?_, ?_, ?_⟩⟩, fun _ => ⟨(Nat.le_of_ble_eq_true rfl), k (f, s, _, _) ⟨.inl ⟨rfl, rfl⟩, ?_, ?_, ?_⟩⟩⟩⟩⟩⟩⟩
  all_goals (dsimp only; omega)

theorem am_le {i j : Nat} {v v' : Int} {T : TabO} (h : AtMost2 i j v T) (l : v ≤ v') : AtMost2 i j v' T := by
  obtain ⟨y, e, q⟩ := h
  exact ⟨y, e, by omega⟩
theorem arcs_mem {r : R4} {rs : List R4} (m : r ∈ rs) : (r.1, r.2.1, r.2.2.2) ∈ (rs.map rowOf).flatMap arcs2 ∧ (r.2.1, r.1, 0 - r.2.2.1) ∈ (rs.map rowOf).flatMap arcs2 := by
  refine ⟨List.mem_flatMap.mpr ⟨rowOf r, List.mem_map_of_mem m, List.mem_append_left _ List.mem_cons_self⟩, List.mem_flatMap.mpr ⟨rowOf r, List.mem_map_of_mem m, List.mem_append_right _ List.mem_cons_self⟩⟩
theorem arcs_is {a : Arc} {rs : List R4} (m : a ∈ (rs.map rowOf).flatMap arcs2) : ∃ r, r ∈ rs ∧ (a = (r.1, r.2.1, r.2.2.2) ∨ a = (r.2.1, r.1, 0 - r.2.2.1)) := by
  obtain ⟨x, mx, ma⟩ := List.mem_flatMap.mp m
  obtain ⟨r, mr, rfl⟩ := List.mem_map.mp mx
  refine ⟨r, mr, ?_⟩
  have ma : a ∈ [(r.1, r.2.1, r.2.2.2)] ++ [(r.2.1, r.1, 0 - r.2.2.1)] := ma
  simpa using ma
theorem law_snd {n : Nat} {reach : Int} {base : List Int} {rs : List R4} (h : OkRules n reach base rs) : SndO (fun i => base.getD i 0) (lawT n ((rs.map rowOf).flatMap arcs2)) := by
  refine fw_snd (arcsT_snd fun a m => ?_)
  obtain ⟨r, mr, e⟩ := arcs_is m
  have f := h.fit r mr
  unfold KeepsR wAt at f
  rcases e with rfl | rfl <;> dsimp only <;> omega
theorem law_tree {n : Nat} {base : List Int} {rs : List R4} (h : OkRules n 3 base rs) : ∀ a, a < n → AtMost2 0 a (base.getD a 0 + 3 * (a : Int)) (lawT n ((rs.map rowOf).flatMap arcs2)) ∧ AtMost2 a 0 (3 * (a : Int) - base.getD a 0) (lawT n ((rs.map rowOf).flatMap arcs2)) := by
  refine fw_tree (fun a => base.getD a 0 + 3 * (a : Int)) (fun a => 3 * (a : Int) - base.getD a 0) (arcsT_diag _ 0) ?_ ?_ fun a a1 an => ?_
  · have := h.zero; omega
  · have := h.zero; omega
  · obtain ⟨r, mr, p, hp, e⟩ := h.sp a a1 an
    obtain ⟨m1, m2⟩ := arcs_mem mr
    have q1 := arcsT_at m1
    have q2 := arcsT_at m2
    have f := h.fit r mr
    unfold KeepsR wAt at f
    dsimp only at q1 q2
    refine ⟨p, hp, ?_⟩
    rcases e with ⟨e1, e2⟩ | ⟨e1, e2⟩ <;> rw [e1, e2] at q1 q2 f <;> simp only [Int.toNat_natCast] at q1 q2 f
    · exact ⟨am_le q1 (by omega), am_le q2 (by omega)⟩
    · exact ⟨am_le q2 (by omega), am_le q1 (by omega)⟩

theorem take_all {α : Type} {xs : List α} {i : Nat} {x : α} {p : α → Bool} (h : xs[i]? = some x) : (xs.take (i + 1)).all p = ((xs.take i).all p && p x) := by
  rw [take_get h, List.all_append, List.all_cons, List.all_nil, Bool.and_true]
theorem all_ff {α : Type} {xs : List α} {i : Nat} {x : α} {p : α → Bool} (h : xs[i]? = some x) (e : p x = false) : xs.all p = false := by
  cases q : xs.all p with
  | false => rfl
  | true => rw [List.all_eq_true.mp q x (List.mem_of_getElem? h)] at e; cases e
theorem ok_law_keeps (T : Txt P K mg) (B : Tb T base) : FnOk P w K mg base CX0 1 T.a_law_keeps T.d_law_keeps ["_law_levels", "_law_rules_here"] (spOf K T.tb cKeeps) := by
  refine T.F_law_keeps.ok sc_law_keeps (fun vs H Q E h => spOf_len h (by rintro ls Qd ⟨w, rs, rfl, _⟩; rfl)) (fun cdv A outer s H vs Q E hr h => ?_)
  refine ⟨_, (pss_cons (ps_for PassesOwn.never rfl (pi_list (pv 1)) (pg_name (i := 2) sc_law_keeps.nd rfl (Or.inl rfl)) (pss_one (ps_if (PW.pt (pw_and (pt_cmpR op_lt (pe_ix ix_tup (pv 2) pe_int (fun _ _ => rfl)) (pe_callB call_len_seq (by rfl) T.z_len (by decide +kernel) (pa_cons (pv 0) pa_nil)) (nomark _)) (pw_and1 (pt_cmpR op_lt (pe_ix ix_tup (pv 2) pe_int (fun _ _ => rfl)) (pe_callB call_len_seq (by rfl) T.z_len (by decide +kernel) (pa_cons (pv 0) pa_nil)) (nomark _))))) (pss_cons (ps_set (i := 3) sc_law_keeps.nd rfl (Or.inl rfl) (pe_op op_sub (pe_ix ix_list (pv 0) (pe_ix ix_tup (pv 2) pe_int (fun _ _ => rfl)) (fun _ _ => rfl)) (pe_ix ix_list (pv 0) (pe_ix ix_tup (pv 2) pe_int (fun _ _ => rfl)) (fun _ _ => rfl)))) (pss_one (ps_if (PW.pt (pw_or (pt_cmpR op_lt (pv 3) (pe_ix ix_tup (pv 2) pe_int (fun _ _ => rfl)) (nomark _)) (pw_or1 (pt_cmpR op_gt (pv 3) (pe_ix ix_tup (pv 2) pe_int (fun _ _ => rfl)) (nomark _))))) (pss_one (ps_ret pe_bl)) pss_nil))) pss_nil))) (pss_one (ps_ret pe_bl))), ?_⟩
  refine df_body (m := 4) (ls_seq (ls_for (li_list (le_var (i := 1))) (lf_name (i := 2)) (ls_if (lt_and (lt_T (le_lt (le_ixT (le_var (i := 2)) le_int) (le_len (la_cons (le_var (i := 0)) la_nil)))) (lt_T (le_lt (le_ixT (le_var (i := 2)) le_int) (le_len (la_cons (le_var (i := 0)) la_nil))))) (ls_seq (ls_asg (i := 3) (le_sub (le_ixL (le_var (i := 0)) (le_ixT (le_var (i := 2)) le_int)) (le_ixL (le_var (i := 0)) (le_ixT (le_var (i := 2)) le_int)))) (ls_if (lt_or (lt_T (le_lt (le_var (i := 3)) (le_ixT (le_var (i := 2)) le_int))) (lt_T (le_gt (le_var (i := 3)) (le_ixT (le_var (i := 2)) le_int)))) (ls_ret le_bl) ls_next)) ls_next)) (ls_ret le_bl)) h rfl (Nat.le_trans (Nat.le_of_eq (spOf_len (n := 2) h (by rintro ls Qd ⟨w, rs, rfl, _⟩; rfl))) (by decide)) ?_
  clear h
  rintro ls Q ⟨w, rs, rfl, c, k⟩
  dsimp only [Df.dgN, Df.sSeq, Df.sAsg, Df.sAsgO, Df.sMove, Df.sNext, Df.sRet, Df.eVar, Df.eVarF, Df.eC, Df.oI, Df.oU, Df.aCons, Df.aNil, Df.eCat, Df.eSum, Df.eMaxL, Df.eMinL, Df.eSorted, Df.eList, Df.eTuple, Df.eLz, Df.eLen, Df.eIndex, Df.one, Df.two, Df.nrm, Df.gt, List.set, Df.padE, Df.dat, Df.argL, Df.seqL, Df.seqD, Df.eIxT, Df.eIxL, Df.eIxQ, Df.eCall, Df.eCallB, Df.oI, Df.oC, Df.dNot, Df.dB, Df.eDisp1, Df.eDIn, Df.sStD, Df.eLenD, Df.oEq, Df.dOr, Df.dAnd, Df.dOrB, Df.dAndB, Df.sNever, Df.sCut, Df.iR1, Df.iR2, Df.eInt, Df.sIf, Df.eSlL, Df.oSo, Df.oNo, Df.eLendN, Df.lndE, Df.lndL, Df.lnX, Df.lnx, Df.eLend, Df.dLend, Df.lendE, Df.lendL]
  refine forE dR rs (fun i ρ => ∃ v2 v3, ρ = [.sh (dLI w), .sh (.lst (rs.map dR)), v2, v3] ∧ (rs.take i).all (keep1P w) = true) ⟨_, _, rfl, rfl⟩ ?_ ?_
  · rintro i ⟨a, b, lo, hi⟩ ρ hx ⟨v2, v3, rfl, h⟩
    obtain ⟨c0, c1⟩ := c _ (List.mem_of_getElem? hx)
    dsimp only at c0 c1
    dsimp only [Df.dgN, Df.sSeq, Df.sAsg, Df.sAsgO, Df.sMove, Df.sNext, Df.sRet, Df.eVar, Df.eVarF, Df.eC, Df.oI, Df.oU, Df.aCons, Df.aNil, Df.eCat, Df.eSum, Df.eMaxL, Df.eMinL, Df.eSorted, Df.eList, Df.eTuple, Df.eLz, Df.eLen, Df.eIndex, Df.one, Df.two, Df.nrm, Df.gt, List.set, Df.padE, Df.dat, Df.argL, Df.seqL, Df.seqD, Df.eIxT, Df.eIxL, Df.eIxQ, Df.eCall, Df.eCallB, Df.oI, Df.oC, Df.dNot, Df.dB, Df.eDisp1, Df.eDIn, Df.sStD, Df.eLenD, Df.oEq, Df.dOr, Df.dAnd, Df.dOrB, Df.dAndB, Df.sNever, Df.sCut, Df.iR1, Df.iR2, Df.eInt, Df.sIf, Df.eSlL, Df.oSo, Df.oNo, Df.eLendN, Df.lndE, Df.lndL, Df.lnX, Df.lnx, Df.eLend, Df.dLend, Df.lendE, Df.lendL]
    have one : keep1P w (a, b, lo, hi) = true → ∃ v2' v3', [Lo.sh (dLI w), .sh (.lst (rs.map dR)), v2, v3] = [.sh (dLI w), .sh (.lst (rs.map dR)), v2', v3'] ∧ (rs.take (i + 1)).all (keep1P w) = true := fun e => ⟨_, _, rfl, by rw [take_all hx, h, e]; rfl⟩
    refine ⟨_, rfl, decide (b < (w.length : Int)), fun _ => ⟨_, rfl, rfl, by rw [List.length_map]⟩, fun q => ?_, fun q => ?_⟩
    · rw [List.length_map] at q
      simp only [Bool.and_eq_true, decide_eq_true_eq] at q
      refine ⟨_, rfl, _, atG c1 q.2, _, rfl, _, atG c0 q.1, _, rfl, _, fun _ => ⟨_, rfl, rfl, rfl⟩, fun z => ?_, fun z => ?_⟩
      · have e : keep1P w (a, b, lo, hi) = false := by
          unfold keep1P wAt
          rw [if_pos q]
          simp only [Bool.or_eq_true, decide_eq_true_eq] at z
          simp only [Bool.and_eq_false_iff, decide_eq_false_iff_not]
          omega
        rw [show keepsP rs w = false from all_ff hx e] at k
        exact k
      · refine ⟨_, _, rfl, ?_⟩
        rw [take_all hx, h, Bool.true_and]
        unfold keep1P wAt
        rw [if_pos q]
        simp only [Bool.or_eq_false_iff, decide_eq_false_iff_not] at z
        simp only [Bool.and_eq_true, decide_eq_true_eq]
        omega
    · rw [List.length_map] at q
      refine ⟨_, _, rfl, ?_⟩
      rw [take_all hx, h, Bool.true_and]
      unfold keep1P
      rw [if_neg]
      intro z
      simp [z.1, z.2] at q
  · rintro ρ ⟨v2, v3, rfl, h⟩
    rw [List.take_length] at h
    rw [show keepsP rs w = true from h] at k
    exact k
theorem arcs_step {rs : List RowO} {i : Nat} {r : RowO} (h : rs[i]? = some r) : (rs.take (i + 1)).flatMap arcs2 = (rs.take i).flatMap arcs2 ++ arcs2 r := by
  rw [take_get h, List.flatMap_append, List.flatMap_cons, List.flatMap_nil, List.append_nil]
theorem arcs_len : ∀ (rs : List RowO), (rs.flatMap arcs2).length ≤ 2 * rs.length
  | [] => Nat.le_refl _
  | r :: rs => by
    rw [List.flatMap_cons, List.length_append, List.length_cons]
    have := arcs_len rs
    have : (arcs2 r).length ≤ 2 := by
      obtain ⟨a, b, lo, hi⟩ := r
      cases lo <;> cases hi <;> simp [arcs2, arcsH, arcsL]
    omega
theorem ok_law_arcs (T : Txt P K mg) (B : Tb T base) : FnOk P w K mg base CX0 1 T.a_law_arcs T.d_law_arcs ["_law_rows"] (spOf K T.tb cArcs) := by
  refine T.F_law_arcs.ok sc_law_arcs (fun vs H Q E h => spOf_len h (by rintro ls Qd ⟨rs, rfl, _⟩; rfl)) (fun cdv A outer s H vs Q E hr h => ?_)
  refine ⟨_, (pss_cons (ps_set (i := 1) sc_law_arcs.nd rfl (Or.inl rfl) (pe_lst pa_nil)) (pss_cons (ps_for PassesOwn.never rfl (pi_list (pv 0)) (pg_name (i := 2) sc_law_arcs.nd rfl (Or.inl rfl)) (pss_cons (ps_if (pt_cmpR op_notN (pe_ix ix_tup (pv 2) pe_int (fun _ _ => rfl)) pe_non (nomark _)) (pss_one (ps_expr (pe_bm PySem.F.plainAttrs_list PySem.F.slot_list_append PySem.F.type_list_append mt_append (pv 1) (pa_cons (pe_tup (pa_cons (pe_ix ix_tup (pv 2) pe_int (fun _ _ => rfl)) (pa_cons (pe_ix ix_tup (pv 2) pe_int (fun _ _ => rfl)) (pa_cons (pe_ix ix_tup (pv 2) pe_int (fun _ _ => rfl)) pa_nil)))) pa_nil)))) pss_nil) (pss_one (ps_if (pt_cmpR op_notN (pe_ix ix_tup (pv 2) pe_int (fun _ _ => rfl)) pe_non (nomark _)) (pss_one (ps_expr (pe_bm PySem.F.plainAttrs_list PySem.F.slot_list_append PySem.F.type_list_append mt_append (pv 1) (pa_cons (pe_tup (pa_cons (pe_ix ix_tup (pv 2) pe_int (fun _ _ => rfl)) (pa_cons (pe_ix ix_tup (pv 2) pe_int (fun _ _ => rfl)) (pa_cons (pe_op op_sub pe_int (pe_ix ix_tup (pv 2) pe_int (fun _ _ => rfl))) pa_nil)))) pa_nil)))) pss_nil)))) (pss_one (ps_ret (pv 1))))), ?_⟩
  refine df_body (m := 3) (ls_seq (ls_asgO (i := 1) (le_lst la_nil)) (ls_seq (ls_for (li_list (le_var (i := 0))) (lf_name (i := 2)) (ls_seq (ls_cut (ls_if (lt_T (le_notN (le_ixT (le_var (i := 2)) le_int) le_non)) (ls_app (i := 1) (le_tup (la_cons (le_ixT (le_var (i := 2)) le_int) (la_cons (le_ixT (le_var (i := 2)) le_int) (la_cons (le_ixT (le_var (i := 2)) le_int) la_nil))))) ls_next)) (ls_if (lt_T (le_notN (le_ixT (le_var (i := 2)) le_int) le_non)) (ls_app (i := 1) (le_tup (la_cons (le_ixT (le_var (i := 2)) le_int) (la_cons (le_ixT (le_var (i := 2)) le_int) (la_cons (le_sub le_int (le_ixT (le_var (i := 2)) le_int)) la_nil))))) ls_next))) (ls_ret (le_var (i := 1))))) h rfl (Nat.le_trans (Nat.le_of_eq (spOf_len (n := 1) h (by rintro ls Qd ⟨rs, rfl, _⟩; rfl))) (by decide)) ?_
  clear h
  rintro ls Q ⟨rs, rfl, c, k⟩
  dsimp only [Df.dgN, Df.sSeq, Df.sAsg, Df.sAsgO, Df.sMove, Df.sNext, Df.sRet, Df.eVar, Df.eVarF, Df.eC, Df.oI, Df.oU, Df.aCons, Df.aNil, Df.eCat, Df.eSum, Df.eMaxL, Df.eMinL, Df.eSorted, Df.eList, Df.eTuple, Df.eLz, Df.eLen, Df.eIndex, Df.one, Df.two, Df.nrm, Df.gt, List.set, Df.padE, Df.dat, Df.argL, Df.seqL, Df.seqD, Df.eIxT, Df.eIxL, Df.eIxQ, Df.eCall, Df.eCallB, Df.oI, Df.oC, Df.dNot, Df.dB, Df.eDisp1, Df.eDIn, Df.sStD, Df.eLenD, Df.oEq, Df.dOr, Df.dAnd, Df.dOrB, Df.dAndB, Df.sNever, Df.sCut, Df.iR1, Df.iR2, Df.eInt, Df.sIf, Df.eSlL, Df.oSo, Df.oNo, Df.eLendN, Df.lndE, Df.lndL, Df.lnX, Df.lnx, Df.eLend, Df.dLend, Df.lendE, Df.lendL]
  refine lstR [] [] (fun k h => h) rfl (Nat.zero_le _) ?_
  refine forE dRow rs (fun i ρ => ∃ v2, ρ = [.sh (.lst (rs.map dRow)), .ow (((rs.take i).flatMap arcs2).map dArc), v2]) ⟨_, rfl⟩ ?_ ?_
  · rintro i ⟨a, b, lo, hi⟩ ρ hx ⟨v2, rfl⟩
    have hn : ((rs.take i).flatMap arcs2).length < 90000 := by
      have := arcs_len (rs.take i)
      have : (rs.take i).length ≤ rs.length := List.length_take_le' i rs
      omega
    dsimp only [Df.dgN, Df.sSeq, Df.sAsg, Df.sAsgO, Df.sMove, Df.sNext, Df.sRet, Df.eVar, Df.eVarF, Df.eC, Df.oI, Df.oU, Df.aCons, Df.aNil, Df.eCat, Df.eSum, Df.eMaxL, Df.eMinL, Df.eSorted, Df.eList, Df.eTuple, Df.eLz, Df.eLen, Df.eIndex, Df.one, Df.two, Df.nrm, Df.gt, List.set, Df.padE, Df.dat, Df.argL, Df.seqL, Df.seqD, Df.sAsgG, Df.dgT, Df.dgCons, Df.dgNil, Df.eChain, Df.eAnd, Df.eOr, Df.oEq, Df.eFld, Df.dOr, Df.dAnd, Df.dOrB, Df.dAndB, Df.eInt, Df.eSlL, Df.oSo, Df.oNo, Df.eI2, Df.eI1, Df.oIs, Df.sIf, Df.eIxQ, Df.iT, Df.dYes, Df.sNever, Df.sCut, Df.eGenB, Df.genE, Df.noE, Df.capE, Df.capL, Df.lendL, Df.lendE, Df.eLend, Df.dLend, Df.eLendN, Df.lndE, Df.lndL, Df.lnX, Df.lnx, List.cons_append, List.nil_append, Df.sFor, Df.iL, Df.iQ, Df.iR1, Df.iR2, Df.eIxT, Df.eIxL, Df.eCall, Df.eCallB, Df.oC, Df.dNot, Df.dB, Df.sApp, Df.sStD, Df.eDIn, Df.eDisp1, Df.eLenD]
    refine ⟨fun ρ => ρ = [.sh (.lst (rs.map dRow)), .ow ((((rs.take i).flatMap arcs2) ++ arcsH (a, b, lo, hi)).map dArc), .sh (dRow (a, b, lo, hi))], ?_, ?_⟩
    · refine ⟨_, rfl, ?_⟩
      rcases hi with _ | hi
      · exact ⟨(fun z => nomatch z), fun _ => by simp [arcsH]⟩
      · exact ⟨(fun _ => ⟨_, rfl, _, rfl, _, rfl, (Nat.le_of_ble_eq_true rfl), by rw [List.length_map]; omega, by simp [arcsH, dArc, dO]⟩), fun z => nomatch z⟩
    · rintro ρ rfl
      dsimp only [Df.dgN, Df.sSeq, Df.sAsg, Df.sAsgO, Df.sMove, Df.sNext, Df.sRet, Df.eVar, Df.eVarF, Df.eC, Df.oI, Df.oU, Df.aCons, Df.aNil, Df.eCat, Df.eSum, Df.eMaxL, Df.eMinL, Df.eSorted, Df.eList, Df.eTuple, Df.eLz, Df.eLen, Df.eIndex, Df.one, Df.two, Df.nrm, Df.gt, List.set, Df.padE, Df.dat, Df.argL, Df.seqL, Df.seqD, Df.sAsgG, Df.dgT, Df.dgCons, Df.dgNil, Df.eChain, Df.eAnd, Df.eOr, Df.oEq, Df.eFld, Df.dOr, Df.dAnd, Df.dOrB, Df.dAndB, Df.eInt, Df.eSlL, Df.oSo, Df.oNo, Df.eI2, Df.eI1, Df.oIs, Df.sIf, Df.eIxQ, Df.iT, Df.dYes, Df.sNever, Df.sCut, Df.eGenB, Df.genE, Df.noE, Df.capE, Df.capL, Df.lendL, Df.lendE, Df.eLend, Df.dLend, Df.eLendN, Df.lndE, Df.lndL, Df.lnX, Df.lnx, List.cons_append, List.nil_append, Df.sFor, Df.iL, Df.iQ, Df.iR1, Df.iR2, Df.eIxT, Df.eIxL, Df.eCall, Df.eCallB, Df.oC, Df.dNot, Df.dB, Df.sApp, Df.sStD, Df.eDIn, Df.eDisp1, Df.eLenD]
      refine ⟨_, rfl, ?_⟩
      rw [arcs_step hx]
      rcases lo with _ | lo
      · exact ⟨(fun z => nomatch z), fun _ => ⟨_, by simp [arcs2, arcsL]; rfl⟩⟩
      · refine ⟨(fun _ => ⟨_, rfl, _, rfl, _, rfl, (Nat.le_of_ble_eq_true rfl), ?_, .sh (dRow (a, b, some lo, hi)), by simp [arcs2, arcsL, dArc, dO]⟩), fun z => nomatch z⟩
        have : (arcsH (a, b, some lo, hi)).length ≤ 1 := by cases hi <;> simp [arcsH]
        rw [List.length_map, List.length_append]
        omega
  · rintro ρ ⟨v2, rfl⟩
    rw [List.take_length]
    exact k
theorem keepsR_app {reach v : Int} {w : List Int} {r : R4} (h : KeepsR reach w r) (h1 : r.1 < (w.length : Int)) (h0 : 0 ≤ r.1) (h2 : r.2.1 < (w.length : Int)) (h3 : 0 ≤ r.2.1) : KeepsR reach (w ++ [v]) r := by
  unfold KeepsR wAt at h ⊢
  rw [gdL (by omega), gdL (by omega)]
  exact h
structure PartR (n : Nat) (reach : Int) (t : Nat) (base : List Int) (rs : List R4) : Prop where
  len : base.length = t + 1
  zero : base.getD 0 0 = 0
  bnd : ∀ i : Nat, i ≤ t → -(100000000 * (i : Int)) ≤ base.getD i 0 ∧ base.getD i 0 ≤ 100000000 * (i : Int)
  num : rs.length = t
  ok : ∀ r, r ∈ rs → isR (n : Int) r = true
  sp : Spans (t + 1) rs
  fit : ∀ r, r ∈ rs → KeepsR reach base r ∧ (0 ≤ r.1 ∧ r.1 ≤ (t : Int)) ∧ 0 ≤ r.2.1 ∧ r.2.1 ≤ (t : Int)
theorem fits_ok {base : List Int} {f s reach : Int} {r : R4} (h : Fits base f s reach r) : KeepsR reach base r := ⟨h.2.1, h.2.2.1, h.2.2.2⟩
theorem fits_isR {n : Nat} {base : List Int} {f s reach : Int} {r : R4} (h : Fits base f s reach r) (f0 : 0 ≤ f) (f1 : f < (n : Int)) (s0 : 0 ≤ s) (s1 : s < (n : Int)) (ne : f ≠ s) : isR (n : Int) r = true := by
  obtain ⟨e, h1, h2, _⟩ := h
  unfold isR
  simp only [Bool.and_eq_true, decide_eq_true_eq, Bool.not_eq_true', decide_eq_false_iff_not]
  rcases e with ⟨e1, e2⟩ | ⟨e1, e2⟩ <;> rw [e1, e2] <;> omega
theorem PartR.step {n : Nat} {reach : Int} {t : Nat} {base : List Int} {rs : List R4} (p : PartR n reach t base rs) (ht : t + 1 < n) {o x : Int} (o0 : 0 ≤ o) (o1 : o < 1 + (t : Int)) (x0 : -100000000 ≤ x) (x1 : x ≤ 100000000) {r : R4} (h : Fits (base ++ [base.getD o.toNat 0 + x]) o (1 + (t : Int)) reach r) : PartR n reach (t + 1) (base ++ [base.getD o.toNat 0 + x]) (rs ++ [r]) := by
  have hl := p.len
  refine ⟨by rw [List.length_append, hl]; rfl, by rw [gdL (by omega)]; exact p.zero, fun i hi => ?_, by rw [List.length_append, p.num]; rfl, fun r' m => ?_, fun k k1 k2 => ?_, fun r' m => ?_⟩
  · by_cases e : i ≤ t
    · rw [gdL (by omega)]; exact p.bnd i e
    · rw [gdR (by omega)]
      have := p.bnd o.toNat (by omega)
      omega
  · rcases List.mem_append.mp m with m | m
    · exact p.ok r' m
    · rw [List.mem_singleton.mp m]
      exact fits_isR h o0 (by omega) (by omega) (by omega) (by omega)
  · by_cases e : k < t + 1
    · obtain ⟨r', m, j, q⟩ := p.sp k k1 e
      exact ⟨r', List.mem_append_left _ m, j, q⟩
    · refine ⟨r, List.mem_append_right _ List.mem_cons_self, o.toNat, by omega, ?_⟩
      rcases h.1 with ⟨e1, e2⟩ | ⟨e1, e2⟩ <;> omega
  · rcases List.mem_append.mp m with m | m
    · obtain ⟨q1, q2, q3⟩ := p.fit r' m
      exact ⟨keepsR_app q1 (by omega) (by omega) (by omega) (by omega), by omega, by omega⟩
    · rw [List.mem_singleton.mp m]
      refine ⟨fits_ok h, ?_⟩
      rcases h.1 with ⟨e1, e2⟩ | ⟨e1, e2⟩ <;> omega
theorem PartR.whole {n : Nat} {reach : Int} {t : Nat} {base : List Int} {rs rs' : List R4} (p : PartR n reach t base rs) (ht : t + 1 = n) (n16 : n ≤ 16) (hm : ∀ r, r ∈ rs → r ∈ rs') (hn : ∀ r, r ∈ rs' → r ∈ rs ∨ isR (n : Int) r = true ∧ KeepsR reach base r) (hl : rs'.length ≤ n) : OkRules n reach base rs' := by
  refine ⟨by rw [p.len, ht], p.zero, fun i hi => ?_, by omega, fun r m => ?_, fun k k1 k2 => ?_, fun r m => ?_⟩
  · have := p.bnd i (by omega)
    omega
  · rcases hn r m with m | m
    · exact p.ok r m
    · exact m.1
  · obtain ⟨r, m, q⟩ := p.sp k k1 (by omega)
    exact ⟨r, hm r m, q⟩
  · rcases hn r m with m | m
    · exact (p.fit r m).1
    · exact m.2
theorem ok_law_rules (T : Txt P K mg) (B : Tb T base) : FnOk P w K mg base CX0 3 T.a_law_rules T.d_law_rules ["_law_source_here", "_law_size", "_law_reach", "_law_far"] (spOf K T.tb cRules) := by
  refine T.F_law_rules.ok sc_law_rules (fun vs H Q E h => spOf_len h (by rintro ls Qd ⟨n, reach, far, rfl, _⟩; rfl)) (fun cdv A outer s H vs Q E hr h => ?_)
  refine ⟨_, (pss_cons (ps_set (i := 4) sc_law_rules.nd rfl (Or.inl rfl) (pe_lst (pa_cons pe_int pa_nil))) (pss_cons (ps_set (i := 5) sc_law_rules.nd rfl (Or.inl rfl) (pe_lst pa_nil)) (pss_cons (ps_for PassesOwn.never rfl (pi_range2 (by rfl) T.z_range (pa_cons pe_int (pa_cons (pv 1) pa_nil))) (pg_name (i := 6) sc_law_rules.nd rfl (Or.inl rfl)) (pss_cons (ps_set (i := 7) sc_law_rules.nd rfl (Or.inl rfl) (pe_call (ok_law_draw T B) (hr.mono (by decide)) (by rfl) T.m_law_draw T.F_law_draw.kp T.b_law_draw .nil pass0 (pa_cons (pv 0) (pa_cons (pv 6) pa_nil)))) (pss_cons (ps_expr (pe_bm PySem.F.plainAttrs_list PySem.F.slot_list_append PySem.F.type_list_append mt_append (pv 4) (pa_cons (pe_op op_add (pe_ix ix_list (pv 4) (pv 7) (fun _ _ => rfl)) (pe_call (ok_law_between T B) (hr.mono (by decide)) (by rfl) T.m_law_between T.F_law_between.kp T.b_law_between .nil pass0 (pa_cons (pv 0) (pa_cons (pe_op op_sub pe_int (pv 3)) (pa_cons (pv 3) pa_nil))))) pa_nil))) (pss_one (ps_expr (pe_bm PySem.F.plainAttrs_list PySem.F.slot_list_append PySem.F.type_list_append mt_append (pv 5) (pa_cons (pe_call (ok_law_rule T B) (hr.mono (by decide)) (by rfl) T.m_law_rule T.F_law_rule.kp T.b_law_rule .nil pass0 (pa_cons (pv 0) (pa_cons (pv 4) (pa_cons (pv 7) (pa_cons (pv 6) (pa_cons (pv 2) pa_nil)))))) pa_nil))))))) (pss_cons (ps_if (PW.pt (pw_and (pt_cmpR op_gt (pv 1) pe_int (nomark _)) (pw_and1 (pt_cmpR op_eq (pe_call (ok_law_draw T B) (hr.mono (by decide)) (by rfl) T.m_law_draw T.F_law_draw.kp T.b_law_draw .nil pass0 (pa_cons (pv 0) (pa_cons pe_int pa_nil))) pe_int (nomark _))))) (pss_cons (ps_set (i := 8) sc_law_rules.nd rfl (Or.inl rfl) (pe_call (ok_law_draw T B) (hr.mono (by decide)) (by rfl) T.m_law_draw T.F_law_draw.kp T.b_law_draw .nil pass0 (pa_cons (pv 0) (pa_cons (pv 1) pa_nil)))) (pss_cons (ps_set (i := 9) sc_law_rules.nd rfl (Or.inl rfl) (pe_op op_mod (pe_callTy call_int1 (by rfl) T.z_int (by decide +kernel) (pa_cons (pe_op op_add (pe_op op_add (pv 8) pe_int) (pe_call (ok_law_draw T B) (hr.mono (by decide)) (by rfl) T.m_law_draw T.F_law_draw.kp T.b_law_draw .nil pass0 (pa_cons (pv 0) (pa_cons (pe_op op_sub (pv 1) pe_int) pa_nil)))) pa_nil)) (pv 1))) (pss_one (ps_expr (pe_bm PySem.F.plainAttrs_list PySem.F.slot_list_append PySem.F.type_list_append mt_append (pv 5) (pa_cons (pe_call (ok_law_rule T B) (hr.mono (by decide)) (by rfl) T.m_law_rule T.F_law_rule.kp T.b_law_rule .nil pass0 (pa_cons (pv 0) (pa_cons (pv 4) (pa_cons (pv 8) (pa_cons (pv 9) (pa_cons (pv 2) pa_nil)))))) pa_nil)))))) pss_nil) (pss_cons (ps_set (i := 10) sc_law_rules.nd rfl (Or.inl rfl) (pe_call (ok_law_draw T B) (hr.mono (by decide)) (by rfl) T.m_law_draw T.F_law_draw.kp T.b_law_draw .nil pass0 (pa_cons (pv 0) (pa_cons (pe_op op_add (pe_callB call_len_seq (by rfl) T.z_len (by decide +kernel) (pa_cons (pv 5) pa_nil)) pe_int) pa_nil)))) (pss_one (ps_ret (pe_lst (pa_cons (pv 4) (pa_cons (pe_op op_cat (pe_slice sl_list (pv 5) (po_some (pv 10)) po_none) (pe_slice sl_list (pv 5) po_none (po_some (pv 10)))) pa_nil)))))))))), ?_⟩
  refine df_body (m := 11) (ls_seq (ls_asgO (i := 4) (le_lst (la_cons le_int la_nil))) (ls_seq (ls_asgO (i := 5) (le_lst la_nil)) (ls_seq (ls_for (li_r2 (la_cons le_int (la_cons (le_var (i := 1)) la_nil))) (lf_name (i := 6)) (ls_seq (ls_asg (i := 7) (le_call0 (la_cons (le_var (i := 0)) (la_cons (le_var (i := 6)) la_nil)))) (ls_seq (ls_app (i := 4) (le_add (le_ixL (le_var (i := 4)) (le_var (i := 7))) (le_call0 (la_cons (le_var (i := 0)) (la_cons (le_sub le_int (le_var (i := 3))) (la_cons (le_var (i := 3)) la_nil)))))) (ls_app (i := 5) (le_lendN [false, false, false, false, true] (le_call0 (la_cons (le_var (i := 0)) (la_cons (le_var (i := 4)) (la_cons (le_var (i := 7)) (la_cons (le_var (i := 6)) (la_cons (le_var (i := 2)) la_nil))))))))))) (ls_seq (ls_cut (ls_if (lt_andB (lt_T (le_gt (le_var (i := 1)) le_int)) (lt_T (le_eq (le_call0 (la_cons (le_var (i := 0)) (la_cons le_int la_nil))) le_int))) (ls_seq (ls_asg (i := 8) (le_call0 (la_cons (le_var (i := 0)) (la_cons (le_var (i := 1)) la_nil)))) (ls_seq (ls_asg (i := 9) (le_mod (le_intF (la_cons (le_add (le_add (le_var (i := 8)) le_int) (le_call0 (la_cons (le_var (i := 0)) (la_cons (le_sub (le_var (i := 1)) le_int) la_nil)))) la_nil)) (le_var (i := 1)))) (ls_app (i := 5) (le_lendN [false, false, false, false, true] (le_call0 (la_cons (le_var (i := 0)) (la_cons (le_var (i := 4)) (la_cons (le_var (i := 8)) (la_cons (le_var (i := 9)) (la_cons (le_var (i := 2)) la_nil)))))))))) ls_next)) (ls_seq (ls_asg (i := 10) (le_call0 (la_cons (le_var (i := 0)) (la_cons (le_add (le_len (la_cons (le_var (i := 5)) la_nil)) le_int) la_nil)))) (ls_ret (le_lst (la_cons (le_varF (i := 4)) (la_cons (le_cat (le_slL (le_var (i := 5)) (lo_so (le_var (i := 10))) lo_no) (le_slL (le_var (i := 5)) lo_no (lo_so (le_var (i := 10))))) la_nil))))))))) h rfl (Nat.le_trans (Nat.le_of_eq (spOf_len (n := 4) h (by rintro ls Qd ⟨n, reach, far, rfl, _⟩; rfl))) (by decide)) ?_
  clear h
  rintro ls Q ⟨n, reach, far, rfl, ⟨⟨n1, n16⟩, ⟨r0, r1⟩, f0, f1⟩, k⟩
  dsimp only [Df.dgN, Df.sSeq, Df.sAsg, Df.sAsgO, Df.sMove, Df.sNext, Df.sRet, Df.eVar, Df.eVarF, Df.eC, Df.oI, Df.oU, Df.aCons, Df.aNil, Df.eCat, Df.eSum, Df.eMaxL, Df.eMinL, Df.eSorted, Df.eList, Df.eTuple, Df.eLz, Df.eLen, Df.eIndex, Df.one, Df.two, Df.nrm, Df.gt, List.set, Df.padE, Df.dat, Df.argL, Df.seqL, Df.seqD, Df.eIxT, Df.eIxL, Df.eIxQ, Df.eCall, Df.eCallB, Df.oI, Df.oC, Df.dNot, Df.dB, Df.eDisp1, Df.eDIn, Df.sStD, Df.eLenD, Df.oEq, Df.dOr, Df.dAnd, Df.dOrB, Df.dAndB, Df.sNever, Df.sCut, Df.iR1, Df.iR2, Df.eInt, Df.sIf, Df.eSlL, Df.oSo, Df.oNo, Df.eLendN, Df.lndE, Df.lndL, Df.lnX, Df.lnx, Df.eLend, Df.dLend, Df.lendE, Df.lendL]
  refine lstR [.sh (.int 0)] [.int 0] (fun k h => h) rfl (Nat.le_of_ble_eq_true rfl) ?_
  refine lstR [] [] (fun k h => h) rfl (Nat.zero_le _) ?_
  refine ⟨⟨by omega, by omega, by omega, by omega⟩, ?_⟩
  refine forR 1 _ (fun t ρ => ∃ (base : List Int) (rs : List R4) (v6 v7 : Lo), ρ = [.src, .sh (.int (n : Int)), .sh (.int reach), .sh (.int far), .ow (base.map Dt.int), .ow (rs.map dR), v6, v7, .no, .no, .no] ∧ PartR n reach t base rs) ⟨[0], [], _, _, rfl, ⟨rfl, rfl, (fun i h => by rw [Nat.le_zero.mp h]; decide), rfl, (fun r m => nomatch m), (fun k h1 h2 => by omega), (fun r m => nomatch m)⟩⟩ ?_ ?_
  · rintro t ρ ht ⟨base, rs, v6, v7, rfl, p⟩
    have hl := p.len
    dsimp only [Df.dgN, Df.sSeq, Df.sAsg, Df.sAsgO, Df.sMove, Df.sNext, Df.sRet, Df.eVar, Df.eVarF, Df.eC, Df.oI, Df.oU, Df.aCons, Df.aNil, Df.eCat, Df.eSum, Df.eMaxL, Df.eMinL, Df.eSorted, Df.eList, Df.eTuple, Df.eLz, Df.eLen, Df.eIndex, Df.one, Df.two, Df.nrm, Df.gt, List.set, Df.padE, Df.dat, Df.argL, Df.seqL, Df.seqD, Df.sAsgG, Df.dgT, Df.dgCons, Df.dgNil, Df.eChain, Df.eAnd, Df.eOr, Df.oEq, Df.eFld, Df.dOr, Df.dAnd, Df.dOrB, Df.dAndB, Df.eInt, Df.eSlL, Df.oSo, Df.oNo, Df.eI2, Df.eI1, Df.oIs, Df.sIf, Df.eIxQ, Df.iT, Df.dYes, Df.sNever, Df.sCut, Df.eGenB, Df.genE, Df.noE, Df.capE, Df.capL, Df.lendL, Df.lendE, Df.eLend, Df.dLend, Df.eLendN, Df.lndE, Df.lndL, Df.lnX, Df.lnx, List.cons_append, List.nil_append, Df.sFor, Df.iL, Df.iQ, Df.iR1, Df.iR2, Df.eIxT, Df.eIxL, Df.eCall, Df.eCallB, Df.oC, Df.dNot, Df.dB, Df.sApp, Df.sStD, Df.eDIn, Df.eDisp1, Df.eLenD]
    refine ⟨_, rfl, ⟨by omega, by omega⟩, fun o o0 o1 => ⟨_, atG o0 (by omega), _, _, rfl, ⟨by omega, by omega⟩, fun x x0 x1 => ⟨by rw [List.length_map]; omega, base ++ [base.getD o.toNat 0 + x], o, 1 + (t : Int), reach, by rw [List.map_append]; rfl, ⟨⟨by omega, by rw [List.length_append, hl]; simp; omega⟩, ⟨by omega, by rw [List.length_append, hl]; simp; omega⟩, r0, r1⟩, fun r hr => ⟨Apart.no (fun y m => ?_) rfl rfl, by rw [List.length_map, p.num]; omega, base ++ [base.getD o.toNat 0 + x], rs ++ [r], _, _, by rw [List.map_append, List.map_append]; rfl, p.step (by omega) o0 o1 (by omega) (by omega) hr⟩⟩⟩⟩
    rw [List.append_nil] at m
    exact lent_ints (w := base ++ [base.getD o.toNat 0 + x]) y (by rw [List.map_append]; exact m)
  · rintro ρ ⟨base, rs, v6, v7, rfl, p⟩
    have hl := p.len
    have hn : (↑n - 1 : Int).toNat + 1 = n := by omega
    dsimp only [Df.dgN, Df.sSeq, Df.sAsg, Df.sAsgO, Df.sMove, Df.sNext, Df.sRet, Df.eVar, Df.eVarF, Df.eC, Df.oI, Df.oU, Df.aCons, Df.aNil, Df.eCat, Df.eSum, Df.eMaxL, Df.eMinL, Df.eSorted, Df.eList, Df.eTuple, Df.eLz, Df.eLen, Df.eIndex, Df.one, Df.two, Df.nrm, Df.gt, List.set, Df.padE, Df.dat, Df.argL, Df.seqL, Df.seqD, Df.sAsgG, Df.dgT, Df.dgCons, Df.dgNil, Df.eChain, Df.eAnd, Df.eOr, Df.oEq, Df.eFld, Df.dOr, Df.dAnd, Df.dOrB, Df.dAndB, Df.eInt, Df.eSlL, Df.oSo, Df.oNo, Df.eI2, Df.eI1, Df.oIs, Df.sIf, Df.eIxQ, Df.iT, Df.dYes, Df.sNever, Df.sCut, Df.eGenB, Df.genE, Df.noE, Df.capE, Df.capL, Df.lendL, Df.lendE, Df.eLend, Df.dLend, Df.eLendN, Df.lndE, Df.lndL, Df.lnX, Df.lnx, List.cons_append, List.nil_append, Df.sFor, Df.iL, Df.iQ, Df.iR1, Df.iR2, Df.eIxT, Df.eIxL, Df.eCall, Df.eCallB, Df.oC, Df.dNot, Df.dB, Df.sApp, Df.sStD, Df.eDIn, Df.eDisp1, Df.eLenD]
    refine ⟨fun ρ => ∃ (rs' : List R4) (v6 v7 v8 v9 : Lo), ρ = [.src, .sh (.int (n : Int)), .sh (.int reach), .sh (.int far), .ow (base.map Dt.int), .ow (rs'.map dR), v6, v7, v8, v9, .no] ∧ rs'.length ≤ n ∧ (∀ r, r ∈ rs → r ∈ rs') ∧ ∀ r, r ∈ rs' → r ∈ rs ∨ isR (n : Int) r = true ∧ KeepsR reach base r, ⟨fun c1 => ⟨_, rfl, by decide, fun d d0 d1 => ⟨fun c2 => ⟨_, rfl, ⟨by omega, by omega⟩, fun f f0 f1 => ⟨_, rfl, ?_⟩⟩, fun c2 => ?_⟩⟩, fun c1 => ?_⟩, ?_⟩
    · have c1 := of_decide_eq_true c1
      refine ⟨⟨by omega, by omega⟩, fun g g0 g1 => ⟨by omega, base, f, (f + 1 + g) % (n : Int), reach, rfl, ⟨⟨f0, by omega⟩, ⟨Int.emod_nonneg _ (by omega), by have := Int.emod_lt_of_pos (f + 1 + g) (show (0 : Int) < n by omega); omega⟩, r0, r1⟩, fun r hr => ⟨Apart.no (fun y m => ?_) rfl rfl, by rw [List.length_map, p.num]; omega, rs ++ [r], _, _, _, _, by rw [List.map_append]; rfl, by rw [List.length_append, p.num]; simp; omega, fun x m => List.mem_append_left _ m, fun x m => ?_⟩⟩⟩
      · rw [List.append_nil] at m
        exact lent_ints y m
      · rcases List.mem_append.mp m with m | m
        · exact .inl m
        · rw [List.mem_singleton.mp m]
          refine .inr ⟨fits_isR hr f0 f1 (Int.emod_nonneg _ (by omega)) (Int.emod_lt_of_pos _ (by omega)) fun e => ?_, fits_ok hr⟩
          by_cases q : f + 1 + g < n
          · rw [Int.emod_eq_of_lt (by omega) q] at e; omega
          · rw [show f + 1 + g = (f + 1 + g - n) + n by omega, Int.add_emod_right, Int.emod_eq_of_lt (by omega) (by omega)] at e; omega
    · exact ⟨rs, _, _, _, _, rfl, by rw [p.num]; omega, fun r m => m, fun r m => .inl m⟩
    · exact ⟨(fun z => nomatch z), fun _ => ⟨rs, _, _, _, _, rfl, by rw [p.num]; omega, fun r m => m, fun r m => .inl m⟩⟩
    · rintro ρ ⟨rs', v6, v7, v8, v9, rfl, hl', hm, hk⟩
      dsimp only [Df.dgN, Df.sSeq, Df.sAsg, Df.sAsgO, Df.sMove, Df.sNext, Df.sRet, Df.eVar, Df.eVarF, Df.eC, Df.oI, Df.oU, Df.aCons, Df.aNil, Df.eCat, Df.eSum, Df.eMaxL, Df.eMinL, Df.eSorted, Df.eList, Df.eTuple, Df.eLz, Df.eLen, Df.eIndex, Df.one, Df.two, Df.nrm, Df.gt, List.set, Df.padE, Df.dat, Df.argL, Df.seqL, Df.seqD, Df.eLst, Df.eTup, Df.shs, Option.map, Df.eSlT, Df.eSlA, Df.sExt, Df.sStL, Df.sUpd, Df.sDrop, Df.sRetN, Df.eIsi, Df.eNot, Df.eIf, Df.eLrg, Df.eMeth, Df.eMake, Df.eCallL, Df.eMakeL, Df.eMethL, Df.eFld, Df.oEqD, Df.oIn, Df.eDGet, Df.dTr, Df.truD, Df.sAugL, Df.sAug, Df.sFldS, Df.iE, Df.iZ, Df.eMaxL, Df.eSortedD, Df.sCut, Df.eVarT, Df.eVarM, Df.eMov, Df.sAppT, Df.sStT, Df.skq, Df.trq, Df.trqs, Df.mvq, Df.eIxLK, Df.eIxTK, Df.skl, Df.eLstT, Df.eTupT, Df.aConsT, Df.sAsgG, Df.dgT, Df.dgCons, Df.dgNil, Df.eChain, Df.eAnd, Df.eOr, Df.oEq, Df.eFld, Df.dOr, Df.dAnd, Df.dOrB, Df.dAndB, Df.eInt, Df.eSlL, Df.oSo, Df.oNo, Df.eI2, Df.eI1, Df.oIs, Df.sIf, Df.eIxQ, Df.iT, Df.dYes, Df.sNever, Df.sCut, Df.eGenB, Df.genE, Df.noE, Df.capE, Df.capL, Df.lendL, Df.lendE, Df.eLend, Df.dLend, Df.eLendN, Df.lndE, Df.lndL, Df.lnX, Df.lnx, List.cons_append, List.nil_append, Df.sFor, Df.iL, Df.iQ, Df.iR1, Df.iR2, Df.eIxT, Df.eIxL, Df.eCall, Df.eCallB, Df.oC, Df.dNot, Df.dB, Df.sApp, Df.sStD, Df.eDIn, Df.eDisp1, Df.eLenD]
      refine ⟨_, rfl, by rw [List.length_map]; omega, fun d d0 d1 => ?_⟩
      have e := cut_turn (f := dR) rs' d0
      have el := congrArg List.length e
      rw [List.length_append, List.length_map, len_turn] at el
      refine ⟨by omega, (Nat.le_of_ble_eq_true rfl), ?_⟩
      rw [e]
      exact k _ _ (p.whole hn n16 (fun r m => mem_turn.mpr (hm r m)) (fun r m => hk r (mem_turn.mp m)) (by rw [len_turn]; exact hl')) (by rw [len_turn]; exact hl')
theorem tblT_app {n m : Nat} {E : Nat → Nat → Dt} {f : Nat → Dt} {x : Addr} {ts : List Tr} {r : Tr} (h : (Tr.l x ts).td = tblT n m E) (hr : r.td = .l ((List.range m).map fun j => .d (f j))) : (Tr.l x (ts ++ [r])).td = tblT (n + 1) m (fun a b => if a = n then f b else E a b) := by
  rw [td_l] at h ⊢
  unfold tblT at h ⊢
  injection h with h
  rw [List.map_append, h, List.range_succ, List.map_append, List.map_cons, List.map_nil, List.map_cons, List.map_nil, hr]
  congr 2
  · refine List.map_congr_left fun a ma => ?_
    have := List.mem_range.mp ma
    congr 1
    refine List.map_congr_left fun b _ => ?_
    show Td.d (E a b) = Td.d (if a = n then f b else E a b)
    rw [if_neg (by omega)]
  · congr 2
    refine List.map_congr_left fun b _ => ?_
    show Td.d (f b) = Td.d (if n = n then f b else E n b)
    rw [if_pos rfl]
theorem dO_put (T : TabO) (a b : Nat) (v : Int) : (fun i j => if i = a ∧ j = b then Dt.int v else dO (T i j)) = fun i j => dO (put2 T a b v i j) := by
  funext i j
  unfold put2
  split <;> rfl
theorem tr_get1 {x : Addr} {ts : List Tr} {a : Nat} {c : Tr} (h : ts[a]? = some c) : (Tr.l x ts).get [a] = some c := by
  show (match ts[a]? with | some c => Tr.get c [] | none => none) = _
  rw [h]; rfl
theorem ok_law_table (T : Txt P K mg) (B : Tb T base) : FnOk P w K mg base CX0 1 T.a_law_table T.d_law_table ["_law_size", "_law_arcs_here"] (spOf K T.tb cTable) := by
  refine T.F_law_table.ok sc_law_table (fun vs H Q E h => spOf_len h (by rintro ls Qd ⟨n, as, rfl, _⟩; rfl)) (fun cdv A outer s H vs Q E hr h => ?_)
  refine ⟨_, (pss_cons (ps_set (i := 2) sc_law_table.nd rfl (Or.inl rfl) (pe_lst pa_nil)) (pss_cons (ps_for PassesOwn.never rfl (pi_range1 (by rfl) T.z_range (pa_cons (pv 0) pa_nil)) (pg_name (i := 3) sc_law_table.nd rfl (Or.inl rfl)) (pss_cons (ps_expr (pe_bm PySem.F.plainAttrs_list PySem.F.slot_list_append PySem.F.type_list_append mt_append (pv 2) (pa_cons (pe_lc (own := [("_law_second", 4)]) (g := gName 4) (tt := tYes) (by rfl) sc_law_table.nd (pi_range1 (by rfl) T.z_range (pa_cons (pv 0) pa_nil)) (blkOk_by (own := [("_law_second", 4)]) (N := ["_law_size", "_law_arcs_here", "_law_table_here", "_law_first", "_law_second", "_law_arc", "_law_best", "_law_middle", "_law_total"]) (sc := defScope s_law_table) (by decide +kernel)) (fun _ _ _ _ _ => pg_name (i := 4) sc_law_table.nd rfl (by first | exact Or.inl rfl | exact Or.inr rfl)) (fun _ _ _ _ _ => pts_nil) (fun _ _ _ _ _ => pe_non)) pa_nil))) (pss_one (ps_asg pe_int (pg_sub (pe_ix ix_list (pv 2) (pv 3) (fun _ _ => rfl)) (pv 3) set_list))))) (pss_cons (ps_for PassesOwn.never rfl (pi_list (pv 1)) (pg_name (i := 5) sc_law_table.nd rfl (Or.inl rfl)) (pss_cons (ps_set (i := 6) sc_law_table.nd rfl (Or.inl rfl) (pe_ix ix_list (pe_ix ix_list (pv 2) (pe_ix ix_tup (pv 5) pe_int (fun _ _ => rfl)) (fun _ _ => rfl)) (pe_ix ix_tup (pv 5) pe_int (fun _ _ => rfl)) (fun _ _ => rfl))) (pss_one (ps_if (PW.pt (pw_or (pt_cmpR op_isN (pv 6) pe_non (nomark _)) (pw_or1 (pt_cmpR op_lt (pe_ix ix_tup (pv 5) pe_int (fun _ _ => rfl)) (pv 6) (nomark _))))) (pss_one (ps_asg (pe_ix ix_tup (pv 5) pe_int (fun _ _ => rfl)) (pg_sub (pe_ix ix_list (pv 2) (pe_ix ix_tup (pv 5) pe_int (fun _ _ => rfl)) (fun _ _ => rfl)) (pe_ix ix_tup (pv 5) pe_int (fun _ _ => rfl)) set_list))) pss_nil)))) (pss_cons (ps_for PassesOwn.never rfl (pi_range1 (by rfl) T.z_range (pa_cons (pv 0) pa_nil)) (pg_name (i := 7) sc_law_table.nd rfl (Or.inl rfl)) (pss_one (ps_for PassesOwn.never rfl (pi_range1 (by rfl) T.z_range (pa_cons (pv 0) pa_nil)) (pg_name (i := 3) sc_law_table.nd rfl (Or.inl rfl)) (pss_one (ps_for PassesOwn.never rfl (pi_range1 (by rfl) T.z_range (pa_cons (pv 0) pa_nil)) (pg_name (i := 4) sc_law_table.nd rfl (Or.inl rfl)) (pss_one (ps_if (PW.pt (pw_and (pt_cmpR op_notN (pe_ix ix_list (pe_ix ix_list (pv 2) (pv 3) (fun _ _ => rfl)) (pv 7) (fun _ _ => rfl)) pe_non (nomark _)) (pw_and1 (pt_cmpR op_notN (pe_ix ix_list (pe_ix ix_list (pv 2) (pv 7) (fun _ _ => rfl)) (pv 4) (fun _ _ => rfl)) pe_non (nomark _))))) (pss_cons (ps_set (i := 8) sc_law_table.nd rfl (Or.inl rfl) (pe_op op_add (pe_ix ix_list (pe_ix ix_list (pv 2) (pv 3) (fun _ _ => rfl)) (pv 7) (fun _ _ => rfl)) (pe_ix ix_list (pe_ix ix_list (pv 2) (pv 7) (fun _ _ => rfl)) (pv 4) (fun _ _ => rfl)))) (pss_one (ps_if (PW.pt (pw_or (pt_cmpR op_isN (pe_ix ix_list (pe_ix ix_list (pv 2) (pv 3) (fun _ _ => rfl)) (pv 4) (fun _ _ => rfl)) pe_non (nomark _)) (pw_or1 (pt_cmpR op_lt (pv 8) (pe_ix ix_list (pe_ix ix_list (pv 2) (pv 3) (fun _ _ => rfl)) (pv 4) (fun _ _ => rfl)) (nomark _))))) (pss_one (ps_asg (pv 8) (pg_sub (pe_ix ix_list (pv 2) (pv 3) (fun _ _ => rfl)) (pv 4) set_list))) pss_nil))) pss_nil))))))) (pss_one (ps_ret (pv 2))))))), ?_⟩
  refine df_body (m := 9) (ls_seq (ls_asgO (i := 2) (le_lstT la_nil)) (ls_seq (ls_for (li_r1 (la_cons (le_var (i := 0)) la_nil)) (lf_name (i := 3)) (ls_seq (ls_appT (le_var (i := 2)) ((le_lcT (own := [4]) ((li_r1 (la_cons (le_var (i := 0)) la_nil))).c (lf_name (i := 4)) lt_yes le_non (by decide))).z) (ls_stT (le_ixLK (le_var (i := 2)) (le_var (i := 3))) (le_var (i := 3)) le_int))) (ls_seq (ls_for (li_list (le_var (i := 1))) (lf_name (i := 5)) (ls_seq (ls_asg (i := 6) (le_lend (le_ixL (le_ixL (le_var (i := 2)) (le_ixT (le_var (i := 5)) le_int)) (le_ixT (le_var (i := 5)) le_int)))) (ls_if (lt_or (lt_T (le_isN (le_var (i := 6)) le_non)) (lt_T (le_lt (le_ixT (le_var (i := 5)) le_int) (le_var (i := 6))))) (ls_stT (le_ixLK (le_var (i := 2)) (le_ixT (le_var (i := 5)) le_int)) (le_ixT (le_var (i := 5)) le_int) (le_ixT (le_var (i := 5)) le_int)) ls_next))) (ls_seq (ls_for (li_r1 (la_cons (le_var (i := 0)) la_nil)) (lf_name (i := 7)) (ls_for (li_r1 (la_cons (le_var (i := 0)) la_nil)) (lf_name (i := 3)) (ls_for (li_r1 (la_cons (le_var (i := 0)) la_nil)) (lf_name (i := 4)) (ls_if (lt_lend (lt_and (lt_T (le_notN (le_ixL (le_ixL (le_var (i := 2)) (le_var (i := 3))) (le_var (i := 7))) le_non)) (lt_T (le_notN (le_ixL (le_ixL (le_var (i := 2)) (le_var (i := 7))) (le_var (i := 4))) le_non)))) (ls_seq (ls_asg (i := 8) (le_lend (le_add (le_ixL (le_ixL (le_var (i := 2)) (le_var (i := 3))) (le_var (i := 7))) (le_ixL (le_ixL (le_var (i := 2)) (le_var (i := 7))) (le_var (i := 4)))))) (ls_if (lt_lend (lt_or (lt_T (le_isN (le_ixL (le_ixL (le_var (i := 2)) (le_var (i := 3))) (le_var (i := 4))) le_non)) (lt_T (le_lt (le_var (i := 8)) (le_ixL (le_ixL (le_var (i := 2)) (le_var (i := 3))) (le_var (i := 4))))))) (ls_stT (le_ixLK (le_var (i := 2)) (le_var (i := 3))) (le_var (i := 4)) (le_var (i := 8))) ls_next)) ls_next)))) (ls_ret (le_var (i := 2))))))) h rfl (Nat.le_trans (Nat.le_of_eq (spOf_len (n := 2) h (by rintro ls Qd ⟨n, as, rfl, _⟩; rfl))) (by decide)) ?_
  clear h
  rintro ls Q ⟨n, as, rfl, ⟨hn, ha⟩, k⟩
  dsimp only [Df.dgN, Df.sSeq, Df.sAsg, Df.sAsgO, Df.sMove, Df.sNext, Df.sRet, Df.eVar, Df.eVarF, Df.eC, Df.oI, Df.oU, Df.aCons, Df.aNil, Df.eCat, Df.eSum, Df.eMaxL, Df.eMinL, Df.eSorted, Df.eList, Df.eTuple, Df.eLz, Df.eLen, Df.eIndex, Df.one, Df.two, Df.nrm, Df.gt, List.set, Df.padE, Df.dat, Df.argL, Df.seqL, Df.seqD, Df.eLst, Df.eTup, Df.shs, Option.map, Df.eSlT, Df.eSlA, Df.sExt, Df.sStL, Df.sUpd, Df.sDrop, Df.sRetN, Df.eIsi, Df.eNot, Df.eIf, Df.eLrg, Df.eMeth, Df.eMake, Df.eCallL, Df.eMakeL, Df.eMethL, Df.eFld, Df.oEqD, Df.oIn, Df.eDGet, Df.dTr, Df.truD, Df.sAugL, Df.sAug, Df.sFldS, Df.iE, Df.iZ, Df.eMaxL, Df.eSortedD, Df.sCut, Df.eVarT, Df.eVarM, Df.eMov, Df.sAppT, Df.sStT, Df.skq, Df.trq, Df.trqs, Df.mvq, Df.eIxLK, Df.eIxTK, Df.skl, Df.eLstT, Df.eTupT, Df.aConsT, Df.sAsgG, Df.dgT, Df.dgCons, Df.dgNil, Df.eChain, Df.eAnd, Df.eOr, Df.oEq, Df.eFld, Df.dOr, Df.dAnd, Df.dOrB, Df.dAndB, Df.eInt, Df.eSlL, Df.oSo, Df.oNo, Df.eI2, Df.eI1, Df.oIs, Df.sIf, Df.eIxQ, Df.iT, Df.dYes, Df.sNever, Df.sCut, Df.eGenB, Df.genE, Df.noE, Df.capE, Df.capL, Df.lendL, Df.lendE, Df.eLend, Df.dLend, Df.eLendN, Df.lndE, Df.lndL, Df.lnX, Df.lnx, List.cons_append, List.nil_append, Df.eIxT, Df.eIxL, Df.eCall, Df.eCallB, Df.oC, Df.dNot, Df.dB, Df.sApp, Df.sStD, Df.eDIn, Df.eDisp1, Df.eLenD]
  refine ⟨(Nat.le_of_ble_eq_true rfl), fun p0 => ?_⟩
  have bn : (-(2 ^ 62) ≤ (n : Int) ∧ (n : Int) < 2 ^ 62) := ⟨by omega, by omega⟩
  refine ⟨bn, ?_⟩
  rw [rng_dI' rfl]
  refine forE dI (List.range n) (fun i ρ => ∃ (t : Tr) (v3 : Lo), ρ = [.sh (.int (n : Int)), .sh (.lst (as.map dArc)), .tr t, v3, .no, .no, .no, .no, .no] ∧ t.td = tblT i n (fun a b => dO (tab0 a b))) ⟨_, _, rfl, rfl⟩ ?_ ?_
  · rintro i z ρ hz ⟨t, v3, rfl, ht⟩
    have hi : i < n := by have := (List.getElem?_eq_some_iff.mp hz).1; simpa using this
    rw [List.getElem?_range hi] at hz
    cases hz
    dsimp only [Df.dgN, Df.sSeq, Df.sAsg, Df.sAsgO, Df.sMove, Df.sNext, Df.sRet, Df.eVar, Df.eVarF, Df.eC, Df.oI, Df.oU, Df.aCons, Df.aNil, Df.eCat, Df.eSum, Df.eMaxL, Df.eMinL, Df.eSorted, Df.eList, Df.eTuple, Df.eLz, Df.eLen, Df.eIndex, Df.one, Df.two, Df.nrm, Df.gt, List.set, Df.padE, Df.dat, Df.argL, Df.seqL, Df.seqD, Df.eLst, Df.eTup, Df.shs, Option.map, Df.eSlT, Df.eSlA, Df.sExt, Df.sStL, Df.sUpd, Df.sDrop, Df.sRetN, Df.eIsi, Df.eNot, Df.eIf, Df.eLrg, Df.eMeth, Df.eMake, Df.eCallL, Df.eMakeL, Df.eMethL, Df.eFld, Df.oEqD, Df.oIn, Df.eDGet, Df.dTr, Df.truD, Df.sAugL, Df.sAug, Df.sFldS, Df.iE, Df.iZ, Df.eMaxL, Df.eSortedD, Df.sCut, Df.eVarT, Df.eVarM, Df.eMov, Df.sAppT, Df.sStT, Df.skq, Df.trq, Df.trqs, Df.mvq, Df.eIxLK, Df.eIxTK, Df.skl, Df.eLstT, Df.eTupT, Df.aConsT, Df.sAsgG, Df.dgT, Df.dgCons, Df.dgNil, Df.eChain, Df.eAnd, Df.eOr, Df.oEq, Df.eFld, Df.dOr, Df.dAnd, Df.dOrB, Df.dAndB, Df.eInt, Df.eSlL, Df.oSo, Df.oNo, Df.eI2, Df.eI1, Df.oIs, Df.sIf, Df.eIxQ, Df.iT, Df.dYes, Df.sNever, Df.sCut, Df.eGenB, Df.genE, Df.noE, Df.capE, Df.capL, Df.lendL, Df.lendE, Df.eLend, Df.dLend, Df.eLendN, Df.lndE, Df.lndL, Df.lnX, Df.lnx, List.cons_append, List.nil_append, Df.eIxT, Df.eIxL, Df.eCall, Df.eCallB, Df.oC, Df.dNot, Df.dB, Df.sApp, Df.sStD, Df.eDIn, Df.eDisp1, Df.eLenD]
    obtain ⟨x, ts, rfl, hl, hrow⟩ := tblT_is ht
    refine ⟨x, ts, rfl, ⟨2, .l x ts, [], ts, rfl, rfl⟩, ?_⟩
    refine lcTM dI (List.range n) (fun _ => Td.d .non) rfl (by simp; omega) (fun k h => ⟨bn, by rw [rng_dI' rfl]; exact h⟩) (fun d ρ P Q h => h _) (fun y hy C cc => ⟨rfl, cc _ rfl⟩) (fun r hr => ?_)
    refine ⟨2, .l x ts, [], ts, rfl, rfl, by omega, ?_⟩
    dsimp only [Df.dgN, Df.sSeq, Df.sAsg, Df.sAsgO, Df.sMove, Df.sNext, Df.sRet, Df.eVar, Df.eVarF, Df.eC, Df.oI, Df.oU, Df.aCons, Df.aNil, Df.eCat, Df.eSum, Df.eMaxL, Df.eMinL, Df.eSorted, Df.eList, Df.eTuple, Df.eLz, Df.eLen, Df.eIndex, Df.one, Df.two, Df.nrm, Df.gt, List.set, Df.padE, Df.dat, Df.argL, Df.seqL, Df.seqD, Df.eLst, Df.eTup, Df.shs, Option.map, Df.eSlT, Df.eSlA, Df.sExt, Df.sStL, Df.sUpd, Df.sDrop, Df.sRetN, Df.eIsi, Df.eNot, Df.eIf, Df.eLrg, Df.eMeth, Df.eMake, Df.eCallL, Df.eMakeL, Df.eMethL, Df.eFld, Df.oEqD, Df.oIn, Df.eDGet, Df.dTr, Df.truD, Df.sAugL, Df.sAug, Df.sFldS, Df.iE, Df.iZ, Df.eMaxL, Df.eSortedD, Df.sCut, Df.eVarT, Df.eVarM, Df.eMov, Df.sAppT, Df.sStT, Df.skq, Df.trq, Df.trqs, Df.mvq, Df.eIxLK, Df.eIxTK, Df.skl, Df.eLstT, Df.eTupT, Df.aConsT, Df.sAsgG, Df.dgT, Df.dgCons, Df.dgNil, Df.eChain, Df.eAnd, Df.eOr, Df.oEq, Df.eFld, Df.dOr, Df.dAnd, Df.dOrB, Df.dAndB, Df.eInt, Df.eSlL, Df.oSo, Df.oNo, Df.eI2, Df.eI1, Df.oIs, Df.sIf, Df.eIxQ, Df.iT, Df.dYes, Df.sNever, Df.sCut, Df.eGenB, Df.genE, Df.noE, Df.capE, Df.capL, Df.lendL, Df.lendE, Df.eLend, Df.dLend, Df.eLendN, Df.lndE, Df.lndL, Df.lnX, Df.lnx, List.cons_append, List.nil_append, Df.eIxT, Df.eIxL, Df.eCall, Df.eCallB, Df.oC, Df.dNot, Df.dB, Df.sApp, Df.sStD, Df.eDIn, Df.eDisp1, Df.eLenD]
    have hr' : r.td = .l ((List.range n).map fun _ => .d .non) := hr
    obtain ⟨y, us, rfl, ul⟩ := td_isL hr'
    have ht2 := tblT_app (f := fun _ => Dt.non) ht hr'
    have ta : (ts ++ [Tr.l y us])[i]? = some (.l y us) := by rw [List.getElem?_append_right (by omega), hl, Nat.sub_self]; rfl
    have ln : us.length = n := by have := congrArg List.length ul; simpa using this
    refine ⟨(i : Int), rfl, x, ts ++ [.l y us], 2, .l x (ts ++ [.l y us]), [], ts ++ [.l y us], .l y us, rfl, rfl, rfl, atI_nat ta, y, us, rfl, (i : Int), .int 0, rfl, rfl, 2, .l x (ts ++ [.l y us]), [i], us, i, rfl, tr_get1 ta, ixN_j (by omega), _, _, rfl, ?_⟩
    have ht3 := tblT_put (d := .int 0) ht2 ta hi
    rw [ht3]
    congr 1
    funext a b
    unfold tab0
    by_cases h1 : a = i
    · subst h1
      by_cases h2 : b = a
      · subst h2; simp [dO]
      · have h3 : ¬ a = b := fun z => h2 z.symm
        simp [h2, h3, dO]
    · simp [h1]
  · rintro ρ ⟨t, v3, rfl, ht⟩
    rw [List.length_range] at ht
    dsimp only [Df.dgN, Df.sSeq, Df.sAsg, Df.sAsgO, Df.sMove, Df.sNext, Df.sRet, Df.eVar, Df.eVarF, Df.eC, Df.oI, Df.oU, Df.aCons, Df.aNil, Df.eCat, Df.eSum, Df.eMaxL, Df.eMinL, Df.eSorted, Df.eList, Df.eTuple, Df.eLz, Df.eLen, Df.eIndex, Df.one, Df.two, Df.nrm, Df.gt, List.set, Df.padE, Df.dat, Df.argL, Df.seqL, Df.seqD, Df.eLst, Df.eTup, Df.shs, Option.map, Df.eSlT, Df.eSlA, Df.sExt, Df.sStL, Df.sUpd, Df.sDrop, Df.sRetN, Df.eIsi, Df.eNot, Df.eIf, Df.eLrg, Df.eMeth, Df.eMake, Df.eCallL, Df.eMakeL, Df.eMethL, Df.eFld, Df.oEqD, Df.oIn, Df.eDGet, Df.dTr, Df.truD, Df.sAugL, Df.sAug, Df.sFldS, Df.iE, Df.iZ, Df.eMaxL, Df.eSortedD, Df.sCut, Df.eVarT, Df.eVarM, Df.eMov, Df.sAppT, Df.sStT, Df.skq, Df.trq, Df.trqs, Df.mvq, Df.eIxLK, Df.eIxTK, Df.skl, Df.eLstT, Df.eTupT, Df.aConsT, Df.sAsgG, Df.dgT, Df.dgCons, Df.dgNil, Df.eChain, Df.eAnd, Df.eOr, Df.oEq, Df.eFld, Df.dOr, Df.dAnd, Df.dOrB, Df.dAndB, Df.eInt, Df.eSlL, Df.oSo, Df.oNo, Df.eI2, Df.eI1, Df.oIs, Df.sIf, Df.eIxQ, Df.iT, Df.dYes, Df.sNever, Df.sCut, Df.eGenB, Df.genE, Df.noE, Df.capE, Df.capL, Df.lendL, Df.lendE, Df.eLend, Df.dLend, Df.eLendN, Df.lndE, Df.lndL, Df.lnX, Df.lnx, List.cons_append, List.nil_append, Df.eIxT, Df.eIxL, Df.eCall, Df.eCallB, Df.oC, Df.dNot, Df.dB, Df.sApp, Df.sStD, Df.eDIn, Df.eDisp1, Df.eLenD]
    refine forE dArc as (fun i ρ => ∃ (t : Tr) (v3 v5 v6 : Lo), ρ = [.sh (.int (n : Int)), .sh (.lst (as.map dArc)), .tr t, v3, .no, v5, v6, .no, .no] ∧ t.td = tblT n n (fun a b => dO (arcsT (as.take i) a b))) ⟨t, _, _, _, rfl, ht⟩ ?_ ?_
    · rintro i ⟨a, b, c⟩ ρ hx ⟨t, v3, v5, v6, rfl, ht⟩
      obtain ⟨⟨a0, a1⟩, b0, b1⟩ := ha _ (List.mem_of_getElem? hx)
      dsimp only at a0 a1 b0 b1
      obtain ⟨A, rfl⟩ := Int.eq_ofNat_of_zero_le a0
      obtain ⟨B', rfl⟩ := Int.eq_ofNat_of_zero_le b0
      have hA : A < n := by omega
      have hB : B' < n := by omega
      have st : arcsT (as.take (i + 1)) = low2 (arcsT (as.take i)) A B' c := by
        unfold arcsT
        rw [take_get hx, List.foldl_append]
        rfl
      rw [st]
      generalize arcsT (as.take i) = T at ht ⊢
      have qq := low2_eq T A B' c
      dsimp only [Df.dgN, Df.sSeq, Df.sAsg, Df.sAsgO, Df.sMove, Df.sNext, Df.sRet, Df.eVar, Df.eVarF, Df.eC, Df.oI, Df.oU, Df.aCons, Df.aNil, Df.eCat, Df.eSum, Df.eMaxL, Df.eMinL, Df.eSorted, Df.eList, Df.eTuple, Df.eLz, Df.eLen, Df.eIndex, Df.one, Df.two, Df.nrm, Df.gt, List.set, Df.padE, Df.dat, Df.argL, Df.seqL, Df.seqD, Df.eLst, Df.eTup, Df.shs, Option.map, Df.eSlT, Df.eSlA, Df.sExt, Df.sStL, Df.sUpd, Df.sDrop, Df.sRetN, Df.eIsi, Df.eNot, Df.eIf, Df.eLrg, Df.eMeth, Df.eMake, Df.eCallL, Df.eMakeL, Df.eMethL, Df.eFld, Df.oEqD, Df.oIn, Df.eDGet, Df.dTr, Df.truD, Df.sAugL, Df.sAug, Df.sFldS, Df.iE, Df.iZ, Df.eMaxL, Df.eSortedD, Df.sCut, Df.eVarT, Df.eVarM, Df.eMov, Df.sAppT, Df.sStT, Df.skq, Df.trq, Df.trqs, Df.mvq, Df.eIxLK, Df.eIxTK, Df.skl, Df.eLstT, Df.eTupT, Df.aConsT, Df.sAsgG, Df.dgT, Df.dgCons, Df.dgNil, Df.eChain, Df.eAnd, Df.eOr, Df.oEq, Df.eFld, Df.dOr, Df.dAnd, Df.dOrB, Df.dAndB, Df.eInt, Df.eSlL, Df.oSo, Df.oNo, Df.eI2, Df.eI1, Df.oIs, Df.sIf, Df.eIxQ, Df.iT, Df.dYes, Df.sNever, Df.sCut, Df.eGenB, Df.genE, Df.noE, Df.capE, Df.capL, Df.lendL, Df.lendE, Df.eLend, Df.dLend, Df.eLendN, Df.lndE, Df.lndL, Df.lnX, Df.lnx, List.cons_append, List.nil_append, Df.eIxT, Df.eIxL, Df.eCall, Df.eCallB, Df.oC, Df.dNot, Df.dB, Df.sApp, Df.sStD, Df.eDIn, Df.eDisp1, Df.eLenD]
      rw [tblT_dat ht]
      refine ⟨_, rfl, _, atI_nat (rng_at' _ hA), _, rfl, _, atI_nat (rng_at' _ hB), by cases T A B' <;> rfl, (match T A B' with | none => false | some v => decide (c < v)), fun h => ?_, fun h => ?_, fun h => ?_⟩
      · generalize T A B' = o at h ⊢
        cases o with
        | none => cases h
        | some v => exact ⟨_, rfl, rfl, rfl⟩
      · have e : low2 T A B' c = put2 T A B' c := by
          rcases qq with q | ⟨_, x, q1, q2⟩
          · exact q.1
          · rw [q1] at h
            have h : (false || decide (c < x)) = true := h
            simp at h
            omega
        rw [e]
        obtain ⟨x, ts, rfl, hl, hrow⟩ := tblT_is ht
        obtain ⟨y, us, ta, ul, uat⟩ := hrow A hA
        refine ⟨_, rfl, _, rfl, (A : Int), rfl, x, ts, 2, .l x ts, [], ts, .l y us, rfl, rfl, rfl, atI_nat ta, _, rfl, y, us, rfl, (B' : Int), .int c, rfl, rfl, 2, .l x ts, [A], us, B', rfl, tr_get1 ta, ixN_j (by omega), _, _, _, _, rfl, ?_⟩
        rw [tblT_put (d := .int c) ht ta hB, dO_put]
      · have e : low2 T A B' c = T := by
          rcases qq with ⟨q1, q2⟩ | q
          · generalize ho : T A B' = o at h
            cases o with
            | none => cases h
            | some v =>
              have h : (false || decide (c < v)) = false := h
              simp at h
              have := q2 v ho
              omega
          · exact q.1
        rw [e]
        exact ⟨t, _, _, _, rfl, ht⟩
    · rintro ρ ⟨t, v3, v5, v6, rfl, ht⟩
      rw [List.take_length] at ht
      dsimp only [Df.dgN, Df.sSeq, Df.sAsg, Df.sAsgO, Df.sMove, Df.sNext, Df.sRet, Df.eVar, Df.eVarF, Df.eC, Df.oI, Df.oU, Df.aCons, Df.aNil, Df.eCat, Df.eSum, Df.eMaxL, Df.eMinL, Df.eSorted, Df.eList, Df.eTuple, Df.eLz, Df.eLen, Df.eIndex, Df.one, Df.two, Df.nrm, Df.gt, List.set, Df.padE, Df.dat, Df.argL, Df.seqL, Df.seqD, Df.eLst, Df.eTup, Df.shs, Option.map, Df.eSlT, Df.eSlA, Df.sExt, Df.sStL, Df.sUpd, Df.sDrop, Df.sRetN, Df.eIsi, Df.eNot, Df.eIf, Df.eLrg, Df.eMeth, Df.eMake, Df.eCallL, Df.eMakeL, Df.eMethL, Df.eFld, Df.oEqD, Df.oIn, Df.eDGet, Df.dTr, Df.truD, Df.sAugL, Df.sAug, Df.sFldS, Df.iE, Df.iZ, Df.eMaxL, Df.eSortedD, Df.sCut, Df.eVarT, Df.eVarM, Df.eMov, Df.sAppT, Df.sStT, Df.skq, Df.trq, Df.trqs, Df.mvq, Df.eIxLK, Df.eIxTK, Df.skl, Df.eLstT, Df.eTupT, Df.aConsT, Df.sAsgG, Df.dgT, Df.dgCons, Df.dgNil, Df.eChain, Df.eAnd, Df.eOr, Df.oEq, Df.eFld, Df.dOr, Df.dAnd, Df.dOrB, Df.dAndB, Df.eInt, Df.eSlL, Df.oSo, Df.oNo, Df.eI2, Df.eI1, Df.oIs, Df.sIf, Df.eIxQ, Df.iT, Df.dYes, Df.sNever, Df.sCut, Df.eGenB, Df.genE, Df.noE, Df.capE, Df.capL, Df.lendL, Df.lendE, Df.eLend, Df.dLend, Df.eLendN, Df.lndE, Df.lndL, Df.lnX, Df.lnx, List.cons_append, List.nil_append, Df.eIxT, Df.eIxL, Df.eCall, Df.eCallB, Df.oC, Df.dNot, Df.dB, Df.sApp, Df.sStD, Df.eDIn, Df.eDisp1, Df.eLenD]
      refine ⟨bn, ?_⟩
      rw [rng_dI' rfl]
      refine forE dI (List.range n) (fun i ρ => ∃ (t : Tr) (v3 v4 v5 v6 v7 v8 : Lo), ρ = [.sh (.int (n : Int)), .sh (.lst (as.map dArc)), .tr t, v3, v4, v5, v6, v7, v8] ∧ t.td = tblT n n (fun a b => dO ((List.range i).foldl (rlxAll n) (arcsT as) a b))) ⟨t, _, _, _, _, _, _, rfl, ht⟩ ?_ ?_
      · rintro m z ρ hz ⟨t, v3, v4, v5, v6, v7, v8, rfl, ht⟩
        have hm : m < n := by have := (List.getElem?_eq_some_iff.mp hz).1; simpa using this
        rw [List.getElem?_range hm] at hz
        cases hz
        rw [List.range_succ, List.foldl_append]
        generalize (List.range m).foldl (rlxAll n) (arcsT as) = T0 at ht ⊢
        dsimp only [Df.dgN, Df.sSeq, Df.sAsg, Df.sAsgO, Df.sMove, Df.sNext, Df.sRet, Df.eVar, Df.eVarF, Df.eC, Df.oI, Df.oU, Df.aCons, Df.aNil, Df.eCat, Df.eSum, Df.eMaxL, Df.eMinL, Df.eSorted, Df.eList, Df.eTuple, Df.eLz, Df.eLen, Df.eIndex, Df.one, Df.two, Df.nrm, Df.gt, List.set, Df.padE, Df.dat, Df.argL, Df.seqL, Df.seqD, Df.eLst, Df.eTup, Df.shs, Option.map, Df.eSlT, Df.eSlA, Df.sExt, Df.sStL, Df.sUpd, Df.sDrop, Df.sRetN, Df.eIsi, Df.eNot, Df.eIf, Df.eLrg, Df.eMeth, Df.eMake, Df.eCallL, Df.eMakeL, Df.eMethL, Df.eFld, Df.oEqD, Df.oIn, Df.eDGet, Df.dTr, Df.truD, Df.sAugL, Df.sAug, Df.sFldS, Df.iE, Df.iZ, Df.eMaxL, Df.eSortedD, Df.sCut, Df.eVarT, Df.eVarM, Df.eMov, Df.sAppT, Df.sStT, Df.skq, Df.trq, Df.trqs, Df.mvq, Df.eIxLK, Df.eIxTK, Df.skl, Df.eLstT, Df.eTupT, Df.aConsT, Df.sAsgG, Df.dgT, Df.dgCons, Df.dgNil, Df.eChain, Df.eAnd, Df.eOr, Df.oEq, Df.eFld, Df.dOr, Df.dAnd, Df.dOrB, Df.dAndB, Df.eInt, Df.eSlL, Df.oSo, Df.oNo, Df.eI2, Df.eI1, Df.oIs, Df.sIf, Df.eIxQ, Df.iT, Df.dYes, Df.sNever, Df.sCut, Df.eGenB, Df.genE, Df.noE, Df.capE, Df.capL, Df.lendL, Df.lendE, Df.eLend, Df.dLend, Df.eLendN, Df.lndE, Df.lndL, Df.lnX, Df.lnx, List.cons_append, List.nil_append, Df.eIxT, Df.eIxL, Df.eCall, Df.eCallB, Df.oC, Df.dNot, Df.dB, Df.sApp, Df.sStD, Df.eDIn, Df.eDisp1, Df.eLenD]
        refine ⟨bn, ?_⟩
        rw [rng_dI' rfl]
        refine forE dI (List.range n) (fun i ρ => ∃ (t : Tr) (v3 v4 v8 : Lo), ρ = [.sh (.int (n : Int)), .sh (.lst (as.map dArc)), .tr t, v3, v4, v5, v6, .sh (dI m), v8] ∧ t.td = tblT n n (fun a b => dO ((List.range i).foldl (rlxRow n m) T0 a b))) ⟨t, _, _, _, rfl, ht⟩ ?_ ?_
        · rintro i z ρ hz ⟨t, v3, v4, v8, rfl, ht⟩
          have hi : i < n := by have := (List.getElem?_eq_some_iff.mp hz).1; simpa using this
          rw [List.getElem?_range hi] at hz
          cases hz
          rw [List.range_succ, List.foldl_append]
          generalize (List.range i).foldl (rlxRow n m) T0 = T1 at ht ⊢
          dsimp only [Df.dgN, Df.sSeq, Df.sAsg, Df.sAsgO, Df.sMove, Df.sNext, Df.sRet, Df.eVar, Df.eVarF, Df.eC, Df.oI, Df.oU, Df.aCons, Df.aNil, Df.eCat, Df.eSum, Df.eMaxL, Df.eMinL, Df.eSorted, Df.eList, Df.eTuple, Df.eLz, Df.eLen, Df.eIndex, Df.one, Df.two, Df.nrm, Df.gt, List.set, Df.padE, Df.dat, Df.argL, Df.seqL, Df.seqD, Df.eLst, Df.eTup, Df.shs, Option.map, Df.eSlT, Df.eSlA, Df.sExt, Df.sStL, Df.sUpd, Df.sDrop, Df.sRetN, Df.eIsi, Df.eNot, Df.eIf, Df.eLrg, Df.eMeth, Df.eMake, Df.eCallL, Df.eMakeL, Df.eMethL, Df.eFld, Df.oEqD, Df.oIn, Df.eDGet, Df.dTr, Df.truD, Df.sAugL, Df.sAug, Df.sFldS, Df.iE, Df.iZ, Df.eMaxL, Df.eSortedD, Df.sCut, Df.eVarT, Df.eVarM, Df.eMov, Df.sAppT, Df.sStT, Df.skq, Df.trq, Df.trqs, Df.mvq, Df.eIxLK, Df.eIxTK, Df.skl, Df.eLstT, Df.eTupT, Df.aConsT, Df.sAsgG, Df.dgT, Df.dgCons, Df.dgNil, Df.eChain, Df.eAnd, Df.eOr, Df.oEq, Df.eFld, Df.dOr, Df.dAnd, Df.dOrB, Df.dAndB, Df.eInt, Df.eSlL, Df.oSo, Df.oNo, Df.eI2, Df.eI1, Df.oIs, Df.sIf, Df.eIxQ, Df.iT, Df.dYes, Df.sNever, Df.sCut, Df.eGenB, Df.genE, Df.noE, Df.capE, Df.capL, Df.lendL, Df.lendE, Df.eLend, Df.dLend, Df.eLendN, Df.lndE, Df.lndL, Df.lnX, Df.lnx, List.cons_append, List.nil_append, Df.eIxT, Df.eIxL, Df.eCall, Df.eCallB, Df.oC, Df.dNot, Df.dB, Df.sApp, Df.sStD, Df.eDIn, Df.eDisp1, Df.eLenD]
          refine ⟨bn, ?_⟩
          rw [rng_dI' rfl]
          refine forE dI (List.range n) (fun j ρ => ∃ (t : Tr) (v4 v8 : Lo), ρ = [.sh (.int (n : Int)), .sh (.lst (as.map dArc)), .tr t, .sh (dI i), v4, v5, v6, .sh (dI m), v8] ∧ t.td = tblT n n (fun a b => dO ((List.range j).foldl (rlx m i) T1 a b))) ⟨t, _, _, rfl, ht⟩ ?_ ?_
          · rintro j z ρ hz ⟨t, v4, v8, rfl, ht⟩
            have hj : j < n := by have := (List.getElem?_eq_some_iff.mp hz).1; simpa using this
            rw [List.getElem?_range hj] at hz
            cases hz
            rw [List.range_succ, List.foldl_append]
            generalize (List.range j).foldl (rlx m i) T1 = T at ht ⊢
            show (_ : Prop)
            have rx : List.foldl (rlx m i) T [j] = rlx m i T j := rfl
            rw [rx]
            dsimp only [Df.dgN, Df.sSeq, Df.sAsg, Df.sAsgO, Df.sMove, Df.sNext, Df.sRet, Df.eVar, Df.eVarF, Df.eC, Df.oI, Df.oU, Df.aCons, Df.aNil, Df.eCat, Df.eSum, Df.eMaxL, Df.eMinL, Df.eSorted, Df.eList, Df.eTuple, Df.eLz, Df.eLen, Df.eIndex, Df.one, Df.two, Df.nrm, Df.gt, List.set, Df.padE, Df.dat, Df.argL, Df.seqL, Df.seqD, Df.eLst, Df.eTup, Df.shs, Option.map, Df.eSlT, Df.eSlA, Df.sExt, Df.sStL, Df.sUpd, Df.sDrop, Df.sRetN, Df.eIsi, Df.eNot, Df.eIf, Df.eLrg, Df.eMeth, Df.eMake, Df.eCallL, Df.eMakeL, Df.eMethL, Df.eFld, Df.oEqD, Df.oIn, Df.eDGet, Df.dTr, Df.truD, Df.sAugL, Df.sAug, Df.sFldS, Df.iE, Df.iZ, Df.eMaxL, Df.eSortedD, Df.sCut, Df.eVarT, Df.eVarM, Df.eMov, Df.sAppT, Df.sStT, Df.skq, Df.trq, Df.trqs, Df.mvq, Df.eIxLK, Df.eIxTK, Df.skl, Df.eLstT, Df.eTupT, Df.aConsT, Df.sAsgG, Df.dgT, Df.dgCons, Df.dgNil, Df.eChain, Df.eAnd, Df.eOr, Df.oEq, Df.eFld, Df.dOr, Df.dAnd, Df.dOrB, Df.dAndB, Df.eInt, Df.eSlL, Df.oSo, Df.oNo, Df.eI2, Df.eI1, Df.oIs, Df.sIf, Df.eIxQ, Df.iT, Df.dYes, Df.sNever, Df.sCut, Df.eGenB, Df.genE, Df.noE, Df.capE, Df.capL, Df.lendL, Df.lendE, Df.eLend, Df.dLend, Df.eLendN, Df.lndE, Df.lndL, Df.lnX, Df.lnx, List.cons_append, List.nil_append, Df.eIxT, Df.eIxL, Df.eCall, Df.eCallB, Df.oC, Df.dNot, Df.dB, Df.sApp, Df.sStD, Df.eDIn, Df.eDisp1, Df.eLenD]
            rw [tblT_dat ht]
            refine ⟨_, atI_nat (rng_at' _ hi), _, atI_nat (rng_at' _ hm), !isNo (dO (T m j)), fun _ => ⟨_, atI_nat (rng_at' _ hm), _, atI_nat (rng_at' _ hj), rfl, rfl⟩, fun h => ?_, fun h => ?_⟩
            · have e12 : ∃ x y, T i m = some x ∧ T m j = some y := by
                generalize T i m = o1 at h ⊢
                generalize T m j = o2 at h ⊢
                cases o1 <;> cases o2 <;> first | exact ⟨_, _, rfl, rfl⟩ | cases h
              obtain ⟨x, y, e1, e2⟩ := e12
              have er : rlx m i T j = low2 T i j (x + y) := by unfold rlx; rw [e1, e2]
              have qq := low2_eq T i j (x + y)
              refine ⟨_, atI_nat (rng_at' _ hi), _, atI_nat (rng_at' _ hm), _, atI_nat (rng_at' _ hm), _, atI_nat (rng_at' _ hj), ?_⟩
              rw [e1, e2, er]
              refine ⟨rfl, _, atI_nat (rng_at' _ hi), _, atI_nat (rng_at' _ hj), (match T i j with | none => false | some v => decide (x + y < v)), fun h => ⟨_, atI_nat (rng_at' _ hi), _, atI_nat (rng_at' _ hj), ?_⟩, fun h => ?_, fun h => ?_⟩
              · generalize T i j = o at h ⊢
                cases o with
                | none => cases h
                | some v => exact ⟨rfl, rfl⟩
              · have e : low2 T i j (x + y) = put2 T i j (x + y) := by
                  rcases qq with q | ⟨_, z, q1, q2⟩
                  · exact q.1
                  · rw [q1] at h
                    have h : (false || decide (x + y < z)) = true := h
                    simp at h
                    omega
                rw [e]
                obtain ⟨p, ts, rfl, hl, hrow⟩ := tblT_is ht
                obtain ⟨p1, us, ta, ul, uat⟩ := hrow i hi
                refine ⟨(i : Int), rfl, p, ts, 2, .l p ts, [], ts, .l p1 us, rfl, rfl, rfl, atI_nat ta, p1, us, rfl, (j : Int), .int (x + y), rfl, rfl, 2, .l p ts, [i], us, j, rfl, tr_get1 ta, ixN_j (by omega), _, _, _, rfl, ?_⟩
                rw [tblT_put (d := .int (x + y)) ht ta hj, dO_put]
              · have e : low2 T i j (x + y) = T := by
                  rcases qq with ⟨q1, q2⟩ | q
                  · generalize ho : T i j = o at h
                    cases o with
                    | none => cases h
                    | some v =>
                      have h : (false || decide (x + y < v)) = false := h
                      simp at h
                      have := q2 v ho
                      omega
                  · exact q.1
                rw [e]
                exact ⟨t, _, _, rfl, ht⟩
            · have er : rlx m i T j = T := by
                unfold rlx
                generalize T i m = o1 at h
                generalize T m j = o2 at h
                cases o1 <;> cases o2 <;> first | rfl | cases h
              rw [er]
              exact ⟨t, _, _, rfl, ht⟩
          · rintro ρ ⟨t, v4, v8, rfl, ht⟩
            rw [List.length_range] at ht
            exact ⟨t, _, _, _, rfl, ht⟩
        · rintro ρ ⟨t, v3, v4, v8, rfl, ht⟩
          rw [List.length_range] at ht
          exact ⟨t, _, _, _, _, _, _, rfl, ht⟩
      · rintro ρ ⟨t, v3, v4, v5, v6, v7, v8, rfl, ht⟩
        rw [List.length_range] at ht
        dsimp only [Df.dgN, Df.sSeq, Df.sAsg, Df.sAsgO, Df.sMove, Df.sNext, Df.sRet, Df.eVar, Df.eVarF, Df.eC, Df.oI, Df.oU, Df.aCons, Df.aNil, Df.eCat, Df.eSum, Df.eMaxL, Df.eMinL, Df.eSorted, Df.eList, Df.eTuple, Df.eLz, Df.eLen, Df.eIndex, Df.one, Df.two, Df.nrm, Df.gt, List.set, Df.padE, Df.dat, Df.argL, Df.seqL, Df.seqD, Df.eLst, Df.eTup, Df.shs, Option.map, Df.eSlT, Df.eSlA, Df.sExt, Df.sStL, Df.sUpd, Df.sDrop, Df.sRetN, Df.eIsi, Df.eNot, Df.eIf, Df.eLrg, Df.eMeth, Df.eMake, Df.eCallL, Df.eMakeL, Df.eMethL, Df.eFld, Df.oEqD, Df.oIn, Df.eDGet, Df.dTr, Df.truD, Df.sAugL, Df.sAug, Df.sFldS, Df.iE, Df.iZ, Df.eMaxL, Df.eSortedD, Df.sCut, Df.eVarT, Df.eVarM, Df.eMov, Df.sAppT, Df.sStT, Df.skq, Df.trq, Df.trqs, Df.mvq, Df.eIxLK, Df.eIxTK, Df.skl, Df.eLstT, Df.eTupT, Df.aConsT, Df.sAsgG, Df.dgT, Df.dgCons, Df.dgNil, Df.eChain, Df.eAnd, Df.eOr, Df.oEq, Df.eFld, Df.dOr, Df.dAnd, Df.dOrB, Df.dAndB, Df.eInt, Df.eSlL, Df.oSo, Df.oNo, Df.eI2, Df.eI1, Df.oIs, Df.sIf, Df.eIxQ, Df.iT, Df.dYes, Df.sNever, Df.sCut, Df.eGenB, Df.genE, Df.noE, Df.capE, Df.capL, Df.lendL, Df.lendE, Df.eLend, Df.dLend, Df.eLendN, Df.lndE, Df.lndL, Df.lnX, Df.lnx, List.cons_append, List.nil_append, Df.eIxT, Df.eIxL, Df.eCall, Df.eCallB, Df.oC, Df.dNot, Df.dB, Df.sApp, Df.sStD, Df.eDIn, Df.eDisp1, Df.eLenD]
        exact k t (tblT_dat ht)


theorem keepsP_all {n : Nat} {rs : List R4} {w : List Int} (h : ∀ r, r ∈ rs → isR (n : Int) r = true) (hw : w.length = n) : keepsP rs w = keepsB rs w := by
  unfold keepsP keepsB
  rw [Bool.eq_iff_iff, List.all_eq_true, List.all_eq_true]
  refine forall_congr' fun ⟨a, b, lo, hi⟩ => forall_congr' fun m => ?_
  have q := isR_in (h _ m)
  unfold keep1P wAt
  rw [if_pos ⟨by show a < _; omega, by show b < _; omega⟩]
theorem due_is {n : Nat} {rs : List R4} {w : List Int} (h : ∀ r, r ∈ rs → isR (n : Int) r = true) : (decide (((w.map Dt.int).length : Int) = (n : Int)) && (decide (w.getD 0 0 = 0) && keepsP rs w)) = allowsB n rs w := by
  unfold allowsB
  rw [List.length_map]
  by_cases e : w.length = n
  · rw [keepsP_all h e]
    simp [e]
  · have : ¬ ((w.length : Int) = (n : Int)) := by omega
    simp [e, this]
theorem fz_rows (rs : List R4) : fz 60 (.lst (rs.map dR)) = true := fz_lst fun d m => by
  obtain ⟨r, _, rfl⟩ := List.mem_map.mp m
  exact fz_tup fun d m => by
    rcases List.mem_cons.mp m with rfl | m
    · exact fz_int
    rcases List.mem_cons.mp m with rfl | m
    · exact fz_int
    rcases List.mem_cons.mp m with rfl | m
    · exact fz_int
    rcases List.mem_cons.mp m with rfl | m
    · exact fz_int
    · exact nomatch m
theorem ok_law_asked (T : Txt P K mg) (B : Tb T base) : FnOk P w K mg base CX0 2 T.a_law_asked T.d_law_asked ["_law_frame", "_law_size", "_law_rules_here", "_law_rows"] (spOf K T.tb (cAsked T.C_Frame)) := by
  refine T.F_law_asked.ok sc_law_asked (fun vs H Q E h => spOf_len h (by rintro ls Qd ⟨n, rs, tb, ws, rfl, _⟩; rfl)) (fun cdv A outer s H vs Q E hr h => ?_)
  refine ⟨_, (pss_cons (ps_for PassesOwn.never rfl (pi_list (pv 3)) (pg_name (i := 4) sc_law_asked.nd rfl (Or.inl rfl)) (pss_cons (ps_set (i := 5) sc_law_asked.nd rfl (Or.inl rfl) (pe_callTy call_list_of (by rfl) T.z_list (by decide +kernel) (pa_cons (pv 4) pa_nil))) (pss_cons (ps_set (i := 6) sc_law_asked.nd rfl (Or.inl rfl) (pe_meth (pv 0) T.cl_Frame T.t_Frame_allows (ok_Frame_allows T B) (hr.mono (by decide)) T.b_Frame_allows .nil pass0 (pa_cons (pv 5) pa_nil))) (pss_cons (ps_set (i := 7) sc_law_asked.nd rfl (Or.inl rfl) (pe_and (pe_cmpR op_eq (pe_callB call_len_seq (by rfl) T.z_len (by decide +kernel) (pa_cons (pv 4) pa_nil)) (pv 1) (nomark _)) (pe_and (pe_cmpR op_eq (pe_ix ix_list (pv 4) pe_int (fun _ _ => rfl)) pe_int (nomark _)) (pe_one (pe_call (ok_law_keeps T B) (hr.mono (by decide)) (by rfl) T.m_law_keeps T.F_law_keeps.kp T.b_law_keeps .nil pass0 (pa_cons (pv 4) (pa_cons (pv 2) pa_nil))))))) (pss_cons (ps_if (PW.pt (pw_or (pt_cmpR (op_neD hr.units) (pv 5) (pv 4) (nomark _)) (pw_or (pt_not (pt_val (pe_callB call_isi (by rfl) T.z_isinstance (by decide +kernel) (pa_cons (pv 6) (pa_cons (pe_bltn (v := .ty "bool") (u := .type "bool") (by rfl) T.z_bool (by decide +kernel) rfl) pa_nil))))) (pw_or1 (pt_cmpR op_ne (pv 6) (pv 7) (nomark _)))))) (pss_one (ps_ret pe_bl)) pss_nil) (pss_cons (ps_set (i := 8) sc_law_asked.nd rfl (Or.inl rfl) (pe_meth (pv 0) T.cl_Frame T.t_Frame_allows (ok_Frame_allows T B) (hr.mono (by decide)) T.b_Frame_allows .nil pass0 (pa_cons (pe_callTy call_tuple_of (by rfl) T.z_tuple (by decide +kernel) (pa_cons (pv 4) pa_nil)) pa_nil))) (pss_one (ps_if (PW.pt (pw_or (pt_not (pt_val (pe_callB call_isi (by rfl) T.z_isinstance (by decide +kernel) (pa_cons (pv 8) (pa_cons (pe_bltn (v := .ty "bool") (u := .type "bool") (by rfl) T.z_bool (by decide +kernel) rfl) pa_nil))))) (pw_or1 (pt_cmpR op_ne (pv 8) (pv 7) (nomark _))))) (pss_one (ps_ret pe_bl)) pss_nil)))))))) (pss_one (ps_ret (pe_and (pe_cmpR op_eq (pe_fld (pv 0) rfl) (pv 1) (nomark _)) (pe_one (pe_cmpR (op_eqD hr.units) (pe_callTy call_list_of (by rfl) T.z_list (by decide +kernel) (pa_cons (pe_fld (pv 0) rfl) pa_nil)) (pv 2) (nomark _))))))), ?_⟩
  refine df_body (m := 9) (ls_seq (ls_for (li_list (le_var (i := 3))) (lf_name (i := 4)) (ls_seq (ls_asg (i := 5) (le_list (la_cons (le_var (i := 4)) la_nil))) (ls_seq (ls_asg (i := 6) (le_meth (ns := ns_Frame) (by decide +kernel) (fun _ => .nil) (le_var (i := 0)) (la_cons (le_var (i := 5)) la_nil))) (ls_seq (ls_asg (i := 7) (le_andV (le_eq (le_len (la_cons (le_var (i := 4)) la_nil)) (le_var (i := 1))) (le_andV (le_eq (le_ixL (le_var (i := 4)) le_int) le_int) (le_call0 (la_cons (le_var (i := 4)) (la_cons (le_var (i := 2)) la_nil)))))) (ls_seq (ls_if (lt_or (lt_T (le_neD (le_var (i := 5)) (le_var (i := 4)))) (lt_or (lt_not (lt_B (le_isi (la_cons (le_var (i := 6)) (la_cons le_ty la_nil))))) (lt_T (le_ne (le_var (i := 6)) (le_var (i := 7)))))) (ls_ret le_bl) ls_next) (ls_seq (ls_asg (i := 8) (le_meth (ns := ns_Frame) (by decide +kernel) (fun _ => .nil) (le_var (i := 0)) (la_cons (le_tuple (la_cons (le_var (i := 4)) la_nil)) la_nil))) (ls_if (lt_or (lt_not (lt_B (le_isi (la_cons (le_var (i := 8)) (la_cons le_ty la_nil))))) (lt_T (le_ne (le_var (i := 8)) (le_var (i := 7))))) (ls_ret le_bl) ls_next))))))) (ls_ret (le_andV (le_eq (le_fld (ns := ns_Frame) (j := 0) T.cl_Frame T.n_Frame_size nd_Frame (by rfl) (le_var (i := 0))) (le_var (i := 1))) (le_eqD (le_list (la_cons (le_fld (ns := ns_Frame) (j := 1) T.cl_Frame T.n_Frame_rules nd_Frame (by rfl) (le_var (i := 0))) la_nil)) (le_var (i := 2)))))) h rfl (Nat.le_trans (Nat.le_of_eq (spOf_len (n := 4) h (by rintro ls Qd ⟨n, rs, tb, ws, rfl, _⟩; rfl))) (by decide)) ?_
  clear h
  rintro ls Q ⟨n, rs, tb, ws, rfl, ⟨n1, r60, hr'⟩, k⟩
  dsimp only [Df.dgN, Df.sSeq, Df.sAsg, Df.sAsgO, Df.sMove, Df.sNext, Df.sRet, Df.eVar, Df.eVarF, Df.eC, Df.oI, Df.oU, Df.aCons, Df.aNil, Df.eCat, Df.eSum, Df.eMaxL, Df.eMinL, Df.eSorted, Df.eList, Df.eTuple, Df.eLz, Df.eLen, Df.eIndex, Df.one, Df.two, Df.nrm, Df.gt, List.set, Df.padE, Df.dat, Df.argL, Df.seqL, Df.seqD, Df.eLst, Df.eTup, Df.shs, Option.map, Df.eSlT, Df.eSlA, Df.sExt, Df.sStL, Df.sUpd, Df.sDrop, Df.sRetN, Df.eIsi, Df.eNot, Df.eIf, Df.eLrg, Df.eMeth, Df.eMake, Df.eCallL, Df.eMakeL, Df.eMethL, Df.eFld, Df.oEqD, Df.oIn, Df.eDGet, Df.dTr, Df.truD, Df.sAugL, Df.sAug, Df.sFldS, Df.iE, Df.iZ, Df.eMaxL, Df.eSortedD, Df.sCut, Df.eVarT, Df.eVarM, Df.eMov, Df.sAppT, Df.sStT, Df.skq, Df.trq, Df.trqs, Df.mvq, Df.eIxLK, Df.eIxTK, Df.skl, Df.eLstT, Df.eTupT, Df.aConsT, Df.sAsgG, Df.dgT, Df.dgCons, Df.dgNil, Df.eChain, Df.eAnd, Df.eOr, Df.oEq, Df.eFld, Df.dOr, Df.dAnd, Df.dOrB, Df.dAndB, Df.eInt, Df.eSlL, Df.oSo, Df.oNo, Df.eI2, Df.eI1, Df.oIs, Df.sIf, Df.eIxQ, Df.iT, Df.dYes, Df.sNever, Df.sCut, Df.eGenB, Df.genE, Df.noE, Df.capE, Df.capL, Df.lendL, Df.lendE, Df.eLend, Df.dLend, Df.eLendN, Df.lndE, Df.lndL, Df.lnX, Df.lnx, List.cons_append, List.nil_append, Df.eIxT, Df.eIxL, Df.eCall, Df.eCallB, Df.oC, Df.dNot, Df.dB, Df.sApp, Df.sStD, Df.eDIn, Df.eDisp1, Df.eLenD]
  refine forE dLI ws (fun i ρ => ∃ (v4 v5 v6 v7 v8 : Lo), ρ = [.sh (dFrame T.C_Frame n rs tb), .sh (.int (n : Int)), .sh (.lst (rs.map dR)), .sh (.lst (ws.map dLI)), v4, v5, v6, v7, v8]) ⟨_, _, _, _, _, rfl⟩ ?_ ?_
  · rintro i w ρ hx ⟨v4, v5, v6, v7, v8, rfl⟩
    dsimp only [Df.dgN, Df.sSeq, Df.sAsg, Df.sAsgO, Df.sMove, Df.sNext, Df.sRet, Df.eVar, Df.eVarF, Df.eC, Df.oI, Df.oU, Df.aCons, Df.aNil, Df.eCat, Df.eSum, Df.eMaxL, Df.eMinL, Df.eSorted, Df.eList, Df.eTuple, Df.eLz, Df.eLen, Df.eIndex, Df.one, Df.two, Df.nrm, Df.gt, List.set, Df.padE, Df.dat, Df.argL, Df.seqL, Df.seqD, Df.eLst, Df.eTup, Df.shs, Option.map, Df.eSlT, Df.eSlA, Df.sExt, Df.sStL, Df.sUpd, Df.sDrop, Df.sRetN, Df.eIsi, Df.eNot, Df.eIf, Df.eLrg, Df.eMeth, Df.eMake, Df.eCallL, Df.eMakeL, Df.eMethL, Df.eFld, Df.oEqD, Df.oIn, Df.eDGet, Df.dTr, Df.truD, Df.sAugL, Df.sAug, Df.sFldS, Df.iE, Df.iZ, Df.eMaxL, Df.eSortedD, Df.sCut, Df.eVarT, Df.eVarM, Df.eMov, Df.sAppT, Df.sStT, Df.skq, Df.trq, Df.trqs, Df.mvq, Df.eIxLK, Df.eIxTK, Df.skl, Df.eLstT, Df.eTupT, Df.aConsT, Df.sAsgG, Df.dgT, Df.dgCons, Df.dgNil, Df.eChain, Df.eAnd, Df.eOr, Df.oEq, Df.eFld, Df.dOr, Df.dAnd, Df.dOrB, Df.dAndB, Df.eInt, Df.eSlL, Df.oSo, Df.oNo, Df.eI2, Df.eI1, Df.oIs, Df.sIf, Df.eIxQ, Df.iT, Df.dYes, Df.sNever, Df.sCut, Df.eGenB, Df.genE, Df.noE, Df.capE, Df.capL, Df.lendL, Df.lendE, Df.eLend, Df.dLend, Df.eLendN, Df.lndE, Df.lndL, Df.lnX, Df.lnx, List.cons_append, List.nil_append, Df.eIxT, Df.eIxL, Df.eCall, Df.eCallB, Df.oC, Df.dNot, Df.dB, Df.sApp, Df.sStD, Df.eDIn, Df.eDisp1, Df.eLenD]
    have hd := due_is (w := w) hr'
    refine ⟨⟨rfl, rfl⟩, n, rs, tb, .lst (w.map .int), w, rfl, .inl rfl, ⟨n1, hr'⟩, ?_⟩
    refine ⟨(decide (w.getD 0 0 = 0) && keepsP rs w), fun c => ?_, ⟨fz_ints w, fz_ints w⟩, false, fun _ => ⟨_, .bb, false, fun _ => ⟨rfl, ?_⟩, rfl, rfl⟩, fun h => ?_, fun h => ?_⟩
    · have c := of_decide_eq_true c
      rw [List.length_map] at c
      exact ⟨_, atG (i := 0) (Int.le_refl _) (by omega), keepsP rs w, fun _ => ⟨w, rs, rfl, (fun ⟨a, b, lo, hi⟩ m => by have := isR_in (hr' _ m); exact ⟨this.1, this.2.2.1⟩), rfl, rfl⟩, rfl, rfl⟩
    · rw [hd]; simp
    · rw [show eqd (Dt.lst (w.map .int)) (dLI w) = true from eqd_refl (fz_ints (n := 59) w)] at h
      cases h
    · refine ⟨⟨rfl, rfl⟩, n, rs, tb, .tup (w.map .int), w, rfl, .inr rfl, ⟨n1, hr'⟩, ?_⟩
      refine ⟨_, .bb, false, fun _ => ⟨rfl, ?_⟩, fun h => ?_, fun h => ⟨_, _, _, _, _, rfl⟩⟩
      · rw [hd]; simp
      · cases h
  · rintro ρ ⟨v4, v5, v6, v7, v8, rfl⟩
    dsimp only [Df.dgN, Df.sSeq, Df.sAsg, Df.sAsgO, Df.sMove, Df.sNext, Df.sRet, Df.eVar, Df.eVarF, Df.eC, Df.oI, Df.oU, Df.aCons, Df.aNil, Df.eCat, Df.eSum, Df.eMaxL, Df.eMinL, Df.eSorted, Df.eList, Df.eTuple, Df.eLz, Df.eLen, Df.eIndex, Df.one, Df.two, Df.nrm, Df.gt, List.set, Df.padE, Df.dat, Df.argL, Df.seqL, Df.seqD, Df.eLst, Df.eTup, Df.shs, Option.map, Df.eSlT, Df.eSlA, Df.sExt, Df.sStL, Df.sUpd, Df.sDrop, Df.sRetN, Df.eIsi, Df.eNot, Df.eIf, Df.eLrg, Df.eMeth, Df.eMake, Df.eCallL, Df.eMakeL, Df.eMethL, Df.eFld, Df.oEqD, Df.oIn, Df.eDGet, Df.dTr, Df.truD, Df.sAugL, Df.sAug, Df.sFldS, Df.iE, Df.iZ, Df.eMaxL, Df.eSortedD, Df.sCut, Df.eVarT, Df.eVarM, Df.eMov, Df.sAppT, Df.sStT, Df.skq, Df.trq, Df.trqs, Df.mvq, Df.eIxLK, Df.eIxTK, Df.skl, Df.eLstT, Df.eTupT, Df.aConsT, Df.sAsgG, Df.dgT, Df.dgCons, Df.dgNil, Df.eChain, Df.eAnd, Df.eOr, Df.oEq, Df.eFld, Df.dOr, Df.dAnd, Df.dOrB, Df.dAndB, Df.eInt, Df.eSlL, Df.oSo, Df.oNo, Df.eI2, Df.eI1, Df.oIs, Df.sIf, Df.eIxQ, Df.iT, Df.dYes, Df.sNever, Df.sCut, Df.eGenB, Df.genE, Df.noE, Df.capE, Df.capL, Df.lendL, Df.lendE, Df.eLend, Df.dLend, Df.eLendN, Df.lndE, Df.lndL, Df.lnX, Df.lnx, List.cons_append, List.nil_append, Df.eIxT, Df.eIxL, Df.eCall, Df.eCallB, Df.oC, Df.dNot, Df.dB, Df.sApp, Df.sStD, Df.eDIn, Df.eDisp1, Df.eLenD]
    refine ⟨⟨rfl, rfl⟩, _, rfl, true, fun _ => ⟨⟨rfl, rfl⟩, _, rfl, ⟨fz_rows rs, fz_rows rs⟩, rfl, ?_⟩, ?_⟩
    · rw [eqd_refl (fz_rows rs)]
    · rw [decide_eq_true rfl]
      exact k
theorem ok_law_more_rules (T : Txt P K mg) (B : Tb T base) : FnOk P w K mg base CX0 3 T.a_law_more_rules T.d_law_more_rules ["_law_source_here", "_law_size", "_law_base", "_law_reach"] (spOf K T.tb cMore) := by
  refine T.F_law_more_rules.ok sc_law_more_rules (fun vs H Q E h => spOf_len h (by rintro ls Qd ⟨n, base, reach, rfl, _⟩; rfl)) (fun cdv A outer s H vs Q E hr h => ?_)
  refine ⟨_, (pss_cons (ps_set (i := 4) sc_law_more_rules.nd rfl (Or.inl rfl) (pe_lst pa_nil)) (pss_cons (ps_for PassesOwn.never rfl (pi_range1 (by rfl) T.z_range (pa_cons (pe_op op_add pe_int (pe_call (ok_law_draw T B) (hr.mono (by decide)) (by rfl) T.m_law_draw T.F_law_draw.kp T.b_law_draw .nil pass0 (pa_cons (pv 0) (pa_cons pe_int pa_nil)))) pa_nil)) (pg_name (i := 5) sc_law_more_rules.nd rfl (Or.inl rfl)) (pss_cons (ps_set (i := 6) sc_law_more_rules.nd rfl (Or.inl rfl) (pe_call (ok_law_draw T B) (hr.mono (by decide)) (by rfl) T.m_law_draw T.F_law_draw.kp T.b_law_draw .nil pass0 (pa_cons (pv 0) (pa_cons (pv 1) pa_nil)))) (pss_cons (ps_set (i := 7) sc_law_more_rules.nd rfl (Or.inl rfl) (pe_op op_mod (pe_callTy call_int1 (by rfl) T.z_int (by decide +kernel) (pa_cons (pe_op op_add (pe_op op_add (pv 6) pe_int) (pe_call (ok_law_draw T B) (hr.mono (by decide)) (by rfl) T.m_law_draw T.F_law_draw.kp T.b_law_draw .nil pass0 (pa_cons (pv 0) (pa_cons (pe_op op_sub (pv 1) pe_int) pa_nil)))) pa_nil)) (pv 1))) (pss_one (ps_expr (pe_bm PySem.F.plainAttrs_list PySem.F.slot_list_append PySem.F.type_list_append mt_append (pv 4) (pa_cons (pe_call (ok_law_rule T B) (hr.mono (by decide)) (by rfl) T.m_law_rule T.F_law_rule.kp T.b_law_rule .nil pass0 (pa_cons (pv 0) (pa_cons (pv 2) (pa_cons (pv 6) (pa_cons (pv 7) (pa_cons (pv 3) pa_nil)))))) pa_nil))))))) (pss_one (ps_ret (pv 4))))), ?_⟩
  refine df_body (m := 8) (ls_seq (ls_asgO (i := 4) (le_lst la_nil)) (ls_seq (ls_for (li_r1 (la_cons (le_add le_int (le_call0 (la_cons (le_var (i := 0)) (la_cons le_int la_nil)))) la_nil)) (lf_name (i := 5)) (ls_seq (ls_asg (i := 6) (le_call0 (la_cons (le_var (i := 0)) (la_cons (le_var (i := 1)) la_nil)))) (ls_seq (ls_asg (i := 7) (le_mod (le_intF (la_cons (le_add (le_add (le_var (i := 6)) le_int) (le_call0 (la_cons (le_var (i := 0)) (la_cons (le_sub (le_var (i := 1)) le_int) la_nil)))) la_nil)) (le_var (i := 1)))) (ls_app (i := 4) (le_call0 (la_cons (le_var (i := 0)) (la_cons (le_var (i := 2)) (la_cons (le_var (i := 6)) (la_cons (le_var (i := 7)) (la_cons (le_var (i := 3)) la_nil)))))))))) (ls_ret (le_var (i := 4))))) h rfl (Nat.le_trans (Nat.le_of_eq (spOf_len (n := 4) h (by rintro ls Qd ⟨n, base, reach, rfl, _⟩; rfl))) (by decide)) ?_
  clear h
  rintro ls Q ⟨n, base, reach, rfl, ⟨hl, n2, n16, r0, r1⟩, k⟩
  dsimp only [Df.dgN, Df.sSeq, Df.sAsg, Df.sAsgO, Df.sMove, Df.sNext, Df.sRet, Df.eVar, Df.eVarF, Df.eC, Df.oI, Df.oU, Df.aCons, Df.aNil, Df.eCat, Df.eSum, Df.eMaxL, Df.eMinL, Df.eSorted, Df.eList, Df.eTuple, Df.eLz, Df.eLen, Df.eIndex, Df.one, Df.two, Df.nrm, Df.gt, List.set, Df.padE, Df.dat, Df.argL, Df.seqL, Df.seqD, Df.eLst, Df.eTup, Df.shs, Option.map, Df.eSlT, Df.eSlA, Df.sExt, Df.sStL, Df.sUpd, Df.sDrop, Df.sRetN, Df.eIsi, Df.eNot, Df.eIf, Df.eLrg, Df.eMeth, Df.eMake, Df.eCallL, Df.eMakeL, Df.eMethL, Df.eFld, Df.oEqD, Df.oIn, Df.eDGet, Df.dTr, Df.truD, Df.sAugL, Df.sAug, Df.sFldS, Df.iE, Df.iZ, Df.eMaxL, Df.eSortedD, Df.sCut, Df.eVarT, Df.eVarM, Df.eMov, Df.sAppT, Df.sStT, Df.skq, Df.trq, Df.trqs, Df.mvq, Df.eIxLK, Df.eIxTK, Df.skl, Df.eLstT, Df.eTupT, Df.aConsT, Df.sAsgG, Df.dgT, Df.dgCons, Df.dgNil, Df.eChain, Df.eAnd, Df.eOr, Df.oEq, Df.eFld, Df.dOr, Df.dAnd, Df.dOrB, Df.dAndB, Df.eInt, Df.eSlL, Df.oSo, Df.oNo, Df.eI2, Df.eI1, Df.oIs, Df.sIf, Df.eIxQ, Df.iT, Df.dYes, Df.sNever, Df.sCut, Df.eGenB, Df.genE, Df.noE, Df.capE, Df.capL, Df.lendL, Df.lendE, Df.eLend, Df.dLend, Df.eLendN, Df.lndE, Df.lndL, Df.lnX, Df.lnx, List.cons_append, List.nil_append, Df.eIxT, Df.eIxL, Df.eCall, Df.eCallB, Df.oC, Df.dNot, Df.dB, Df.sApp, Df.sStD, Df.eDIn, Df.eDisp1, Df.eLenD]
  refine ⟨Nat.zero_le _, ?_⟩
  try (dsimp only [Df.sSeq])
  refine (show Df.iR1 _ _ _ from ?_)
  dsimp only [Df.iR1, Df.aCons, Df.aNil, Df.oI, Df.oU, Df.oC, Df.eC, Df.eVar, Df.eCall, Df.eLen, Df.one, Df.two, Df.nrm, Df.gt, Df.dat, Df.seqL, Df.seqD, Df.eIxL, Df.eIxT, Df.eMaxL, Df.eMinL, Df.eI2, Df.eI1, Df.eLend, Df.lendE, Df.lendL, List.set]
  refine ⟨_, rfl, by decide, fun d d0 d1 => ⟨⟨by omega, by omega⟩, ?_⟩⟩
  refine forRx 0 _ (fun i ρ => ∃ (rs : List R4) (v5 v6 v7 : Lo), ρ = [.src, .sh (.int (n : Int)), .sh (dLI base), .sh (.int reach), .ow (rs.map dR), v5, v6, v7] ∧ rs.length = i ∧ ∀ r, r ∈ rs → isR (n : Int) r = true ∧ KeepsR reach base r) ⟨[], _, _, _, rfl, rfl, fun r m => nomatch m⟩ ?_ ?_
  · rintro i ρ hi ⟨rs, v5, v6, v7, rfl, hl2, hk⟩
    dsimp only [Df.dgN, Df.sSeq, Df.sAsg, Df.sAsgO, Df.sMove, Df.sNext, Df.sRet, Df.eVar, Df.eVarF, Df.eC, Df.oI, Df.oU, Df.aCons, Df.aNil, Df.eCat, Df.eSum, Df.eMaxL, Df.eMinL, Df.eSorted, Df.eList, Df.eTuple, Df.eLz, Df.eLen, Df.eIndex, Df.one, Df.two, Df.nrm, Df.gt, List.set, Df.padE, Df.dat, Df.argL, Df.seqL, Df.seqD, Df.eLst, Df.eTup, Df.shs, Option.map, Df.eSlT, Df.eSlA, Df.sExt, Df.sStL, Df.sUpd, Df.sDrop, Df.sRetN, Df.eIsi, Df.eNot, Df.eIf, Df.eLrg, Df.eMeth, Df.eMake, Df.eCallL, Df.eMakeL, Df.eMethL, Df.eFld, Df.oEqD, Df.oIn, Df.eDGet, Df.dTr, Df.truD, Df.sAugL, Df.sAug, Df.sFldS, Df.iE, Df.iZ, Df.eMaxL, Df.eSortedD, Df.sCut, Df.eVarT, Df.eVarM, Df.eMov, Df.sAppT, Df.sStT, Df.skq, Df.trq, Df.trqs, Df.mvq, Df.eIxLK, Df.eIxTK, Df.skl, Df.eLstT, Df.eTupT, Df.aConsT, Df.sAsgG, Df.dgT, Df.dgCons, Df.dgNil, Df.eChain, Df.eAnd, Df.eOr, Df.oEq, Df.eFld, Df.dOr, Df.dAnd, Df.dOrB, Df.dAndB, Df.eInt, Df.eSlL, Df.oSo, Df.oNo, Df.eI2, Df.eI1, Df.oIs, Df.sIf, Df.eIxQ, Df.iT, Df.dYes, Df.sNever, Df.sCut, Df.eGenB, Df.genE, Df.noE, Df.capE, Df.capL, Df.lendL, Df.lendE, Df.eLend, Df.dLend, Df.eLendN, Df.lndE, Df.lndL, Df.lnX, Df.lnx, List.cons_append, List.nil_append, Df.eIxT, Df.eIxL, Df.eCall, Df.eCallB, Df.oC, Df.dNot, Df.dB, Df.sApp, Df.sStD, Df.eDIn, Df.eDisp1, Df.eLenD]
    refine ⟨_, rfl, ⟨by omega, by omega⟩, fun f f0 f1 => ⟨_, rfl, ⟨by omega, by omega⟩, fun g g0 g1 => ⟨by omega, base, f, (f + 1 + g) % (n : Int), reach, rfl, ⟨⟨f0, by omega⟩, ⟨Int.emod_nonneg _ (by omega), by have := Int.emod_lt_of_pos (f + 1 + g) (show (0 : Int) < n by omega); omega⟩, r0, r1⟩, fun r hr => ⟨by rw [List.length_map]; omega, rs ++ [r], _, _, _, by rw [List.map_append]; rfl, by rw [List.length_append, hl2]; rfl, fun x m => ?_⟩⟩⟩⟩
    rcases List.mem_append.mp m with m | m
    · exact hk x m
    · rw [List.mem_singleton.mp m]
      refine ⟨fits_isR hr f0 f1 (Int.emod_nonneg _ (by omega)) (Int.emod_lt_of_pos _ (by omega)) fun e => ?_, fits_ok hr⟩
      by_cases q : f + 1 + g < n
      · rw [Int.emod_eq_of_lt (by omega) q] at e; omega
      · rw [show f + 1 + g = (f + 1 + g - n) + n by omega, Int.add_emod_right, Int.emod_eq_of_lt (by omega) (by omega)] at e; omega
  · rintro ρ ⟨rs, v5, v6, v7, rfl, hl2, hk⟩
    exact k rs ⟨by omega, hk⟩
theorem window {n a : Nat} {base : List Int} {rs : List R4} (ok : OkRules n 3 base rs) (a1 : 1 ≤ a) (an : a < n) {w : List Int} (hw : w.length = a) : ∃ A : Int, ∀ x, keepsP rs (w ++ [x]) = true → A ≤ x ∧ x ≤ A + 3 := by
  obtain ⟨⟨b, c, lo, hi⟩, mr, p, hp, e⟩ := ok.sp a a1 an
  have f := (ok.fit _ mr).2.2
  dsimp only at e f
  have fits : KeepsR 3 base (b, c, lo, hi) := ok.fit _ mr
  have wd : hi - lo ≤ 3 := fits.2.2
  refine ⟨if b = (p : Int) then lo + w.getD p 0 else w.getD p 0 - hi, fun x h => ?_⟩
  have k1 : keep1P (w ++ [x]) (b, c, lo, hi) = true := List.all_eq_true.mp h _ mr
  unfold keep1P wAt at k1
  have hl : ((w ++ [x]).length : Int) = (a : Int) + 1 := by rw [List.length_append, hw]; rfl
  dsimp only at k1
  rcases e with ⟨e1, e2⟩ | ⟨e1, e2⟩
  · rw [hl, if_pos ⟨by omega, by omega⟩, e1, e2] at k1
    simp only [Int.toNat_natCast, Bool.and_eq_true, decide_eq_true_eq] at k1
    rw [gdR (by omega), gdL (by omega)] at k1
    rw [if_pos e1]
    omega
  · rw [hl, if_pos ⟨by omega, by omega⟩, e1, e2] at k1
    simp only [Int.toNat_natCast, Bool.and_eq_true, decide_eq_true_eq] at k1
    rw [gdL (by omega), gdR (by omega)] at k1
    rw [if_neg (by omega)]
    omega
theorem ok_law_all_worlds (T : Txt P K mg) (B : Tb T base) : FnOk P w K mg base CX0 2 T.a_law_all_worlds T.d_law_all_worlds ["_law_size", "_law_rules_here"] (spOf K T.tb cAll) := by
  refine T.F_law_all_worlds.ok sc_law_all_worlds (fun vs H Q E h => spOf_len h (by rintro ls Qd ⟨n, base, rs, rfl, _⟩; rfl)) (fun cdv A outer s H vs Q E hr h => ?_)
  refine ⟨_, (pss_cons (ps_set (i := 2) sc_law_all_worlds.nd rfl (Or.inl rfl) (pe_call (ok_law_table T B) (hr.mono (by decide)) (by rfl) T.m_law_table T.F_law_table.kp T.b_law_table .nil pass0 (pa_cons (pv 0) (pa_cons (pe_call (ok_law_arcs T B) (hr.mono (by decide)) (by rfl) T.m_law_arcs T.F_law_arcs.kp T.b_law_arcs .nil pass0 (pa_cons (pv 1) pa_nil)) pa_nil)))) (pss_cons (ps_set (i := 3) sc_law_all_worlds.nd rfl (Or.inl rfl) (pe_lst (pa_cons (pe_lst (pa_cons pe_int pa_nil)) pa_nil))) (pss_cons (ps_for PassesOwn.never rfl (pi_range2 (by rfl) T.z_range (pa_cons pe_int (pa_cons (pv 0) pa_nil))) (pg_name (i := 4) sc_law_all_worlds.nd rfl (Or.inl rfl)) (pss_cons (ps_set (i := 5) sc_law_all_worlds.nd rfl (Or.inl rfl) (pe_lst pa_nil)) (pss_cons (ps_for PassesOwn.never rfl (pi_list (pv 3)) (pg_name (i := 6) sc_law_all_worlds.nd rfl (Or.inl rfl)) (pss_one (ps_for PassesOwn.never rfl (pi_range2 (by rfl) T.z_range (pa_cons (pe_op op_sub pe_int (pe_ix ix_list (pe_ix ix_list (pv 2) (pv 4) (fun _ _ => rfl)) pe_int (fun _ _ => rfl))) (pa_cons (pe_op op_add (pe_ix ix_list (pe_ix ix_list (pv 2) pe_int (fun _ _ => rfl)) (pv 4) (fun _ _ => rfl)) pe_int) pa_nil))) (pg_name (i := 7) sc_law_all_worlds.nd rfl (Or.inl rfl)) (pss_one (ps_if (pt_val (pe_call (ok_law_keeps T B) (hr.mono (by decide)) (by rfl) T.m_law_keeps T.F_law_keeps.kp T.b_law_keeps .nil pass0 (pa_cons (pe_op op_cat (pv 6) (pe_lst (pa_cons (pv 7) pa_nil))) (pa_cons (pv 1) pa_nil)))) (pss_one (ps_expr (pe_bm PySem.F.plainAttrs_list PySem.F.slot_list_append PySem.F.type_list_append mt_append (pv 5) (pa_cons (pe_op op_cat (pv 6) (pe_lst (pa_cons (pv 7) pa_nil))) pa_nil)))) pss_nil))))) (pss_one (ps_set (i := 3) sc_law_all_worlds.nd rfl (Or.inl rfl) (pe_callTy call_list_of (by rfl) T.z_list (by decide +kernel) (pa_cons (pv 5) pa_nil))))))) (pss_one (ps_ret (pv 3)))))), ?_⟩
  refine df_body (m := 8) (ls_seq (ls_asg (i := 2) (le_call0 (la_cons (le_var (i := 0)) (la_cons (le_call0 (la_cons (le_var (i := 1)) la_nil)) la_nil)))) (ls_seq (ls_asg (i := 3) (le_lst (la_cons (le_lst (la_cons le_int la_nil)) la_nil))) (ls_seq (ls_for (li_r2 (la_cons le_int (la_cons (le_var (i := 0)) la_nil))) (lf_name (i := 4)) (ls_seq (ls_asgO (i := 5) (le_lst la_nil)) (ls_seq (ls_for (li_list (le_var (i := 3))) (lf_name (i := 6)) (ls_for (li_r2 (la_cons (le_sub le_int (le_ixL (le_ixL (le_var (i := 2)) (le_var (i := 4))) le_int)) (la_cons (le_add (le_ixL (le_ixL (le_var (i := 2)) le_int) (le_var (i := 4))) le_int) la_nil))) (lf_name (i := 7)) (ls_if (lt_B (le_call0 (la_cons (le_cat (le_var (i := 6)) (le_lst (la_cons (le_var (i := 7)) la_nil))) (la_cons (le_var (i := 1)) la_nil)))) (ls_app (i := 5) (le_cat (le_var (i := 6)) (le_lst (la_cons (le_var (i := 7)) la_nil)))) ls_next))) (ls_asg (i := 3) (le_list (la_cons (le_var (i := 5)) la_nil)))))) (ls_ret (le_var (i := 3)))))) h rfl (Nat.le_trans (Nat.le_of_eq (spOf_len (n := 2) h (by rintro ls Qd ⟨n, base, rs, rfl, _⟩; rfl))) (by decide)) ?_
  clear h
  rintro ls Q ⟨n, base, rs, rfl, ⟨ok, n1, n5⟩, k⟩
  dsimp only [Df.dgN, Df.sSeq, Df.sAsg, Df.sAsgO, Df.sMove, Df.sNext, Df.sRet, Df.eVar, Df.eVarF, Df.eC, Df.oI, Df.oU, Df.aCons, Df.aNil, Df.eCat, Df.eSum, Df.eMaxL, Df.eMinL, Df.eSorted, Df.eList, Df.eTuple, Df.eLz, Df.eLen, Df.eIndex, Df.one, Df.two, Df.nrm, Df.gt, List.set, Df.padE, Df.dat, Df.argL, Df.seqL, Df.seqD, Df.eLst, Df.eTup, Df.shs, Option.map, Df.eSlT, Df.eSlA, Df.sExt, Df.sStL, Df.sUpd, Df.sDrop, Df.sRetN, Df.eIsi, Df.eNot, Df.eIf, Df.eLrg, Df.eMeth, Df.eMake, Df.eCallL, Df.eMakeL, Df.eMethL, Df.eFld, Df.oEqD, Df.oIn, Df.eDGet, Df.dTr, Df.truD, Df.sAugL, Df.sAug, Df.sFldS, Df.iE, Df.iZ, Df.eMaxL, Df.eSortedD, Df.sCut, Df.eVarT, Df.eVarM, Df.eMov, Df.sAppT, Df.sStT, Df.skq, Df.trq, Df.trqs, Df.mvq, Df.eIxLK, Df.eIxTK, Df.skl, Df.eLstT, Df.eTupT, Df.aConsT, Df.sAsgG, Df.dgT, Df.dgCons, Df.dgNil, Df.eChain, Df.eAnd, Df.eOr, Df.oEq, Df.eFld, Df.dOr, Df.dAnd, Df.dOrB, Df.dAndB, Df.eInt, Df.eSlL, Df.oSo, Df.oNo, Df.eI2, Df.eI1, Df.oIs, Df.sIf, Df.eIxQ, Df.iT, Df.dYes, Df.sNever, Df.sCut, Df.eGenB, Df.genE, Df.noE, Df.capE, Df.capL, Df.lendL, Df.lendE, Df.eLend, Df.dLend, Df.eLendN, Df.lndE, Df.lndL, Df.lnX, Df.lnx, List.cons_append, List.nil_append, Df.eIxT, Df.eIxL, Df.eCall, Df.eCallB, Df.oC, Df.dNot, Df.dB, Df.sApp, Df.sStD, Df.eDIn, Df.eDisp1, Df.eLenD]
  rw [map_dR]
  refine ⟨_, rfl, by rw [List.length_map]; have := ok.num; omega, n, _, rfl, ⟨by omega, fun x m => ?_⟩, fun t ht => ⟨(Nat.le_of_ble_eq_true rfl), (Nat.le_of_ble_eq_true rfl), ?_⟩⟩
  · obtain ⟨⟨b, c, lo, hi⟩, mr, e⟩ := arcs_is m
    have := isR_in (ok.ok _ mr)
    rcases e with rfl | rfl <;> dsimp only <;> omega
  rw [ht]
  try (dsimp only [Df.sSeq])
  refine (show Df.iR2 _ _ _ from ?_)
  dsimp only [Df.iR2, Df.aCons, Df.aNil, Df.oI, Df.oU, Df.oC, Df.eC, Df.eVar, Df.eCall, Df.eLen, Df.one, Df.two, Df.nrm, Df.gt, Df.dat, Df.seqL, Df.seqD, Df.eIxL, Df.eIxT, Df.eMaxL, Df.eMinL, Df.eI2, Df.eI1, Df.eLend, Df.lendE, Df.lendL, List.set]
  refine ⟨⟨by omega, by omega, by omega, by omega⟩, ?_⟩
  refine forRx 1 _ (fun t ρ => ∃ (ws : List (List Int)) (v4 v5 v6 v7 : Lo), ρ = [.sh (.int (n : Int)), .sh (.lst ((rs.map rowOf).map dRow)), .sh (tblO n (lawT n ((rs.map rowOf).flatMap arcs2))), .sh (.lst (ws.map dLI)), v4, v5, v6, v7] ∧ ws.length ≤ 4 ^ t ∧ ∀ w, w ∈ ws → w.length = t + 1) ⟨[[0]], _, _, _, _, rfl, Nat.le_refl _, fun w m => by rw [List.mem_singleton.mp m]; rfl⟩ ?_ ?_
  · rintro t ρ hi ⟨ws, v4, v5, v6, v7, rfl, hws, hlen⟩
    have hn : t + 1 < n := by omega
    have e1 : (1 : Int) + (t : Int) = ((t + 1 : Nat) : Int) := by omega
    have hp : 4 ^ t ≤ 64 := by
      have : t ≤ 3 := by omega
      exact Nat.le_trans (Nat.pow_le_pow_right (by decide) this) (by decide)
    rw [e1]
    dsimp only [Df.dgN, Df.sSeq, Df.sAsg, Df.sAsgO, Df.sMove, Df.sNext, Df.sRet, Df.eVar, Df.eVarF, Df.eC, Df.oI, Df.oU, Df.aCons, Df.aNil, Df.eCat, Df.eSum, Df.eMaxL, Df.eMinL, Df.eSorted, Df.eList, Df.eTuple, Df.eLz, Df.eLen, Df.eIndex, Df.one, Df.two, Df.nrm, Df.gt, List.set, Df.padE, Df.dat, Df.argL, Df.seqL, Df.seqD, Df.eLst, Df.eTup, Df.shs, Option.map, Df.eSlT, Df.eSlA, Df.sExt, Df.sStL, Df.sUpd, Df.sDrop, Df.sRetN, Df.eIsi, Df.eNot, Df.eIf, Df.eLrg, Df.eMeth, Df.eMake, Df.eCallL, Df.eMakeL, Df.eMethL, Df.eFld, Df.oEqD, Df.oIn, Df.eDGet, Df.dTr, Df.truD, Df.sAugL, Df.sAug, Df.sFldS, Df.iE, Df.iZ, Df.eMaxL, Df.eSortedD, Df.sCut, Df.eVarT, Df.eVarM, Df.eMov, Df.sAppT, Df.sStT, Df.skq, Df.trq, Df.trqs, Df.mvq, Df.eIxLK, Df.eIxTK, Df.skl, Df.eLstT, Df.eTupT, Df.aConsT, Df.sAsgG, Df.dgT, Df.dgCons, Df.dgNil, Df.eChain, Df.eAnd, Df.eOr, Df.oEq, Df.eFld, Df.dOr, Df.dAnd, Df.dOrB, Df.dAndB, Df.eInt, Df.eSlL, Df.oSo, Df.oNo, Df.eI2, Df.eI1, Df.oIs, Df.sIf, Df.eIxQ, Df.iT, Df.dYes, Df.sNever, Df.sCut, Df.eGenB, Df.genE, Df.noE, Df.capE, Df.capL, Df.lendL, Df.lendE, Df.eLend, Df.dLend, Df.eLendN, Df.lndE, Df.lndL, Df.lnX, Df.lnx, List.cons_append, List.nil_append, Df.eIxT, Df.eIxL, Df.eCall, Df.eCallB, Df.oC, Df.dNot, Df.dB, Df.sApp, Df.sStD, Df.eDIn, Df.eDisp1, Df.eLenD]
    refine ⟨(Nat.le_of_ble_eq_true rfl), ?_⟩
    refine forE dLI ws (fun i ρ => ∃ (ls : List (List Int)) (v6 v7 : Lo), ρ = [.sh (.int (n : Int)), .sh (.lst ((rs.map rowOf).map dRow)), .sh (tblO n (lawT n ((rs.map rowOf).flatMap arcs2))), .sh (.lst (ws.map dLI)), .sh (.int ((t + 1 : Nat) : Int)), .ow (ls.map dLI), v6, v7] ∧ ls.length ≤ 4 * i ∧ ∀ w, w ∈ ls → w.length = t + 2) ⟨[], _, _, rfl, Nat.le_refl _, fun w m => nomatch m⟩ ?_ ?_
    · rintro i w ρ hx ⟨ls, v6, v7, rfl, hls, hl2⟩
      have hw := hlen w (List.mem_of_getElem? hx)
      have hi2 : i < ws.length := (List.getElem?_eq_some_iff.mp hx).1
      obtain ⟨A, hA⟩ := window ok (by omega) hn hw
      obtain ⟨⟨y, ey, yl⟩, ⟨z, ez, zl⟩⟩ := law_tree ok (t + 1) hn
      have ys := law_snd ok _ _ _ ey
      have zs := law_snd ok _ _ _ ez
      have bb := ok.bnd (t + 1) hn
      have b0 := ok.zero
      dsimp only [Df.dgN, Df.sSeq, Df.sAsg, Df.sAsgO, Df.sMove, Df.sNext, Df.sRet, Df.eVar, Df.eVarF, Df.eC, Df.oI, Df.oU, Df.aCons, Df.aNil, Df.eCat, Df.eSum, Df.eMaxL, Df.eMinL, Df.eSorted, Df.eList, Df.eTuple, Df.eLz, Df.eLen, Df.eIndex, Df.one, Df.two, Df.nrm, Df.gt, List.set, Df.padE, Df.dat, Df.argL, Df.seqL, Df.seqD, Df.eLst, Df.eTup, Df.shs, Option.map, Df.eSlT, Df.eSlA, Df.sExt, Df.sStL, Df.sUpd, Df.sDrop, Df.sRetN, Df.eIsi, Df.eNot, Df.eIf, Df.eLrg, Df.eMeth, Df.eMake, Df.eCallL, Df.eMakeL, Df.eMethL, Df.eFld, Df.oEqD, Df.oIn, Df.eDGet, Df.dTr, Df.truD, Df.sAugL, Df.sAug, Df.sFldS, Df.iE, Df.iZ, Df.eMaxL, Df.eSortedD, Df.sCut, Df.eVarT, Df.eVarM, Df.eMov, Df.sAppT, Df.sStT, Df.skq, Df.trq, Df.trqs, Df.mvq, Df.eIxLK, Df.eIxTK, Df.skl, Df.eLstT, Df.eTupT, Df.aConsT, Df.sAsgG, Df.dgT, Df.dgCons, Df.dgNil, Df.eChain, Df.eAnd, Df.eOr, Df.oEq, Df.eFld, Df.dOr, Df.dAnd, Df.dOrB, Df.dAndB, Df.eInt, Df.eSlL, Df.oSo, Df.oNo, Df.eI2, Df.eI1, Df.oIs, Df.sIf, Df.eIxQ, Df.iT, Df.dYes, Df.sNever, Df.sCut, Df.eGenB, Df.genE, Df.noE, Df.capE, Df.capL, Df.lendL, Df.lendE, Df.eLend, Df.dLend, Df.eLendN, Df.lndE, Df.lndL, Df.lnX, Df.lnx, List.cons_append, List.nil_append, Df.eIxT, Df.eIxL, Df.eCall, Df.eCallB, Df.oC, Df.dNot, Df.dB, Df.sApp, Df.sStD, Df.eDIn, Df.eDisp1, Df.eLenD]
      try (dsimp only [Df.sSeq])
      refine (show Df.iR2 _ _ _ from ?_)
      dsimp only [Df.iR2, Df.aCons, Df.aNil, Df.oI, Df.oU, Df.oC, Df.eC, Df.eVar, Df.eCall, Df.eLen, Df.one, Df.two, Df.nrm, Df.gt, Df.dat, Df.seqL, Df.seqD, Df.eIxL, Df.eIxT, Df.eMaxL, Df.eMinL, Df.eI2, Df.eI1, Df.eLend, Df.lendE, Df.lendL, List.set]
      refine ⟨_, atI_nat (rng_at' _ hn), _, atI_nat (rng_at' _ (show 0 < n by omega)), ?_⟩
      rw [ez]
      refine ⟨_, atI_nat (rng_at' _ (show 0 < n by omega)), _, atI_nat (rng_at' _ hn), ?_⟩
      rw [ey]
      refine ⟨⟨by omega, by omega, by omega, by omega⟩, ?_⟩
      refine forRx (0 - z) _ (fun j ρ => ∃ (ls : List (List Int)) (v7 : Lo) (c : Nat), ρ = [.sh (.int (n : Int)), .sh (.lst ((rs.map rowOf).map dRow)), .sh (tblO n (lawT n ((rs.map rowOf).flatMap arcs2))), .sh (.lst (ws.map dLI)), .sh (.int ((t + 1 : Nat) : Int)), .ow (ls.map dLI), .sh (dLI w), v7] ∧ (ls.length ≤ 4 * i + c ∧ c ≤ 4 ∧ (c = 0 ∨ (c : Int) ≤ (0 - z) + (j : Int) - A)) ∧ ∀ w, w ∈ ls → w.length = t + 2) ⟨ls, _, 0, rfl, ⟨hls, by omega, .inl rfl⟩, hl2⟩ ?_ ?_
      · rintro j ρ hj ⟨ls, v7, c, rfl, ⟨c1, c2, c3⟩, hl2⟩
        dsimp only [Df.dgN, Df.sSeq, Df.sAsg, Df.sAsgO, Df.sMove, Df.sNext, Df.sRet, Df.eVar, Df.eVarF, Df.eC, Df.oI, Df.oU, Df.aCons, Df.aNil, Df.eCat, Df.eSum, Df.eMaxL, Df.eMinL, Df.eSorted, Df.eList, Df.eTuple, Df.eLz, Df.eLen, Df.eIndex, Df.one, Df.two, Df.nrm, Df.gt, List.set, Df.padE, Df.dat, Df.argL, Df.seqL, Df.seqD, Df.eLst, Df.eTup, Df.shs, Option.map, Df.eSlT, Df.eSlA, Df.sExt, Df.sStL, Df.sUpd, Df.sDrop, Df.sRetN, Df.eIsi, Df.eNot, Df.eIf, Df.eLrg, Df.eMeth, Df.eMake, Df.eCallL, Df.eMakeL, Df.eMethL, Df.eFld, Df.oEqD, Df.oIn, Df.eDGet, Df.dTr, Df.truD, Df.sAugL, Df.sAug, Df.sFldS, Df.iE, Df.iZ, Df.eMaxL, Df.eSortedD, Df.sCut, Df.eVarT, Df.eVarM, Df.eMov, Df.sAppT, Df.sStT, Df.skq, Df.trq, Df.trqs, Df.mvq, Df.eIxLK, Df.eIxTK, Df.skl, Df.eLstT, Df.eTupT, Df.aConsT, Df.sAsgG, Df.dgT, Df.dgCons, Df.dgNil, Df.eChain, Df.eAnd, Df.eOr, Df.oEq, Df.eFld, Df.dOr, Df.dAnd, Df.dOrB, Df.dAndB, Df.eInt, Df.eSlL, Df.oSo, Df.oNo, Df.eI2, Df.eI1, Df.oIs, Df.sIf, Df.eIxQ, Df.iT, Df.dYes, Df.sNever, Df.sCut, Df.eGenB, Df.genE, Df.noE, Df.capE, Df.capL, Df.lendL, Df.lendE, Df.eLend, Df.dLend, Df.eLendN, Df.lndE, Df.lndL, Df.lnX, Df.lnx, List.cons_append, List.nil_append, Df.eIxT, Df.eIxL, Df.eCall, Df.eCallB, Df.oC, Df.dNot, Df.dB, Df.sApp, Df.sStD, Df.eDIn, Df.eDisp1, Df.eLenD]
        refine ⟨(Nat.le_of_ble_eq_true rfl), by rw [List.length_map, hw]; simp; omega, w ++ [0 - z + (j : Int)], rs, by rw [map_dR]; unfold dLI; rw [List.map_append]; rfl, fun ⟨b, c, lo, hi⟩ m => by have := isR_in (ok.ok _ m); exact ⟨this.1, this.2.2.1⟩, fun h => ?_, fun h => ⟨ls, _, c, rfl, ⟨by omega, c2, by omega⟩, hl2⟩⟩
        have q := hA _ h
        refine ⟨(Nat.le_of_ble_eq_true rfl), by rw [List.length_map, hw]; simp; omega, by rw [List.length_map]; omega, ls ++ [w ++ [0 - z + (j : Int)]], .sh (.int (0 - z + (j : Int))), c + 1, ?_, ⟨by rw [List.length_append, List.length_singleton]; omega, by omega, .inr (by omega)⟩, fun x m => ?_⟩
        · rw [List.map_append, show List.map dLI [w ++ [0 - z + (j : Int)]] = [Dt.lst (w.map Dt.int ++ [Dt.int (0 - z + (j : Int))])] by unfold dLI; simp]
        · rcases List.mem_append.mp m with m | m
          · exact hl2 x m
          · rw [List.mem_singleton.mp m, List.length_append, hw]; rfl
      · rintro ρ ⟨ls, v7, c, rfl, ⟨c1, c2, c3⟩, hl2⟩
        exact ⟨ls, _, _, rfl, by omega, hl2⟩
    · rintro ρ ⟨ls, v6, v7, rfl, hls, hl2⟩
      dsimp only [Df.dgN, Df.sSeq, Df.sAsg, Df.sAsgO, Df.sMove, Df.sNext, Df.sRet, Df.eVar, Df.eVarF, Df.eC, Df.oI, Df.oU, Df.aCons, Df.aNil, Df.eCat, Df.eSum, Df.eMaxL, Df.eMinL, Df.eSorted, Df.eList, Df.eTuple, Df.eLz, Df.eLen, Df.eIndex, Df.one, Df.two, Df.nrm, Df.gt, List.set, Df.padE, Df.dat, Df.argL, Df.seqL, Df.seqD, Df.eLst, Df.eTup, Df.shs, Option.map, Df.eSlT, Df.eSlA, Df.sExt, Df.sStL, Df.sUpd, Df.sDrop, Df.sRetN, Df.eIsi, Df.eNot, Df.eIf, Df.eLrg, Df.eMeth, Df.eMake, Df.eCallL, Df.eMakeL, Df.eMethL, Df.eFld, Df.oEqD, Df.oIn, Df.eDGet, Df.dTr, Df.truD, Df.sAugL, Df.sAug, Df.sFldS, Df.iE, Df.iZ, Df.eMaxL, Df.eSortedD, Df.sCut, Df.eVarT, Df.eVarM, Df.eMov, Df.sAppT, Df.sStT, Df.skq, Df.trq, Df.trqs, Df.mvq, Df.eIxLK, Df.eIxTK, Df.skl, Df.eLstT, Df.eTupT, Df.aConsT, Df.sAsgG, Df.dgT, Df.dgCons, Df.dgNil, Df.eChain, Df.eAnd, Df.eOr, Df.oEq, Df.eFld, Df.dOr, Df.dAnd, Df.dOrB, Df.dAndB, Df.eInt, Df.eSlL, Df.oSo, Df.oNo, Df.eI2, Df.eI1, Df.oIs, Df.sIf, Df.eIxQ, Df.iT, Df.dYes, Df.sNever, Df.sCut, Df.eGenB, Df.genE, Df.noE, Df.capE, Df.capL, Df.lendL, Df.lendE, Df.eLend, Df.dLend, Df.eLendN, Df.lndE, Df.lndL, Df.lnX, Df.lnx, List.cons_append, List.nil_append, Df.eIxT, Df.eIxL, Df.eCall, Df.eCallB, Df.oC, Df.dNot, Df.dB, Df.sApp, Df.sStD, Df.eDIn, Df.eDisp1, Df.eLenD]
      exact ⟨ls, _, _, _, _, rfl, by rw [Nat.pow_succ]; omega, hl2⟩
  · rintro ρ ⟨ws, v4, v5, v6, v7, rfl, hws, hlen⟩
    refine k ws ?_
    have : 4 ^ ((n : Int) - 1).toNat ≤ 64 := Nat.le_trans (Nat.pow_le_pow_right (by decide) (show ((n : Int) - 1).toNat ≤ 3 by omega)) (by decide)
    omega
theorem atI_last {w : List Int} (h : 0 < w.length) : ∃ x, atI (w.map Dt.int) (-1) = some (.int x) := by
  refine ⟨w.getD (w.length - 1) 0, ?_⟩
  unfold atI ixN
  rw [List.length_map, if_neg (by decide), if_pos (by omega)]
  show (w.map Dt.int)[((-1 : Int) + (w.length : Int)).toNat]? = _
  rw [show ((-1 : Int) + (w.length : Int)).toNat = w.length - 1 by omega, List.getElem?_map, List.getD_eq_getElem?_getD, List.getElem?_eq_getElem (by omega)]
  rfl
theorem ixN_at {w : List Int} {i : Int} (h0 : 0 ≤ i) (h1 : i < (w.length : Int)) : ixN (w.map Dt.int).length i = some i.toNat := by
  unfold ixN
  rw [List.length_map, if_pos h0, if_pos h1]
theorem ok_law_lists (T : Txt P K mg) (B : Tb T base) : FnOk P w K mg base CX0 3 T.a_law_lists T.d_law_lists ["_law_source_here", "_law_size", "_law_base", "_law_rules_here", "_law_reach"] (spOf K T.tb cLists) := by
  refine T.F_law_lists.ok sc_law_lists (fun vs H Q E h => spOf_len h (by rintro ls Qd ⟨n, base, rs, reach, rfl, _⟩; rfl)) (fun cdv A outer s H vs Q E hr h => ?_)
  refine ⟨_, (pss_cons (ps_set (i := 5) sc_law_lists.nd rfl (Or.inl rfl) (pe_lst (pa_cons (pe_callTy call_list_of (by rfl) T.z_list (by decide +kernel) (pa_cons (pv 2) pa_nil)) (pa_cons (pe_lst pa_nil) (pa_cons (pe_slice sl_list (pv 2) po_none (po_some (pe_un un_neg pe_int))) (pa_cons (pe_op op_cat (pv 2) (pe_lst (pa_cons (pe_op op_add (pe_ix ix_list (pv 2) (pe_un un_neg pe_int) (fun _ _ => rfl)) (pe_call (ok_law_draw T B) (hr.mono (by decide)) (by rfl) T.m_law_draw T.F_law_draw.kp T.b_law_draw .nil pass0 (pa_cons (pv 0) (pa_cons pe_int pa_nil)))) pa_nil))) pa_nil)))))) (pss_cons (ps_expr (pe_bm PySem.F.plainAttrs_list PySem.F.slot_list_append PySem.F.type_list_append mt_append (pv 5) (pa_cons (pe_lc (own := [("_law_level", 6)]) (g := gName 6) (tt := tYes) (by rfl) sc_law_lists.nd (pi_list (pv 2)) (blkOk_by (own := [("_law_level", 6)]) (N := ["_law_source_here", "_law_size", "_law_base", "_law_rules_here", "_law_reach", "_law_rows", "_law_level", "_law_rule_here", "_law_gap", "_law_row", "_law_node", "_law_again", "_law_moved"]) (sc := defScope s_law_lists) (by decide +kernel)) (fun _ _ _ _ _ => pg_name (i := 6) sc_law_lists.nd rfl (by first | exact Or.inl rfl | exact Or.inr rfl)) (fun _ _ _ _ _ => pts_nil) (fun _ _ _ _ _ => (pe_op op_add (pv 6) pe_int))) pa_nil))) (pss_cons (ps_expr (pe_bm PySem.F.plainAttrs_list PySem.F.slot_list_append PySem.F.type_list_append mt_append (pv 5) (pa_cons (pe_lc (own := [("_law_level", 6)]) (g := gName 6) (tt := tYes) (by rfl) sc_law_lists.nd (pi_list (pv 2)) (blkOk_by (own := [("_law_level", 6)]) (N := ["_law_source_here", "_law_size", "_law_base", "_law_rules_here", "_law_reach", "_law_rows", "_law_level", "_law_rule_here", "_law_gap", "_law_row", "_law_node", "_law_again", "_law_moved"]) (sc := defScope s_law_lists) (by decide +kernel)) (fun _ _ _ _ _ => pg_name (i := 6) sc_law_lists.nd rfl (by first | exact Or.inl rfl | exact Or.inr rfl)) (fun _ _ _ _ _ => pts_nil) (fun _ _ _ _ _ => (pe_op op_sub (pv 6) pe_int))) pa_nil))) (pss_cons (ps_for PassesOwn.never rfl (pi_list (pe_op op_cat (pe_slice sl_list (pv 3) po_none (po_some pe_int)) (pe_slice sl_list (pe_slice sl_list (pv 3) (po_some pe_int) po_none) (po_some (pe_un un_neg pe_int)) po_none))) (pg_name (i := 7) sc_law_lists.nd rfl (Or.inl rfl)) (pss_one (ps_for PassesOwn.never rfl (pi_list (pe_lst (pa_cons (pe_op op_sub (pe_ix ix_tup (pv 7) pe_int (fun _ _ => rfl)) pe_int) (pa_cons (pe_ix ix_tup (pv 7) pe_int (fun _ _ => rfl)) (pa_cons (pe_ix ix_tup (pv 7) pe_int (fun _ _ => rfl)) (pa_cons (pe_op op_add (pe_ix ix_tup (pv 7) pe_int (fun _ _ => rfl)) pe_int) pa_nil)))))) (pg_name (i := 8) sc_law_lists.nd rfl (Or.inl rfl)) (pss_cons (ps_set (i := 9) sc_law_lists.nd rfl (Or.inl rfl) (pe_callTy call_list_of (by rfl) T.z_list (by decide +kernel) (pa_cons (pv 2) pa_nil))) (pss_cons (ps_if (pt_cmpR op_eq (pe_ix ix_tup (pv 7) pe_int (fun _ _ => rfl)) pe_int (nomark _)) (pss_one (ps_asg (pe_op op_sub pe_int (pv 8)) (pg_sub (pv 9) (pe_ix ix_tup (pv 7) pe_int (fun _ _ => rfl)) set_list))) (pss_one (ps_asg (pe_op op_add (pe_ix ix_list (pv 9) (pe_ix ix_tup (pv 7) pe_int (fun _ _ => rfl)) (fun _ _ => rfl)) (pv 8)) (pg_sub (pv 9) (pe_ix ix_tup (pv 7) pe_int (fun _ _ => rfl)) set_list)))) (pss_one (ps_expr (pe_bm PySem.F.plainAttrs_list PySem.F.slot_list_append PySem.F.type_list_append mt_append (pv 5) (pa_cons (pv 9) pa_nil))))))))) (pss_cons (ps_for PassesOwn.never rfl (pi_range1 (by rfl) T.z_range (pa_cons (pv 1) pa_nil)) (pg_name (i := 10) sc_law_lists.nd rfl (Or.inl rfl)) (pss_cons (ps_set (i := 9) sc_law_lists.nd rfl (Or.inl rfl) (pe_callTy call_list_of (by rfl) T.z_list (by decide +kernel) (pa_cons (pv 2) pa_nil))) (pss_cons (ps_asg (pe_op op_add (pe_op op_sub (pe_ix ix_list (pv 9) (pv 10) (fun _ _ => rfl)) pe_int) (pe_call (ok_law_draw T B) (hr.mono (by decide)) (by rfl) T.m_law_draw T.F_law_draw.kp T.b_law_draw .nil pass0 (pa_cons (pv 0) (pa_cons pe_int pa_nil)))) (pg_sub (pv 9) (pv 10) set_list)) (pss_one (ps_expr (pe_bm PySem.F.plainAttrs_list PySem.F.slot_list_append PySem.F.type_list_append mt_append (pv 5) (pa_cons (pv 9) pa_nil))))))) (pss_cons (ps_for PassesOwn.never rfl (pi_range1 (by rfl) T.z_range (pa_cons pe_int pa_nil)) (pg_name (i := 11) sc_law_lists.nd rfl (Or.inl rfl)) (pss_cons (ps_set (i := 12) sc_law_lists.nd rfl (Or.inl rfl) (pe_lst (pa_cons (pe_ix ix_list (pv 2) pe_int (fun _ _ => rfl)) pa_nil))) (pss_cons (ps_for PassesOwn.never rfl (pi_list (pe_slice sl_list (pv 2) (po_some pe_int) po_none)) (pg_name (i := 6) sc_law_lists.nd rfl (Or.inl rfl)) (pss_one (ps_expr (pe_bm PySem.F.plainAttrs_list PySem.F.slot_list_append PySem.F.type_list_append mt_append (pv 12) (pa_cons (pe_op op_add (pe_op op_sub (pv 6) pe_int) (pe_call (ok_law_draw T B) (hr.mono (by decide)) (by rfl) T.m_law_draw T.F_law_draw.kp T.b_law_draw .nil pass0 (pa_cons (pv 0) (pa_cons pe_int pa_nil)))) pa_nil))))) (pss_one (ps_expr (pe_bm PySem.F.plainAttrs_list PySem.F.slot_list_append PySem.F.type_list_append mt_append (pv 5) (pa_cons (pv 12) pa_nil))))))) (pss_cons (ps_if (PW.pt (pw_and (pt_cmpR op_lt (pv 1) pe_int (nomark _)) (pw_and1 (pt_cmpR op_eq (pv 4) pe_int (nomark _))))) (pss_one (ps_set (i := 5) sc_law_lists.nd rfl (Or.inl rfl) (pe_op op_cat (pv 5) (pe_call (ok_law_all_worlds T B) (hr.mono (by decide)) (by rfl) T.m_law_all_worlds T.F_law_all_worlds.kp T.b_law_all_worlds .nil pass0 (pa_cons (pv 1) (pa_cons (pv 3) pa_nil)))))) pss_nil) (pss_one (ps_ret (pv 5)))))))))), ?_⟩
  refine df_body (m := 13) (ls_seq (ls_asgO (i := 5) (le_lst (la_cons (le_list (la_cons (le_var (i := 2)) la_nil)) (la_cons (le_lst la_nil) (la_cons (le_slL (le_var (i := 2)) lo_no (lo_so (le_neg le_int))) (la_cons (le_cat (le_var (i := 2)) (le_lst (la_cons (le_add (le_ixL (le_var (i := 2)) (le_neg le_int)) (le_call0 (la_cons (le_var (i := 0)) (la_cons le_int la_nil)))) la_nil))) la_nil)))))) (ls_seq (ls_app (i := 5) (le_lc (own := [6]) (li_list (le_var (i := 2))) (lf_name (i := 6)) lt_yes (le_add (le_var (i := 6)) le_int) (by decide))) (ls_seq (ls_app (i := 5) (le_lc (own := [6]) (li_list (le_var (i := 2))) (lf_name (i := 6)) lt_yes (le_sub (le_var (i := 6)) le_int) (by decide))) (ls_seq (ls_for (li_list (le_cat (le_slL (le_var (i := 3)) lo_no (lo_so le_int)) (le_slL (le_slL (le_var (i := 3)) (lo_so le_int) lo_no) (lo_so (le_neg le_int)) lo_no))) (lf_name (i := 7)) (ls_for (li_list (le_lst (la_cons (le_sub (le_ixT (le_var (i := 7)) le_int) le_int) (la_cons (le_ixT (le_var (i := 7)) le_int) (la_cons (le_ixT (le_var (i := 7)) le_int) (la_cons (le_add (le_ixT (le_var (i := 7)) le_int) le_int) la_nil)))))) (lf_name (i := 8)) (ls_seq (ls_asgO (i := 9) (le_list (la_cons (le_var (i := 2)) la_nil))) (ls_seq (ls_cut (ls_if (lt_T (le_eq (le_ixT (le_var (i := 7)) le_int) le_int)) (ls_stL (i := 9) (le_sub le_int (le_var (i := 8))) (le_ixT (le_var (i := 7)) le_int)) (ls_stL (i := 9) (le_add (le_ixL (le_var (i := 9)) (le_ixT (le_var (i := 7)) le_int)) (le_var (i := 8))) (le_ixT (le_var (i := 7)) le_int)))) (ls_app (i := 5) (le_varF (i := 9))))))) (ls_seq (ls_for (li_r1 (la_cons (le_var (i := 1)) la_nil)) (lf_name (i := 10)) (ls_seq (ls_asgO (i := 9) (le_list (la_cons (le_var (i := 2)) la_nil))) (ls_seq (ls_stL (i := 9) (le_add (le_sub (le_ixL (le_var (i := 9)) (le_var (i := 10))) le_int) (le_call0 (la_cons (le_var (i := 0)) (la_cons le_int la_nil)))) (le_var (i := 10))) (ls_app (i := 5) (le_varF (i := 9)))))) (ls_seq (ls_for (li_r1 (la_cons le_int la_nil)) (lf_name (i := 11)) (ls_seq (ls_asgO (i := 12) (le_lst (la_cons (le_ixL (le_var (i := 2)) le_int) la_nil))) (ls_seq (ls_for (li_list (le_slL (le_var (i := 2)) (lo_so le_int) lo_no)) (lf_name (i := 6)) (ls_app (i := 12) (le_add (le_sub (le_var (i := 6)) le_int) (le_call0 (la_cons (le_var (i := 0)) (la_cons le_int la_nil)))))) (ls_app (i := 5) (le_varF (i := 12)))))) (ls_seq (ls_cut (ls_if (lt_and (lt_T (le_lt (le_var (i := 1)) le_int)) (lt_T (le_eq (le_var (i := 4)) le_int))) (ls_asgO (i := 5) (le_cat (le_var (i := 5)) (le_call0 (la_cons (le_var (i := 1)) (la_cons (le_var (i := 3)) la_nil))))) ls_next)) (ls_ret (le_var (i := 5)))))))))) h rfl (Nat.le_trans (Nat.le_of_eq (spOf_len (n := 5) h (by rintro ls Qd ⟨n, base, rs, reach, rfl, _⟩; rfl))) (by decide)) ?_
  clear h
  rintro ls Q ⟨n, base, rs, reach, rfl, ⟨ok, n1, n16⟩, k⟩
  have hb := ok.len
  obtain ⟨xl, hxl⟩ := atI_last (w := base) (by omega)
  dsimp only [Df.dgN, Df.sSeq, Df.sAsg, Df.sAsgO, Df.sMove, Df.sNext, Df.sRet, Df.eVar, Df.eVarF, Df.eC, Df.oI, Df.oU, Df.aCons, Df.aNil, Df.eCat, Df.eSum, Df.eMaxL, Df.eMinL, Df.eSorted, Df.eList, Df.eTuple, Df.eLz, Df.eLen, Df.eIndex, Df.one, Df.two, Df.nrm, Df.gt, List.set, Df.padE, Df.dat, Df.argL, Df.seqL, Df.seqD, Df.eLst, Df.eTup, Df.shs, Option.map, Df.eSlT, Df.eSlA, Df.sExt, Df.sStL, Df.sUpd, Df.sDrop, Df.sRetN, Df.eIsi, Df.eNot, Df.eIf, Df.eLrg, Df.eMeth, Df.eMake, Df.eCallL, Df.eMakeL, Df.eMethL, Df.eFld, Df.oEqD, Df.oIn, Df.eDGet, Df.dTr, Df.truD, Df.sAugL, Df.sAug, Df.sFldS, Df.iE, Df.iZ, Df.eMaxL, Df.eSortedD, Df.sCut, Df.eVarT, Df.eVarM, Df.eMov, Df.sAppT, Df.sStT, Df.skq, Df.trq, Df.trqs, Df.mvq, Df.eIxLK, Df.eIxTK, Df.skl, Df.eLstT, Df.eTupT, Df.aConsT, Df.sAsgG, Df.dgT, Df.dgCons, Df.dgNil, Df.eChain, Df.eAnd, Df.eOr, Df.oEq, Df.eFld, Df.dOr, Df.dAnd, Df.dOrB, Df.dAndB, Df.eInt, Df.eSlL, Df.oSo, Df.oNo, Df.eI2, Df.eI1, Df.oIs, Df.sIf, Df.eIxQ, Df.iT, Df.dYes, Df.sNever, Df.sCut, Df.eGenB, Df.genE, Df.noE, Df.capE, Df.capL, Df.lendL, Df.lendE, Df.eLend, Df.dLend, Df.eLendN, Df.lndE, Df.lndL, Df.lnX, Df.lnx, List.cons_append, List.nil_append, Df.eIxT, Df.eIxL, Df.eCall, Df.eCallB, Df.oC, Df.dNot, Df.dB, Df.sApp, Df.sStD, Df.eDIn, Df.eDisp1, Df.eLenD]
  refine ⟨(Nat.le_of_ble_eq_true rfl), _, hxl, _, rfl, by decide, fun d d0 d1 => ⟨(Nat.le_of_ble_eq_true rfl), by rw [List.length_map]; simp; omega, (Nat.le_of_ble_eq_true rfl), ?_⟩⟩
  refine lcM Dt.int base (fun i => .int (i + 1)) rfl (by omega) (fun k h => h) (fun d ρ P Q h => h _) (fun i hi C c => ⟨rfl, c⟩) ?_
  dsimp only [Df.dgN, Df.sSeq, Df.sAsg, Df.sAsgO, Df.sMove, Df.sNext, Df.sRet, Df.eVar, Df.eVarF, Df.eC, Df.oI, Df.oU, Df.aCons, Df.aNil, Df.eCat, Df.eSum, Df.eMaxL, Df.eMinL, Df.eSorted, Df.eList, Df.eTuple, Df.eLz, Df.eLen, Df.eIndex, Df.one, Df.two, Df.nrm, Df.gt, List.set, Df.padE, Df.dat, Df.argL, Df.seqL, Df.seqD, Df.eLst, Df.eTup, Df.shs, Option.map, Df.eSlT, Df.eSlA, Df.sExt, Df.sStL, Df.sUpd, Df.sDrop, Df.sRetN, Df.eIsi, Df.eNot, Df.eIf, Df.eLrg, Df.eMeth, Df.eMake, Df.eCallL, Df.eMakeL, Df.eMethL, Df.eFld, Df.oEqD, Df.oIn, Df.eDGet, Df.dTr, Df.truD, Df.sAugL, Df.sAug, Df.sFldS, Df.iE, Df.iZ, Df.eMaxL, Df.eSortedD, Df.sCut, Df.eVarT, Df.eVarM, Df.eMov, Df.sAppT, Df.sStT, Df.skq, Df.trq, Df.trqs, Df.mvq, Df.eIxLK, Df.eIxTK, Df.skl, Df.eLstT, Df.eTupT, Df.aConsT, Df.sAsgG, Df.dgT, Df.dgCons, Df.dgNil, Df.eChain, Df.eAnd, Df.eOr, Df.oEq, Df.eFld, Df.dOr, Df.dAnd, Df.dOrB, Df.dAndB, Df.eInt, Df.eSlL, Df.oSo, Df.oNo, Df.eI2, Df.eI1, Df.oIs, Df.sIf, Df.eIxQ, Df.iT, Df.dYes, Df.sNever, Df.sCut, Df.eGenB, Df.genE, Df.noE, Df.capE, Df.capL, Df.lendL, Df.lendE, Df.eLend, Df.dLend, Df.eLendN, Df.lndE, Df.lndL, Df.lnX, Df.lnx, List.cons_append, List.nil_append, Df.eIxT, Df.eIxL, Df.eCall, Df.eCallB, Df.oC, Df.dNot, Df.dB, Df.sApp, Df.sStD, Df.eDIn, Df.eDisp1, Df.eLenD]
  refine ⟨Nat.lt_of_lt_of_le (show 5 - 1 < 5 by decide) (by decide), ?_⟩
  refine lcM Dt.int base (fun i => .int (i - 1)) rfl (by omega) (fun k h => h) (fun d ρ P Q h => h _) (fun i hi C c => ⟨rfl, c⟩) ?_
  dsimp only [Df.dgN, Df.sSeq, Df.sAsg, Df.sAsgO, Df.sMove, Df.sNext, Df.sRet, Df.eVar, Df.eVarF, Df.eC, Df.oI, Df.oU, Df.aCons, Df.aNil, Df.eCat, Df.eSum, Df.eMaxL, Df.eMinL, Df.eSorted, Df.eList, Df.eTuple, Df.eLz, Df.eLen, Df.eIndex, Df.one, Df.two, Df.nrm, Df.gt, List.set, Df.padE, Df.dat, Df.argL, Df.seqL, Df.seqD, Df.eLst, Df.eTup, Df.shs, Option.map, Df.eSlT, Df.eSlA, Df.sExt, Df.sStL, Df.sUpd, Df.sDrop, Df.sRetN, Df.eIsi, Df.eNot, Df.eIf, Df.eLrg, Df.eMeth, Df.eMake, Df.eCallL, Df.eMakeL, Df.eMethL, Df.eFld, Df.oEqD, Df.oIn, Df.eDGet, Df.dTr, Df.truD, Df.sAugL, Df.sAug, Df.sFldS, Df.iE, Df.iZ, Df.eMaxL, Df.eSortedD, Df.sCut, Df.eVarT, Df.eVarM, Df.eMov, Df.sAppT, Df.sStT, Df.skq, Df.trq, Df.trqs, Df.mvq, Df.eIxLK, Df.eIxTK, Df.skl, Df.eLstT, Df.eTupT, Df.aConsT, Df.sAsgG, Df.dgT, Df.dgCons, Df.dgNil, Df.eChain, Df.eAnd, Df.eOr, Df.oEq, Df.eFld, Df.dOr, Df.dAnd, Df.dOrB, Df.dAndB, Df.eInt, Df.eSlL, Df.oSo, Df.oNo, Df.eI2, Df.eI1, Df.oIs, Df.sIf, Df.eIxQ, Df.iT, Df.dYes, Df.sNever, Df.sCut, Df.eGenB, Df.genE, Df.noE, Df.capE, Df.capL, Df.lendL, Df.lendE, Df.eLend, Df.dLend, Df.eLendN, Df.lndE, Df.lndL, Df.lnX, Df.lnx, List.cons_append, List.nil_append, Df.eIxT, Df.eIxL, Df.eCall, Df.eCallB, Df.oC, Df.dNot, Df.dB, Df.sApp, Df.sStD, Df.eDIn, Df.eDisp1, Df.eLenD]
  refine ⟨by simp, ?_⟩
  have e0 : ∀ y : Int, [Dt.lst (base.map Dt.int), Dt.lst [], Dt.lst (cutL (base.map Dt.int) none (some (-1))), Dt.lst (base.map Dt.int ++ [Dt.int y]), Dt.lst (base.map fun i => Dt.int (i + 1)), Dt.lst (base.map fun i => Dt.int (i - 1))] = [base, [], base.take (base.length - 1), base ++ [y], base.map (fun i => i + 1), base.map (fun i => i - 1)].map dLI := fun y => by
    have := cut_but (base.map Dt.int) 1 (by decide)
    rw [show (some (-1 : Int)) = some (-((1 : Nat) : Int)) from rfl, this, List.length_map]
    unfold dLI
    simp [List.map_take, List.map_map, Function.comp_def]
  rw [e0]
  have e1 : cutL (rs.map dR) none (some 20) ++ cutL (cutL (rs.map dR) (some 20) none) (some (-8)) none = (rs.take 20 ++ ((rs.drop 20).drop ((rs.drop 20).length - 8))).map dR := by
    have h8 := fun xs => cut_end xs 8 (by decide)
    rw [show (some (-8 : Int)) = some (-((8 : Nat) : Int)) from rfl, h8, cut_to _ (by decide), cut_from _ (by decide), List.map_append, List.map_take, List.map_drop, List.map_drop, ← List.map_drop (f := dR), List.length_map, List.map_drop]
    rfl
  have e1l := congrArg List.length e1
  have e2 : (rs.take 20 ++ ((rs.drop 20).drop ((rs.drop 20).length - 8))).length ≤ 28 := by
    rw [List.length_append, List.length_take, List.length_drop, List.length_drop]; omega
  have e3 : ∀ r, r ∈ rs.take 20 ++ ((rs.drop 20).drop ((rs.drop 20).length - 8)) → r ∈ rs := fun r m => by
    rcases List.mem_append.mp m with m | m
    · exact List.mem_of_mem_take m
    · exact List.mem_of_mem_drop (List.mem_of_mem_drop m)
  generalize rs.take 20 ++ ((rs.drop 20).drop ((rs.drop 20).length - 8)) = sel at e1 e1l e2 e3
  rw [List.length_append, List.length_map] at e1l
  refine (show Df.iL _ _ _ from ?_)
  dsimp only [Df.iL, Df.eCat, Df.eSlL, Df.oNo, Df.oSo, Df.oU, Df.eC, Df.eVar, Df.gt, Df.dat, Df.nrm, List.set]
  refine ⟨by omega, ?_⟩
  rw [e1]
  refine forEx dR sel (fun i ρ => ∃ (ws : List (List Int)) (v7 v8 v9 : Lo), ρ = [.src, .sh (.int (n : Int)), .sh (dLI base), .sh (.lst (rs.map dR)), .sh (.int reach), .ow (ws.map dLI), .no, v7, v8, v9, .no, .no, .no] ∧ ws.length ≤ 6 + 4 * i) ⟨_, _, _, _, rfl, Nat.le_refl _⟩ ?_ ?_
  · rintro i ⟨a, b, lo, hi⟩ ρ hx ⟨ws, v7, v8, v9, rfl, hws⟩
    have q := isR_in (ok.ok _ (e3 _ (List.mem_of_getElem? hx)))
    have hil : i < sel.length := (List.getElem?_eq_some_iff.mp hx).1
    dsimp only [Df.dgN, Df.sSeq, Df.sAsg, Df.sAsgO, Df.sMove, Df.sNext, Df.sRet, Df.eVar, Df.eVarF, Df.eC, Df.oI, Df.oU, Df.aCons, Df.aNil, Df.eCat, Df.eSum, Df.eMaxL, Df.eMinL, Df.eSorted, Df.eList, Df.eTuple, Df.eLz, Df.eLen, Df.eIndex, Df.one, Df.two, Df.nrm, Df.gt, List.set, Df.padE, Df.dat, Df.argL, Df.seqL, Df.seqD, Df.eLst, Df.eTup, Df.shs, Option.map, Df.eSlT, Df.eSlA, Df.sExt, Df.sStL, Df.sUpd, Df.sDrop, Df.sRetN, Df.eIsi, Df.eNot, Df.eIf, Df.eLrg, Df.eMeth, Df.eMake, Df.eCallL, Df.eMakeL, Df.eMethL, Df.eFld, Df.oEqD, Df.oIn, Df.eDGet, Df.dTr, Df.truD, Df.sAugL, Df.sAug, Df.sFldS, Df.iE, Df.iZ, Df.eMaxL, Df.eSortedD, Df.sCut, Df.eVarT, Df.eVarM, Df.eMov, Df.sAppT, Df.sStT, Df.skq, Df.trq, Df.trqs, Df.mvq, Df.eIxLK, Df.eIxTK, Df.skl, Df.eLstT, Df.eTupT, Df.aConsT, Df.sAsgG, Df.dgT, Df.dgCons, Df.dgNil, Df.eChain, Df.eAnd, Df.eOr, Df.oEq, Df.eFld, Df.dOr, Df.dAnd, Df.dOrB, Df.dAndB, Df.eInt, Df.eSlL, Df.oSo, Df.oNo, Df.eI2, Df.eI1, Df.oIs, Df.sIf, Df.eIxQ, Df.iT, Df.dYes, Df.sNever, Df.sCut, Df.eGenB, Df.genE, Df.noE, Df.capE, Df.capL, Df.lendL, Df.lendE, Df.eLend, Df.dLend, Df.eLendN, Df.lndE, Df.lndL, Df.lnX, Df.lnx, List.cons_append, List.nil_append, Df.eIxT, Df.eIxL, Df.eCall, Df.eCallB, Df.oC, Df.dNot, Df.dB, Df.sApp, Df.sStD, Df.eDIn, Df.eDisp1, Df.eLenD]
    refine (show Df.iL _ _ _ from ?_)
    dsimp only [Df.iL, Df.eLst, Df.aCons, Df.aNil, Df.oI, Df.eIxT, Df.eC, Df.eVar, Df.gt, Df.dat, Df.nrm, List.set, Df.shs]
    refine ⟨_, rfl, _, rfl, _, rfl, _, rfl, (Nat.le_of_ble_eq_true rfl), ?_⟩
    refine forEx Dt.int [lo - 1, lo, hi, hi + 1] (fun j ρ => ∃ (ws : List (List Int)) (v8 v9 : Lo), ρ = [.src, .sh (.int (n : Int)), .sh (dLI base), .sh (.lst (rs.map dR)), .sh (.int reach), .ow (ws.map dLI), .no, .sh (dR (a, b, lo, hi)), v8, v9, .no, .no, .no] ∧ ws.length ≤ 6 + 4 * i + j) ⟨ws, _, _, rfl, hws⟩ ?_ ?_
    · rintro j g ρ hg ⟨ws, v8, v9, rfl, hws⟩
      have hj : j < 4 := (List.getElem?_eq_some_iff.mp hg).1
      have M0 : ∀ (w : List Int) (v8 v9 : Lo), ∃ (ws' : List (List Int)) (v8' v9' : Lo), [Lo.src, .sh (.int (n : Int)), .sh (dLI base), .sh (.lst (rs.map dR)), .sh (.int reach), .ow (ws.map dLI ++ [.lst (w.map Dt.int)]), .no, .sh (dR (a, b, lo, hi)), v8, v9, .no, .no, .no] = [.src, .sh (.int (n : Int)), .sh (dLI base), .sh (.lst (rs.map dR)), .sh (.int reach), .ow (ws'.map dLI), .no, .sh (dR (a, b, lo, hi)), v8', v9', .no, .no, .no] ∧ ws'.length ≤ 6 + 4 * i + (j + 1) := fun w v8 v9 => ⟨ws ++ [w], v8, v9, by rw [List.map_append]; rfl, by rw [List.length_append, List.length_singleton]; omega⟩
      dsimp only [Df.dgN, Df.sSeq, Df.sAsg, Df.sAsgO, Df.sMove, Df.sNext, Df.sRet, Df.eVar, Df.eVarF, Df.eC, Df.oI, Df.oU, Df.aCons, Df.aNil, Df.eCat, Df.eSum, Df.eMaxL, Df.eMinL, Df.eSorted, Df.eList, Df.eTuple, Df.eLz, Df.eLen, Df.eIndex, Df.one, Df.two, Df.nrm, Df.gt, List.set, Df.padE, Df.dat, Df.argL, Df.seqL, Df.seqD, Df.eLst, Df.eTup, Df.shs, Option.map, Df.eSlT, Df.eSlA, Df.sExt, Df.sStL, Df.sUpd, Df.sDrop, Df.sRetN, Df.eIsi, Df.eNot, Df.eIf, Df.eLrg, Df.eMeth, Df.eMake, Df.eCallL, Df.eMakeL, Df.eMethL, Df.eFld, Df.oEqD, Df.oIn, Df.eDGet, Df.dTr, Df.truD, Df.sAugL, Df.sAug, Df.sFldS, Df.iE, Df.iZ, Df.eMaxL, Df.eSortedD, Df.sCut, Df.eVarT, Df.eVarM, Df.eMov, Df.sAppT, Df.sStT, Df.skq, Df.trq, Df.trqs, Df.mvq, Df.eIxLK, Df.eIxTK, Df.skl, Df.eLstT, Df.eTupT, Df.aConsT, Df.sAsgG, Df.dgT, Df.dgCons, Df.dgNil, Df.eChain, Df.eAnd, Df.eOr, Df.oEq, Df.eFld, Df.dOr, Df.dAnd, Df.dOrB, Df.dAndB, Df.eInt, Df.eSlL, Df.oSo, Df.oNo, Df.eI2, Df.eI1, Df.oIs, Df.sIf, Df.eIxQ, Df.iT, Df.dYes, Df.sNever, Df.sCut, Df.eGenB, Df.genE, Df.noE, Df.capE, Df.capL, Df.lendL, Df.lendE, Df.eLend, Df.dLend, Df.eLendN, Df.lndE, Df.lndL, Df.lnX, Df.lnx, List.cons_append, List.nil_append, Df.eIxT, Df.eIxL, Df.eCall, Df.eCallB, Df.oC, Df.dNot, Df.dB, Df.sApp, Df.sStD, Df.eDIn, Df.eDisp1, Df.eLenD]
      refine ⟨fun ρ => ∃ w : List Int, ρ = [Lo.src, .sh (.int (n : Int)), .sh (dLI base), .sh (.lst (rs.map dR)), .sh (.int reach), .ow (ws.map dLI), .no, .sh (dR (a, b, lo, hi)), .sh (.int g), .ow (w.map Dt.int), .no, .no, .no], ⟨_, rfl, fun h => ⟨_, rfl, _, ixN_at (w := base) (i := a) q.1 (by omega), base.set a.toNat (0 - g), by rw [List.map_set]⟩, fun h => ⟨_, rfl, _, atG q.1 (by omega), _, rfl, _, ixN_at (w := base) (i := b) q.2.2.1 (by omega), base.set b.toNat (base.getD a.toNat 0 + g), by rw [List.map_set]⟩⟩, ?_⟩
      rintro ρ ⟨w, rfl⟩
      dsimp only [Df.dgN, Df.sSeq, Df.sAsg, Df.sAsgO, Df.sMove, Df.sNext, Df.sRet, Df.eVar, Df.eVarF, Df.eC, Df.oI, Df.oU, Df.aCons, Df.aNil, Df.eCat, Df.eSum, Df.eMaxL, Df.eMinL, Df.eSorted, Df.eList, Df.eTuple, Df.eLz, Df.eLen, Df.eIndex, Df.one, Df.two, Df.nrm, Df.gt, List.set, Df.padE, Df.dat, Df.argL, Df.seqL, Df.seqD, Df.eLst, Df.eTup, Df.shs, Option.map, Df.eSlT, Df.eSlA, Df.sExt, Df.sStL, Df.sUpd, Df.sDrop, Df.sRetN, Df.eIsi, Df.eNot, Df.eIf, Df.eLrg, Df.eMeth, Df.eMake, Df.eCallL, Df.eMakeL, Df.eMethL, Df.eFld, Df.oEqD, Df.oIn, Df.eDGet, Df.dTr, Df.truD, Df.sAugL, Df.sAug, Df.sFldS, Df.iE, Df.iZ, Df.eMaxL, Df.eSortedD, Df.sCut, Df.eVarT, Df.eVarM, Df.eMov, Df.sAppT, Df.sStT, Df.skq, Df.trq, Df.trqs, Df.mvq, Df.eIxLK, Df.eIxTK, Df.skl, Df.eLstT, Df.eTupT, Df.aConsT, Df.sAsgG, Df.dgT, Df.dgCons, Df.dgNil, Df.eChain, Df.eAnd, Df.eOr, Df.oEq, Df.eFld, Df.dOr, Df.dAnd, Df.dOrB, Df.dAndB, Df.eInt, Df.eSlL, Df.oSo, Df.oNo, Df.eI2, Df.eI1, Df.oIs, Df.sIf, Df.eIxQ, Df.iT, Df.dYes, Df.sNever, Df.sCut, Df.eGenB, Df.genE, Df.noE, Df.capE, Df.capL, Df.lendL, Df.lendE, Df.eLend, Df.dLend, Df.eLendN, Df.lndE, Df.lndL, Df.lnX, Df.lnx, List.cons_append, List.nil_append, Df.eIxT, Df.eIxL, Df.eCall, Df.eCallB, Df.oC, Df.dNot, Df.dB, Df.sApp, Df.sStD, Df.eDIn, Df.eDisp1, Df.eLenD]
      exact ⟨by rw [List.length_map]; omega, M0 w _ _⟩
    · rintro ρ ⟨ws, v8, v9, rfl, hws⟩
      exact ⟨ws, _, _, _, rfl, by have : ws.length ≤ 6 + 4 * i + 4 := hws; omega⟩
  · rintro ρ ⟨ws, v7, v8, v9, rfl, hws⟩
    try (dsimp only [Df.sSeq])
    refine (show Df.iR1 _ _ _ from ?_)
    dsimp only [Df.iR1, Df.aCons, Df.aNil, Df.oI, Df.oU, Df.oC, Df.eC, Df.eVar, Df.eCall, Df.eLen, Df.one, Df.two, Df.nrm, Df.gt, Df.dat, Df.seqL, Df.seqD, Df.eIxL, Df.eIxT, Df.eMaxL, Df.eMinL, Df.eI2, Df.eI1, Df.eLend, Df.lendE, Df.lendL, List.set]
    refine ⟨⟨by omega, by omega⟩, ?_⟩
    refine forRx 0 _ (fun i ρ => ∃ (ws : List (List Int)) (v7 v8 v9 v10 : Lo), ρ = [.src, .sh (.int (n : Int)), .sh (dLI base), .sh (.lst (rs.map dR)), .sh (.int reach), .ow (ws.map dLI), .no, v7, v8, v9, v10, .no, .no] ∧ ws.length ≤ 118 + i) ⟨ws, _, _, _, _, rfl, by omega⟩ ?_ ?_
    · rintro i ρ hi ⟨ws, v7, v8, v9, v10, rfl, hws⟩
      dsimp only [Df.dgN, Df.sSeq, Df.sAsg, Df.sAsgO, Df.sMove, Df.sNext, Df.sRet, Df.eVar, Df.eVarF, Df.eC, Df.oI, Df.oU, Df.aCons, Df.aNil, Df.eCat, Df.eSum, Df.eMaxL, Df.eMinL, Df.eSorted, Df.eList, Df.eTuple, Df.eLz, Df.eLen, Df.eIndex, Df.one, Df.two, Df.nrm, Df.gt, List.set, Df.padE, Df.dat, Df.argL, Df.seqL, Df.seqD, Df.eLst, Df.eTup, Df.shs, Option.map, Df.eSlT, Df.eSlA, Df.sExt, Df.sStL, Df.sUpd, Df.sDrop, Df.sRetN, Df.eIsi, Df.eNot, Df.eIf, Df.eLrg, Df.eMeth, Df.eMake, Df.eCallL, Df.eMakeL, Df.eMethL, Df.eFld, Df.oEqD, Df.oIn, Df.eDGet, Df.dTr, Df.truD, Df.sAugL, Df.sAug, Df.sFldS, Df.iE, Df.iZ, Df.eMaxL, Df.eSortedD, Df.sCut, Df.eVarT, Df.eVarM, Df.eMov, Df.sAppT, Df.sStT, Df.skq, Df.trq, Df.trqs, Df.mvq, Df.eIxLK, Df.eIxTK, Df.skl, Df.eLstT, Df.eTupT, Df.aConsT, Df.sAsgG, Df.dgT, Df.dgCons, Df.dgNil, Df.eChain, Df.eAnd, Df.eOr, Df.oEq, Df.eFld, Df.dOr, Df.dAnd, Df.dOrB, Df.dAndB, Df.eInt, Df.eSlL, Df.oSo, Df.oNo, Df.eI2, Df.eI1, Df.oIs, Df.sIf, Df.eIxQ, Df.iT, Df.dYes, Df.sNever, Df.sCut, Df.eGenB, Df.genE, Df.noE, Df.capE, Df.capL, Df.lendL, Df.lendE, Df.eLend, Df.dLend, Df.eLendN, Df.lndE, Df.lndL, Df.lnX, Df.lnx, List.cons_append, List.nil_append, Df.eIxT, Df.eIxL, Df.eCall, Df.eCallB, Df.oC, Df.dNot, Df.dB, Df.sApp, Df.sStD, Df.eDIn, Df.eDisp1, Df.eLenD]
      refine ⟨_, atG (by omega) (by omega), _, rfl, by decide, fun g g0 g1 => ⟨_, ixN_at (w := base) (by omega) (by omega), by rw [List.length_map]; omega, ws ++ [base.set (0 + (i : Int)).toNat (base.getD (0 + (i : Int)).toNat 0 - 4 + g)], _, _, _, _, by rw [List.map_append, List.map_cons, List.map_nil]; unfold dLI; rw [List.map_set], by rw [List.length_append, List.length_singleton]; omega⟩⟩
    · rintro ρ ⟨ws, v7, v8, v9, v10, rfl, hws⟩
      try (dsimp only [Df.sSeq])
      refine (show Df.iR1 _ _ _ from ?_)
      dsimp only [Df.iR1, Df.aCons, Df.aNil, Df.oI, Df.oU, Df.oC, Df.eC, Df.eVar, Df.eCall, Df.eLen, Df.one, Df.two, Df.nrm, Df.gt, Df.dat, Df.seqL, Df.seqD, Df.eIxL, Df.eIxT, Df.eMaxL, Df.eMinL, Df.eI2, Df.eI1, Df.eLend, Df.lendE, Df.lendL, List.set]
      refine ⟨⟨by omega, by omega⟩, ?_⟩
      refine forRx 0 _ (fun i ρ => ∃ (ws : List (List Int)) (v6 v7 v8 v9 v10 v11 v12 : Lo), ρ = [.src, .sh (.int (n : Int)), .sh (dLI base), .sh (.lst (rs.map dR)), .sh (.int reach), .ow (ws.map dLI), v6, v7, v8, v9, v10, v11, v12] ∧ ws.length ≤ 150 + i) ⟨ws, _, _, _, _, _, _, _, rfl, by omega⟩ ?_ ?_
      · rintro i ρ hi ⟨ws, v6, v7, v8, v9, v10, v11, v12, rfl, hws⟩
        dsimp only [Df.dgN, Df.sSeq, Df.sAsg, Df.sAsgO, Df.sMove, Df.sNext, Df.sRet, Df.eVar, Df.eVarF, Df.eC, Df.oI, Df.oU, Df.aCons, Df.aNil, Df.eCat, Df.eSum, Df.eMaxL, Df.eMinL, Df.eSorted, Df.eList, Df.eTuple, Df.eLz, Df.eLen, Df.eIndex, Df.one, Df.two, Df.nrm, Df.gt, List.set, Df.padE, Df.dat, Df.argL, Df.seqL, Df.seqD, Df.eLst, Df.eTup, Df.shs, Option.map, Df.eSlT, Df.eSlA, Df.sExt, Df.sStL, Df.sUpd, Df.sDrop, Df.sRetN, Df.eIsi, Df.eNot, Df.eIf, Df.eLrg, Df.eMeth, Df.eMake, Df.eCallL, Df.eMakeL, Df.eMethL, Df.eFld, Df.oEqD, Df.oIn, Df.eDGet, Df.dTr, Df.truD, Df.sAugL, Df.sAug, Df.sFldS, Df.iE, Df.iZ, Df.eMaxL, Df.eSortedD, Df.sCut, Df.eVarT, Df.eVarM, Df.eMov, Df.sAppT, Df.sStT, Df.skq, Df.trq, Df.trqs, Df.mvq, Df.eIxLK, Df.eIxTK, Df.skl, Df.eLstT, Df.eTupT, Df.aConsT, Df.sAsgG, Df.dgT, Df.dgCons, Df.dgNil, Df.eChain, Df.eAnd, Df.eOr, Df.oEq, Df.eFld, Df.dOr, Df.dAnd, Df.dOrB, Df.dAndB, Df.eInt, Df.eSlL, Df.oSo, Df.oNo, Df.eI2, Df.eI1, Df.oIs, Df.sIf, Df.eIxQ, Df.iT, Df.dYes, Df.sNever, Df.sCut, Df.eGenB, Df.genE, Df.noE, Df.capE, Df.capL, Df.lendL, Df.lendE, Df.eLend, Df.dLend, Df.eLendN, Df.lndE, Df.lndL, Df.lnX, Df.lnx, List.cons_append, List.nil_append, Df.eIxT, Df.eIxL, Df.eCall, Df.eCallB, Df.oC, Df.dNot, Df.dB, Df.sApp, Df.sStD, Df.eDIn, Df.eDisp1, Df.eLenD]
        refine ⟨_, atG (i := 0) (Int.le_refl _) (by omega), (Nat.le_of_ble_eq_true rfl), ?_⟩
        refine (show Df.iL _ _ _ from ?_)
        dsimp only [Df.iL, Df.eSlL, Df.oNo, Df.oSo, Df.eC, Df.eVar, Df.gt, Df.dat, Df.nrm, List.set, dLI]
        rw [show cutL (base.map Dt.int) (some 1) none = (base.drop 1).map Dt.int from by rw [cut_from _ (by decide), List.map_drop]; rfl]
        refine forEx Dt.int (base.drop 1) (fun j ρ => ∃ (w : List Int) (v6 : Lo), ρ = [.src, .sh (.int (n : Int)), .sh (dLI base), .sh (.lst (rs.map dR)), .sh (.int reach), .ow (ws.map dLI), v6, v7, v8, v9, v10, .sh (.int (0 + (i : Int))), .ow (w.map Dt.int)] ∧ w.length = 1 + j) ⟨[base.getD (Int.toNat 0) 0], _, rfl, rfl⟩ ?_ ?_
        · rintro j x ρ hx ⟨w, v6, rfl, hw⟩
          have hj : j < n := by have := (List.getElem?_eq_some_iff.mp hx).1; rw [List.length_drop] at this; omega
          dsimp only [Df.dgN, Df.sSeq, Df.sAsg, Df.sAsgO, Df.sMove, Df.sNext, Df.sRet, Df.eVar, Df.eVarF, Df.eC, Df.oI, Df.oU, Df.aCons, Df.aNil, Df.eCat, Df.eSum, Df.eMaxL, Df.eMinL, Df.eSorted, Df.eList, Df.eTuple, Df.eLz, Df.eLen, Df.eIndex, Df.one, Df.two, Df.nrm, Df.gt, List.set, Df.padE, Df.dat, Df.argL, Df.seqL, Df.seqD, Df.eLst, Df.eTup, Df.shs, Option.map, Df.eSlT, Df.eSlA, Df.sExt, Df.sStL, Df.sUpd, Df.sDrop, Df.sRetN, Df.eIsi, Df.eNot, Df.eIf, Df.eLrg, Df.eMeth, Df.eMake, Df.eCallL, Df.eMakeL, Df.eMethL, Df.eFld, Df.oEqD, Df.oIn, Df.eDGet, Df.dTr, Df.truD, Df.sAugL, Df.sAug, Df.sFldS, Df.iE, Df.iZ, Df.eMaxL, Df.eSortedD, Df.sCut, Df.eVarT, Df.eVarM, Df.eMov, Df.sAppT, Df.sStT, Df.skq, Df.trq, Df.trqs, Df.mvq, Df.eIxLK, Df.eIxTK, Df.skl, Df.eLstT, Df.eTupT, Df.aConsT, Df.sAsgG, Df.dgT, Df.dgCons, Df.dgNil, Df.eChain, Df.eAnd, Df.eOr, Df.oEq, Df.eFld, Df.dOr, Df.dAnd, Df.dOrB, Df.dAndB, Df.eInt, Df.eSlL, Df.oSo, Df.oNo, Df.eI2, Df.eI1, Df.oIs, Df.sIf, Df.eIxQ, Df.iT, Df.dYes, Df.sNever, Df.sCut, Df.eGenB, Df.genE, Df.noE, Df.capE, Df.capL, Df.lendL, Df.lendE, Df.eLend, Df.dLend, Df.eLendN, Df.lndE, Df.lndL, Df.lnX, Df.lnx, List.cons_append, List.nil_append, Df.eIxT, Df.eIxL, Df.eCall, Df.eCallB, Df.oC, Df.dNot, Df.dB, Df.sApp, Df.sStD, Df.eDIn, Df.eDisp1, Df.eLenD]
          exact ⟨_, rfl, by decide, fun g g0 g1 => ⟨by rw [List.length_map]; omega, w ++ [x - 2 + g], _, by rw [List.map_append]; rfl, by rw [List.length_append, List.length_singleton]; omega⟩⟩
        · rintro ρ ⟨w, v6, rfl, hw⟩
          dsimp only [Df.dgN, Df.sSeq, Df.sAsg, Df.sAsgO, Df.sMove, Df.sNext, Df.sRet, Df.eVar, Df.eVarF, Df.eC, Df.oI, Df.oU, Df.aCons, Df.aNil, Df.eCat, Df.eSum, Df.eMaxL, Df.eMinL, Df.eSorted, Df.eList, Df.eTuple, Df.eLz, Df.eLen, Df.eIndex, Df.one, Df.two, Df.nrm, Df.gt, List.set, Df.padE, Df.dat, Df.argL, Df.seqL, Df.seqD, Df.eLst, Df.eTup, Df.shs, Option.map, Df.eSlT, Df.eSlA, Df.sExt, Df.sStL, Df.sUpd, Df.sDrop, Df.sRetN, Df.eIsi, Df.eNot, Df.eIf, Df.eLrg, Df.eMeth, Df.eMake, Df.eCallL, Df.eMakeL, Df.eMethL, Df.eFld, Df.oEqD, Df.oIn, Df.eDGet, Df.dTr, Df.truD, Df.sAugL, Df.sAug, Df.sFldS, Df.iE, Df.iZ, Df.eMaxL, Df.eSortedD, Df.sCut, Df.eVarT, Df.eVarM, Df.eMov, Df.sAppT, Df.sStT, Df.skq, Df.trq, Df.trqs, Df.mvq, Df.eIxLK, Df.eIxTK, Df.skl, Df.eLstT, Df.eTupT, Df.aConsT, Df.sAsgG, Df.dgT, Df.dgCons, Df.dgNil, Df.eChain, Df.eAnd, Df.eOr, Df.oEq, Df.eFld, Df.dOr, Df.dAnd, Df.dOrB, Df.dAndB, Df.eInt, Df.eSlL, Df.oSo, Df.oNo, Df.eI2, Df.eI1, Df.oIs, Df.sIf, Df.eIxQ, Df.iT, Df.dYes, Df.sNever, Df.sCut, Df.eGenB, Df.genE, Df.noE, Df.capE, Df.capL, Df.lendL, Df.lendE, Df.eLend, Df.dLend, Df.eLendN, Df.lndE, Df.lndL, Df.lnX, Df.lnx, List.cons_append, List.nil_append, Df.eIxT, Df.eIxL, Df.eCall, Df.eCallB, Df.oC, Df.dNot, Df.dB, Df.sApp, Df.sStD, Df.eDIn, Df.eDisp1, Df.eLenD]
          exact ⟨by rw [List.length_map]; omega, ws ++ [w], _, _, _, _, _, _, _, by rw [List.map_append]; rfl, by rw [List.length_append, List.length_singleton]; omega⟩
      · rintro ρ ⟨ws, v6, v7, v8, v9, v10, v11, v12, rfl, hws⟩
        dsimp only [Df.dgN, Df.sSeq, Df.sAsg, Df.sAsgO, Df.sMove, Df.sNext, Df.sRet, Df.eVar, Df.eVarF, Df.eC, Df.oI, Df.oU, Df.aCons, Df.aNil, Df.eCat, Df.eSum, Df.eMaxL, Df.eMinL, Df.eSorted, Df.eList, Df.eTuple, Df.eLz, Df.eLen, Df.eIndex, Df.one, Df.two, Df.nrm, Df.gt, List.set, Df.padE, Df.dat, Df.argL, Df.seqL, Df.seqD, Df.eLst, Df.eTup, Df.shs, Option.map, Df.eSlT, Df.eSlA, Df.sExt, Df.sStL, Df.sUpd, Df.sDrop, Df.sRetN, Df.eIsi, Df.eNot, Df.eIf, Df.eLrg, Df.eMeth, Df.eMake, Df.eCallL, Df.eMakeL, Df.eMethL, Df.eFld, Df.oEqD, Df.oIn, Df.eDGet, Df.dTr, Df.truD, Df.sAugL, Df.sAug, Df.sFldS, Df.iE, Df.iZ, Df.eMaxL, Df.eSortedD, Df.sCut, Df.eVarT, Df.eVarM, Df.eMov, Df.sAppT, Df.sStT, Df.skq, Df.trq, Df.trqs, Df.mvq, Df.eIxLK, Df.eIxTK, Df.skl, Df.eLstT, Df.eTupT, Df.aConsT, Df.sAsgG, Df.dgT, Df.dgCons, Df.dgNil, Df.eChain, Df.eAnd, Df.eOr, Df.oEq, Df.eFld, Df.dOr, Df.dAnd, Df.dOrB, Df.dAndB, Df.eInt, Df.eSlL, Df.oSo, Df.oNo, Df.eI2, Df.eI1, Df.oIs, Df.sIf, Df.eIxQ, Df.iT, Df.dYes, Df.sNever, Df.sCut, Df.eGenB, Df.genE, Df.noE, Df.capE, Df.capL, Df.lendL, Df.lendE, Df.eLend, Df.dLend, Df.eLendN, Df.lndE, Df.lndL, Df.lnX, Df.lnx, List.cons_append, List.nil_append, Df.eIxT, Df.eIxL, Df.eCall, Df.eCallB, Df.oC, Df.dNot, Df.dB, Df.sApp, Df.sStD, Df.eDIn, Df.eDisp1, Df.eLenD]
        refine ⟨fun ρ => ∃ (ws : List (List Int)), ρ = [.src, .sh (.int (n : Int)), .sh (dLI base), .sh (.lst (rs.map dR)), .sh (.int reach), .ow (ws.map dLI), v6, v7, v8, v9, v10, v11, v12], ⟨_, fun _ => ⟨rfl, rfl⟩, fun h => ?_, fun h => ⟨ws, rfl⟩⟩, ?_⟩
        · simp only [Bool.and_eq_true, decide_eq_true_eq] at h
          refine ⟨n, base, rs, rfl, ⟨h.2 ▸ ok, n1, by omega⟩, fun us hu => ⟨by rw [List.length_map, List.length_map]; have : ws.length ≤ 150 + 4 := hws; omega, ws ++ us, by rw [List.map_append]⟩⟩
        · rintro ρ ⟨ws, rfl⟩
          dsimp only [Df.dgN, Df.sSeq, Df.sAsg, Df.sAsgO, Df.sMove, Df.sNext, Df.sRet, Df.eVar, Df.eVarF, Df.eC, Df.oI, Df.oU, Df.aCons, Df.aNil, Df.eCat, Df.eSum, Df.eMaxL, Df.eMinL, Df.eSorted, Df.eList, Df.eTuple, Df.eLz, Df.eLen, Df.eIndex, Df.one, Df.two, Df.nrm, Df.gt, List.set, Df.padE, Df.dat, Df.argL, Df.seqL, Df.seqD, Df.eLst, Df.eTup, Df.shs, Option.map, Df.eSlT, Df.eSlA, Df.sExt, Df.sStL, Df.sUpd, Df.sDrop, Df.sRetN, Df.eIsi, Df.eNot, Df.eIf, Df.eLrg, Df.eMeth, Df.eMake, Df.eCallL, Df.eMakeL, Df.eMethL, Df.eFld, Df.oEqD, Df.oIn, Df.eDGet, Df.dTr, Df.truD, Df.sAugL, Df.sAug, Df.sFldS, Df.iE, Df.iZ, Df.eMaxL, Df.eSortedD, Df.sCut, Df.eVarT, Df.eVarM, Df.eMov, Df.sAppT, Df.sStT, Df.skq, Df.trq, Df.trqs, Df.mvq, Df.eIxLK, Df.eIxTK, Df.skl, Df.eLstT, Df.eTupT, Df.aConsT, Df.sAsgG, Df.dgT, Df.dgCons, Df.dgNil, Df.eChain, Df.eAnd, Df.eOr, Df.oEq, Df.eFld, Df.dOr, Df.dAnd, Df.dOrB, Df.dAndB, Df.eInt, Df.eSlL, Df.oSo, Df.oNo, Df.eI2, Df.eI1, Df.oIs, Df.sIf, Df.eIxQ, Df.iT, Df.dYes, Df.sNever, Df.sCut, Df.eGenB, Df.genE, Df.noE, Df.capE, Df.capL, Df.lendL, Df.lendE, Df.eLend, Df.dLend, Df.eLendN, Df.lndE, Df.lndL, Df.lnX, Df.lnx, List.cons_append, List.nil_append, Df.eIxT, Df.eIxL, Df.eCall, Df.eCallB, Df.oC, Df.dNot, Df.dB, Df.sApp, Df.sStD, Df.eDIn, Df.eDisp1, Df.eLenD]
          exact k ws
theorem pick4 {p q r s d : Int} (d0 : 0 ≤ d) (d1 : d < 4) : ∃ x, atI [Dt.int p, Dt.int q, Dt.int r, Dt.int s] d = some (.int x) ∧ (x = p ∨ x = q ∨ x = r ∨ x = s) := by
  rcases (show d = 0 ∨ d = 1 ∨ d = 2 ∨ d = 3 by omega) with rfl | rfl | rfl | rfl
  · exact ⟨p, rfl, .inl rfl⟩
  · exact ⟨q, rfl, .inr (.inl rfl)⟩
  · exact ⟨r, rfl, .inr (.inr (.inl rfl))⟩
  · exact ⟨s, rfl, .inr (.inr (.inr rfl))⟩
theorem nds_dR (r : R4) : (dR r).nds = [] := by
  unfold dR
  rw [nds_tup, ndss_cons, ndss_cons, ndss_cons, ndss_cons, ndss_nil, nds_int, nds_int, nds_int, nds_int]
  rfl
theorem pur_dR (r : R4) : (dR r).pur = true := by
  unfold dR
  rw [pur_tup, purs_cons, purs_cons, purs_cons, purs_cons, purs_nil, pur_int, pur_int, pur_int, pur_int]
  rfl
theorem nds_row {n : Nat} {f : Nat → Int} : Dt.nds (.lst ((List.range n).map fun j => Dt.int (f j))) = [.lst ((List.range n).map fun j => Dt.int (f j))] := by
  rw [nds_lst, ndss_0 (f := fun j => Dt.int (f j)) fun x => nds_int _]
theorem ndss_mem {ds : List Dt} {x : Dt} : x ∈ Dt.ndss ds → ∃ d, d ∈ ds ∧ x ∈ d.nds := by
  induction ds with
  | nil => intro m; rw [ndss_nil] at m; exact nomatch m
  | cons y ds ih =>
    intro m
    rw [ndss_cons] at m
    rcases List.mem_append.mp m with m | m
    · exact ⟨y, List.mem_cons_self, m⟩
    · obtain ⟨d, h1, h2⟩ := ih m
      exact ⟨d, List.mem_cons_of_mem _ h1, h2⟩
theorem purs_all {ds : List Dt} (h : ∀ d, d ∈ ds → d.pur = true) : Dt.purs ds = true := by
  induction ds with
  | nil => exact purs_nil
  | cons y ds ih => rw [purs_cons, h y List.mem_cons_self, ih fun d m => h d (List.mem_cons_of_mem _ m)]; rfl
theorem frame_apart {C : Addr} {n : Nat} {rs : List R4} {Tb : Nat → Nat → Int} (n1 : 1 ≤ n) : Apart (Dt.nds (.lst (rs.map dR)) ++ []) [dFrame C n rs (.lst (tblD n Tb))] := by
  have hX : ∀ x, x ∈ Dt.nds (.lst (rs.map dR)) ++ [] → x = .lst (rs.map dR) := fun x m => by
    rw [List.append_nil, nds_lst, ndss_0 nds_dR] at m
    exact List.mem_singleton.mp m
  have rows : ∀ d, d ∈ tblD n Tb → ∃ i, d = .lst ((List.range n).map fun j => Dt.int (Tb i j)) := fun d m => by
    obtain ⟨i, _, rfl⟩ := List.mem_map.mp m
    exact ⟨i, rfl⟩
  obtain ⟨m, rfl⟩ : ∃ m, n = m + 1 := ⟨n - 1, by omega⟩
  refine ⟨fun x m => by rw [hX x m, pur_lst, purs_1 pur_dR], ?_, fun x m m2 => ?_⟩
  · unfold dFrame
    rw [purs_cons, purs_nil, pur_ins, purs_cons, purs_cons, purs_cons, purs_nil, pur_int, pur_tup, purs_1 pur_dR, pur_lst, purs_all fun d m => by
      obtain ⟨i, rfl⟩ := rows d m
      rw [pur_lst]
      exact purs_1 (f := fun j => Dt.int (Tb i j)) (fun x => pur_int _) _]
    rfl
  · rw [hX x m2] at m
    obtain ⟨d, md, m⟩ := ndss_mem m
    rw [List.mem_singleton.mp md] at m
    unfold dFrame at m
    rw [nds_ins] at m
    obtain ⟨d, md, m⟩ := ndss_mem m
    rcases List.mem_cons.mp md with rfl | md
    · rw [nds_int] at m; exact nomatch m
    rcases List.mem_cons.mp md with rfl | md
    · rw [nds_tup, ndss_0 nds_dR] at m; exact nomatch m
    rw [List.mem_singleton.mp md, nds_lst] at m
    rcases List.mem_cons.mp m with e | m
    · injection e with e
      unfold tblD at e
      rw [List.range_succ_eq_map, List.map_cons] at e
      cases rs with
      | nil => cases e
      | cons r rs => rw [List.map_cons] at e; injection e with e1 _; unfold dR at e1; cases e1
    · obtain ⟨d, md, m⟩ := ndss_mem m
      obtain ⟨i, rfl⟩ := rows d md
      rw [nds_row] at m
      injection List.mem_singleton.mp m with e
      rw [List.range_succ_eq_map, List.map_cons] at e
      cases rs with
      | nil => cases e
      | cons r rs => rw [List.map_cons] at e; injection e with e1 _; unfold dR at e1; cases e1
theorem OkRules.good {n : Nat} {reach : Int} {base : List Int} {rs : List R4} (h : OkRules n reach base rs) (n1 : 1 ≤ n) (n16 : n ≤ 16) : Good n rs ∧ ∃ w, SatW rs w := ⟨⟨n1, n16, h.num, h.ok, h.sp⟩, fun i => base.getD i 0, fun r m => ⟨(h.fit r m).1, (h.fit r m).2.1⟩⟩
theorem ok_law (T : Txt P K mg) (B : Tb T base) : FnOk P w K mg base CX0 7 T.a_law T.d_law ["_law_script"] (spOf K T.tb cLaw) := by
  refine T.F_law.ok sc_law (fun vs H Q E h => spOf_len h (by rintro ls Qd ⟨ns, rfl, _⟩; rfl)) (fun cdv A outer s H vs Q E hr h => ?_)
  refine ⟨_, (pss_cons (ps_set (i := 1) sc_law.nd rfl (Or.inl rfl) (pe_call (ok_law_source T B) (hr.mono (by decide)) (by rfl) T.m_law_source T.F_law_source.kp T.b_law_source .nil pass0 (pa_cons (pv 0) (pa_cons pe_int pa_nil)))) (pss_cons (ps_set (i := 2) sc_law.nd rfl (Or.inl rfl) (pe_lst (pa_cons (pe_op op_add pe_int (pe_call (ok_law_draw T B) (hr.mono (by decide)) (by rfl) T.m_law_draw T.F_law_draw.kp T.b_law_draw .nil pass0 (pa_cons (pv 1) (pa_cons pe_int pa_nil)))) (pa_cons (pe_op op_add pe_int (pe_call (ok_law_draw T B) (hr.mono (by decide)) (by rfl) T.m_law_draw T.F_law_draw.kp T.b_law_draw .nil pass0 (pa_cons (pv 1) (pa_cons pe_int pa_nil)))) pa_nil)))) (pss_cons (ps_set (i := 3) sc_law.nd rfl (Or.inl rfl) (pe_ix ix_list (pe_lst (pa_cons pe_int (pa_cons pe_int (pa_cons pe_int (pa_cons (pe_op op_pow pe_int pe_int) pa_nil))))) (pe_call (ok_law_draw T B) (hr.mono (by decide)) (by rfl) T.m_law_draw T.F_law_draw.kp T.b_law_draw .nil pass0 (pa_cons (pv 1) (pa_cons pe_int pa_nil))) (fun _ _ => rfl))) (pss_cons (ps_set (i := 4) sc_law.nd rfl (Or.inl rfl) (pe_ix ix_list (pe_lst (pa_cons pe_int (pa_cons pe_int (pa_cons pe_int (pa_cons (pe_op op_pow pe_int pe_int) pa_nil))))) (pe_call (ok_law_draw T B) (hr.mono (by decide)) (by rfl) T.m_law_draw T.F_law_draw.kp T.b_law_draw .nil pass0 (pa_cons (pv 1) (pa_cons pe_int pa_nil))) (fun _ _ => rfl))) (pss_cons (ps_if (pt_cmpR op_eq (pe_call (ok_law_draw T B) (hr.mono (by decide)) (by rfl) T.m_law_draw T.F_law_draw.kp T.b_law_draw .nil pass0 (pa_cons (pv 1) (pa_cons pe_int pa_nil))) pe_int (nomark _)) (pss_cons (ps_asg (pe_op op_add pe_int (pe_call (ok_law_draw T B) (hr.mono (by decide)) (by rfl) T.m_law_draw T.F_law_draw.kp T.b_law_draw .nil pass0 (pa_cons (pv 1) (pa_cons pe_int pa_nil)))) (pg_sub (pv 2) pe_int set_list)) (pss_one (ps_set (i := 3) sc_law.nd rfl (Or.inl rfl) (pe_callB (call_min2 rfl) (by rfl) T.z_min (by decide +kernel) (pa_cons (pv 3) (pa_cons (pe_op op_pow pe_int pe_int) pa_nil)))))) pss_nil) (pss_cons (ps_set (i := 5) sc_law.nd rfl (Or.inl rfl) (pe_call (ok_law_rules T B) (hr.mono (by decide)) (by rfl) T.m_law_rules T.F_law_rules.kp T.b_law_rules .nil pass0 (pa_cons (pe_call (ok_law_source T B) (hr.mono (by decide)) (by rfl) T.m_law_source T.F_law_source.kp T.b_law_source .nil pass0 (pa_cons (pv 0) (pa_cons pe_int pa_nil))) (pa_cons (pe_ix ix_list (pv 2) pe_int (fun _ _ => rfl)) (pa_cons (pv 4) (pa_cons (pv 3) pa_nil)))))) (pss_cons (ps_set (i := 6) sc_law.nd rfl (Or.inl rfl) (pe_call (ok_law_rules T B) (hr.mono (by decide)) (by rfl) T.m_law_rules T.F_law_rules.kp T.b_law_rules .nil pass0 (pa_cons (pe_call (ok_law_source T B) (hr.mono (by decide)) (by rfl) T.m_law_source T.F_law_source.kp T.b_law_source .nil pass0 (pa_cons (pv 0) (pa_cons pe_int pa_nil))) (pa_cons (pe_ix ix_list (pv 2) pe_int (fun _ _ => rfl)) (pa_cons pe_int (pa_cons pe_int pa_nil)))))) (pss_cons (ps_if (pt_cmpR op_gt (pe_ix ix_list (pv 2) pe_int (fun _ _ => rfl)) pe_int (nomark _)) (pss_one (ps_set (i := 5) sc_law.nd rfl (Or.inl rfl) (pe_lst (pa_cons (pe_ix ix_list (pv 5) pe_int (fun _ _ => rfl)) (pa_cons (pe_op op_cat (pe_ix ix_list (pv 5) pe_int (fun _ _ => rfl)) (pe_call (ok_law_more_rules T B) (hr.mono (by decide)) (by rfl) T.m_law_more_rules T.F_law_more_rules.kp T.b_law_more_rules .nil pass0 (pa_cons (pe_call (ok_law_source T B) (hr.mono (by decide)) (by rfl) T.m_law_source T.F_law_source.kp T.b_law_source .nil pass0 (pa_cons (pv 0) (pa_cons pe_int pa_nil))) (pa_cons (pe_ix ix_list (pv 2) pe_int (fun _ _ => rfl)) (pa_cons (pe_ix ix_list (pv 5) pe_int (fun _ _ => rfl)) (pa_cons (pv 4) pa_nil)))))) pa_nil))))) pss_nil) (pss_cons (ps_set (i := 7) sc_law.nd rfl (Or.inl rfl) (pe_callTy call_list_of (by rfl) T.z_list (by decide +kernel) (pa_cons (pe_ix ix_list (pv 5) pe_int (fun _ _ => rfl)) pa_nil))) (pss_cons (ps_set (i := 8) sc_law.nd rfl (Or.inl rfl) (pe_make T.mk_Frame (ok_FrameI__initI T B) (hr.mono (by decide)) (by rfl) T.m_Frame T.b_FrameI__initI .nil pass0 (pa_cons (pe_ix ix_list (pv 2) pe_int (fun _ _ => rfl)) (pa_cons (pv 7) pa_nil)))) (pss_cons (ps_set (i := 9) sc_law.nd rfl (Or.inl rfl) (pe_make T.mk_Frame (ok_FrameI__initI T B) (hr.mono (by decide)) (by rfl) T.m_Frame T.b_FrameI__initI .nil pass0 (pa_cons (pe_ix ix_list (pv 2) pe_int (fun _ _ => rfl)) (pa_cons (pe_callTy call_tuple_of (by rfl) T.z_tuple (by decide +kernel) (pa_cons (pe_ix ix_list (pv 6) pe_int (fun _ _ => rfl)) pa_nil)) pa_nil)))) (pss_cons (ps_set (i := 10) sc_law.nd rfl (Or.inl rfl) (pe_call (ok_law_source T B) (hr.mono (by decide)) (by rfl) T.m_law_source T.F_law_source.kp T.b_law_source .nil pass0 (pa_cons (pv 0) (pa_cons pe_int pa_nil)))) (pss_cons (ps_set (i := 11) sc_law.nd rfl (Or.inl rfl) (pe_call (ok_law_lists T B) (hr.mono (by decide)) (by rfl) T.m_law_lists T.F_law_lists.kp T.b_law_lists .nil pass0 (pa_cons (pv 10) (pa_cons (pe_ix ix_list (pv 2) pe_int (fun _ _ => rfl)) (pa_cons (pe_ix ix_list (pv 5) pe_int (fun _ _ => rfl)) (pa_cons (pe_ix ix_list (pv 5) pe_int (fun _ _ => rfl)) (pa_cons (pv 4) pa_nil))))))) (pss_cons (ps_set (i := 12) sc_law.nd rfl (Or.inl rfl) (pe_call (ok_law_lists T B) (hr.mono (by decide)) (by rfl) T.m_law_lists T.F_law_lists.kp T.b_law_lists .nil pass0 (pa_cons (pv 10) (pa_cons (pe_ix ix_list (pv 2) pe_int (fun _ _ => rfl)) (pa_cons (pe_ix ix_list (pv 6) pe_int (fun _ _ => rfl)) (pa_cons (pe_ix ix_list (pv 6) pe_int (fun _ _ => rfl)) (pa_cons pe_int pa_nil))))))) (pss_cons (ps_if (PW.pt (pw_or (pt_not (pt_val (pe_call (ok_law_asked T B) (hr.mono (by decide)) (by rfl) T.m_law_asked T.F_law_asked.kp T.b_law_asked .nil pass0 (pa_cons (pv 8) (pa_cons (pe_ix ix_list (pv 2) pe_int (fun _ _ => rfl)) (pa_cons (pe_ix ix_list (pv 5) pe_int (fun _ _ => rfl)) (pa_cons (pv 11) pa_nil))))))) (pw_or1 (pt_not (pt_val (pe_call (ok_law_asked T B) (hr.mono (by decide)) (by rfl) T.m_law_asked T.F_law_asked.kp T.b_law_asked .nil pass0 (pa_cons (pv 9) (pa_cons (pe_ix ix_list (pv 2) pe_int (fun _ _ => rfl)) (pa_cons (pe_ix ix_list (pv 6) pe_int (fun _ _ => rfl)) (pa_cons (pv 12) pa_nil)))))))))) (pss_one (ps_ret pe_bl)) pss_nil) (pss_cons (ps_expr (pe_bm PySem.F.plainAttrs_list PySem.F.slot_list_append PySem.F.type_list_append mt_append (pv 7) (pa_cons (pe_tup (pa_cons pe_int (pa_cons pe_int (pa_cons pe_int (pa_cons pe_int pa_nil))))) pa_nil))) (pss_cons (ps_asg (pe_tup (pa_cons pe_int (pa_cons pe_int (pa_cons pe_int (pa_cons pe_int pa_nil))))) (pg_sub (pv 7) pe_int set_list)) (pss_cons (ps_if (PW.pt (pw_or (pt_not (pt_val (pe_call (ok_law_asked T B) (hr.mono (by decide)) (by rfl) T.m_law_asked T.F_law_asked.kp T.b_law_asked .nil pass0 (pa_cons (pv 8) (pa_cons (pe_ix ix_list (pv 2) pe_int (fun _ _ => rfl)) (pa_cons (pe_ix ix_list (pv 5) pe_int (fun _ _ => rfl)) (pa_cons (pv 12) pa_nil))))))) (pw_or1 (pt_not (pt_val (pe_call (ok_law_asked T B) (hr.mono (by decide)) (by rfl) T.m_law_asked T.F_law_asked.kp T.b_law_asked .nil pass0 (pa_cons (pv 9) (pa_cons (pe_ix ix_list (pv 2) pe_int (fun _ _ => rfl)) (pa_cons (pe_ix ix_list (pv 6) pe_int (fun _ _ => rfl)) (pa_cons (pv 11) pa_nil)))))))))) (pss_one (ps_ret pe_bl)) pss_nil) (pss_one (ps_ret (pe_call (ok_law_asked T B) (hr.mono (by decide)) (by rfl) T.m_law_asked T.F_law_asked.kp T.b_law_asked .nil pass0 (pa_cons (pv 8) (pa_cons (pe_ix ix_list (pv 2) pe_int (fun _ _ => rfl)) (pa_cons (pe_ix ix_list (pv 5) pe_int (fun _ _ => rfl)) (pa_cons (pv 11) pa_nil))))))))))))))))))))))))), ?_⟩
  refine df_body (m := 13) (ls_seq (ls_asgO (i := 1) (le_call0 (la_cons (le_var (i := 0)) (la_cons le_int la_nil)))) (ls_seq (ls_asgO (i := 2) (le_lst (la_cons (le_add le_int (le_call0 (la_cons (le_var (i := 1)) (la_cons le_int la_nil)))) (la_cons (le_add le_int (le_call0 (la_cons (le_var (i := 1)) (la_cons le_int la_nil)))) la_nil)))) (ls_seq (ls_asg (i := 3) (le_ixL (le_lst (la_cons le_int (la_cons le_int (la_cons le_int (la_cons (le_pow le_int le_int) la_nil))))) (le_call0 (la_cons (le_var (i := 1)) (la_cons le_int la_nil))))) (ls_seq (ls_asg (i := 4) (le_ixL (le_lst (la_cons le_int (la_cons le_int (la_cons le_int (la_cons (le_pow le_int le_int) la_nil))))) (le_call0 (la_cons (le_var (i := 1)) (la_cons le_int la_nil))))) (ls_seq (ls_cut (ls_if (lt_T (le_eq (le_call0 (la_cons (le_var (i := 1)) (la_cons le_int la_nil))) le_int)) (ls_seq (ls_stL (i := 2) (le_add le_int (le_call0 (la_cons (le_var (i := 1)) (la_cons le_int la_nil)))) le_int) (ls_asg (i := 3) (le_min2 (la_cons (le_var (i := 3)) (la_cons (le_pow le_int le_int) la_nil))))) ls_next)) (ls_seq (ls_asg (i := 5) (le_call0 (la_cons (le_call0 (la_cons (le_var (i := 0)) (la_cons le_int la_nil))) (la_cons (le_ixL (le_var (i := 2)) le_int) (la_cons (le_var (i := 4)) (la_cons (le_var (i := 3)) la_nil)))))) (ls_seq (ls_asg (i := 6) (le_call0 (la_cons (le_call0 (la_cons (le_var (i := 0)) (la_cons le_int la_nil))) (la_cons (le_ixL (le_var (i := 2)) le_int) (la_cons le_int (la_cons le_int la_nil)))))) (ls_seq (ls_cut (ls_if (lt_T (le_gt (le_ixL (le_var (i := 2)) le_int) le_int)) (ls_asg (i := 5) (le_lst (la_cons (le_ixL (le_var (i := 5)) le_int) (la_cons (le_cat (le_ixL (le_var (i := 5)) le_int) (le_call0 (la_cons (le_call0 (la_cons (le_var (i := 0)) (la_cons le_int la_nil))) (la_cons (le_ixL (le_var (i := 2)) le_int) (la_cons (le_ixL (le_var (i := 5)) le_int) (la_cons (le_var (i := 4)) la_nil)))))) la_nil)))) ls_next)) (ls_seq (ls_asgO (i := 7) (le_list (la_cons (le_ixL (le_var (i := 5)) le_int) la_nil))) (ls_seq (ls_asg (i := 8) (le_makeL (fun _ => .nil) (la_cons (le_ixL (le_var (i := 2)) le_int) (la_cons (le_var (i := 7)) la_nil)))) (ls_seq (ls_asg (i := 9) (le_make0 (la_cons (le_ixL (le_var (i := 2)) le_int) (la_cons (le_tuple (la_cons (le_ixL (le_var (i := 6)) le_int) la_nil)) la_nil)))) (ls_seq (ls_asgO (i := 10) (le_call0 (la_cons (le_var (i := 0)) (la_cons le_int la_nil)))) (ls_seq (ls_asg (i := 11) (le_call0 (la_cons (le_var (i := 10)) (la_cons (le_ixL (le_var (i := 2)) le_int) (la_cons (le_ixL (le_var (i := 5)) le_int) (la_cons (le_ixL (le_var (i := 5)) le_int) (la_cons (le_var (i := 4)) la_nil))))))) (ls_seq (ls_asg (i := 12) (le_call0 (la_cons (le_var (i := 10)) (la_cons (le_ixL (le_var (i := 2)) le_int) (la_cons (le_ixL (le_var (i := 6)) le_int) (la_cons (le_ixL (le_var (i := 6)) le_int) (la_cons le_int la_nil))))))) (ls_seq (ls_if (lt_or (lt_not (lt_B (le_call0 (la_cons (le_var (i := 8)) (la_cons (le_ixL (le_var (i := 2)) le_int) (la_cons (le_ixL (le_var (i := 5)) le_int) (la_cons (le_var (i := 11)) la_nil))))))) (lt_not (lt_B (le_call0 (la_cons (le_var (i := 9)) (la_cons (le_ixL (le_var (i := 2)) le_int) (la_cons (le_ixL (le_var (i := 6)) le_int) (la_cons (le_var (i := 12)) la_nil)))))))) (ls_ret le_bl) ls_next) (ls_seq (ls_app (i := 7) (le_tup (la_cons le_int (la_cons le_int (la_cons le_int (la_cons le_int la_nil)))))) (ls_seq (ls_stL (i := 7) (le_tup (la_cons le_int (la_cons le_int (la_cons le_int (la_cons le_int la_nil))))) le_int) (ls_seq (ls_if (lt_or (lt_not (lt_B (le_call0 (la_cons (le_var (i := 8)) (la_cons (le_ixL (le_var (i := 2)) le_int) (la_cons (le_ixL (le_var (i := 5)) le_int) (la_cons (le_var (i := 12)) la_nil))))))) (lt_not (lt_B (le_call0 (la_cons (le_var (i := 9)) (la_cons (le_ixL (le_var (i := 2)) le_int) (la_cons (le_ixL (le_var (i := 6)) le_int) (la_cons (le_var (i := 11)) la_nil)))))))) (ls_ret le_bl) ls_next) (ls_ret (le_call0 (la_cons (le_var (i := 8)) (la_cons (le_ixL (le_var (i := 2)) le_int) (la_cons (le_ixL (le_var (i := 5)) le_int) (la_cons (le_var (i := 11)) la_nil)))))))))))))))))))))))) h rfl (Nat.le_trans (Nat.le_of_eq (spOf_len (n := 1) h (by rintro ls Qd ⟨ns, rfl, _⟩; rfl))) (by decide)) ?_
  clear h
  rintro ls Q ⟨ns, rfl, hn, k⟩
  refine seqE fun N hN => ?_
  dsimp only [Df.dgN, Df.sSeq, Df.sAsg, Df.sAsgO, Df.sMove, Df.sNext, Df.sRet, Df.eVar, Df.eVarF, Df.eC, Df.oI, Df.oU, Df.aCons, Df.aNil, Df.eCat, Df.eSum, Df.eMaxL, Df.eMinL, Df.eSorted, Df.eList, Df.eTuple, Df.eLz, Df.eLen, Df.eIndex, Df.one, Df.two, Df.nrm, Df.gt, List.set, Df.padE, Df.dat, Df.argL, Df.seqL, Df.seqD, Df.eLst, Df.eTup, Df.shs, Option.map, Df.eSlT, Df.eSlA, Df.sExt, Df.sStL, Df.sUpd, Df.sDrop, Df.sRetN, Df.eIsi, Df.eNot, Df.eIf, Df.eLrg, Df.eMeth, Df.eMake, Df.eCallL, Df.eMakeL, Df.eMethL, Df.eFld, Df.oEqD, Df.oIn, Df.eDGet, Df.dTr, Df.truD, Df.sAugL, Df.sAug, Df.sFldS, Df.iE, Df.iZ, Df.eMaxL, Df.eSortedD, Df.sCut, Df.eVarT, Df.eVarM, Df.eMov, Df.sAppT, Df.sStT, Df.skq, Df.trq, Df.trqs, Df.mvq, Df.eIxLK, Df.eIxTK, Df.skl, Df.eLstT, Df.eTupT, Df.aConsT, Df.sAsgG, Df.dgT, Df.dgCons, Df.dgNil, Df.eChain, Df.eAnd, Df.eOr, Df.oEq, Df.eFld, Df.dOr, Df.dAnd, Df.dOrB, Df.dAndB, Df.eInt, Df.eSlL, Df.oSo, Df.oNo, Df.eI2, Df.eI1, Df.oIs, Df.sIf, Df.eIxQ, Df.iT, Df.dYes, Df.sNever, Df.sCut, Df.eGenB, Df.genE, Df.noE, Df.capE, Df.capL, Df.lendL, Df.lendE, Df.eLend, Df.dLend, Df.eLendN, Df.lndE, Df.lndL, Df.lnX, Df.lnx, List.cons_append, List.nil_append, Df.eIxT, Df.eIxL, Df.eCall, Df.eCallB, Df.oC, Df.dNot, Df.dB, Df.sApp, Df.sStD, Df.eDIn, Df.eDisp1, Df.eLenD]
  refine ⟨ns, 0, rfl, Int.le_refl _, ?_⟩
  refine Eq.mpr (hN _) ?_
  clear hN N
  refine seqE fun N hN => ?_
  dsimp only [Df.dgN, Df.sSeq, Df.sAsg, Df.sAsgO, Df.sMove, Df.sNext, Df.sRet, Df.eVar, Df.eVarF, Df.eC, Df.oI, Df.oU, Df.aCons, Df.aNil, Df.eCat, Df.eSum, Df.eMaxL, Df.eMinL, Df.eSorted, Df.eList, Df.eTuple, Df.eLz, Df.eLen, Df.eIndex, Df.one, Df.two, Df.nrm, Df.gt, List.set, Df.padE, Df.dat, Df.argL, Df.seqL, Df.seqD, Df.eLst, Df.eTup, Df.shs, Option.map, Df.eSlT, Df.eSlA, Df.sExt, Df.sStL, Df.sUpd, Df.sDrop, Df.sRetN, Df.eIsi, Df.eNot, Df.eIf, Df.eLrg, Df.eMeth, Df.eMake, Df.eCallL, Df.eMakeL, Df.eMethL, Df.eFld, Df.oEqD, Df.oIn, Df.eDGet, Df.dTr, Df.truD, Df.sAugL, Df.sAug, Df.sFldS, Df.iE, Df.iZ, Df.eMaxL, Df.eSortedD, Df.sCut, Df.eVarT, Df.eVarM, Df.eMov, Df.sAppT, Df.sStT, Df.skq, Df.trq, Df.trqs, Df.mvq, Df.eIxLK, Df.eIxTK, Df.skl, Df.eLstT, Df.eTupT, Df.aConsT, Df.sAsgG, Df.dgT, Df.dgCons, Df.dgNil, Df.eChain, Df.eAnd, Df.eOr, Df.oEq, Df.eFld, Df.dOr, Df.dAnd, Df.dOrB, Df.dAndB, Df.eInt, Df.eSlL, Df.oSo, Df.oNo, Df.eI2, Df.eI1, Df.oIs, Df.sIf, Df.eIxQ, Df.iT, Df.dYes, Df.sNever, Df.sCut, Df.eGenB, Df.genE, Df.noE, Df.capE, Df.capL, Df.lendL, Df.lendE, Df.eLend, Df.dLend, Df.eLendN, Df.lndE, Df.lndL, Df.lnX, Df.lnx, List.cons_append, List.nil_append, Df.eIxT, Df.eIxL, Df.eCall, Df.eCallB, Df.oC, Df.dNot, Df.dB, Df.sApp, Df.sStD, Df.eDIn, Df.eDisp1, Df.eLenD]
  refine ⟨_, rfl, by decide, fun a a0 a1 => ⟨_, rfl, by decide, fun b b0 b1 => ⟨(Nat.le_of_ble_eq_true rfl), ?_⟩⟩⟩
  refine Eq.mpr (hN _) ?_
  clear hN N
  refine seqE fun N hN => ?_
  dsimp only [Df.dgN, Df.sSeq, Df.sAsg, Df.sAsgO, Df.sMove, Df.sNext, Df.sRet, Df.eVar, Df.eVarF, Df.eC, Df.oI, Df.oU, Df.aCons, Df.aNil, Df.eCat, Df.eSum, Df.eMaxL, Df.eMinL, Df.eSorted, Df.eList, Df.eTuple, Df.eLz, Df.eLen, Df.eIndex, Df.one, Df.two, Df.nrm, Df.gt, List.set, Df.padE, Df.dat, Df.argL, Df.seqL, Df.seqD, Df.eLst, Df.eTup, Df.shs, Option.map, Df.eSlT, Df.eSlA, Df.sExt, Df.sStL, Df.sUpd, Df.sDrop, Df.sRetN, Df.eIsi, Df.eNot, Df.eIf, Df.eLrg, Df.eMeth, Df.eMake, Df.eCallL, Df.eMakeL, Df.eMethL, Df.eFld, Df.oEqD, Df.oIn, Df.eDGet, Df.dTr, Df.truD, Df.sAugL, Df.sAug, Df.sFldS, Df.iE, Df.iZ, Df.eMaxL, Df.eSortedD, Df.sCut, Df.eVarT, Df.eVarM, Df.eMov, Df.sAppT, Df.sStT, Df.skq, Df.trq, Df.trqs, Df.mvq, Df.eIxLK, Df.eIxTK, Df.skl, Df.eLstT, Df.eTupT, Df.aConsT, Df.sAsgG, Df.dgT, Df.dgCons, Df.dgNil, Df.eChain, Df.eAnd, Df.eOr, Df.oEq, Df.eFld, Df.dOr, Df.dAnd, Df.dOrB, Df.dAndB, Df.eInt, Df.eSlL, Df.oSo, Df.oNo, Df.eI2, Df.eI1, Df.oIs, Df.sIf, Df.eIxQ, Df.iT, Df.dYes, Df.sNever, Df.sCut, Df.eGenB, Df.genE, Df.noE, Df.capE, Df.capL, Df.lendL, Df.lendE, Df.eLend, Df.dLend, Df.eLendN, Df.lndE, Df.lndL, Df.lnX, Df.lnx, List.cons_append, List.nil_append, Df.eIxT, Df.eIxL, Df.eCall, Df.eCallB, Df.oC, Df.dNot, Df.dB, Df.sApp, Df.sStD, Df.eDIn, Df.eDisp1, Df.eLenD]
  refine ⟨⟨by decide, by decide, by decide⟩, (Nat.le_of_ble_eq_true rfl), _, rfl, by decide, fun d d0 d1 => ?_⟩
  obtain ⟨x, hx, px⟩ := pick4 (p := 3) (q := 3) (r := 3) (s := 10 ^ Int.toNat 8) d0 d1
  have px : 0 ≤ x ∧ x ≤ 100000000 := by
    rw [show (10 : Int) ^ Int.toNat 8 = 100000000 by decide] at px; omega
  refine ⟨_, hx, ?_⟩
  refine Eq.mpr (hN _) ?_
  clear hN N
  clear hx d0 d1 d
  refine seqE fun N hN => ?_
  dsimp only [Df.dgN, Df.sSeq, Df.sAsg, Df.sAsgO, Df.sMove, Df.sNext, Df.sRet, Df.eVar, Df.eVarF, Df.eC, Df.oI, Df.oU, Df.aCons, Df.aNil, Df.eCat, Df.eSum, Df.eMaxL, Df.eMinL, Df.eSorted, Df.eList, Df.eTuple, Df.eLz, Df.eLen, Df.eIndex, Df.one, Df.two, Df.nrm, Df.gt, List.set, Df.padE, Df.dat, Df.argL, Df.seqL, Df.seqD, Df.eLst, Df.eTup, Df.shs, Option.map, Df.eSlT, Df.eSlA, Df.sExt, Df.sStL, Df.sUpd, Df.sDrop, Df.sRetN, Df.eIsi, Df.eNot, Df.eIf, Df.eLrg, Df.eMeth, Df.eMake, Df.eCallL, Df.eMakeL, Df.eMethL, Df.eFld, Df.oEqD, Df.oIn, Df.eDGet, Df.dTr, Df.truD, Df.sAugL, Df.sAug, Df.sFldS, Df.iE, Df.iZ, Df.eMaxL, Df.eSortedD, Df.sCut, Df.eVarT, Df.eVarM, Df.eMov, Df.sAppT, Df.sStT, Df.skq, Df.trq, Df.trqs, Df.mvq, Df.eIxLK, Df.eIxTK, Df.skl, Df.eLstT, Df.eTupT, Df.aConsT, Df.sAsgG, Df.dgT, Df.dgCons, Df.dgNil, Df.eChain, Df.eAnd, Df.eOr, Df.oEq, Df.eFld, Df.dOr, Df.dAnd, Df.dOrB, Df.dAndB, Df.eInt, Df.eSlL, Df.oSo, Df.oNo, Df.eI2, Df.eI1, Df.oIs, Df.sIf, Df.eIxQ, Df.iT, Df.dYes, Df.sNever, Df.sCut, Df.eGenB, Df.genE, Df.noE, Df.capE, Df.capL, Df.lendL, Df.lendE, Df.eLend, Df.dLend, Df.eLendN, Df.lndE, Df.lndL, Df.lnX, Df.lnx, List.cons_append, List.nil_append, Df.eIxT, Df.eIxL, Df.eCall, Df.eCallB, Df.oC, Df.dNot, Df.dB, Df.sApp, Df.sStD, Df.eDIn, Df.eDisp1, Df.eLenD]
  refine ⟨⟨by decide, by decide, by decide⟩, (Nat.le_of_ble_eq_true rfl), _, rfl, by decide, fun d d0 d1 => ?_⟩
  obtain ⟨y, hy, py⟩ := pick4 (p := 3) (q := 3) (r := 9) (s := 10 ^ Int.toNat 7) d0 d1
  have py : 0 ≤ y ∧ y ≤ 1000000000 := by
    rw [show (10 : Int) ^ Int.toNat 7 = 10000000 by decide] at py; omega
  refine ⟨_, hy, ?_⟩
  refine Eq.mpr (hN _) ?_
  clear hN N
  clear hy d0 d1 d
  refine seqE fun N hN => ?_
  dsimp only [Df.dgN, Df.sSeq, Df.sAsg, Df.sAsgO, Df.sMove, Df.sNext, Df.sRet, Df.eVar, Df.eVarF, Df.eC, Df.oI, Df.oU, Df.aCons, Df.aNil, Df.eCat, Df.eSum, Df.eMaxL, Df.eMinL, Df.eSorted, Df.eList, Df.eTuple, Df.eLz, Df.eLen, Df.eIndex, Df.one, Df.two, Df.nrm, Df.gt, List.set, Df.padE, Df.dat, Df.argL, Df.seqL, Df.seqD, Df.eLst, Df.eTup, Df.shs, Option.map, Df.eSlT, Df.eSlA, Df.sExt, Df.sStL, Df.sUpd, Df.sDrop, Df.sRetN, Df.eIsi, Df.eNot, Df.eIf, Df.eLrg, Df.eMeth, Df.eMake, Df.eCallL, Df.eMakeL, Df.eMethL, Df.eFld, Df.oEqD, Df.oIn, Df.eDGet, Df.dTr, Df.truD, Df.sAugL, Df.sAug, Df.sFldS, Df.iE, Df.iZ, Df.eMaxL, Df.eSortedD, Df.sCut, Df.eVarT, Df.eVarM, Df.eMov, Df.sAppT, Df.sStT, Df.skq, Df.trq, Df.trqs, Df.mvq, Df.eIxLK, Df.eIxTK, Df.skl, Df.eLstT, Df.eTupT, Df.aConsT, Df.sAsgG, Df.dgT, Df.dgCons, Df.dgNil, Df.eChain, Df.eAnd, Df.eOr, Df.oEq, Df.eFld, Df.dOr, Df.dAnd, Df.dOrB, Df.dAndB, Df.eInt, Df.eSlL, Df.oSo, Df.oNo, Df.eI2, Df.eI1, Df.oIs, Df.sIf, Df.eIxQ, Df.iT, Df.dYes, Df.sNever, Df.sCut, Df.eGenB, Df.genE, Df.noE, Df.capE, Df.capL, Df.lendL, Df.lendE, Df.eLend, Df.dLend, Df.eLendN, Df.lndE, Df.lndL, Df.lnX, Df.lnx, List.cons_append, List.nil_append, Df.eIxT, Df.eIxL, Df.eCall, Df.eCallB, Df.oC, Df.dNot, Df.dB, Df.sApp, Df.sStD, Df.eDIn, Df.eDisp1, Df.eLenD]
  refine ⟨fun ρ => ∃ (n : Nat) (x : Int), ρ = [.sh (.scr ns), .src, .ow [.int (n : Int), .int (1 + b)], .sh (.int x), .sh (.int y), .no, .no, .no, .no, .no, .no, .no, .no] ∧ (1 ≤ n ∧ n ≤ 16) ∧ 0 ≤ x ∧ x ≤ 100000000, ⟨_, rfl, by decide, fun d d0 d1 => ⟨fun h => ⟨_, rfl, by decide, fun e e0 e1 => ⟨0, rfl, ⟨by decide, by decide, by decide⟩, (6 + e).toNat, _, by rw [show (((6 + e).toNat : Nat) : Int) = 6 + e by omega]; rfl, ⟨by omega, by omega⟩, ?_⟩⟩, fun h => ⟨(1 + a).toNat, x, by rw [show (((1 + a).toNat : Nat) : Int) = 1 + a by omega], ⟨by omega, by omega⟩, px⟩⟩⟩, fun ρ h => ?_⟩
  · rw [show (10 : Int) ^ Int.toNat 7 = 10000000 by decide]
    split <;> omega
  refine Eq.mpr (hN _) ?_
  clear hN N
  obtain ⟨n, x, rfl, ⟨n1, n16⟩, x0, x1⟩ := h
  clear px
  refine seqE fun N hN => ?_
  dsimp only [Df.dgN, Df.sSeq, Df.sAsg, Df.sAsgO, Df.sMove, Df.sNext, Df.sRet, Df.eVar, Df.eVarF, Df.eC, Df.oI, Df.oU, Df.aCons, Df.aNil, Df.eCat, Df.eSum, Df.eMaxL, Df.eMinL, Df.eSorted, Df.eList, Df.eTuple, Df.eLz, Df.eLen, Df.eIndex, Df.one, Df.two, Df.nrm, Df.gt, List.set, Df.padE, Df.dat, Df.argL, Df.seqL, Df.seqD, Df.eLst, Df.eTup, Df.shs, Option.map, Df.eSlT, Df.eSlA, Df.sExt, Df.sStL, Df.sUpd, Df.sDrop, Df.sRetN, Df.eIsi, Df.eNot, Df.eIf, Df.eLrg, Df.eMeth, Df.eMake, Df.eCallL, Df.eMakeL, Df.eMethL, Df.eFld, Df.oEqD, Df.oIn, Df.eDGet, Df.dTr, Df.truD, Df.sAugL, Df.sAug, Df.sFldS, Df.iE, Df.iZ, Df.eMaxL, Df.eSortedD, Df.sCut, Df.eVarT, Df.eVarM, Df.eMov, Df.sAppT, Df.sStT, Df.skq, Df.trq, Df.trqs, Df.mvq, Df.eIxLK, Df.eIxTK, Df.skl, Df.eLstT, Df.eTupT, Df.aConsT, Df.sAsgG, Df.dgT, Df.dgCons, Df.dgNil, Df.eChain, Df.eAnd, Df.eOr, Df.oEq, Df.eFld, Df.dOr, Df.dAnd, Df.dOrB, Df.dAndB, Df.eInt, Df.eSlL, Df.oSo, Df.oNo, Df.eI2, Df.eI1, Df.oIs, Df.sIf, Df.eIxQ, Df.iT, Df.dYes, Df.sNever, Df.sCut, Df.eGenB, Df.genE, Df.noE, Df.capE, Df.capL, Df.lendL, Df.lendE, Df.eLend, Df.dLend, Df.eLendN, Df.lndE, Df.lndL, Df.lnX, Df.lnx, List.cons_append, List.nil_append, Df.eIxT, Df.eIxL, Df.eCall, Df.eCallB, Df.oC, Df.dNot, Df.dB, Df.sApp, Df.sStD, Df.eDIn, Df.eDisp1, Df.eLenD]
  refine ⟨ns, 1, rfl, by decide, _, rfl, n, y, x, rfl, ⟨⟨n1, n16⟩, py, x0, x1⟩, fun base rs ok hl => ?_⟩
  refine Eq.mpr (hN _) ?_
  clear hN N
  obtain ⟨m, hm⟩ : ∃ m : Nat, 1 + b = (m : Int) := ⟨(1 + b).toNat, by omega⟩
  rw [hm]
  have m1 : 1 ≤ m := by omega
  have m16 : m ≤ 16 := by omega
  clear a0 a1 a
  refine seqE fun N hN => ?_
  dsimp only [Df.dgN, Df.sSeq, Df.sAsg, Df.sAsgO, Df.sMove, Df.sNext, Df.sRet, Df.eVar, Df.eVarF, Df.eC, Df.oI, Df.oU, Df.aCons, Df.aNil, Df.eCat, Df.eSum, Df.eMaxL, Df.eMinL, Df.eSorted, Df.eList, Df.eTuple, Df.eLz, Df.eLen, Df.eIndex, Df.one, Df.two, Df.nrm, Df.gt, List.set, Df.padE, Df.dat, Df.argL, Df.seqL, Df.seqD, Df.eLst, Df.eTup, Df.shs, Option.map, Df.eSlT, Df.eSlA, Df.sExt, Df.sStL, Df.sUpd, Df.sDrop, Df.sRetN, Df.eIsi, Df.eNot, Df.eIf, Df.eLrg, Df.eMeth, Df.eMake, Df.eCallL, Df.eMakeL, Df.eMethL, Df.eFld, Df.oEqD, Df.oIn, Df.eDGet, Df.dTr, Df.truD, Df.sAugL, Df.sAug, Df.sFldS, Df.iE, Df.iZ, Df.eMaxL, Df.eSortedD, Df.sCut, Df.eVarT, Df.eVarM, Df.eMov, Df.sAppT, Df.sStT, Df.skq, Df.trq, Df.trqs, Df.mvq, Df.eIxLK, Df.eIxTK, Df.skl, Df.eLstT, Df.eTupT, Df.aConsT, Df.sAsgG, Df.dgT, Df.dgCons, Df.dgNil, Df.eChain, Df.eAnd, Df.eOr, Df.oEq, Df.eFld, Df.dOr, Df.dAnd, Df.dOrB, Df.dAndB, Df.eInt, Df.eSlL, Df.oSo, Df.oNo, Df.eI2, Df.eI1, Df.oIs, Df.sIf, Df.eIxQ, Df.iT, Df.dYes, Df.sNever, Df.sCut, Df.eGenB, Df.genE, Df.noE, Df.capE, Df.capL, Df.lendL, Df.lendE, Df.eLend, Df.dLend, Df.eLendN, Df.lndE, Df.lndL, Df.lnX, Df.lnx, List.cons_append, List.nil_append, Df.eIxT, Df.eIxL, Df.eCall, Df.eCallB, Df.oC, Df.dNot, Df.dB, Df.sApp, Df.sStD, Df.eDIn, Df.eDisp1, Df.eLenD]
  refine ⟨ns, 2, rfl, by decide, _, rfl, m, 3, 3, rfl, ⟨⟨m1, m16⟩, by decide, by decide, by decide⟩, fun base2 rs2 ok2 hl2 => ?_⟩
  refine Eq.mpr (hN _) ?_
  clear hN N
  refine seqE fun N hN => ?_
  dsimp only [Df.dgN, Df.sSeq, Df.sAsg, Df.sAsgO, Df.sMove, Df.sNext, Df.sRet, Df.eVar, Df.eVarF, Df.eC, Df.oI, Df.oU, Df.aCons, Df.aNil, Df.eCat, Df.eSum, Df.eMaxL, Df.eMinL, Df.eSorted, Df.eList, Df.eTuple, Df.eLz, Df.eLen, Df.eIndex, Df.one, Df.two, Df.nrm, Df.gt, List.set, Df.padE, Df.dat, Df.argL, Df.seqL, Df.seqD, Df.eLst, Df.eTup, Df.shs, Option.map, Df.eSlT, Df.eSlA, Df.sExt, Df.sStL, Df.sUpd, Df.sDrop, Df.sRetN, Df.eIsi, Df.eNot, Df.eIf, Df.eLrg, Df.eMeth, Df.eMake, Df.eCallL, Df.eMakeL, Df.eMethL, Df.eFld, Df.oEqD, Df.oIn, Df.eDGet, Df.dTr, Df.truD, Df.sAugL, Df.sAug, Df.sFldS, Df.iE, Df.iZ, Df.eMaxL, Df.eSortedD, Df.sCut, Df.eVarT, Df.eVarM, Df.eMov, Df.sAppT, Df.sStT, Df.skq, Df.trq, Df.trqs, Df.mvq, Df.eIxLK, Df.eIxTK, Df.skl, Df.eLstT, Df.eTupT, Df.aConsT, Df.sAsgG, Df.dgT, Df.dgCons, Df.dgNil, Df.eChain, Df.eAnd, Df.eOr, Df.oEq, Df.eFld, Df.dOr, Df.dAnd, Df.dOrB, Df.dAndB, Df.eInt, Df.eSlL, Df.oSo, Df.oNo, Df.eI2, Df.eI1, Df.oIs, Df.sIf, Df.eIxQ, Df.iT, Df.dYes, Df.sNever, Df.sCut, Df.eGenB, Df.genE, Df.noE, Df.capE, Df.capL, Df.lendL, Df.lendE, Df.eLend, Df.dLend, Df.eLendN, Df.lndE, Df.lndL, Df.lnX, Df.lnx, List.cons_append, List.nil_append, Df.eIxT, Df.eIxL, Df.eCall, Df.eCallB, Df.oC, Df.dNot, Df.dB, Df.sApp, Df.sStD, Df.eDIn, Df.eDisp1, Df.eLenD]
  refine ⟨fun ρ => ∃ rs' : List R4, ρ = [.sh (.scr ns), .src, .ow [.int (n : Int), .int (m : Int)], .sh (.int x), .sh (.int y), .sh (.lst [dLI base, .lst (rs'.map dR)]), .sh (.lst [dLI base2, .lst (rs2.map dR)]), .no, .no, .no, .no, .no, .no] ∧ OkRules n y base rs', ⟨_, rfl, fun h => ?_, fun h => ⟨rs, rfl, ok⟩⟩, fun ρ h => ?_⟩
  · have h := of_decide_eq_true h
    refine ⟨_, rfl, _, rfl, ns, 4, rfl, by decide, _, rfl, _, rfl, n, base, y, rfl, ⟨ok.len, by omega, n16, py⟩, fun rs3 h3 => ⟨by rw [List.length_map, List.length_map]; omega, (Nat.le_of_ble_eq_true rfl), rs ++ rs3, by rw [List.map_append], ⟨ok.len, ok.zero, ok.bnd, by rw [List.length_append]; omega, fun r mm => ?_, fun k k1 k2 => ?_, fun r mm => ?_⟩⟩⟩
    · rcases List.mem_append.mp mm with mm | mm
      · exact ok.ok r mm
      · exact (h3.2 r mm).1
    · obtain ⟨r, mr, q⟩ := ok.sp k k1 k2
      exact ⟨r, List.mem_append_left _ mr, q⟩
    · rcases List.mem_append.mp mm with mm | mm
      · exact ok.fit r mm
      · exact (h3.2 r mm).2
  refine Eq.mpr (hN _) ?_
  clear hN N
  obtain ⟨rs', rfl, ok'⟩ := h
  clear ok hl rs
  refine seqE fun N hN => ?_
  dsimp only [Df.dgN, Df.sSeq, Df.sAsg, Df.sAsgO, Df.sMove, Df.sNext, Df.sRet, Df.eVar, Df.eVarF, Df.eC, Df.oI, Df.oU, Df.aCons, Df.aNil, Df.eCat, Df.eSum, Df.eMaxL, Df.eMinL, Df.eSorted, Df.eList, Df.eTuple, Df.eLz, Df.eLen, Df.eIndex, Df.one, Df.two, Df.nrm, Df.gt, List.set, Df.padE, Df.dat, Df.argL, Df.seqL, Df.seqD, Df.eLst, Df.eTup, Df.shs, Option.map, Df.eSlT, Df.eSlA, Df.sExt, Df.sStL, Df.sUpd, Df.sDrop, Df.sRetN, Df.eIsi, Df.eNot, Df.eIf, Df.eLrg, Df.eMeth, Df.eMake, Df.eCallL, Df.eMakeL, Df.eMethL, Df.eFld, Df.oEqD, Df.oIn, Df.eDGet, Df.dTr, Df.truD, Df.sAugL, Df.sAug, Df.sFldS, Df.iE, Df.iZ, Df.eMaxL, Df.eSortedD, Df.sCut, Df.eVarT, Df.eVarM, Df.eMov, Df.sAppT, Df.sStT, Df.skq, Df.trq, Df.trqs, Df.mvq, Df.eIxLK, Df.eIxTK, Df.skl, Df.eLstT, Df.eTupT, Df.aConsT, Df.sAsgG, Df.dgT, Df.dgCons, Df.dgNil, Df.eChain, Df.eAnd, Df.eOr, Df.oEq, Df.eFld, Df.dOr, Df.dAnd, Df.dOrB, Df.dAndB, Df.eInt, Df.eSlL, Df.oSo, Df.oNo, Df.eI2, Df.eI1, Df.oIs, Df.sIf, Df.eIxQ, Df.iT, Df.dYes, Df.sNever, Df.sCut, Df.eGenB, Df.genE, Df.noE, Df.capE, Df.capL, Df.lendL, Df.lendE, Df.eLend, Df.dLend, Df.eLendN, Df.lndE, Df.lndL, Df.lnX, Df.lnx, List.cons_append, List.nil_append, Df.eIxT, Df.eIxL, Df.eCall, Df.eCallB, Df.oC, Df.dNot, Df.dB, Df.sApp, Df.sStD, Df.eDIn, Df.eDisp1, Df.eLenD]
  refine ⟨_, rfl, ?_⟩
  refine Eq.mpr (hN _) ?_
  clear hN N
  refine seqE fun N hN => ?_
  dsimp only [Df.dgN, Df.sSeq, Df.sAsg, Df.sAsgO, Df.sMove, Df.sNext, Df.sRet, Df.eVar, Df.eVarF, Df.eC, Df.oI, Df.oU, Df.aCons, Df.aNil, Df.eCat, Df.eSum, Df.eMaxL, Df.eMinL, Df.eSorted, Df.eList, Df.eTuple, Df.eLz, Df.eLen, Df.eIndex, Df.one, Df.two, Df.nrm, Df.gt, List.set, Df.padE, Df.dat, Df.argL, Df.seqL, Df.seqD, Df.eLst, Df.eTup, Df.shs, Option.map, Df.eSlT, Df.eSlA, Df.sExt, Df.sStL, Df.sUpd, Df.sDrop, Df.sRetN, Df.eIsi, Df.eNot, Df.eIf, Df.eLrg, Df.eMeth, Df.eMake, Df.eCallL, Df.eMakeL, Df.eMethL, Df.eFld, Df.oEqD, Df.oIn, Df.eDGet, Df.dTr, Df.truD, Df.sAugL, Df.sAug, Df.sFldS, Df.iE, Df.iZ, Df.eMaxL, Df.eSortedD, Df.sCut, Df.eVarT, Df.eVarM, Df.eMov, Df.sAppT, Df.sStT, Df.skq, Df.trq, Df.trqs, Df.mvq, Df.eIxLK, Df.eIxTK, Df.skl, Df.eLstT, Df.eTupT, Df.aConsT, Df.sAsgG, Df.dgT, Df.dgCons, Df.dgNil, Df.eChain, Df.eAnd, Df.eOr, Df.oEq, Df.eFld, Df.dOr, Df.dAnd, Df.dOrB, Df.dAndB, Df.eInt, Df.eSlL, Df.oSo, Df.oNo, Df.eI2, Df.eI1, Df.oIs, Df.sIf, Df.eIxQ, Df.iT, Df.dYes, Df.sNever, Df.sCut, Df.eGenB, Df.genE, Df.noE, Df.capE, Df.capL, Df.lendL, Df.lendE, Df.eLend, Df.dLend, Df.eLendN, Df.lndE, Df.lndL, Df.lnX, Df.lnx, List.cons_append, List.nil_append, Df.eIxT, Df.eIxL, Df.eCall, Df.eCallB, Df.oC, Df.dNot, Df.dB, Df.sApp, Df.sStD, Df.eDIn, Df.eDisp1, Df.eLenD]
  refine ⟨_, rfl, n, rs', .lst (rs'.map dR), rfl, ⟨.inl rfl, ok'.good n1 n16⟩, fun Tb hT => ⟨(show Apart (Dt.nds (.lst (rs'.map dR)) ++ []) _ from frame_apart n1), ?_⟩⟩
  refine Eq.mpr (hN _) ?_
  clear hN N
  refine seqE fun N hN => ?_
  dsimp only [Df.dgN, Df.sSeq, Df.sAsg, Df.sAsgO, Df.sMove, Df.sNext, Df.sRet, Df.eVar, Df.eVarF, Df.eC, Df.oI, Df.oU, Df.aCons, Df.aNil, Df.eCat, Df.eSum, Df.eMaxL, Df.eMinL, Df.eSorted, Df.eList, Df.eTuple, Df.eLz, Df.eLen, Df.eIndex, Df.one, Df.two, Df.nrm, Df.gt, List.set, Df.padE, Df.dat, Df.argL, Df.seqL, Df.seqD, Df.eLst, Df.eTup, Df.shs, Option.map, Df.eSlT, Df.eSlA, Df.sExt, Df.sStL, Df.sUpd, Df.sDrop, Df.sRetN, Df.eIsi, Df.eNot, Df.eIf, Df.eLrg, Df.eMeth, Df.eMake, Df.eCallL, Df.eMakeL, Df.eMethL, Df.eFld, Df.oEqD, Df.oIn, Df.eDGet, Df.dTr, Df.truD, Df.sAugL, Df.sAug, Df.sFldS, Df.iE, Df.iZ, Df.eMaxL, Df.eSortedD, Df.sCut, Df.eVarT, Df.eVarM, Df.eMov, Df.sAppT, Df.sStT, Df.skq, Df.trq, Df.trqs, Df.mvq, Df.eIxLK, Df.eIxTK, Df.skl, Df.eLstT, Df.eTupT, Df.aConsT, Df.sAsgG, Df.dgT, Df.dgCons, Df.dgNil, Df.eChain, Df.eAnd, Df.eOr, Df.oEq, Df.eFld, Df.dOr, Df.dAnd, Df.dOrB, Df.dAndB, Df.eInt, Df.eSlL, Df.oSo, Df.oNo, Df.eI2, Df.eI1, Df.oIs, Df.sIf, Df.eIxQ, Df.iT, Df.dYes, Df.sNever, Df.sCut, Df.eGenB, Df.genE, Df.noE, Df.capE, Df.capL, Df.lendL, Df.lendE, Df.eLend, Df.dLend, Df.eLendN, Df.lndE, Df.lndL, Df.lnX, Df.lnx, List.cons_append, List.nil_append, Df.eIxT, Df.eIxL, Df.eCall, Df.eCallB, Df.oC, Df.dNot, Df.dB, Df.sApp, Df.sStD, Df.eDIn, Df.eDisp1, Df.eLenD]
  refine ⟨_, rfl, _, rfl, m, rs2, .tup (rs2.map dR), rfl, ⟨.inr rfl, ok2.good m1 m16⟩, fun Tb2 hT2 => ?_⟩
  refine Eq.mpr (hN _) ?_
  clear hN N
  refine seqE fun N hN => ?_
  dsimp only [Df.dgN, Df.sSeq, Df.sAsg, Df.sAsgO, Df.sMove, Df.sNext, Df.sRet, Df.eVar, Df.eVarF, Df.eC, Df.oI, Df.oU, Df.aCons, Df.aNil, Df.eCat, Df.eSum, Df.eMaxL, Df.eMinL, Df.eSorted, Df.eList, Df.eTuple, Df.eLz, Df.eLen, Df.eIndex, Df.one, Df.two, Df.nrm, Df.gt, List.set, Df.padE, Df.dat, Df.argL, Df.seqL, Df.seqD, Df.eLst, Df.eTup, Df.shs, Option.map, Df.eSlT, Df.eSlA, Df.sExt, Df.sStL, Df.sUpd, Df.sDrop, Df.sRetN, Df.eIsi, Df.eNot, Df.eIf, Df.eLrg, Df.eMeth, Df.eMake, Df.eCallL, Df.eMakeL, Df.eMethL, Df.eFld, Df.oEqD, Df.oIn, Df.eDGet, Df.dTr, Df.truD, Df.sAugL, Df.sAug, Df.sFldS, Df.iE, Df.iZ, Df.eMaxL, Df.eSortedD, Df.sCut, Df.eVarT, Df.eVarM, Df.eMov, Df.sAppT, Df.sStT, Df.skq, Df.trq, Df.trqs, Df.mvq, Df.eIxLK, Df.eIxTK, Df.skl, Df.eLstT, Df.eTupT, Df.aConsT, Df.sAsgG, Df.dgT, Df.dgCons, Df.dgNil, Df.eChain, Df.eAnd, Df.eOr, Df.oEq, Df.eFld, Df.dOr, Df.dAnd, Df.dOrB, Df.dAndB, Df.eInt, Df.eSlL, Df.oSo, Df.oNo, Df.eI2, Df.eI1, Df.oIs, Df.sIf, Df.eIxQ, Df.iT, Df.dYes, Df.sNever, Df.sCut, Df.eGenB, Df.genE, Df.noE, Df.capE, Df.capL, Df.lendL, Df.lendE, Df.eLend, Df.dLend, Df.eLendN, Df.lndE, Df.lndL, Df.lnX, Df.lnx, List.cons_append, List.nil_append, Df.eIxT, Df.eIxL, Df.eCall, Df.eCallB, Df.oC, Df.dNot, Df.dB, Df.sApp, Df.sStD, Df.eDIn, Df.eDisp1, Df.eLenD]
  refine ⟨ns, 3, rfl, by decide, ?_⟩
  refine Eq.mpr (hN _) ?_
  clear hN N
  refine seqE fun N hN => ?_
  dsimp only [Df.dgN, Df.sSeq, Df.sAsg, Df.sAsgO, Df.sMove, Df.sNext, Df.sRet, Df.eVar, Df.eVarF, Df.eC, Df.oI, Df.oU, Df.aCons, Df.aNil, Df.eCat, Df.eSum, Df.eMaxL, Df.eMinL, Df.eSorted, Df.eList, Df.eTuple, Df.eLz, Df.eLen, Df.eIndex, Df.one, Df.two, Df.nrm, Df.gt, List.set, Df.padE, Df.dat, Df.argL, Df.seqL, Df.seqD, Df.eLst, Df.eTup, Df.shs, Option.map, Df.eSlT, Df.eSlA, Df.sExt, Df.sStL, Df.sUpd, Df.sDrop, Df.sRetN, Df.eIsi, Df.eNot, Df.eIf, Df.eLrg, Df.eMeth, Df.eMake, Df.eCallL, Df.eMakeL, Df.eMethL, Df.eFld, Df.oEqD, Df.oIn, Df.eDGet, Df.dTr, Df.truD, Df.sAugL, Df.sAug, Df.sFldS, Df.iE, Df.iZ, Df.eMaxL, Df.eSortedD, Df.sCut, Df.eVarT, Df.eVarM, Df.eMov, Df.sAppT, Df.sStT, Df.skq, Df.trq, Df.trqs, Df.mvq, Df.eIxLK, Df.eIxTK, Df.skl, Df.eLstT, Df.eTupT, Df.aConsT, Df.sAsgG, Df.dgT, Df.dgCons, Df.dgNil, Df.eChain, Df.eAnd, Df.eOr, Df.oEq, Df.eFld, Df.dOr, Df.dAnd, Df.dOrB, Df.dAndB, Df.eInt, Df.eSlL, Df.oSo, Df.oNo, Df.eI2, Df.eI1, Df.oIs, Df.sIf, Df.eIxQ, Df.iT, Df.dYes, Df.sNever, Df.sCut, Df.eGenB, Df.genE, Df.noE, Df.capE, Df.capL, Df.lendL, Df.lendE, Df.eLend, Df.dLend, Df.eLendN, Df.lndE, Df.lndL, Df.lnX, Df.lnx, List.cons_append, List.nil_append, Df.eIxT, Df.eIxL, Df.eCall, Df.eCallB, Df.oC, Df.dNot, Df.dB, Df.sApp, Df.sStD, Df.eDIn, Df.eDisp1, Df.eLenD]
  refine ⟨_, rfl, _, rfl, _, rfl, n, base, rs', y, rfl, ⟨ok', n1, n16⟩, fun ws1 => ?_⟩
  refine Eq.mpr (hN _) ?_
  clear hN N
  refine seqE fun N hN => ?_
  dsimp only [Df.dgN, Df.sSeq, Df.sAsg, Df.sAsgO, Df.sMove, Df.sNext, Df.sRet, Df.eVar, Df.eVarF, Df.eC, Df.oI, Df.oU, Df.aCons, Df.aNil, Df.eCat, Df.eSum, Df.eMaxL, Df.eMinL, Df.eSorted, Df.eList, Df.eTuple, Df.eLz, Df.eLen, Df.eIndex, Df.one, Df.two, Df.nrm, Df.gt, List.set, Df.padE, Df.dat, Df.argL, Df.seqL, Df.seqD, Df.eLst, Df.eTup, Df.shs, Option.map, Df.eSlT, Df.eSlA, Df.sExt, Df.sStL, Df.sUpd, Df.sDrop, Df.sRetN, Df.eIsi, Df.eNot, Df.eIf, Df.eLrg, Df.eMeth, Df.eMake, Df.eCallL, Df.eMakeL, Df.eMethL, Df.eFld, Df.oEqD, Df.oIn, Df.eDGet, Df.dTr, Df.truD, Df.sAugL, Df.sAug, Df.sFldS, Df.iE, Df.iZ, Df.eMaxL, Df.eSortedD, Df.sCut, Df.eVarT, Df.eVarM, Df.eMov, Df.sAppT, Df.sStT, Df.skq, Df.trq, Df.trqs, Df.mvq, Df.eIxLK, Df.eIxTK, Df.skl, Df.eLstT, Df.eTupT, Df.aConsT, Df.sAsgG, Df.dgT, Df.dgCons, Df.dgNil, Df.eChain, Df.eAnd, Df.eOr, Df.oEq, Df.eFld, Df.dOr, Df.dAnd, Df.dOrB, Df.dAndB, Df.eInt, Df.eSlL, Df.oSo, Df.oNo, Df.eI2, Df.eI1, Df.oIs, Df.sIf, Df.eIxQ, Df.iT, Df.dYes, Df.sNever, Df.sCut, Df.eGenB, Df.genE, Df.noE, Df.capE, Df.capL, Df.lendL, Df.lendE, Df.eLend, Df.dLend, Df.eLendN, Df.lndE, Df.lndL, Df.lnX, Df.lnx, List.cons_append, List.nil_append, Df.eIxT, Df.eIxL, Df.eCall, Df.eCallB, Df.oC, Df.dNot, Df.dB, Df.sApp, Df.sStD, Df.eDIn, Df.eDisp1, Df.eLenD]
  refine ⟨_, rfl, _, rfl, _, rfl, m, base2, rs2, 3, rfl, ⟨ok2, m1, m16⟩, fun ws2 => ?_⟩
  refine Eq.mpr (hN _) ?_
  clear hN N
  have g1 : ∀ (ws : List (List Int)) (P : Lo → Prop), P (.sh (.bl true)) → cAsked T.C_Frame [.sh (.ins T.C_Frame ns_Frame [.int (n : Int), .tup (rs'.map dR), .lst (tblD n Tb)]), .sh (.int (n : Int)), .sh (.lst (rs'.map dR)), .sh (.lst (ws.map dLI))] P := fun ws P h => ⟨n, rs', .lst (tblD n Tb), ws, rfl, ⟨n1, ok'.num, ok'.ok⟩, h⟩
  have g2 : ∀ (ws : List (List Int)) (P : Lo → Prop), P (.sh (.bl true)) → cAsked T.C_Frame [.sh (.ins T.C_Frame ns_Frame [.int (m : Int), .tup (rs2.map dR), .lst (tblD m Tb2)]), .sh (.int (m : Int)), .sh (.lst (rs2.map dR)), .sh (.lst (ws.map dLI))] P := fun ws P h => ⟨m, rs2, .lst (tblD m Tb2), ws, rfl, ⟨m1, ok2.num, ok2.ok⟩, h⟩
  refine seqE fun N hN => ?_
  dsimp only [Df.dgN, Df.sSeq, Df.sAsg, Df.sAsgO, Df.sMove, Df.sNext, Df.sRet, Df.eVar, Df.eVarF, Df.eC, Df.oI, Df.oU, Df.aCons, Df.aNil, Df.eCat, Df.eSum, Df.eMaxL, Df.eMinL, Df.eSorted, Df.eList, Df.eTuple, Df.eLz, Df.eLen, Df.eIndex, Df.one, Df.two, Df.nrm, Df.gt, List.set, Df.padE, Df.dat, Df.argL, Df.seqL, Df.seqD, Df.eLst, Df.eTup, Df.shs, Option.map, Df.eSlT, Df.eSlA, Df.sExt, Df.sStL, Df.sUpd, Df.sDrop, Df.sRetN, Df.eIsi, Df.eNot, Df.eIf, Df.eLrg, Df.eMeth, Df.eMake, Df.eCallL, Df.eMakeL, Df.eMethL, Df.eFld, Df.oEqD, Df.oIn, Df.eDGet, Df.dTr, Df.truD, Df.sAugL, Df.sAug, Df.sFldS, Df.iE, Df.iZ, Df.eMaxL, Df.eSortedD, Df.sCut, Df.eVarT, Df.eVarM, Df.eMov, Df.sAppT, Df.sStT, Df.skq, Df.trq, Df.trqs, Df.mvq, Df.eIxLK, Df.eIxTK, Df.skl, Df.eLstT, Df.eTupT, Df.aConsT, Df.sAsgG, Df.dgT, Df.dgCons, Df.dgNil, Df.eChain, Df.eAnd, Df.eOr, Df.oEq, Df.eFld, Df.dOr, Df.dAnd, Df.dOrB, Df.dAndB, Df.eInt, Df.eSlL, Df.oSo, Df.oNo, Df.eI2, Df.eI1, Df.oIs, Df.sIf, Df.eIxQ, Df.iT, Df.dYes, Df.sNever, Df.sCut, Df.eGenB, Df.genE, Df.noE, Df.capE, Df.capL, Df.lendL, Df.lendE, Df.eLend, Df.dLend, Df.eLendN, Df.lndE, Df.lndL, Df.lnX, Df.lnx, List.cons_append, List.nil_append, Df.eIxT, Df.eIxL, Df.eCall, Df.eCallB, Df.oC, Df.dNot, Df.dB, Df.sApp, Df.sStD, Df.eDIn, Df.eDisp1, Df.eLenD]
  refine ⟨_, rfl, _, rfl, g1 ws1 _ ?_⟩
  refine ⟨false, fun _ => ⟨_, rfl, _, rfl, g2 ws2 _ ⟨rfl, rfl⟩⟩, (fun z => by cases z), fun _ => ?_⟩
  refine Eq.mpr (hN _) ?_
  clear hN N
  have h60 := ok'.num
  refine seqE fun N hN => ?_
  dsimp only [Df.dgN, Df.sSeq, Df.sAsg, Df.sAsgO, Df.sMove, Df.sNext, Df.sRet, Df.eVar, Df.eVarF, Df.eC, Df.oI, Df.oU, Df.aCons, Df.aNil, Df.eCat, Df.eSum, Df.eMaxL, Df.eMinL, Df.eSorted, Df.eList, Df.eTuple, Df.eLz, Df.eLen, Df.eIndex, Df.one, Df.two, Df.nrm, Df.gt, List.set, Df.padE, Df.dat, Df.argL, Df.seqL, Df.seqD, Df.eLst, Df.eTup, Df.shs, Option.map, Df.eSlT, Df.eSlA, Df.sExt, Df.sStL, Df.sUpd, Df.sDrop, Df.sRetN, Df.eIsi, Df.eNot, Df.eIf, Df.eLrg, Df.eMeth, Df.eMake, Df.eCallL, Df.eMakeL, Df.eMethL, Df.eFld, Df.oEqD, Df.oIn, Df.eDGet, Df.dTr, Df.truD, Df.sAugL, Df.sAug, Df.sFldS, Df.iE, Df.iZ, Df.eMaxL, Df.eSortedD, Df.sCut, Df.eVarT, Df.eVarM, Df.eMov, Df.sAppT, Df.sStT, Df.skq, Df.trq, Df.trqs, Df.mvq, Df.eIxLK, Df.eIxTK, Df.skl, Df.eLstT, Df.eTupT, Df.aConsT, Df.sAsgG, Df.dgT, Df.dgCons, Df.dgNil, Df.eChain, Df.eAnd, Df.eOr, Df.oEq, Df.eFld, Df.dOr, Df.dAnd, Df.dOrB, Df.dAndB, Df.eInt, Df.eSlL, Df.oSo, Df.oNo, Df.eI2, Df.eI1, Df.oIs, Df.sIf, Df.eIxQ, Df.iT, Df.dYes, Df.sNever, Df.sCut, Df.eGenB, Df.genE, Df.noE, Df.capE, Df.capL, Df.lendL, Df.lendE, Df.eLend, Df.dLend, Df.eLendN, Df.lndE, Df.lndL, Df.lnX, Df.lnx, List.cons_append, List.nil_append, Df.eIxT, Df.eIxL, Df.eCall, Df.eCallB, Df.oC, Df.dNot, Df.dB, Df.sApp, Df.sStD, Df.eDIn, Df.eDisp1, Df.eLenD]
  refine ⟨(Nat.le_of_ble_eq_true rfl), by rw [List.length_map]; omega, ?_⟩
  refine Eq.mpr (hN _) ?_
  clear hN N
  refine seqE fun N hN => ?_
  dsimp only [Df.dgN, Df.sSeq, Df.sAsg, Df.sAsgO, Df.sMove, Df.sNext, Df.sRet, Df.eVar, Df.eVarF, Df.eC, Df.oI, Df.oU, Df.aCons, Df.aNil, Df.eCat, Df.eSum, Df.eMaxL, Df.eMinL, Df.eSorted, Df.eList, Df.eTuple, Df.eLz, Df.eLen, Df.eIndex, Df.one, Df.two, Df.nrm, Df.gt, List.set, Df.padE, Df.dat, Df.argL, Df.seqL, Df.seqD, Df.eLst, Df.eTup, Df.shs, Option.map, Df.eSlT, Df.eSlA, Df.sExt, Df.sStL, Df.sUpd, Df.sDrop, Df.sRetN, Df.eIsi, Df.eNot, Df.eIf, Df.eLrg, Df.eMeth, Df.eMake, Df.eCallL, Df.eMakeL, Df.eMethL, Df.eFld, Df.oEqD, Df.oIn, Df.eDGet, Df.dTr, Df.truD, Df.sAugL, Df.sAug, Df.sFldS, Df.iE, Df.iZ, Df.eMaxL, Df.eSortedD, Df.sCut, Df.eVarT, Df.eVarM, Df.eMov, Df.sAppT, Df.sStT, Df.skq, Df.trq, Df.trqs, Df.mvq, Df.eIxLK, Df.eIxTK, Df.skl, Df.eLstT, Df.eTupT, Df.aConsT, Df.sAsgG, Df.dgT, Df.dgCons, Df.dgNil, Df.eChain, Df.eAnd, Df.eOr, Df.oEq, Df.eFld, Df.dOr, Df.dAnd, Df.dOrB, Df.dAndB, Df.eInt, Df.eSlL, Df.oSo, Df.oNo, Df.eI2, Df.eI1, Df.oIs, Df.sIf, Df.eIxQ, Df.iT, Df.dYes, Df.sNever, Df.sCut, Df.eGenB, Df.genE, Df.noE, Df.capE, Df.capL, Df.lendL, Df.lendE, Df.eLend, Df.dLend, Df.eLendN, Df.lndE, Df.lndL, Df.lnX, Df.lnx, List.cons_append, List.nil_append, Df.eIxT, Df.eIxL, Df.eCall, Df.eCallB, Df.oC, Df.dNot, Df.dB, Df.sApp, Df.sStD, Df.eDIn, Df.eDisp1, Df.eLenD]
  refine ⟨(Nat.le_of_ble_eq_true rfl), 0, ?_, ?_⟩
  · unfold ixN
    rw [if_pos (by decide), if_pos (by rw [List.length_append, List.length_singleton]; omega)]
    rfl
  refine Eq.mpr (hN _) ?_
  clear hN N
  refine seqE fun N hN => ?_
  dsimp only [Df.dgN, Df.sSeq, Df.sAsg, Df.sAsgO, Df.sMove, Df.sNext, Df.sRet, Df.eVar, Df.eVarF, Df.eC, Df.oI, Df.oU, Df.aCons, Df.aNil, Df.eCat, Df.eSum, Df.eMaxL, Df.eMinL, Df.eSorted, Df.eList, Df.eTuple, Df.eLz, Df.eLen, Df.eIndex, Df.one, Df.two, Df.nrm, Df.gt, List.set, Df.padE, Df.dat, Df.argL, Df.seqL, Df.seqD, Df.eLst, Df.eTup, Df.shs, Option.map, Df.eSlT, Df.eSlA, Df.sExt, Df.sStL, Df.sUpd, Df.sDrop, Df.sRetN, Df.eIsi, Df.eNot, Df.eIf, Df.eLrg, Df.eMeth, Df.eMake, Df.eCallL, Df.eMakeL, Df.eMethL, Df.eFld, Df.oEqD, Df.oIn, Df.eDGet, Df.dTr, Df.truD, Df.sAugL, Df.sAug, Df.sFldS, Df.iE, Df.iZ, Df.eMaxL, Df.eSortedD, Df.sCut, Df.eVarT, Df.eVarM, Df.eMov, Df.sAppT, Df.sStT, Df.skq, Df.trq, Df.trqs, Df.mvq, Df.eIxLK, Df.eIxTK, Df.skl, Df.eLstT, Df.eTupT, Df.aConsT, Df.sAsgG, Df.dgT, Df.dgCons, Df.dgNil, Df.eChain, Df.eAnd, Df.eOr, Df.oEq, Df.eFld, Df.dOr, Df.dAnd, Df.dOrB, Df.dAndB, Df.eInt, Df.eSlL, Df.oSo, Df.oNo, Df.eI2, Df.eI1, Df.oIs, Df.sIf, Df.eIxQ, Df.iT, Df.dYes, Df.sNever, Df.sCut, Df.eGenB, Df.genE, Df.noE, Df.capE, Df.capL, Df.lendL, Df.lendE, Df.eLend, Df.dLend, Df.eLendN, Df.lndE, Df.lndL, Df.lnX, Df.lnx, List.cons_append, List.nil_append, Df.eIxT, Df.eIxL, Df.eCall, Df.eCallB, Df.oC, Df.dNot, Df.dB, Df.sApp, Df.sStD, Df.eDIn, Df.eDisp1, Df.eLenD]
  refine ⟨_, rfl, _, rfl, g1 ws2 _ ⟨false, fun _ => ⟨_, rfl, _, rfl, g2 ws1 _ ⟨rfl, rfl⟩⟩, (fun z => by cases z), fun _ => ?_⟩⟩
  refine Eq.mpr (hN _) ?_
  clear hN N
  dsimp only [Df.dgN, Df.sSeq, Df.sAsg, Df.sAsgO, Df.sMove, Df.sNext, Df.sRet, Df.eVar, Df.eVarF, Df.eC, Df.oI, Df.oU, Df.aCons, Df.aNil, Df.eCat, Df.eSum, Df.eMaxL, Df.eMinL, Df.eSorted, Df.eList, Df.eTuple, Df.eLz, Df.eLen, Df.eIndex, Df.one, Df.two, Df.nrm, Df.gt, List.set, Df.padE, Df.dat, Df.argL, Df.seqL, Df.seqD, Df.eLst, Df.eTup, Df.shs, Option.map, Df.eSlT, Df.eSlA, Df.sExt, Df.sStL, Df.sUpd, Df.sDrop, Df.sRetN, Df.eIsi, Df.eNot, Df.eIf, Df.eLrg, Df.eMeth, Df.eMake, Df.eCallL, Df.eMakeL, Df.eMethL, Df.eFld, Df.oEqD, Df.oIn, Df.eDGet, Df.dTr, Df.truD, Df.sAugL, Df.sAug, Df.sFldS, Df.iE, Df.iZ, Df.eMaxL, Df.eSortedD, Df.sCut, Df.eVarT, Df.eVarM, Df.eMov, Df.sAppT, Df.sStT, Df.skq, Df.trq, Df.trqs, Df.mvq, Df.eIxLK, Df.eIxTK, Df.skl, Df.eLstT, Df.eTupT, Df.aConsT, Df.sAsgG, Df.dgT, Df.dgCons, Df.dgNil, Df.eChain, Df.eAnd, Df.eOr, Df.oEq, Df.eFld, Df.dOr, Df.dAnd, Df.dOrB, Df.dAndB, Df.eInt, Df.eSlL, Df.oSo, Df.oNo, Df.eI2, Df.eI1, Df.oIs, Df.sIf, Df.eIxQ, Df.iT, Df.dYes, Df.sNever, Df.sCut, Df.eGenB, Df.genE, Df.noE, Df.capE, Df.capL, Df.lendL, Df.lendE, Df.eLend, Df.dLend, Df.eLendN, Df.lndE, Df.lndL, Df.lnX, Df.lnx, List.cons_append, List.nil_append, Df.eIxT, Df.eIxL, Df.eCall, Df.eCallB, Df.oC, Df.dNot, Df.dB, Df.sApp, Df.sStD, Df.eDIn, Df.eDisp1, Df.eLenD]
  exact ⟨_, rfl, _, rfl, g1 ws1 _ k⟩

end
theorem ok_lawE {P : Program} {w : World} {K : PySem.W.Frag} {mg : Str → Option Value} {base : Heap} (T : Txt P K mg) (B : Tb T base) : FnOk P w K mg base CX0 7 T.a_law T.d_law ["_law_script"] (spLawD K T.tb) := FnOk.imp (ok_law T B) fun vs H Q E h => by
  obtain ⟨a, ns, hv, hS, hl, hT, k⟩ := h
  exact br_law hv hS hl hT k
theorem fun_of {K : PySem.W.Frag} {x qual : Str} {st : Stmt} {f : Addr} {fd : FuncData} (F : FunD K x qual (defArgs st) (defBody st) (defScope st) [] [] f fd) : Fun K x qual st f fd := by
  obtain ⟨⟨oc, od, dV, kV, doc, pm, an, cdv, ct, osl, rfl, lk, hcd, hD, _⟩, kp⟩ := F
  rcases hD with ⟨_, rfl⟩ | ⟨e, _⟩
  · exact fun_mk lk hcd kp
  · exact absurd rfl e
theorem code_at {K : PySem.W.Frag} {x qual : Str} {params : Arguments} {body : List Stmt} {scope : Scope} {p : Str × Option Str} {fd : FuncData} {dvs : List V} {kws : List (Str × V)} (F : FunD K x qual params body scope dvs kws (He.fAd K p) fd) : fd.code = .ref (He.cT K p).1 := by
  obtain ⟨⟨oc, od, dV, kV, doc, pm, an, cdv, ct, osl, rfl, lk, hcd, _, _⟩, _⟩ := F
  obtain ⟨c, e⟩ := He.codeIn_ref hcd
  subst e
  show Value.ref c = .ref (He.codeOf K p)
  rw [He.codeOf_eq lk rfl]
theorem isI_of {o : Option Value} {i : Int} (h : ∃ t, o = some (.int i t)) : Gc.isI i o = true := by
  obtain ⟨t, rfl⟩ := h
  simp [Gc.isI]
def dd_FrameI__initI : He.DefD := ⟨("Frame", some "__init__"), "__init__", "Frame.__init__", defArgs s_FrameI__initI, defBody s_FrameI__initI, defScope s_FrameI__initI, [], []⟩
def dd_Frame_allows : He.DefD := ⟨("Frame", some "allows"), "allows", "Frame.allows", defArgs s_Frame_allows, defBody s_Frame_allows, defScope s_Frame_allows, [], []⟩
def dd_is_rule : He.DefD := ⟨("_is_rule", none), "_is_rule", "_is_rule", defArgs s_is_rule, defBody s_is_rule, defScope s_is_rule, [], []⟩
def dd_is_connected : He.DefD := ⟨("is_connected", none), "is_connected", "is_connected", defArgs s_is_connected, defBody s_is_connected, defScope s_is_connected, [], []⟩
def dd_greatest_differences : He.DefD := ⟨("_greatest_differences", none), "_greatest_differences", "_greatest_differences", defArgs s_greatest_differences, defBody s_greatest_differences, defScope s_greatest_differences, [], []⟩
def dd_law_source : He.DefD := ⟨("_law_source", none), "_law_source", "_law_source", defArgs s_law_source, defBody s_law_source, defScope s_law_source, [], []⟩
def dd_law_draw : He.DefD := ⟨("_law_draw", none), "_law_draw", "_law_draw", defArgs s_law_draw, defBody s_law_draw, defScope s_law_draw, [], []⟩
def dd_law_between : He.DefD := ⟨("_law_between", none), "_law_between", "_law_between", defArgs s_law_between, defBody s_law_between, defScope s_law_between, [], []⟩
def dd_law_rule : He.DefD := ⟨("_law_rule", none), "_law_rule", "_law_rule", defArgs s_law_rule, defBody s_law_rule, defScope s_law_rule, [], []⟩
def dd_law_rules : He.DefD := ⟨("_law_rules", none), "_law_rules", "_law_rules", defArgs s_law_rules, defBody s_law_rules, defScope s_law_rules, [], []⟩
def dd_law_keeps : He.DefD := ⟨("_law_keeps", none), "_law_keeps", "_law_keeps", defArgs s_law_keeps, defBody s_law_keeps, defScope s_law_keeps, [], []⟩
def dd_law_arcs : He.DefD := ⟨("_law_arcs", none), "_law_arcs", "_law_arcs", defArgs s_law_arcs, defBody s_law_arcs, defScope s_law_arcs, [], []⟩
def dd_law_table : He.DefD := ⟨("_law_table", none), "_law_table", "_law_table", defArgs s_law_table, defBody s_law_table, defScope s_law_table, [], []⟩
def dd_law_all_worlds : He.DefD := ⟨("_law_all_worlds", none), "_law_all_worlds", "_law_all_worlds", defArgs s_law_all_worlds, defBody s_law_all_worlds, defScope s_law_all_worlds, [], []⟩
def dd_law_lists : He.DefD := ⟨("_law_lists", none), "_law_lists", "_law_lists", defArgs s_law_lists, defBody s_law_lists, defScope s_law_lists, [], []⟩
def dd_law_more_rules : He.DefD := ⟨("_law_more_rules", none), "_law_more_rules", "_law_more_rules", defArgs s_law_more_rules, defBody s_law_more_rules, defScope s_law_more_rules, [], []⟩
def dd_law_asked : He.DefD := ⟨("_law_asked", none), "_law_asked", "_law_asked", defArgs s_law_asked, defBody s_law_asked, defScope s_law_asked, [], []⟩
def dd_law : He.DefD := ⟨("law", none), "law", "law", defArgs s_law, defBody s_law, defScope s_law, [], []⟩
theorem bind_law {K : PySem.W.Frag} {f : Addr} {fd : FuncData} (F : FunD K "law" "law" (defArgs s_law) (defBody s_law) (defScope s_law) [] [] f fd) (s : Shared) (v : Value) : BindsTo s fd ⟨[v], []⟩ [("_law_script", v)] := by
  obtain ⟨⟨oc, od, dV, kV, doc, pm, an, cdv, ct, osl, rfl, lk, hcd, hD, _⟩, kp⟩ := F
  rcases hD with ⟨_, rfl⟩ | ⟨e, _⟩
  · exact .of_eq rfl
  · exact absurd rfl e
def hfn : List He.DefD := [dd_FrameI__initI, dd_Frame_allows, dd_is_rule, dd_is_connected, dd_greatest_differences, dd_law_source, dd_law_draw, dd_law_between, dd_law_rule, dd_law_rules, dd_law_keeps, dd_law_arcs, dd_law_table, dd_law_all_worlds, dd_law_lists, dd_law_more_rules, dd_law_asked, dd_law]
def hexL (K : PySem.W.Frag) : List Bool := [decide (PySem.W.selfFirst K (He.ga K "Frame") = true)]
def hexb (K : PySem.W.Frag) : Bool := (hexL K).all id
theorem hex_ok {K : PySem.W.Frag} (h : hexb K = true) {b : Bool} (m : b ∈ hexL K) : b = true := List.all_eq_true.mp h b m
def hfa : List He.Fa := [.glo "_is_rule", .glo "is_connected", .glo "_greatest_differences", .glo "_law_source", .glo "_law_draw", .glo "_law_between", .glo "_law_rule", .glo "_law_rules", .glo "_law_keeps", .glo "_law_arcs", .glo "_law_table", .glo "_law_all_worlds", .glo "_law_lists", .glo "_law_more_rules", .glo "_law_asked", .glo "law", .glo "Frame", .cls "Frame", .mkr "Frame", .noat "Frame" "size", .noat "Frame" "rules", .noat "Frame" "_table", .meth "Frame" "allows", .int "MOST_RULES" 60, .int "MOST_NODES" 16, .free "abs", .free "all", .free "any", .free "bool", .free "int", .free "isinstance", .free "len", .free "list", .free "min", .free "range", .free "sum", .free "tuple", .free "zip"]
def htf : List He.Defn := [("Frame", some "__init__"), ("Frame", some "allows"), ("_greatest_differences", none)]
theorem tst {l : PySem.W.OpenLaw} {w : World} {K : PySem.W.Frag} {h : Heap} {mg : Str → Option Value} {fa : Addr} (X : K.In h) (G : h.Ns mainGlobals mg) (hmg : mg "law" = some (.ref fa)) (c : He.SaysX hfa hfn [] htf hexb w h K) : LamX.LawAtS l w K CX0 7 63 "_law_script" mg fa h := by
  obtain ⟨fd_FrameI__initI, D_FrameI__initI⟩ := c.t.d.def_ 0 (d := dd_FrameI__initI)
  obtain ⟨fd_Frame_allows, D_Frame_allows⟩ := c.t.d.def_ 1 (d := dd_Frame_allows)
  obtain ⟨fd_is_rule, D_is_rule⟩ := c.t.d.def_ 2 (d := dd_is_rule)
  obtain ⟨fd_is_connected, D_is_connected⟩ := c.t.d.def_ 3 (d := dd_is_connected)
  obtain ⟨fd_greatest_differences, D_greatest_differences⟩ := c.t.d.def_ 4 (d := dd_greatest_differences)
  obtain ⟨fd_law_source, D_law_source⟩ := c.t.d.def_ 5 (d := dd_law_source)
  obtain ⟨fd_law_draw, D_law_draw⟩ := c.t.d.def_ 6 (d := dd_law_draw)
  obtain ⟨fd_law_between, D_law_between⟩ := c.t.d.def_ 7 (d := dd_law_between)
  obtain ⟨fd_law_rule, D_law_rule⟩ := c.t.d.def_ 8 (d := dd_law_rule)
  obtain ⟨fd_law_rules, D_law_rules⟩ := c.t.d.def_ 9 (d := dd_law_rules)
  obtain ⟨fd_law_keeps, D_law_keeps⟩ := c.t.d.def_ 10 (d := dd_law_keeps)
  obtain ⟨fd_law_arcs, D_law_arcs⟩ := c.t.d.def_ 11 (d := dd_law_arcs)
  obtain ⟨fd_law_table, D_law_table⟩ := c.t.d.def_ 12 (d := dd_law_table)
  obtain ⟨fd_law_all_worlds, D_law_all_worlds⟩ := c.t.d.def_ 13 (d := dd_law_all_worlds)
  obtain ⟨fd_law_lists, D_law_lists⟩ := c.t.d.def_ 14 (d := dd_law_lists)
  obtain ⟨fd_law_more_rules, D_law_more_rules⟩ := c.t.d.def_ 15 (d := dd_law_more_rules)
  obtain ⟨fd_law_asked, D_law_asked⟩ := c.t.d.def_ 16 (d := dd_law_asked)
  obtain ⟨fd_law, D_law⟩ := c.t.d.def_ 17 (d := dd_law)
  let T : Txt l.prog K mg := {
    a_FrameI__initI := He.fAd K ("Frame", some "__init__")
    d_FrameI__initI := fd_FrameI__initI
    F_FrameI__initI := D_FrameI__initI
    b_FrameI__initI := (fun_of (st := s_FrameI__initI) D_FrameI__initI).binds (ps := ["self", "size", "rules"]) fun _ _ _ _ _ _ us hl => match us, hl with | [_, _, _], _ => rfl
    c_FrameI__initI := (He.cT K ("Frame", some "__init__")).1
    P_FrameI__initI := (He.cT K ("Frame", some "__init__")).2
    hc_FrameI__initI := code_at D_FrameI__initI
    a_Frame_allows := He.fAd K ("Frame", some "allows")
    d_Frame_allows := fd_Frame_allows
    F_Frame_allows := D_Frame_allows
    b_Frame_allows := (fun_of (st := s_Frame_allows) D_Frame_allows).binds (ps := ["self", "levels"]) fun _ _ _ _ _ _ us hl => match us, hl with | [_, _], _ => rfl
    c_Frame_allows := (He.cT K ("Frame", some "allows")).1
    P_Frame_allows := (He.cT K ("Frame", some "allows")).2
    hc_Frame_allows := code_at D_Frame_allows
    a_is_rule := He.fAd K ("_is_rule", none)
    d_is_rule := fd_is_rule
    F_is_rule := fun_of D_is_rule
    b_is_rule := (fun_of (st := s_is_rule) D_is_rule).binds (ps := ["size", "rule"]) fun _ _ _ _ _ _ us hl => match us, hl with | [_, _], _ => rfl
    m_is_rule := He.glo_ok X G (c.t.d.fact 0)
    a_is_connected := He.fAd K ("is_connected", none)
    d_is_connected := fd_is_connected
    F_is_connected := fun_of D_is_connected
    b_is_connected := (fun_of (st := s_is_connected) D_is_connected).binds (ps := ["size", "rules"]) fun _ _ _ _ _ _ us hl => match us, hl with | [_, _], _ => rfl
    m_is_connected := He.glo_ok X G (c.t.d.fact 1)
    a_greatest_differences := He.fAd K ("_greatest_differences", none)
    d_greatest_differences := fd_greatest_differences
    F_greatest_differences := D_greatest_differences
    b_greatest_differences := (fun_of (st := s_greatest_differences) D_greatest_differences).binds (ps := ["size", "rules"]) fun _ _ _ _ _ _ us hl => match us, hl with | [_, _], _ => rfl
    c_greatest_differences := (He.cT K ("_greatest_differences", none)).1
    P_greatest_differences := (He.cT K ("_greatest_differences", none)).2
    hc_greatest_differences := code_at D_greatest_differences
    m_greatest_differences := He.glo_ok X G (c.t.d.fact 2)
    a_law_source := He.fAd K ("_law_source", none)
    d_law_source := fd_law_source
    F_law_source := fun_of D_law_source
    b_law_source := (fun_of (st := s_law_source) D_law_source).binds (ps := ["_law_script", "_law_place"]) fun _ _ _ _ _ _ us hl => match us, hl with | [_, _], _ => rfl
    m_law_source := He.glo_ok X G (c.t.d.fact 3)
    a_law_draw := He.fAd K ("_law_draw", none)
    d_law_draw := fd_law_draw
    F_law_draw := fun_of D_law_draw
    b_law_draw := (fun_of (st := s_law_draw) D_law_draw).binds (ps := ["_law_source_here", "_law_size"]) fun _ _ _ _ _ _ us hl => match us, hl with | [_, _], _ => rfl
    m_law_draw := He.glo_ok X G (c.t.d.fact 4)
    a_law_between := He.fAd K ("_law_between", none)
    d_law_between := fd_law_between
    F_law_between := fun_of D_law_between
    b_law_between := (fun_of (st := s_law_between) D_law_between).binds (ps := ["_law_source_here", "_law_least", "_law_most"]) fun _ _ _ _ _ _ us hl => match us, hl with | [_, _, _], _ => rfl
    m_law_between := He.glo_ok X G (c.t.d.fact 5)
    a_law_rule := He.fAd K ("_law_rule", none)
    d_law_rule := fd_law_rule
    F_law_rule := fun_of D_law_rule
    b_law_rule := (fun_of (st := s_law_rule) D_law_rule).binds (ps := ["_law_source_here", "_law_base", "_law_first", "_law_second", "_law_reach"]) fun _ _ _ _ _ _ us hl => match us, hl with | [_, _, _, _, _], _ => rfl
    m_law_rule := He.glo_ok X G (c.t.d.fact 6)
    a_law_rules := He.fAd K ("_law_rules", none)
    d_law_rules := fd_law_rules
    F_law_rules := fun_of D_law_rules
    b_law_rules := (fun_of (st := s_law_rules) D_law_rules).binds (ps := ["_law_source_here", "_law_size", "_law_reach", "_law_far"]) fun _ _ _ _ _ _ us hl => match us, hl with | [_, _, _, _], _ => rfl
    m_law_rules := He.glo_ok X G (c.t.d.fact 7)
    a_law_keeps := He.fAd K ("_law_keeps", none)
    d_law_keeps := fd_law_keeps
    F_law_keeps := fun_of D_law_keeps
    b_law_keeps := (fun_of (st := s_law_keeps) D_law_keeps).binds (ps := ["_law_levels", "_law_rules_here"]) fun _ _ _ _ _ _ us hl => match us, hl with | [_, _], _ => rfl
    m_law_keeps := He.glo_ok X G (c.t.d.fact 8)
    a_law_arcs := He.fAd K ("_law_arcs", none)
    d_law_arcs := fd_law_arcs
    F_law_arcs := fun_of D_law_arcs
    b_law_arcs := (fun_of (st := s_law_arcs) D_law_arcs).binds (ps := ["_law_rows"]) fun _ _ _ _ _ _ us hl => match us, hl with | [_], _ => rfl
    m_law_arcs := He.glo_ok X G (c.t.d.fact 9)
    a_law_table := He.fAd K ("_law_table", none)
    d_law_table := fd_law_table
    F_law_table := fun_of D_law_table
    b_law_table := (fun_of (st := s_law_table) D_law_table).binds (ps := ["_law_size", "_law_arcs_here"]) fun _ _ _ _ _ _ us hl => match us, hl with | [_, _], _ => rfl
    m_law_table := He.glo_ok X G (c.t.d.fact 10)
    a_law_all_worlds := He.fAd K ("_law_all_worlds", none)
    d_law_all_worlds := fd_law_all_worlds
    F_law_all_worlds := fun_of D_law_all_worlds
    b_law_all_worlds := (fun_of (st := s_law_all_worlds) D_law_all_worlds).binds (ps := ["_law_size", "_law_rules_here"]) fun _ _ _ _ _ _ us hl => match us, hl with | [_, _], _ => rfl
    m_law_all_worlds := He.glo_ok X G (c.t.d.fact 11)
    a_law_lists := He.fAd K ("_law_lists", none)
    d_law_lists := fd_law_lists
    F_law_lists := fun_of D_law_lists
    b_law_lists := (fun_of (st := s_law_lists) D_law_lists).binds (ps := ["_law_source_here", "_law_size", "_law_base", "_law_rules_here", "_law_reach"]) fun _ _ _ _ _ _ us hl => match us, hl with | [_, _, _, _, _], _ => rfl
    m_law_lists := He.glo_ok X G (c.t.d.fact 12)
    a_law_more_rules := He.fAd K ("_law_more_rules", none)
    d_law_more_rules := fd_law_more_rules
    F_law_more_rules := fun_of D_law_more_rules
    b_law_more_rules := (fun_of (st := s_law_more_rules) D_law_more_rules).binds (ps := ["_law_source_here", "_law_size", "_law_base", "_law_reach"]) fun _ _ _ _ _ _ us hl => match us, hl with | [_, _, _, _], _ => rfl
    m_law_more_rules := He.glo_ok X G (c.t.d.fact 13)
    a_law_asked := He.fAd K ("_law_asked", none)
    d_law_asked := fd_law_asked
    F_law_asked := fun_of D_law_asked
    b_law_asked := (fun_of (st := s_law_asked) D_law_asked).binds (ps := ["_law_frame", "_law_size", "_law_rules_here", "_law_rows"]) fun _ _ _ _ _ _ us hl => match us, hl with | [_, _, _, _], _ => rfl
    m_law_asked := He.glo_ok X G (c.t.d.fact 14)
    a_law := He.fAd K ("law", none)
    d_law := fd_law
    F_law := fun_of D_law
    b_law := (fun_of (st := s_law) D_law).binds (ps := ["_law_script"]) fun _ _ _ _ _ _ us hl => match us, hl with | [_], _ => rfl
    m_law := He.glo_ok X G (c.t.d.fact 15)
    C_Frame := He.ga K "Frame"
    m_Frame := He.glo_ok X G (c.t.d.fact 16)
    cl_Frame := He.cls_ok (c.t.d.fact 17)
    mkc_Frame := (He.mkr_ok (c.t.d.fact 18)).makes
    kpc_Frame := (He.mkr_ok (c.t.d.fact 18)).kp
    n_Frame_size := He.noat_ok (c.t.d.fact 19)
    n_Frame_rules := He.noat_ok (c.t.d.fact 20)
    n_Frame__table := He.noat_ok (c.t.d.fact 21)
    mk_Frame := He.mkr_ok (c.t.d.fact 18)
    t_Frame_allows := He.meth_ok (c.t.d.fact 22)
    sf_Frame := (of_decide_eq_true (hex_ok c.more (show decide (PySem.W.selfFirst K (He.ga K "Frame") = true) ∈ hexL K from List.mem_cons_self)))
    k_MOST_RULES := isI_of (He.int_ok X G (c.t.d.fact 23))
    k_MOST_NODES := isI_of (He.int_ok X G (c.t.d.fact 24))
    z_abs := He.free_ok X G (c.t.d.fact 25)
    z_all := He.free_ok X G (c.t.d.fact 26)
    z_any := He.free_ok X G (c.t.d.fact 27)
    z_bool := He.free_ok X G (c.t.d.fact 28)
    z_int := He.free_ok X G (c.t.d.fact 29)
    z_isinstance := He.free_ok X G (c.t.d.fact 30)
    z_len := He.free_ok X G (c.t.d.fact 31)
    z_list := He.free_ok X G (c.t.d.fact 32)
    z_min := He.free_ok X G (c.t.d.fact 33)
    z_range := He.free_ok X G (c.t.d.fact 34)
    z_sum := He.free_ok X G (c.t.d.fact 35)
    z_tuple := He.free_ok X G (c.t.d.fact 36)
    z_zip := He.free_ok X G (c.t.d.fact 37) }
  have ea : fa = T.a_law := by
    have e := hmg.symm.trans T.m_law
    cases e
    rfl
  subst ea
  refine ⟨T.d_law, htf.map (He.cT K), spLawD K T.tb, ?_, ?_, ?_, fun s v => ?_, fun H a ns hl hb hT hS => ?_, fun base KB GB TB => ok_lawE T ⟨(fun t => ⟨t.code, t.bm, t.gP⟩) (TB _ (List.mem_map_of_mem (show (("Frame", some "__init__") : He.Defn) ∈ htf from List.mem_cons_self))), (fun t => ⟨t.code, t.bm, t.gP⟩) (TB _ (List.mem_map_of_mem (show (("Frame", some "allows") : He.Defn) ∈ htf from (List.mem_cons_of_mem _ List.mem_cons_self)))), (fun t => ⟨t.code, t.bm, t.gP⟩) (TB _ (List.mem_map_of_mem (show (("_greatest_differences", none) : He.Defn) ∈ htf from (List.mem_cons_of_mem _ (List.mem_cons_of_mem _ List.mem_cons_self)))))⟩⟩
  · rintro p hp; obtain ⟨q, hq, rfl⟩ := List.mem_map.mp hp; exact c.empty q hq
  · rintro p hp; obtain ⟨q, hq, rfl⟩ := List.mem_map.mp hp; exact c.out q hq
  · rintro p hp; obtain ⟨q, hq, rfl⟩ := List.mem_map.mp hp; exact PySem.W.codeHd_of_K X (c.hd q hq)
  · exact bind_law D_law s v
  · refine ⟨a, ns, rfl, hS, hl, fun p hp => ?_, fun _ => rfl⟩
    change p ∈ Tbs.tabs _ at hp
    simp only [Txt.tb, List.mem_cons, List.not_mem_nil, or_false] at hp
    rcases hp with rfl | rfl | rfl
    · exact hT _ (List.mem_map_of_mem (show (("Frame", some "__init__") : He.Defn) ∈ htf from List.mem_cons_self))
    · exact hT _ (List.mem_map_of_mem (show (("Frame", some "allows") : He.Defn) ∈ htf from (List.mem_cons_of_mem _ List.mem_cons_self)))
    · exact hT _ (List.mem_map_of_mem (show (("_greatest_differences", none) : He.Defn) ∈ htf from (List.mem_cons_of_mem _ (List.mem_cons_of_mem _ List.mem_cons_self))))
end My

open PySem PySem.W PyProof.Rows in
set_option maxRecDepth 100000 in
set_option maxHeartbeats 0 in
theorem PySem.Challenge.cw_counthall_k06_frame_allows_holds : PySem.Challenge.rw_counthall_k06_frame_allows.Holds := by
  w_on; o_law; o_head (He.hookX 4 My.hfa My.hfn [] My.htf My.hexb); (case hw => w_witness2)
  refine LamX.walk_ofTsE (l := PySem.Challenge.rw_counthall_k06_frame_allows) (n := 63) (k := 7) (x := "_law_script") (CX := fun _ => L2.CX0) rfl (by decide) rfl ⟨rfl, by decide, by decide⟩ ?F fun _ _ _ _ _ z => z
  intro w mg fa h Y G hmg
  obtain ⟨K, KX, c⟩ := Y
  exact ⟨K, KX, My.tst KX G hmg c⟩
#print axioms PySem.Challenge.cw_counthall_k06_frame_allows_holds

