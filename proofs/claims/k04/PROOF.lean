import PyProof.Rows.All
import Wide.All
import OpenK.AllK
import Wide.FinOn
import HandS.ForMost
import HandS.Exc
import HandS.ExcInit
import HandS.ExcIs
import HandS.ExcField
import HandS.ExcOwn
import HandS.MakeKwOnly
import HandS.IsInst
import HandS.FStr
import HandS.Nested
import KE.KExcSuper
import KE.KExcIs
import PySem.Challenge.RW_counthall_k04_claim_refusals
set_option Elab.async false
set_option linter.all false
set_option maxRecDepth 100000
set_option maxHeartbeats 4000000

namespace My
open PySem L2
/-- what the written part says for super().__init__(..) in the __init__ at f of the exception class at C -/
structure SupC (prog : Program) (K : PySem.W.Frag) (C f cda cc : Addr) (fd : FuncData) : Prop where
  fn : ∃ oc od sl ar, K.lookup f = some ⟨oc, od, .func fd, sl⟩ ∧ (fd.params.posonlyargs ++ fd.params.args).head? = some ar ∧ ar.arg = "self"
  code : ∃ oc od vs sl file tf, K.lookup cda = some ⟨oc, od, .fields vs, sl⟩ ∧ vs[2]? = some (.str file tf) ∧ ((prog.main.file : Str) == file) = true
  cell : ∃ oc od sl, K.lookup cc = some ⟨oc, od, .cell (some (.ref C)), sl⟩
  sub : PySem.W.mroIn K C (.ref C) = some true
  tp : PySem.W.nsIn K cStatics "thirdparty.any" = some none
  along : PySem.W.ks_superIn K C C "__init__" = some (some (.builtin "ValueError.__init__"))
  ve : PySem.W.subIn K (.ref C) (.type "ValueError") = some true
  top : (prog.main.scope.names.lookup ("super" : Str)).isSome = false
section
open PySem.W PySem.Calls PyProof.Rows
variable {X : Cx} {pins : List (Addr × Obj)} {σ : L2.St} {H : Hp} {s : Shared} {a C f cda cc : Addr} {fd : FuncData} {body : List Stmt} {e : Expr} {ta : TA} {p0 p1 p2 p3 p4 : Pos}
theorem sup_exec (S : SupC X.prog X.K C f cda cc fd) (O : OexC X.K C) (I : Inv X pins σ H s)
    (hfu : X.env.func = some f) (hcode : X.env.code = .ref cda) (hks : Gl X "super") (hkc : X.env.kindOf "__class__" = some .free) (hka : X.env.kindOf "self" = some .local) (hcl : X.env.cells.lookup ("__class__" : Str) = some cc)
    (hmg : X.mg "super" = none) (hN : X.N[0]? = some ("self" : Str)) (h0 : σ[0]? = some (some (.ref a))) (ea : H a = some (exo a C none)) (ha : PA X [e] ta) {Q : PySem.Flow → Shared → Prop} {E : Value → Shared → Prop} (hxe : X.xe = E)
    {pl : Sem Bool} (he : eval (.Call (.Attribute (.Call (.Name "super" p0) [] [] p1) "__init__" p2) [e] [] p3) X.env = (do
      let ov ← attributeBase (.Call (.Name "super" p0) [] [] p1) "__init__" X.env (eval (.Call (.Name "super" p0) [] [] p1) X.env)
      standAt p2.atName
      let (f, first) ← holding [ov] (getMethod ov "__init__" pl)
      callWith p3 f first (backTo p3 (starEach [e] X.env)) []))
    (hs : swapsWith (.Call (.Attribute (.Call (.Name "super" p0) [] [] p1) "__init__" p2) [e] [] p3) none p4.line X.env = pure false)
    (hse : starEach (e :: []) X.env = (false, eval e X.env) :: starEach [] X.env)
    {R : Hp → Prop} (h : ta σ H fun vs H1 => vs.length ≤ 1000 ∧ H1 a = some (exo a C none) ∧ R H1) (hR : ∀ H1 s1, R H1 → Inv X pins σ H1 s1 → Q .next s1) :
    PySem.wpAt (model X.prog X.w) X.A (.func body X.env) (exec (.Expr (.Call (.Attribute (.Call (.Name "super" p0) [] [] p1) "__init__" p2) [e] [] p3) p4) X.env) Q E s := by
  subst hxe
  obtain ⟨oc1, od1, sl1, ar, lf, har, hself⟩ := S.fn
  obtain ⟨oc2, od2, vs2, sl2, file, tf, lc, hvs, hfile⟩ := S.code
  obtain ⟨oc3, od3, sl3, lcell⟩ := S.cell
  obtain ⟨nm, q, N, bs, bm, sn, sub, ab, col, dd, k0, k1, k2, k3, k5, hC, hbm⟩ := O.cls
  have hcd : clsIn X.K C = some { name := nm, bases := bs, mro := .ref C :: bm, ns := N, qualname := q, hasDict := true, slotNames := sn, subclasses := sub, abstract := ab, collection := col, hasDel := false } := by unfold clsIn; rw [hC] <;> rfl
  have Kin := I.kIn
  obtain ⟨t0, hoe⟩ := exo_at I.hok ea
  obtain ⟨m, hns, hloc⟩ := I.loc
  obtain ⟨u0, hu0, hlk⟩ := hloc 0 "self" (.ref a) hN h0 (.inl hka)
  obtain rfl : u0 = Value.ref a := hu0
  have hm0 : m ("self" : Str) = some (.ref a) := by
    rcases hlk with ⟨_, z⟩ | ⟨z, _⟩
    · exact z
    · rw [hka] at z
      rcases z with z | z <;> cases z
  have kk : X.env.scope.kind = .function := I.ok.kind
  have hCh : s.heap.get? C = some _ := Kin _ _ hC
  refine ks_wpAt_Expr_any (ks_wpAt_MethodCall (pl := pl) ?_ he) (by simp [interactive, kk]) hs
  obtain ⟨hp, g, dr, tk, os⟩ := s
  have hx : hp.get? a = some { cls := .ref C, dict := none, data := .fields #[.ref t0, .none, .none, .none, .bool false, .none] } := hoe
  have hne : a ≠ C := fun z => by
    have y : hp.get? C = some _ := hCh
    rw [← z, hx] at y
    cases y
  refine ks_wpAt_super_base hks hkc (by decide) hfu (Kin _ _ lf) rfl har hcode (Kin _ _ lc) rfl hvs hfile S.top ?_
  obtain ⟨mb, hb1, hb2⟩ := I.mod.blt
  refine ks_loadName_global kk hks (PySem.Calls.loadGlobal_builtin (by rw [I.ok.glob]; exact I.mod.glob.keeps I.bk) hmg (by rw [I.ok.blt]; exact hb1.keeps I.bk) ((hb2 _ (by decide)).trans (by decide +kernel)) ⟨rfl, ?_⟩)
  refine wpAny_loadName_free kk hkc hcl ⟨_, Kin _ _ lcell, rfl⟩ ?_
  rw [hself]
  refine wpAny_loadName_local kk hka hns hm0 ?_
  refine ks_wpAny_isType_cls (Kin _ _ hC) rfl ⟨rfl, ?_⟩
  refine ks_wpAny_call_super (Kin _ _ hC) rfl hx rfl (fun c z => by cases z) (looks_mroIn Kin S.sub) (fun h1 hso k1 => ?_)
  have I1 : Inv X pins σ H ⟨h1, g, dr, tk, os⟩ := I.kept k1
  have K1 := I1.kIn
  have hx1 := k1 _ _ hx
  have hIn : Looks (model X.prog X.w) h1 (isInstance (.ref a) (.type "ValueError")) true :=
    (show PySem.W.InstAt h1 a _ C none from ⟨hx1, rfl, rfl, trivial⟩).type.andThen (looks_subIn K1 S.ve)
  have hal : alongIn X.K "__init__" (((Value.ref C :: bm).dropWhile (· != .ref C)).drop 1) = some (some (.builtin "ValueError.__init__")) := by
    have y := S.along
    unfold ks_superIn at y
    rw [hcd] at y
    exact y
  refine kxs_getMethod kxs_ValueError hso (looks_opaque K1 S.tp) (l₀ := .ref C :: bm) (fun A Q E s k q => wpAny_bind ((looks_clsIn K1 hcd) A _ E s k (wpAny_pure q))) rfl K1 hal hIn hne (by decide) ?_
  have k2 : ∀ b o, h1.get? b = some o → (h1.push (kxs_mw "ValueError.__init__" a)).get? b = some o := fun b o z => Heap.get?_push_of_some _ z
  have I2 : Inv X (pins ++ [(h1.objs.size, kxs_mw "ValueError.__init__" a)]) σ H ⟨h1.push (kxs_mw "ValueError.__init__" a), g, dr, tk + 1, os⟩ := by
    have J : Inv X pins σ H ⟨h1.push (kxs_mw "ValueError.__init__" a), g, dr, tk + 1, os⟩ := I1.kept (t' := tk + 1) k2
    refine J.pins_of fun p hp => ?_
    rcases List.mem_append.mp hp with hp | hp
    · exact J.pin p (List.mem_append_right _ hp)
    · obtain rfl := List.mem_singleton.mp hp
      exact ⟨Heap.get?_push_at rfl rfl, I1.hok.fresh (Nat.le_refl _), Nat.ne_of_gt I1.lt, I1.nofs (Nat.le_refl _), fun v z => by cases z⟩
  have run := ha.run p3 _ _ σ H _ I2 h
  rw [hse] at run ⊢
  refine kxs_callWith (i := "ValueError.__init__") (x := a) rfl (evalArgs_plain (thn run fun us s3 hh => ?_))
  obtain ⟨vs, H1, I3, rv, hl, ea1, hq⟩ := hh
  have hu := (I3.pin _ (List.mem_append_right _ (List.mem_append_right _ (List.mem_singleton.mpr rfl)))).1
  refine ⟨hu, ?_⟩
  have hlen : us.length ≤ sizeLine := by
    rw [← Paired.length rv, sizeLine_eq]
    omega
  obtain ⟨t1, hoe1⟩ := exo_at I3.hok ea1
  have K3 := I3.kIn
  obtain ⟨hp3, g3, dr3, tk3, os3⟩ := s3
  refine (wpAny_call (codeAny_of_tree ?_))
  show wpAny _ X.A.in1 (callAny (.ref h1.objs.size) ⟨us, []⟩) _ _ _
  simp only [callAny]
  refine wpAny_bind (wpAny_load hu ?_)
  simp only [kxs_mw, show (Value.type "method-wrapper" == Value.type "method" || Value.type "method-wrapper" == Value.type "builtin_function_or_method" || Value.type "method-wrapper" == Value.type "method-wrapper") = true by decide, if_true]
  refine KFB.if_so (by decide) (wpAny_bind (check_bound_init PySem.F.excBase_ValueError.toExcCallFacts (K3 _ _ hC) hoe1 rfl (wpAny_bind (wpAny_pure (wpAny_pure ?_)))))
  refine ⟨plainId_quiet PySem.F.excBase_ValueError.init.plain _, codeAny_builtin PySem.F.excBase_ValueError.initEntry ?_⟩
  refine exc_init_tree (cls := .ref C) (t0 := t1) (dv := none) (c2 := .none) (c3 := .none) (b4 := .bool false) hoe1 hlen fun h' k hx' _ => ?_
  have J := I3.write (t' := tk3) (x := a) (e := a) (o := exo a C none) (by rw [ea1]; exact True.intro) (.inl rfl) k ⟨_, hx'⟩ (exo_ok hx')
  have eu : upd H1 a (exo a C none) = H1 := by
    funext b
    by_cases hb : b = a
    · rw [hb, upd_same, ea1]
    · rw [upd_ne hb]
  rw [eu] at J
  exact hR _ _ hq (J.pins_of fun p hp => J.pin p (List.mem_append_right _ (List.mem_append_left _ hp)))
end
section
open PySem.W PyProof.Rows NdefX
variable {P : Program} {w : World} {K : PySem.W.Frag} {mg : Str → Option Value} {base : Heap} {CX : CXT}
/-- the __init__ of an exception class: super().__init__(e), then the rest -/
theorem supinit_ok {k : Nat} {C f cda cc : Addr} {fd : FuncData} {qual : Str} {params : Arguments} {body rest : List Stmt} {scope : Scope} {kV doc pm ct : Value} {an : Option Addr} {N ps : List Str} {sp : Sp} {e : Expr} {p0 p1 p2 p3 p4 : Pos} {pl : Sem Bool}
    (hfd : fd = PySem.W.fnX "__init__" qual params body scope [("__class__", cc)] .none kV doc pm an (.ref cda) ct) (S : SupC P K C f cda cc fd) (O : OexC K C) (hcd : codeIn K (.ref cda) qual = true) (NS : NScope N ps ["__class__"] scope) (hN : N[0]? = some ("self" : Str))
    (hsu : scope.names.lookup ("super" : Str) = some .globalImplicit) (hse0 : scope.names.lookup ("self" : Str) = some .local) (hmg : mg "super" = none)
    (hbody : body = .Expr (.Call (.Attribute (.Call (.Name "super" p0) [] [] p1) "__init__" p2) [e] [] p3) p4 :: rest)
    (len : ∀ vs H Q E, sp vs H Q E → vs.length = ps.length)
    (he : ∀ env : Env, env.scope = scope → eval (.Call (.Attribute (.Call (.Name "super" p0) [] [] p1) "__init__" p2) [e] [] p3) env = (do
      let ov ← attributeBase (.Call (.Name "super" p0) [] [] p1) "__init__" env (eval (.Call (.Name "super" p0) [] [] p1) env)
      standAt p2.atName
      let (f, first) ← holding [ov] (getMethod ov "__init__" pl)
      callWith p3 f first (backTo p3 (starEach [e] env)) []))
    (hs : ∀ env : Env, env.scope = scope → swapsWith (.Call (.Attribute (.Call (.Name "super" p0) [] [] p1) "__init__" p2) [e] [] p3) none p4.line env = pure false)
    (hse : ∀ env : Env, starEach (e :: []) env = (false, eval e env) :: starEach [] env)
    (hrun : ∀ (A : Around) (outer : List Env) (s : Shared) (H : Hp) (vs : List V) (Q : VK) (E : XK), Room k (A.deeper (envF ⟨"__init__", qual, params, body, scope, [("__class__", cc)], cda⟩ f s.heap.objs.size)) → sp vs H Q E →
      ∃ (a : Addr) (ta : TA) (tr : TS), (startF N vs [none])[0]? = some (some (.ref a)) ∧ H a = some (exo a C none) ∧ PA (ncx CX P w K mg base N ⟨"__init__", qual, params, body, scope, [("__class__", cc)], cda⟩ f A outer s H E) [e] ta ∧
        PSs (ncx CX P w K mg base N ⟨"__init__", qual, params, body, scope, [("__class__", cc)], cda⟩ f A outer s H E) rest tr ∧
        ta (startF N vs [none]) H (fun us H1 => us.length ≤ 1000 ∧ H1 a = some (exo a C none) ∧ tr { nx := fun _ H' => Q .non H', rt := Q } (startF N vs [none]) H1)) :
    FnOk P w K mg base CX (k + 1) f fd ps sp := by
  refine ⟨len, fun A outer s H args us vs Q E hr e0 hb r hsp => ?_⟩
  have hl := len _ _ _ _ hsp
  have sin : K.In s.heap := e0.mod.kin.keeps fun b o z => (e0.bs b o z).1
  have lim : s.heap.NoLimit := e0.mod.nolimit.keeps fun b o z => (e0.bs b o z).1
  obtain ⟨oc1, od1, sl1, ar, lf, har, hself⟩ := S.fn
  obtain ⟨oc3, od3, sl3, lcell⟩ := S.cell
  obtain ⟨a, ta, tr, h0, ea, ha, ht, hq⟩ := hrun A outer s H vs Q E (hr.deeper _) hsp
  have hlook : ∀ (y : Str) (c : Addr), List.lookup y [(("__class__" : Str), cc)] = some c → y = "__class__" ∧ c = cc := fun y c z => by
    by_cases hy : y = "__class__"
    · subst hy
      simp [List.lookup] at z
      exact ⟨rfl, z.symm⟩
    · have q : (y == ("__class__" : Str)) = false := by simpa using hy
      simp [List.lookup, q] at z
  have cells : CellsAt [(("__class__" : Str), cc)] ["__class__"] [none] s.heap H := by
    refine ⟨rfl, fun y c z => ?_, fun x y c z1 z2 => (hlook x c z1).1.trans (hlook y c z2).1.symm, fun i y z => ?_⟩
    · obtain ⟨_, rfl⟩ := hlook y c z
      exact ⟨(e0.bs _ _ (e0.mod.kin _ _ lcell)).2, _, ⟨_, sin _ _ lcell, rfl⟩⟩
    · match i, z with
      | 0, z => exact ⟨cc, by rw [← Option.some.inj z]; simp [List.lookup], fun v z2 => by cases z2⟩
  subst hfd
  refine ks_codeAny_call_defAt (binds := ps.zip us) hr.depth (sin _ _ lf) rfl lim (codeRec_of sin hcd) rfl hb NS.nocell (fun x hx => ?_) (fun h₁ hns kp => ?_) NS.co NS.gen NS.kind
  · obtain ⟨n, v⟩ := x
    exact NS.par n (List.of_mem_zip hx).1
  have I : Inv (ncx CX P w K mg base N ⟨"__init__", qual, params, body, scope, [("__class__", cc)], cda⟩ f A outer s H E) [] (startF N vs [none]) H { s with heap := h₁, toks := s.toks + (ps.zip us).length } := inv_startN NS hr.hd e0 hl r cells hns kp
  generalize hX : ncx CX P w K mg base N ⟨"__init__", qual, params, body, scope, [("__class__", cc)], cda⟩ f A outer s H E = X at I ha ht
  have xprog : X.prog = P := by rw [← hX]; rfl
  have xw : X.w = w := by rw [← hX]; rfl
  have xA : X.A = A.deeper (envF ⟨"__init__", qual, params, body, scope, [("__class__", cc)], cda⟩ f s.heap.objs.size) := by rw [← hX]; rfl
  have xenv : X.env = envF ⟨"__init__", qual, params, body, scope, [("__class__", cc)], cda⟩ f s.heap.objs.size := by rw [← hX]; rfl
  have fin : ∀ {σ' : L2.St} {H' : Hp} {s' : Shared} {v : V} {u : Value}, Inv X [] σ' H' s' → L2.RelV v u → Q v H' → CE outer P w H s Q u s' := by
    subst hX
    exact fun {σ' H' s' v u} J rv q => ⟨v, H', J.os, J.bare, J.base, J.hok, rv, q⟩
  have S' : SupC X.prog X.K C f cda cc (PySem.W.fnX "__init__" qual params body scope [("__class__", cc)] .none kV doc pm an (.ref cda) ct) := by subst hX; exact S
  have O' : OexC X.K C := by subst hX; exact O
  have go := sup_exec (body := body) (e := e) (p0 := p0) (p1 := p1) (p2 := p2) (p3 := p3) (p4 := p4) (pl := pl) (a := a) (ta := ta) (Q := fun fl s' => match fl with
      | .next => PySem.wpAt (model X.prog X.w) X.A (.func body X.env) (execs rest X.env) (fun fl s' => CR CX outer P w H s Q E (.ok (.ret (match fl with | .ret v => v | _ => .none))) s') X.xe s'
      | fl => CR CX outer P w H s Q E (.ok (.ret (match fl with | .ret v => v | _ => .none))) s') S' O' I
    (by rw [xenv]) (by rw [xenv]) (by show X.env.kindOf _ = _; rw [xenv]; exact hsu) (by rw [xenv]; exact NS.frk _ (List.mem_singleton.mpr rfl)) (by rw [xenv]; exact hse0) (by rw [xenv]; simp [List.lookup])
    (by subst hX; exact hmg) (by subst hX; exact hN) h0 ea ha rfl (he _ (by rw [xenv])) (hs _ (by rw [xenv])) (hse _) (R := fun H1 => tr { nx := fun _ H' => Q .non H', rt := Q } (startF N vs [none]) H1) hq (fun H1 s1 hr1 J => by
      show PySem.wpAt (model X.prog X.w) X.A _ (execs rest X.env) _ X.xe s1
      refine wpAt_of_wpAny (wpAny_mono (ht.run [] s1 (startF N vs [none]) H1 _ J hr1) (fun fl s' hs' => ?_) fun e s' hs' => hs')
      cases fl with
      | ret u =>
        obtain ⟨v, σ', H', J', rv, q⟩ := hs'
        exact fin J' rv q
      | next =>
        obtain ⟨σ', H', J', q⟩ := hs'
        exact fin (v := V.non) (u := Value.none) J' rfl q
      | brk =>
        obtain ⟨_, _, _, q⟩ := hs'
        exact False.elim q
      | cont =>
        obtain ⟨_, _, _, q⟩ := hs'
        exact False.elim q)
  subst hX
  show PySem.wpAt (model P w) _ (.func body (envF ⟨"__init__", qual, params, body, scope, [("__class__", cc)], cda⟩ f s.heap.objs.size)) (execs body (envF ⟨"__init__", qual, params, body, scope, [("__class__", cc)], cda⟩ f s.heap.objs.size)) _ _ _
  have ex : execs body (envF ⟨"__init__", qual, params, body, scope, [("__class__", cc)], cda⟩ f s.heap.objs.size) = execs (.Expr (.Call (.Attribute (.Call (.Name "super" p0) [] [] p1) "__init__" p2) [e] [] p3) p4 :: rest) (envF ⟨"__init__", qual, params, body, scope, [("__class__", cc)], cda⟩ f s.heap.objs.size) := by
    conv => lhs; arg 1; rw [hbody]
  rw [ex]
  exact ks_wpAt_execs_cons (ks_wpAt_mono go (fun fl s' q => by cases fl <;> exact q) fun _ _ x => x)
end
/-! ### instances made where what is raised is caught -/
def tMakeS (C : Addr) (sp : Sp) (dvs : List V) (E : L2.St → XK) (t : TA) : TE := fun σ H Q => t σ H fun vs H1 => ∀ x dx, H1 x = none → H1 dx = none → dx ≠ x →
  sp (.ref x :: (vs ++ dvs)) (upd (upd H1 dx (.own x)) x (.ins C dx [])) (fun v H2 => v = .non ∧ Q (.ref x) H2) (E σ)
def tMakeKS (C : Addr) (n m : Nat) (sp : Sp) (gV : List V → List V → List V) (E : L2.St → XK) (t tk : TA) : TE := fun σ H Q => t σ H fun vs H1 => tk σ H1 fun zs H2 => vs.length = n ∧ zs.length = m ∧ ∀ x dx, H2 x = none → H2 dx = none → dx ≠ x →
  sp (gV (.ref x :: vs) zs) (upd (upd H2 dx (.own x)) x (.ins C dx [])) (fun v H3 => v = .non ∧ Q (.ref x) H3) (E σ)
section
open PyProof.Rows
variable {X : Cx} {CX : CXT} {k n : Nat} {f C : Addr} {fd : FuncData} {ps ks : List Str} {sp : Sp} {E : L2.St → XK} {dvs : List V} {ds : List Value} {x : Str} {p pos : Pos} {e : Expr} {es : List Expr} {kws : List Keyword} {t tk : TA} {g : List Value → List Value → List Value} {gV : List V → List V → List V}
theorem run_madeS {pins : List (Addr × Obj)} {σ : L2.St} {H : Hp} {s : Shared} {Q : VK} {args : Args} {us' : List Value} {vs' : List V} (M : Mk X.K C f) (F : FnOk X.prog X.w X.K X.mg X.base CX k f fd ps sp) (hr : Room (k + 1) X.A) (hx : PassesAt CX X σ (E σ)) (I : Inv X pins σ H s)
    (hb : ∀ s' : Shared, X.K.In s'.heap → BindsTo s' fd ⟨Value.ref (s.heap.objs.size + 1) :: args.pos, args.kw⟩ (ps.zip us')) (rv : Vals vs' us')
    (h : sp vs' (upd (upd H s.heap.objs.size (.own (s.heap.objs.size + 1))) (s.heap.objs.size + 1) (.ins C s.heap.objs.size [])) (fun v H2 => v = .non ∧ Q (.ref (s.heap.objs.size + 1)) H2) (E σ)) :
    wpAny (model X.prog X.w) X.A (call (.ref C) args.pos args.kw) (EP X pins σ Q) X.xe s := by
  have J := Inv.made (C := C) I
  refine (wpAny_call (make_map (f := f) I.kIn M.makes M.init (beq_iff_eq.mp M.fn) (codeAny_mono (F.run _ X.stack _ _ ⟨Value.ref (s.heap.objs.size + 1) :: args.pos, args.kw⟩ us' vs' _ (E σ) (hr.make C args.pos args.kw) (J.env0.make C args.pos args.kw) (hb _ J.kIn) rv h) fun r s1 hq => ?_)))
  cases r with
  | error err => exact hx pins _ _ err s1 J hq
  | ok fl =>
    cases fl with
    | ret u =>
      obtain ⟨v, H3, I3, r3, e3, q3⟩ := J.after hq
      subst e3
      exact ⟨r3, V.ref (s.heap.objs.size + 1), H3, I3, rfl, q3⟩
    | next => exact hq.elim
    | brk => exact hq.elim
    | cont => exact hq.elim
theorem pe_makeS (M : Mk X.K C f) (F : FnOk X.prog X.w X.K X.mg X.base CX k f fd ps sp) (hr : Room (k + 1) X.A) (hg : Gl X x) (hm : X.mg x = some (.ref C)) (hb : Binds X.K fd ps ds) (hd : Vals dvs ds) (hx : ∀ σ, PassesAt CX X σ (E σ))
    (ha : PA X (e :: es) t) (hdb : (x == ("__debug__" : Str)) = false := by decide) (he : starEach (e :: es) X.env = (false, eval e X.env) :: starEach es X.env := by rfl) (hpl : (backTo pos (starEach es X.env)).any (·.1) = false := by rfl) :
    PE X (.Call (.Name x p) (e :: es) [] pos) (tMakeS C sp dvs E t) := by
  refine ⟨fun pins s σ H Q I h => wpAny_Call_Name_kw (ld_glob I hg hm ?_ hdb)⟩
  refine PySem.W.callWith_K (h₀ := X.base) I.ok.mod.kin M.kp (thn (ha.run pos pins s σ H _ I h) fun us s1 ⟨vs, H1, I1, r, q⟩ => ⟨I1.kIn, ?_⟩) he hpl
  have hq := q (s1.heap.objs.size + 1) s1.heap.objs.size (I1.hok.fresh (Nat.le_succ _)) (I1.hok.fresh (Nat.le_refl _)) (Nat.ne_of_lt (Nat.lt_succ_self _))
  have r2 : Vals (V.ref (s1.heap.objs.size + 1) :: (vs ++ dvs)) (Value.ref (s1.heap.objs.size + 1) :: us ++ ds) := .cons rfl (r.append hd)
  refine run_madeS (args := ⟨us, []⟩) (us' := Value.ref (s1.heap.objs.size + 1) :: us ++ ds) M F hr (hx σ) I1 (fun s' K' => hb s' _ K' ?_) r2 hq
  have z := r2.length
  rw [F.len _ _ _ _ hq] at z
  exact z.symm
theorem pe_makeKS (M : Mk X.K C f) (F : FnOk X.prog X.w X.K X.mg X.base CX k f fd ps sp) (hr : Room (k + 1) X.A) (hg : Gl X x) (hm : X.mg x = some (.ref C)) (hb : KBn X.K fd ps (n + 1) ks g gV) (hx : ∀ σ, PassesAt CX X σ (E σ)) (ha : PA X (e :: es) t) (hkw : PK X kws tk)
    (hall : (backToKw pos (keywordEach kws X.env)).all (·.1.isSome) = true := by rfl) (hks : (backToKw pos (keywordEach kws X.env)).filterMap (·.1) = ks := by rfl) (hdb : (x == ("__debug__" : Str)) = false := by decide)
    (he : starEach (e :: es) X.env = (false, eval e X.env) :: starEach es X.env := by rfl) (hpl : ((backTo pos (starEach (e :: es) X.env)).any (·.1) || (backToKw pos (keywordEach kws X.env)).any (·.1.isNone)) = false := by rfl) :
    PE X (.Call (.Name x p) (e :: es) kws pos) (tMakeKS C n ks.length sp gV E t tk) := by
  refine ⟨fun pins s σ H Q I h => wpAny_Call_Name_kw (ld_glob I hg hm ?_ hdb)⟩
  refine PySem.W.callWith_KW (h₀ := X.base) I.ok.mod.kin M.kp hall (thn (ha.run pos pins s σ H _ I h) fun us s1 ⟨vs, H1, I1, r, q⟩ => ?_) hpl he
  refine thn (hkw.run pos pins s1 σ H1 _ I1 q) fun ws s2 ⟨zs, H2, I2, rz, l1, l2, q2⟩ => ⟨I2.kIn, ?_⟩
  rw [hks]
  have hq := q2 (s2.heap.objs.size + 1) s2.heap.objs.size (I2.hok.fresh (Nat.le_succ _)) (I2.hok.fresh (Nat.le_refl _)) (Nat.ne_of_lt (Nat.lt_succ_self _))
  have r1 : Vals (V.ref (s2.heap.objs.size + 1) :: vs) (Value.ref (s2.heap.objs.size + 1) :: us) := .cons rfl r
  have n1 : (Value.ref (s2.heap.objs.size + 1) :: us).length = n + 1 := by rw [List.length_cons, ← r.length, l1]
  exact run_madeS (args := ⟨us, ks.zip ws⟩) M F hr (hx σ) I2 (fun s' K' => hb.to s' _ ws K' n1 (rz.length.symm.trans l2)) (hb.rel r1 rz) hq
/-- nothing is caught further out -/
theorem tk_no {X : Cx} : Takes X (fun _ _ _ _ => False) := by
  intro u s' q
  obtain ⟨_, _, _, _, _, _, _, _, _, _, _, _, _, _, _, _, w⟩ := q
  exact w.elim
/-! ### isinstance of a caught error -/
def rIsX (K : PySem.W.Frag) (a : Addr) (cls : Value) (d : Option Addr) : List V → Hp → VK → Prop := fun xs H Q => ∃ (D : Addr) (c : V) (cv : Value) (b : Bool) (dd : Addr) (fs : List (Str × V)), xs = [.ref a, c] ∧ cls = .ref D ∧ ExcC K D ∧ d = some dd ∧ H dd = some (.xd fs) ∧ ClsV c cv ∧ PySem.W.kitOne K (.ref D) cv = some b ∧ Q (.bl b) H
theorem call_isX {a : Addr} {oe : Obj} {cls : Value} {d : Option Addr} {pn : List (Addr × Obj)} (hz : Zc cls d oe) (hf : ∃ vs, oe.data = .fields vs) : CallR (X.suite a ((a, oe) :: pn)) (.builtin "isinstance") (rIsX X.K a cls d) := by
  intro pins s σ H xs us Q I r h
  obtain ⟨D, c, cv, b, dd, fs, rfl, rfl, C, rfl, ed, hcv, e, q⟩ := h
  cases r with
  | cons rx rr =>
    cases rr with
    | cons rt rr =>
      cases rr
      cases rx
      have ec := hcv.eq rt
      subst ec
      obtain ⟨hget, _⟩ := I.pin (a, oe) (List.mem_append.mpr (.inl List.mem_cons_self))
      obtain ⟨vs, hv⟩ := hf
      have hx : ObjOk X.prog X.w H s.heap dd (.xd fs) := I.hok dd _ ed
      obtain ⟨mA, hns, _⟩ := hx
      obtain ⟨od, ho, _⟩ := lookIn_ns hns
      have J : PySem.W.InstAt s.heap a oe D (some od) := ⟨hget, hz.1, by unfold PySem.W.notCls; rw [hv] <;> rfl, by rw [hz.2]; exact ho⟩
      have hcl : (PySem.W.clsIn X.K D).isSome = true := by
        have q := C.hd
        unfold PySem.W.hasDictIn at q
        cases z : PySem.W.clsIn X.K D with
        | none => rw [z] at q; cases q
        | some _ => rfl
      exact PySem.W.kia_one (PySem.W.kitx_exc hcl C.hg C.hk C.hs C.ha C.hn C.ht C.hm) I.kIn J e (fun z => nomatch z) fun tk => ⟨.bl b, H, I.kept (t' := tk) fun _ _ z => z, rfl, q⟩
end
end My

namespace My
open PySem L2
def top (i : Nat) : Stmt := PySem.Challenge.pw_counthall_k04_claim_refusals.main.body.getD i (.Pass ⟨0, 0, 0, 0⟩)
abbrev s_InvalidClaimI__initI : Stmt := inClass (top 4) 0
abbrev s_ClaimI__initI : Stmt := inClass (top 10) 0
abbrev s_Claim_parts : Stmt := inClass (top 10) 5
abbrev s_law_source : Stmt := top 12
abbrev s_law_draw : Stmt := top 13
abbrev s_law_whole : Stmt := top 14
abbrev s_law_node : Stmt := top 15
abbrev s_law_clip : Stmt := top 16
abbrev s_law_bounds : Stmt := top 17
abbrev s_law_wrong : Stmt := top 18
abbrev s_law_same : Stmt := top 19
abbrev s_law_asked : Stmt := top 20
abbrev s_law : Stmt := top 21
theorem sc_ClaimI__initI : FnScope ["self", "first", "second", "low", "high", "weight"] ["self", "first", "second", "low", "high", "weight"] (defScope s_ClaimI__initI) := ⟨rfl, rfl, rfl, by decide +kernel, rfl, by decide +kernel, by decide +kernel⟩
theorem sc_Claim_parts : FnScope ["self"] ["self"] (defScope s_Claim_parts) := ⟨rfl, rfl, rfl, by decide +kernel, rfl, by decide +kernel, by decide +kernel⟩
theorem sc_law_source : FnScope ["_law_script", "_law_place"] ["_law_script", "_law_place"] (defScope s_law_source) := ⟨rfl, rfl, rfl, by decide +kernel, rfl, by decide +kernel, by decide +kernel⟩
theorem sc_law_draw : FnScope ["_law_source_here", "_law_size", "_law_cell", "_law_mixed"] ["_law_source_here", "_law_size"] (defScope s_law_draw) := ⟨rfl, rfl, rfl, by decide +kernel, rfl, by decide +kernel, by decide +kernel⟩
theorem sc_law_whole : FnScope ["_law_actual"] ["_law_actual"] (defScope s_law_whole) := ⟨rfl, rfl, rfl, by decide +kernel, rfl, by decide +kernel, by decide +kernel⟩
theorem sc_law_node : FnScope ["_law_source_here", "_law_shape"] ["_law_source_here"] (defScope s_law_node) := ⟨rfl, rfl, rfl, by decide +kernel, rfl, by decide +kernel, by decide +kernel⟩
theorem sc_law_clip : FnScope ["_law_number"] ["_law_number"] (defScope s_law_clip) := ⟨rfl, rfl, rfl, by decide +kernel, rfl, by decide +kernel, by decide +kernel⟩
theorem sc_law_bounds : FnScope ["_law_source_here", "_law_low", "_law_shape", "_law_bounds_here", "_law_sides"] ["_law_source_here"] (defScope s_law_bounds) := ⟨rfl, rfl, rfl, by decide +kernel, rfl, by decide +kernel, by decide +kernel⟩
theorem sc_law_wrong : FnScope ["_law_tell"] ["_law_tell"] (defScope s_law_wrong) := ⟨rfl, rfl, rfl, by decide +kernel, rfl, by decide +kernel, by decide +kernel⟩
theorem sc_law_same : FnScope ["_law_actual", "_law_tell", "_law_index"] ["_law_actual", "_law_tell"] (defScope s_law_same) := ⟨rfl, rfl, rfl, by decide +kernel, rfl, by decide +kernel, by decide +kernel⟩
theorem sc_law_asked : FnScope ["_law_tell", "_law_left", "_law_wrong_here", "_law_claim", "e"] ["_law_tell", "_law_left"] (defScope s_law_asked) := ⟨rfl, rfl, rfl, by decide +kernel, rfl, by decide +kernel, by decide +kernel⟩
theorem sc_law : FnScope ["_law_script", "_law_source_here", "_law_first", "_law_second", "_law_bounds_here", "_law_side", "_law_mass", "_law_left", "_law_tell", "_law_nodes"] ["_law_script"] (defScope s_law) := ⟨rfl, rfl, rfl, by decide +kernel, rfl, by decide +kernel, by decide +kernel⟩
/-! ### sources and draws -/
/-- a source of draws: a list of two whole numbers -/
def Src (H : Hp) (a : Addr) : Prop := ∃ c p : Int, H a = some (.lst [.int c, .int p])
/-- the heap without the listed objects -/
def wo (S : List Addr) (H : Hp) : Hp := fun b => if b ∈ S then none else H b
theorem wo_out {S : List Addr} {H : Hp} {b : Addr} (h : b ∉ S) : wo S H b = H b := if_neg h
theorem wo_in {S : List Addr} {H : Hp} {b : Addr} (h : b ∈ S) : wo S H b = none := if_pos h
theorem wo_same (S : List Addr) (H : Hp) : Same (wo S H) H := fun b o e => by
  by_cases h : b ∈ S
  · rw [wo_in h] at e; cases e
  · rw [wo_out h] at e; exact e
theorem Same.wo {S : List Addr} {H H' : Hp} (s : Same H H') : Same (wo S H) (wo S H') := fun b o e => by
  by_cases h : b ∈ S
  · rw [wo_in h] at e; cases e
  · rw [wo_out h] at e ⊢; exact s b o e
/-- only the object at a may have changed -/
def But (a : Addr) (H H' : Hp) : Prop := ∀ b o, b ≠ a → H b = some o → H' b = some o
theorem But.wo {a : Addr} {S : List Addr} {H H' : Hp} (s : But a H H') (h : a ∈ S) : Same (wo S H) (wo S H') := fun b o e => by
  by_cases k : b ∈ S
  · rw [wo_in k] at e; cases e
  · rw [wo_out k] at e ⊢
    exact s b o (fun z => k (z ▸ h)) e
theorem But.upd {a : Addr} {o : HO} {H : Hp} : But a H (upd H a o) := fun b o e h => by rw [upd_ne e]; exact h
theorem But.trans {a : Addr} {H H1 H2 : Hp} (s : But a H H1) (t : But a H1 H2) : But a H H2 := fun b o e h => t b o e (s b o e h)
theorem But.refl (a : Addr) (H : Hp) : But a H H := fun _ _ _ h => h
theorem Same.but {a : Addr} {H H' : Hp} (s : Same H H') : But a H H' := fun b o _ h => s b o h
theorem Same.new {H : Hp} {p : Addr} {o : HO} (h : H p = none) : Same H (upd H p o) := fun b u e => by
  rw [upd_ne (ne_of_none e h)]; exact e
theorem But.new {a : Addr} {H : Hp} {p : Addr} {o : HO} (h : H p = none) : But a H (L2.upd H p o) := fun b u _ e => Same.new h b u e
theorem small6 {n : Nat} (h : n ≤ 100000) : n < sizeLine := Nat.lt_of_le_of_lt h (by decide)
theorem small6' {n : Nat} (h : n ≤ 100000) : n ≤ sizeLine := Nat.le_of_lt (small6 h)
theorem Src.at {H H' : Hp} {a b : Addr} (h : Src H a) (s : But b H H') (n : a ≠ b) : Src H' a := by
  obtain ⟨c, p, e⟩ := h
  exact ⟨c, p, s a _ n e⟩
theorem Src.same {H H' : Hp} {a : Addr} (h : Src H a) (s : Same H H') : Src H' a := by
  obtain ⟨c, p, e⟩ := h
  exact ⟨c, p, s a _ e⟩
theorem Src.ne {H : Hp} {a p : Addr} (h : Src H a) (n : H p = none) : p ≠ a := fun z => by
  obtain ⟨c, q, e⟩ := h
  rw [z, e] at n; cases n
def spSource (K : PySem.W.Frag) : Sp := fun vs H Q _ => ∃ (a : Addr) (ns : List Int) (p : Int), vs = [.ref a, .int p] ∧ SqL K H a (ns.map V.int) ∧ 0 ≤ p ∧
  ∀ l H', H l = none → Same H H' → Src H' l → Q (.ref l) H'
def spDraw : Sp := fun vs H Q _ => ∃ (a : Addr) (n : Int), vs = [.ref a, .int n] ∧ Src H a ∧ 0 < n ∧ n < 1073741824 ∧
  ∀ (r : Int) (H' : Hp), 0 ≤ r → r < n → Src H' a → But a H H' → Q (.int r) H'
def spWhole : Sp := fun vs H Q _ => (∃ i : Int, vs = [.int i] ∧ Q (.bl true) H)
theorem But.mut {a l : Addr} {o : HO} {H H' : Hp} (s : But a H H') (h : H l = none) : But a H (L2.upd H' l o) := fun b u nb e => by
  rw [upd_ne (ne_of_none e h)]; exact s b u nb e
theorem Src.set {a l : Addr} {o : HO} {H : Hp} (s : Src H a) (h : l ≠ a) : Src (L2.upd H l o) a := by
  obtain ⟨c, p, e⟩ := s
  exact ⟨c, p, by rw [upd_ne h.symm]; exact e⟩
theorem But.free {a l : Addr} {H H' : Hp} (s : But a H H') (h : H' l = none) (n : l ≠ a) : H l = none := by
  cases e : H l with
  | none => rfl
  | some o => rw [s l o n e] at h; cases h
/-- a new source joins -/
theorem wo_join {S : List Addr} {s : Addr} {H H' : Hp} (e : Same H H') (h : H s = none) : Same (wo S H) (wo (s :: S) H') := fun b o q => by
  have n : b ≠ s := fun z => by
    have q' := wo_same S H b o q
    rw [z, h] at q'; cases q'
  by_cases k : b ∈ S
  · rw [wo_in k] at q; cases q
  · rw [wo_out k] at q
    rw [wo_out (by simp [n, k])]; exact e b o q
theorem wo_join0 {s : Addr} {H H' : Hp} (e : Same H H') (h : H s = none) : Same H (wo [s] H') := fun b o q => wo_join (S := []) e h b o (by rw [wo_out (by simp)]; exact q)
theorem wo_drop {S : List Addr} {s : Addr} {H : Hp} : Same (wo (s :: S) H) (wo S H) := fun b o q => by
  by_cases k : b ∈ s :: S
  · rw [wo_in k] at q; cases q
  · rw [wo_out k] at q
    rw [wo_out (fun z => k (List.mem_cons_of_mem _ z))]; exact q

/-! ### cuts, tests -/
theorem cutS {t u : TS} {D : Ends} {σ : L2.St} {H : Hp} (M : L2.St → Hp → Prop) (hk : ∀ σ' H', M σ' H' → u D σ' H') (h : (∀ σ' H', M σ' H' → u D σ' H') → tSeq t u D σ H) : tSeq t u D σ H := h hk
def PuT (t : TT) (σ : L2.St) (H : Hp) (b : Bool) : Prop := ∀ Q : Bool → Hp → Prop, Q b H → t σ H Q
theorem put_and {t u : TT} {σ : L2.St} {H : Hp} {a b : Bool} (h1 : PuT t σ H a) (h2 : a = true → PuT u σ H b) : PuT (tAnd t u) σ H (a && b) := fun Q q => h1 _ (by
  cases a with
  | true => exact iteT (h2 rfl Q q)
  | false => exact iteF q)
theorem put_or {t u : TT} {σ : L2.St} {H : Hp} {a b : Bool} (h1 : PuT t σ H a) (h2 : a = false → PuT u σ H b) : PuT (tOr t u) σ H (a || b) := fun Q q => h1 _ (by
  cases a with
  | true => exact iteT q
  | false => exact iteF (h2 rfl Q q))
theorem put_not {t : TT} {σ : L2.St} {H : Hp} {a : Bool} (h1 : PuT t σ H a) : PuT (tNot t) σ H (!a) := fun Q q => h1 _ q
theorem put_is {t : TT} {σ : L2.St} {H : Hp} {a b : Bool} (h : PuT t σ H a) (e : a = b) : PuT t σ H b := e ▸ h
theorem ifS_of {c : TT} {t u : TS} {D : Ends} {σ : L2.St} {H : Hp} {b : Bool} (h : PuT c σ H b) (h1 : b = true → t D σ H) (h2 : b = false → u D σ H) : tIfS c t u D σ H := h _ (by
  cases b with
  | true => exact iteT (h1 rfl)
  | false => exact iteF (h2 rfl))
theorem ifE_of {c : TT} {ta tb : TE} {σ : L2.St} {H : Hp} {Q : VK} {b : Bool} (h : PuT c σ H b) (h1 : b = true → ta σ H Q) (h2 : b = false → tb σ H Q) : tIf c ta tb σ H Q := h _ (by
  cases b with
  | true => exact iteT (h1 rfl)
  | false => exact iteF (h2 rfl))
/-- an optional bound -/
def vo : Option Int → V
  | none => .non
  | some i => .int i
theorem vo_non (o : Option Int) : decide (vo o = .non) = o.isNone := by cases o <;> rfl
theorem nxt {F : L2.St → Hp → Prop} {r b c} {σ : L2.St} {H : Hp} (h : F σ H) : tNext { nx := F, rt := r, bk := b, ct := c } σ H := h
theorem nxe {F : L2.St → Hp → Prop} {r b c} {σ : L2.St} {H : Hp} (h : F σ H) : Ends.nx { nx := F, rt := r, bk := b, ct := c } σ H := h
theorem sqIf {c : TT} {t u r : TS} {D : Ends} {σ : L2.St} {H : Hp} {b : Bool} (h : PuT c σ H b) (h1 : b = true → t { D with nx := r D } σ H) (h2 : b = false → u { D with nx := r D } σ H) : tSeq (tIfS c t u) r D σ H := ifS_of h h1 h2
theorem asg {F : L2.St → Hp → Prop} {r b c} {i : Nat} {v : V} {σ : L2.St} {H : Hp} (h : F (σ.set i (some v)) H) : gName i v σ H (Ends.nx { nx := F, rt := r, bk := b, ct := c }) := h
/-- an item of a written list of whole numbers -/
theorem pick : ∀ (vs : List Int) (r : Int), 0 ≤ r → r < vs.length → ∃ v, v ∈ vs ∧ atI (vs.map V.int) r = some (.int v) := fun vs r h0 h1 => by
  obtain ⟨j, rfl⟩ := Int.eq_ofNat_of_zero_le h0
  have hj : j < vs.length := by omega
  exact ⟨vs[j], List.getElem_mem hj, atI_nat (by rw [List.getElem?_map, List.getElem?_eq_getElem hj]; rfl)⟩
theorem dec_int {a b : Int} : decide (V.int a = V.int b) = decide (a = b) := by
  by_cases h : a = b
  · rw [h, decide_eq_true rfl, decide_eq_true rfl]
  · rw [decide_eq_false h, decide_eq_false (fun z => h (V.int.inj z))]
theorem atI0 {xs : List V} {i : Nat} {v : V} (h : xs[i]? = some v) : atI xs (0 + (i : Int)) = some v := by rw [Int.zero_add]; exact atI_nat h
theorem kit_self {K : PySem.W.Frag} {C : Addr} : PySem.W.kitOne K (.ref C) (.ref C) = some true := by
  unfold PySem.W.kitOne
  rw [if_pos (by simp)]
theorem But.same {a : Addr} {H H' : Hp} (b : But a H H') (h : H a = none) : Same H H' := fun c o e => b c o (ne_of_none e h) e
theorem wo_new {H : Hp} {r : Addr} {o : HO} (h : H r = none) : Same H (wo [r] (L2.upd H r o)) := fun b u e => by
  have n : b ≠ r := ne_of_none e h
  rw [wo_out (by simpa using n), upd_ne n]; exact e
theorem wo_upd {H H3 : Hp} {r : Addr} {o : HO} (s : Same H H3) : Same (wo [r] H) (wo [r] (L2.upd H3 r o)) := fun b u e => by
  by_cases n : b = r
  · rw [n, wo_in (by simp)] at e; cases e
  · rw [wo_out (by simpa using n)] at e
    rw [wo_out (by simpa using n), upd_ne n]; exact s b u e
theorem ixN_j {n j : Nat} (h : j < n) : ixN n (j : Int) = some j := by
  unfold ixN
  rw [if_pos (by omega), if_pos (by omega)]
  simp
theorem dp_ints {K : PySem.W.Frag} {H : Hp} : ∀ ns : List Int, DpAll K H (ns.map V.int) (ns.map PyData.int)
  | [] => .nil
  | n :: ns => .cons (.int n) (dp_ints ns)
theorem canLay_ints : ∀ ns : List Int, PyData.canLayAll0 (ns.map PyData.int) = true
  | [] => by simp [PyData.canLayAll0]
  | n :: ns => by simp [PyData.canLayAll0, PyData.canLay0, canLay_ints ns]
theorem depth_ints : ∀ ns : List Int, PyData.depthAll (ns.map PyData.int) ≤ 1
  | [] => by simp [PyData.depthAll]
  | n :: ns => by
    have := depth_ints ns
    simp only [List.map_cons, PyData.depthAll, PyData.depth]
    omega
theorem shaped_ints (ns : List Int) : SeqAt.shaped (.list (ns.map PyData.int)) = true := by
  unfold SeqAt.shaped
  have h := depth_ints ns
  exact Bool.and_eq_true_iff.mpr ⟨by simp [PyData.canLay0, canLay_ints], decide_eq_true (by simp only [PyData.depth]; omega)⟩
theorem eqv_ints (ns : List Int) : PyData.eqv (.list (ns.map PyData.int)) (.list (ns.map PyData.int)) = true :=
  SeqAt.eqv_refl _ (SeqAt.canLay_of_shaped (shaped_ints ns))
theorem dp_list {K : PySem.W.Frag} {H : Hp} {a : Addr} {ns : List Int} (h : SqL K H a (ns.map V.int)) : Dp K H (.ref a) (.list (ns.map PyData.int)) := .lst h (dp_ints ns)
theorem yesT {σ : L2.St} {H : Hp} {A B : Bool → Hp → Prop} (h : A true H) : tYes σ H fun b H3 => if b = true then A b H3 else B b H3 := by
  show if true = true then A true H else B true H
  rw [if_pos rfl]; exact h

/-! ### claims -/
structure Tell where
  f : Nat
  s : Nat
  lo : Option Int
  hi : Option Int
  m : Int
def tv (t : Tell) : List V := [.int t.f, .int t.s, vo t.lo, vo t.hi, .int t.m]
structure Ok (t : Tell) : Prop where
  f : t.f ≤ 15
  s : t.s ≤ 15
  b : ∀ l h, t.lo = some l → t.hi = some h → l ≤ h
  m0 : 1 ≤ t.m
  m1 : t.m ≤ 99
def cf (t : Tell) : List (Str × V) := putF "weight" (.int t.m) (putF "high" (vo t.hi) (putF "low" (vo t.lo) (putF "second" (.int t.s) (putF "first" (.int t.f) []))))
def ClAt (C : Addr) (H : Hp) (p : Addr) (t : Tell) : Prop := ∃ dx, H p = some (.ins C dx (cf t))
theorem ClAt.keep {C p : Addr} {H H' : Hp} {t : Tell} (h : ClAt C H p t) (s : Same H H') : ClAt C H' p t := by
  obtain ⟨dx, e⟩ := h
  exact ⟨dx, s _ _ e⟩
theorem n_fs : ¬ (("first" : Str) = "second") := by decide +kernel
theorem n_fl : ¬ (("first" : Str) = "low") := by decide +kernel
theorem n_fh : ¬ (("first" : Str) = "high") := by decide +kernel
theorem n_fw : ¬ (("first" : Str) = "weight") := by decide +kernel
theorem n_sl : ¬ (("second" : Str) = "low") := by decide +kernel
theorem n_sh : ¬ (("second" : Str) = "high") := by decide +kernel
theorem n_sw : ¬ (("second" : Str) = "weight") := by decide +kernel
theorem n_lh : ¬ (("low" : Str) = "high") := by decide +kernel
theorem n_lw : ¬ (("low" : Str) = "weight") := by decide +kernel
theorem n_hw : ¬ (("high" : Str) = "weight") := by decide +kernel
theorem cf_f (t : Tell) : (cf t).lookup ("first" : Str) = some (.int t.f) := by
  unfold cf; rw [lookup_putF, if_neg n_fw, lookup_putF, if_neg n_fh, lookup_putF, if_neg n_fl, lookup_putF, if_neg n_fs, lookup_putF, if_pos rfl]
theorem cf_s (t : Tell) : (cf t).lookup ("second" : Str) = some (.int t.s) := by
  unfold cf; rw [lookup_putF, if_neg n_sw, lookup_putF, if_neg n_sh, lookup_putF, if_neg n_sl, lookup_putF, if_pos rfl]
theorem cf_l (t : Tell) : (cf t).lookup ("low" : Str) = some (vo t.lo) := by
  unfold cf; rw [lookup_putF, if_neg n_lw, lookup_putF, if_neg n_lh, lookup_putF, if_pos rfl]
theorem cf_h (t : Tell) : (cf t).lookup ("high" : Str) = some (vo t.hi) := by
  unfold cf; rw [lookup_putF, if_neg n_hw, lookup_putF, if_pos rfl]
theorem cf_w (t : Tell) : (cf t).lookup ("weight" : Str) = some (.int t.m) := by
  unfold cf; rw [lookup_putF, if_pos rfl]
theorem putF_len (f : Str) (v : V) : ∀ fs : List (Str × V), (putF f v fs).length ≤ fs.length + 1
  | [] => Nat.le_refl _
  | (g, x) :: r => by
    show (if g = f then (g, v) :: r else (g, x) :: putF f v r).length ≤ _
    split
    · exact Nat.le_succ _
    · exact Nat.succ_le_succ (putF_len f v r)
theorem few {f : Str} {v : V} {fs : List (Str × V)} {n : Nat} (h : fs.length ≤ n) : (putF f v fs).length ≤ n + 1 := Nat.le_trans (putF_len f v fs) (Nat.succ_le_succ h)
theorem cf_no (t : Tell) {m : Str} (h1 : ¬ m = "first") (h2 : ¬ m = "second") (h3 : ¬ m = "low") (h4 : ¬ m = "high") (h5 : ¬ m = "weight") : (cf t).lookup m = none := by
  unfold cf; rw [lookup_putF, if_neg h5, lookup_putF, if_neg h4, lookup_putF, if_neg h3, lookup_putF, if_neg h2, lookup_putF, if_neg h1]; rfl
/-- whole numbers in a list or a tuple -/
def SqE (K : PySem.W.Frag) (H : Hp) (a : Addr) (xs : List V) : Prop := SqL K H a xs ∨ SqT K H a xs
def exc (t : Tell) (x y : Int) : Int :=
  if (t.lo.elim false fun l => decide (y - x < l)) = true then t.lo.getD 0 - (y - x) else if (t.hi.elim false fun h => decide (h < y - x)) = true then (y - x) - t.hi.getD 0 else 0
def turn (t : Tell) : Tell := ⟨t.s, t.f, t.hi.map (- ·), t.lo.map (- ·), t.m⟩
def widen (t : Tell) (n : Int) : Tell := ⟨t.f, t.s, t.lo.map (· - n), t.hi.map (· + n), t.m⟩
theorem turn_ok {t : Tell} (h : Ok t) : Ok (turn t) := by
  refine ⟨h.s, h.f, fun l u e1 e2 => ?_, h.m0, h.m1⟩
  simp only [turn, Option.map_eq_some_iff] at e1 e2
  obtain ⟨a, ha, rfl⟩ := e1
  obtain ⟨b, hb, rfl⟩ := e2
  have := h.b b a hb ha
  omega
theorem widen_ok {t : Tell} {n : Int} (h : Ok t) (hn : 0 ≤ n) : Ok (widen t n) := by
  refine ⟨h.f, h.s, fun l u e1 e2 => ?_, h.m0, h.m1⟩
  simp only [widen, Option.map_eq_some_iff] at e1 e2
  obtain ⟨a, ha, rfl⟩ := e1
  obtain ⟨b, hb, rfl⟩ := e2
  have := h.b a b ha hb
  omega
def spInit (C : Addr) : Sp := fun vs H Q _ => ∃ (p dx : Addr) (t : Tell), vs = .ref p :: tv t ∧ Ok t ∧ H p = some (.ins C dx []) ∧ ∀ H', But p H H' → H' p = some (.ins C dx (cf t)) → Q .non H'
theorem SqE.keep {K : PySem.W.Frag} {H H' : Hp} {a : Addr} {xs : List V} (h : SqE K H a xs) (s : Same H H') : SqE K H' a xs := by
  rcases h with h | h
  · exact .inl (s.seq h)
  · rcases h with (h | ⟨o, h⟩) | h
    · exact .inr (.inl (.inl (s _ _ h)))
    · exact .inr (.inl (.inr ⟨o, s _ _ h⟩))
    · exact .inr (.inr h)
theorem SqT.keep {K : PySem.W.Frag} {H H' : Hp} {a : Addr} {xs : List V} (h : SqT K H a xs) (s : Same H H') : SqT K H' a xs := by
  rcases h with (h | ⟨o, h⟩) | h
  · exact .inl (.inl (s _ _ h))
  · exact .inl (.inr ⟨o, s _ _ h⟩)
  · exact .inr h
theorem ix_of {K : PySem.W.Frag} {H : Hp} {a : Addr} {xs : List V} {i : Int} {v : V} {Q : VK} (h : SqE K H a xs) (g : atI xs i = some v) (q : Q v H) : rIx K (.ref a) (.int i) H Q := by
  rcases h with h | h
  · exact .inl ⟨a, xs, i, v, rfl, rfl, h, g, q⟩
  · exact .inr (.inl ⟨a, xs, i, v, rfl, rfl, h, g, q⟩)
theorem atI_opt {ns : List Int} {j : Nat} {x : Int} (h : ns[j]? = some x) : atI (ns.map V.int) (j : Int) = some (.int x) := atI_nat (by rw [List.getElem?_map, h]; rfl)
def spExcess (K : PySem.W.Frag) (C : Addr) : Sp := fun vs H Q _ => ∃ (p a : Addr) (t : Tell) (ns : List Int) (x y : Int), vs = [.ref p, .ref a] ∧ ClAt C H p t ∧ SqE K H a (ns.map V.int) ∧ ns[t.f]? = some x ∧ ns[t.s]? = some y ∧ Q (.int (exc t x y)) H
def spHolds (K : PySem.W.Frag) (C : Addr) : Sp := fun vs H Q _ => ∃ (p a : Addr) (t : Tell) (ns : List Int) (x y : Int), vs = [.ref p, .ref a] ∧ ClAt C H p t ∧ SqE K H a (ns.map V.int) ∧ ns[t.f]? = some x ∧ ns[t.s]? = some y ∧ Q (.bl (decide (exc t x y = 0))) H
/-- a new claim -/
def NewCl (C : Addr) (t : Tell) (H : Hp) (Q : VK) : Prop := ∀ p H', H p = none → Same H H' → ClAt C H' p t → Q (.ref p) H'
def NewTup (xs : List V) (H : Hp) (Q : VK) : Prop := ∀ p H', H p = none → Same H H' → H' p = some (.tup xs) → Q (.ref p) H'
def spTurned (C : Addr) : Sp := fun vs H Q _ => ∃ (p : Addr) (t : Tell), vs = [.ref p] ∧ Ok t ∧ ClAt C H p t ∧ NewCl C (turn t) H Q
def spWidened (C : Addr) : Sp := fun vs H Q _ => ∃ (p : Addr) (t : Tell) (n : Int), vs = [.ref p, .int n] ∧ Ok t ∧ 0 ≤ n ∧ ClAt C H p t ∧ NewCl C (widen t n) H Q
def spParts (C : Addr) : Sp := fun vs H Q _ => ∃ (p : Addr) (t : Tell), vs = [.ref p] ∧ ClAt C H p t ∧ NewTup (tv t) H Q
theorem tv_at (t : Tell) : ∀ i, i < 5 → ∃ o : Option Int, (tv t)[i]? = some (vo o)
  | 0, _ => ⟨some t.f, rfl⟩
  | 1, _ => ⟨some t.s, rfl⟩
  | 2, _ => ⟨t.lo, rfl⟩
  | 3, _ => ⟨t.hi, rfl⟩
  | 4, _ => ⟨some t.m, rfl⟩
theorem no_holds (t : Tell) : (cf t).lookup ("holds" : Str) = none := cf_no t (by decide +kernel) (by decide +kernel) (by decide +kernel) (by decide +kernel) (by decide +kernel)
theorem no_excess (t : Tell) : (cf t).lookup ("excess" : Str) = none := cf_no t (by decide +kernel) (by decide +kernel) (by decide +kernel) (by decide +kernel) (by decide +kernel)
theorem no_turned (t : Tell) : (cf t).lookup ("turned" : Str) = none := cf_no t (by decide +kernel) (by decide +kernel) (by decide +kernel) (by decide +kernel) (by decide +kernel)
theorem no_widened (t : Tell) : (cf t).lookup ("widened" : Str) = none := cf_no t (by decide +kernel) (by decide +kernel) (by decide +kernel) (by decide +kernel) (by decide +kernel)
theorem no_parts (t : Tell) : (cf t).lookup ("parts" : Str) = none := cf_no t (by decide +kernel) (by decide +kernel) (by decide +kernel) (by decide +kernel) (by decide +kernel)
theorem exc_cases (t : Tell) (x y : Int) : exc t x y = match t.lo, t.hi with
    | none, none => 0
    | some l, none => if y - x < l then l - (y - x) else 0
    | none, some h => if h < y - x then (y - x) - h else 0
    | some l, some h => if y - x < l then l - (y - x) else if h < y - x then (y - x) - h else 0 := by
  unfold exc
  cases hl : t.lo <;> cases hh : t.hi <;> simp
theorem exc_nonneg (t : Tell) (x y : Int) : 0 ≤ exc t x y := by
  rw [exc_cases]
  cases t.lo <;> cases t.hi <;> simp only <;> (repeat' split) <;> omega
theorem exc_widen {t : Tell} {n : Int} (hn : 0 ≤ n) (x y : Int) (ok : Ok t) : exc (widen t n) x y = if exc t x y ≤ n then 0 else exc t x y - n := by
  rw [exc_cases, exc_cases]
  have hb := ok.b
  obtain ⟨f, s, lo, hi, m⟩ := t
  cases lo with
  | none =>
    cases hi with
    | none => simp [widen]; omega
    | some h => simp only [widen, Option.map]; (repeat' split) <;> omega
  | some l =>
    cases hi with
    | none => simp only [widen, Option.map]; (repeat' split) <;> omega
    | some h =>
      have := hb l h rfl rfl
      simp only [widen, Option.map]; (repeat' split) <;> omega
theorem exc_turn {t : Tell} (x y : Int) (ok : Ok t) : exc (turn t) y x = exc t x y := by
  rw [exc_cases, exc_cases]
  have hb := ok.b
  obtain ⟨f, s, lo, hi, m⟩ := t
  cases lo with
  | none =>
    cases hi with
    | none => simp [turn]
    | some h => simp only [turn, Option.map]; (repeat' split) <;> omega
  | some l =>
    cases hi with
    | none => simp only [turn, Option.map]; (repeat' split) <;> omega
    | some h =>
      have := hb l h rfl rfl
      simp only [turn, Option.map]; (repeat' split) <;> omega
theorem turn_turn (t : Tell) : turn (turn t) = t := by
  obtain ⟨f, s, lo, hi, m⟩ := t
  cases lo <;> cases hi <;> simp [turn]
theorem made {C x dx : Addr} {H H' : Hp} {t : Tell} (nx : H x = none) (ndx : H dx = none) (nex : dx ≠ x) (b : But x (upd (upd H dx (.own x)) x (.ins C dx [])) H') (e : H' x = some (.ins C dx (cf t))) : Same H H' ∧ ClAt C H' x t :=
  ⟨fun c o hc => b c o (ne_of_none hc nx) (by rw [upd_ne (ne_of_none hc nx), upd_ne (ne_of_none hc ndx)]; exact hc), dx, e⟩
theorem two_new {x dx : Addr} {o u : HO} {H : Hp} (nx : H x = none) (ndx : H dx = none) (nex : dx ≠ x) : Same H (upd (upd H dx u) x o) := fun b v e => by
  rw [upd_ne (ne_of_none e nx), upd_ne (ne_of_none e ndx)]
  exact e

/-! ### errors with one field -/
/-- the __init__ of an error with one text in the field f -/
def spExc (C : Addr) (f : Str) : Sp := fun vs H Q _ => ∃ (a : Addr) (v : Str), vs = [.ref a, .str v] ∧ H a = some (exo a C none) ∧ v.length ≤ 1000 ∧
  ∀ dx, H dx = none → dx ≠ a → Q .non (upd (upd H dx (exd dx [(f, .str v)])) a (exo a C (some dx)))

structure Txt (P : Program) (K : PySem.W.Frag) (mg : Str → Option Value) where
  a_ClaimI__initI : Addr
  d_ClaimI__initI : FuncData
  F_ClaimI__initI : FunD K "__init__" "Claim.__init__" (defArgs s_ClaimI__initI) (defBody s_ClaimI__initI) (defScope s_ClaimI__initI) [.non, .non] [("weight", .int 1)] a_ClaimI__initI d_ClaimI__initI
  a_Claim_parts : Addr
  d_Claim_parts : FuncData
  F_Claim_parts : Fun K "parts" "Claim.parts" s_Claim_parts a_Claim_parts d_Claim_parts
  b_Claim_parts : Binds K d_Claim_parts ["self"] []
  a_law_source : Addr
  d_law_source : FuncData
  F_law_source : Fun K "_law_source" "_law_source" s_law_source a_law_source d_law_source
  b_law_source : Binds K d_law_source ["_law_script", "_law_place"] []
  m_law_source : mg "_law_source" = some (.ref a_law_source)
  a_law_draw : Addr
  d_law_draw : FuncData
  F_law_draw : Fun K "_law_draw" "_law_draw" s_law_draw a_law_draw d_law_draw
  b_law_draw : Binds K d_law_draw ["_law_source_here", "_law_size"] []
  m_law_draw : mg "_law_draw" = some (.ref a_law_draw)
  a_law_whole : Addr
  d_law_whole : FuncData
  F_law_whole : Fun K "_law_whole" "_law_whole" s_law_whole a_law_whole d_law_whole
  b_law_whole : Binds K d_law_whole ["_law_actual"] []
  m_law_whole : mg "_law_whole" = some (.ref a_law_whole)
  a_law_node : Addr
  d_law_node : FuncData
  F_law_node : Fun K "_law_node" "_law_node" s_law_node a_law_node d_law_node
  b_law_node : Binds K d_law_node ["_law_source_here"] []
  m_law_node : mg "_law_node" = some (.ref a_law_node)
  a_law_clip : Addr
  d_law_clip : FuncData
  F_law_clip : Fun K "_law_clip" "_law_clip" s_law_clip a_law_clip d_law_clip
  b_law_clip : Binds K d_law_clip ["_law_number"] []
  m_law_clip : mg "_law_clip" = some (.ref a_law_clip)
  a_law_bounds : Addr
  d_law_bounds : FuncData
  F_law_bounds : Fun K "_law_bounds" "_law_bounds" s_law_bounds a_law_bounds d_law_bounds
  b_law_bounds : Binds K d_law_bounds ["_law_source_here"] []
  m_law_bounds : mg "_law_bounds" = some (.ref a_law_bounds)
  a_law_wrong : Addr
  d_law_wrong : FuncData
  F_law_wrong : Fun K "_law_wrong" "_law_wrong" s_law_wrong a_law_wrong d_law_wrong
  b_law_wrong : Binds K d_law_wrong ["_law_tell"] []
  m_law_wrong : mg "_law_wrong" = some (.ref a_law_wrong)
  a_law_same : Addr
  d_law_same : FuncData
  F_law_same : Fun K "_law_same" "_law_same" s_law_same a_law_same d_law_same
  b_law_same : Binds K d_law_same ["_law_actual", "_law_tell"] []
  m_law_same : mg "_law_same" = some (.ref a_law_same)
  a_law_asked : Addr
  d_law_asked : FuncData
  F_law_asked : Fun K "_law_asked" "_law_asked" s_law_asked a_law_asked d_law_asked
  b_law_asked : Binds K d_law_asked ["_law_tell", "_law_left"] []
  m_law_asked : mg "_law_asked" = some (.ref a_law_asked)
  a_law : Addr
  d_law : FuncData
  F_law : Fun K "law" "law" s_law a_law d_law
  b_law : Binds K d_law ["_law_script"] []
  m_law : mg "law" = some (.ref a_law)
  C_InvalidClaim : Addr
  m_InvalidClaim : mg "InvalidClaim" = some (.ref C_InvalidClaim)
  a_InvalidClaimI__initI : Addr
  cda_InvalidClaim : Addr
  cc_InvalidClaim : Addr
  d_InvalidClaimI__initI : FuncData
  sup_InvalidClaim : SupC P K C_InvalidClaim a_InvalidClaimI__initI cda_InvalidClaim cc_InvalidClaim d_InvalidClaimI__initI
  fd_InvalidClaim : ∃ (kV doc pm ct : Value) (an : Option Addr), d_InvalidClaimI__initI = PySem.W.fnX "__init__" "InvalidClaim.__init__" (defArgs s_InvalidClaimI__initI) (defBody s_InvalidClaimI__initI) (defScope s_InvalidClaimI__initI) [("__class__", cc_InvalidClaim)] .none kV doc pm an (.ref cda_InvalidClaim) ct
  hcd_InvalidClaim : PySem.W.codeIn K (.ref cda_InvalidClaim) "InvalidClaim.__init__" = true
  b_InvalidClaimI__initI : Binds K d_InvalidClaimI__initI ["self", "part"] []
  ox_InvalidClaim : OexC K C_InvalidClaim
  iC_InvalidClaim : PySem.W.findIn K (.ref C_InvalidClaim) "__init__" = some (some (.ref a_InvalidClaimI__initI))
  tI_InvalidClaim : PySem.W.typeIn K (.ref a_InvalidClaimI__initI) = some (.type "function")
  n_InvalidClaim_part : PySem.W.findIn K (.ref C_InvalidClaim) "part" = some none
  xc_InvalidClaim : ExcC K C_InvalidClaim
  C_HallError : Addr
  m_HallError : mg "HallError" = some (.ref C_HallError)
  C_InvalidFrame : Addr
  m_InvalidFrame : mg "InvalidFrame" = some (.ref C_InvalidFrame)
  C_InvalidDoubt : Addr
  m_InvalidDoubt : mg "InvalidDoubt" = some (.ref C_InvalidDoubt)
  C_InvalidPlan : Addr
  m_InvalidPlan : mg "InvalidPlan" = some (.ref C_InvalidPlan)
  C_Claim : Addr
  m_Claim : mg "Claim" = some (.ref C_Claim)
  cl_Claim : Cls K C_Claim
  mkc_Claim : PySem.W.makesIn K C_Claim = true
  kpc_Claim : PySem.W.keepIn K (.ref C_Claim) = true
  n_Claim_first : NoAttr K C_Claim "first"
  n_Claim_second : NoAttr K C_Claim "second"
  n_Claim_low : NoAttr K C_Claim "low"
  n_Claim_high : NoAttr K C_Claim "high"
  n_Claim_weight : NoAttr K C_Claim "weight"
  mk_Claim : Mk K C_Claim a_ClaimI__initI
  t_Claim_parts : Meth K C_Claim "parts" a_Claim_parts
  hs_hall : PySem.W.subIn K (.ref C_HallError) (.type "BaseException") = some true
  hd_hall : PySem.W.hasDictIn K C_HallError = true
  ht_hall : PySem.W.typeIn K (.ref C_HallError) = some (.type "type")
  su_hall : PySem.W.subIn K (.ref C_InvalidClaim) (.ref C_HallError) = some true
  is_ve : PySem.W.kitOne K (.ref C_InvalidClaim) (.type "ValueError") = some true
  is_if : PySem.W.kitOne K (.ref C_InvalidClaim) (.ref C_InvalidFrame) = some false
  is_id : PySem.W.kitOne K (.ref C_InvalidClaim) (.ref C_InvalidDoubt) = some false
  is_ip : PySem.W.kitOne K (.ref C_InvalidClaim) (.ref C_InvalidPlan) = some false
  b_ClaimI__initI_5 : ∃ ds : List Value, Vals [.int 1] ds ∧ Binds K d_ClaimI__initI ["self", "first", "second", "low", "high", "weight"] ds
  b_ClaimI__initI_5_weight : KBn K d_ClaimI__initI ["self", "first", "second", "low", "high", "weight"] 5 ["weight"] (fun us ws => us ++ ws) (fun vs zs => vs ++ zs)
  ct_LAST_NODE : Tok
  c_LAST_NODE : mg "LAST_NODE" = some (.int 15 ct_LAST_NODE)
  ct_MOST_WEIGHT : Tok
  c_MOST_WEIGHT : mg "MOST_WEIGHT" = some (.int 99 ct_MOST_WEIGHT)
  z_ValueError : mg "ValueError" = none
  z_abs : mg "abs" = none
  z_bool : mg "bool" = none
  z_int : mg "int" = none
  z_isinstance : mg "isinstance" = none
  z_len : mg "len" = none
  z_max : mg "max" = none
  z_min : mg "min" = none
  z_range : mg "range" = none
  z_str : mg "str" = none
  z_super : mg "super" = none
  z_tuple : mg "tuple" = none
theorem mk_b_ClaimI__initI_5 {K : PySem.W.Frag} {f : Addr} {fd : FuncData} (F : FunD K "__init__" "Claim.__init__" (defArgs s_ClaimI__initI) (defBody s_ClaimI__initI) (defScope s_ClaimI__initI) [.non, .non] [("weight", .int 1)] f fd) : ∃ ds : List Value, Vals [.int 1] ds ∧ Binds K fd ["self", "first", "second", "low", "high", "weight"] ds :=
  F.binds 5 2 (by simp) rfl (fun T D doc pm an cdv ct us its ks h1 h2 h3 => match us, its, ks, h1, h2, h3 with | [_, _, _, _, _], [_, _], [_], _, _, _ => ⟨_, rfl, ⟨_, _, _, _, _, _, rfl, rfl, rfl⟩⟩) (by simp)
theorem mk_b_ClaimI__initI_5_weight {K : PySem.W.Frag} {f : Addr} {fd : FuncData} (F : FunD K "__init__" "Claim.__init__" (defArgs s_ClaimI__initI) (defBody s_ClaimI__initI) (defScope s_ClaimI__initI) [.non, .non] [("weight", .int 1)] f fd) : KBn K fd ["self", "first", "second", "low", "high", "weight"] 5 ["weight"] (fun us ws => us ++ ws) (fun vs zs => vs ++ zs) := by
  obtain ⟨its, mv, h⟩ := F.kbinds 5 ["weight"] [] (fun us _ _ ws => us ++ ws) (by simp) (by simp) (by simp) (fun h1 _ _ h2 => h1.append h2) (fun T D doc pm an cdv ct us its mv ws h1 h2 h3 h4 => match us, its, mv, ws, h1, h2, h3, h4 with | [_, _, _, _, _], [_, _], [], [_], _, _, _, _ => ⟨_, rfl, (by show _ = _; first | with_unfolding_all rfl | kernel_rfl)⟩)
  exact h
section
variable {P : Program} {w : World} {K : PySem.W.Frag} {mg : Str → Option Value} {base : Heap}
theorem atI_int {ns : List Int} {j : Nat} (h : j < ns.length) : atI (ns.map V.int) (j : Int) = some (.int ns[j]) :=
  atI_nat (by rw [List.getElem?_map, List.getElem?_eq_getElem h]; rfl)
theorem sz1 : 1 ≤ sizeLine := by decide
theorem sz2 : 2 ≤ sizeLine := by decide
theorem sz3 : 3 ≤ sizeLine := by decide
theorem sz4 : 4 ≤ sizeLine := by decide
theorem sz5 : 5 ≤ sizeLine := by decide
theorem sz6 : 6 ≤ sizeLine := by decide
theorem ok_law_source (T : Txt P K mg) : FnOk P w K mg base CX0 1 T.a_law_source T.d_law_source ["_law_script", "_law_place"] (spSource K) := by
  refine T.F_law_source.ok sc_law_source (fun vs H Q E h => ?_) (fun cdv A outer s H vs Q E hr h => ?_)
  · obtain ⟨a, ns, p, rfl, _⟩ := h
    rfl
  refine ⟨_, (pss_cons (ps_if (pt_cmpR op_lt (pv 1) (pe_callB call_len_seq (by rfl) T.z_len (by decide +kernel) (pa_cons (pv 0) pa_nil)) (nomark _)) (pss_one (ps_ret (pe_lst (pa_cons (pe_callB call_abs (by rfl) T.z_abs (by decide +kernel) (pa_cons (pe_ix ix_list (pv 0) (pv 1) (fun _ _ => rfl)) pa_nil)) (pa_cons (pv 1) pa_nil))))) pss_nil) (pss_cons (ps_if (pt_cmpR op_eq (pe_callB call_len_seq (by rfl) T.z_len (by decide +kernel) (pa_cons (pv 0) pa_nil)) pe_int (nomark _)) (pss_one (ps_ret (pe_lst (pa_cons (pe_op op_add (pe_op op_mul pe_int (pv 1)) pe_int) (pa_cons (pv 1) pa_nil))))) pss_nil) (pss_one (ps_ret (pe_lst (pa_cons (pe_op op_add (pe_op op_add (pe_op op_mul pe_int (pe_callB call_abs (by rfl) T.z_abs (by decide +kernel) (pa_cons (pe_ix ix_list (pv 0) (pe_op op_mod (pe_callTy call_int1 (by rfl) T.z_int (by decide +kernel) (pa_cons (pv 1) pa_nil)) (pe_callB call_len_seq (by rfl) T.z_len (by decide +kernel) (pa_cons (pv 0) pa_nil))) (fun _ _ => rfl)) pa_nil))) (pe_op op_mul pe_int (pv 1))) pe_int) (pa_cons (pv 1) pa_nil))))))), ?_⟩
  obtain ⟨a, ns, p, rfl, hS, hp, k⟩ := h
  refine ⟨_, rfl, _, rfl, a, _, rfl, .inl hS, _, _, rfl, rfl, _, rfl, ?_⟩
  refine ite2 (fun c => ?_) (fun c => ?_)
  · have c := of_decide_eq_true c
    rw [List.length_map] at c
    obtain ⟨j, rfl⟩ := Int.eq_ofNat_of_zero_le hp
    have hj : j < ns.length := by omega
    refine ⟨_, rfl, _, rfl, a, _, _, _, rfl, rfl, hS, atI_int hj, _, rfl, _, rfl, sz2, fun l hl => ?_⟩
    exact k l _ hl (Same.new hl) ⟨_, _, upd_same⟩
  · refine ⟨_, rfl, a, _, rfl, .inl hS, rfl, _, rfl, ?_⟩
    refine ite2 (fun c2 => ?_) (fun c2 => ?_)
    · refine ⟨_, rfl, _, _, rfl, rfl, .inl ⟨by decide, by decide⟩, _, _, rfl, rfl, _, rfl, sz2, fun l hl => ?_⟩
      exact k l _ hl (Same.new hl) ⟨_, _, upd_same⟩
    · have c2 := of_decide_eq_false (Bool.eq_false_iff.mpr c2)
      have hpos : 0 < ns.length := by
        cases ns with
        | nil => exact absurd rfl c2
        | cons _ _ => exact Nat.succ_pos _
      have hm : (0 : Int) < ((ns.map V.int).length : Int) := by rw [List.length_map]; omega
      have h0 := Int.emod_nonneg p (Int.ne_of_gt hm)
      have h1 := Int.emod_lt_of_pos p hm
      obtain ⟨j, hj⟩ := Int.eq_ofNat_of_zero_le h0
      rw [List.length_map] at h1 hj
      have hj2 : j < ns.length := by omega
      refine ⟨_, rfl, _, rfl, .inl ⟨_, rfl, _, rfl, a, _, rfl, .inl hS, _, _, rfl, rfl, hm, ?_⟩⟩
      refine ⟨a, _, _, _, rfl, rfl, hS, (by rw [List.length_map, hj]; exact atI_int hj2), _, rfl, _, _, rfl, rfl, .inl ⟨by decide, by decide⟩, _, rfl, _, _, rfl, rfl, .inl ⟨by decide, by decide⟩, _, _, rfl, rfl, _, _, rfl, rfl, _, rfl, sz2, fun l hl => ?_⟩
      exact k l _ hl (Same.new hl) ⟨_, _, upd_same⟩
theorem ok_law_draw (T : Txt P K mg) : FnOk P w K mg base CX0 1 T.a_law_draw T.d_law_draw ["_law_source_here", "_law_size"] (spDraw) := by
  refine T.F_law_draw.ok sc_law_draw (fun vs H Q E h => ?_) (fun cdv A outer s H vs Q E hr h => ?_)
  · obtain ⟨a, n, rfl, _⟩ := h
    rfl
  refine ⟨_, (pss_cons (ps_set (i := 2) sc_law_draw.nd rfl (Or.inl rfl) (pe_ix ix_list (pv 0) pe_int (fun _ _ => rfl))) (pss_cons (ps_if (pt_cmpR op_ge (pv 2) (pe_op op_pow pe_int pe_int) (nomark _)) (pss_cons (ps_asg (pe_op op_fdiv (pv 2) (pv 1)) (pg_sub (pv 0) pe_int set_list)) (pss_one (ps_ret (pe_op op_mod (pe_callTy call_int1 (by rfl) T.z_int (by decide +kernel) (pa_cons (pv 2) pa_nil)) (pv 1))))) pss_nil) (pss_cons (ps_asg (pe_op op_add (pe_ix ix_list (pv 0) pe_int (fun _ _ => rfl)) pe_int) (pg_sub (pv 0) pe_int set_list)) (pss_cons (ps_set (i := 3) sc_law_draw.nd rfl (Or.inl rfl) (pe_op op_mod (pe_callTy call_int1 (by rfl) T.z_int (by decide +kernel) (pa_cons (pe_op op_add (pe_op op_add (pv 2) (pe_op op_mul pe_int (pe_ix ix_list (pv 0) pe_int (fun _ _ => rfl)))) pe_int) pa_nil)) pe_int)) (pss_cons (ps_set (i := 3) sc_law_draw.nd rfl (Or.inl rfl) (pe_op op_mod (pe_callTy call_int1 (by rfl) T.z_int (by decide +kernel) (pa_cons (pe_op op_mul (pv 3) (pe_op op_add (pv 3) pe_int)) pa_nil)) pe_int)) (pss_cons (ps_set (i := 3) sc_law_draw.nd rfl (Or.inl rfl) (pe_op op_mod (pe_callTy call_int1 (by rfl) T.z_int (by decide +kernel) (pa_cons (pe_op op_add (pe_op op_mul (pv 3) (pe_op op_add (pv 3) pe_int)) (pe_op op_mul pe_int (pe_ix ix_list (pv 0) pe_int (fun _ _ => rfl)))) pa_nil)) pe_int)) (pss_one (ps_ret (pe_op op_mod (pe_callTy call_int1 (by rfl) T.z_int (by decide +kernel) (pa_cons (pe_op op_fdiv (pv 3) pe_int) pa_nil)) (pv 1)))))))))), ?_⟩
  obtain ⟨a, n, rfl, ⟨c, p, hS⟩, n0, n1, k⟩ := h
  refine ⟨_, rfl, _, _, _, _, rfl, rfl, .inl (.inl hS), rfl, ?_⟩
  refine ⟨_, rfl, _, _, rfl, rfl, ⟨by decide, by decide, by decide⟩, _, _, rfl, rfl, _, rfl, ?_⟩
  refine ite2 (fun c1 => ?_) (fun c1 => ?_)
  · refine ⟨_, rfl, _, rfl, _, _, rfl, rfl, ⟨n0, n1⟩, _, rfl, _, _, _, 0, rfl, rfl, hS, rfl, ?_⟩
    refine ⟨_, rfl, .inl ⟨_, rfl, _, rfl, _, _, rfl, rfl, n0, ?_⟩⟩
    exact k _ _ (Int.emod_nonneg c (Int.ne_of_gt n0)) (Int.emod_lt_of_pos c n0) ⟨_, _, upd_same⟩ But.upd
  · refine ⟨_, rfl, _, _, _, _, rfl, rfl, .inl (.inl hS), rfl, _, _, rfl, rfl, _, rfl, _, _, _, 1, rfl, rfl, hS, rfl, ?_⟩
    have hS1 : upd H a (.lst [.int c, .int (p + 1)]) a = some (.lst [.int c, .int (p + 1)]) := upd_same
    refine ⟨_, rfl, _, rfl, _, _, _, _, rfl, rfl, .inl (.inl hS1), rfl, _, _, rfl, rfl, .inl ⟨by decide, by decide⟩, _, _, rfl, rfl, _, _, rfl, rfl, .inl ⟨_, rfl, _, _, rfl, rfl, (show (0 : Int) < 2147483647 by decide), ?_⟩⟩
    have m0 := Int.emod_nonneg (c + 7919 * (p + 1) + 13) (show (2147483647 : Int) ≠ 0 by decide)
    have m1 := Int.emod_lt_of_pos (c + 7919 * (p + 1) + 13) (show (0 : Int) < 2147483647 by decide)
    generalize (c + 7919 * (p + 1) + 13) % 2147483647 = m at m0 m1 ⊢
    refine ⟨_, rfl, _, rfl, _, _, rfl, rfl, _, _, rfl, rfl, .inl ⟨by omega, by omega⟩, .inl ⟨_, rfl, _, _, rfl, rfl, (show (0 : Int) < 2147483629 by decide), ?_⟩⟩
    have m2 := Int.emod_nonneg (m * (m + 48271)) (show (2147483629 : Int) ≠ 0 by decide)
    have m3 := Int.emod_lt_of_pos (m * (m + 48271)) (show (0 : Int) < 2147483629 by decide)
    generalize m * (m + 48271) % 2147483629 = m' at m2 m3 ⊢
    refine ⟨_, rfl, _, rfl, _, _, rfl, rfl, _, _, rfl, rfl, .inl ⟨by omega, by omega⟩, _, rfl, _, _, _, _, rfl, rfl, .inl (.inl hS1), rfl, _, _, rfl, rfl, .inl ⟨by decide, by decide⟩, _, _, rfl, rfl, .inl ⟨_, rfl, _, _, rfl, rfl, (show (0 : Int) < 2147483647 by decide), ?_⟩⟩
    refine ⟨_, rfl, _, _, rfl, rfl, ⟨by decide, by decide⟩, .inl ⟨_, rfl, _, rfl, _, _, rfl, rfl, n0, ?_⟩⟩
    exact k _ _ (Int.emod_nonneg _ (Int.ne_of_gt n0)) (Int.emod_lt_of_pos _ n0) ⟨_, _, hS1⟩ But.upd
theorem isi_ty {K : PySem.W.Frag} {x : V} {H : Hp} {Q : VK} {a c : String} {b : Bool} (hx : TyOf K H x (.type a)) (hb : kitB a c = some b) (h : Q (.bl b) H) : rIsi K [x, .ty c] H Q :=
  ⟨_, _, _, _, _, rfl, .ty _, .base hx, kit_ty hb, h⟩
theorem kit_int_int : kitB "int" "int" = some true := by decide +kernel
theorem kit_int_bool : kitB "int" "bool" = some false := by decide +kernel
theorem kit_bool_bool : kitB "bool" "bool" = some true := by decide +kernel
theorem kit_bool_int : kitB "bool" "int" = some true := by decide +kernel
theorem kit_tup_tup : kitB "tuple" "tuple" = some true := by decide +kernel
theorem kit_lst_lst : kitB "list" "list" = some true := by decide +kernel
theorem kit_str_str : kitB "str" "str" = some true := by decide +kernel
theorem ok_law_whole (T : Txt P K mg) : FnOk P w K mg base CX0 1 T.a_law_whole T.d_law_whole ["_law_actual"] (spWhole) := by
  refine T.F_law_whole.ok sc_law_whole (fun vs H Q E h => ?_) (fun cdv A outer s H vs Q E hr h => ?_)
  · obtain ⟨i, rfl, _⟩ := h
    rfl
  refine ⟨_, (pss_one (ps_ret (pe_and (pe_callB call_isi (by rfl) T.z_isinstance (by decide +kernel) (pa_cons (pv 0) (pa_cons (pe_bltn (v := .ty "int") (u := .type "int") (by rfl) T.z_int (by decide +kernel) rfl) pa_nil))) (pe_one (pe_not (pe_callB call_isi (by rfl) T.z_isinstance (by decide +kernel) (pa_cons (pv 0) (pa_cons (pe_bltn (v := .ty "bool") (u := .type "bool") (by rfl) T.z_bool (by decide +kernel) rfl) pa_nil)))))))), ?_⟩
  obtain ⟨i, rfl, k⟩ := h
  refine ⟨_, rfl, _, _, _, _, _, rfl, .ty _, .base (.int i), kit_ty kit_int_int, _, rfl, iteT ?_⟩
  refine ⟨_, rfl, _, _, _, _, _, rfl, .ty _, .base (.int i), kit_ty kit_int_bool, _, rfl, ?_⟩
  exact k

theorem txt_len {x y : Str} {a b : Nat} (h1 : x.length ≤ a) (h2 : y.length ≤ b) : (x ++ y).length ≤ a + b := by rw [Str.length_append]; omega
theorem ok_InvalidClaimI__initI (T : Txt P K mg) : FnOk P w K mg base CX0 1 T.a_InvalidClaimI__initI T.d_InvalidClaimI__initI ["self", "part"] (spExc T.C_InvalidClaim "part") := by
  obtain ⟨kV, doc, pm, ct, an, hfd⟩ := T.fd_InvalidClaim
  refine supinit_ok (N := ["self", "part", "__class__"]) hfd T.sup_InvalidClaim T.ox_InvalidClaim T.hcd_InvalidClaim (NdefX.nscope_by (by decide +kernel)) rfl (by decide +kernel) (by decide +kernel) T.z_super rfl (fun vs H Q E h => ?_) (fun _ _ => rfl) (fun _ _ => rfl) (fun _ => rfl) (fun A outer s H vs Q E hr h => ?_)
  · obtain ⟨a, v, rfl, ha, hl, _⟩ := h
    rfl
  obtain ⟨a, v, rfl, ha, hl, k⟩ := h
  refine ⟨_, _, _, rfl, ha, pa_cons (pe_joined (.cons pe_str (.cons (pe_fmt (pv 1)) .nil))) pa_nil, (pss_one (ps_ost (pv 0) (pv 1))), ?_⟩
  have l1 : (Str.empty ++ ("the claim is refused: " : Str)).length ≤ 1000 := by decide +kernel
  refine ⟨_, rfl, Nat.le_trans l1 (by decide), _, rfl, .inl ⟨v, rfl, Nat.le_trans hl (by decide), v, rfl, Nat.le_trans (txt_len l1 hl) (by decide), ?_⟩⟩
  refine ⟨by show 1 ≤ 1000; decide, ha, _, rfl, _, rfl, a, T.C_InvalidClaim, rfl, T.ox_InvalidClaim, T.n_InvalidClaim_part, .inl ⟨ha, fun dx hd hn => ?_⟩⟩
  exact k dx hd hn

def okN (f s : Int) : Bool := (decide (0 ≤ f) && decide (f ≤ 15)) && (decide (0 ≤ s) && decide (s ≤ 15))
def okB : Option Int → Option Int → Bool
  | some l, some h => decide (l ≤ h)
  | _, _ => true
def okW (m : Int) : Bool := decide (1 ≤ m) && decide (m ≤ 99)
/-- the first wrong part, or nothing -/
def wr (f s : Int) (lo hi : Option Int) (m : Int) : Str := if okN f s = true then (if okB lo hi = true then (if okW m = true then "" else "weight") else "bounds") else "nodes"
def tvI (f s : Int) (lo hi : Option Int) (m : Int) : List V := [.int f, .int s, vo lo, vo hi, .int m]
/-- Claim(..): made whole, or refused by the first wrong part -/
def spInitX (C D : Addr) : Sp := fun vs H Q E => ∃ (p dx : Addr) (f s : Int) (lo hi : Option Int) (m : Int), vs = .ref p :: tvI f s lo hi m ∧ H p = some (.ins C dx []) ∧
  (wr f s lo hi m = "" → ∀ H', But p H H' → H' p = some (.ins C dx (cf ⟨f.toNat, s.toNat, lo, hi, m⟩)) → Q .non H') ∧
  (wr f s lo hi m ≠ "" → ∀ d H', H d = none → Same H H' → H' d = some (.xd [("part", .str (wr f s lo hi m))]) → E (.ref D) (some d) H')

theorem wr_len (f s : Int) (lo hi : Option Int) (m : Int) : (wr f s lo hi m).length ≤ 1000 := by
  unfold wr
  (repeat' split) <;> decide +kernel
theorem ok_ClaimI__initI (T : Txt P K mg) : FnOk P w K mg base (L2.CX P w) 3 T.a_ClaimI__initI T.d_ClaimI__initI ["self", "first", "second", "low", "high", "weight"] (spInitX T.C_Claim T.C_InvalidClaim) := by
  refine T.F_ClaimI__initI.ok sc_ClaimI__initI (fun vs H Q E h => ?_) (fun cdv A outer s H vs Q E hr h => ?_)
  · obtain ⟨p, dx, f, s, lo, hi, m, rfl, _⟩ := h
    rfl
  refine ⟨_, (pss_cons (ps_if (pt_not (PW.pt (pw_and (pt_chain op_le op_le pe_int (pv 1) (pe_glob (v := .int 15) rfl T.c_LAST_NODE ⟨_, rfl⟩)) (pw_and1 (pt_chain op_le op_le pe_int (pv 2) (pe_glob (v := .int 15) rfl T.c_LAST_NODE ⟨_, rfl⟩)))))) (pss_one (ps_raise rfl (takes_of rfl rfl rfl rfl) (pmk_oex T.ox_InvalidClaim T.iC_InvalidClaim T.tI_InvalidClaim (ok_InvalidClaimI__initI T) (hr.mono (by decide)) T.b_InvalidClaimI__initI .nil pass0 (by rfl) T.m_InvalidClaim (pa_cons pe_str pa_nil)))) pss_nil) (pss_cons (ps_if (PW.pt (pw_and (pt_cmpR op_notN (pv 3) pe_non (nomark _)) (pw_and (pt_cmpR op_notN (pv 4) pe_non (nomark _)) (pw_and1 (pt_cmpR op_gt (pv 3) (pv 4) (nomark _)))))) (pss_one (ps_raise rfl (takes_of rfl rfl rfl rfl) (pmk_oex T.ox_InvalidClaim T.iC_InvalidClaim T.tI_InvalidClaim (ok_InvalidClaimI__initI T) (hr.mono (by decide)) T.b_InvalidClaimI__initI .nil pass0 (by rfl) T.m_InvalidClaim (pa_cons pe_str pa_nil)))) pss_nil) (pss_cons (ps_if (pt_not (pt_chain op_le op_le pe_int (pv 5) (pe_glob (v := .int 99) rfl T.c_MOST_WEIGHT ⟨_, rfl⟩))) (pss_one (ps_raise rfl (takes_of rfl rfl rfl rfl) (pmk_oex T.ox_InvalidClaim T.iC_InvalidClaim T.tI_InvalidClaim (ok_InvalidClaimI__initI T) (hr.mono (by decide)) T.b_InvalidClaimI__initI .nil pass0 (by rfl) T.m_InvalidClaim (pa_cons pe_str pa_nil)))) pss_nil) (pss_cons (ps_fld (pv 0) (pv 1) rfl) (pss_cons (ps_fld (pv 0) (pv 2) rfl) (pss_cons (ps_fld (pv 0) (pv 3) rfl) (pss_cons (ps_fld (pv 0) (pv 4) rfl) (pss_one (ps_fld (pv 0) (pv 5) rfl))))))))), ?_⟩
  obtain ⟨p, dx, f, s, lo, hi, m, rfl, hp, kok, kx⟩ := h
  have refuse : ∀ w : Str, wr f s lo hi m = w → w ≠ "" → ∀ a, H a = none → spExc T.C_InvalidClaim "part" [.ref a, .str w] (upd H a (exo a T.C_InvalidClaim none))
      (fun v H2 => v = .non ∧ ∃ (d : Addr) (fs : List (Str × V)), H2 a = some (exo a T.C_InvalidClaim (some d)) ∧ H2 d = some (exd d fs) ∧ H d = none ∧ E (.ref T.C_InvalidClaim) (some d) (upd (del H2 a) d (.xd fs))) (fun _ _ _ => False) := by
    intro w hw hne a ha
    refine ⟨a, w, rfl, upd_same, hw ▸ wr_len f s lo hi m, fun d hd hda => ⟨rfl, d, [(("part" : Str), V.str w)], upd_same, ?_, ?_, ?_⟩⟩
    · rw [upd_ne hda, upd_same]
    · rw [upd_ne hda] at hd; exact hd
    · have hd0 : H d = none := by rw [upd_ne hda] at hd; exact hd
      refine kx (hw ▸ hne) d _ hd0 (fun b o e => ?_) (by rw [upd_same, hw])
      have nb : b ≠ a := ne_of_none e ha
      rw [upd_ne (ne_of_none e hd0), del_ne nb, upd_ne nb, upd_ne (ne_of_none e hd0), upd_ne nb]
      exact e
  refine sqIf (b := !okN f s) (put_not (put_and (a := decide (0 ≤ f) && decide (f ≤ 15)) (b := decide (0 ≤ s) && decide (s ≤ 15)) (fun Q' q => ?_) (fun _ Q' q => ?_))) (fun c => ?_) (fun c => nxt ?_)
  · refine ⟨_, rfl, _, _, rfl, rfl, _, rfl, ?_⟩
    cases hc : decide ((0 : Int) ≤ f) with
    | true => rw [hc, Bool.true_and] at q; exact iteT ⟨_, _, rfl, rfl, _, rfl, q⟩
    | false => rw [hc, Bool.false_and] at q; exact iteF ⟨_, rfl, q⟩
  · refine ⟨_, rfl, _, _, rfl, rfl, _, rfl, ?_⟩
    cases hc : decide ((0 : Int) ≤ s) with
    | true => rw [hc, Bool.true_and] at q; exact iteT ⟨_, _, rfl, rfl, _, rfl, q⟩
    | false => rw [hc, Bool.false_and] at q; exact iteF ⟨_, rfl, q⟩
  · have w1 : wr f s lo hi m = "nodes" := by
      unfold wr
      rw [if_neg (by intro z; rw [z] at c; cases c)]
    exact ⟨by show 1 ≤ 1000; decide, fun a ha => refuse _ w1 (by decide +kernel) a ha⟩
  have cN : okN f s = true := by simpa using c
  refine sqIf (b := !okB lo hi) (fun Q' q => ?_) (fun c => ?_) (fun c => nxt ?_)
  · cases lo with
    | none => exact ⟨_, rfl, rfl, _, rfl, iteF q⟩
    | some l =>
      refine ⟨_, rfl, rfl, _, rfl, iteT ?_⟩
      cases hi with
      | none => exact ⟨_, rfl, rfl, _, rfl, iteF q⟩
      | some h =>
        refine ⟨_, rfl, rfl, _, rfl, iteT ⟨_, rfl, _, rfl, _, _, rfl, rfl, _, rfl, ?_⟩⟩
        rw [show decide (h < l) = !okB (some l) (some h) by
          unfold okB
          rw [Bool.eq_iff_iff]
          simp]
        exact q
  · have w1 : wr f s lo hi m = "bounds" := by
      unfold wr
      rw [if_pos cN, if_neg (by intro z; rw [z] at c; cases c)]
    exact ⟨by show 1 ≤ 1000; decide, fun a ha => refuse _ w1 (by decide +kernel) a ha⟩
  have cB : okB lo hi = true := by simpa using c
  refine sqIf (b := !okW m) (put_not (a := okW m) (fun Q' q => ?_)) (fun c => ?_) (fun c => nxt ?_)
  · unfold okW at q
    refine ⟨_, rfl, _, _, rfl, rfl, _, rfl, ?_⟩
    cases hc : decide ((1 : Int) ≤ m) with
    | true => rw [hc, Bool.true_and] at q; exact iteT ⟨_, _, rfl, rfl, _, rfl, q⟩
    | false => rw [hc, Bool.false_and] at q; exact iteF ⟨_, rfl, q⟩
  · have w1 : wr f s lo hi m = "weight" := by
      unfold wr
      rw [if_pos cN, if_pos cB, if_neg (by intro z; rw [z] at c; cases c)]
    exact ⟨by show 1 ≤ 1000; decide, fun a ha => refuse _ w1 (by decide +kernel) a ha⟩
  have cW : okW m = true := by simpa using c
  have w0 : wr f s lo hi m = "" := by
    unfold wr
    rw [if_pos cN, if_pos cB, if_pos cW]
  unfold okN at cN
  simp only [Bool.and_eq_true, decide_eq_true_eq] at cN
  have ef : ((f.toNat : Nat) : Int) = f := by omega
  have es : ((s.toNat : Nat) : Int) = s := by omega
  refine ⟨_, rfl, _, rfl, _, _, _, _, rfl, hp, T.cl_Claim, T.n_Claim_first, by decide, ?_⟩
  refine ⟨_, rfl, _, rfl, _, _, _, _, rfl, upd_same, T.cl_Claim, T.n_Claim_second, by show 1 < 1000; decide, ?_⟩
  refine ⟨_, rfl, _, rfl, _, _, _, _, rfl, upd_same, T.cl_Claim, T.n_Claim_low, Nat.lt_of_le_of_lt (few (few (Nat.le_refl 0))) (by decide), ?_⟩
  refine ⟨_, rfl, _, rfl, _, _, _, _, rfl, upd_same, T.cl_Claim, T.n_Claim_high, Nat.lt_of_le_of_lt (few (few (few (Nat.le_refl 0)))) (by decide), ?_⟩
  refine ⟨_, rfl, _, rfl, _, _, _, _, rfl, upd_same, T.cl_Claim, T.n_Claim_weight, Nat.lt_of_le_of_lt (few (few (few (few (Nat.le_refl 0))))) (by decide), ?_⟩
  refine kok w0 _ (fun b o nb e => ?_) ?_
  · rw [upd_ne nb, upd_ne nb, upd_ne nb, upd_ne nb, upd_ne nb]
    exact e
  · rw [upd_same]
    unfold cf
    simp only [ef, es]

def spNode : Sp := fun vs H Q _ => ∃ a : Addr, vs = [.ref a] ∧ Src H a ∧ ∀ (r : Int) (H' : Hp), Src H' a → But a H H' → Q (.int r) H'
def clip (n : Int) : Int := let m := if 1000000000 < n then 1000000000 else n; if m > -1000000000 then m else -1000000000
def spClip : Sp := fun vs H Q _ => ∃ n : Int, vs = [.int n] ∧ Q (.int (clip n)) H
def spBounds : Sp := fun vs H Q _ => ∃ a : Addr, vs = [.ref a] ∧ Src H a ∧
  ∀ (l : Addr) (lo hi : Option Int) (H' : Hp), H l = none → H' l = some (.lst [vo lo, vo hi]) → Src H' a → But a H H' → Q (.ref l) H'
def spWrong (K : PySem.W.Frag) : Sp := fun vs H Q _ => ∃ (p : Addr) (f s : Int) (lo hi : Option Int) (m : Int), vs = [.ref p] ∧ SqT K H p (tvI f s lo hi m) ∧ Q (.str (wr f s lo hi m)) H
def spSame (K : PySem.W.Frag) : Sp := fun vs H Q _ => ∃ (p a : Addr) (t : Tell), vs = [.ref p, .ref a] ∧ H p = some (.tup (tv t)) ∧ SqT K H a (tv t) ∧ Q (.bl true) H
def spAsked (K : PySem.W.Frag) : Sp := fun vs H Q _ => ∃ (p : Addr) (f s : Int) (lo hi : Option Int) (m : Int) (b : Bool), vs = [.ref p, .bl b] ∧ SqT K H p (tvI f s lo hi m) ∧ (b = true → m = 1) ∧ ∀ H', Same H H' → Q (.bl true) H'
def spLaw (K : PySem.W.Frag) : Sp := fun vs H Q _ => ∃ (a : Addr) (ns : List Int), vs = [.ref a] ∧ SqL K H a (ns.map V.int) ∧ ns.length ≤ 63 ∧ ∀ H', Q (.bl true) H'
def BeJ (H : Hp) (a : Addr) (sh : Int) (s : Option V) (σ' : L2.St) (H' : Hp) : Prop :=
  ∃ (v : Int) (l : Addr) (lo hi : Option Int), σ' = [some (.ref a), some (.int v), some (.int sh), some (.ref l), s] ∧ l ≠ a ∧ H l = none ∧ H' l = some (.lst [vo lo, vo hi]) ∧ Src H' a ∧ But a H H'
def BdJ (H : Hp) (a : Addr) (sh : Int) (σ' : L2.St) (H' : Hp) : Prop :=
  ∃ v : Int, σ' = [some (.ref a), some (.int v), some (.int sh), none, none] ∧ Src H' a ∧ But a H H'
theorem ok_Claim_parts (T : Txt P K mg) : FnOk P w K mg base CX0 1 T.a_Claim_parts T.d_Claim_parts ["self"] (spParts T.C_Claim) := by
  refine T.F_Claim_parts.ok sc_Claim_parts (fun vs H Q E h => ?_) (fun cdv A outer s H vs Q E hr h => ?_)
  · obtain ⟨p, t, rfl, _⟩ := h
    rfl
  refine ⟨_, (pss_one (ps_ret (pe_tup (pa_cons (pe_fld (pv 0) rfl) (pa_cons (pe_fld (pv 0) rfl) (pa_cons (pe_fld (pv 0) rfl) (pa_cons (pe_fld (pv 0) rfl) (pa_cons (pe_fld (pv 0) rfl) pa_nil)))))))), ?_⟩
  obtain ⟨p, t, rfl, ⟨dx, hp⟩, k⟩ := h
  refine ⟨_, rfl, _, _, _, _, _, rfl, hp, T.cl_Claim, T.n_Claim_first, cf_f _, _, rfl, _, _, _, _, _, rfl, hp, T.cl_Claim, T.n_Claim_second, cf_s _, _, rfl, _, _, _, _, _, rfl, hp, T.cl_Claim, T.n_Claim_low, cf_l _, _, rfl, _, _, _, _, _, rfl, hp, T.cl_Claim, T.n_Claim_high, cf_h _, _, rfl, _, _, _, _, _, rfl, hp, T.cl_Claim, T.n_Claim_weight, cf_w _, sz5, fun q hq => ?_⟩
  exact k q _ hq (Same.new hq) upd_same
theorem ok_law_clip (T : Txt P K mg) : FnOk P w K mg base CX0 1 T.a_law_clip T.d_law_clip ["_law_number"] (spClip) := by
  refine T.F_law_clip.ok sc_law_clip (fun vs H Q E h => ?_) (fun cdv A outer s H vs Q E hr h => ?_)
  · obtain ⟨n, rfl, _⟩ := h
    rfl
  refine ⟨_, (pss_one (ps_ret (pe_callB (call_max2 rfl) (by rfl) T.z_max (by decide +kernel) (pa_cons (pe_op op_sub pe_int (pe_op op_pow pe_int pe_int)) (pa_cons (pe_callB (call_min2 rfl) (by rfl) T.z_min (by decide +kernel) (pa_cons (pv 0) (pa_cons (pe_op op_pow pe_int pe_int) pa_nil))) pa_nil))))), ?_⟩
  obtain ⟨n, rfl, k⟩ := h
  refine ⟨_, _, rfl, rfl, ⟨by decide, by decide, by decide⟩, _, _, rfl, rfl, _, rfl, _, _, rfl, rfl, ⟨by decide, by decide, by decide⟩, _, _, rfl, _, _, rfl, ?_⟩
  exact k
theorem ok_law_node (T : Txt P K mg) : FnOk P w K mg base CX0 2 T.a_law_node T.d_law_node ["_law_source_here"] (spNode) := by
  refine T.F_law_node.ok sc_law_node (fun vs H Q E h => ?_) (fun cdv A outer s H vs Q E hr h => ?_)
  · obtain ⟨a, rfl, _⟩ := h
    rfl
  refine ⟨_, (pss_cons (ps_set (i := 1) sc_law_node.nd rfl (Or.inl rfl) (pe_call (ok_law_draw T) (hr.mono (by decide)) (by rfl) T.m_law_draw T.F_law_draw.kp T.b_law_draw .nil pass0 (pa_cons (pv 0) (pa_cons pe_int pa_nil)))) (pss_cons (ps_if (pt_cmpR op_eq (pv 1) pe_int (nomark _)) (pss_one (ps_ret (pe_ix ix_list (pe_lst (pa_cons (pe_op op_sub pe_int pe_int) (pa_cons pe_int pa_nil))) (pe_call (ok_law_draw T) (hr.mono (by decide)) (by rfl) T.m_law_draw T.F_law_draw.kp T.b_law_draw .nil pass0 (pa_cons (pv 0) (pa_cons pe_int pa_nil))) (fun _ _ => rfl)))) pss_nil) (pss_cons (ps_if (pt_cmpR op_eq (pv 1) pe_int (nomark _)) (pss_one (ps_ret (pe_ix ix_list (pe_lst (pa_cons (pe_op op_sub pe_int pe_int) (pa_cons pe_int pa_nil))) (pe_call (ok_law_draw T) (hr.mono (by decide)) (by rfl) T.m_law_draw T.F_law_draw.kp T.b_law_draw .nil pass0 (pa_cons (pv 0) (pa_cons pe_int pa_nil))) (fun _ _ => rfl)))) pss_nil) (pss_cons (ps_if (pt_cmpR op_eq (pv 1) pe_int (nomark _)) (pss_one (ps_ret (pe_ix ix_list (pe_lst (pa_cons (pe_op op_sub pe_int (pe_op op_pow pe_int pe_int)) (pa_cons (pe_op op_pow pe_int pe_int) pa_nil))) (pe_call (ok_law_draw T) (hr.mono (by decide)) (by rfl) T.m_law_draw T.F_law_draw.kp T.b_law_draw .nil pass0 (pa_cons (pv 0) (pa_cons pe_int pa_nil))) (fun _ _ => rfl)))) pss_nil) (pss_cons (ps_if (pt_cmpR op_eq (pv 1) pe_int (nomark _)) (pss_one (ps_ret (pe_ix ix_list (pe_lst (pa_cons pe_int (pa_cons pe_int pa_nil))) (pe_call (ok_law_draw T) (hr.mono (by decide)) (by rfl) T.m_law_draw T.F_law_draw.kp T.b_law_draw .nil pass0 (pa_cons (pv 0) (pa_cons pe_int pa_nil))) (fun _ _ => rfl)))) pss_nil) (pss_one (ps_ret (pe_call (ok_law_draw T) (hr.mono (by decide)) (by rfl) T.m_law_draw T.F_law_draw.kp T.b_law_draw .nil pass0 (pa_cons (pv 0) (pa_cons pe_int pa_nil)))))))))), ?_⟩
  obtain ⟨a, rfl, hs, k⟩ := h
  refine ⟨_, rfl, _, _, rfl, hs, by decide, by decide, fun sh H1 _ _ hs1 b1 => asg ?_⟩
  refine sqIf (b := decide (V.int sh = V.int 0)) (fun Q' q => ⟨_, rfl, rfl, _, rfl, q⟩) (fun c => ?_) (fun c => nxt ?_)
  · refine ⟨_, _, rfl, rfl, sz2, fun l hl => ?_⟩
    refine ⟨_, rfl, _, _, rfl, hs1.same (Same.new hl), by decide, by decide, fun r H2 r0 r1 hs2 b2 => ?_⟩
    obtain ⟨v, _, hat⟩ := pick [0 - 1, 16] r r0 r1
    exact ⟨_, _, _, _, rfl, rfl, .inl (.inl (b2 l _ (hs1.ne hl) upd_same)), hat, k v H2 hs2 (b1.trans ((But.new hl).trans b2))⟩
  refine sqIf (b := decide (V.int sh = V.int 1)) (fun Q' q => ⟨_, rfl, rfl, _, rfl, q⟩) (fun c => ?_) (fun c => nxt ?_)
  · refine ⟨_, _, rfl, rfl, sz2, fun l hl => ?_⟩
    refine ⟨_, rfl, _, _, rfl, hs1.same (Same.new hl), by decide, by decide, fun r H2 r0 r1 hs2 b2 => ?_⟩
    obtain ⟨v, _, hat⟩ := pick [0 - 2, 17] r r0 r1
    exact ⟨_, _, _, _, rfl, rfl, .inl (.inl (b2 l _ (hs1.ne hl) upd_same)), hat, k v H2 hs2 (b1.trans ((But.new hl).trans b2))⟩
  refine sqIf (b := decide (V.int sh = V.int 2)) (fun Q' q => ⟨_, rfl, rfl, _, rfl, q⟩) (fun c => ?_) (fun c => nxt ?_)
  · refine ⟨_, _, rfl, rfl, ⟨by decide, by decide, by decide⟩, _, _, rfl, rfl, _, _, rfl, rfl, ⟨by decide, by decide, by decide⟩, sz2, fun l hl => ?_⟩
    refine ⟨_, rfl, _, _, rfl, hs1.same (Same.new hl), by decide, by decide, fun r H2 r0 r1 hs2 b2 => ?_⟩
    obtain ⟨v, _, hat⟩ := pick [0 - 10 ^ 11, 10 ^ 11] r r0 r1
    exact ⟨_, _, _, _, rfl, rfl, .inl (.inl (b2 l _ (hs1.ne hl) upd_same)), hat, k v H2 hs2 (b1.trans ((But.new hl).trans b2))⟩
  refine sqIf (b := decide (V.int sh = V.int 3)) (fun Q' q => ⟨_, rfl, rfl, _, rfl, q⟩) (fun c => ?_) (fun c => nxt ?_)
  · refine ⟨sz2, fun l hl => ?_⟩
    refine ⟨_, rfl, _, _, rfl, hs1.same (Same.new hl), by decide, by decide, fun r H2 r0 r1 hs2 b2 => ?_⟩
    obtain ⟨v, _, hat⟩ := pick [0, 15] r r0 r1
    exact ⟨_, _, _, _, rfl, rfl, .inl (.inl (b2 l _ (hs1.ne hl) upd_same)), hat, k v H2 hs2 (b1.trans ((But.new hl).trans b2))⟩
  refine ⟨_, rfl, _, _, rfl, hs1, by decide, by decide, fun r H2 r0 r1 hs2 b2 => ?_⟩
  exact k r H2 hs2 (b1.trans b2)
theorem ok_law_bounds (T : Txt P K mg) : FnOk P w K mg base CX0 2 T.a_law_bounds T.d_law_bounds ["_law_source_here"] (spBounds) := by
  refine T.F_law_bounds.ok sc_law_bounds (fun vs H Q E h => ?_) (fun cdv A outer s H vs Q E hr h => ?_)
  · obtain ⟨a, rfl, _⟩ := h
    rfl
  refine ⟨_, (pss_cons (ps_set (i := 1) sc_law_bounds.nd rfl (Or.inl rfl) (pe_op op_sub (pe_call (ok_law_draw T) (hr.mono (by decide)) (by rfl) T.m_law_draw T.F_law_draw.kp T.b_law_draw .nil pass0 (pa_cons (pv 0) (pa_cons pe_int pa_nil))) pe_int)) (pss_cons (ps_set (i := 2) sc_law_bounds.nd rfl (Or.inl rfl) (pe_call (ok_law_draw T) (hr.mono (by decide)) (by rfl) T.m_law_draw T.F_law_draw.kp T.b_law_draw .nil pass0 (pa_cons (pv 0) (pa_cons pe_int pa_nil)))) (pss_cons (ps_if (pt_cmpR op_eq (pv 2) pe_int (nomark _)) (pss_one (ps_set (i := 1) sc_law_bounds.nd rfl (Or.inl rfl) (pe_op op_add (pe_op op_mul (pe_op op_sub (pe_call (ok_law_draw T) (hr.mono (by decide)) (by rfl) T.m_law_draw T.F_law_draw.kp T.b_law_draw .nil pass0 (pa_cons (pv 0) (pa_cons pe_int pa_nil))) pe_int) (pe_op op_pow pe_int pe_int)) (pe_call (ok_law_draw T) (hr.mono (by decide)) (by rfl) T.m_law_draw T.F_law_draw.kp T.b_law_draw .nil pass0 (pa_cons (pv 0) (pa_cons (pe_op op_pow pe_int pe_int) pa_nil)))))) pss_nil) (pss_cons (ps_if (pt_cmpR op_eq (pv 2) pe_int (nomark _)) (pss_one (ps_set (i := 1) sc_law_bounds.nd rfl (Or.inl rfl) (pe_ix ix_list (pe_lst (pa_cons (pe_op op_sub pe_int (pe_op op_pow pe_int pe_int)) (pa_cons (pe_op op_pow pe_int pe_int) pa_nil))) (pe_call (ok_law_draw T) (hr.mono (by decide)) (by rfl) T.m_law_draw T.F_law_draw.kp T.b_law_draw .nil pass0 (pa_cons (pv 0) (pa_cons pe_int pa_nil))) (fun _ _ => rfl)))) pss_nil) (pss_cons (ps_set (i := 3) sc_law_bounds.nd rfl (Or.inl rfl) (pe_lst (pa_cons (pv 1) (pa_cons (pe_call (ok_law_clip T) (hr.mono (by decide)) (by rfl) T.m_law_clip T.F_law_clip.kp T.b_law_clip .nil pass0 (pa_cons (pe_op op_add (pe_op op_sub (pv 1) pe_int) (pe_call (ok_law_draw T) (hr.mono (by decide)) (by rfl) T.m_law_draw T.F_law_draw.kp T.b_law_draw .nil pass0 (pa_cons (pv 0) (pa_cons pe_int pa_nil)))) pa_nil)) pa_nil)))) (pss_cons (ps_set (i := 4) sc_law_bounds.nd rfl (Or.inl rfl) (pe_call (ok_law_draw T) (hr.mono (by decide)) (by rfl) T.m_law_draw T.F_law_draw.kp T.b_law_draw .nil pass0 (pa_cons (pv 0) (pa_cons pe_int pa_nil)))) (pss_cons (ps_if (PW.pt (pw_or (pt_cmpR op_eq (pv 4) pe_int (nomark _)) (pw_or1 (pt_cmpR op_eq (pv 4) pe_int (nomark _))))) (pss_one (ps_asg pe_non (pg_sub (pv 3) pe_int set_list))) pss_nil) (pss_cons (ps_if (PW.pt (pw_or (pt_cmpR op_eq (pv 4) pe_int (nomark _)) (pw_or1 (pt_cmpR op_eq (pv 4) pe_int (nomark _))))) (pss_one (ps_asg pe_non (pg_sub (pv 3) pe_int set_list))) pss_nil) (pss_one (ps_ret (pv 3))))))))))), ?_⟩
  obtain ⟨a, rfl, hs, k⟩ := h
  refine ⟨_, rfl, _, _, rfl, hs, by decide, by decide, fun r1 H1 _ _ hs1 b1 => ⟨_, _, rfl, rfl, asg ?_⟩⟩
  refine ⟨_, rfl, _, _, rfl, hs1, by decide, by decide, fun sh H2 _ _ hs2 b2 => asg ?_⟩
  have B2 := b1.trans b2
  refine cutS (M := BdJ H a sh) ?_ (fun M => ?_)
  · rintro σ' H3 ⟨x, rfl, hs3, B3⟩
    refine cutS (M := BdJ H a sh) ?_ (fun M => ?_)
    · rintro σ' H3 ⟨x, rfl, hs3, B3⟩
      refine ⟨_, rfl, _, rfl, _, _, rfl, rfl, _, rfl, _, _, rfl, hs3, by decide, by decide, fun r4 H4 _ _ hs4 b4 => ?_⟩
      refine ⟨_, _, rfl, rfl, _, rfl, sz2, fun l hl => asg ?_⟩
      have la := hs4.ne hl
      have B4 := B3.trans b4
      refine ⟨_, rfl, _, _, rfl, hs4.same (Same.new hl), by decide, by decide, fun sd H5 _ _ hs5 b5 => asg ?_⟩
      have B5 := B4.trans ((But.new (o := .lst [V.int x, V.int (clip (x - 2 + r4))]) hl).trans b5)
      have hl5 : H5 l = some (.lst [vo (some x), vo (some (clip (x - 2 + r4)))]) := b5 l _ la upd_same
      refine cutS (M := BeJ H a sh (some (.int sd))) ?_ (fun M => ?_)
      · rintro σ' H6 ⟨x, l, lo, hi, rfl, la, hl, hL, hs6, B6⟩
        refine cutS (M := BeJ H a sh (some (.int sd))) ?_ (fun M => ?_)
        · rintro σ' H6 ⟨x, l, lo, hi, rfl, la, hl, hL, hs6, B6⟩
          exact ⟨_, rfl, k l lo hi H6 hl hL hs6 B6⟩
        · refine sqIf (put_or (a := decide (V.int sd = V.int 1)) (b := decide (V.int sd = V.int 2)) (fun Q' q => ⟨_, rfl, rfl, _, rfl, q⟩) (fun _ Q' q => ⟨_, rfl, rfl, _, rfl, q⟩)) (fun c => ?_) (fun c => nxt (M _ _ ⟨x, l, lo, hi, rfl, la, hl, hL, hs6, B6⟩))
          exact ⟨_, rfl, l, _, 1, 1, rfl, rfl, hL, rfl, M _ _ ⟨x, l, lo, none, rfl, la, hl, upd_same, hs6.set la, B6.mut hl⟩⟩
      · have hl0 := B4.free hl la
        refine sqIf (put_or (a := decide (V.int sd = V.int 0)) (b := decide (V.int sd = V.int 2)) (fun Q' q => ⟨_, rfl, rfl, _, rfl, q⟩) (fun _ Q' q => ⟨_, rfl, rfl, _, rfl, q⟩)) (fun c => ?_) (fun c => nxt (M _ _ ⟨x, l, some x, some (clip (x - 2 + r4)), rfl, la, hl0, hl5, hs5, B5⟩))
        exact ⟨_, rfl, l, _, 0, 0, rfl, rfl, hl5, rfl, M _ _ ⟨x, l, none, some (clip (x - 2 + r4)), rfl, la, hl0, upd_same, hs5.set la, B5.mut hl0⟩⟩
    · refine sqIf (b := decide (V.int sh = V.int 1)) (fun Q' q => ⟨_, rfl, rfl, _, rfl, q⟩) (fun c => ?_) (fun c => nxt (M _ _ ⟨x, rfl, hs3, B3⟩))
      refine ⟨_, _, rfl, rfl, ⟨by decide, by decide, by decide⟩, _, _, rfl, rfl, _, _, rfl, rfl, ⟨by decide, by decide, by decide⟩, sz2, fun l hl => ?_⟩
      refine ⟨_, rfl, _, _, rfl, hs3.same (Same.new hl), by decide, by decide, fun r7 H7 r70 r71 hs7 b7 => ?_⟩
      obtain ⟨v7, _, hat⟩ := pick [0 - 10 ^ 9, 10 ^ 9] r7 r70 r71
      exact ⟨_, _, _, _, rfl, rfl, .inl (.inl (b7 l _ (hs3.ne hl) upd_same)), hat, asg (M _ _ ⟨v7, rfl, hs7, B3.trans ((But.new hl).trans b7)⟩)⟩
  · refine sqIf (b := decide (V.int sh = V.int 0)) (fun Q' q => ⟨_, rfl, rfl, _, rfl, q⟩) (fun c => ?_) (fun c => nxt (M _ _ ⟨_, rfl, hs2, B2⟩))
    refine ⟨_, rfl, _, _, rfl, hs2, by decide, by decide, fun r6 H6 r60 r61 hs6 b6 => ?_⟩
    refine ⟨_, _, rfl, rfl, _, _, rfl, rfl, ⟨by decide, by decide, by decide⟩, _, _, rfl, rfl, .inr ⟨by decide, by decide⟩, _, rfl, _, _, rfl, rfl, ⟨by decide, by decide, by decide⟩, _, _, rfl, hs6, by decide, by decide, fun r7 H7 _ _ hs7 b7 => ?_⟩
    exact ⟨_, _, rfl, rfl, asg (M _ _ ⟨_, rfl, hs7, B2.trans (b6.trans b7)⟩)⟩
theorem ok_law_wrong (T : Txt P K mg) : FnOk P w K mg base CX0 1 T.a_law_wrong T.d_law_wrong ["_law_tell"] (spWrong K) := by
  refine T.F_law_wrong.ok sc_law_wrong (fun vs H Q E h => ?_) (fun cdv A outer s H vs Q E hr h => ?_)
  · obtain ⟨p, f, s, lo, hi, m, rfl, _⟩ := h
    rfl
  refine ⟨_, (pss_cons (ps_if (PW.pt (pw_or (pt_cmpR op_lt (pe_callB (call_min2 rfl) (by rfl) T.z_min (by decide +kernel) (pa_cons (pe_ix ix_tup (pv 0) pe_int (fun _ _ => rfl)) (pa_cons (pe_ix ix_tup (pv 0) pe_int (fun _ _ => rfl)) pa_nil))) pe_int (nomark _)) (pw_or1 (pt_cmpR op_gt (pe_callB (call_max2 rfl) (by rfl) T.z_max (by decide +kernel) (pa_cons (pe_ix ix_tup (pv 0) pe_int (fun _ _ => rfl)) (pa_cons (pe_ix ix_tup (pv 0) pe_int (fun _ _ => rfl)) pa_nil))) pe_int (nomark _))))) (pss_one (ps_ret pe_str)) pss_nil) (pss_cons (ps_if (PW.pt (pw_and (pt_cmpR op_notN (pe_ix ix_tup (pv 0) pe_int (fun _ _ => rfl)) pe_non (nomark _)) (pw_and (pt_cmpR op_notN (pe_ix ix_tup (pv 0) pe_int (fun _ _ => rfl)) pe_non (nomark _)) (pw_and1 (pt_cmpR op_gt (pe_ix ix_tup (pv 0) pe_int (fun _ _ => rfl)) (pe_ix ix_tup (pv 0) pe_int (fun _ _ => rfl)) (nomark _)))))) (pss_one (ps_ret pe_str)) pss_nil) (pss_cons (ps_if (PW.pt (pw_or (pt_cmpR op_lt (pe_ix ix_tup (pv 0) pe_int (fun _ _ => rfl)) pe_int (nomark _)) (pw_or1 (pt_cmpR op_gt (pe_ix ix_tup (pv 0) pe_int (fun _ _ => rfl)) pe_int (nomark _))))) (pss_one (ps_ret pe_str)) pss_nil) (pss_one (ps_ret pe_str))))), ?_⟩
  obtain ⟨p, f, s, lo, hi, m, rfl, hT, k⟩ := h
  refine sqIf (b := !okN f s) (put_is (put_or (a := decide ((if s < f then s else f) < 0)) (b := decide ((15 : Int) < (if s > f then s else f))) (fun Q' q => ⟨_, rfl, _, _, _, _, rfl, rfl, hT, rfl, _, rfl, _, _, _, _, rfl, rfl, hT, rfl, _, _, rfl, _, _, rfl, rfl, _, rfl, q⟩) (fun _ Q' q => ⟨_, rfl, _, _, _, _, rfl, rfl, hT, rfl, _, rfl, _, _, _, _, rfl, rfl, hT, rfl, _, _, rfl, _, _, rfl, rfl, _, rfl, q⟩)) ?_) (fun c => ?_) (fun c => nxt ?_)
  · unfold okN
    rw [Bool.eq_iff_iff]
    simp only [Bool.or_eq_true, Bool.not_eq_true', Bool.and_eq_false_iff, decide_eq_true_eq, decide_eq_false_iff_not]
    (repeat' split) <;> omega
  · have e : wr f s lo hi m = "nodes" := by
      unfold wr
      rw [if_neg (by intro z; rw [z] at c; cases c)]
    rw [e] at k
    exact k
  have cN : okN f s = true := by simpa using c
  refine sqIf (b := !okB lo hi) (fun Q' q => ?_) (fun c => ?_) (fun c => nxt ?_)
  · cases lo with
    | none => exact ⟨_, rfl, _, _, _, _, rfl, rfl, hT, rfl, rfl, _, rfl, iteF q⟩
    | some l =>
      refine ⟨_, rfl, _, _, _, _, rfl, rfl, hT, rfl, rfl, _, rfl, iteT ?_⟩
      cases hi with
      | none => exact ⟨_, rfl, _, _, _, _, rfl, rfl, hT, rfl, rfl, _, rfl, iteF q⟩
      | some h =>
        refine ⟨_, rfl, _, _, _, _, rfl, rfl, hT, rfl, rfl, _, rfl, iteT ⟨_, rfl, _, _, _, _, rfl, rfl, hT, rfl, _, rfl, _, _, _, _, rfl, rfl, hT, rfl, _, _, rfl, rfl, _, rfl, ?_⟩⟩
        rw [show decide (h < l) = !okB (some l) (some h) by
          unfold okB
          rw [Bool.eq_iff_iff]
          simp]
        exact q
  · have e : wr f s lo hi m = "bounds" := by
      unfold wr
      rw [if_pos cN, if_neg (by intro z; rw [z] at c; cases c)]
    rw [e] at k
    exact k
  have cB : okB lo hi = true := by simpa using c
  refine sqIf (b := !okW m) (put_is (put_or (a := decide (m < 1)) (b := decide ((99 : Int) < m)) (fun Q' q => ⟨_, rfl, _, _, _, _, rfl, rfl, hT, rfl, _, _, rfl, rfl, _, rfl, q⟩) (fun _ Q' q => ⟨_, rfl, _, _, _, _, rfl, rfl, hT, rfl, _, _, rfl, rfl, _, rfl, q⟩)) ?_) (fun c => ?_) (fun c => nxt ?_)
  · unfold okW
    rw [Bool.eq_iff_iff]
    simp only [Bool.or_eq_true, Bool.not_eq_true', Bool.and_eq_false_iff, decide_eq_true_eq, decide_eq_false_iff_not]
    omega
  · have e : wr f s lo hi m = "weight" := by
      unfold wr
      rw [if_pos cN, if_pos cB, if_neg (by intro z; rw [z] at c; cases c)]
    rw [e] at k
    exact k
  have cW : okW m = true := by simpa using c
  have e : wr f s lo hi m = "" := by
    unfold wr
    rw [if_pos cN, if_pos cB, if_pos cW]
  rw [e] at k
  exact k
theorem ok_law_same (T : Txt P K mg) : FnOk P w K mg base CX0 2 T.a_law_same T.d_law_same ["_law_actual", "_law_tell"] (spSame K) := by
  refine T.F_law_same.ok sc_law_same (fun vs H Q E h => ?_) (fun cdv A outer s H vs Q E hr h => ?_)
  · obtain ⟨p, a, t, rfl, _⟩ := h
    rfl
  refine ⟨_, (pss_cons (ps_if (PW.pt (pw_or (pt_not (pt_val (pe_callB call_isi (by rfl) T.z_isinstance (by decide +kernel) (pa_cons (pv 0) (pa_cons (pe_bltn (v := .ty "tuple") (u := .type "tuple") (by rfl) T.z_tuple (by decide +kernel) rfl) pa_nil))))) (pw_or1 (pt_cmpR op_ne (pe_callB call_len_seq (by rfl) T.z_len (by decide +kernel) (pa_cons (pv 0) pa_nil)) pe_int (nomark _))))) (pss_one (ps_ret pe_bl)) pss_nil) (pss_cons (ps_for PassesOwn.never rfl (pi_range1 (by rfl) T.z_range (pa_cons pe_int pa_nil)) (pg_name (i := 2) sc_law_same.nd rfl (Or.inl rfl)) (pss_one (ps_if (pt_cmpR op_isN (pe_ix ix_tup (pv 1) (pv 2) (fun _ _ => rfl)) pe_non (nomark _)) (pss_one (ps_if (pt_cmpR op_notN (pe_ix ix_tup (pv 0) (pv 2) (fun _ _ => rfl)) pe_non (nomark _)) (pss_one (ps_ret pe_bl)) pss_nil)) (pss_one (ps_if (PW.pt (pw_or (pt_not (pt_val (pe_call (ok_law_whole T) (hr.mono (by decide)) (by rfl) T.m_law_whole T.F_law_whole.kp T.b_law_whole .nil pass0 (pa_cons (pe_ix ix_tup (pv 0) (pv 2) (fun _ _ => rfl)) pa_nil)))) (pw_or1 (pt_cmpR op_ne (pe_ix ix_tup (pv 0) (pv 2) (fun _ _ => rfl)) (pe_ix ix_tup (pv 1) (pv 2) (fun _ _ => rfl)) (nomark _))))) (pss_one (ps_ret pe_bl)) pss_nil))))) (pss_one (ps_ret pe_bl)))), ?_⟩
  obtain ⟨p, a, t, rfl, hp, hT, k⟩ := h
  refine sqIf (put_is (b := false) (put_or (put_not (a := true) (fun Q' q => ⟨_, rfl, _, _, _, _, _, rfl, .ty _, .base (.tup hp), kit_ty kit_tup_tup, _, rfl, q⟩)) (fun _ Q' q => ⟨_, rfl, p, _, rfl, .inr (.inl (.inl hp)), rfl, _, rfl, q⟩)) (by rw [dec_int]; rfl)) (fun z => nomatch z) (fun _ => nxt ?_)
  refine ⟨5, rfl, by decide, by decide, for_range (n := 5) (fun i σ H' => H' = H ∧ ∃ v, σ = [some (.ref p), some (.ref a), v]) ⟨rfl, none, rfl⟩ ?_ ?_⟩
  · rintro i σ H' hi ⟨rfl, v, rfl⟩
    obtain ⟨o, ho⟩ := tv_at t i hi
    cases o with
    | none =>
      refine ifS_of (b := true) (fun Q' q => ⟨_, rfl, _, rfl, _, _, _, _, rfl, rfl, hT, atI0 ho, rfl, _, rfl, q⟩) (fun _ => ?_) (fun z => nomatch z)
      refine ifS_of (b := false) (fun Q' q => ⟨_, rfl, _, rfl, _, _, _, _, rfl, rfl, .inl (.inl hp), atI0 ho, rfl, _, rfl, q⟩) (fun z => nomatch z) (fun _ => nxt ?_)
      exact ⟨rfl, _, rfl⟩
    | some n =>
      refine ifS_of (b := false) (fun Q' q => ⟨_, rfl, _, rfl, _, _, _, _, rfl, rfl, hT, atI0 ho, rfl, _, rfl, q⟩) (fun z => nomatch z) (fun _ => ?_)
      refine ifS_of (put_is (b := false) (put_or (put_not (a := true) (fun Q' q => ⟨_, rfl, _, rfl, _, _, _, _, rfl, rfl, .inl (.inl hp), atI0 ho, n, rfl, _, rfl, q⟩)) (fun _ Q' q => ⟨_, rfl, _, rfl, _, _, _, _, rfl, rfl, .inl (.inl hp), atI0 ho, _, rfl, _, rfl, _, _, _, _, rfl, rfl, hT, atI0 ho, rfl, _, rfl, q⟩)) (by rw [decide_eq_true rfl]; rfl)) (fun z => nomatch z) (fun _ => nxt ?_)
      exact ⟨rfl, _, rfl⟩
  · rintro σ H' ⟨rfl, v, rfl⟩
    exact k
theorem ok_law_asked (T : Txt P K mg) : FnOk P w K mg base CX0 5 T.a_law_asked T.d_law_asked ["_law_tell", "_law_left"] (spAsked K) := by
  refine T.F_law_asked.ok sc_law_asked (fun vs H Q E h => ?_) (fun cdv A outer s H vs Q E hr h => ?_)
  · obtain ⟨p, f, s, lo, hi, m, b, rfl, _⟩ := h
    rfl
  refine ⟨_, (pss_cons (ps_set (i := 2) sc_law_asked.nd rfl (Or.inl rfl) (pe_call (ok_law_wrong T) (hr.mono (by decide)) (by rfl) T.m_law_wrong T.F_law_wrong.kp T.b_law_wrong .nil pass0 (pa_cons (pv 0) pa_nil))) (pss_cons (ps_try_as (i := 4) (tb := fun W => (tIfS (tB (tVar 1)) (tAsg (tMakeS T.C_Claim (spInitX T.C_Claim T.C_InvalidClaim) [.int 1] (WE W) (tCons (tOp (rIxT K) (tVar 0) (tC (.int 0))) (tCons (tOp (rIxT K) (tVar 0) (tC (.int 1))) (tCons (tOp (rIxT K) (tVar 0) (tC (.int 2))) (tCons (tOp (rIxT K) (tVar 0) (tC (.int 3))) tNil))))) (gName 3)) (tAsg (tMakeKS T.C_Claim 4 1 (spInitX T.C_Claim T.C_InvalidClaim) (fun vs zs => vs ++ zs) (WE W) (tCons (tOp (rIxT K) (tVar 0) (tC (.int 0))) (tCons (tOp (rIxT K) (tVar 0) (tC (.int 1))) (tCons (tOp (rIxT K) (tVar 0) (tC (.int 2))) (tCons (tOp (rIxT K) (tVar 0) (tC (.int 3))) tNil)))) (tCons (tOp (rIxT K) (tVar 0) (tC (.int 4))) tNil)) (gName 3)))) (ts := fun a cls d => (tSeq (tIfS (tOr (tNot (tB (tCB (rIsX K a cls d) (tCons (tVar 4) (tCons (tC (.ref T.C_InvalidClaim)) tNil))))) (tNot (tB (tCB (rIsX K a cls d) (tCons (tVar 4) (tCons (tC (.ty "ValueError")) tNil)))))) (tRet (tC (.bl false))) tNext) (tSeq (tIfS (tOr (tB (tCB (rIsX K a cls d) (tCons (tVar 4) (tCons (tC (.ref T.C_InvalidFrame)) tNil)))) (tOr (tB (tCB (rIsX K a cls d) (tCons (tVar 4) (tCons (tC (.ref T.C_InvalidDoubt)) tNil)))) (tB (tCB (rIsX K a cls d) (tCons (tVar 4) (tCons (tC (.ref T.C_InvalidPlan)) tNil)))))) (tRet (tC (.bl false))) tNext) (tRet (tAndV (tOp rNe (tVar 2) (tC (.str ""))) (tAndV (tCB (rIsi K) (tCons (tXf a cls d T.C_InvalidClaim "part" (tVar 4)) (tCons (tC (.ty "str")) tNil))) (tOp rEq (tXf a cls d T.C_InvalidClaim "part" (tVar 4)) (tVar 2)))))))) (Wout := fun _ _ _ _ => False) rfl rfl sc_law_asked.nd rfl rfl ⟨rfl, by decide, Or.inl T.m_HallError⟩ tk_no (fun W pn xe tk _ => (by exact (pss_one (ps_if (pt_val (pv 1)) (pss_one (ps_set (i := 3) sc_law_asked.nd rfl (Or.inl rfl) (pe_makeS T.mk_Claim (ok_ClaimI__initI T) (hr.mono (by decide)) (by rfl) T.m_Claim T.b_ClaimI__initI_5.choose_spec.2 T.b_ClaimI__initI_5.choose_spec.1 (fun σ => passAt tk σ) (pa_cons (pe_ix ix_tup (pv 0) pe_int (fun _ _ => rfl)) (pa_cons (pe_ix ix_tup (pv 0) pe_int (fun _ _ => rfl)) (pa_cons (pe_ix ix_tup (pv 0) pe_int (fun _ _ => rfl)) (pa_cons (pe_ix ix_tup (pv 0) pe_int (fun _ _ => rfl)) pa_nil))))))) (pss_one (ps_set (i := 3) sc_law_asked.nd rfl (Or.inl rfl) (pe_makeKS (n := 4) (ks := ["weight"]) T.mk_Claim (ok_ClaimI__initI T) (hr.mono (by decide)) (by rfl) T.m_Claim T.b_ClaimI__initI_5_weight (fun σ => passAt tk σ) (pa_cons (pe_ix ix_tup (pv 0) pe_int (fun _ _ => rfl)) (pa_cons (pe_ix ix_tup (pv 0) pe_int (fun _ _ => rfl)) (pa_cons (pe_ix ix_tup (pv 0) pe_int (fun _ _ => rfl)) (pa_cons (pe_ix ix_tup (pv 0) pe_int (fun _ _ => rfl)) pa_nil)))) (pk_cons (pe_ix ix_tup (pv 0) pe_int (fun _ _ => rfl)) pk_nil)))))))) (fun a oe cls d pn hz hf => (by exact (pss_cons (ps_if (PW.pt (pw_or (pt_not (pt_val (pe_callB (call_isX hz hf) (by rfl) T.z_isinstance (by decide +kernel) (pa_cons (pv 4) (pa_cons (pe_glob (v := .ref T.C_InvalidClaim) rfl T.m_InvalidClaim rfl) pa_nil))))) (pw_or1 (pt_not (pt_val (pe_callB (call_isX hz hf) (by rfl) T.z_isinstance (by decide +kernel) (pa_cons (pv 4) (pa_cons (pe_bltn (v := .ty "ValueError") (u := .type "ValueError") (by rfl) T.z_ValueError (by decide +kernel) rfl) pa_nil)))))))) (pss_one (ps_ret pe_bl)) pss_nil) (pss_cons (ps_if (PW.pt (pw_or (pt_val (pe_callB (call_isX hz hf) (by rfl) T.z_isinstance (by decide +kernel) (pa_cons (pv 4) (pa_cons (pe_glob (v := .ref T.C_InvalidFrame) rfl T.m_InvalidFrame rfl) pa_nil)))) (pw_or (pt_val (pe_callB (call_isX hz hf) (by rfl) T.z_isinstance (by decide +kernel) (pa_cons (pv 4) (pa_cons (pe_glob (v := .ref T.C_InvalidDoubt) rfl T.m_InvalidDoubt rfl) pa_nil)))) (pw_or1 (pt_val (pe_callB (call_isX hz hf) (by rfl) T.z_isinstance (by decide +kernel) (pa_cons (pv 4) (pa_cons (pe_glob (v := .ref T.C_InvalidPlan) rfl T.m_InvalidPlan rfl) pa_nil)))))))) (pss_one (ps_ret pe_bl)) pss_nil) (pss_one (ps_ret (pe_and (pe_cmpR op_ne (pv 2) pe_str (nomark _)) (pe_and (pe_callB call_isi (by rfl) T.z_isinstance (by decide +kernel) (pa_cons (pe_xf ⟨T.xc_InvalidClaim.hg, T.xc_InvalidClaim.hk, T.xc_InvalidClaim.hs, T.xc_InvalidClaim.hd⟩ T.n_InvalidClaim_part hz hf (pv 4)) (pa_cons (pe_bltn (v := .ty "str") (u := .type "str") (by rfl) T.z_str (by decide +kernel) rfl) pa_nil))) (pe_one (pe_cmpR op_eq (pe_xf ⟨T.xc_InvalidClaim.hg, T.xc_InvalidClaim.hk, T.xc_InvalidClaim.hs, T.xc_InvalidClaim.hd⟩ T.n_InvalidClaim_part hz hf (pv 4)) (pv 2) (nomark _)))))))))))) (pss_cons (ps_if (PW.pt (pw_or (pt_cmpR op_ne (pv 2) pe_str (nomark _)) (pw_or1 (pt_not (pt_val (pe_call (ok_law_same T) (hr.mono (by decide)) (by rfl) T.m_law_same T.F_law_same.kp T.b_law_same .nil pass0 (pa_cons (pe_meth0 (pv 3) T.cl_Claim T.t_Claim_parts (ok_Claim_parts T) (hr.mono (by decide)) T.b_Claim_parts .nil pass0) (pa_cons (pv 0) pa_nil)))))))) (pss_one (ps_ret pe_bl)) pss_nil) (pss_one (ps_ret (pe_call (ok_law_same T) (hr.mono (by decide)) (by rfl) T.m_law_same T.F_law_same.kp T.b_law_same .nil pass0 (pa_cons (pe_tup (pa_cons (pe_fld (pv 3) rfl) (pa_cons (pe_fld (pv 3) rfl) (pa_cons (pe_fld (pv 3) rfl) (pa_cons (pe_fld (pv 3) rfl) (pa_cons (pe_fld (pv 3) rfl) pa_nil)))))) (pa_cons (pv 0) pa_nil)))))))), ?_⟩
  obtain ⟨p, f, s, lo, hi, m, b, rfl, hT, hb, k⟩ := h
  have EX := PySem.W.exm_ref T.hs_hall T.hd_hall T.ht_hall T.su_hall
  refine ⟨_, rfl, p, f, s, lo, hi, m, rfl, hT, asg ?_⟩
  refine cutS (M := fun σ' H' => ∃ q, σ' = [some (.ref p), some (.bl b), some (.str (wr f s lo hi m)), some (.ref q), none] ∧ Same H H' ∧ wr f s lo hi m = "" ∧ ClAt T.C_Claim H' q ⟨f.toNat, s.toNat, lo, hi, m⟩) ?_ (fun M => ?_)
  · rintro σ' H1 ⟨q, rfl, k1, hw, hq⟩
    have cN : okN f s = true := by
      unfold wr at hw
      cases z : okN f s with
      | true => rfl
      | false => rw [z, if_neg (by decide)] at hw; revert hw; decide +kernel
    unfold okN at cN
    simp only [Bool.and_eq_true, decide_eq_true_eq] at cN
    have ef : ((f.toNat : Nat) : Int) = f := by omega
    have es : ((s.toNat : Nat) : Int) = s := by omega
    have et : tvI f s lo hi m = tv ⟨f.toNat, s.toNat, lo, hi, m⟩ := by
      unfold tvI tv
      simp only [ef, es]
    rw [et] at hT
    obtain ⟨dx, e1⟩ := hq
    rw [hw]
    refine ⟨_, rfl, rfl, _, rfl, ?_⟩
    rw [show (!decide (V.str "" = V.str "")) = false by rw [decide_eq_true rfl]; rfl]
    refine iteF ⟨_, rfl, _, _, _, rfl, e1, no_parts _, q, _, rfl, ⟨dx, e1⟩, fun p' H2 n2 s2 et2 => ⟨_, rfl, p', p, _, rfl, et2, SqT.keep (SqT.keep hT k1) s2, _, rfl, iteF (nxt ?_)⟩⟩
    have e2 := s2 _ _ e1
    refine ⟨_, rfl, _, _, _, _, _, rfl, e2, T.cl_Claim, T.n_Claim_first, cf_f _, _, rfl, _, _, _, _, _, rfl, e2, T.cl_Claim, T.n_Claim_second, cf_s _, _, rfl, _, _, _, _, _, rfl, e2, T.cl_Claim, T.n_Claim_low, cf_l _, _, rfl, _, _, _, _, _, rfl, e2, T.cl_Claim, T.n_Claim_high, cf_h _, _, rfl, _, _, _, _, _, rfl, e2, T.cl_Claim, T.n_Claim_weight, cf_w _, sz5, fun p3 hp3 => ?_⟩
    refine ⟨_, rfl, p3, p, _, rfl, upd_same, SqT.keep (SqT.keep (SqT.keep hT k1) s2) (Same.new hp3), ?_⟩
    exact k _ (fun b o e => Same.new hp3 _ _ (s2 _ _ (k1 _ _ e)))
  · refine ifS_of (b := b) (fun Q' q => ⟨_, rfl, _, rfl, q⟩) (fun c => ?_) (fun c => ?_)
    · have hm := hb c
      subst hm
      refine ⟨_, rfl, _, _, _, _, rfl, rfl, hT, rfl, _, rfl, _, _, _, _, rfl, rfl, hT, rfl, _, rfl, _, _, _, _, rfl, rfl, hT, rfl, _, rfl, _, _, _, _, rfl, rfl, hT, rfl,  fun x dx nx ndx nex => ⟨x, dx, f, s, lo, hi, 1, rfl, upd_same, fun w0 H' bb e => ⟨rfl, asg (M _ _ ⟨x, rfl, (made nx ndx nex bb e).1, w0, (made nx ndx nex bb e).2⟩)⟩, fun hne d H' hd ks hx => ⟨true, EX, fun _ a0 ha0 => ?_, fun q => Bool.noConfusion q⟩⟩⟩
      refine sqIf (b := false) (put_is (put_or (put_not (a := true) (fun Q' q => ⟨_, rfl, _, _, _, _, _, _, rfl, rfl, T.xc_InvalidClaim, rfl, hx, .own _, kit_self, _, rfl, q⟩)) (fun _ => put_not (a := true) (fun Q' q => ⟨_, rfl, _, _, _, _, _, _, rfl, rfl, T.xc_InvalidClaim, rfl, hx, .ty _, T.is_ve, _, rfl, q⟩))) rfl) (fun z => nomatch z) (fun _ => nxt ?_)
      refine sqIf (b := false) (put_is (put_or (a := false) (fun Q' q => ⟨_, rfl, _, _, _, _, _, _, rfl, rfl, T.xc_InvalidClaim, rfl, hx, .own _, T.is_if, _, rfl, q⟩) (fun _ => put_or (a := false) (b := false) (fun Q' q => ⟨_, rfl, _, _, _, _, _, _, rfl, rfl, T.xc_InvalidClaim, rfl, hx, .own _, T.is_id, _, rfl, q⟩) (fun _ Q' q => ⟨_, rfl, _, _, _, _, _, _, rfl, rfl, T.xc_InvalidClaim, rfl, hx, .own _, T.is_ip, _, rfl, q⟩))) rfl) (fun z => nomatch z) (fun _ => nxt ?_)
      refine ⟨_, rfl, rfl, _, rfl, ?_⟩
      rw [if_pos (by simpa using hne)]
      refine ⟨_, rfl, rfl, rfl, _, _, _, rfl, hx, rfl, _, _, _, _, _, rfl, .ty _, .base (.str _), kit_ty kit_str_str, _, rfl, ?_⟩
      rw [if_pos rfl]
      refine ⟨_, rfl, rfl, rfl, _, _, _, rfl, hx, rfl, _, rfl, rfl, ?_⟩
      rw [decide_eq_true rfl]
      exact k _ (fun c o e => ks _ _ (two_new nx ndx nex _ _ e))
    · refine ⟨_, rfl, _, _, _, _, rfl, rfl, hT, rfl, _, rfl, _, _, _, _, rfl, rfl, hT, rfl, _, rfl, _, _, _, _, rfl, rfl, hT, rfl, _, rfl, _, _, _, _, rfl, rfl, hT, rfl, _, rfl, _, _, _, _, rfl, rfl, hT, rfl,  rfl, rfl, fun x dx nx ndx nex => ⟨x, dx, f, s, lo, hi, m, rfl, upd_same, fun w0 H' bb e => ⟨rfl, asg (M _ _ ⟨x, rfl, (made nx ndx nex bb e).1, w0, (made nx ndx nex bb e).2⟩)⟩, fun hne d H' hd ks hx => ⟨true, EX, fun _ a0 ha0 => ?_, fun q => Bool.noConfusion q⟩⟩⟩
      refine sqIf (b := false) (put_is (put_or (put_not (a := true) (fun Q' q => ⟨_, rfl, _, _, _, _, _, _, rfl, rfl, T.xc_InvalidClaim, rfl, hx, .own _, kit_self, _, rfl, q⟩)) (fun _ => put_not (a := true) (fun Q' q => ⟨_, rfl, _, _, _, _, _, _, rfl, rfl, T.xc_InvalidClaim, rfl, hx, .ty _, T.is_ve, _, rfl, q⟩))) rfl) (fun z => nomatch z) (fun _ => nxt ?_)
      refine sqIf (b := false) (put_is (put_or (a := false) (fun Q' q => ⟨_, rfl, _, _, _, _, _, _, rfl, rfl, T.xc_InvalidClaim, rfl, hx, .own _, T.is_if, _, rfl, q⟩) (fun _ => put_or (a := false) (b := false) (fun Q' q => ⟨_, rfl, _, _, _, _, _, _, rfl, rfl, T.xc_InvalidClaim, rfl, hx, .own _, T.is_id, _, rfl, q⟩) (fun _ Q' q => ⟨_, rfl, _, _, _, _, _, _, rfl, rfl, T.xc_InvalidClaim, rfl, hx, .own _, T.is_ip, _, rfl, q⟩))) rfl) (fun z => nomatch z) (fun _ => nxt ?_)
      refine ⟨_, rfl, rfl, _, rfl, ?_⟩
      rw [if_pos (by simpa using hne)]
      refine ⟨_, rfl, rfl, rfl, _, _, _, rfl, hx, rfl, _, _, _, _, _, rfl, .ty _, .base (.str _), kit_ty kit_str_str, _, rfl, ?_⟩
      rw [if_pos rfl]
      refine ⟨_, rfl, rfl, rfl, _, _, _, rfl, hx, rfl, _, rfl, rfl, ?_⟩
      rw [decide_eq_true rfl]
      exact k _ (fun c o e => ks _ _ (two_new nx ndx nex _ _ e))
theorem sz9 : 9 ≤ sizeLine := by decide
/-- a tuple and three more -/
theorem cat_size {a b c d e : V} : ([a, b] : List V).length + ([c, d, e] : List V).length ≤ sizeLine := sz5
theorem ok_law (T : Txt P K mg) : FnOk P w K mg base CX0 6 T.a_law T.d_law ["_law_script"] (spLaw K) := by
  refine T.F_law.ok sc_law (fun vs H Q E h => ?_) (fun cdv A outer s H vs Q E hr h => ?_)
  · obtain ⟨a, ns, rfl, _⟩ := h
    rfl
  refine ⟨_, (pss_cons (ps_set (i := 1) sc_law.nd rfl (Or.inl rfl) (pe_call (ok_law_source T) (hr.mono (by decide)) (by rfl) T.m_law_source T.F_law_source.kp T.b_law_source .nil pass0 (pa_cons (pv 0) (pa_cons pe_int pa_nil)))) (pss_cons (ps_set (i := 2) sc_law.nd rfl (Or.inl rfl) (pe_call (ok_law_node T) (hr.mono (by decide)) (by rfl) T.m_law_node T.F_law_node.kp T.b_law_node .nil pass0 (pa_cons (pv 1) pa_nil))) (pss_cons (ps_set (i := 3) sc_law.nd rfl (Or.inl rfl) (pe_call (ok_law_node T) (hr.mono (by decide)) (by rfl) T.m_law_node T.F_law_node.kp T.b_law_node .nil pass0 (pa_cons (pv 1) pa_nil))) (pss_cons (ps_set (i := 4) sc_law.nd rfl (Or.inl rfl) (pe_call (ok_law_bounds T) (hr.mono (by decide)) (by rfl) T.m_law_bounds T.F_law_bounds.kp T.b_law_bounds .nil pass0 (pa_cons (pe_call (ok_law_source T) (hr.mono (by decide)) (by rfl) T.m_law_source T.F_law_source.kp T.b_law_source .nil pass0 (pa_cons (pv 0) (pa_cons pe_int pa_nil))) pa_nil))) (pss_cons (ps_set (i := 5) sc_law.nd rfl (Or.inl rfl) (pe_call (ok_law_source T) (hr.mono (by decide)) (by rfl) T.m_law_source T.F_law_source.kp T.b_law_source .nil pass0 (pa_cons (pv 0) (pa_cons pe_int pa_nil)))) (pss_cons (ps_set (i := 6) sc_law.nd rfl (Or.inl rfl) (pe_ix ix_list (pe_lst (pa_cons pe_int (pa_cons pe_int (pa_cons pe_int (pa_cons (pe_op op_add pe_int (pe_call (ok_law_draw T) (hr.mono (by decide)) (by rfl) T.m_law_draw T.F_law_draw.kp T.b_law_draw .nil pass0 (pa_cons (pv 5) (pa_cons pe_int pa_nil)))) (pa_cons (pe_op op_add pe_int (pe_call (ok_law_draw T) (hr.mono (by decide)) (by rfl) T.m_law_draw T.F_law_draw.kp T.b_law_draw .nil pass0 (pa_cons (pv 5) (pa_cons pe_int pa_nil)))) (pa_cons pe_int (pa_cons (pe_op op_sub pe_int pe_int) (pa_cons pe_int (pa_cons (pe_op op_pow pe_int pe_int) pa_nil)))))))))) (pe_call (ok_law_draw T) (hr.mono (by decide)) (by rfl) T.m_law_draw T.F_law_draw.kp T.b_law_draw .nil pass0 (pa_cons (pv 5) (pa_cons pe_int pa_nil))) (fun _ _ => rfl))) (pss_cons (ps_set (i := 7) sc_law.nd rfl (Or.inl rfl) (pe_cmpR op_eq (pe_call (ok_law_draw T) (hr.mono (by decide)) (by rfl) T.m_law_draw T.F_law_draw.kp T.b_law_draw .nil pass0 (pa_cons (pv 5) (pa_cons pe_int pa_nil))) pe_int (nomark _))) (pss_cons (ps_if (pt_val (pv 7)) (pss_one (ps_set (i := 6) sc_law.nd rfl (Or.inl rfl) pe_int)) pss_nil) (pss_cons (ps_set (i := 8) sc_law.nd rfl (Or.inl rfl) (pe_tup (pa_cons (pv 2) (pa_cons (pv 3) (pa_cons (pe_ix ix_list (pv 4) pe_int (fun _ _ => rfl)) (pa_cons (pe_ix ix_list (pv 4) pe_int (fun _ _ => rfl)) (pa_cons (pv 6) pa_nil))))))) (pss_cons (ps_if (pt_not (pt_val (pe_call (ok_law_asked T) (hr.mono (by decide)) (by rfl) T.m_law_asked T.F_law_asked.kp T.b_law_asked .nil pass0 (pa_cons (pv 8) (pa_cons (pv 7) pa_nil))))) (pss_one (ps_ret pe_bl)) pss_nil) (pss_cons (ps_set (i := 9) sc_law.nd rfl (Or.inl rfl) (pe_tup (pa_cons (pe_callB (call_max2 rfl) (by rfl) T.z_max (by decide +kernel) (pa_cons pe_int (pa_cons (pe_callB (call_min2 rfl) (by rfl) T.z_min (by decide +kernel) (pa_cons (pv 2) (pa_cons pe_int pa_nil))) pa_nil))) (pa_cons (pe_callB (call_max2 rfl) (by rfl) T.z_max (by decide +kernel) (pa_cons pe_int (pa_cons (pe_callB (call_min2 rfl) (by rfl) T.z_min (by decide +kernel) (pa_cons (pv 3) (pa_cons pe_int pa_nil))) pa_nil))) pa_nil)))) (pss_cons (ps_if (pt_not (pt_val (pe_call (ok_law_asked T) (hr.mono (by decide)) (by rfl) T.m_law_asked T.F_law_asked.kp T.b_law_asked .nil pass0 (pa_cons (pe_op op_catT (pv 9) (pe_tup (pa_cons (pe_ix ix_list (pv 4) pe_int (fun _ _ => rfl)) (pa_cons (pe_ix ix_list (pv 4) pe_int (fun _ _ => rfl)) (pa_cons (pv 6) pa_nil))))) (pa_cons (pv 7) pa_nil))))) (pss_one (ps_ret pe_bl)) pss_nil) (pss_cons (ps_if (PW.pt (pw_and (pt_cmpR op_notN (pe_ix ix_list (pv 4) pe_int (fun _ _ => rfl)) pe_non (nomark _)) (pw_and1 (pt_cmpR op_notN (pe_ix ix_list (pv 4) pe_int (fun _ _ => rfl)) pe_non (nomark _))))) (pss_one (ps_asg (pe_callB (call_max2 rfl) (by rfl) T.z_max (by decide +kernel) (pa_cons (pe_ix ix_list (pv 4) pe_int (fun _ _ => rfl)) (pa_cons (pe_ix ix_list (pv 4) pe_int (fun _ _ => rfl)) pa_nil))) (pg_sub (pv 4) pe_int set_list))) pss_nil) (pss_cons (ps_if (pt_not (pt_val (pe_call (ok_law_asked T) (hr.mono (by decide)) (by rfl) T.m_law_asked T.F_law_asked.kp T.b_law_asked .nil pass0 (pa_cons (pe_op op_catT (pv 9) (pe_tup (pa_cons (pe_ix ix_list (pv 4) pe_int (fun _ _ => rfl)) (pa_cons (pe_ix ix_list (pv 4) pe_int (fun _ _ => rfl)) (pa_cons (pv 6) pa_nil))))) (pa_cons (pv 7) pa_nil))))) (pss_one (ps_ret pe_bl)) pss_nil) (pss_cons (ps_if (pt_not (pt_val (pe_call (ok_law_asked T) (hr.mono (by decide)) (by rfl) T.m_law_asked T.F_law_asked.kp T.b_law_asked .nil pass0 (pa_cons (pe_op op_catT (pv 9) (pe_tup (pa_cons (pe_ix ix_list (pv 4) pe_int (fun _ _ => rfl)) (pa_cons (pe_ix ix_list (pv 4) pe_int (fun _ _ => rfl)) (pa_cons (pe_callB (call_max2 rfl) (by rfl) T.z_max (by decide +kernel) (pa_cons pe_int (pa_cons (pe_callB (call_min2 rfl) (by rfl) T.z_min (by decide +kernel) (pa_cons (pv 6) (pa_cons pe_int pa_nil))) pa_nil))) pa_nil))))) (pa_cons (pv 7) pa_nil))))) (pss_one (ps_ret pe_bl)) pss_nil) (pss_one (ps_ret (pe_call (ok_law_asked T) (hr.mono (by decide)) (by rfl) T.m_law_asked T.F_law_asked.kp T.b_law_asked .nil pass0 (pa_cons (pv 8) (pa_cons (pv 7) pa_nil)))))))))))))))))))), ?_⟩
  obtain ⟨a, sc, rfl, hS, _, k⟩ := h
  refine ⟨_, rfl, a, sc, 0, rfl, hS, by decide, fun s1 H1 n1 e1 hs1 => asg ?_⟩
  refine ⟨_, rfl, s1, rfl, hs1, fun f H2 hs2 b2 => asg ?_⟩
  refine ⟨_, rfl, s1, rfl, hs2, fun s H3 hs3 b3 => asg ?_⟩
  have k3 : Same H H3 := fun b o e => b3 _ _ (ne_of_none e n1) (b2 _ _ (ne_of_none e n1) (e1 _ _ e))
  refine ⟨_, rfl, a, sc, 1, rfl, k3.seq hS, by decide, fun s2 H4 n4 e4 hs4 => ?_⟩
  refine ⟨s2, rfl, hs4, fun l lo hi H5 l0 hl hs5 b5 => asg ?_⟩
  have k5 : Same H H5 := fun b o e => b5 _ _ (ne_of_none (k3 _ _ e) n4) (e4 _ _ (k3 _ _ e))
  refine ⟨_, rfl, a, sc, 2, rfl, k5.seq hS, by decide, fun s3 H6 n6 e6 hs6 => asg ?_⟩
  have ls : l ≠ s3 := ne_of_none hl n6
  refine ⟨_, rfl, _, _, rfl, hs6, by decide, by decide, fun r7 H7 r70 r71 hs7 b7 => ?_⟩
  refine ⟨_, _, rfl, rfl, _, rfl, _, _, rfl, hs7, by decide, by decide, fun r8 H8 r80 r81 hs8 b8 => ?_⟩
  refine ⟨_, _, rfl, rfl, _, _, rfl, rfl, _, _, rfl, rfl, ⟨by decide, by decide, by decide⟩, sz9, fun l9 hl9 => ?_⟩
  refine ⟨_, rfl, _, _, rfl, hs8.same (Same.new hl9), by decide, by decide, fun r9 H9 r90 r91 hs9 b9 => ?_⟩
  obtain ⟨m, hm, hat⟩ := pick [1, 99, 2, 1 + r7, 1 + r8, 0, 0 - 1, 100, 10 ^ 11] r9 r90 r91
  refine ⟨_, _, _, _, rfl, rfl, .inl (.inl (b9 l9 _ (hs8.ne hl9) upd_same)), hat, asg ?_⟩
  refine ⟨_, rfl, _, _, rfl, hs9, by decide, by decide, fun r10 H10 _ _ hs10 b10 => ⟨rfl, asg ?_⟩⟩
  have hL : H10 l = some (.lst [vo lo, vo hi]) := b10 _ _ ls (b9 _ _ ls (Same.new hl9 _ _ (b8 _ _ ls (b7 _ _ ls (e6 _ _ hl)))))
  generalize decide (V.int r10 = V.int 0) = b
  refine cutS (M := fun σ' H' => ∃ m : Int, σ' = [some (.ref a), some (.ref s1), some (.int f), some (.int s), some (.ref l), some (.ref s3), some (.int m), some (.bl b), none, none] ∧ H' = H10 ∧ (b = true → m = 1)) ?_ (fun M => ?_)
  rotate_left
  · exact sqIf (b := b) (fun Q' q => ⟨_, rfl, _, rfl, q⟩) (fun c => asg (M _ _ ⟨1, rfl, rfl, fun _ => rfl⟩)) (fun c => nxt (M _ _ ⟨m, rfl, rfl, fun z => by rw [c] at z; cases z⟩))
  rintro σ' H10' ⟨m, rfl, rfl, hb⟩
  refine ⟨_, rfl, _, rfl, _, rfl, _, _, _, _, rfl, rfl, .inl (.inl hL), rfl, _, rfl, _, _, _, _, rfl, rfl, .inl (.inl hL), rfl, _, rfl, sz5, fun q hq => asg ?_⟩
  refine ⟨_, rfl, _, rfl, q, f, s, lo, hi, m, b, rfl, .inl (.inl upd_same), hb, fun H11 k11 => ⟨_, rfl, iteF (nxt ?_)⟩⟩
  have hq11 := k11 _ _ (upd_same (H := H10') (a := q))
  have hL11 := k11 _ _ (Same.new hq _ _ hL)
  refine ⟨_, rfl, _, _, rfl, _, _, rfl, _, rfl, _, _, rfl, _, _, rfl, sz2, fun n hn => asg ?_⟩
  have en := upd_same (H := H11) (a := n) (o := HO.tup [V.int (if (if 15 < f then 15 else f) > 0 then (if 15 < f then 15 else f) else 0), V.int (if (if 15 < s then 15 else s) > 0 then (if 15 < s then 15 else s) else 0)])
  have hL12 := Same.new (o := HO.tup [V.int (if (if 15 < f then 15 else f) > 0 then (if 15 < f then 15 else f) else 0), V.int (if (if 15 < s then 15 else s) > 0 then (if 15 < s then 15 else s) else 0)]) hn _ _ hL11
  have hq12 := Same.new (o := HO.tup [V.int (if (if 15 < f then 15 else f) > 0 then (if 15 < f then 15 else f) else 0), V.int (if (if 15 < s then 15 else s) > 0 then (if 15 < s then 15 else s) else 0)]) hn _ _ hq11
  have ql : q ≠ l := (ne_of_none hL hq).symm
  have nl : n ≠ l := (ne_of_none hL11 hn).symm
  revert en hL12 hq12
  generalize (if (if 15 < f then 15 else f) > 0 then (if 15 < f then 15 else f) else 0) = F
  generalize (if (if 15 < s then 15 else s) > 0 then (if 15 < s then 15 else s) else 0) = S
  generalize upd H11 n (HO.tup [V.int F, V.int S]) = H12
  intro en hL12 hq12
  refine ⟨_, rfl, _, rfl, _, _, _, _, rfl, rfl, .inl (.inl hL12), rfl, _, rfl, _, _, _, _, rfl, rfl, .inl (.inl hL12), rfl, _, rfl, sz3, fun c hc => ?_⟩
  refine ⟨n, c, _, _, rfl, rfl, .inl (.inl (Same.new hc _ _ en)), .inl (.inl upd_same), List.cons_ne_nil _ _, cat_size, (fun z => nomatch z), fun _ d hd => ?_⟩
  refine ⟨_, rfl, d, F, S, lo, hi, m, b, rfl, .inl (.inl upd_same), hb, fun H13 k13 => ⟨_, rfl, iteF (nxt ?_)⟩⟩
  have c13 : Same H12 H13 := fun b o e => k13 _ _ (Same.new hd _ _ (Same.new hc _ _ e))
  have hL13 := c13 _ _ hL12
  have hq13 := c13 _ _ hq12
  have en13 := c13 _ _ en
  clear en hL12 hq12 k13 c13 hL11 hq11 hL
  refine cutS (M := fun σ' H' => ∃ lo' hi' : Option Int, σ' = [some (.ref a), some (.ref s1), some (.int f), some (.int s), some (.ref l), some (.ref s3), some (.int m), some (.bl b), some (.ref q), some (.ref n)] ∧ H' q = some (.tup (tvI f s lo hi m)) ∧ H' n = some (.tup [V.int F, V.int S]) ∧ H' l = some (.lst [vo lo', vo hi'])) ?_ (fun M => ?_)
  rotate_left
  · cases lo with
    | none => exact sqIf (b := false) (put_is (put_and (a := false) (b := false) (fun Q' q => ⟨_, rfl, _, _, _, _, rfl, rfl, .inl (.inl hL13), rfl, rfl, _, rfl, q⟩) (fun z => nomatch z)) rfl) (fun z => nomatch z) (fun _ => nxt (M _ _ ⟨none, hi, rfl, hq13, en13, hL13⟩))
    | some x =>
      cases hi with
      | none => exact sqIf (b := false) (put_is (put_and (a := true) (b := false) (fun Q' q => ⟨_, rfl, _, _, _, _, rfl, rfl, .inl (.inl hL13), rfl, rfl, _, rfl, q⟩) (fun _ Q' q => ⟨_, rfl, _, _, _, _, rfl, rfl, .inl (.inl hL13), rfl, rfl, _, rfl, q⟩)) rfl) (fun z => nomatch z) (fun _ => nxt (M _ _ ⟨some x, none, rfl, hq13, en13, hL13⟩))
      | some y =>
        refine sqIf (b := true) (put_is (put_and (a := true) (b := true) (fun Q' q => ⟨_, rfl, _, _, _, _, rfl, rfl, .inl (.inl hL13), rfl, rfl, _, rfl, q⟩) (fun _ Q' q => ⟨_, rfl, _, _, _, _, rfl, rfl, .inl (.inl hL13), rfl, rfl, _, rfl, q⟩)) rfl) (fun _ => ?_) (fun z => nomatch z)
        refine ⟨_, rfl, _, _, _, _, rfl, rfl, .inl (.inl hL13), rfl, _, rfl, _, _, _, _, rfl, rfl, .inl (.inl hL13), rfl, _, _, rfl, _, rfl, l, _, 1, 1, rfl, rfl, hL13, rfl, ?_⟩
        exact M _ _ ⟨some x, some (if y > x then y else x), rfl, by rw [upd_ne ql]; exact hq13, by rw [upd_ne nl]; exact en13, upd_same⟩
  rintro σ' H14 ⟨lo', hi', rfl, hq14, en14, hL14⟩
  refine ⟨_, rfl, _, rfl, _, _, _, _, rfl, rfl, .inl (.inl hL14), rfl, _, rfl, _, _, _, _, rfl, rfl, .inl (.inl hL14), rfl, _, rfl, sz3, fun c hc => ?_⟩
  refine ⟨n, c, _, _, rfl, rfl, .inl (.inl (Same.new hc _ _ en14)), .inl (.inl upd_same), List.cons_ne_nil _ _, cat_size, (fun z => nomatch z), fun _ d hd => ?_⟩
  refine ⟨_, rfl, d, F, S, lo', hi', m, b, rfl, .inl (.inl upd_same), hb, fun H15 k15 => ⟨_, rfl, iteF (nxt ?_)⟩⟩
  have c15 : Same H14 H15 := fun b o e => k15 _ _ (Same.new hd _ _ (Same.new hc _ _ e))
  have hL15 := c15 _ _ hL14
  have hq15 := c15 _ _ hq14
  have en15 := c15 _ _ en14
  clear en14 hL14 hq14 k15 c15
  refine ⟨_, rfl, _, rfl, _, _, _, _, rfl, rfl, .inl (.inl hL15), rfl, _, rfl, _, _, _, _, rfl, rfl, .inl (.inl hL15), rfl, _, rfl, _, _, rfl, _, _, rfl, sz3, fun c hc => ?_⟩
  refine ⟨n, c, _, _, rfl, rfl, .inl (.inl (Same.new hc _ _ en15)), .inl (.inl upd_same), List.cons_ne_nil _ _, cat_size, (fun z => nomatch z), fun _ d hd => ?_⟩
  refine ⟨_, rfl, d, F, S, lo', hi', (if (if 99 < m then 99 else m) > 1 then (if 99 < m then 99 else m) else 1), b, rfl, .inl (.inl upd_same), (fun z => by rw [hb z]; decide), fun H16 k16 => ⟨_, rfl, iteF (nxt ?_)⟩⟩
  refine ⟨_, rfl, _, rfl, q, f, s, lo, hi, m, b, rfl, .inl (.inl (k16 _ _ (Same.new hd _ _ (Same.new hc _ _ hq15)))), hb, fun H17 _ => k _⟩

end
theorem all_mk {l : PySem.W.OpenLaw} {w : World} {K : PySem.W.Frag} {h : Heap} {mg : Str → Option Value} {fa : Addr} (X : K.In h) (G : h.Ns mainGlobals mg) (hfa : mg "law" = some (.ref fa))
    {f_ClaimI__initI : Addr}
    {od_ClaimI__initI an_ClaimI__initI : Option Addr}
    {sl_ClaimI__initI : Array (Option Value)}
    {oc_ClaimI__initI dc_ClaimI__initI pm_ClaimI__initI cd_ClaimI__initI ct_ClaimI__initI : Value}
    {T_ClaimI__initI : Addr}
    {oT_ClaimI__initI : Obj}
    {D_ClaimI__initI : Addr}
    {nT_ClaimI__initI : Nat}
    {tw_ClaimI__initI_0 : Tok}
    {f_Claim_parts : Addr}
    {od_Claim_parts an_Claim_parts : Option Addr}
    {sl_Claim_parts : Array (Option Value)}
    {oc_Claim_parts kV_Claim_parts dc_Claim_parts pm_Claim_parts cd_Claim_parts ct_Claim_parts : Value}
    {f_law_source : Addr}
    {od_law_source an_law_source : Option Addr}
    {sl_law_source : Array (Option Value)}
    {oc_law_source kV_law_source dc_law_source pm_law_source cd_law_source ct_law_source : Value}
    {f_law_draw : Addr}
    {od_law_draw an_law_draw : Option Addr}
    {sl_law_draw : Array (Option Value)}
    {oc_law_draw kV_law_draw dc_law_draw pm_law_draw cd_law_draw ct_law_draw : Value}
    {f_law_whole : Addr}
    {od_law_whole an_law_whole : Option Addr}
    {sl_law_whole : Array (Option Value)}
    {oc_law_whole kV_law_whole dc_law_whole pm_law_whole cd_law_whole ct_law_whole : Value}
    {f_law_node : Addr}
    {od_law_node an_law_node : Option Addr}
    {sl_law_node : Array (Option Value)}
    {oc_law_node kV_law_node dc_law_node pm_law_node cd_law_node ct_law_node : Value}
    {f_law_clip : Addr}
    {od_law_clip an_law_clip : Option Addr}
    {sl_law_clip : Array (Option Value)}
    {oc_law_clip kV_law_clip dc_law_clip pm_law_clip cd_law_clip ct_law_clip : Value}
    {f_law_bounds : Addr}
    {od_law_bounds an_law_bounds : Option Addr}
    {sl_law_bounds : Array (Option Value)}
    {oc_law_bounds kV_law_bounds dc_law_bounds pm_law_bounds cd_law_bounds ct_law_bounds : Value}
    {f_law_wrong : Addr}
    {od_law_wrong an_law_wrong : Option Addr}
    {sl_law_wrong : Array (Option Value)}
    {oc_law_wrong kV_law_wrong dc_law_wrong pm_law_wrong cd_law_wrong ct_law_wrong : Value}
    {f_law_same : Addr}
    {od_law_same an_law_same : Option Addr}
    {sl_law_same : Array (Option Value)}
    {oc_law_same kV_law_same dc_law_same pm_law_same cd_law_same ct_law_same : Value}
    {f_law_asked : Addr}
    {od_law_asked an_law_asked : Option Addr}
    {sl_law_asked : Array (Option Value)}
    {oc_law_asked kV_law_asked dc_law_asked pm_law_asked cd_law_asked ct_law_asked : Value}
    {f_law : Addr}
    {od_law an_law : Option Addr}
    {sl_law : Array (Option Value)}
    {oc_law kV_law dc_law pm_law cd_law ct_law : Value}
    {C_InvalidClaim : Addr}
    {f_InvalidClaimI__initI cda_InvalidClaim cc_InvalidClaim : Addr}
    {od_InvalidClaimI__initI an_InvalidClaimI__initI : Option Addr}
    {sl_InvalidClaimI__initI : Array (Option Value)}
    {oc_InvalidClaimI__initI kV_InvalidClaimI__initI dc_InvalidClaimI__initI pm_InvalidClaimI__initI ct_InvalidClaimI__initI : Value}
    {o2_InvalidClaim : Value}
    {od2_InvalidClaim : Option Addr}
    {vs2_InvalidClaim : Array Value}
    {sl2_InvalidClaim : Array (Option Value)}
    {file_InvalidClaim : Str}
    {tf_InvalidClaim : Tok}
    {o3_InvalidClaim : Value}
    {od3_InvalidClaim : Option Addr}
    {sl3_InvalidClaim : Array (Option Value)}
    {xn_InvalidClaim xq_InvalidClaim : Str}
    {xN_InvalidClaim : Addr}
    {xbs_InvalidClaim xbm_InvalidClaim xsub_InvalidClaim : List Value}
    {xsn_InvalidClaim : List Str}
    {xab_InvalidClaim : Bool}
    {xcol_InvalidClaim : Option Bool}
    {xdd_InvalidClaim : Option Addr}
    {x0_InvalidClaim x1_InvalidClaim x2_InvalidClaim x3_InvalidClaim x5_InvalidClaim : Option Value}
    {C_HallError : Addr}
    {C_InvalidFrame : Addr}
    {C_InvalidDoubt : Addr}
    {C_InvalidPlan : Addr}
    {C_Claim : Addr}
    {t_LAST_NODE : Tok}
    {t_MOST_WEIGHT : Tok}
    (aC_Claim : PySem.W.nsIn K mainGlobals "Claim" = some (some (.ref C_Claim)))
    (aC_InvalidPlan : PySem.W.nsIn K mainGlobals "InvalidPlan" = some (some (.ref C_InvalidPlan)))
    (aC_InvalidDoubt : PySem.W.nsIn K mainGlobals "InvalidDoubt" = some (some (.ref C_InvalidDoubt)))
    (aC_InvalidFrame : PySem.W.nsIn K mainGlobals "InvalidFrame" = some (some (.ref C_InvalidFrame)))
    (aC_HallError : PySem.W.nsIn K mainGlobals "HallError" = some (some (.ref C_HallError)))
    (aC_InvalidClaim : PySem.W.nsIn K mainGlobals "InvalidClaim" = some (some (.ref C_InvalidClaim)))
    (a_ClaimI__initI : PySem.W.findIn K (.ref C_Claim) "__init__" = some (some (.ref f_ClaimI__initI)))
    (i_ClaimI__initI : PySem.W.isFn K (.ref f_ClaimI__initI) = true)
    (l_ClaimI__initI : K.lookup f_ClaimI__initI = some ⟨oc_ClaimI__initI, od_ClaimI__initI, .func (PySem.W.fnOf "__init__" "Claim.__init__" (defArgs s_ClaimI__initI) (defBody s_ClaimI__initI) (defScope s_ClaimI__initI) (.ref T_ClaimI__initI) (.ref D_ClaimI__initI) dc_ClaimI__initI pm_ClaimI__initI an_ClaimI__initI cd_ClaimI__initI ct_ClaimI__initI), sl_ClaimI__initI⟩)
    (c_ClaimI__initI : PySem.W.codeIn K cd_ClaimI__initI "Claim.__init__" = true)
    (k_ClaimI__initI : PySem.W.keepIn K (.ref f_ClaimI__initI) = true)
    (lT_ClaimI__initI : K.lookup T_ClaimI__initI = some oT_ClaimI__initI)
    (oT_ClaimI__initI_ : oT_ClaimI__initI.data = .seq ([.none, .none] : List Value).toArray nT_ClaimI__initI)
    (w_ClaimI__initI_0 : PySem.W.nsIn K D_ClaimI__initI "weight" = some (some (.int 1 tw_ClaimI__initI_0)))
    (a_Claim_parts : PySem.W.findIn K (.ref C_Claim) "parts" = some (some (.ref f_Claim_parts)))
    (i_Claim_parts : PySem.W.isFn K (.ref f_Claim_parts) = true)
    (l_Claim_parts : K.lookup f_Claim_parts = some ⟨oc_Claim_parts, od_Claim_parts, .func (PySem.W.fnOf "parts" "Claim.parts" (defArgs s_Claim_parts) (defBody s_Claim_parts) (defScope s_Claim_parts) .none kV_Claim_parts dc_Claim_parts pm_Claim_parts an_Claim_parts cd_Claim_parts ct_Claim_parts), sl_Claim_parts⟩)
    (c_Claim_parts : PySem.W.codeIn K cd_Claim_parts "Claim.parts" = true)
    (k_Claim_parts : PySem.W.keepIn K (.ref f_Claim_parts) = true)
    (a_law_source : PySem.W.nsIn K mainGlobals "_law_source" = some (some (.ref f_law_source)))
    (l_law_source : K.lookup f_law_source = some ⟨oc_law_source, od_law_source, .func (PySem.W.fnOf "_law_source" "_law_source" (defArgs s_law_source) (defBody s_law_source) (defScope s_law_source) .none kV_law_source dc_law_source pm_law_source an_law_source cd_law_source ct_law_source), sl_law_source⟩)
    (c_law_source : PySem.W.codeIn K cd_law_source "_law_source" = true)
    (k_law_source : PySem.W.keepIn K (.ref f_law_source) = true)
    (a_law_draw : PySem.W.nsIn K mainGlobals "_law_draw" = some (some (.ref f_law_draw)))
    (l_law_draw : K.lookup f_law_draw = some ⟨oc_law_draw, od_law_draw, .func (PySem.W.fnOf "_law_draw" "_law_draw" (defArgs s_law_draw) (defBody s_law_draw) (defScope s_law_draw) .none kV_law_draw dc_law_draw pm_law_draw an_law_draw cd_law_draw ct_law_draw), sl_law_draw⟩)
    (c_law_draw : PySem.W.codeIn K cd_law_draw "_law_draw" = true)
    (k_law_draw : PySem.W.keepIn K (.ref f_law_draw) = true)
    (a_law_whole : PySem.W.nsIn K mainGlobals "_law_whole" = some (some (.ref f_law_whole)))
    (l_law_whole : K.lookup f_law_whole = some ⟨oc_law_whole, od_law_whole, .func (PySem.W.fnOf "_law_whole" "_law_whole" (defArgs s_law_whole) (defBody s_law_whole) (defScope s_law_whole) .none kV_law_whole dc_law_whole pm_law_whole an_law_whole cd_law_whole ct_law_whole), sl_law_whole⟩)
    (c_law_whole : PySem.W.codeIn K cd_law_whole "_law_whole" = true)
    (k_law_whole : PySem.W.keepIn K (.ref f_law_whole) = true)
    (a_law_node : PySem.W.nsIn K mainGlobals "_law_node" = some (some (.ref f_law_node)))
    (l_law_node : K.lookup f_law_node = some ⟨oc_law_node, od_law_node, .func (PySem.W.fnOf "_law_node" "_law_node" (defArgs s_law_node) (defBody s_law_node) (defScope s_law_node) .none kV_law_node dc_law_node pm_law_node an_law_node cd_law_node ct_law_node), sl_law_node⟩)
    (c_law_node : PySem.W.codeIn K cd_law_node "_law_node" = true)
    (k_law_node : PySem.W.keepIn K (.ref f_law_node) = true)
    (a_law_clip : PySem.W.nsIn K mainGlobals "_law_clip" = some (some (.ref f_law_clip)))
    (l_law_clip : K.lookup f_law_clip = some ⟨oc_law_clip, od_law_clip, .func (PySem.W.fnOf "_law_clip" "_law_clip" (defArgs s_law_clip) (defBody s_law_clip) (defScope s_law_clip) .none kV_law_clip dc_law_clip pm_law_clip an_law_clip cd_law_clip ct_law_clip), sl_law_clip⟩)
    (c_law_clip : PySem.W.codeIn K cd_law_clip "_law_clip" = true)
    (k_law_clip : PySem.W.keepIn K (.ref f_law_clip) = true)
    (a_law_bounds : PySem.W.nsIn K mainGlobals "_law_bounds" = some (some (.ref f_law_bounds)))
    (l_law_bounds : K.lookup f_law_bounds = some ⟨oc_law_bounds, od_law_bounds, .func (PySem.W.fnOf "_law_bounds" "_law_bounds" (defArgs s_law_bounds) (defBody s_law_bounds) (defScope s_law_bounds) .none kV_law_bounds dc_law_bounds pm_law_bounds an_law_bounds cd_law_bounds ct_law_bounds), sl_law_bounds⟩)
    (c_law_bounds : PySem.W.codeIn K cd_law_bounds "_law_bounds" = true)
    (k_law_bounds : PySem.W.keepIn K (.ref f_law_bounds) = true)
    (a_law_wrong : PySem.W.nsIn K mainGlobals "_law_wrong" = some (some (.ref f_law_wrong)))
    (l_law_wrong : K.lookup f_law_wrong = some ⟨oc_law_wrong, od_law_wrong, .func (PySem.W.fnOf "_law_wrong" "_law_wrong" (defArgs s_law_wrong) (defBody s_law_wrong) (defScope s_law_wrong) .none kV_law_wrong dc_law_wrong pm_law_wrong an_law_wrong cd_law_wrong ct_law_wrong), sl_law_wrong⟩)
    (c_law_wrong : PySem.W.codeIn K cd_law_wrong "_law_wrong" = true)
    (k_law_wrong : PySem.W.keepIn K (.ref f_law_wrong) = true)
    (a_law_same : PySem.W.nsIn K mainGlobals "_law_same" = some (some (.ref f_law_same)))
    (l_law_same : K.lookup f_law_same = some ⟨oc_law_same, od_law_same, .func (PySem.W.fnOf "_law_same" "_law_same" (defArgs s_law_same) (defBody s_law_same) (defScope s_law_same) .none kV_law_same dc_law_same pm_law_same an_law_same cd_law_same ct_law_same), sl_law_same⟩)
    (c_law_same : PySem.W.codeIn K cd_law_same "_law_same" = true)
    (k_law_same : PySem.W.keepIn K (.ref f_law_same) = true)
    (a_law_asked : PySem.W.nsIn K mainGlobals "_law_asked" = some (some (.ref f_law_asked)))
    (l_law_asked : K.lookup f_law_asked = some ⟨oc_law_asked, od_law_asked, .func (PySem.W.fnOf "_law_asked" "_law_asked" (defArgs s_law_asked) (defBody s_law_asked) (defScope s_law_asked) .none kV_law_asked dc_law_asked pm_law_asked an_law_asked cd_law_asked ct_law_asked), sl_law_asked⟩)
    (c_law_asked : PySem.W.codeIn K cd_law_asked "_law_asked" = true)
    (k_law_asked : PySem.W.keepIn K (.ref f_law_asked) = true)
    (a_law : PySem.W.nsIn K mainGlobals "law" = some (some (.ref f_law)))
    (l_law : K.lookup f_law = some ⟨oc_law, od_law, .func (PySem.W.fnOf "law" "law" (defArgs s_law) (defBody s_law) (defScope s_law) .none kV_law dc_law pm_law an_law cd_law ct_law), sl_law⟩)
    (c_law : PySem.W.codeIn K cd_law "law" = true)
    (k_law : PySem.W.keepIn K (.ref f_law) = true)
    (a_InvalidClaimI__initI : PySem.W.findIn K (.ref C_InvalidClaim) "__init__" = some (some (.ref f_InvalidClaimI__initI)))
    (t_InvalidClaimI__initI : PySem.W.typeIn K (.ref f_InvalidClaimI__initI) = some (.type "function"))
    (l_InvalidClaimI__initI : K.lookup f_InvalidClaimI__initI = some ⟨oc_InvalidClaimI__initI, od_InvalidClaimI__initI, .func (PySem.W.fnX "__init__" "InvalidClaim.__init__" (defArgs s_InvalidClaimI__initI) (defBody s_InvalidClaimI__initI) (defScope s_InvalidClaimI__initI) [("__class__", cc_InvalidClaim)] .none kV_InvalidClaimI__initI dc_InvalidClaimI__initI pm_InvalidClaimI__initI an_InvalidClaimI__initI (.ref cda_InvalidClaim) ct_InvalidClaimI__initI), sl_InvalidClaimI__initI⟩)
    (c_InvalidClaimI__initI : PySem.W.codeIn K (.ref cda_InvalidClaim) "InvalidClaim.__init__" = true)
    (lc_InvalidClaim : K.lookup cda_InvalidClaim = some ⟨o2_InvalidClaim, od2_InvalidClaim, .fields vs2_InvalidClaim, sl2_InvalidClaim⟩)
    (RFL_vs_InvalidClaim : vs2_InvalidClaim[2]? = some (.str file_InvalidClaim tf_InvalidClaim))
    (DEC_file_InvalidClaim : ((l.prog.main.file : Str) == file_InvalidClaim) = true)
    (cell_InvalidClaim : K.lookup cc_InvalidClaim = some ⟨o3_InvalidClaim, od3_InvalidClaim, .cell (some (.ref C_InvalidClaim)), sl3_InvalidClaim⟩)
    (sub_InvalidClaim : PySem.W.mroIn K C_InvalidClaim (.ref C_InvalidClaim) = some true)
    (tp_InvalidClaim : PySem.W.nsIn K cStatics "thirdparty.any" = some none)
    (al_InvalidClaim : PySem.W.ks_superIn K C_InvalidClaim C_InvalidClaim "__init__" = some (some (.builtin "ValueError.__init__")))
    (ve_InvalidClaim : PySem.W.subIn K (.ref C_InvalidClaim) (.type "ValueError") = some true)
    (DEC_top_InvalidClaim : (l.prog.main.scope.names.lookup ("super" : Str)).isSome = false)
    (xL_InvalidClaim : K.lookup C_InvalidClaim = some (excClassObj xn_InvalidClaim xq_InvalidClaim C_InvalidClaim xN_InvalidClaim xbs_InvalidClaim xbm_InvalidClaim true xsn_InvalidClaim xsub_InvalidClaim xab_InvalidClaim xcol_InvalidClaim xdd_InvalidClaim x0_InvalidClaim x1_InvalidClaim x2_InvalidClaim x3_InvalidClaim x5_InvalidClaim "ValueError.__new__"))
    (DEC_bm_InvalidClaim : PySem.HandSPX.refsVE xbm_InvalidClaim = true)
    (xsa_InvalidClaim : PySem.W.findIn K (.ref C_InvalidClaim) "__setattr__" = some (some (.builtin "object.__setattr__")))
    (xeb_InvalidClaim : PySem.W.subIn K (.ref C_InvalidClaim) (.type "BaseException") = some true)
    (xty_InvalidClaim : PySem.W.typeIn K (.ref C_InvalidClaim) = some (.type "type"))
    (xkc_InvalidClaim : PySem.W.keepIn K (.ref C_InvalidClaim) = true)
    (n_InvalidClaim_part : PySem.W.findIn K (.ref C_InvalidClaim) "part" = some none)
    (yg_InvalidClaim : PySem.W.findIn K (.ref C_InvalidClaim) "__getattribute__" = some (some (.builtin "BaseException.__getattribute__")))
    (yk_InvalidClaim : PySem.W.findIn K (.ref C_InvalidClaim) "__getattr__" = some none)
    (yd_InvalidClaim : PySem.W.hasDictIn K C_InvalidClaim = true)
    (ya_InvalidClaim : PySem.W.findIn K (.ref C_InvalidClaim) "__class__" = some (some (.builtin "object.__class__")))
    (yn_InvalidClaim : PySem.W.specialIn K (.builtin "object.__class__") "__get__" = some (some (.builtin "getset_descriptor.__get__")))
    (yt_InvalidClaim : PySem.W.takesIn K (.builtin "object.__class__") = some true)
    (ym_InvalidClaim : PySem.W.mroIn K C_InvalidClaim (.type "object") = some true)
    (pg_Claim : PySem.W.plainGet K C_Claim Str.empty = true)
    (hd_Claim : PySem.W.hasDictIn K C_Claim = true)
    (po_Claim : PySem.W.plainOver K C_Claim = true)
    (sa_Claim : PySem.W.findIn K (.ref C_Claim) "__setattr__" = some (some (.builtin "object.__setattr__")))
    (mkc_Claim : PySem.W.makesIn K C_Claim = true)
    (kpc_Claim : PySem.W.keepIn K (.ref C_Claim) = true)
    (n_Claim_first : PySem.W.findIn K (.ref C_Claim) "first" = some none)
    (n_Claim_second : PySem.W.findIn K (.ref C_Claim) "second" = some none)
    (n_Claim_low : PySem.W.findIn K (.ref C_Claim) "low" = some none)
    (n_Claim_high : PySem.W.findIn K (.ref C_Claim) "high" = some none)
    (n_Claim_weight : PySem.W.findIn K (.ref C_Claim) "weight" = some none)
    (hs_hall : PySem.W.subIn K (.ref C_HallError) (.type "BaseException") = some true)
    (hd_hall : PySem.W.hasDictIn K C_HallError = true)
    (ht_hall : PySem.W.typeIn K (.ref C_HallError) = some (.type "type"))
    (su_hall : PySem.W.subIn K (.ref C_InvalidClaim) (.ref C_HallError) = some true)
    (is_ve : PySem.W.kitOne K (.ref C_InvalidClaim) (.type "ValueError") = some true)
    (is_if : PySem.W.kitOne K (.ref C_InvalidClaim) (.ref C_InvalidFrame) = some false)
    (is_id : PySem.W.kitOne K (.ref C_InvalidClaim) (.ref C_InvalidDoubt) = some false)
    (is_ip : PySem.W.kitOne K (.ref C_InvalidClaim) (.ref C_InvalidPlan) = some false)
    (q_LAST_NODE : PySem.W.nsIn K mainGlobals "LAST_NODE" = some (some (.int 15 t_LAST_NODE)))
    (q_MOST_WEIGHT : PySem.W.nsIn K mainGlobals "MOST_WEIGHT" = some (some (.int 99 t_MOST_WEIGHT)))
    (zz_ValueError : PySem.W.nsIn K mainGlobals "ValueError" = some none)
    (zz_abs : PySem.W.nsIn K mainGlobals "abs" = some none)
    (zz_bool : PySem.W.nsIn K mainGlobals "bool" = some none)
    (zz_int : PySem.W.nsIn K mainGlobals "int" = some none)
    (zz_isinstance : PySem.W.nsIn K mainGlobals "isinstance" = some none)
    (zz_len : PySem.W.nsIn K mainGlobals "len" = some none)
    (zz_max : PySem.W.nsIn K mainGlobals "max" = some none)
    (zz_min : PySem.W.nsIn K mainGlobals "min" = some none)
    (zz_range : PySem.W.nsIn K mainGlobals "range" = some none)
    (zz_str : PySem.W.nsIn K mainGlobals "str" = some none)
    (zz_super : PySem.W.nsIn K mainGlobals "super" = some none)
    (zz_tuple : PySem.W.nsIn K mainGlobals "tuple" = some none)
    : ∃ fd : FuncData, (∀ (s : Shared) (v : Value), BindsTo s fd ⟨[v], []⟩ [("_law_script", v)]) ∧ ∀ base : Heap, K.In base → base.Ns mainGlobals mg → FnOk l.prog w K mg base CX0 6 fa fd ["_law_script"] (spLaw K) := by
  have e := hfa.symm.trans (PySem.W.mg_of X G a_law)
  cases e
  have F_ClaimI__initI : FunD K "__init__" "Claim.__init__" (defArgs s_ClaimI__initI) (defBody s_ClaimI__initI) (defScope s_ClaimI__initI) [.non, .non] [("weight", .int 1)] f_ClaimI__initI (PySem.W.fnOf "__init__" "Claim.__init__" (defArgs s_ClaimI__initI) (defBody s_ClaimI__initI) (defScope s_ClaimI__initI) (.ref T_ClaimI__initI) (.ref D_ClaimI__initI) dc_ClaimI__initI pm_ClaimI__initI an_ClaimI__initI cd_ClaimI__initI ct_ClaimI__initI) := ⟨⟨oc_ClaimI__initI, od_ClaimI__initI, _, _, dc_ClaimI__initI, pm_ClaimI__initI, an_ClaimI__initI, cd_ClaimI__initI, ct_ClaimI__initI, sl_ClaimI__initI, rfl, l_ClaimI__initI, c_ClaimI__initI, .inr ⟨by simp, T_ClaimI__initI, oT_ClaimI__initI, _, nT_ClaimI__initI, rfl, lT_ClaimI__initI, oT_ClaimI__initI_, (.cons rfl (.cons rfl .nil))⟩, .inr ⟨D_ClaimI__initI, rfl, fun q hq => by rcases List.mem_singleton.mp hq with rfl; exact ⟨_, w_ClaimI__initI_0, ⟨_, rfl⟩⟩⟩⟩, k_ClaimI__initI⟩
  let T : Txt l.prog K mg := {
    a_ClaimI__initI := f_ClaimI__initI
    d_ClaimI__initI := _
    F_ClaimI__initI := F_ClaimI__initI
    a_Claim_parts := f_Claim_parts
    d_Claim_parts := _
    F_Claim_parts := fun_mk (st := s_Claim_parts) l_Claim_parts c_Claim_parts k_Claim_parts
    b_Claim_parts := (fun_mk (st := s_Claim_parts) l_Claim_parts c_Claim_parts k_Claim_parts).binds (ps := ["self"]) fun _ _ _ _ _ _ us hl => match us, hl with | [_], _ => rfl
    a_law_source := f_law_source
    d_law_source := _
    F_law_source := fun_mk (st := s_law_source) l_law_source c_law_source k_law_source
    b_law_source := (fun_mk (st := s_law_source) l_law_source c_law_source k_law_source).binds (ps := ["_law_script", "_law_place"]) fun _ _ _ _ _ _ us hl => match us, hl with | [_, _], _ => rfl
    m_law_source := PySem.W.mg_of X G a_law_source
    a_law_draw := f_law_draw
    d_law_draw := _
    F_law_draw := fun_mk (st := s_law_draw) l_law_draw c_law_draw k_law_draw
    b_law_draw := (fun_mk (st := s_law_draw) l_law_draw c_law_draw k_law_draw).binds (ps := ["_law_source_here", "_law_size"]) fun _ _ _ _ _ _ us hl => match us, hl with | [_, _], _ => rfl
    m_law_draw := PySem.W.mg_of X G a_law_draw
    a_law_whole := f_law_whole
    d_law_whole := _
    F_law_whole := fun_mk (st := s_law_whole) l_law_whole c_law_whole k_law_whole
    b_law_whole := (fun_mk (st := s_law_whole) l_law_whole c_law_whole k_law_whole).binds (ps := ["_law_actual"]) fun _ _ _ _ _ _ us hl => match us, hl with | [_], _ => rfl
    m_law_whole := PySem.W.mg_of X G a_law_whole
    a_law_node := f_law_node
    d_law_node := _
    F_law_node := fun_mk (st := s_law_node) l_law_node c_law_node k_law_node
    b_law_node := (fun_mk (st := s_law_node) l_law_node c_law_node k_law_node).binds (ps := ["_law_source_here"]) fun _ _ _ _ _ _ us hl => match us, hl with | [_], _ => rfl
    m_law_node := PySem.W.mg_of X G a_law_node
    a_law_clip := f_law_clip
    d_law_clip := _
    F_law_clip := fun_mk (st := s_law_clip) l_law_clip c_law_clip k_law_clip
    b_law_clip := (fun_mk (st := s_law_clip) l_law_clip c_law_clip k_law_clip).binds (ps := ["_law_number"]) fun _ _ _ _ _ _ us hl => match us, hl with | [_], _ => rfl
    m_law_clip := PySem.W.mg_of X G a_law_clip
    a_law_bounds := f_law_bounds
    d_law_bounds := _
    F_law_bounds := fun_mk (st := s_law_bounds) l_law_bounds c_law_bounds k_law_bounds
    b_law_bounds := (fun_mk (st := s_law_bounds) l_law_bounds c_law_bounds k_law_bounds).binds (ps := ["_law_source_here"]) fun _ _ _ _ _ _ us hl => match us, hl with | [_], _ => rfl
    m_law_bounds := PySem.W.mg_of X G a_law_bounds
    a_law_wrong := f_law_wrong
    d_law_wrong := _
    F_law_wrong := fun_mk (st := s_law_wrong) l_law_wrong c_law_wrong k_law_wrong
    b_law_wrong := (fun_mk (st := s_law_wrong) l_law_wrong c_law_wrong k_law_wrong).binds (ps := ["_law_tell"]) fun _ _ _ _ _ _ us hl => match us, hl with | [_], _ => rfl
    m_law_wrong := PySem.W.mg_of X G a_law_wrong
    a_law_same := f_law_same
    d_law_same := _
    F_law_same := fun_mk (st := s_law_same) l_law_same c_law_same k_law_same
    b_law_same := (fun_mk (st := s_law_same) l_law_same c_law_same k_law_same).binds (ps := ["_law_actual", "_law_tell"]) fun _ _ _ _ _ _ us hl => match us, hl with | [_, _], _ => rfl
    m_law_same := PySem.W.mg_of X G a_law_same
    a_law_asked := f_law_asked
    d_law_asked := _
    F_law_asked := fun_mk (st := s_law_asked) l_law_asked c_law_asked k_law_asked
    b_law_asked := (fun_mk (st := s_law_asked) l_law_asked c_law_asked k_law_asked).binds (ps := ["_law_tell", "_law_left"]) fun _ _ _ _ _ _ us hl => match us, hl with | [_, _], _ => rfl
    m_law_asked := PySem.W.mg_of X G a_law_asked
    a_law := fa
    d_law := _
    F_law := fun_mk (st := s_law) l_law c_law k_law
    b_law := (fun_mk (st := s_law) l_law c_law k_law).binds (ps := ["_law_script"]) fun _ _ _ _ _ _ us hl => match us, hl with | [_], _ => rfl
    m_law := PySem.W.mg_of X G a_law
    C_InvalidClaim := C_InvalidClaim
    m_InvalidClaim := PySem.W.mg_of X G aC_InvalidClaim
    a_InvalidClaimI__initI := f_InvalidClaimI__initI
    cda_InvalidClaim := cda_InvalidClaim
    cc_InvalidClaim := cc_InvalidClaim
    d_InvalidClaimI__initI := _
    sup_InvalidClaim := ⟨⟨oc_InvalidClaimI__initI, od_InvalidClaimI__initI, sl_InvalidClaimI__initI, _, l_InvalidClaimI__initI, rfl, rfl⟩, ⟨o2_InvalidClaim, od2_InvalidClaim, vs2_InvalidClaim, sl2_InvalidClaim, file_InvalidClaim, tf_InvalidClaim, lc_InvalidClaim, RFL_vs_InvalidClaim, DEC_file_InvalidClaim⟩, ⟨o3_InvalidClaim, od3_InvalidClaim, sl3_InvalidClaim, cell_InvalidClaim⟩, sub_InvalidClaim, tp_InvalidClaim, al_InvalidClaim, ve_InvalidClaim, DEC_top_InvalidClaim⟩
    fd_InvalidClaim := ⟨kV_InvalidClaimI__initI, dc_InvalidClaimI__initI, pm_InvalidClaimI__initI, ct_InvalidClaimI__initI, an_InvalidClaimI__initI, rfl⟩
    hcd_InvalidClaim := c_InvalidClaimI__initI
    b_InvalidClaimI__initI := .all fun us hl => match us, hl with | [_, _], _ => rfl
    ox_InvalidClaim := ⟨⟨xn_InvalidClaim, xq_InvalidClaim, xN_InvalidClaim, xbs_InvalidClaim, xbm_InvalidClaim, xsn_InvalidClaim, xsub_InvalidClaim, xab_InvalidClaim, xcol_InvalidClaim, xdd_InvalidClaim, x0_InvalidClaim, x1_InvalidClaim, x2_InvalidClaim, x3_InvalidClaim, x5_InvalidClaim, xL_InvalidClaim, DEC_bm_InvalidClaim⟩, xsa_InvalidClaim, xeb_InvalidClaim, xty_InvalidClaim, xkc_InvalidClaim⟩
    iC_InvalidClaim := a_InvalidClaimI__initI
    tI_InvalidClaim := t_InvalidClaimI__initI
    n_InvalidClaim_part := n_InvalidClaim_part
    xc_InvalidClaim := ⟨yg_InvalidClaim, yk_InvalidClaim, xeb_InvalidClaim, yd_InvalidClaim, ya_InvalidClaim, yn_InvalidClaim, yt_InvalidClaim, ym_InvalidClaim⟩
    C_HallError := C_HallError
    m_HallError := PySem.W.mg_of X G aC_HallError
    C_InvalidFrame := C_InvalidFrame
    m_InvalidFrame := PySem.W.mg_of X G aC_InvalidFrame
    C_InvalidDoubt := C_InvalidDoubt
    m_InvalidDoubt := PySem.W.mg_of X G aC_InvalidDoubt
    C_InvalidPlan := C_InvalidPlan
    m_InvalidPlan := PySem.W.mg_of X G aC_InvalidPlan
    C_Claim := C_Claim
    m_Claim := PySem.W.mg_of X G aC_Claim
    cl_Claim := ⟨pg_Claim, hd_Claim, po_Claim, sa_Claim⟩
    mkc_Claim := mkc_Claim
    kpc_Claim := kpc_Claim
    n_Claim_first := n_Claim_first
    n_Claim_second := n_Claim_second
    n_Claim_low := n_Claim_low
    n_Claim_high := n_Claim_high
    n_Claim_weight := n_Claim_weight
    mk_Claim := ⟨mkc_Claim, a_ClaimI__initI, i_ClaimI__initI, kpc_Claim⟩
    t_Claim_parts := ⟨a_Claim_parts, i_Claim_parts, k_Claim_parts⟩
    hs_hall := hs_hall
    hd_hall := hd_hall
    ht_hall := ht_hall
    su_hall := su_hall
    is_ve := is_ve
    is_if := is_if
    is_id := is_id
    is_ip := is_ip
    b_ClaimI__initI_5 := mk_b_ClaimI__initI_5 F_ClaimI__initI
    b_ClaimI__initI_5_weight := mk_b_ClaimI__initI_5_weight F_ClaimI__initI
    ct_LAST_NODE := t_LAST_NODE
    c_LAST_NODE := PySem.W.mg_of X G q_LAST_NODE
    ct_MOST_WEIGHT := t_MOST_WEIGHT
    c_MOST_WEIGHT := PySem.W.mg_of X G q_MOST_WEIGHT
    z_ValueError := PySem.W.mg_none_of X G zz_ValueError
    z_abs := PySem.W.mg_none_of X G zz_abs
    z_bool := PySem.W.mg_none_of X G zz_bool
    z_int := PySem.W.mg_none_of X G zz_int
    z_isinstance := PySem.W.mg_none_of X G zz_isinstance
    z_len := PySem.W.mg_none_of X G zz_len
    z_max := PySem.W.mg_none_of X G zz_max
    z_min := PySem.W.mg_none_of X G zz_min
    z_range := PySem.W.mg_none_of X G zz_range
    z_str := PySem.W.mg_none_of X G zz_str
    z_super := PySem.W.mg_none_of X G zz_super
    z_tuple := PySem.W.mg_none_of X G zz_tuple }
  exact ⟨PySem.W.fnOf "law" "law" (defArgs s_law) (defBody s_law) (defScope s_law) .none kV_law dc_law pm_law an_law cd_law ct_law, fun s v => .of_eq rfl, fun base _ _ => ok_law T⟩
theorem walk {l : PySem.W.OpenLaw} {q : Program} {loose : List Str} {XP : (Str → Option Value) → Heap → Prop} {YP : World → Heap → Prop} {d : DefRec} {K : Params → PySem.W.Frag} (hn : l.most = some 63) (hdf : d.params.defaults = [])
    (hY : ∀ (w : World) (h : Heap), YP w h → (K w.params).In h)
    (F : ∀ (w : World) (mg : Str → Option Value) (fa : Addr) (h : Heap), (K w.params).In h → h.Ns mainGlobals mg → mg d.name = some (.ref fa) →
      ∃ fd : FuncData, (∀ (s : Shared) (u : Value), BindsTo s fd ⟨[u], []⟩ [("_law_script", u)]) ∧ ∀ base : Heap, (K w.params).In base → base.Ns mainGlobals mg → FnOk l.prog w (K w.params) mg base CX0 6 fa fd ["_law_script"] (spLaw (K w.params))) :
    PySem.W.WalkO q loose XP YP l.row.toRowW d [] (fun f vs => PySem.call f vs) :=
  L2.walk_of (n := 63) (k := 6) (x := "_law_script") (CX := fun _ => CX0) (sp := fun w => spLaw (K w.params)) hn (by decide) hdf ⟨rfl, by decide, by decide⟩ hY F (fun _ _ a ns hl _ hS => ⟨a, ns, rfl, hS, hl, fun _ => rfl⟩) fun _ _ _ _ _ z => z
end My

open PySem PySem.W PyProof.Rows in
set_option maxRecDepth 100000 in
set_option maxHeartbeats 0 in
theorem PySem.Challenge.cw_counthall_k04_claim_refusals_holds : PySem.Challenge.rw_counthall_k04_claim_refusals.Holds := by
  w_on; o_law; k_head; (case hw => w_witness2)
  k_fill
  refine My.walk (l := PySem.Challenge.rw_counthall_k04_claim_refusals) rfl rfl (fun w h Y => PySem.W.kIn_of Y) ?F
  case F =>
    intro w mg fa h KX G hmg
    refine' My.all_mk KX G hmg ?h_aC_Claim ?h_aC_InvalidPlan ?h_aC_InvalidDoubt ?h_aC_InvalidFrame ?h_aC_HallError ?h_aC_InvalidClaim ?h_a_ClaimI__initI ?h_i_ClaimI__initI ?h_l_ClaimI__initI ?h_c_ClaimI__initI ?h_k_ClaimI__initI ?h_lT_ClaimI__initI ?h_oT_ClaimI__initI_ ?h_w_ClaimI__initI_0 ?h_a_Claim_parts ?h_i_Claim_parts ?h_l_Claim_parts ?h_c_Claim_parts ?h_k_Claim_parts ?h_a_law_source ?h_l_law_source ?h_c_law_source ?h_k_law_source ?h_a_law_draw ?h_l_law_draw ?h_c_law_draw ?h_k_law_draw ?h_a_law_whole ?h_l_law_whole ?h_c_law_whole ?h_k_law_whole ?h_a_law_node ?h_l_law_node ?h_c_law_node ?h_k_law_node ?h_a_law_clip ?h_l_law_clip ?h_c_law_clip ?h_k_law_clip ?h_a_law_bounds ?h_l_law_bounds ?h_c_law_bounds ?h_k_law_bounds ?h_a_law_wrong ?h_l_law_wrong ?h_c_law_wrong ?h_k_law_wrong ?h_a_law_same ?h_l_law_same ?h_c_law_same ?h_k_law_same ?h_a_law_asked ?h_l_law_asked ?h_c_law_asked ?h_k_law_asked ?h_a_law ?h_l_law ?h_c_law ?h_k_law ?h_a_InvalidClaimI__initI ?h_t_InvalidClaimI__initI ?h_l_InvalidClaimI__initI ?h_c_InvalidClaimI__initI ?h_lc_InvalidClaim ?h_RFL_vs_InvalidClaim ?h_DEC_file_InvalidClaim ?h_cell_InvalidClaim ?h_sub_InvalidClaim ?h_tp_InvalidClaim ?h_al_InvalidClaim ?h_ve_InvalidClaim ?h_DEC_top_InvalidClaim ?h_xL_InvalidClaim ?h_DEC_bm_InvalidClaim ?h_xsa_InvalidClaim ?h_xeb_InvalidClaim ?h_xty_InvalidClaim ?h_xkc_InvalidClaim ?h_n_InvalidClaim_part ?h_yg_InvalidClaim ?h_yk_InvalidClaim ?h_yd_InvalidClaim ?h_ya_InvalidClaim ?h_yn_InvalidClaim ?h_yt_InvalidClaim ?h_ym_InvalidClaim ?h_pg_Claim ?h_hd_Claim ?h_po_Claim ?h_sa_Claim ?h_mkc_Claim ?h_kpc_Claim ?h_n_Claim_first ?h_n_Claim_second ?h_n_Claim_low ?h_n_Claim_high ?h_n_Claim_weight ?h_hs_hall ?h_hd_hall ?h_ht_hall ?h_su_hall ?h_is_ve ?h_is_if ?h_is_id ?h_is_ip ?h_q_LAST_NODE ?h_q_MOST_WEIGHT ?h_zz_ValueError ?h_zz_abs ?h_zz_bool ?h_zz_int ?h_zz_isinstance ?h_zz_len ?h_zz_max ?h_zz_min ?h_zz_range ?h_zz_str ?h_zz_super ?h_zz_tuple
    (case h_aC_Claim => first | k_is | kit_is | ks_is)
    (case h_aC_InvalidPlan => first | k_is | kit_is | ks_is)
    (case h_aC_InvalidDoubt => first | k_is | kit_is | ks_is)
    (case h_aC_InvalidFrame => first | k_is | kit_is | ks_is)
    (case h_aC_HallError => first | k_is | kit_is | ks_is)
    (case h_aC_InvalidClaim => first | k_is | kit_is | ks_is)
    (case h_a_ClaimI__initI => first | k_is | kit_is | ks_is)
    (case h_i_ClaimI__initI => first | k_is | kit_is | ks_is)
    (case h_l_ClaimI__initI => first | k_is | kit_is | ks_is)
    (case h_c_ClaimI__initI => first | k_is | kit_is | ks_is)
    (case h_k_ClaimI__initI => first | k_is | kit_is | ks_is)
    (case h_lT_ClaimI__initI => first | k_is | kit_is | ks_is)
    (case h_oT_ClaimI__initI_ => rfl)
    (case h_w_ClaimI__initI_0 => first | k_is | kit_is | ks_is)
    (case h_a_Claim_parts => first | k_is | kit_is | ks_is)
    (case h_i_Claim_parts => first | k_is | kit_is | ks_is)
    (case h_l_Claim_parts => first | k_is | kit_is | ks_is)
    (case h_c_Claim_parts => first | k_is | kit_is | ks_is)
    (case h_k_Claim_parts => first | k_is | kit_is | ks_is)
    (case h_a_law_source => first | k_is | kit_is | ks_is)
    (case h_l_law_source => first | k_is | kit_is | ks_is)
    (case h_c_law_source => first | k_is | kit_is | ks_is)
    (case h_k_law_source => first | k_is | kit_is | ks_is)
    (case h_a_law_draw => first | k_is | kit_is | ks_is)
    (case h_l_law_draw => first | k_is | kit_is | ks_is)
    (case h_c_law_draw => first | k_is | kit_is | ks_is)
    (case h_k_law_draw => first | k_is | kit_is | ks_is)
    (case h_a_law_whole => first | k_is | kit_is | ks_is)
    (case h_l_law_whole => first | k_is | kit_is | ks_is)
    (case h_c_law_whole => first | k_is | kit_is | ks_is)
    (case h_k_law_whole => first | k_is | kit_is | ks_is)
    (case h_a_law_node => first | k_is | kit_is | ks_is)
    (case h_l_law_node => first | k_is | kit_is | ks_is)
    (case h_c_law_node => first | k_is | kit_is | ks_is)
    (case h_k_law_node => first | k_is | kit_is | ks_is)
    (case h_a_law_clip => first | k_is | kit_is | ks_is)
    (case h_l_law_clip => first | k_is | kit_is | ks_is)
    (case h_c_law_clip => first | k_is | kit_is | ks_is)
    (case h_k_law_clip => first | k_is | kit_is | ks_is)
    (case h_a_law_bounds => first | k_is | kit_is | ks_is)
    (case h_l_law_bounds => first | k_is | kit_is | ks_is)
    (case h_c_law_bounds => first | k_is | kit_is | ks_is)
    (case h_k_law_bounds => first | k_is | kit_is | ks_is)
    (case h_a_law_wrong => first | k_is | kit_is | ks_is)
    (case h_l_law_wrong => first | k_is | kit_is | ks_is)
    (case h_c_law_wrong => first | k_is | kit_is | ks_is)
    (case h_k_law_wrong => first | k_is | kit_is | ks_is)
    (case h_a_law_same => first | k_is | kit_is | ks_is)
    (case h_l_law_same => first | k_is | kit_is | ks_is)
    (case h_c_law_same => first | k_is | kit_is | ks_is)
    (case h_k_law_same => first | k_is | kit_is | ks_is)
    (case h_a_law_asked => first | k_is | kit_is | ks_is)
    (case h_l_law_asked => first | k_is | kit_is | ks_is)
    (case h_c_law_asked => first | k_is | kit_is | ks_is)
    (case h_k_law_asked => first | k_is | kit_is | ks_is)
    (case h_a_law => first | k_is | kit_is | ks_is)
    (case h_l_law => first | k_is | kit_is | ks_is)
    (case h_c_law => first | k_is | kit_is | ks_is)
    (case h_k_law => first | k_is | kit_is | ks_is)
    (case h_a_InvalidClaimI__initI => first | k_is | kit_is | ks_is)
    (case h_t_InvalidClaimI__initI => first | k_is | kit_is | ks_is)
    (case h_l_InvalidClaimI__initI => first | k_is | kit_is | ks_is)
    (case h_c_InvalidClaimI__initI => first | k_is | kit_is | ks_is)
    (case h_lc_InvalidClaim => first | k_is | kit_is | ks_is)
    (case h_RFL_vs_InvalidClaim => rfl)
    (case h_DEC_file_InvalidClaim => decide +kernel)
    (case h_cell_InvalidClaim => first | k_is | kit_is | ks_is)
    (case h_sub_InvalidClaim => first | k_is | kit_is | ks_is)
    (case h_tp_InvalidClaim => first | k_is | kit_is | ks_is)
    (case h_al_InvalidClaim => first | k_is | kit_is | ks_is)
    (case h_ve_InvalidClaim => first | k_is | kit_is | ks_is)
    (case h_DEC_top_InvalidClaim => decide +kernel)
    (case h_xL_InvalidClaim => first | k_is | kit_is | ks_is)
    (case h_DEC_bm_InvalidClaim => decide +kernel)
    (case h_xsa_InvalidClaim => first | k_is | kit_is | ks_is)
    (case h_xeb_InvalidClaim => first | k_is | kit_is | ks_is)
    (case h_xty_InvalidClaim => first | k_is | kit_is | ks_is)
    (case h_xkc_InvalidClaim => first | k_is | kit_is | ks_is)
    (case h_n_InvalidClaim_part => first | k_is | kit_is | ks_is)
    (case h_yg_InvalidClaim => first | k_is | kit_is | ks_is)
    (case h_yk_InvalidClaim => first | k_is | kit_is | ks_is)
    (case h_yd_InvalidClaim => first | k_is | kit_is | ks_is)
    (case h_ya_InvalidClaim => first | k_is | kit_is | ks_is)
    (case h_yn_InvalidClaim => first | k_is | kit_is | ks_is)
    (case h_yt_InvalidClaim => first | k_is | kit_is | ks_is)
    (case h_ym_InvalidClaim => first | k_is | kit_is | ks_is)
    (case h_pg_Claim => first | k_is | kit_is | ks_is)
    (case h_hd_Claim => first | k_is | kit_is | ks_is)
    (case h_po_Claim => first | k_is | kit_is | ks_is)
    (case h_sa_Claim => first | k_is | kit_is | ks_is)
    (case h_mkc_Claim => first | k_is | kit_is | ks_is)
    (case h_kpc_Claim => first | k_is | kit_is | ks_is)
    (case h_n_Claim_first => first | k_is | kit_is | ks_is)
    (case h_n_Claim_second => first | k_is | kit_is | ks_is)
    (case h_n_Claim_low => first | k_is | kit_is | ks_is)
    (case h_n_Claim_high => first | k_is | kit_is | ks_is)
    (case h_n_Claim_weight => first | k_is | kit_is | ks_is)
    (case h_hs_hall => first | k_is | kit_is | ks_is)
    (case h_hd_hall => first | k_is | kit_is | ks_is)
    (case h_ht_hall => first | k_is | kit_is | ks_is)
    (case h_su_hall => first | k_is | kit_is | ks_is)
    (case h_is_ve => first | k_is | kit_is | ks_is)
    (case h_is_if => first | k_is | kit_is | ks_is)
    (case h_is_id => first | k_is | kit_is | ks_is)
    (case h_is_ip => first | k_is | kit_is | ks_is)
    (case h_q_LAST_NODE => first | k_is | kit_is | ks_is)
    (case h_q_MOST_WEIGHT => first | k_is | kit_is | ks_is)
    (case h_zz_ValueError => first | k_is | kit_is | ks_is)
    (case h_zz_abs => first | k_is | kit_is | ks_is)
    (case h_zz_bool => first | k_is | kit_is | ks_is)
    (case h_zz_int => first | k_is | kit_is | ks_is)
    (case h_zz_isinstance => first | k_is | kit_is | ks_is)
    (case h_zz_len => first | k_is | kit_is | ks_is)
    (case h_zz_max => first | k_is | kit_is | ks_is)
    (case h_zz_min => first | k_is | kit_is | ks_is)
    (case h_zz_range => first | k_is | kit_is | ks_is)
    (case h_zz_str => first | k_is | kit_is | ks_is)
    (case h_zz_super => first | k_is | kit_is | ks_is)
    (case h_zz_tuple => first | k_is | kit_is | ks_is)
#print axioms PySem.Challenge.cw_counthall_k04_claim_refusals_holds

