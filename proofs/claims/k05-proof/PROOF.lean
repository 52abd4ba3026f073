import PyProof.Rows.All
import Wide.All
import OpenK.AllK
import Wide.FinOn
import KE.KExcSuper
import HandS.ForExc
import HandS.ExcInit
import HandS.HotCalls
import HandS.ExcInitHot
import HandS.ExcIs
import HandS.SetFor
import HandS.Defaults
import HandS.IsInst
import HandS.Head0
import HandS.Head1
import HandS.Head2
import HandS.HeadEnd
import HandS.HeadHook1
import HandS.HeadHook2
import HandS.HeadNt
import HandS.ForMost
import HandS.DictComp
import HandS.SetBool
import HandS.Strs
import HandS.TupSets
import HandS.OwnEq
import OpenK.KMeth
import OpenK.KOps
import KE.KCallOwn
import HandS.IterVal
import KE.KOwnIter
import HandS.Deep
import HandS.Evl
import HandS.Conv
import HandS.More
import HandS.Sort
import PySem.Challenge.RW_whichdepot_k05_glued_networks
import HandS.SortRule
import HandS.SortInts
import HandS.Property
import HandS.FStr
import HandS.Text
set_option Elab.async false
set_option linter.all false
set_option maxRecDepth 100000
set_option maxHeartbeats 4000000
namespace SupX
open PySem PySem.Spec PySem.W PySem.Calls PyProof.Rows L2

/-- names of an __init__ that says super(): no cells, free is the class's cell alone -/
structure ScS (N P : List Str) (sc : Scope) : Prop where
  kind : sc.kind = .function
  co : sc.isCoroutine = false
  gen : sc.isGenerator = false
  nd : N.Nodup
  pre : N.take P.length = P
  par : ∀ x ∈ P, sc.names.lookup x = some .local
  free : ∀ y ∈ sc.names, y.2 = .free → y.1 = "__class__"
  nocell : ∀ y ∈ sc.names, y.2 ≠ .cell
  sup : sc.names.lookup ("super" : Str) = some .globalImplicit
  cls : sc.names.lookup ("__class__" : Str) = some .free
/-- the context of such a body -/
def cxS (CX : CXT) (P : Program) (w : World) (K : PySem.W.Frag) (mg : Str → Option Value) (base : Heap) (N : List Str) (qual : Str) (scope : Scope) (f : Addr) (cd : Value) (cc : Addr) (A : Around) (outer : List Env) (s : Shared) (H : Hp) (E : XK) : Cx where
  prog := P
  w := w
  K := K
  mg := mg
  base := base
  A := A.deeper (envX qual scope s.heap.objs.size f cd [("__class__", cc)])
  N := N
  s_0 := s
  H_0 := H
  env := envX qual scope s.heap.objs.size f cd [("__class__", cc)]
  outer := outer
  stack := envX qual scope s.heap.objs.size f cd [("__class__", cc)] :: outer
  ex := []
  calm := true
  fn := fun _ => false
  pn := []
  xe := fun e s' => wpAny (model P w) (A.deeper (envX qual scope s.heap.objs.size f cd [("__class__", cc)])) (leaving (envX qual scope s.heap.objs.size f cd [("__class__", cc)]) e) (fun _ s'' => CX outer H s E e s'') (fun e' s'' => CX outer H s E e' s'') s'
theorem look1 {x : Str} {cc c : Addr} (h : List.lookup x [(("__class__" : Str), cc)] = some c) : x = "__class__" ∧ c = cc := by
  simp only [List.lookup] at h
  split at h
  · rename_i q
    exact ⟨beq_iff_eq.mp q, (Option.some.inj h).symm⟩
  · cases h
theorem rev_get {x : Str} {v : Value} : ∀ {P : List Str} {vs : List Value} {i : Nat}, P.Nodup → P[i]? = some x → vs[i]? = some v → (P.zip vs).reverse.lookup x = some v := by
  intro P vs i nd h1 h2
  have key : ∀ {l : List (Str × Value)}, (l.map (·.1)).Nodup → (x, v) ∈ l → l.lookup x = some v := by
    intro l
    induction l with
    | nil => intro _ h; cases h
    | cons p l ih =>
      intro nd h
      obtain ⟨y, u⟩ := p
      obtain ⟨n1, n2⟩ := List.nodup_cons.mp (show (y :: l.map (·.1)).Nodup from nd)
      rcases List.mem_cons.mp h with e | h
      · cases e
        simp [List.lookup]
      · have ne : x ≠ y := fun e => n1 (by rw [← e]; exact List.mem_map.mpr ⟨_, h, rfl⟩)
        have q : (x == y) = false := by simpa using ne
        simp only [List.lookup, q]
        exact ih n2 h
  refine key ?_ ?_
  · rw [List.map_reverse]
    refine List.pairwise_reverse.mpr (List.Pairwise.imp (fun hab => Ne.symm hab) ?_)
    have this : ∀ {P : List Str} {vs : List Value}, P.Nodup → ((P.zip vs).map (·.1)).Nodup := by
      intro P
      induction P with
      | nil => intro vs _; simp
      | cons p P ih =>
        intro vs nd
        cases vs with
        | nil => simp
        | cons u vs =>
          obtain ⟨n1, n2⟩ := List.nodup_cons.mp nd
          show (p :: (P.zip vs).map (·.1)).Nodup
          refine List.nodup_cons.mpr ⟨fun m => ?_, ih n2⟩
          obtain ⟨q, hq, e⟩ := List.mem_map.mp m
          have z := (List.of_mem_zip (a := q.1) (b := q.2) hq).1
          rw [e] at z
          exact n1 z
    exact this nd
  · rw [List.mem_reverse]
    refine List.mem_of_getElem? (i := i) ?_
    rw [List.getElem?_zip_eq_some]
    exact ⟨h1, h2⟩
theorem inv_startS {CX : CXT} {P : Program} {w : World} {K : PySem.W.Frag} {mg : Str → Option Value} {base : Heap} {N ps : List Str} {qual : Str} {scope : Scope} {f cc : Addr} {cd : Value} {A : Around} {outer : List Env} {s : Shared} {H : Hp} {E : XK} {us : List Value} {vs : List V} {h0 : Heap} {tk : Nat} {oc : Obj} {D : Addr}
    (S : ScS N ps scope) (hd : A.handled = none) (e0 : Env0 P w K mg base A outer s H) (hl : vs.length = ps.length) (r : Vals vs us) (hcc : K.lookup cc = some oc) (hoc : oc.data = .cell (some (.ref D)))
    (ns : h0.Ns s.heap.objs.size (fun x => (ps.zip us).reverse.lookup x)) (hk : ∀ b o, s.heap.get? b = some o → h0.get? b = some o) :
    Inv (cxS CX P w K mg base N qual scope f cd cc A outer s H E) [] (L2.start N vs) H { s with heap := h0, toks := tk } := by
  have hpl : ps.length ≤ N.length := by have := congrArg List.length S.pre; rw [List.length_take] at this; omega
  have noA : ∀ b : Addr, b ∉ (cxS CX P w K mg base N qual scope f cd cc A outer s H E).ex := fun b z => absurd (show b ∈ ([] : List Addr) from z) (by simp)
  have bcc : base.get? cc = some oc := e0.mod.kin _ _ hcc
  refine ⟨⟨e0.mod, S.kind, rfl, rfl, Nat.le_refl _, fun y z c h1 h2 => ?_, fun y hy => ?_, fun y c h _ => (Bool.false_ne_true h).elim, fun _ => hd, Around.frames_deeper e0.frames, .inr ⟨rfl, rfl⟩, fun b z => absurd z (noA b), e0.bs, e0.bsz, fun b _ _ => noA b, fun b z => absurd z (noA b), e0.funs, e0.frf⟩,
    rfl, e0.bare, Un.kept hk, ⟨_, ns, fun i y v h1 h2 h3 => ?_⟩, fun y c h => ?_, e0.hok.fresh (Nat.le_refl _), fun y c h => ?_, fun p hp => absurd (show p ∈ ([] : List (Addr × Obj)) from hp) (by simp), e0.hok.kept hk, ?_⟩
  · rw [(look1 h1).1, (look1 h2).1]
  · have hy : scope.names.lookup y = some .cell ∨ scope.names.lookup y = some .free := hy
    rcases hy with hy | hy
    · exact absurd rfl (S.nocell _ (PySem.mem_of_lookup hy))
    · have e := S.free _ (PySem.mem_of_lookup hy) rfl
      have e : y = "__class__" := e
      subst e
      exact ⟨cc, List.lookup_cons_self ..⟩
  · have hi : i < vs.length := by
      unfold L2.start at h2
      by_cases hi : i < vs.length
      · exact hi
      · rw [List.getElem?_append_right (by simpa using hi)] at h2
        rw [List.getElem?_replicate] at h2
        split at h2 <;> cases h2
    have ha : vs[i]? = some v := by
      unfold L2.start at h2
      rw [List.getElem?_append_left (by simpa using hi), List.getElem?_map] at h2
      cases e : vs[i]? with
      | none => rw [e] at h2; cases h2
      | some a => rw [e] at h2; cases h2; rfl
    obtain ⟨u, hu, rv⟩ := r.get ha
    have hp : ps[i]? = some y := by
      rw [← S.pre, List.getElem?_take_of_lt (by omega)]; exact h1
    have ndP : ps.Nodup := by rw [← S.pre]; exact S.nd.sublist (List.take_sublist _ _)
    exact ⟨u, rv, .inl ⟨S.par y (List.mem_of_getElem? hp), rev_get ndP hp hu⟩⟩
  · obtain ⟨_, e⟩ := look1 h
    subst e
    exact ⟨some (.ref D), oc, hk _ _ (e0.bs _ _ bcc).1, hoc⟩
  · obtain ⟨_, e⟩ := look1 h
    subst e
    exact (e0.bs _ _ bcc).2
  · unfold L2.start
    show _ = N.length
    rw [List.length_append, List.length_map, List.length_replicate]
    omega
end SupX
set_option Elab.async false
set_option linter.all false
set_option maxRecDepth 100000
set_option maxHeartbeats 4000000
namespace SupX
open PySem PySem.Spec PySem.W PySem.Calls PyProof.Rows L2
/-- what the written part says of an own exception class C whose __init__ says super().__init__(text) -/
structure SupC (P : Program) (K : PySem.W.Frag) (mg : Str → Option Value) (C : Addr) : Prop where
  oex : OexC K C
  init : ks_superIn K C C "__init__" = some (some (.builtin "ValueError.__init__"))
  sub : subIn K (.ref C) (.type "ValueError") = some true
  self : mroIn K C (.ref C) = some true
  opq : nsIn K cStatics "thirdparty.any" = some none
  mgs : mg "super" = none
  nosup : (P.main.scope.names.lookup ("super" : Str)).isSome = false
abbrev supCall (z : Str) (j : Nat) (p0 p1 p2 p3 p4 : Pos) : Expr := .Call (.Attribute (.Call (.Name "super" p0) [] [] p1) "__init__" p2) [.Constant (.str z) j p3] [] p4
abbrev supStmt (z : Str) (j : Nat) (p0 p1 p2 p3 p4 p5 : Pos) : Stmt := .Expr (supCall z j p0 p1 p2 p3 p4) p5
theorem cls_data {h : Heap} {K : PySem.W.Frag} {C : Addr} {cd : ClassData} (X : K.In h) (e : clsIn K C = some cd) : ∃ oD, h.get? C = some oD ∧ oD.data = .cls cd := by
  unfold clsIn at e
  split at e
  · rename_i c d cd' sl ho
    cases e
    exact ⟨_, X _ _ ho, rfl⟩
  · cases e
section
variable {CX : CXT} {P : Program} {w : World} {K : PySem.W.Frag} {mg : Str → Option Value} {base : Heap} {k : Nat} {f cc cda C : Addr} {name qual z : Str} {params : Arguments} {rest : List Stmt} {scope : Scope} {dV kV doc pm ct oc cl ccl : Value} {an od cld cdd : Option Addr}
  {osl csl ccs : Array (Option Value)} {N ps : List Str} {sp : Sp} {j : Nat} {p0 p1 p2 p3 p4 p5 : Pos} {ar : Arg} {cvs : Array Value} {tf : Tok}
theorem fn_sup (lk : K.lookup f = some ⟨oc, od, .func (fnX name qual params (supStmt z j p0 p1 p2 p3 p4 p5 :: rest) scope [("__class__", cc)] dV kV doc pm an (.ref cda) ct), osl⟩) (hcd : codeIn K (.ref cda) qual = true)
    (hcode : K.lookup cda = some ⟨ccl, cdd, .fields cvs, ccs⟩) (hvs : cvs[2]? = some (.str P.main.file tf)) (hcell : K.lookup cc = some ⟨cl, cld, .cell (some (.ref C)), csl⟩) (T : SupC P K mg C)
    (hev : ∀ L : Addr, ∃ pl : Sem Bool, eval (supCall z j p0 p1 p2 p3 p4) (envX qual scope L f (.ref cda) [("__class__", cc)]) = (do
      let ov ← attributeBase (.Call (.Name "super" p0) [] [] p1) "__init__" (envX qual scope L f (.ref cda) [("__class__", cc)]) (eval (.Call (.Name "super" p0) [] [] p1) (envX qual scope L f (.ref cda) [("__class__", cc)]))
      standAt p2.atName
      let (g, first) ← holding [ov] (getMethod ov "__init__" pl)
      callWith p4 g first (backTo p4 (starEach [Expr.Constant (.str z) j p3] (envX qual scope L f (.ref cda) [("__class__", cc)]))) []))
    (hsw : ∀ L : Addr, swapsWith (supCall z j p0 p1 p2 p3 p4) none p5.line (envX qual scope L f (.ref cda) [("__class__", cc)]) = pure false)
    (S : ScS N ps scope) (hp : (params.posonlyargs ++ params.args).head? = some ar) (har : ps[0]? = some ar.arg)
    (len : ∀ vs H Q E, sp vs H Q E → vs.length = ps.length ∧ ∃ a ws, vs = .ref a :: ws ∧ H a = some (exo a C none))
    (hbody : ∀ (A : Around) (outer : List Env) (s : Shared) (H : Hp) (vs : List V) (Q : VK) (E : XK), Room k (A.deeper (envX qual scope s.heap.objs.size f (.ref cda) [("__class__", cc)])) → sp vs H Q E →
      ∃ t, PSs (cxS CX P w K mg base N qual scope f (.ref cda) cc A outer s H E) rest t ∧ t { nx := fun _ H' => Q .non H', rt := Q } (L2.start N vs) H) :
    FnOk P w K mg base CX (k + 1) f (fnX name qual params (supStmt z j p0 p1 p2 p3 p4 p5 :: rest) scope [("__class__", cc)] dV kV doc pm an (.ref cda) ct) ps sp := by
  refine ⟨fun vs H Q E h => (len vs H Q E h).1, fun A outer s H args us vs Q E hr e0 hb r hsp => ?_⟩
  obtain ⟨hl, a, ws, hvs0, ha⟩ := len _ _ _ _ hsp
  have KX : K.In s.heap := e0.mod.kin.keeps fun b o e => (e0.bs b o e).1
  have lim : s.heap.NoLimit := e0.mod.nolimit.keeps fun b o e => (e0.bs b o e).1
  have hloc : ∀ y ∈ ps.zip us, scope.names.lookup y.1 = some .local := fun ⟨n, v⟩ hy => S.par n (List.of_mem_zip hy).1
  refine ks_codeAny_call_defAt hr.depth (KX _ _ lk) rfl lim (codeRec_of KX hcd) rfl hb S.nocell hloc (fun h0 hns hk => ?_) S.co S.gen S.kind
  obtain ⟨t, ht, hq⟩ := hbody A outer s H vs Q E (hr.deeper _) hsp
  have I : Inv (cxS CX P w K mg base N qual scope f (.ref cda) cc A outer s H E) [] (L2.start N vs) H { s with heap := h0, toks := s.toks + (ps.zip us).length } :=
    inv_startS S hr.hd e0 hl r hcell rfl hns hk
  -- the rest
  have fin : ∀ s1, Inv (cxS CX P w K mg base N qual scope f (.ref cda) cc A outer s H E) [] (L2.start N vs) H s1 →
      wpAny (model P w) (A.deeper (envX qual scope s.heap.objs.size f (.ref cda) [("__class__", cc)])) (execs rest (envX qual scope s.heap.objs.size f (.ref cda) [("__class__", cc)]))
        (fun fl s' => CR CX outer P w H s Q E (.ok (.ret (match fl with | .ret v => v | _ => .none))) s')
        (fun e s' => wpAny (model P w) (A.deeper (envX qual scope s.heap.objs.size f (.ref cda) [("__class__", cc)])) (leaving (envX qual scope s.heap.objs.size f (.ref cda) [("__class__", cc)]) e) (fun _ s'' => CX outer H s E e s'') (fun e' s'' => CX outer H s E e' s'') s') s1 := fun s1 I1 => by
    refine wpAny_mono (ht.run [] s1 (L2.start N vs) H _ I1 hq) (fun fl s' hs => ?_) fun e s' hs => hs
    have fin : ∀ {σ' : L2.St} {H' : Hp} {v : V} {u : Value}, Inv (cxS CX P w K mg base N qual scope f (.ref cda) cc A outer s H E) [] σ' H' s' → RelV v u → Q v H' → CE outer P w H s Q u s' :=
      fun {σ' H' v u} J rv q => ⟨v, H', J.os, J.bare, J.base, J.hok, rv, q⟩
    cases fl with
    | ret u =>
      obtain ⟨v, σ', H', J, rv, q⟩ := hs
      exact fin J rv q
    | next =>
      obtain ⟨σ', H', J, q⟩ := hs
      exact fin (v := V.non) (u := Value.none) J rfl q
    | brk =>
      obtain ⟨_, _, _, q⟩ := hs
      exact False.elim q
    | cont =>
      obtain ⟨_, _, _, q⟩ := hs
      exact False.elim q
  -- super().__init__(text)
  have us0 : ∃ ut, us = .ref a :: ut := by
    rw [hvs0] at r
    cases r with
    | cons r0 _ =>
      cases r0
      exact ⟨_, rfl⟩
  obtain ⟨ut, eus⟩ := us0
  have ndP : ps.Nodup := by rw [← S.pre]; exact S.nd.sublist (List.take_sublist _ _)
  have hvar : (ps.zip us).reverse.lookup ar.arg = some (.ref a) := rev_get ndP har (by rw [eus]; rfl)
  have hkar : scope.names.lookup ar.arg = some .local := S.par _ (List.mem_of_getElem? har)
  have X0 : K.In h0 := KX.keeps hk
  obtain ⟨t1, ho⟩ := exo_at I.hok ha
  obtain ⟨nm, q, NN, bs, bm, sn, sub, ab, col, dd, k0, k1, k2, k3, k5, hC, hbm⟩ := T.oex.cls
  have hcl : clsIn K C = some { name := nm, bases := bs, mro := .ref C :: bm, ns := NN, qualname := q, hasDict := true, slotNames := sn, subclasses := sub, abstract := ab, collection := col, hasDel := false } := by unfold clsIn; rw [hC] <;> rfl
  obtain ⟨oD, hD1, hD2⟩ := cls_data X0 hcl
  have IA : InstAt h0 a { cls := .ref C, dict := none, data := .fields #[.ref t1, .none, .none, .none, .bool false, .none] } C none := ⟨ho, rfl, rfl, trivial⟩
  show _root_.PySem.wpAt _ (A.deeper (envX qual scope s.heap.objs.size f (.ref cda) [("__class__", cc)])) (.func _ (envX qual scope s.heap.objs.size f (.ref cda) [("__class__", cc)])) (execs _ (envX qual scope s.heap.objs.size f (.ref cda) [("__class__", cc)])) _ _ _
  obtain ⟨pl, hev1⟩ := hev s.heap.objs.size
  refine ks_wpAt_execs_cons (ks_wpAt_Expr_any (ks_wpAt_MethodCall (pl := pl) ?_ hev1) (by simp [interactive, S.kind]) (hsw _))
  have hks : (envX qual scope s.heap.objs.size f (.ref cda) [("__class__", cc)]).kindOf "super" = some .globalImplicit := S.sup
  have hkc : (envX qual scope s.heap.objs.size f (.ref cda) [("__class__", cc)]).kindOf "__class__" = some .free := S.cls
  refine ks_wpAt_super_base hks hkc rfl rfl (X0 _ _ lk) rfl hp rfl (X0 _ _ hcode) rfl hvs (beq_self_eq_true _) T.nosup ?_
  obtain ⟨mb, b1, b2⟩ := e0.mod.blt
  have kb : ∀ b o, base.get? b = some o → h0.get? b = some o := fun b o e => hk b o (e0.bs b o e).1
  refine ks_loadName_global S.kind hks (loadGlobal_builtin (e0.mod.glob.keeps kb) T.mgs (b1.keeps kb) ((b2 "super" (by decide +kernel)).trans (by decide +kernel : bootBuiltins "super" = some (Value.type "super"))) ⟨rfl, ?_⟩)
  refine wpAny_loadName_free S.kind hkc (c := cc) (v := .ref C) (List.lookup_cons_self ..) ⟨_, X0 _ _ hcell, rfl⟩ ?_
  refine wpAny_loadName_local S.kind hkar hns hvar ?_
  refine ks_wpAny_isType_cls hD1 hD2 ⟨rfl, ?_⟩
  refine ks_wpAny_call_super hD1 hD2 IA.at_ IA.cls (fun c e => by cases e) (looks_mroIn X0 T.self) (fun h1 e1 kk1 => ?_)
  -- the method
  have X1 : K.In h1 := X0.keeps kk1
  have I1 : Inv (cxS CX P w K mg base N qual scope f (.ref cda) cc A outer s H E) [] (L2.start N vs) H { s with heap := h1, toks := s.toks + (ps.zip us).length } := I.kept kk1
  have IA1 : InstAt h1 a { cls := .ref C, dict := none, data := .fields #[.ref t1, .none, .none, .none, .bool false, .none] } C none := ⟨kk1 _ _ ho, rfl, rfl, trivial⟩
  have hI : Looks (model P w) h1 (isInstance (.ref a) (.type "ValueError")) true := IA1.type.andThen (looks_subIn X1 T.sub)
  have hm := T.init
  unfold ks_superIn at hm
  rw [hcl] at hm
  have neC : a ≠ C := fun e => by
    have z := X0 _ _ hC
    rw [← e, ho] at z
    cases z
  refine kxs_getMethod kxs_ValueError (l₀ := .ref C :: bm) e1 (looks_opaque X1 T.opq) ?_ rfl X1 hm hI neC rfl ?_
  · exact fun A Q E s k q => wpAny_bind ((looks_clsIn X1 hcl) A _ E s k (wpAny_pure q))
  have hu : (h1.push (kxs_mw "ValueError.__init__" a)).get? h1.objs.size = some (kxs_mw "ValueError.__init__" a) := Heap.get?_push_at rfl rfl
  have I2 : Inv (cxS CX P w K mg base N qual scope f (.ref cda) cc A outer s H E) [] (L2.start N vs) H { s with heap := h1.push (kxs_mw "ValueError.__init__" a), toks := s.toks + (ps.zip us).length + 1 } :=
    I1.kept fun b o e => Heap.get?_push_of_some _ e
  have f0 := I1.fpOk (Nat.le_refl _) (I1.hok.fresh (Nat.le_refl _))
  have I2' : Inv (cxS CX P w K mg base N qual scope f (.ref cda) cc A outer s H E) [(h1.objs.size, kxs_mw "ValueError.__init__" a)] (L2.start N vs) H { s with heap := h1.push (kxs_mw "ValueError.__init__" a), toks := s.toks + (ps.zip us).length + 1 } :=
    I2.pins_of fun p hp => by
      obtain rfl := List.mem_singleton.mp hp
      exact ⟨hu, f0.1, f0.2.1, f0.2.2.1, fun v e => by cases e⟩
  have he : starEach [Expr.Constant (.str z) j p3] (envX qual scope s.heap.objs.size f (.ref cda) [("__class__", cc)]) = (false, eval (Expr.Constant (.str z) j p3) (envX qual scope s.heap.objs.size f (.ref cda) [("__class__", cc)])) :: starEach [] (envX qual scope s.heap.objs.size f (.ref cda) [("__class__", cc)]) := rfl
  have pa : PA (cxS CX P w K mg base N qual scope f (.ref cda) cc A outer s H E) [Expr.Constant (.str z) j p3] (tCons (tC (.str z)) tNil) := pa_cons pe_str pa_nil
  have go := pa.run p4 _ _ _ _ (fun vs1 H1 => vs1 = [.str z] ∧ H1 = H) I2' ⟨rfl, rfl⟩
  have go' : wpAny (model P w) (A.deeper (envX qual scope s.heap.objs.size f (.ref cda) [("__class__", cc)])) (spliced (backTo p4 (starEach [Expr.Constant (.str z) j p3] (envX qual scope s.heap.objs.size f (.ref cda) [("__class__", cc)])))) _ _ _ := go
  dsimp only
  rw [he] at go' ⊢
  refine kxs_callWith (i := "ValueError.__init__") (u := h1.objs.size) (x := a) rfl (evalArgs_plain (wpAny_mono go' (fun rs s2 hh => ?_) fun e s' x => x))
  obtain ⟨vs1, H1, I3, r1, ev, eH⟩ := hh
  subst ev eH
  have hlen : rs.length ≤ sizeLine := by
    rw [← Paired.length r1, sizeLine_eq]
    exact (by decide : 1 ≤ 16777216)
  obtain ⟨t2, ho2⟩ := exo_at I3.hok ha
  have IU : s2.heap.get? h1.objs.size = some (kxs_mw "ValueError.__init__" a) := (I3.pin (h1.objs.size, kxs_mw "ValueError.__init__" a) (List.mem_append_right _ List.mem_cons_self)).1
  refine ⟨IU, ?_⟩
  obtain ⟨hh, g2, d2, tk2, os2⟩ := s2
  have hCn : hh.get? C = _ := I3.kIn _ _ hC
  show wpAny _ _ (call (.ref h1.objs.size) rs) _ _ _
  refine wpAny_call (codeAny_of_tree ?_)
  show wpAny _ _ (callAny (.ref h1.objs.size) ⟨rs, []⟩) _ _ _
  simp only [callAny]
  refine wpAny_bind (wpAny_load IU ?_)
  simp only [kxs_mw, show (Value.type "method-wrapper" == Value.type "method" || Value.type "method-wrapper" == Value.type "builtin_function_or_method" || Value.type "method-wrapper" == Value.type "method-wrapper") = true by decide, if_true]
  refine KFB.if_so (by decide) ?_
  refine wpAny_bind (check_bound_init F.excBase_ValueError.toExcCallFacts hCn ho2 rfl ?_)
  refine wpAny_bind (wpAny_pure (wpAny_pure ?_))
  refine ⟨plainId_quiet F.excBase_ValueError.init.plain _, codeAny_builtin F.excBase_ValueError.initEntry ?_⟩
  refine exc_init_tree (cls := .ref C) (t0 := t2) (dv := none) (c2 := .none) (c3 := .none) (b4 := .bool false) ho2 hlen fun h3 k3 e3 _ => ?_
  have J := I3.write (t' := tk2) (x := a) (e := a) (o := exo a C none) (h' := h3) (by rw [ha]; exact True.intro) (.inl rfl) k3 ⟨_, e3⟩ (exo_ok e3)
  have eu : upd H1 a (exo a C none) = H1 := by
    funext b
    by_cases hb : b = a
    · rw [hb, upd_same, ha]
    · rw [upd_ne hb]
  rw [eu] at J
  exact wpAt_of_wpAny (fin _ (J.unpinned (pins := [])))
end
end SupX
set_option Elab.async false
set_option linter.all false
set_option maxRecDepth 100000
set_option maxHeartbeats 4000000
namespace ErrX
open PySem PySem.Spec PyProof.Rows L2
/-- nothing is let out, seen from a def that may raise -/
theorem passN {X : Cx} : Passes (L2N.CX X.prog X.w) X E0 := fun _ _ _ _ _ _ _ h => by
  obtain ⟨_, _, _, _, _, _, _, _, _, _, _, _, z⟩ := h
  exact z.elim
theorem takesN {X : Cx} : L2N.Takes X (fun _ _ _ _ => False) := fun _ _ x => by
  obtain ⟨_, _, _, _, _, _, _, _, _, _, _, _, _, _, _, _, z⟩ := x
  exact z.elim
/-- C(e, ..), C's own __init__ keeping sp: the context of the made exception is None -/
theorem pmk_oexN {X : Cx} {CX : CXT} {x : Str} {e : Expr} {es : List Expr} {ta : TA} {p pos : Pos} {C fI : Addr} {k : Nat} {fd : FuncData} {ps : List Str} {sp : Sp} (T : OexC X.K C) (iC : PySem.W.findIn X.K (.ref C) "__init__" = some (some (.ref fI))) (tI : PySem.W.typeIn X.K (.ref fI) = some (.type "function"))
    (F1 : FnOk X.prog X.w X.K X.mg X.base CX k fI fd ps sp) (hr : Room (k + 1) X.A) (hb : Binds X.K fd ps []) (hx : Passes CX X (fun _ _ _ => False)) (hg : Gl X x) (hm : X.mg x = some (.ref C)) (ha : PA X (e :: es) ta)
    (hdb : (x == ("__debug__" : Str)) = false := by decide) (he : starEach (e :: es) X.env = (false, eval e X.env) :: starEach es X.env := by rfl) (hpl : (backTo pos (starEach es X.env)).any (·.1) = false := by rfl) :
    L2N.PMk X (.Call (.Name x p) (e :: es) [] pos) (tMkO C sp [] ta) := by
  intro pins s σ H Q I h
  obtain ⟨nm, q, N, bs, bm, sn, sub, ab, col, dd, k0, k1, k2, k3, k5, hC, hbm⟩ := T.cls
  refine wpAny_Call_Name_kw (ld_glob I hg hm ?_ hdb)
  refine PySem.W.callWith_K (h₀ := X.base) I.ok.mod.kin T.kC (thn (ha.run pos pins s σ H _ I h) fun us s1 ⟨vs, H1, I1, r1, hz, q1⟩ => ⟨I1.kIn, ?_⟩) he hpl
  show wpAny _ _ (call (.ref C) us) _ _ _
  obtain ⟨hp, g, dr, tk, os⟩ := s1
  have hsz : hp.objs.size ≤ hp.objs.size + 1 := Nat.le_succ _
  have hn : H1 (hp.objs.size + 1) = none := I1.hok.fresh hsz
  have hq := q1 (hp.objs.size + 1) hn
  rw [List.append_nil] at hq
  have kk : ∀ b o, hp.get? b = some o → ((hp.push (PySem.W.kdv_tup us)).push (PySem.HandSPX.excO C hp.objs.size)).get? b = some o := fun b o e => Heap.get?_push_of_some _ (Heap.get?_push_of_some _ e)
  have hget : ((hp.push (PySem.W.kdv_tup us)).push (PySem.HandSPX.excO C hp.objs.size)).get? (hp.objs.size + 1) = some (PySem.HandSPX.excO C hp.objs.size) := by heap_get
  have I2 : Inv X pins σ (upd H1 (hp.objs.size + 1) (exo (hp.objs.size + 1) C none)) ⟨(hp.push (PySem.W.kdv_tup us)).push (PySem.HandSPX.excO C hp.objs.size), g, dr, tk, os⟩ :=
    I1.laid (t' := tk) (a := hp.objs.size + 1) (o := exo (hp.objs.size + 1) C none) (h' := (hp.push (PySem.W.kdv_tup us)).push (PySem.HandSPX.excO C hp.objs.size)) kk hsz (exo_ok hget)
  have r2 : Vals (V.ref (hp.objs.size + 1) :: vs) (Value.ref (hp.objs.size + 1) :: us) := .cons rfl r1
  have hl : (Value.ref (hp.objs.size + 1) :: us ++ []).length = ps.length := by
    have e := r2.length
    rw [F1.len _ _ _ _ hq] at e
    rw [List.append_nil]
    exact e.symm
  have hus : us.length ≤ sizeLine := by
    rw [← Paired.length r1, sizeLine_eq]
    omega
  have b2 := hb _ (Value.ref (hp.objs.size + 1) :: us) I2.kIn hl
  rw [List.append_nil] at b2
  refine wpAny_call (PySem.HandSPX.call_own F.excBase_ValueError (fun Y => PySem.HandSPX.refsVE_contains Y bm hbm) (I1.kIn _ _ hC) (PySem.W.looks_findIn I1.kIn iC) (fun self => PySem.W.bind_fn I1.kIn self tI) hus
    (codeAny_mono (F1.run _ X.stack _ _ ⟨Value.ref (hp.objs.size + 1) :: us, []⟩ (Value.ref (hp.objs.size + 1) :: us) _ _ (fun _ _ _ => False) (hr.make C us []) (I2.env0.make C us []) b2 r2 hq) fun r s' hq' => ?_))
  cases r with
  | error er => exact hx pins σ _ _ er s' I2 hq'
  | ok fl =>
    cases fl with
    | ret u =>
      obtain ⟨v, H2, os2, bare2, un2, hok2, rv, ev, d, fs, ea, ed, hd1, q2⟩ := hq'
      subst ev
      obtain ⟨h2, g2, d2, t2, os'⟩ := s'
      obtain ⟨t0, G, J, kG, ge, hoe, na⟩ := mk_end0 (d2 := d2) (t2 := t2) I1 hsz kk un2 hok2 os2 bare2 ea ed hd1
      exact ⟨rv, ⟨hp.objs.size + 1, _, _, ⟨G, g2, d2, t2, os'⟩, _, .ref C, some d, rfl, J, kG, ge, hoe, ⟨rfl, rfl, fun vs hv => by cases hv; rfl⟩, rfl, rfl, na, rfl, bare2, raises_own T.exC T.tyC, q2⟩⟩
    | next => exact False.elim hq'
    | brk => exact False.elim hq'
    | cont => exact False.elim hq'
/-! ### o.m(e, ..), what is raised is wished for at the caller's slots -/
def tMethE (C : Addr) (m : Str) (sp : Sp) (E : L2.St → XK) (ta : TE) (t : TA) : TE := fun σ H Q => ta σ H fun x H1 => ∃ a dx fs, x = .ref a ∧ H1 a = some (.ins C dx fs) ∧ fs.lookup m = none ∧ t σ H1 fun vs H2 => sp (x :: vs) H2 Q (E σ)
section
variable {X : Cx} {CX : CXT} {k : Nat} {f C : Addr} {fd : FuncData} {ps : List Str} {sp : Sp} {E : L2.St → XK} {m : Str} {pos apos : Pos} {e o : Expr} {es : List Expr} {ta : TE} {t : TA}
theorem pe_methE {pl : Sem Bool} (he : PE X o ta) (c : Cls X.K C) (hm : Meth X.K C m f) (F : FnOk X.prog X.w X.K X.mg X.base CX k f fd ps sp) (hr : Room k X.A) (hb : Binds X.K fd ps []) (hx : ∀ σ, PassesAt CX X σ (E σ)) (ha : PA X (e :: es) t)
    (hst : starEach (e :: es) X.env = (false, eval e X.env) :: starEach es X.env := by rfl) (hpl : (backTo pos (starEach es X.env)).any (·.1) = false := by rfl)
    (ht : eval (.Call (.Attribute o m apos) (e :: es) [] pos) X.env = (do
      let ov ← eval o X.env
      standAt apos.atName
      let (f, first) ← holding [ov] (getMethod ov m pl)
      callWith pos f first (backTo pos (starEach (e :: es) X.env)) (backToKw pos (keywordEach [] X.env))) := by rfl) :
    PE X (.Call (.Attribute o m apos) (e :: es) [] pos) (tMethE C m sp E ta t) := by
  refine ⟨fun pins s σ H Q I h => ?_⟩
  refine PySem.W.methodCall_KW (pl := pl) (thn (he.run pins s σ H _ I h) fun u s1 ⟨x, H1, I1, rx, a, dx, fs, ex, ea, l, q⟩ => ?_) ht
  subst ex
  obtain rfl : u = Value.ref a := rx
  refine getmeth_ok I1 ea c hm l ?_
  refine PySem.W.callWith_K (first := [.ref a]) (h₀ := X.base) I.ok.mod.kin hm.kp (thn (ha.run pos pins s1 σ H1 _ I1 q) fun us s2 ⟨vs, H2, I2, r, q2⟩ => ⟨I2.kIn, ?_⟩) hst hpl
  exact run_fnS (us := .ref a :: us) (vs := .ref a :: vs) F hr hb (hx σ) I2 (.cons rfl r) q2
end
/-! ### defs called within an except suite, told which exception is handled -/
/-- the handled exception: its object p.2 at p.1, class, own dict -/
def HotZ (A : Around) (p : Addr × Obj) (cls : Value) (d : Option Addr) : Prop := A.handled = some (.ref p.1) ∧ L2N.Zn cls d p.2 ∧ ∃ vs : Array Value, p.2.data = .fields vs
theorem HotZ.hot {A : Around} {p : Addr × Obj} {cls : Value} {d : Option Addr} (h : HotZ A p cls d) : L2H.Hot1 A p := by
  obtain ⟨h1, ⟨_, _, h2⟩, vs, h3⟩ := h
  exact ⟨h1, vs, h3, h2 vs h3⟩
/-- a promise that may speak of the handled exception -/
abbrev SpE := Addr → Value → Option Addr → Sp
structure FnE (P : Program) (w : World) (K : PySem.W.Frag) (mg : Str → Option Value) (base : Heap) (CX : CXT) (k : Nat) (f : Addr) (fd : FuncData) (ps : List Str) (sp : SpE) : Prop where
  len : ∀ a c d vs H Q E, sp a c d vs H Q E → vs.length = ps.length
  run : ∀ (A : Around) (outer : List Env) (s : Shared) (H : Hp) (args : Args) (us : List Value) (vs : List V) (Q : VK) (E : XK) (p : Addr × Obj) (c : Value) (d : Option Addr), L2H.RoomH k A → HotZ A p c d → L2H.PinOk outer H s p → Env0 P w K mg base A outer s H → BindsTo s fd args (ps.zip us) → Vals vs us → sp p.1 c d vs H Q E →
    codeAny (model P w) A (.call (.ref f) args) (CR CX outer P w H s Q E) s
theorem fn_ofE {CX : CXT} {P : Program} {w : World} {K : PySem.W.Frag} {mg : Str → Option Value} {base : Heap} {k : Nat} {f : Addr} {name qual : Str} {params : Arguments} {body : List Stmt} {scope : Scope} {dvs : List V} {kws : List (Str × V)} {fd : FuncData} {N ps : List Str} {sp : SpE}
    (F : FunD K name qual params body scope dvs kws f fd) (S : FnScope N ps scope)
    (len : ∀ a c d vs H Q E, sp a c d vs H Q E → vs.length = ps.length)
    (hbody : ∀ (cdv : Value) (A : Around) (outer : List Env) (s : Shared) (H : Hp) (vs : List V) (Q : VK) (E : XK) (p : Addr × Obj) (c : Value) (d : Option Addr), HotZ A p c d → L2H.RoomH k (A.deeper (envOfC qual scope s.heap.objs.size f cdv)) → sp p.1 c d vs H Q E →
      ∃ t, PSs (L2H.cxH CX P w K mg base N qual scope f cdv A outer s H E p) body t ∧ t { nx := fun _ H' => Q .non H', rt := Q } (L2.start N vs) H) :
    FnE P w K mg base CX (k + 1) f fd ps sp := by
  obtain ⟨oc, od, dV, kV, doc, pm, an, cdv, ct, osl, rfl, lk, hcd, _, _⟩ := F.ex
  refine ⟨len, fun A outer s H args us vs Q E p c d hr hz hpin e0 hb r hsp => ?_⟩
  have hot := hz.hot
  have hl := len _ _ _ _ _ _ _ hsp
  have KX : K.In s.heap := e0.mod.kin.keeps fun b o e => (e0.bs b o e).1
  have lim : s.heap.NoLimit := e0.mod.nolimit.keeps fun b o e => (e0.bs b o e).1
  have hkind : ∀ y ∈ ps.zip us, scope.names.lookup y.1 = some .local ∨ (scope.names.lookup y.1 = some .cell ∧ ((cellsFrom (s.heap.objs.size + 1) scope.names []).lookup y.1).isSome = true) := fun ⟨n, v⟩ hy => by
    rcases S.par n (List.of_mem_zip hy).1 with q | q
    · exact .inl q
    · exact .inr ⟨q, PySem.W.cellsFrom_some _ _ _ (.inl q)⟩
  refine codeAny_call_function hr.depth (KX _ _ lk) rfl S.co S.gen rfl (PySem.W.codeRec_of KX hcd) (hb _ _ _ _ ?_)
  refine wpAny_newFunctionEnv_cells S.kind hkind fun env he s1 x => ?_
  subst he
  refine ⟨lim.keeps x.toInCall.keep, codeAny_func ?_⟩
  obtain ⟨t, ht, hq⟩ := hbody cdv A outer s H vs Q E p c d hz (hr.deeper _) hsp
  have I : Inv (L2H.cxH CX P w K mg base N qual scope f cdv A outer s H E p) [] (L2.start N vs) H s1 := L2H.inv_startH S hpin e0 hl r x
  refine wpAny_mono (ht.run [] s1 (L2.start N vs) H _ I hq) (fun fl s' hs => ?_) fun e s' hs => hs
  have fin : ∀ {σ' : L2.St} {H' : Hp} {v : V} {u : Value}, Inv (L2H.cxH CX P w K mg base N qual scope f cdv A outer s H E p) [] σ' H' s' → RelV v u → Q v H' → CE outer P w H s Q u s' :=
    fun {σ' H' v u} J rv q => ⟨v, H', J.os, J.bare, J.base, J.hok, rv, q⟩
  cases fl with
  | ret u =>
    obtain ⟨v, σ', H', J, rv, q⟩ := hs
    exact fin J rv q
  | next =>
    obtain ⟨σ', H', J, q⟩ := hs
    exact fin (v := V.non) (u := Value.none) J rfl q
  | brk =>
    obtain ⟨_, _, _, q⟩ := hs
    exact False.elim q
  | cont =>
    obtain ⟨_, _, _, q⟩ := hs
    exact False.elim q
/-- the context bears the handled exception -/
def HotE (X : Cx) (a : Addr) (c : Value) (d : Option Addr) : Prop := ∃ p : Addr × Obj, p.1 = a ∧ HotZ X.A p c d ∧ p ∈ X.pn
theorem hotE_suite {X : Cx} {a : Addr} {oe : Obj} {cls : Value} {d : Option Addr} {pn : List (Addr × Obj)} (hz : L2N.Zn cls d oe) (hf : ∃ vs, oe.data = .fields vs) : HotE (X.suite a ((a, oe) :: pn)) a cls d := ⟨(a, oe), rfl, ⟨rfl, hz, hf⟩, List.mem_cons_self⟩
def tCallE (sp : SpE) (a : Addr) (c : Value) (d : Option Addr) (E : L2.St → XK) (t : TA) : TE := fun σ H Q => t σ H fun vs H1 => sp a c d vs H1 Q (E σ)
section
variable {X : Cx} {CX : CXT} {k : Nat} {f C a : Addr} {c : Value} {d : Option Addr} {fd : FuncData} {ps : List Str} {sp : SpE} {E : L2.St → XK} {x m : Str} {q pos apos : Pos} {e o : Expr} {es : List Expr} {ta : TE} {t : TA}
theorem run_fnE {pins : List (Addr × Obj)} {σ : L2.St} {H : Hp} {s : Shared} {Q : VK} {us : List Value} {vs : List V} (F : FnE X.prog X.w X.K X.mg X.base CX k f fd ps sp) (hr : L2H.RoomH k X.A) (hc : HotE X a c d) (hb : Binds X.K fd ps []) (hx : PassesAt CX X σ (E σ))
    (I : Inv X pins σ H s) (r : Vals vs us) (h : sp a c d vs H Q (E σ)) : wpAny (model X.prog X.w) X.A (call (.ref f) us) (EP X pins σ Q) X.xe s := by
  obtain ⟨p, rfl, hot, hp⟩ := hc
  have hl : us.length = ps.length := by rw [← r.length]; exact F.len _ _ _ _ _ _ _ h
  have b := hb s us I.kIn (by rw [List.append_nil]; exact hl)
  rw [List.append_nil] at b
  have P1 := I.pin p (List.mem_append_left _ hp)
  have hpin : L2H.PinOk X.stack H s p := ⟨P1.1, P1.2.1, fun hm => (List.mem_cons.mp (I.stkSub p.1 hm)).elim P1.2.2.1 P1.2.2.2.1, P1.2.2.2.2⟩
  refine wpAny_call (codeAny_mono (F.run X.A X.stack s H ⟨us, []⟩ us vs Q (E σ) p c d hr hot hpin I.env0 b r h) fun r s' hq => ?_)
  cases r with
  | error e => exact hx pins H s e s' I hq
  | ok fl =>
    cases fl with
    | ret u => exact I.after hq
    | next => exact False.elim hq
    | brk => exact False.elim hq
    | cont => exact False.elim hq
theorem pe_callE (F : FnE X.prog X.w X.K X.mg X.base CX k f fd ps sp) (hr : L2H.RoomH k X.A) (hc : HotE X a c d) (hg : Gl X x) (hm : X.mg x = some (.ref f)) (hk : PySem.W.keepIn X.K (.ref f) = true) (hb : Binds X.K fd ps []) (hx : ∀ σ, PassesAt CX X σ (E σ))
    (ha : PA X (e :: es) t) (hdb : (x == ("__debug__" : Str)) = false := by decide) (he : starEach (e :: es) X.env = (false, eval e X.env) :: starEach es X.env := by rfl) (hpl : (backTo pos (starEach es X.env)).any (·.1) = false := by rfl) :
    PE X (.Call (.Name x q) (e :: es) [] pos) (tCallE sp a c d E t) := by
  refine ⟨fun pins s σ H Q I h => ?_⟩
  refine wpAny_Call_Name_kw (ld_glob I hg hm ?_ hdb)
  refine PySem.W.callWith_K (h₀ := X.base) I.ok.mod.kin hk (thn (ha.run pos pins s σ H _ I h) fun us s1 ⟨vs, H1, I1, r, q⟩ => ⟨I1.kIn, ?_⟩) he hpl
  exact run_fnE F hr hc hb (hx σ) I1 r q
end
/-! ### isinstance of the handled exception, its fields -/
section
open PySem.W PySem.Calls
variable {prog : Program} {w : World} {A : Around} {E : Value → Shared → Prop} {s : Shared} {K : Frag} {x D : Addr} {ox : Obj} {od : Obj}
theorem kin_classD {Q : Option Value → Shared → Prop} (C : ExcC K D) (X : K.In s.heap) (I : InstAt s.heap x ox D (some od)) (h : Q (some (.ref D)) { s with toks := s.toks + 1 }) : wpAny (model prog w) A (getAttr? (.ref x) "__class__") Q E s := by
  have hga := C.hg
  have hgt := C.hk
  have hsub := C.hs
  have hdct := C.hd
  have ha := C.ha
  have hn := C.hn
  have htk := C.ht
  have hm := C.hm
  have hf : findObj K D (some od) "__class__" = some (.bind (.builtin "getset_descriptor.__get__") (.builtin "object.__class__")) := findObj_data (by obtain ⟨cd, hc, _⟩ := any_some hdct; rw [hc]; rfl) ha hn htk
  obtain ⟨hp, g, d, t, os⟩ := s
  have L0 := I.type (M := model prog w)
  have L1 := looks_findIn (M := model prog w) X hga
  have L2 := looks_findIn (M := model prog w) X hgt
  have L3 := looks_find (M := model prog w) X I hf
  have sub : Looks (model prog w) hp (isInstance (.ref x) (.type "BaseException")) true := L0.andThen (looks_subIn X hsub)
  have hx0 : (false && onTheHeap (Value.builtin "BaseException.__getattribute__")) = false := rfl
  have hx2 : (Value.builtin "BaseException.__getattribute__" == Value.builtin "object.__getattribute__") = false := by decide +kernel
  have hx1 : (onTheHeap (Value.ref D) && Value.builtin "BaseException.__getattribute__" == Value.builtin "object.__getattribute__") = false := by rw [hx2]; rfl
  unfold getAttr? getAttrBy? getAttrBy
  refine wpAny_bind (wpAny_mkText (wpAny_bind (wpAny_attempt (wpAny_holding (wpAny_bind (L0.at (wpAny_bind (L1.at ?_))))))))
  show wpAny _ _ (if (onTheHeap (Value.ref D) && Value.builtin "BaseException.__getattribute__" == Value.builtin "object.__getattribute__") = true then _ else _) _ _ _
  rw [hx1, if_neg Bool.false_ne_true]
  unfold getAttrByItsOwn hookBefore
  refine wpAny_bind ?_
  rw [if_pos (show onTheHeap (Value.ref D) = true from rfl)]
  refine L2.at ?_
  refine wpAny_bind (wpAny_attempt (wpAny_holding ?_))
  unfold callGetattribute
  rw [hx0, if_neg Bool.false_ne_true]
  unfold boundAndCalled
  rw [PySem.F.excAttr_ValueError.ga.bind (.ref x)]
  refine wpAny_bind (wpAny_pure ?_)
  show wpAny _ _ (call (.builtin "BaseException.__getattribute__") [.ref x, .str "__class__" t]) _ _ _
  refine wpAny_call (codeAny_call_builtin PySem.F.excAttr_ValueError.ga.plain PySem.F.entry_bexc_ga ?_)
  refine @check_slot (model prog w) _ _ ⟨hp, g, d, t + 1, os⟩ "BaseException.__getattribute__" "BaseException" "__getattribute__" (.ref x) [.str "__class__" t] [] _ (by decide +kernel) (by decide +kernel) sub (PySem.F.args_bexc_ga (.ref x) (.str "__class__" t)) ?_
  unfold Builtin.«object.__getattribute__»
  refine wpAny_bind (wpAny_of_eq (a := ((Value.ref x : Value), [Value.str "__class__" t])) (by first | rfl | (simp only [slotArgs]; rfl)) ?_)
  refine wpAny_bind (wpAny_pure (wpAny_bind (L0.at (wpAny_bind (L3.at ?_)))))
  show wpAny _ _ (holding [Value.builtin "object.__class__"] (call (.builtin "getset_descriptor.__get__") [.builtin "object.__class__", .ref x, .ref D]) >>= ret) _ _ _
  refine wpAny_bind (wpAny_holding (wpAny_call (class_get (s := ⟨hp, g, d, t + 1, os⟩) (ox := ox) (od := some od) X I hm ?_)))
  refine wpAny_pure ?_
  show wpAny _ _ (handedOut (.ref D)) _ _ _
  rw [handedOut_of (v := .ref D) rfl]
  first
    | exact wpAny_pure (wpAny_pure h)
    | exact wpAny_pure h
    | exact wpAny_pure (wpAny_bind (wpAny_pure (wpAny_pure h)))
theorem kitx_excD (C : ExcC K D) : KitX K (.ref x) (.ref D) (fun h => InstAt h x ox D (some od)) where
  ty := fun _ _ _ I => I.type
  it := fun _ _ X _ => by
    obtain ⟨cdD, hcD, _⟩ := any_some C.hd
    unfold clsIn at hcD
    split at hcD
    · rename_i c' d' cd' sl' ho
      intro A' Q' E' s' k q
      unfold isType loadHead
      exact wpAny_bind (wpAny_loadPart (k _ _ (X _ _ ho)) (wpAny_pure q))
    · cases hcD
  ne := fun h tp dd its n sl X htp => by
    obtain ⟨cdD, hcD, _⟩ := any_some C.hd
    refine Bool.eq_false_iff.mpr fun q => ?_
    have e : D = tp := Value.ref.inj (beq_iff_eq.mp q)
    subst e
    unfold clsIn at hcD
    split at hcD
    · rename_i c' d' cd' sl' ho
      have z := (X _ _ ho).symm.trans htp
      cases z
    · cases hcD
  ca := fun X I k => kin_classD C X I k
end
end ErrX
set_option Elab.async false
set_option linter.all false
set_option maxRecDepth 100000
set_option maxHeartbeats 4000000
namespace ErrX
open PySem PySem.Spec PyProof.Rows L2
section
variable {X : Cx} {a D dd : Addr}
theorem inst_hot {pins : List (Addr × Obj)} {σ : L2.St} {H : Hp} {s : Shared} {fs : List (Str × V)} (hc : HotE X a (.ref D) (some dd)) (I : Inv X pins σ H s) (hd : H dd = some (.xd fs)) :
    ∃ (oe od : Obj) (mA : Str → Option Value), PySem.W.InstAt s.heap a oe D (some od) ∧ (∀ name, PySem.W.lookIn name od = some (mA name)) ∧ ∀ f, RelO (fs.lookup f) (mA f) := by
  obtain ⟨p, rfl, ⟨_, ⟨z1, z2, _⟩, vs, hv⟩, hp⟩ := hc
  obtain ⟨hget, _⟩ := I.pin p (List.mem_append_left _ hp)
  have hx : ObjOk X.prog X.w H s.heap dd (.xd fs) := I.hok dd _ hd
  obtain ⟨mA, hns, hr⟩ := hx
  obtain ⟨od, ho, hl⟩ := lookIn_ns hns
  exact ⟨p.2, od, mA, ⟨hget, z1, by unfold PySem.W.notCls; rw [hv] <;> rfl, by rw [z2]; exact ho⟩, hl, hr⟩
/-- isinstance(e, c), e the handled exception, its own dict at dd -/
def rIsD (K : PySem.W.Frag) (D a dd : Addr) : List V → Hp → VK → Prop := fun xs H Q => ∃ (c : V) (cv : Value) (b : Bool) (fs : List (Str × V)), xs = [.ref a, c] ∧ ClsV c cv ∧ H dd = some (.xd fs) ∧ PySem.W.kitOne K (.ref D) cv = some b ∧ Q (.bl b) H
theorem call_isD (C : ExcC X.K D) (hc : HotE X a (.ref D) (some dd)) : CallR X (.builtin "isinstance") (rIsD X.K D a dd) := by
  intro pins s σ H xs us Q I r h
  obtain ⟨c, cv, b, fs, rfl, hcv, hd, e, q⟩ := h
  obtain ⟨u1, u2, rfl, r1, r2⟩ := vals2 r
  have e2 := hcv.eq r2
  subst e2
  obtain rfl : u1 = Value.ref a := r1
  obtain ⟨oe, od, mA, J, _, _⟩ := inst_hot hc I hd
  exact PySem.W.kia_one (kitx_excD C) I.kIn J e (fun z => nomatch z) fun tk => ⟨.bl b, H, I.kept (t' := tk) fun _ _ z => z, rfl, q⟩
/-- e.f, a field of the handled exception -/
def tFldD (a dd : Addr) (f : Str) (te : TE) : TE := fun σ H Q => te σ H fun x H1 => x = .ref a ∧ ∃ (fs : List (Str × V)) (v : V), H1 dd = some (.xd fs) ∧ fs.lookup f = some v ∧ Q v H1
theorem pe_fldD {e : Expr} {te : TE} {f : Str} {pos : Pos} (C : ExcC X.K D) (hno : PySem.W.findIn X.K (.ref D) f = some none) (hc : HotE X a (.ref D) (some dd)) (he : PE X e te)
    (hb : attributeBase e f X.env (eval e X.env) = eval e X.env := by rfl) : PE X (.Attribute e f pos) (tFldD a dd f te) := by
  refine ⟨fun pins s σ H Q I h => ?_⟩
  refine attr_of hb (thn (he.run pins s σ H _ I h) fun u s1 hh => ?_)
  obtain ⟨x, H1, I1, rx, ex, fs, v, hd, hl, q⟩ := hh
  subst ex
  obtain rfl : u = Value.ref a := rx
  obtain ⟨oe, od, mA, J, hlo, hr⟩ := inst_hot hc I1 hd
  obtain ⟨u, hu, ru⟩ := RelO.some_of (v := v) (o := mA f) (by rw [← hl]; exact hr f)
  exact HandSPX.exc_get I1.kIn J C.hg C.hk C.hs (PySem.W.findObj_own C.hd hno rfl (by rw [hlo, hu])) (handed_of ru) ⟨v, H1, I1.tok _, ru, q⟩
end
/-! ### bools counted -/
def eqb (k : Bool) (v : Value) : Bool := match v with
  | .bool n => n == k
  | _ => false
theorem vals_bools : ∀ {bs : List Bool} {us : List Value}, Vals (bs.map V.bl) us → us = bs.map Value.bool
  | [], _, .nil => rfl
  | b :: bs, _, .cons r t => by
    have e1 := vals_bools t
    rw [e1, show _ = Value.bool b from r]
    rfl
theorem eqb_count {k : Bool} : ∀ bs : List Bool, (bs.map Value.bool).countP (eqb k) = bs.count k
  | [] => rfl
  | b :: bs => by
    rw [List.map_cons, List.countP_cons, List.count_cons, eqb_count bs] <;> rfl
def rCntB (K : PySem.W.Frag) : V → List V → Hp → VK → Prop := fun x xs H Q => ∃ (p : Addr) (bs : List Bool) (k : Bool), x = .ref p ∧ xs = [.bl k] ∧ SqL K H p (bs.map V.bl) ∧ Q (.int (bs.count k : Nat)) H
theorem mt_lcountB {X : Cx} : MtR X "list.count" (rCntB X.K) := by
  intro pins s σ H x xs v us Q I rx rxs h
  obtain ⟨p, bs, k, rfl, rfl, hs, q⟩ := h
  cases rx
  obtain ⟨u, rfl, ru⟩ := rxs.one
  obtain rfl : u = Value.bool k := ru
  obtain ⟨its, rv, ⟨⟨cls, dd, data, sl⟩, n, ho, hc, hdn, hd⟩, hlen⟩ := I.list hs
  simp only at hc hd
  subst hc hd
  have hi := vals_bools rv
  refine call_meets PySem.F.slot_list_count ⟨_, ho, rfl⟩ PySem.F.entry_list_count (PySem.F.args_list_count_2 _ _)
    (SeqAt.list_countAt p its.toArray n dd sl (.bool k) (eqb k)) ⟨ho, fun y hy => ?_, ?_⟩
  · have hy' : y ∈ its := by simpa using hy
    rw [hi] at hy'
    obtain ⟨b, _, rfl⟩ := List.mem_map.mp hy'
    exact SeqAt.EqAt.bool_bool b k
  · have ec : its.toArray.toList.countP (eqb k) = bs.count k := by
      show its.countP (eqb k) = _
      rw [hi]
      exact eqb_count bs
    refine ⟨.int (bs.count k : Nat), H, I.tok _, ⟨s.toks, ?_⟩, q⟩
    show Value.int ((its.toArray.toList.countP (eqb k) : Nat) : Int) s.toks = Value.int ((bs.count k : Nat) : Int) s.toks
    rw [ec]
/-! ### the __init__ that keeps its argument in one field -/
/-- __init__(self, v): super().__init__(..); self.f = v -/
def spI (C : Addr) (f : Str) : Sp := fun vs H Q _ => ∃ (a : Addr) (x : Int), vs = [.ref a, .int x] ∧ H a = some (exo a C none) ∧ ∀ dx, H dx = none → dx ≠ a → Q .non (upd (upd H dx (exd dx [(f, .int x)])) a (exo a C (some dx)))
/-- C(e): the exception, its own dict at d the one field -/
def tMk1 (C : Addr) (f : Str) (ta : TA) : L2.St → Hp → XK → Prop := fun σ H Q => ta σ H fun vs H1 => ∃ x : Int, vs = [.int x] ∧ ∀ d, H1 d = none → Q (.ref C) (some d) (upd H1 d (.xd [(f, .int x)]))
theorem mk1_heap {H : Hp} {a C d : Addr} {f : Str} {v : V} {o : HO} (ha : H a = none) (hd : d ≠ a) : upd (del (upd (upd (upd H a (exo a C none)) d (exd d [(f, v)])) a (exo a C (some d))) a) d o = upd H d o := by
  funext b
  by_cases hb : b = d
  · subst hb
    rw [upd_same, upd_same]
  · rw [upd_ne hb, upd_ne hb]
    by_cases hba : b = a
    · subst hba
      rw [del_same, ha]
    · rw [del_ne hba, upd_ne hba, upd_ne hb, upd_ne hba]
/-- arguments, what follows weakened -/
def taW (ta : TA) : TA := fun σ H Q => ∃ Q1 : List V → Hp → Prop, ta σ H Q1 ∧ ∀ vs H1, Q1 vs H1 → Q vs H1
theorem taW_ok {X : Cx} {es : List Expr} {ta : TA} (h : PA X es ta) : PA X es (taW ta) := by
  refine ⟨fun pos pins s σ H Q I hq => ?_⟩
  obtain ⟨Q1, h1, h2⟩ := hq
  refine wpAny_mono (h.run pos pins s σ H Q1 I h1) (fun us s1 hh => ?_) fun _ _ z => z
  obtain ⟨vs, H1, I1, r1, q1⟩ := hh
  exact ⟨vs, H1, I1, r1, h2 _ _ q1⟩
theorem pmk_err1 {X : Cx} {CX : CXT} {x f : Str} {e : Expr} {ta : TA} {p pos : Pos} {C fI : Addr} {k : Nat} {fd : FuncData} {ps : List Str} (T : OexC X.K C) (iC : PySem.W.findIn X.K (.ref C) "__init__" = some (some (.ref fI))) (tI : PySem.W.typeIn X.K (.ref fI) = some (.type "function"))
    (F1 : FnOk X.prog X.w X.K X.mg X.base CX k fI fd ps (spI C f)) (hr : Room (k + 1) X.A) (hb : Binds X.K fd ps []) (hx : Passes CX X (fun _ _ _ => False)) (hg : Gl X x) (hm : X.mg x = some (.ref C)) (ha : PA X [e] ta)
    (hdb : (x == ("__debug__" : Str)) = false := by decide) (he : starEach [e] X.env = (false, eval e X.env) :: starEach [] X.env := by rfl) (hpl : (backTo pos (starEach [] X.env)).any (·.1) = false := by rfl) :
    L2N.PMk X (.Call (.Name x p) [e] [] pos) (tMk1 C f ta) := by
  intro pins s σ H Q I h
  refine pmk_oexN T iC tI F1 hr hb hx hg hm (taW_ok ha) hdb he hpl pins s σ H Q I ⟨_, h, ?_⟩
  rintro vs H1 ⟨x, rfl, q⟩
  refine ⟨(by show 1 ≤ 1000; decide), fun a hn => ⟨a, x, rfl, upd_same, fun dx hdx ne => ⟨rfl, dx, [(f, .int x)], upd_same, ?_, ?_, ?_⟩⟩⟩
  · rw [upd_ne ne, upd_same]
  · rw [upd_ne ne] at hdx
    exact hdx
  · have hd1 : H1 dx = none := by
      rw [upd_ne ne] at hdx
      exact hdx
    have e := mk1_heap (H := H1) (C := C) (f := f) (v := .int x) (o := .xd [(f, .int x)]) hn ne
    rw [e]
    exact q dx hd1
end ErrX
set_option Elab.async false
set_option linter.all false
set_option maxRecDepth 100000
set_option maxHeartbeats 4000000
namespace ErrX
open PySem PySem.Spec PyProof.Rows L2
/-- __init__(self, v): super().__init__(..); self.f = tuple(v), v a tuple -/
def spT (C : Addr) (f : Str) : Sp := fun vs H Q _ => ∃ (a t : Addr) (xs : List V), vs = [.ref a, .ref t] ∧ H t = some (.tup xs) ∧ H a = some (exo a C none) ∧ ∀ dx, H dx = none → dx ≠ a → Q .non (upd (upd H dx (exd dx [(f, .ref t)])) a (exo a C (some dx)))
def tMk1T (C : Addr) (f : Str) (ta : TA) : L2.St → Hp → XK → Prop := fun σ H Q => ta σ H fun vs H1 => ∃ (t : Addr) (xs : List V), vs = [.ref t] ∧ H1 t = some (.tup xs) ∧ ∀ d, H1 d = none → Q (.ref C) (some d) (upd H1 d (.xd [(f, .ref t)]))
theorem pmk_err1T {X : Cx} {CX : CXT} {x f : Str} {e : Expr} {ta : TA} {p pos : Pos} {C fI : Addr} {k : Nat} {fd : FuncData} {ps : List Str} (T : OexC X.K C) (iC : PySem.W.findIn X.K (.ref C) "__init__" = some (some (.ref fI))) (tI : PySem.W.typeIn X.K (.ref fI) = some (.type "function"))
    (F1 : FnOk X.prog X.w X.K X.mg X.base CX k fI fd ps (spT C f)) (hr : Room (k + 1) X.A) (hb : Binds X.K fd ps []) (hx : Passes CX X (fun _ _ _ => False)) (hg : Gl X x) (hm : X.mg x = some (.ref C)) (ha : PA X [e] ta)
    (hdb : (x == ("__debug__" : Str)) = false := by decide) (he : starEach [e] X.env = (false, eval e X.env) :: starEach [] X.env := by rfl) (hpl : (backTo pos (starEach [] X.env)).any (·.1) = false := by rfl) :
    L2N.PMk X (.Call (.Name x p) [e] [] pos) (tMk1T C f ta) := by
  intro pins s σ H Q I h
  refine pmk_oexN T iC tI F1 hr hb hx hg hm (taW_ok ha) hdb he hpl pins s σ H Q I ⟨_, h, ?_⟩
  rintro vs H1 ⟨t, xs, rfl, ht, q⟩
  refine ⟨(by show 1 ≤ 1000; decide), fun a hn => ⟨a, t, xs, rfl, (upd_ne (ne_of_none ht hn)).trans ht, upd_same, fun dx hdx ne => ⟨rfl, dx, [(f, .ref t)], upd_same, ?_, ?_, ?_⟩⟩⟩
  · rw [upd_ne ne, upd_same]
  · rw [upd_ne ne] at hdx
    exact hdx
  · have hd1 : H1 dx = none := by
      rw [upd_ne ne] at hdx
      exact hdx
    have e := mk1_heap (H := H1) (C := C) (f := f) (v := .ref t) (o := .xd [(f, .ref t)]) hn ne
    rw [e]
    exact q dx hd1
end ErrX
set_option Elab.async false
set_option linter.all false
set_option maxRecDepth 100000
set_option maxHeartbeats 4000000
/-! What the run of the top is asked here: defs, facts of classes, own errors, classes of instances. -/
namespace Hk
open PySem PySem.W L2 SupX ErrX
/-! ### own errors -/
def sixB : List (Option Value) → Bool
  | [_, _, _, _, some (.builtin n), _] => n == "ValueError.__new__"
  | _ => false
theorem sixB_ok {l : List (Option Value)} (h : sixB l = true) : ∃ k0 k1 k2 k3 k5, l = [k0, k1, k2, k3, some (.builtin "ValueError.__new__"), k5] := by
  unfold sixB at h
  split at h
  · rename_i k0 k1 k2 k3 n k5
    have e : n = "ValueError.__new__" := by simpa using h
    subst e
    exact ⟨k0, k1, k2, k3, k5, rfl⟩
  · cases h
def excB (K : Frag) (C : Addr) : Bool := match K.lookup C with
  | some ⟨.type t, _, .cls cd, sl⟩ => (t == "type" && (cd.hasDict && !cd.hasDel)) && ((match cd.mro with
    | .ref C' :: bm => C' == C && HandSPX.refsVE bm
    | _ => false) && sixB sl.toList)
  | _ => false
theorem excB_ok {K : Frag} {C : Addr} (h : excB K C = true) : ∃ nm q N bs bm sn sub ab col dd k0 k1 k2 k3 k5, K.lookup C = some (excClassObj nm q C N bs bm true sn sub ab col dd k0 k1 k2 k3 k5 "ValueError.__new__") ∧ HandSPX.refsVE bm = true := by
  unfold excB at h
  split at h
  · rename_i t dd cd sl e
    obtain ⟨nm, bs, mro, ns, qn, hd, sn, sub, ab, col, del⟩ := cd
    simp only [Bool.and_eq_true, beq_iff_eq, Bool.not_eq_true'] at h
    obtain ⟨⟨h1, h2, h3⟩, h4, h5⟩ := h
    subst h1 h2 h3
    cases mro with
    | nil => cases h4
    | cons v bm =>
      cases v with
      | ref C' =>
        have h4' : (C' == C && HandSPX.refsVE bm) = true := h4
        simp only [Bool.and_eq_true, beq_iff_eq] at h4'
        obtain ⟨h6, h7⟩ := h4'
        subst h6
        obtain ⟨l⟩ := sl
        clear h4
        have hl := sixB_ok h5
        obtain ⟨k0, k1, k2, k3, k5, hl⟩ := hl
        have hl' : l = _ := hl
        subst hl'
        exact ⟨nm, qn, ns, bs, bm, sn, sub, ab, col, dd, k0, k1, k2, k3, k5, e, h7⟩
      | _ => cases h4
  · cases h
def cellB (K : Frag) (c C : Addr) : Bool := match K.lookup c with
  | some ⟨_, _, .cell (some (.ref D)), _⟩ => decide (D = C)
  | _ => false
theorem cellB_ok {K : Frag} {c C : Addr} (h : cellB K c C = true) : ∃ cl cld csl, K.lookup c = some ⟨cl, cld, .cell (some (.ref C)), csl⟩ := by
  unfold cellB at h
  split at h
  · rename_i cl cld D csl e
    have e2 := of_decide_eq_true h
    subst e2
    exact ⟨_, _, _, e⟩
  · cases h
def codeB (K : Frag) (file : Str) (v : Value) : Bool := match v with
  | .ref c => (match K.lookup c with
    | some ⟨_, _, .fields vs, _⟩ => (match (vs[2]? : Option Value) with
      | some (Value.str f _) => decide (f = file)
      | _ => false)
    | _ => false)
  | _ => false
theorem codeB_ok {K : Frag} {file : Str} {v : Value} (h : codeB K file v = true) : ∃ c cl cld vs csl tf, v = .ref c ∧ K.lookup c = some ⟨cl, cld, .fields vs, csl⟩ ∧ vs[2]? = some (.str file tf) := by
  unfold codeB at h
  split at h
  · rename_i c
    split at h
    · rename_i cl cld vs csl e
      split at h
      · rename_i f tf e2
        have e3 := of_decide_eq_true h
        subst e3
        exact ⟨c, _, _, vs, _, tf, rfl, e, e2⟩
      · cases h
    · cases h
  · cases h
/-- an own error: its name and its __init__ as the text has it -/
structure ErrD where
  x : Str
  st : Stmt
abbrev ErW : Type := Option (Str × Str × Arguments × FuncBody × Scope × Addr × List Str × Addr)
def ErrD.qual (d : ErrD) : Str := d.x ++ ".__init__"
def ErrD.at_ (d : ErrD) (K : Frag) : Addr := He.ma K (He.ga K d.x) "__init__"
def ErrD.see (d : ErrD) (K : Frag) : ErW := match K.lookup (d.at_ K) with
  | some ⟨_, _, .func fd, _⟩ => some (fd.name, fd.qualname, fd.params, fd.body, fd.scope, fd.globals, fd.closure.map (·.1), fd.builtins)
  | _ => none
def ErrD.val (d : ErrD) : ErW := some ("__init__", d.qual, defArgs d.st, .stmts (defBody d.st), defScope d.st, mainGlobals, ["__class__"], builtinsNs)
def ErrD.ok (d : ErrD) (file : Str) (K : Frag) : Bool := (match K.lookup (d.at_ K) with
    | some ⟨_, _, .func fd, _⟩ => codeIn K fd.code d.qual && (codeB K file fd.code && fd.closure.all fun q => cellB K q.2 (He.ga K d.x))
    | _ => false) && (excB K (He.ga K d.x) && (He.eqO (findIn K (.ref (He.ga K d.x)) "__setattr__") (some (some (.builtin "object.__setattr__"))) && (decide (subIn K (.ref (He.ga K d.x)) (.type "BaseException") = some true) && (decide (typeIn K (.ref (He.ga K d.x)) = some (.type "type")) &&
    (keepIn K (.ref (He.ga K d.x)) && (He.eqO (findIn K (.ref (He.ga K d.x)) "__init__") (some (some (.ref (d.at_ K)))) && (decide (typeIn K (.ref (d.at_ K)) = some (.type "function")) && (He.eqO (ks_superIn K (He.ga K d.x) (He.ga K d.x) "__init__") (some (some (.builtin "ValueError.__init__"))) &&
    (decide (subIn K (.ref (He.ga K d.x)) (.type "ValueError") = some true) && (decide (mroIn K (He.ga K d.x) (.ref (He.ga K d.x)) = some true) && (He.eqO (nsIn K mainGlobals d.x) (some (some (.ref (He.ga K d.x)))) &&
    (He.eqO (findIn K (.ref (He.ga K d.x)) "__getattribute__") (some (some (.builtin "BaseException.__getattribute__"))) && (He.eqO (findIn K (.ref (He.ga K d.x)) "__getattr__") (some none) && (hasDictIn K (He.ga K d.x) && (He.eqO (findIn K (.ref (He.ga K d.x)) "__class__") (some (some (.builtin "object.__class__"))) && decide (mroIn K (He.ga K d.x) (.type "object") = some true))))))))))))))))
/-- what an own error's class and __init__ are in K -/
structure ErrF (K : Frag) (C f : Addr) (file : Str) (d : ErrD) : Prop where
  fn : ∃ (oc : Value) (od : Option Addr) (osl : Array (Option Value)) (dV kV doc pm : Value) (an : Option Addr) (ct : Value) (cc cda : Addr) (cl : Value) (cld : Option Addr) (csl : Array (Option Value)) (ccl : Value) (cdd : Option Addr) (cvs : Array Value) (ccs : Array (Option Value)) (tf : Tok),
    K.lookup f = some ⟨oc, od, .func (fnX "__init__" d.qual (defArgs d.st) (defBody d.st) (defScope d.st) [("__class__", cc)] dV kV doc pm an (.ref cda) ct), osl⟩ ∧ codeIn K (.ref cda) d.qual = true ∧
    K.lookup cda = some ⟨ccl, cdd, .fields cvs, ccs⟩ ∧ cvs[2]? = some (.str file tf) ∧ K.lookup cc = some ⟨cl, cld, .cell (some (.ref C)), csl⟩
  oex : OexC K C
  init : findIn K (.ref C) "__init__" = some (some (.ref f))
  tI : typeIn K (.ref f) = some (.type "function")
  sup : ks_superIn K C C "__init__" = some (some (.builtin "ValueError.__init__"))
  sub : subIn K (.ref C) (.type "ValueError") = some true
  self : mroIn K C (.ref C) = some true
  ns : nsIn K mainGlobals d.x = some (some (.ref C))
  ga : findIn K (.ref C) "__getattribute__" = some (some (.builtin "BaseException.__getattribute__"))
  gt : findIn K (.ref C) "__getattr__" = some none
  hd : hasDictIn K C = true
  cl : findIn K (.ref C) "__class__" = some (some (.builtin "object.__class__"))
  top : mroIn K C (.type "object") = some true
theorem ErrD.okF {d : ErrD} {file : Str} {K : Frag} (e : d.see K = d.val) (h : d.ok file K = true) : ErrF K (He.ga K d.x) (d.at_ K) file d := by
  unfold ErrD.ok at h
  simp only [Bool.and_eq_true, decide_eq_true_eq] at h
  obtain ⟨h1, h2, h3, h4, h5, h6, h7, h8, h9, h10, h11, h12, h13, h14, h15, h16, h17⟩ := h
  refine ⟨?_, ⟨excB_ok h2, He.eqO_ok h3, h4, h5, h6⟩, He.eqO_ok h7, h8, He.eqO_ok h9, h10, h11, He.eqO_ok h12, He.eqO_ok h13, He.eqO_ok h14, h15, He.eqO_ok h16, h17⟩
  unfold ErrD.see at e
  split at h1
  · rename_i oc od fd osl lk
    rw [lk] at e
    simp only [Bool.and_eq_true] at h1
    obtain ⟨k1, k2, k3⟩ := h1
    obtain ⟨n1, n2, n3, n4, n5, n6, n7, n8, n9, n10, n11, n12, n13, n14, n15⟩ := fd
    obtain ⟨cda, ccl, cdd, cvs, ccs, tf, ec, lc, hv⟩ := codeB_ok k2
    have ec' : n13 = .ref cda := ec
    subst ec'
    have e2 : (some (n1, n2, n3, n4, n5, n6, n7.map (·.1), n15) : ErW) = d.val := e
    unfold ErrD.val at e2
    simp only [Option.some.injEq, Prod.mk.injEq] at e2
    obtain ⟨q1, q2, q3, q4, q5, q6, q7, q8⟩ := e2
    cases n7 with
    | nil => cases q7
    | cons q n7 =>
    cases n7 with
    | cons q2 n7 => exact absurd (congrArg List.length q7) (by simp)
    | nil =>
      obtain ⟨y, cc⟩ := q
      have ey : y = "__class__" := (List.cons.inj q7).1
      have kc : cellB K cc (He.ga K d.x) = true := by
        have z : (cellB K cc (He.ga K d.x) && true) = true := k3
        rw [Bool.and_true] at z
        exact z
      obtain ⟨cl, cld, csl, lcc⟩ := cellB_ok kc
      subst q1 q2 q3 q4 q5 q6 q8 ey
      exact ⟨oc, od, osl, n8, n9, n10, n11, n12, n14, cc, cda, cl, cld, csl, ccl, cdd, cvs, ccs, tf, lk, k1, lc, hv, lcc⟩
  · cases h1
/-! ### the hook -/
structure Ask where
  fa : List He.Fa
  fn : List He5.DefA
  er : List ErrD
  bs : List (Frag → Bool)
  file : Str
  sel : List Str
abbrev Al : Type := Bool × List He.FnW × List ErW
def Ask.see (q : Ask) (K : Frag) : Al := (((q.fa.all fun f => f.ok K) && q.fn.all fun d => d.ok K) && ((q.er.all fun d => d.ok q.file K) && q.bs.all fun b => b K), q.fn.map fun d => He5.fnA K (d.at_ K), q.er.map fun d => d.see K)
def Ask.val (q : Ask) : Al := (true, q.fn.map He5.DefA.val, q.er.map ErrD.val)
def Says (q : Ask) (K : Frag) : Prop := q.see K = q.val
/-- the objects that are looked at: the module's, of the chosen classes what they hold, of each def its code and cells -/
def gv (g : Addr → Option Obj) (a : Addr) : List Addr := match g a with
  | some o => He.refsO o
  | none => []
def picks (sel : List Str) : Option Obj → List Addr
  | some ⟨_, _, .cls cd, _⟩ => (match sel.contains cd.name with
    | true => [cd.ns]
    | false => [])
  | _ => []
def fieldsOf : Option Obj → List Addr
  | some ⟨_, _, .fields vs, _⟩ => vs.toList.flatMap He.refV
  | _ => []
def codeOf : Option Obj → List Addr
  | some ⟨_, _, .func fd, _⟩ => He.refV fd.code ++ fd.closure.map (·.2)
  | _ => []
def addrs (sel : List Str) (g : Addr → Option Obj) : List Addr :=
  let l1 := gv g mainGlobals
  let ns := l1.flatMap fun a => picks sel (g a)
  let ms := ns.flatMap (gv g)
  let fs := ms.flatMap fun a => fieldsOf (g a)
  [mainGlobals, cStatics] ++ (l1 ++ (ns ++ (ms ++ (fs ++ (l1 ++ (ms ++ fs)).flatMap fun a => codeOf (g a)))))
def Ask.off (q : Ask) (n : Nat) (g : Addr → Option Obj) : Al := q.see (He.frG g (addrs q.sel g))
def hook (n : Nat) (q : Ask) : Hook where
  α := Al
  obs := fun s => q.off n s.heap.get?
  val := fun _ => q.val
  says := fun _ h => ∃ K : Frag, K.In h ∧ Says q K
  of := fun _ _ e => ⟨_, He.frG_in, e⟩
  keeps := fun _ _ _ ⟨K, hK, c⟩ k => ⟨K, Frag.In.keeps hK k, c⟩
def ob (n : Nat) (q : Ask) (s : SharedT) : Al := q.off n (HandSHeadRun.getT s)
theorem ob_eq {n : Nat} {q : Ask} (s : SharedT) : ob n q s = (hook n q).obs s.abs := by
  have e : HandSHeadRun.getT s = s.abs.heap.get? := funext (HandSHeadRun.getT_eq s)
  show q.off n _ = q.off n _
  rw [e]
section
variable {q : Ask} {K : Frag}
theorem Says.all (c : Says q K) : ((q.fa.all fun f => f.ok K) = true ∧ (q.fn.all fun d => d.ok K) = true) ∧ (q.er.all fun d => d.ok q.file K) = true ∧ (q.bs.all fun b => b K) = true := by
  have c1 : (((q.fa.all fun f => f.ok K) && q.fn.all fun d => d.ok K) && ((q.er.all fun d => d.ok q.file K) && q.bs.all fun b => b K)) = true := congrArg (fun z : Al => z.1) c
  simp only [Bool.and_eq_true] at c1
  exact c1
theorem Says.fact (c : Says q K) (i : Nat) {f : He.Fa} (h : q.fa[i]? = some f := by rfl) : f.ok K = true := List.all_eq_true.mp c.all.1.1 f (List.mem_of_getElem? h)
theorem Says.more (c : Says q K) (i : Nat) {b : Frag → Bool} (h : q.bs[i]? = some b := by rfl) : b K = true := List.all_eq_true.mp c.all.2.2 b (List.mem_of_getElem? h)
theorem Says.def_ (c : Says q K) (i : Nat) {d : He5.DefA} (h : q.fn[i]? = some d := by rfl) : ∃ fd, FunD K d.name d.qual d.params d.body d.scope (d.dvs K) (d.kws K) (d.at_ K) fd := by
  have e : q.fn.map (fun d => He5.fnA K (d.at_ K)) = q.fn.map He5.DefA.val := congrArg (fun z : Al => z.2.1) c
  have e2 := congrArg (fun l => l[i]?) e
  simp only [List.getElem?_map, h, Option.map_some] at e2
  exact He5.DefA.funD (Option.some.inj e2) (List.all_eq_true.mp c.all.1.2 d (List.mem_of_getElem? h))
theorem Says.err (c : Says q K) (i : Nat) {d : ErrD} (h : q.er[i]? = some d := by rfl) : ErrF K (He.ga K d.x) (d.at_ K) q.file d := by
  have e : q.er.map (fun d => d.see K) = q.er.map ErrD.val := congrArg (fun z : Al => z.2.2) c
  have e2 := congrArg (fun l => l[i]?) e
  simp only [List.getElem?_map, h, Option.map_some] at e2
  exact ErrD.okF (Option.some.inj e2) (List.all_eq_true.mp c.all.2.1 d (List.mem_of_getElem? h))
end
/-! ### short facts -/
def glo (x : Str) (K : Frag) : Bool := (He.Fa.glo x).ok K
def isx (x y : Str) (b : Bool) (K : Frag) : Bool := decide (kitOne K (.ref (He.ga K x)) (.ref (He.ga K y)) = some b)
def ist (x : Str) (t : String) (b : Bool) (K : Frag) : Bool := decide (kitOne K (.ref (He.ga K x)) (.type t) = some b)
def opq (K : Frag) : Bool := He.eqO (nsIn K cStatics "thirdparty.any") (some none)
/-- a def of the module, a method -/
def gdef (x : Str) (st : Stmt) : He5.DefA := ⟨fun K => He.ga K x, x, x, defArgs st, defBody st, defScope st, [], []⟩
def mdef (C x : Str) (st : Stmt) : He5.DefA := ⟨fun K => He.ma K (He.ga K C) x, x, C ++ ("." ++ x), defArgs st, defBody st, defScope st, [], []⟩
end Hk
set_option Elab.async false
set_option linter.all false
set_option maxRecDepth 100000
set_option maxHeartbeats 0
namespace K05
open PySem PySem.W L2 Hk
def top (i : Nat) : Stmt := PySem.Challenge.pw_whichdepot_k05_glued_networks.main.body.getD i (.Pass ⟨0, 0, 0, 0⟩)
def inClass (st : Stmt) (i : Nat) : Stmt := match st with
  | .ClassDef _ _ _ body _ _ _ _ _ _ _ => body.getD i (.Pass ⟨0, 0, 0, 0⟩)
  | _ => .Pass ⟨0, 0, 0, 0⟩
abbrev law_take_st : Stmt := top 65
abbrev law_cell_of_st : Stmt := top 63
abbrev law_source_st : Stmt := top 64
abbrev law_draw_far_st : Stmt := top 66
abbrev law_draw_st : Stmt := top 67
abbrev merged_labels_st : Stmt := top 51
abbrev place_labels_st : Stmt := top 50
abbrev labelled_piece_st : Stmt := top 52
abbrev found_pieces_st : Stmt := top 57
abbrev law_linked_st : Stmt := top 76
abbrev check_size_st : Stmt := top 44
abbrev check_most_st : Stmt := top 45
abbrev check_customer_st : Stmt := top 47
abbrev check_depot_st : Stmt := top 46
abbrev checked_lot_st : Stmt := top 48
abbrev checked_pairs_st : Stmt := top 56
abbrev Network_init_st : Stmt := inClass (top 54) 2
abbrev Network_pieces_st : Stmt := inClass (top 54) 12
abbrev Network_reach_st : Stmt := inClass (top 54) 11
abbrev Network_depots_st : Stmt := inClass (top 54) 4
abbrev Network_customers_st : Stmt := inClass (top 54) 5
abbrev Network_routes_st : Stmt := inClass (top 54) 6
abbrev Network_loops_st : Stmt := inClass (top 54) 7
abbrev Network_joined_st : Stmt := inClass (top 54) 8
abbrev Network_turned_st : Stmt := inClass (top 54) 14
abbrev Network_contains_st : Stmt := inClass (top 54) 15
abbrev Network_len_st : Stmt := inClass (top 54) 16
abbrev Network_eq_st : Stmt := inClass (top 54) 18
abbrev Network_str_st : Stmt := inClass (top 54) 19
abbrev Network_iter_st : Stmt := inClass (top 54) 17
abbrev glued_numbers_st : Stmt := top 61
abbrev law_same_st : Stmt := top 69
abbrev law_written_st : Stmt := top 77
abbrev law_classes_st : Stmt := top 70
abbrev law_refusal_st : Stmt := top 71
abbrev glue_depots_st : Stmt := top 59
abbrev glue_customers_st : Stmt := top 60
abbrev law_draw_place_st : Stmt := top 68
abbrev law_flipped_st : Stmt := top 74
abbrev law_map_of_st : Stmt := top 75
abbrev law_first_due_st : Stmt := top 73
abbrev law_glue_st : Stmt := top 72
abbrev law_is_st : Stmt := top 78
abbrev law_right_st : Stmt := top 79
abbrev law_st : Stmt := top 80
def clsN : List Str := (["BadColumn", "BadCount", "BadDeed", "BadLength", "BadLine", "BadSize", "Below", "Closes", "DeedRefused", "NoCustomer", "NoCycle", "NoDemand", "NoDepot"] : List Str) ++ ((["NoLink", "NoNumber", "NoPlace", "NoRoute", "NoSupply", "NotAcross", "NotFlexible", "NotInTree", "NotInner", "NotJoined", "NotMore", "NotPriced", "NotSpanning"] : List Str) ++ (["NotSpanningSet", "NothingLeft", "OtherNetwork", "OtherTotals", "Overflow", "Repeated", "SameEnds", "Short", "Stranded", "TooMany", "Unbalanced", "Unfair", "Unread"] : List Str))
def noneB (a b : Value) : Bool := match a, b with
  | .none, .none => true
  | _, _ => false
def dflB (d : ErrD) (K : Frag) : Bool := match K.lookup (d.at_ K) with
  | some ⟨_, _, .func fd, _⟩ => noneB fd.defaults fd.kwdefaults
  | _ => false
def dN : ErrD := ⟨"NoDepot", inClass (top 7) 0⟩
def dC : ErrD := ⟨"NoCustomer", inClass (top 8) 0⟩
def dT : ErrD := ⟨"BadSize", inClass (top 3) 0⟩
def dR : ErrD := ⟨"TooMany", inClass (top 6) 0⟩
def mdefN (C x q : Str) (st : Stmt) : He5.DefA := ⟨fun K => He.ma K (He.ga K C) x, x, q, defArgs st, defBody st, defScope st, [], []⟩
/-- the getter of a property -/
def gaP (K : Frag) (C x : Str) : Addr := match recIn K (He.ma K (He.ga K C) x) "property" with
  | some (.ref g :: _) => g
  | _ => 0
def pdefN (C x q : Str) (st : Stmt) : He5.DefA := ⟨fun K => gaP K C x, x, q, defArgs st, defBody st, defScope st, [], []⟩
def propB (C x : Str) (K : Frag) : Bool := He.eqO (findIn K (.ref (He.ga K C)) x) (some (some (.ref (He.ma K (He.ga K C) x)))) && (He.eqO (specialIn K (.ref (He.ma K (He.ga K C) x)) "__get__") (some (some (.builtin "property.__get__"))) && (decide (takesIn K (.ref (He.ma K (He.ga K C) x)) = some true) && (match recIn K (He.ma K (He.ga K C) x) "property" with
  | some (.ref g :: _) => true
  | _ => false)))
def insB (C : Str) (K : Frag) : Bool := He.eqO (findIn K (.ref (He.ga K C)) "__class__") (some (some (.builtin "object.__class__"))) && (decide (mroIn K (He.ga K C) (.type "object") = some true) && decide (kitOne K (.ref (He.ga K C)) (.ref (He.ga K C)) = some true))
def conB (C x : Str) (i : Int) (K : Frag) : Bool := match findIn K (.ref (He.ga K C)) x with
  | some (some (.int j t)) => decide (j = i) && He.eqO (specialIn K (.int j t) "__get__") (some none)
  | _ => false
def getB (K : Frag) : Bool := He.eqO (specialIn K (.builtin "object.__class__") "__get__") (some (some (.builtin "getset_descriptor.__get__"))) && decide (takesIn K (.builtin "object.__class__") = some true)
abbrev R : OpenRow := OpenLaw.row PySem.Challenge.rw_whichdepot_k05_glued_networks
abbrev qv : Program := view R.prog [80]
def nmS (s : Stmt) : List Str := match s with
  | .FunctionDef n _ _ _ _ _ _ _ _ _ => [n]
  | .ClassDef n _ _ _ _ _ _ _ _ _ _ => [n]
  | .Assign [.Name x _] _ _ => [x]
  | _ => []
def names : List Str := (PySem.Challenge.pw_whichdepot_k05_glued_networks.main.body.flatMap nmS).eraseDups.filter (fun x => x != "law" && x != "__name__")
def askFa : List He.Fa := ([.free "len", .free "range", .free "min", .free "max", .free "int", .free "list", .free "tuple", .free "sorted", .free "set", .free "enumerate", .free "isinstance", .free "bool", .free "str", .free "ValueError", .free "super"] : List He.Fa) ++ (([.free "iter", .glo "check_size", .glo "check_most", .glo "check_depot", .glo "check_customer", .glo "place_labels", .glo "merged_labels", .glo "labelled_piece", .glo "_checked_pairs", .glo "_found_pieces", .glo "glue_depots", .glo "glue_customers", .glo "_glued_numbers", .glo "_law_cell_of", .glo "_law_source"] : List He.Fa) ++ (([.glo "_law_take", .glo "_law_draw_far", .glo "_law_draw", .glo "_law_draw_place", .glo "_law_same", .glo "_law_classes", .glo "_law_refusal", .glo "_law_glue", .glo "_law_first_due", .glo "_law_flipped", .glo "_law_map_of", .glo "_law_linked", .glo "_law_written", .glo "_law_is", .glo "_law_right"] : List He.Fa) ++ (([.glo "law", .glo "Network", .glo "DepotError", .cls "Network", .mkr "Network", .noat "Network" "_depots", .noat "Network" "_customers", .noat "Network" "_routes", .noat "Network" "_indices", .noat "Network" "_pieces", .meth "Network" "turned", .meth "Network" "__iter__", .meth "Network" "__str__", .exm "NoDepot" "DepotError" true, .exm "NoCustomer" "DepotError" true] : List He.Fa) ++ (([.exm "BadSize" "DepotError" true, .exm "TooMany" "DepotError" true, .noat "NoDepot" "depot", .noat "NoCustomer" "customer", .noat "BadSize" "size", .noat "TooMany" "most"] : List He.Fa)))))
def askFn : List He5.DefA := ([gdef "check_size" check_size_st, gdef "check_most" check_most_st, gdef "check_depot" check_depot_st, gdef "check_customer" check_customer_st, gdef "place_labels" place_labels_st, gdef "merged_labels" merged_labels_st, gdef "labelled_piece" labelled_piece_st, gdef "_checked_pairs" checked_pairs_st, gdef "_found_pieces" found_pieces_st, gdef "glue_depots" glue_depots_st, gdef "glue_customers" glue_customers_st, gdef "_glued_numbers" glued_numbers_st] : List He5.DefA) ++ (([gdef "_law_cell_of" law_cell_of_st, gdef "_law_source" law_source_st, gdef "_law_take" law_take_st, gdef "_law_draw_far" law_draw_far_st, gdef "_law_draw" law_draw_st, gdef "_law_draw_place" law_draw_place_st, gdef "_law_same" law_same_st, gdef "_law_classes" law_classes_st, gdef "_law_refusal" law_refusal_st, gdef "_law_glue" law_glue_st, gdef "_law_first_due" law_first_due_st, gdef "_law_flipped" law_flipped_st] : List He5.DefA) ++ (([gdef "_law_map_of" law_map_of_st, gdef "_law_linked" law_linked_st, gdef "_law_written" law_written_st, gdef "_law_is" law_is_st, gdef "_law_right" law_right_st, gdef "law" law_st, mdefN "Network" "__init__" "Network.__init__" Network_init_st, mdefN "Network" "turned" "Network.turned" Network_turned_st, mdefN "Network" "__iter__" "Network.__iter__" Network_iter_st, mdefN "Network" "__str__" "Network.__str__" Network_str_st, pdefN "Network" "depots" "Network.depots" Network_depots_st, pdefN "Network" "customers" "Network.customers" Network_customers_st] : List He5.DefA) ++ (([pdefN "Network" "routes" "Network.routes" Network_routes_st, pdefN "Network" "loops" "Network.loops" Network_loops_st, pdefN "Network" "joined" "Network.joined" Network_joined_st] : List He5.DefA))))
def ask : Ask where
  fa := askFa ++ clsN.map He.Fa.glo
  fn := askFn
  er := [dN, dC, dT, dR]
  bs := (([opq, conB "Network" "MOST_PLACES" 8, conB "Network" "MOST_ROUTES" 16, getB, ist "NoDepot" "ValueError" true, ist "NoCustomer" "ValueError" true, ist "BadSize" "ValueError" true, ist "TooMany" "ValueError" true, dflB dN, dflB dC, dflB dT, dflB dR] : List (Frag → Bool)) ++ (([insB "Network", propB "Network" "depots", propB "Network" "customers", propB "Network" "routes", propB "Network" "loops", propB "Network" "joined"] : List (Frag → Bool)))) ++ ((clsN.map fun y => isx "NoDepot" y (decide (y = "NoDepot"))) ++ ((clsN.map fun y => isx "NoCustomer" y (decide (y = "NoCustomer"))) ++ ((clsN.map fun y => isx "BadSize" y (decide (y = "BadSize"))) ++ ((clsN.map fun y => isx "TooMany" y (decide (y = "TooMany")))))))
  file := "/claim/cut.py"
  sel := ["DepotError", "NoDepot", "NoCustomer", "BadSize", "TooMany", "Network"]
theorem run (w : World) : HandSHeadRun.RunEq R qv (hook 6 ask) (ob 6 ask) 30000 names w := by
  intro os
  kernel_rfl
end K05
set_option Elab.async false
set_option linter.all false
set_option maxRecDepth 100000
set_option maxHeartbeats 4000000
namespace OwnM
open PySem PySem.Spec PyProof.Rows L2
section
variable {X : Cx} {CX : CXT} {k : Nat} {f C : Addr} {fd : FuncData} {ps : List Str} {sp : Sp} {E : XK} {pins : List (Addr × Obj)} {σ : L2.St} {H : Hp} {s : Shared}
/-- a def of the text runs below the running body -/
theorem run_at {A : Around} {Q : VK} {us : List Value} {vs : List V} (F : FnOk X.prog X.w X.K X.mg X.base CX k f fd ps sp) (sb : Sub X k A) (hb : Binds X.K fd ps []) (hx : Passes CX X E) (I : Inv X pins σ H s) (r : Vals vs us) (h : sp vs H Q E) :
    wpAny (model X.prog X.w) A (call (.ref f) us) (EP X pins σ Q) X.xe s := by
  have e0 : Env0 X.prog X.w X.K X.mg X.base A X.stack s H := by
    have e := I.env0
    exact ⟨by rw [sb.fr]; exact e.frames, e.mod, e.bs, e.bsz, e.funs, e.frf, e.hok, e.bare⟩
  have hl : us.length = ps.length := by rw [← r.length]; exact F.len _ _ _ _ h
  refine wpAny_call (codeAny_mono (F.run A X.stack s H ⟨us, []⟩ us vs Q E sb.room e0 (by
    have := hb s us I.kIn (by simpa using hl)
    simpa using this) r h) fun r s' hq => ?_)
  cases r with
  | error e => exact hx pins σ H s e s' I hq
  | ok fl =>
    cases fl with
    | ret u => exact I.after hq
    | next => exact False.elim hq
    | brk => exact False.elim hq
    | cont => exact False.elim hq
theorem Sub.deep1 {A : Around} {n : Nat} (s : Sub X (n + 1) A) : Sub X n A.in1 := s.in1
def rInO (C : Addr) (sp : Sp) (E : XK) (neg : Bool) : R2 := fun x y H Q => ∃ a dx fs, y = .ref a ∧ H a = some (.ins C dx fs) ∧ sp [.ref a, x] H (fun v H' => ∃ b, v = .bl b ∧ Q (.bl (if neg then !b else b)) H') E
theorem op_inO (F : FnOk X.prog X.w X.K X.mg X.base CX k f fd ps sp) (hr : Room k X.A) (hb : Binds X.K fd ps []) (hx : Passes CX X E) (hs : PySem.W.findIn X.K (.ref C) "__contains__" = some (some (.ref f))) (hf : PySem.W.isFn X.K (.ref f) = true) : OpR X (compareOp .In) (rInO C sp E false) := by
  intro pins s σ H x y v u Q I rx ry hq
  obtain ⟨a, dx, fs, rfl, ha, hsp⟩ := hq
  cases ry
  obtain ⟨mA, J, _⟩ := ins_get I.hok ha
  obtain ⟨od, J, _⟩ := J.look
  obtain ⟨m, hF⟩ := I.fr
  refine PySem.W.in_K hF I.ok.mod.kin J hs hf ?_
  refine wpAny_mono (run_at F ⟨hr, rfl⟩ hb hx I (show Vals [V.ref a, x] [Value.ref a, v] from .cons rfl (.cons rx .nil)) hsp) (fun r s' h => ?_) fun _ _ z => z
  obtain ⟨z, H', I', rz, b, rfl, hq⟩ := h
  cases rz
  exact wpAny_truthy_bool ⟨.bl b, H', I', rfl, hq⟩
theorem op_notInO (F : FnOk X.prog X.w X.K X.mg X.base CX k f fd ps sp) (hr : Room k X.A) (hb : Binds X.K fd ps []) (hx : Passes CX X E) (hs : PySem.W.findIn X.K (.ref C) "__contains__" = some (some (.ref f))) (hf : PySem.W.isFn X.K (.ref f) = true) : OpR X (compareOp .NotIn) (rInO C sp E true) := by
  intro pins s σ H x y v u Q I rx ry hq
  obtain ⟨a, dx, fs, rfl, ha, hsp⟩ := hq
  cases ry
  obtain ⟨mA, J, _⟩ := ins_get I.hok ha
  obtain ⟨od, J, _⟩ := J.look
  obtain ⟨m, hF⟩ := I.fr
  refine PySem.W.notIn_K hF I.ok.mod.kin J hs hf ?_
  refine wpAny_mono (run_at F ⟨hr, rfl⟩ hb hx I (show Vals [V.ref a, x] [Value.ref a, v] from .cons rfl (.cons rx .nil)) hsp) (fun r s' h => ?_) fun _ _ z => z
  obtain ⟨z, H', I', rz, b, rfl, hq⟩ := h
  cases rz
  exact wpAny_truthy_bool ⟨.bl (!b), H', I', rfl, hq⟩
def rEqO (C : Addr) (sp : Sp) (E : XK) : R2 := fun x y H Q => ∃ a b dx dy fs gs, x = .ref a ∧ y = .ref b ∧ H a = some (.ins C dx fs) ∧ H b = some (.ins C dy gs) ∧ sp [.ref a, .ref b] H (fun v H' => ∃ c, v = .bl c ∧ Q (.bl c) H') E
theorem op_eqO (F : FnOk X.prog X.w X.K X.mg X.base CX k f fd ps sp) (hr : Room k X.A) (hb : Binds X.K fd ps []) (hx : Passes CX X E) (hs : PySem.W.findIn X.K (.ref C) "__eq__" = some (some (.ref f))) (hf : PySem.W.isFn X.K (.ref f) = true) : OpR X (compareOp .Eq) (rEqO C sp E) := by
  intro pins s σ H x y v u Q I rx ry hq
  obtain ⟨a, b, dx, dy, fs, gs, rfl, rfl, ha, hb', hsp⟩ := hq
  cases rx
  cases ry
  obtain ⟨mA, J, _⟩ := ins_get I.hok ha
  obtain ⟨mB, J', _⟩ := ins_get I.hok hb'
  obtain ⟨od, J, _⟩ := J.look
  obtain ⟨od', J', _⟩ := J'.look
  obtain ⟨m, hF⟩ := I.fr
  show wpAny (model X.prog X.w) X.A (richCompare .Eq (.ref a) (.ref b)) (EP X pins σ Q) X.xe s
  refine PySem.W.cmp_K (op := .Eq) (tb := .ref C) hr.units0 hF I.ok.mod.kin J J'.type (by simp [PySem.W.notFirst]) hs hf ?_
  refine wpAny_mono (run_at F ⟨hr, rfl⟩ hb hx I (show Vals [V.ref a, V.ref b] [Value.ref a, Value.ref b] from .cons rfl (.cons rfl .nil)) hsp) (fun r s' h => ?_) fun _ _ z => z
  obtain ⟨z, H', I', rz, c, rfl, hq⟩ := h
  cases rz
  exact ⟨.bl c, H', I', rfl, hq⟩
theorem call_lenO (F : FnOk X.prog X.w X.K X.mg X.base CX k f fd ps sp) (hr : Room (k + 1) X.A) (hb : Binds X.K fd ps []) (hx : Passes CX X E) (hs : PySem.W.findIn X.K (.ref C) "__len__" = some (some (.ref f))) (hf : PySem.W.isFn X.K (.ref f) = true) :
    CallR X (.builtin "len") (fun xs H Q => ∃ a dx fs, xs = [.ref a] ∧ H a = some (.ins C dx fs) ∧ sp [.ref a] H (fun v H' => ∃ n : Nat, n ≤ 1000 ∧ v = .int (n : Int) ∧ Q (.int (n : Int)) H') E) := by
  intro pins s σ H xs us Q I r h
  obtain ⟨a, dx, fs, rfl, ha, hsp⟩ := h
  obtain ⟨u, rfl, ru⟩ := vals1 r
  cases ru
  obtain ⟨mA, J, _⟩ := ins_get I.hok ha
  obtain ⟨od, J, _⟩ := J.look
  obtain ⟨m, hF⟩ := I.fr
  refine PySem.W.len_K hF I.ok.mod.kin J hs hf ?_
  refine wpAny_mono (run_at F (Sub.deep1 ⟨hr, rfl⟩) hb hx I (show Vals [V.ref a] [Value.ref a] from .cons rfl .nil) hsp) (fun r s' h => ?_) fun _ _ z => z
  obtain ⟨z, H', I', rz, n, hn, rfl, hq⟩ := h
  obtain ⟨t, rfl⟩ := rz
  exact ⟨⟨by omega, by omega⟩, .int n, H', I'.tok _, ⟨_, rfl⟩, hq⟩
theorem call_strO (F : FnOk X.prog X.w X.K X.mg X.base CX k f fd ps sp) (hr : Room (k + 2) X.A) (hb : Binds X.K fd ps []) (hx : Passes CX X E) (hs : PySem.W.findIn X.K (.ref C) "__str__" = some (some (.ref f))) (hf : PySem.W.isFn X.K (.ref f) = true) :
    CallR X (.type "str") (fun xs H Q => ∃ a dx fs, xs = [.ref a] ∧ H a = some (.ins C dx fs) ∧ sp [.ref a] H (fun v H' => ∃ y : Str, v = .str y ∧ Q (.str y) H') E) := by
  intro pins s σ H xs us Q I r h
  obtain ⟨a, dx, fs, rfl, ha, hsp⟩ := h
  obtain ⟨u, rfl, ru⟩ := vals1 r
  cases ru
  obtain ⟨mA, J, _⟩ := ins_get I.hok ha
  obtain ⟨od, J, _⟩ := J.look
  have sb : Sub X k X.A.in1.in1 := Sub.deep1 (Sub.deep1 ⟨hr, rfl⟩)
  refine PySem.W.kso_call sb.room.units0 I.kIn J hs hf ?_
  refine wpAny_mono (run_at F sb hb hx I (show Vals [V.ref a] [Value.ref a] from .cons rfl .nil) hsp) (fun r s' h => ?_) fun _ _ z => z
  obtain ⟨z, H', I', rz, y, rfl, hq⟩ := h
  obtain ⟨t, rfl⟩ := rz
  exact ⟨.str y, H', I', ⟨_, rfl⟩, hq⟩
end
end OwnM
set_option Elab.async false
set_option linter.all false
set_option maxRecDepth 100000
set_option maxHeartbeats 4000000
namespace OwnM
open PySem PySem.Spec PyProof.Rows L2 ItX
/-- a base that reaches further, with nothing in it -/
def padO : Obj := { cls := .none, data := .freed }
def pad (b : Heap) (n : Nat) : Heap := ⟨b.objs ++ Array.replicate (n - b.objs.size) padO, b.life⟩
theorem pad_get (b : Heap) (n : Nat) (a : Addr) : (pad b n).get? a = b.get? a := by
  unfold Heap.get? pad
  by_cases h : a < b.objs.size
  · rw [Array.getElem?_append_left h]
  · have h' : b.objs.size ≤ a := Nat.le_of_not_lt h
    rw [Array.getElem?_append_right h']
    have e : b.objs[a]? = none := Array.getElem?_eq_none h'
    rw [e]
    cases q : (Array.replicate (n - b.objs.size) padO)[a - b.objs.size]? with
    | none => rfl
    | some o =>
      have : o = padO := by
        rw [Array.getElem?_replicate] at q
        split at q
        · exact (Option.some.inj q).symm
        · cases q
      rw [this]
      rfl
theorem pad_size (b : Heap) (n : Nat) : n ≤ (pad b n).objs.size ∧ ((pad b n).objs.size ≤ n ∨ (pad b n).objs.size = b.objs.size) := by
  unfold pad
  rw [Array.size_append, Array.size_replicate]
  omega
theorem pad_frames {h b : Heap} {n : Nat} : ∀ {l : List Env}, h.FunFrames b l → h.FunFrames (pad b n) l
  | [], _ => trivial
  | env :: rest, x => by
    obtain ⟨hk, ⟨L, o, hf, hn, ho, hd⟩, hr⟩ := x
    exact ⟨hk, ⟨L, o, hf, by rw [pad_get]; exact hn, ho, hd⟩, pad_frames hr⟩
theorem pad_env {P : Program} {w : World} {K : PySem.W.Frag} {mg : Str → Option Value} {base : Heap} {A : Around} {outer : List Env} {s : Shared} {H : Hp} {n : Nat} (e : Env0 P w K mg base A outer s H) (hn : n ≤ s.heap.objs.size) : Env0 P w K mg (pad base n) A outer s H := by
  have k : ∀ b o, base.get? b = some o → (pad base n).get? b = some o := fun b o z => by rw [pad_get]; exact z
  refine ⟨e.frames, ⟨e.mod.kin.keeps k, e.mod.glob.keeps k, ?_, e.mod.nolimit.keeps k⟩, fun b o z => e.bs b o (by rw [pad_get] at z; exact z), ?_, pad_frames e.funs, e.frf, e.hok, e.bare⟩
  · obtain ⟨mb, a, b⟩ := e.mod.blt
    exact ⟨mb, a.keeps k, b⟩
  · rcases (pad_size base n).2 with z | z
    · exact Nat.le_trans z hn
    · rw [z]
      exact e.bsz
/-- iter(l), l a list: the iterator stands behind the base -/
theorem call_iterB {X : Cx} : CallR X (.builtin "iter") (rIterN X.K X.base.objs.size) := by
  intro pins s σ H xs us Q I r h
  obtain ⟨l, zs, rfl, hq, q⟩ := h
  obtain ⟨u, rfl, ru⟩ := vals1 r
  cases ru
  obtain ⟨its, rv, pl, hz⟩ := I.list hq
  refine GNX.call_iter pl.isList ?_
  exact ⟨.ref s.heap.objs.size, _, I.laid (t' := s.toks) (fun b u e => Heap.get?_push_of_some _ e) (Nat.le_refl _) (itO_ok (Heap.get?_push_size _ rfl)), rfl, q _ (I.hok.fresh (Nat.le_refl _)) I.env0.bsz⟩
/-- for x in e, e an own object whose __iter__ makes an iterator of a list -/
def iOwnL (C : Addr) (sp : Nat → Sp) (K : PySem.W.Frag) (te : TE) : TI := fun σ H R => te σ H fun x H1 => ∃ a dx fs, x = .ref a ∧ H1 a = some (.ins C dx fs) ∧ ∀ n, sp n [.ref a] H1 (fun v H2 => ∃ it l, v = .ref it ∧ H1 it = none ∧ n ≤ it ∧ H2 = upd H1 it (ItO l it 0) ∧ R (Itl K l) H1) E0
section
variable {X : Cx} {CX : CXT} {k : Nat} {f C : Addr} {fd : FuncData} {ps : List Str} {sp : Nat → Sp} {tg e : Expr} {te : TE}
theorem pi_ownL (he : PE X e te) (F : ∀ base : Heap, FnOk X.prog X.w X.K X.mg base CX k f fd ps (sp base.objs.size)) (hr : Room k X.A) (hb : Binds X.K fd ps []) (hx : Passes CX X E0) (hs : PySem.W.findIn X.K (.ref C) "__iter__" = some (some (.ref f))) (hf : PySem.W.isFn X.K (.ref f) = true) : PI X tg e (iOwnL C sp X.K te) := by
  refine ⟨fun pins s σ H R I h => ?_⟩
  refine thn (he.run pins s σ H _ I h) fun v s1 ⟨x, H1, I1, r1, a, dx, fs, ex, ea, q0⟩ => ?_
  subst ex
  cases r1
  obtain ⟨mA, J, _⟩ := ins_get I1.hok ea
  obtain ⟨od, J, _⟩ := J.look
  obtain ⟨m, hF⟩ := I1.fr
  refine PySem.W.owit_iter hF I1.ok.mod.kin J hs hf ?_
  have F1 := F (pad X.base X.s_0.heap.objs.size)
  have q := q0 (pad X.base X.s_0.heap.objs.size).objs.size
  have hl := F1.len _ _ _ _ q
  have r2 : Vals [V.ref a] [Value.ref a] := .cons rfl .nil
  refine wpAny_call (codeAny_mono (F1.run X.A X.stack s1 H1 ⟨[.ref a], []⟩ [.ref a] [.ref a] _ E0 hr (pad_env I1.env0 I1.sz) (by
    have := hb s1 [.ref a] I1.kIn (by simpa using hl)
    simpa using this) r2 q) fun r s' hq => ?_)
  cases r with
  | error e => exact hx pins σ H1 s1 e s' I1 hq
  | ok fl =>
    cases fl with
    | next => exact False.elim hq
    | brk => exact False.elim hq
    | cont => exact False.elim hq
    | ret u =>
      obtain ⟨v, H2, os, bare, un, hok, rv, it, l, ev, nit, le, eH, hR⟩ := hq
      subst ev
      subst eH
      have young : X.s_0.heap.objs.size ≤ it := Nat.le_trans (pad_size _ _).1 le
      obtain ⟨v', H3, I3, r3, e1, e2⟩ := I1.after (Q := fun v' H'' => v' = .ref it ∧ H'' = upd H1 it (ItO l it 0)) ⟨_, _, os, bare, un, hok, rv, rfl, rfl⟩
      subst e1
      subst e2
      cases r3
      have hi : (upd H1 it (ItO l it 0)) it = some (ItO l it 0) := upd_same
      have eo := itO_get I3 hi
      have st : s'.heap.IsListIter it l 0 := ⟨_, eo, rfl, rfl⟩
      have hT : s'.TypeIs (.ref it) "list_iterator" := ⟨_, eo, rfl⟩
      show PySem.W.OwitIt _ _ _ _ _ _
      unfold PySem.W.OwitIt
      refine wpAny_specialOf (name := Str.ofString "__next__") hT slot_listiter_next.lookup ?_
      have hi' := hi
      unfold ItO at hi'
      refine ⟨it, [it], _, Itl X.K l, dropH (upd H1 it (ItO l it 0)) it, rfl, inv_drop I3 hi', turn_list l it, st, fun b hb => ?_, ?_⟩
      · have e : b = it := by simpa using hb
        rw [e]
        exact inv_fp I3 hi young
      · rw [dropH_upd nit]
        exact hR
end
end OwnM
set_option Elab.async false
set_option linter.all false
set_option maxRecDepth 100000
set_option maxHeartbeats 4000000
namespace KwE
open PySem PySem.Spec PyProof.Rows L2
/-- how f(e, .., k = v, ..) binds where the keyword-only parameters have no defaults -/
theorem kbindsR {K : PySem.W.Frag} {x qual : Str} {params : Arguments} {body : List Stmt} {scope : Scope} {kws : List (Str × V)} {f : Addr} {fd : FuncData} {ps : List Str} (F : FunD K x qual params body scope [] kws f fd) (n : Nat) (ks : List Str)
    (h : ∀ (kV doc pm : Value) (an : Option Addr) (cdv ct : Value) (us ws : List Value), us.length = n → ws.length = ks.length → bindArgs (PySem.W.fnOf x qual params body scope .none kV doc pm an cdv ct) ⟨us, ks.zip ws⟩ = pure (ps.zip (us ++ ws))) :
    KBn K fd ps n ks (fun us ws => us ++ ws) (fun vs zs => vs ++ zs) := by
  obtain ⟨oc, od, dV, kV, doc, pm, an, cdv, ct, osl, rfl, lk, hcd, hD, hK⟩ := F.ex
  rcases hD with ⟨_, rfl⟩ | ⟨e, _⟩
  · exact ⟨fun s us ws _ l1 l2 => .of_eq (h kV doc pm an cdv ct us ws l1 l2), fun r1 r2 => r1.append r2⟩
  · exact absurd rfl e
def tKwE (n m : Nat) (sp : Sp) (gV : List V → List V → List V) (E : L2.St → XK) (t tk : TA) : TE := fun σ H Q =>
  t σ H fun vs H1 =>
    tk σ H1 fun zs H2 => vs.length = n ∧ zs.length = m ∧ sp (gV vs zs) H2 Q (E σ)
section
variable {X : Cx} {CX : CXT} {k n : Nat} {f : Addr} {fd : FuncData} {ps ks : List Str}
  {sp : Sp} {E : L2.St → XK} {x : Str} {p pos : Pos} {e : Expr} {es : List Expr}
  {kws : List Keyword} {t tk : TA} {g : List Value → List Value → List Value} {gV : List V → List V → List V}
/-- f(e, .., k = v, ..): what is raised is wished for at the caller's slots -/
theorem pe_kwE (F : FnOk X.prog X.w X.K X.mg X.base CX k f fd ps sp) (hr : Room k X.A) (hg : Gl X x)
    (hm : X.mg x = some (.ref f)) (hk : PySem.W.keepIn X.K (.ref f) = true) (hb : KBn X.K fd ps n ks g gV)
    (hx : ∀ σ, PassesAt CX X σ (E σ)) (ha : PA X (e :: es) t) (hkw : PK X kws tk)
    (hall : (backToKw pos (keywordEach kws X.env)).all (·.1.isSome) = true := by rfl)
    (hks : (backToKw pos (keywordEach kws X.env)).filterMap (·.1) = ks := by rfl)
    (hdb : (x == ("__debug__" : Str)) = false := by decide)
    (he : starEach (e :: es) X.env = (false, eval e X.env) :: starEach es X.env := by rfl)
    (hpl : ((backTo pos (starEach (e :: es) X.env)).any (·.1) || (backToKw pos (keywordEach kws X.env)).any (·.1.isNone)) = false := by rfl) :
    PE X (.Call (.Name x p) (e :: es) kws pos) (tKwE n ks.length sp gV E t tk) := by
  constructor
  intro pins s σ H Q I h
  apply wpAny_Call_Name_kw
  refine ld_glob I hg hm ?_ hdb
  refine PySem.W.callWith_KW (h₀ := X.base) I.ok.mod.kin hk hall ?_ hpl he
  refine thn (ha.run pos pins s σ H _ I h) fun us s1 ⟨vs, H1, I1, r, q⟩ => ?_
  refine thn (hkw.run pos pins s1 σ H1 _ I1 q) fun ws s2 got => ?_
  obtain ⟨zs, H2, I2, rz, l1, l2, q2⟩ := got
  refine ⟨I2.kIn, ?_⟩
  rw [hks]
  have bd := hb.to s2 us ws I2.kIn (by rw [← r.length]; exact l1) (by rw [← rz.length]; exact l2)
  have all := F.run X.A X.stack s2 H2 ⟨us, ks.zip ws⟩ (g us ws) (gV vs zs) Q (E σ) hr I2.env0 bd (hb.rel r rz) q2
  refine wpAny_call (codeAny_mono all fun o s' ho => ?_)
  rcases o with e | fl
  · exact hx σ pins H2 s2 e s' I2 ho
  · rcases fl with _ | _ | _ | u
    · exact False.elim ho
    · exact False.elim ho
    · exact False.elim ho
    · exact I2.after ho
end
end KwE
set_option Elab.async false
set_option linter.all false
set_option maxRecDepth 100000
set_option maxHeartbeats 4000000
/-! Comprehensions of one clause that fill a dict keyed by tuples or a set of ints: one core, by what a turn asks. -/
namespace CmX
open PySem PySem.Spec PyProof.Rows L2
abbrev Err (X : Cx) (env : Env) (R : Result → Shared → Prop) : Value → Shared → Prop := notedBy (model X.prog X.w) X.A env fun e s' => R (.error e) s'
abbrev Tests (ifs : List Expr) (env : Env) : Sem Bool := forIn ifs true fun c r => if r = true then do let ok ← isTrue c env (eval c env); pure (ForInStep.yield ok) else pure (ForInStep.yield r)
/-- what a turn of the block's loop asks; B: where the tests have let the item through -/
abbrev Turn1 (X : Cx) (tg : Expr) (ifs : List Expr) (env : Env) (it : Value) (R : Result → Shared → Prop) (B N : Shared → Prop) (s : Shared) : Prop :=
  wpAny (model X.prog X.w) X.A (pyNext it) (fun r s1 => match r with
    | none => R (.ok .next) s1
    | some v => wpAny (model X.prog X.w) X.A (letOwnedTupleGo tg it v) (fun _ s2 => wpAny (model X.prog X.w) X.A (assign tg env v) (fun _ s3 =>
        wpAny (model X.prog X.w) X.A (Tests ifs env) (fun ok s4 => if ok = true then B s4 else N s4) (Err X env R) s3) (Err X env R) s2) (Err X env R) s1) (Err X env R) s
/-- a kind of comprehension: the object that it fills, what a turn asks of it -/
structure Kind (X : Cx) (e tg iter : Expr) (ifs : List Expr) (mk : Sem Value) (ob : Obj) (body : Env → Addr → (Shared → Prop) → (Value → Shared → Prop) → Shared → Prop) : Prop where
  one : ∃ gs, clausesOf e = ⟨tg, iter, ifs, 0⟩ :: gs
  acc : ∀ {E : Value → Shared → Prop} {s : Shared} {Q : Value → Shared → Prop}, Q (.ref s.heap.objs.size) { s with heap := s.heap.push ob } → wpAny (model X.prog X.w) X.A mk Q E s
  loop : ∀ {env : Env} {it : Value} {D : Addr} {R : Result → Shared → Prop} (I : Nat → Shared → Prop),
    (∀ n s, I n s → Turn1 X tg ifs env it R (body env D (fun s' => ∃ m, m < n ∧ I m s') (Err X env R)) (fun s' => ∃ m, m < n ∧ I m s') s) → ∀ n s, I n s → codeAny (model X.prog X.w) X.A (.compLoop e 0 it (.ref D) env) R s
  start : ∀ {env : Env} {it : Value} {D : Addr} {R : Result → Shared → Prop} {s : Shared}, codeAny (model X.prog X.w) X.A (.compLoop e 0 it (.ref D) env) R s →
    wpAny (model X.prog X.w) X.A (pyIter it) (fun it' s' => codeAny (model X.prog X.w) X.A (.compLoop e 0 it' (.ref D) env) R s') (Err X env R) s → codeAny (model X.prog X.w) X.A (.compStart e 0 it (.ref D) env) R s
section
variable {X : Cx}
/-- one turn over the layer: y the slots of the block between two turns -/
theorem turn_ok {Y : Cx} {tg : Expr} {ifs : List Expr} {J : It} {fp : List Addr} {it : Addr} {tn : Nat → Heap → Prop} {i : Nat} {y : L2.St} {vs : List Nat} {H : Hp} {s : Shared} {R : Result → Shared → Prop} {B N : Shared → Prop} {g : TG} {tt : TT}
    (hx : ∀ e s', ¬ Y.xe e s') (T : Turn Y.prog Y.w Y.K tg J fp it tn) (hc : Y.calm = true) (I : Inv Y [] y H s) (st : tn i s.heap) (far : ∀ {σ : L2.St} {H' : Hp} {s' : Shared}, Inv Y [] σ H' s' → (∀ b ∈ fp, H' b = none) → ∀ b ∈ fp, FpOk Y [] H' b) (fr : ∀ b ∈ fp, H b = none) (pg : PG Y tg g) (pt : PTs Y ifs tt)
    (h : (J.stop i H ∧ ∀ s1, Inv Y [] y H s1 → R (.ok .next) s1) ∨ (J.go i H ∧ ∃ G : L2.St → Bool → Hp → Prop, (∀ x H1, J.yld i H x H1 → g x y H1 fun σ H2 => wipe σ vs = y ∧ tt σ H2 (G σ)) ∧
      ∀ σ b H3, G σ b H3 → ∀ (pp : List (Addr × Obj)) (s3 : Shared), Inv Y pp σ H3 s3 → (∀ H' s', Inv Y pp σ H' s' → Inv Y [] y H' s' ∧ tn (i + 1) s'.heap ∧ ∀ b ∈ fp, H' b = none) → if b = true then B s3 else N s3)) :
    Turn1 Y tg ifs Y.env (.ref it) R B N s := by
  rcases h with ⟨stop, hq⟩ | ⟨go, G, hq, hG⟩
  · refine thnF (T.done Y rfl rfl rfl hc i [] s y H (fun _ _ => False) I (far I fr) st stop) fun r s1 hh => ?_
    obtain ⟨er, J1⟩ := hh
    rw [er]
    exact hq s1 J1
  · refine thnF (T.item Y rfl rfl rfl hc i [] s y H (fun _ _ => False) I (far I fr) st go) fun r s1 hh => ?_
    obtain ⟨u, er, h1⟩ := hh
    rw [er]
    refine wpAny_mono h1 (fun _ s2 h2 => ?_) fun _ _ z => z.elim
    obtain ⟨x, H1, J1, rx, yl, st1, fr1⟩ := h2
    have J2 := J1.pinned (far J1 fr1) (T.obj _ _ st1)
    refine wpAny_mono (pg.run _ s2 y H1 x u _ J2 rx (hq x H1 yl)) (fun _ s3 h3 => ?_) fun e s' z => (hx e s' z).elim
    obtain ⟨σ, H2, J3, ew, ht⟩ := h3
    refine wpAny_mono (pt.run _ s3 σ H2 _ J3 ht) (fun b s4 h4 => ?_) fun e s' z => (hx e s' z).elim
    obtain ⟨H3, J4, hb⟩ := h4
    refine hG σ b H3 hb _ s4 J4 fun H' s' J' => ?_
    have kept : ∀ b ∈ fp, ∀ o, s2.heap.get? b = some o → s'.heap.get? b = some o ∧ H' b = none := fun b hb o eo =>
      have z := J'.pin (b, o) (List.mem_append_right _ (List.mem_append_right _ (mem_pinsAt hb eo)))
      ⟨z.1, z.2.1⟩
    refine ⟨(J'.unpinned (pins := [])).weak (by rw [← ew, wipe_length]) fun j v ev => ?_, T.keep _ _ _ st1 fun b hb o eo => (kept b hb o eo).1, fun b hb => ?_⟩
    · rw [← ew] at ev
      exact (wipe_some ev).1
    · obtain ⟨o, eo, _⟩ := T.obj _ _ st1 b hb
      exact (kept b hb o eo).2
/-- the reading: ob at D the new object; St: the store's wish, given the element's place in the block -/
def tCo (o0 : Addr → HO) (wi : TI) (g : TG) (tt : TT) (te : L2.St → Hp → Addr → (Hp → Prop) → Prop) (vs : List Nat) : TE := fun σ H Q => wi σ H fun J H1 => ∀ D, H1 D = none →
  ∃ W : Nat → Nat → Hp → Prop, (∃ m, W 0 m (upd H1 D (o0 D))) ∧ ∀ i m H, W i m H → (J.stop i H ∧ Q (.ref D) H) ∨ (J.go i H ∧ ∃ N : Hp → Prop, (∀ H', N H' → ∃ m', m' < m ∧ W (i + 1) m' H') ∧
    ∀ x H', J.yld i H x H' → g x (wipe σ vs) H' fun σ2 H2 => wipe σ2 vs = wipe σ vs ∧ tt σ2 H2 fun b H3 => if b = true then te σ2 H3 D N else N H3)
theorem comp_core {e tg iter : Expr} {ifs : List Expr} {mk : Sem Value} {ob : Obj} {body : Env → Addr → (Shared → Prop) → (Value → Shared → Prop) → Shared → Prop} {o0 : Addr → HO} {scope : Scope} {own : List (Str × Nat)} {pos : Pos} {wi : TI} {g : TG} {tt : TT}
    {te : L2.St → Hp → Addr → (Hp → Prop) → Prop} {pins : List (Addr × Obj)} {s : Shared} {σ : L2.St} {H : Hp} {Q : VK}
    (k : Kind X e tg iter ifs mk ob body) (hc : X.calm = true) (hN : X.N.Nodup) (I : Inv X pins σ H s) (hi : PI X tg iter wi) (ok : BlkOk X.N X.env.scope scope own)
    (hnew : ∀ (h : Heap) (H1 : Hp), sysModules < h.objs.size → ObjOk X.prog X.w (upd H1 h.objs.size (o0 h.objs.size)) (h.push ob) h.objs.size (o0 h.objs.size))
    (hg : ∀ (s : Shared) (H : Hp) (C : Addr) (cl : List (Str × Addr)) (fp : List Addr), PG (X.blk s H scope (compEnvC scope cl C X.env) fp) tg g) (ht : ∀ (s : Shared) (H : Hp) (C : Addr) (cl : List (Str × Addr)) (fp : List Addr), PTs (X.blk s H scope (compEnvC scope cl C X.env) fp) ifs tt)
    (he : ∀ (s : Shared) (H : Hp) (C : Addr) (cl : List (Str × Addr)) (fp : List Addr) (pp : List (Addr × Obj)) (σ2 : L2.St) (H3 : Hp) (s3 : Shared) (D : Addr) (N : Hp → Prop) (nx : Shared → Prop) (er : Value → Shared → Prop),
      Inv (X.blk s H scope (compEnvC scope cl C X.env) fp) pp σ2 H3 s3 → te σ2 H3 D N → (∀ H' s', Inv (X.blk s H scope (compEnvC scope cl C X.env) fp) pp σ2 H' s' → N H' → nx s') → body (compEnvC scope cl C X.env) D nx er s3)
    (hs : ∀ x, foldedSetIterable iter X.env x = pure x) (h : tCo o0 wi g tt te (own.map (·.2)) σ H Q) :
    wpAny (model X.prog X.w) X.A (comprehension e scope X.env pos mk false (eval iter X.env) none) (EP X pins σ Q) X.xe s := by
  have hfree : ∀ y ∈ scope.names, y.2 = .free → ∃ c, X.env.cells.lookup y.1 = some c := fun y hy ey => (ok.free y hy ey).elim (fun z => I.ok.has _ (.inl z)) fun z => I.ok.has _ (.inr z)
  obtain ⟨gs, hone⟩ := k.one
  refine wpAny_comprehension_free (use := none) hone hs (closure_ok hfree) ok.kind (fun y hy ey => by rw [ok.uniq y hy, ey]) (thn (hi.run pins s σ H _ I h) fun xv s1 hx => thn hx fun itv s2 h2 => ?_)
  obtain ⟨it, fp, tn, J, H2, rfl, I2, T, st2, f2, q⟩ := h2
  refine k.acc (newEnv_comp ?_)
  obtain ⟨W, ⟨m0, w0⟩, turn⟩ := q s2.heap.objs.size (I2.hok.fresh (Nat.le_refl _))
  have I3 := I2.laid (t' := s2.toks) (a := s2.heap.objs.size) (o := o0 s2.heap.objs.size) (h' := s2.heap.push ob) (fun b o eo => Heap.get?_push_of_some _ eo) (Nat.le_refl _) (hnew _ _ I2.big)
  have low : ∀ b ∈ fp, b < s2.heap.objs.size := fun b hb => by
    obtain ⟨o, eo, _⟩ := T.obj _ _ st2 b hb
    exact Heap.lt_size eo
  have f3 : ∀ b ∈ fp, FpOk X pins (upd H2 s2.heap.objs.size (o0 s2.heap.objs.size)) b ∧ b < (s2.heap.push ob).objs.size := fun b hb =>
    ⟨⟨by rw [upd_ne (Nat.ne_of_lt (low b hb))]; exact (f2 b hb).1, (f2 b hb).2⟩, by rw [Heap.size_push]; exact Nat.lt_succ_of_lt (low b hb)⟩
  have st3 : tn 0 (s2.heap.push ob) := T.keep _ _ _ st2 fun b _ o eo => Heap.get?_push_of_some _ eo
  have I4 := block_start I3 ok hN f3
  have st4 : tn 0 (pushCells ((s2.heap.push ob).push { cls := .type "dict", data := .dict #[] }) scope.names) := T.keep _ _ _ st3 fun b _ o eo => pushCells_keeps _ _ _ _ (Heap.get?_push_of_some _ eo)
  show codeAny _ _ (.compStart e 0 (.ref it) (.ref s2.heap.objs.size) (compEnvC scope (cellsFrom ((s2.heap.push ob).objs.size + 1) scope.names (cloFrom X.env.cells scope.names [])) (s2.heap.push ob).objs.size X.env)) (compPost (model X.prog X.w) X.A X.xe none (EP X pins σ Q) (.ref s2.heap.objs.size) (s2.heap.push ob).objs.size)
    { s2 with heap := pushCells ((s2.heap.push ob).push { cls := .type "dict", data := .dict #[] }) scope.names }
  generalize cellsFrom ((s2.heap.push ob).objs.size + 1) scope.names (cloFrom X.env.cells scope.names []) = cs at I4 ⊢
  generalize eH : upd H2 s2.heap.objs.size (o0 s2.heap.objs.size) = H3 at I3 I4 f3 w0
  have nfp : ∀ b ∈ fp, H3 b = none := fun b hb => (f3 b hb).1.1
  have far : ∀ {σ' : L2.St} {H' : Hp} {s' : Shared}, Inv (X.blk { s2 with heap := s2.heap.push ob } H3 scope (compEnvC scope cs (s2.heap.push ob).objs.size X.env) fp) [] σ' H' s' → (∀ b ∈ fp, H' b = none) →
      ∀ b ∈ fp, FpOk (X.blk { s2 with heap := s2.heap.push ob } H3 scope (compEnvC scope cs (s2.heap.push ob).objs.size X.env) fp) [] H' b := fun I' hn b hb =>
    ⟨hn b hb, (I'.ok.exf b hb).1, I'.ok.exfs b hb, .inl hb, fun x c ec => (I'.ok.exf b hb).2 x c ec, fun p hp => absurd hp (by simp)⟩
  have loop := k.loop (env := compEnvC scope cs (s2.heap.push ob).objs.size X.env) (it := .ref it) (D := s2.heap.objs.size)
    (R := compPost (model X.prog X.w) X.A X.xe none (EP X pins σ Q) (.ref s2.heap.objs.size) (s2.heap.push ob).objs.size)
    (fun n s' => ∃ i H', Inv (X.blk { s2 with heap := s2.heap.push ob } H3 scope (compEnvC scope cs (s2.heap.push ob).objs.size X.env) fp) [] (wipe σ (own.map (·.2))) H' s' ∧ tn i s'.heap ∧ (∀ b ∈ fp, H' b = none) ∧ W i n H')
    (fun n s5 hI => by
      obtain ⟨i, H5, I5, st5, n5, w5⟩ := hI
      refine turn_ok (Y := X.blk { s2 with heap := s2.heap.push ob } H3 scope (compEnvC scope cs (s2.heap.push ob).objs.size X.env) fp) (vs := own.map (·.2)) (fun _ _ z => z) T hc I5 st5 far n5 (hg _ _ _ _ _) (ht _ _ _ _ _) ?_
      rcases turn i n H5 w5 with ⟨stop, qq⟩ | ⟨go, N, hN', step⟩
      · refine .inl ⟨stop, fun s6 I6 => ?_⟩
        have I7 : Inv X pins σ H5 s6 := I3.call' (ch := fp) I6.os I6.base I6.hok I6.bare fun b hb => ⟨(f3 b hb).1.2.2.2.1, (f3 b hb).1.2.1, (f3 b hb).1.2.2.2.2.1, (f3 b hb).1.2.2.2.2.2⟩
        have nC : H5 (s2.heap.push ob).objs.size = none := I6.free
        obtain ⟨m, hn, _⟩ := I6.loc
        refine ⟨m, hn, fun h' sb => ?_⟩
        obtain ⟨f0, f1, f4, f5, f6, f7⟩ := I3.fpOk (Nat.le_refl _) nC
        exact ⟨.ref s2.heap.objs.size, H5, I7.turned (t' := s6.toks) (fun b o hb eo => (sb.2 b hb).trans eo) f0 f1 f5 f6 f7, rfl, qq⟩
      · refine .inr ⟨go, fun σ2 b H3 => if b = true then te σ2 H3 s2.heap.objs.size N else N H3, step, fun σ2 b H8 hb pp s8 I8 back => ?_⟩
        cases b with
        | true =>
          refine he _ _ _ _ _ pp σ2 H8 s8 _ N _ _ I8 hb fun H9 s9 I9 n9 => ?_
          obtain ⟨m', hm, w'⟩ := hN' H9 n9
          obtain ⟨b1, b2, b3⟩ := back H9 s9 I9
          exact ⟨m', hm, i + 1, H9, b1, b2, b3, w'⟩
        | false =>
          obtain ⟨m', hm, w'⟩ := hN' H8 hb
          obtain ⟨b1, b2, b3⟩ := back H8 s8 I8
          exact ⟨m', hm, i + 1, H8, b1, b2, b3, w'⟩)
    m0 _ ⟨0, H3, I4, st4, nfp, w0⟩
  exact k.start loop (T.self X.A 0 _ _ _ st4 loop)
/-! ### {k: v for ..}, the keys tuples -/
def teD (tk tv : TE) : L2.St → Hp → Addr → (Hp → Prop) → Prop := fun σ H D N => tk σ H fun y H1 => tv σ H1 fun z H2 => ∃ (b : Addr) (kvs : List (List Key × V)) (ks : List Key), y = .ref b ∧ H2 D = some (.dT kvs) ∧ H2 b = some (.tup (ks.map kV)) ∧ kvs.length < sizeLine ∧ N (upd H2 D (.dT (putK kvs ks z)))
theorem put_tup {Y : Cx} {pins : List (Addr × Obj)} {σ : L2.St} {H : Hp} {s : Shared} {E : Value → Shared → Prop} {D b : Addr} {kvs : List (List Key × V)} {ks : List Key} {v : V} {r : Value} {Q : Unit → Shared → Prop} (hu : Y.A.units < cLine) (I : Inv Y pins σ H s) (hD : H D = some (.dT kvs)) (hb : H b = some (.tup (ks.map kV)))
    (hz : kvs.length < sizeLine) (rv : RelV v r) (h : ∀ s', Inv Y pins σ (upd H D (.dT (putK kvs ks v))) s' → Q () s') : wpAny (model Y.prog Y.w) Y.A (dictSet D (.ref b) r) Q E s := by
  obtain ⟨lk, hd, xs, rel, dd⟩ := dt_of I.hok hD
  have lx : xs.length ≤ sizeLine := by rw [← Paired.length rel]; exact lk
  have lp : (putK kvs ks v).length ≤ sizeLine := by
    have := length_putK kvs ks v
    omega
  refine wpAny_dictSet_heap (hsz := lx) (by exact hu) (key_of I.hok hb) dd fun h1 d1 same => h _ ?_
  obtain ⟨o, es, ep, q1, q2, q3, q4, _, q5⟩ := d1
  refine d_write I (by rw [hD]; exact True.intro) same ⟨o, q1⟩ ⟨lp, hd, _, (rel.put ks hb rv).keeps fun c ys ec => ?_, o, es, ep, q1, q2, q3, q4, q5⟩
  rw [upd_ne (ne_of ec hD (fun z => nomatch z))]
  exact ec
theorem kind_dict {kx vx tg iter : Expr} {ifs : List Expr} {scope : Scope} {pos : Pos} : Kind X (.DictComp kx vx [⟨tg, iter, ifs, 0⟩] scope pos) tg iter ifs newDict { cls := .type "dict", data := .dict #[] }
    (fun env D nx er s => wpAny (model X.prog X.w) X.A (eval kx env) (fun kv s1 => wpAny (model X.prog X.w) X.A (eval vx env) (fun vv s2 => wpAny (model X.prog X.w) X.A (dictSet D kv vv) (fun _ s3 => nx s3) er s2) er s1) er s) where
  one := ⟨[], rfl⟩
  acc := fun q => wpAny_newObj_type q
  loop := fun I turn n s hI => compLoop_anyD I turn n hI
  start := fun l i => codeAny_compStart_dict l i
theorem pe_dcT {kx vx tg iter : Expr} {ifs : List Expr} {scope : Scope} {own : List (Str × Nat)} {pos : Pos} {wi : TI} {g : TG} {tt : TT} {tk tv : TE} (hu : X.A.units < cLine) (hc : X.calm = true) (hN : X.N.Nodup) (hi : PI X tg iter wi) (ok : BlkOk X.N X.env.scope scope own)
    (hg : ∀ (s : Shared) (H : Hp) (C : Addr) (cl : List (Str × Addr)) (fp : List Addr), PG (X.blk s H scope (compEnvC scope cl C X.env) fp) tg g) (ht : ∀ (s : Shared) (H : Hp) (C : Addr) (cl : List (Str × Addr)) (fp : List Addr), PTs (X.blk s H scope (compEnvC scope cl C X.env) fp) ifs tt)
    (hk : ∀ (s : Shared) (H : Hp) (C : Addr) (cl : List (Str × Addr)) (fp : List Addr), PE (X.blk s H scope (compEnvC scope cl C X.env) fp) kx tk) (hv : ∀ (s : Shared) (H : Hp) (C : Addr) (cl : List (Str × Addr)) (fp : List Addr), PE (X.blk s H scope (compEnvC scope cl C X.env) fp) vx tv)
    (hs : ∀ x, foldedSetIterable iter X.env x = pure x := by intro _; rfl) : PE X (.DictComp kx vx [⟨tg, iter, ifs, 0⟩] scope pos) (tCo (fun _ => .dT []) wi g tt (teD tk tv) (own.map (·.2))) := by
  refine ⟨fun pins s σ H Q I h => ?_⟩
  rw [arm_eval_DictComp]
  refine comp_core kind_dict hc hN I hi ok (fun h1 H1 big => dt_empty h1 big) hg ht (fun s1 H1 C cl fp pp σ2 H3 s3 D N nx er I3 hte fin => ?_) hs h
  refine wpAny_mono ((hk s1 H1 C cl fp).run pp s3 σ2 H3 _ I3 hte) (fun kv s4 h4 => ?_) fun _ _ z => False.elim z
  obtain ⟨y, H4, I4, ry, h4⟩ := h4
  refine wpAny_mono ((hv s1 H1 C cl fp).run pp s4 σ2 H4 _ I4 h4) (fun vv s5 h5 => ?_) fun _ _ z => False.elim z
  obtain ⟨z, H5, I5, rz, b, kvs, ks, rfl, hD, hb, hl, n5⟩ := h5
  obtain rfl : kv = Value.ref b := ry
  exact put_tup (Y := X.blk s1 H1 scope (compEnvC scope cl C X.env) fp) hu I5 hD hb hl rz fun s6 I6 => fin _ _ I6 n5
/-! ### {e for ..}, the members ints -/
def teS (w : World) (te : TE) : L2.St → Hp → Addr → (Hp → Prop) → Prop := fun σ H D N => te σ H fun y H1 => ∃ (k : Int) (S : Int → Bool) (n : Nat), y = .int k ∧ H1 D = some (SetO w D S n) ∧ n + 1 < scanBound ∧ N (upd H1 D (SetO w D (fun j => S j || decide (j = k)) (if S k = true then n else n + 1)))
theorem add_int {Y : Cx} {pins : List (Addr × Obj)} {σ : L2.St} {H : Hp} {s : Shared} {E : Value → Shared → Prop} {D : Addr} {S : Int → Bool} {n : Nat} {k : Int} {u : Value} {Q : Value → Shared → Prop} (I : Inv Y pins σ H s) (hD : H D = some (SetO Y.w D S n)) (room : n + 1 < scanBound) (ru : RelV (.int k) u)
    (h : ∀ s', Inv Y pins σ (upd H D (SetO Y.w D (fun j => S j || decide (j = k)) (if S k = true then n else n + 1))) s' → Q .none s') : wpAny (model Y.prog Y.w) Y.A (call (.builtin "set.add") [.ref D, u]) Q E s := by
  obtain ⟨tk, rfl⟩ := ru
  refine setR_add (setO_get I hD) room fun h1 same new => h _ ?_
  have there : ∃ o, h1.get? D = some o := by
    obtain ⟨o, _, _, _, ho, _⟩ := id new
    exact ⟨o, ho⟩
  exact I.write (e := D) (t' := s.toks + 1) (by rw [hD]; exact True.intro) (.inl rfl) (fun b o hb ho => (same.2 b hb).trans ho) there (setO_new new)
theorem kind_set {elt tg iter : Expr} {ifs : List Expr} {scope : Scope} {pos : Pos} : Kind X (.SetComp elt [⟨tg, iter, ifs, 0⟩] scope pos) tg iter ifs (newSet (.type "set")) { cls := .type "set", dict := none, data := .set #[] 0 (.fresh 0 0 (!X.w.params.followText "set-order")) }
    (fun env D nx er s => wpAny (model X.prog X.w) X.A (eval elt env) (fun x s1 => wpAny (model X.prog X.w) X.A (call (.builtin "set.add") [.ref D, x]) (fun _ s2 => nx s2) er s1) er s) where
  one := ⟨[], rfl⟩
  acc := fun q => PpSet.newSet_ok q
  loop := fun I turn n s hI => PpSet.compLoopS_any I turn n hI
  start := fun l i => PpSet.codeAny_compStart_set l i
theorem pe_scI {elt tg iter : Expr} {ifs : List Expr} {scope : Scope} {own : List (Str × Nat)} {pos : Pos} {wi : TI} {g : TG} {tt : TT} {te : TE} (hc : X.calm = true) (hN : X.N.Nodup) (hi : PI X tg iter wi) (ok : BlkOk X.N X.env.scope scope own)
    (hg : ∀ (s : Shared) (H : Hp) (C : Addr) (cl : List (Str × Addr)) (fp : List Addr), PG (X.blk s H scope (compEnvC scope cl C X.env) fp) tg g) (ht : ∀ (s : Shared) (H : Hp) (C : Addr) (cl : List (Str × Addr)) (fp : List Addr), PTs (X.blk s H scope (compEnvC scope cl C X.env) fp) ifs tt)
    (he : ∀ (s : Shared) (H : Hp) (C : Addr) (cl : List (Str × Addr)) (fp : List Addr), PE (X.blk s H scope (compEnvC scope cl C X.env) fp) elt te)
    (hs : ∀ x, foldedSetIterable iter X.env x = pure x := by intro _; rfl) : PE X (.SetComp elt [⟨tg, iter, ifs, 0⟩] scope pos) (tCo (fun D => SetO X.w D (fun _ => false) 0) wi g tt (teS X.w te) (own.map (·.2))) := by
  refine ⟨fun pins s σ H Q I h => ?_⟩
  rw [PpSet.eval_SetComp]
  refine comp_core kind_set hc hN I hi ok (fun h1 H1 _ => setO_new (setR_fresh X.w)) hg ht (fun s1 H1 C cl fp pp σ2 H3 s3 D N nx er I3 hte fin => ?_) hs h
  refine wpAny_mono ((he s1 H1 C cl fp).run pp s3 σ2 H3 _ I3 hte) (fun x s4 h4 => ?_) fun _ _ z => False.elim z
  obtain ⟨y, H4, I4, ry, k, S, n, rfl, hD, room, n4⟩ := h4
  exact add_int (Y := X.blk s1 H1 scope (compEnvC scope cl C X.env) fp) I4 hD room ry fun s5 I5 => fin _ _ I5 n4
end
end CmX
set_option Elab.async false
set_option linter.all false
set_option maxRecDepth 100000
set_option maxHeartbeats 4000000
/-! set(xs), xs a list of ints, as a set that sorted takes. -/
namespace SetL
open PySem PySem.Spec PyProof.Rows L2
abbrev Emp (w : World) : Obj := { cls := .type "set", dict := none, data := .set #[] 0 (.fresh 0 0 (!w.params.followText "set-order")) }
section
variable {P : Program} {w : World} {A : Around} {E : Value → Shared → Prop} {s : Shared}
/-- the loop that fills the set, from a list -/
theorem fill_list {l : Addr} {items : Array Value} (ns : List Int) {R : Result → Shared → Prop} (calm : A.handled = none) (lst : s.heap.IsList l items) (hin : IntsAre items.toList ns) (few : ns.length + 1 < scanBound)
    (fin : ∀ (h1 : Heap) (tk c : Nat), SetR w h1 s.heap.objs.size (fun j => decide (j ∈ ns)) c → c ≤ ns.length → (∀ b o, s.heap.get? b = some o → h1.get? b = some o) → R (.ok (.ret .none)) { s with heap := h1, toks := tk }) :
    wpAny (model P w) A (pyIter (.ref l)) (fun it s1 => codeAny (model P w) A (.builtin "set.update.loop" ⟨[.ref s.heap.objs.size, it], []⟩) R s1) E { s with heap := s.heap.push (Emp w) } := by
  have size : items.size = ns.length := (Array.length_toList (xs := items)).symm.trans (IntsAre.length hin)
  have lst1 : (s.heap.push (Emp w)).IsList l items := lst.push _
  obtain ⟨ol, atl, _⟩ := id lst
  have low : l < s.heap.objs.size := Heap.lt_size atl
  have far : l ≠ (s.heap.push (Emp w)).objs.size := by
    rw [Heap.size_push]
    exact Nat.ne_of_lt (Nat.lt_succ_of_lt low)
  refine wpAny_pyIter_list lst1 ?_
  have apart : s.heap.objs.size ∉ [(s.heap.push (Emp w)).objs.size, l] := by
    rw [Heap.size_push]
    intro m
    rcases List.mem_cons.mp m with e | m
    · exact Nat.ne_of_lt (Nat.lt_succ_self _) e
    · exact Nat.ne_of_gt low (List.mem_singleton.mp m)
  have val : ∀ (i : Nat) (v : Value), items[i]? = some v → ∃ k t, ns[i]? = some k ∧ v = .int k t := fun i v hv => by
    have lt : i < ns.length := size ▸ (Array.getElem?_eq_some_iff.mp hv).1
    obtain ⟨t, e⟩ := PyProof.Rows.IntsAre.int_at hin i v (by rw [Array.getElem?_toList]; exact hv)
    refine ⟨ns[i], t, List.getElem?_eq_getElem lt, ?_⟩
    rw [e, List.getD_eq_getElem?_getD, List.getElem?_eq_getElem lt] <;> rfl
  have calm1 : A.in1.handled = none := calm
  refine set_update_ints ((Walks.list calm1 _ l far items).toS) s.heap.objs.size apart ns size few val (items.size - 0) 0 _ (by omega) (Nat.zero_le _) ⟨⟨_, Heap.get?_push_size _ rfl, rfl, rfl⟩, lst1.push _⟩ ?_ ?_
  · exact ⟨0, Nat.le_refl 0, setR_new_at (Heap.get?_push_of_some _ (Heap.get?_push_size _ rfl))⟩
  · rintro ⟨h1, g1, d1, t1, o1⟩ c mv hc hS
    have e1 : g1 = s.gens := mv.gens
    have e2 : d1 = s.drawn := mv.drawn
    have e3 : o1 = s.os := mv.os
    subst e1 e2 e3
    refine fin h1 t1 c hS (by omega) fun b o eb => mv.heap b o (fun m => ?_) (Heap.get?_push_of_some _ (Heap.get?_push_of_some _ eb))
    have lt := Heap.lt_size eb
    rcases List.mem_cons.mp m with e | m
    · exact Nat.ne_of_lt lt e
    · have e := List.mem_singleton.mp m
      rw [Heap.size_push] at e
      exact Nat.ne_of_lt (Nat.lt_succ_of_lt lt) e
theorem call_set_ints {l : Addr} {items : Array Value} (ns : List Int) {Q : Value → Shared → Prop} (calm : A.handled = none) (lst : s.heap.IsList l items) (hin : IntsAre items.toList ns) (few : ns.length + 1 < scanBound)
    (h : ∀ (h1 : Heap) (tk c : Nat), SetR w h1 s.heap.objs.size (fun j => decide (j ∈ ns)) c → c ≤ ns.length → (∀ b o, s.heap.get? b = some o → h1.get? b = some o) → Q (.ref s.heap.objs.size) { s with heap := h1, toks := tk }) :
    wpAny (model P w) A (call (.type "set") [.ref l]) Q E s := by
  obtain ⟨c, tl, hmro⟩ := F.called_set.mro
  have a1 := F.called_set.made
  have a2 := F.called_set.sub
  have a3 := F.called_set.notType
  have a4 := F.called_set.canCreate
  have a5 := F.typeCall_set_1 (.ref l)
  refine wpAny_call (codeAny_of_tree ?_)
  show wpAny _ _ (callAny (.type "set") _) _ _ _
  refine wpAny_pure ⟨Code.quiet_builtin _ (by decide +kernel), codeAny_builtin F.entry_type_call ?_⟩
  rw [Around.under_plain (weight_type_call_type "set" [.ref l] []) rfl]
  repeat (any_goals (first | assumption | wp_step))
  refine codeAny_mono (code_set_led1 (.ref l) (E := E) (Q₁ := fun v s1 => v = .ref s.heap.objs.size ∧ s1 = { s with heap := s.heap.push (Emp w) }) ⟨rfl, rfl⟩) fun r s1 hr => ?_
  match r, hr with
  | .error _, hr => exact hr
  | .ok .next, hr => exact hr.elim
  | .ok .brk, hr => exact hr.elim
  | .ok .cont, hr => exact hr.elim
  | .ok (.ret v0), hr =>
    obtain ⟨rfl, rfl⟩ := hr
    have atS : (s.heap.push (Emp w)).get? s.heap.objs.size = some (Emp w) := Heap.get?_push_size _ rfl
    have ty : Shared.TypeIs { s with heap := s.heap.push (Emp w) } (.ref s.heap.objs.size) "set" := ⟨_, atS, rfl⟩
    have b1 := F.called_set.init.lookup
    have b2 := F.called_set.init.bind (.ref s.heap.objs.size)
    repeat (any_goals (first | assumption | wp_step))
    refine codeAny_mono (codeAny_call_builtin (R := wants (fun r s2 => r = .none ∧ ∃ h1 tk c, s2 = { s with heap := h1, toks := tk } ∧ SetR w h1 s.heap.objs.size (fun j => decide (j ∈ ns)) c ∧ c ≤ ns.length ∧ (∀ b o, s.heap.get? b = some o → h1.get? b = some o)) E)
      F.called_set.init.plain F.entry_set_init (check_set_init_1 ty ?_)) fun r2 s2 hr2 => ?_
    · obtain ⟨⟨oc, od, odt, osl⟩, atl, cl, nl, dl⟩ := id lst
      simp only at cl dl
      subst cl dl
      have atl1 : (s.heap.push (Emp w)).get? l = some { cls := .type "list", dict := od, data := .seq items nl, slots := osl } := Heap.get?_push_of_some _ atl
      have c1 := F.sub_list_set
      have c2 := F.sub_list_frozenset
      have c3 : (Value.type "list" == Value.type "dict") = false := by decide
      unfold Builtin.«set.__init__» noKeywords Builtin.Frozenset.updateFrom
      generalize hPI : pyIter = PI
      wp_walk
      subst hPI
      refine wpAny_mono (fill_list (s := s) ns (by exact calm) lst hin few ?fin) (fun it s1 h1 => wpAny_bind (wpAny_runValue h1)) fun _ _ z => z
      case fin =>
        intro h1 tk c q1 q2 q3
        show wpAny _ _ _ _ _ _
        refine wpAny_pure ?_
        show wpAny _ _ (ret Value.none) _ _ _
        exact wpAny_pure ⟨rfl, h1, tk, c, rfl, q1, q2, q3⟩
    · match r2, hr2 with
      | .error _, hr2 => exact hr2
      | .ok .next, hr2 => exact hr2.elim
      | .ok .brk, hr2 => exact hr2.elim
      | .ok .cont, hr2 => exact hr2.elim
      | .ok (.ret v1), hr2 =>
        obtain ⟨rfl, h1, tk, c, rfl, q1, q2, q3⟩ := hr2
        repeat (any_goals (first | assumption | wp_step))
        exact h _ _ _ q1 q2 q3
end
end SetL
set_option Elab.async false
set_option linter.all false
set_option maxRecDepth 100000
set_option maxHeartbeats 4000000
namespace SetL
open PySem PySem.Spec PyProof.Rows L2
/-- set(xs), xs a list of ints -/
def rSetI (K : PySem.W.Frag) (w : World) : List V → Hp → VK → Prop := fun xs H Q => ∃ (l : Addr) (ns : List Int), xs = [V.ref l] ∧ SqL K H l (ns.map V.int) ∧ ns.length < 1000 ∧
  ∀ (a : Addr) (c : Nat), H a = none → c ≤ ns.length → Q (.ref a) (upd H a (SetO w a (fun j => decide (j ∈ ns)) c))
theorem cr_setI {X : Cx} (hc : X.calm = true) : CallR X (.type "set") (rSetI X.K X.w) := by
  intro pins s σ H xs us Q I r h
  obtain ⟨l, ns, rfl, hl, hz, q⟩ := h
  rw [Vals.ref1 r]
  obtain ⟨its, rv, pl, _⟩ := I.list hl
  have hin : IntsAre its ns := ints_of_vals rv
  have hn : H s.heap.objs.size = none := I.hok.fresh (Nat.le_refl _)
  refine call_set_ints (P := X.prog) (w := X.w) ns (I.ok.hd hc) pl.isList (by simpa using hin) (by unfold scanBound; omega) fun h1 tk c R1 hcn keep => ?_
  exact ⟨.ref s.heap.objs.size, _, I.laid (t' := tk) (a := s.heap.objs.size) (o := SetO X.w s.heap.objs.size (fun j => decide (j ∈ ns)) c) keep (Nat.le_refl _) (setO_new R1), rfl, q _ c hn hcn⟩
end SetL
set_option Elab.async false
set_option linter.all false
set_option maxRecDepth 100000
set_option maxHeartbeats 4000000
namespace K05
open PySem PySem.Spec PyProof.Rows L2
/-- a written def with its promise -/
structure Dn (P : Program) (w : World) (K : PySem.W.Frag) (mg : Str → Option Value) (base : Heap) (k : Nat) (x : Str) (ps : List Str) (sp : Sp) (f : Addr) (fd : FuncData) : Prop where
  ok : FnOk P w K mg base (L2N.CX P w) k f fd ps sp
  g : mg x = some (.ref f)
  kp : PySem.W.keepIn K (.ref f) = true
  b : Binds K fd ps []
def DnE (P : Program) (w : World) (K : PySem.W.Frag) (mg : Str → Option Value) (base : Heap) (k : Nat) (x : Str) (ps : List Str) (sp : Sp) : Prop := ∃ f fd, Dn P w K mg base k x ps sp f fd
abbrev FnS (K : PySem.W.Frag) (x : Str) (st : Stmt) (f : Addr) (fd : FuncData) : Prop := FunD K x x (defArgs st) (defBody st) (defScope st) [] [] f fd
/-! ### heaps -/
/-- all but p is as it was -/
def But (p : Addr) (H H' : Hp) : Prop := ∀ b o, b ≠ p → H b = some o → H' b = some o
theorem But.of {p : Addr} {H H' : Hp} (h : Same H H') : But p H H' := fun b o _ e => h b o e
theorem But.trans {p : Addr} {H H1 H2 : Hp} (a : But p H H1) (b : But p H1 H2) : But p H H2 := fun c o n h => b c o n (a c o n h)
theorem But.at_ {p : Addr} {H H' : Hp} {u : HO} (a : But p H H') : But p H (upd H' p u) := fun c o n h => by
  rw [upd_ne n]
  exact a c o n h
theorem But.seq {K : PySem.W.Frag} {p : Addr} {H H' : Hp} {a : Addr} {xs : List V} (e : But p H H') (n : a ≠ p) (h : SqL K H a xs) : SqL K H' a xs := by
  rcases h with (h | ⟨o, h⟩) | h
  · exact .inl (.inl (e _ _ n h))
  · exact .inl (.inr ⟨o, e _ _ n h⟩)
  · exact .inr h
theorem But.back {p : Addr} {H H' : Hp} {u : HO} {l : Addr} (e : But p H H') (h : H' p = some u) (n : H' l = none) : H l = none := by
  cases q : H l with
  | none => rfl
  | some o =>
    rw [e l o (ne_of_none h n).symm q] at n
    cases n
theorem But.seqT {K : PySem.W.Frag} {p : Addr} {H H' : Hp} {a : Addr} {xs : List V} (e : But p H H') (n : a ≠ p) (h : SqT K H a xs) : SqT K H' a xs := by
  rcases h with (h | ⟨o, h⟩) | h
  · exact .inl (.inl (e _ _ n h))
  · exact .inl (.inr ⟨o, e _ _ n h⟩)
  · exact .inr h
/-! ### pairs by their addresses -/
abbrev Z := Addr × Nat × Nat
def nV (x : Nat) : V := .int (x : Int)
def zV (z : Z) : V := .ref z.1
def prV (z : Z) : HO := .tup [nV z.2.1, nV z.2.2]
/-- the tuples of zs stand in the heap -/
def PrZ (H : Hp) (zs : List Z) : Prop := ∀ z ∈ zs, H z.1 = some (prV z)
theorem PrZ.keep {H H' : Hp} {zs : List Z} (h : PrZ H zs) (e : Same H H') : PrZ H' zs := fun z m => e _ _ (h z m)
/-- all in range, no two the same -/
def Fit (m n : Nat) (ps : List (Nat × Nat)) : Prop := ps.Nodup ∧ ∀ p ∈ ps, p.1 < m ∧ p.2 < n
theorem map_eraseIdx' {α β : Type} (g : α → β) : ∀ (xs : List α) (i : Nat), (xs.map g).eraseIdx i = (xs.eraseIdx i).map g
  | [], _ => rfl
  | _ :: _, 0 => rfl
  | x :: xs, i + 1 => by
    show g x :: (xs.map g).eraseIdx i = g x :: (xs.eraseIdx i).map g
    rw [map_eraseIdx' g xs i]
theorem perm_eraseIdx {α : Type} : ∀ (xs : List α) (i : Nat) (h : i < xs.length), (xs[i] :: xs.eraseIdx i).Perm xs
  | x :: xs, 0, _ => .refl _
  | x :: xs, i + 1, h => (List.Perm.swap x _ _).trans ((perm_eraseIdx xs i (Nat.lt_of_succ_lt_succ h)).cons x)
theorem _root_.L2.Same.new {H : Hp} {p : Addr} {o : HO} (h : H p = none) : Same H (upd H p o) := Evl.Ex.new h
theorem _root_.L2.Same.mut {H H' : Hp} {p : Addr} {o : HO} (e : Same H H') (h : H p = none) : Same H (upd H' p o) := Evl.Ex.mut e h
theorem _root_.L2.Same.back {H H' : Hp} {p : Addr} (e : Same H H') (h : H' p = none) : H p = none := Evl.fresh_back e h
theorem sq {K : PySem.W.Frag} {H : Hp} {a : Addr} {xs : List V} (h : H a = some (.lst xs)) : SqL K H a xs := .inl (.inl h)
theorem sqt {K : PySem.W.Frag} {H : Hp} {a : Addr} {xs : List V} (h : H a = some (.tup xs)) : SqT K H a xs := .inl (.inl h)
end K05
set_option Elab.async false
set_option linter.all false
set_option maxRecDepth 100000
set_option maxHeartbeats 4000000
namespace K05
open PySem PySem.Spec PyProof.Rows L2
section
variable {P : Program} {w : World} {K : PySem.W.Frag} {mg : Str → Option Value} {base : Heap} {f : Addr} {fd : FuncData}
theorem len1 {v : V} : [v].length ≤ sizeLine := Nat.le_of_lt (small1000 (by show 1 ≤ 1000; decide))
theorem len3 {a b c : V} : [a, b, c].length ≤ sizeLine := Nat.le_of_lt (small1000 (by show 3 ≤ 1000; decide))
/-! ### _law_take -/
abbrev law_take_N : List Str := ["pool", "many", "digit"]
theorem law_take_sc : FnScope ["pool", "many", "digit"] ["pool", "many"] (defScope law_take_st) := ⟨rfl, rfl, rfl, by decide +kernel, rfl, by decide +kernel, by decide +kernel⟩
def spTake : Sp := fun vs H Q _ => ∃ (p : Addr) (x m : Int), vs = [.ref p, .int m] ∧ H p = some (.lst [.int x]) ∧ 0 < m ∧ m < 1073741824 ∧ ∀ (d y : Int) (H' : Hp), 0 ≤ d → d < m → But p H H' → H' p = some (.lst [.int y]) → Q (.int d) H'
theorem ok_take (F : FnS K "_law_take" law_take_st f fd) (m_int : mg "int" = none) : FnOk P w K mg base (L2N.CX P w) 1 f fd ["pool", "many"] spTake := by
  refine F.ok law_take_sc (fun vs H Q E h => ?_) (fun cdv A outer s H vs Q E hr h => ?_)
  · obtain ⟨p, x, m, rfl, _⟩ := h
    rfl
  · obtain ⟨p, x, m, rfl, hp, h0, h1, q⟩ := h
    have hm : m ≠ 0 := by omega
    have hc : CDivN x m := ⟨hm, by omega⟩
    refine ⟨_, (pss_cons (ps_set (i := 2) law_take_sc.nd rfl (Or.inl rfl) (pe_op op_modN (pe_callTy call_int1 (by rfl) m_int (by decide +kernel) (pa_cons (pe_ix ix_list (pv 0) pe_int (fun _ _ => rfl)) pa_nil)) (pv 1)))
      (pss_cons (ps_asg (pe_op op_fdivN (pe_ix ix_list (pv 0) pe_int (fun _ _ => rfl)) (pv 1)) (pg_sub (pv 0) pe_int set_list))
      (pss_one (ps_ret (pv 2))))), ?_⟩
    refine ⟨.ref p, rfl, p, [.int x], 0, .int x, rfl, rfl, sq hp, rfl, .inl ⟨x, rfl, .int m, rfl, x, m, rfl, rfl, hm, ?_⟩⟩
    refine ⟨.ref p, rfl, p, [.int x], 0, .int x, rfl, rfl, sq hp, rfl, .int m, rfl, x, m, rfl, rfl, hc, ?_⟩
    refine ⟨.ref p, rfl, p, [.int x], 0, 0, rfl, rfl, hp, rfl, .int (x.fmod m), rfl, ?_⟩
    have e : x.fmod m = x % m := Int.fmod_eq_emod_of_nonneg x (by omega)
    exact q _ _ _ (by rw [e]; exact Int.emod_nonneg x hm) (by rw [e]; exact Int.emod_lt_of_pos x h0) (But.at_ fun _ _ _ z => z) upd_same
/-! ### _law_cell_of -/
abbrev law_cell_of_N : List Str := ["script", "k", "mixed", "cell"]
theorem law_cell_of_sc : FnScope ["script", "k", "mixed", "cell"] ["script", "k"] (defScope law_cell_of_st) := ⟨rfl, rfl, rfl, by decide +kernel, rfl, by decide +kernel, by decide +kernel⟩
def spCell (K : PySem.W.Frag) : Sp := fun vs H Q _ => ∃ (a : Addr) (ns : List Int) (k : Int), vs = [.ref a, .int k] ∧ SqL K H a (ns.map V.int) ∧ 0 ≤ k ∧ k < 1000 ∧ ∀ x : Int, Q (.int x) H
theorem ok_cell (F : FnS K "_law_cell_of" law_cell_of_st f fd) (m_int : mg "int" = none) (m_len : mg "len" = none) : FnOk P w K mg base (L2N.CX P w) 1 f fd ["script", "k"] (spCell K) := by
  refine F.ok law_cell_of_sc (fun vs H Q E h => ?_) (fun cdv A outer s H vs Q E hr h => ?_)
  · obtain ⟨a, ns, k, rfl, _⟩ := h
    rfl
  · obtain ⟨a, ns, k, rfl, hs, h0, h1, q⟩ := h
    refine ⟨_, (pss_cons (ps_if (pt_cmpR op_lt (pv 1) (pe_callB call_len_seq (by rfl) m_len (by decide +kernel) (pa_cons (pv 0) pa_nil)) (nomark _)) (pss_one (ps_ret (pe_ix ix_list (pv 0) (pv 1) (fun _ _ => rfl)))) pss_nil)
      (pss_cons (ps_set (i := 2) law_cell_of_sc.nd rfl (Or.inl rfl) (pe_op op_mul pe_int (pe_op op_add (pv 1) pe_int)))
      (pss_cons (ps_for (passes_of rfl) rfl (pi_list (pv 0)) (pg_name (i := 3) law_cell_of_sc.nd rfl (Or.inl rfl))
      (pss_one (ps_set (i := 2) law_cell_of_sc.nd rfl (Or.inl rfl) (pe_op op_modN (pe_callTy call_int1 (by rfl) m_int (by decide +kernel) (pa_cons (pe_op op_add (pe_op op_add (pe_op op_mul (pv 2) pe_int) (pe_op op_mul (pv 3) pe_int)) pe_int) pa_nil)) pe_int))))
      (pss_one (ps_ret (pv 2)))))), ?_⟩
    refine ⟨.int k, rfl, .ref a, rfl, a, _, rfl, .inl hs, k, _, rfl, rfl, _, rfl, ite2 (fun e => ?_) (fun e => ?_)⟩
    · have e1 := of_decide_eq_true e
      rw [List.length_map] at e1
      obtain ⟨j, rfl⟩ : ∃ j : Nat, k = (j : Int) := ⟨k.toNat, by omega⟩
      have hj : j < ns.length := by omega
      refine ⟨.ref a, rfl, .int j, rfl, a, _, (j : Int), .int ns[j], rfl, rfl, hs, atI_nat ?_, ?_⟩
      · rw [List.getElem?_map, List.getElem?_eq_getElem hj]
        rfl
      · exact q _
    · refine ⟨.int k, rfl, k, 1, rfl, rfl, 7919, k + 1, rfl, rfl, .inl (by decide), ?_⟩
      refine ⟨.ref a, rfl, a, rfl, ⟨_, hs⟩, ?_⟩
      refine for_list (K := K) (a := a) (xs := ns.map V.int) (fun i σ H' => ∃ (m : Int) (y : Option V), σ = [some (.ref a), some (.int k), some (.int m), y] ∧ H' = H) ⟨_, none, rfl, rfl⟩ (fun i σ H' _ h => ?_) (fun i x σ H' hx h => ?_) (fun σ H' h => ?_)
      · obtain ⟨m, y, _, rfl⟩ := h
        exact hs
      · obtain ⟨m, y, rfl, rfl⟩ := h
        obtain ⟨c, rfl⟩ : ∃ c, x = V.int c := by
          rw [List.getElem?_map] at hx
          cases e : ns[i]? with
          | none => rw [e] at hx; cases hx
          | some c => rw [e] at hx; exact ⟨c, (Option.some.inj hx).symm⟩
        refine ⟨.int m, rfl, m, 48271, rfl, rfl, .inr (by decide), .int c, rfl, c, 69621, rfl, rfl, .inr (by decide), _, _, rfl, rfl, _, _, rfl, rfl, .inl ⟨_, rfl, _, _, rfl, rfl, (show (_ : Int) ≠ 0 by decide), _, _, rfl, rfl⟩⟩
      · obtain ⟨m, y, rfl, rfl⟩ := h
        exact ⟨_, rfl, q _⟩
/-! ### _law_source -/
abbrev law_source_N : List Str := ["script", "k", "cell", "state", "great", "step"]
theorem law_source_sc : FnScope ["script", "k", "cell", "state", "great", "step"] ["script", "k"] (defScope law_source_st) := ⟨rfl, rfl, rfl, by decide +kernel, rfl, by decide +kernel, by decide +kernel⟩
def spSource (K : PySem.W.Frag) : Sp := fun vs H Q _ => ∃ (a : Addr) (ns : List Int) (k : Int), vs = [.ref a, .int k] ∧ SqL K H a (ns.map V.int) ∧ 0 ≤ k ∧ k < 1000 ∧ ∀ (p : Addr) (x : Int), H p = none → Q (.ref p) (upd H p (.lst [.int x]))
theorem ok_source {f1 : Addr} {fd1 : FuncData} (F : FnS K "_law_source" law_source_st f fd) (m_int : mg "int" = none) (m_range : mg "range" = none) (D_law_cell_of : Dn P w K mg base 1 "_law_cell_of" ["script", "k"] (spCell K) f1 fd1) : FnOk P w K mg base (L2N.CX P w) 2 f fd ["script", "k"] (spSource K) := by
  refine F.ok law_source_sc (fun vs H Q E h => ?_) (fun cdv A outer s H vs Q E hr h => ?_)
  · obtain ⟨a, ns, k, rfl, _⟩ := h
    rfl
  · obtain ⟨a, ns, k, rfl, hs, h0, h1, q⟩ := h
    refine ⟨_, (pss_cons (ps_set (i := 2) law_source_sc.nd rfl (Or.inl rfl) (pe_call D_law_cell_of.ok (hr.mono (by decide)) rfl D_law_cell_of.g D_law_cell_of.kp D_law_cell_of.b .nil ErrX.passN (pa_cons (pv 0) (pa_cons (pv 1) pa_nil))))
      (pss_cons (ps_if (pt_cmpR op_ge (pv 2) (pe_op op_pow pe_int pe_int) (nomark _)) (pss_one (ps_ret (pe_lst (pa_cons (pv 2) pa_nil)))) pss_nil)
      (pss_cons (ps_set (i := 3) law_source_sc.nd rfl (Or.inl rfl) (pe_op op_modN (pe_callTy call_int1 (by rfl) m_int (by decide +kernel) (pa_cons (pe_op op_add (pe_op op_add (pe_op op_mul (pv 2) pe_int) (pe_op op_mul (pv 1) pe_int)) pe_int) pa_nil)) pe_int))
      (pss_cons (ps_set (i := 4) law_source_sc.nd rfl (Or.inl rfl) pe_int)
      (pss_cons (ps_for (passes_of rfl) rfl (pi_range1 rfl m_range (pa_cons pe_int pa_nil)) (pg_name (i := 5) law_source_sc.nd rfl (Or.inl rfl))
      (pss_cons (ps_set (i := 3) law_source_sc.nd rfl (Or.inl rfl) (pe_op op_modN (pe_callTy call_int1 (by rfl) m_int (by decide +kernel) (pa_cons (pe_op op_add (pe_op op_add (pe_op op_add (pe_op op_mul (pv 3) (pv 3)) (pe_op op_mul (pv 3) pe_int)) (pe_op op_mul (pv 5) pe_int)) pe_int) pa_nil)) pe_int))
      (pss_one (ps_set (i := 4) law_source_sc.nd rfl (Or.inl rfl) (pe_op op_add (pe_op op_mul (pv 4) pe_int) (pv 3))))))
      (pss_one (ps_ret (pe_lst (pa_cons (pv 4) pa_nil))))))))), ?_⟩
    refine ⟨.ref a, rfl, .int k, rfl, a, ns, k, rfl, hs, h0, h1, fun x => ?_⟩
    refine ⟨.int x, rfl, 10, 18, rfl, rfl, ⟨by decide, by decide, by decide⟩, x, _, rfl, rfl, _, rfl, ite2 (fun e => ?_) (fun e => ?_)⟩
    · exact ⟨.int x, rfl, len1, fun p hp => q p x hp⟩
    · refine ⟨.int x, rfl, x, 48271, rfl, rfl, .inr (by decide), .int k, rfl, k, 69621, rfl, rfl, .inr (by decide), _, _, rfl, rfl, _, _, rfl, rfl, .inl ⟨_, rfl, _, _, rfl, rfl, (show (_ : Int) ≠ 0 by decide), ?_⟩⟩
      refine ⟨12, rfl, by decide, by decide, ?_⟩
      refine for_range (lo := 0) (n := 12) (fun i σ H' => ∃ (m g : Int) (y : Option V), σ = [some (.ref a), some (.int k), some (.int x), some (.int m), some (.int g), y] ∧ H' = H ∧ 0 ≤ m ∧ m < 2147483648) ⟨_, 0, none, rfl, rfl, ?_, ?_⟩ (fun i σ H' hi h => ?_) (fun σ H' h => ?_)
      · rw [Int.fmod_eq_emod_of_nonneg _ (by decide)]
        exact Int.emod_nonneg _ (by decide)
      · rw [Int.fmod_eq_emod_of_nonneg _ (by decide)]
        exact Int.lt_trans (Int.emod_lt_of_pos _ (by decide)) (by decide)
      · obtain ⟨m, g, y, rfl, rfl, m0, m1⟩ := h
        refine ⟨.int m, rfl, .int m, rfl, m, m, rfl, rfl, .inl ⟨by omega, by omega⟩, .int m, rfl, m, 48271, rfl, rfl, .inr (by decide), _, _, rfl, rfl, .int (0 + (i : Int)), rfl, _, 7919, rfl, rfl, .inr (by decide), _, _, rfl, rfl, _, _, rfl, rfl, .inl ⟨_, rfl, _, _, rfl, rfl, (show (_ : Int) ≠ 0 by decide), ?_⟩⟩
        refine ⟨.int g, rfl, g, 2147483629, rfl, rfl, .inr (by decide), .int _, rfl, _, _, rfl, rfl, ?_⟩
        refine ⟨_, _, _, rfl, rfl, ?_, ?_⟩
        · rw [Int.fmod_eq_emod_of_nonneg _ (by decide)]
          exact Int.emod_nonneg _ (by decide)
        · rw [Int.fmod_eq_emod_of_nonneg _ (by decide)]
          exact Int.lt_trans (Int.emod_lt_of_pos _ (by decide)) (by decide)
      · obtain ⟨m, g, y, rfl, rfl, _⟩ := h
        exact ⟨.int g, rfl, len1, fun p hp => q p g hp⟩
/-! ### _law_draw_far -/
abbrev law_draw_far_N : List Str := ["pool", "digits"]
theorem law_draw_far_sc : FnScope ["pool", "digits"] ["pool"] (defScope law_draw_far_st) := ⟨rfl, rfl, rfl, by decide +kernel, rfl, by decide +kernel, by decide +kernel⟩
def spFar : Sp := fun vs H Q _ => ∃ (p : Addr) (x : Int), vs = [.ref p] ∧ H p = some (.lst [.int x]) ∧ ∀ (d y : Int) (H' : Hp), But p H H' → H' p = some (.lst [.int y]) → Q (.int d) H'
theorem ok_far {f1 : Addr} {fd1 : FuncData} (F : FnS K "_law_draw_far" law_draw_far_st f fd) (D_law_take : Dn P w K mg base 1 "_law_take" ["pool", "many"] spTake f1 fd1) : FnOk P w K mg base (L2N.CX P w) 2 f fd ["pool"] spFar := by
  refine F.ok law_draw_far_sc (fun vs H Q E h => ?_) (fun cdv A outer s H vs Q E hr h => ?_)
  · obtain ⟨p, x, rfl, _⟩ := h
    rfl
  · obtain ⟨p, x, rfl, hp, q⟩ := h
    refine ⟨_, (pss_cons (ps_set (i := 1) law_draw_far_sc.nd rfl (Or.inl rfl) (pe_call D_law_take.ok (hr.mono (by decide)) rfl D_law_take.g D_law_take.kp D_law_take.b .nil ErrX.passN (pa_cons (pv 0) (pa_cons pe_int pa_nil))))
      (pss_one (ps_ret (pe_op op_mul (pv 1) (pe_ix ix_list (pe_lst (pa_cons pe_int (pa_cons (pe_op op_pow pe_int pe_int) (pa_cons (pe_op op_pow pe_int pe_int) pa_nil)))) (pe_call D_law_take.ok (hr.mono (by decide)) rfl D_law_take.g D_law_take.kp D_law_take.b .nil ErrX.passN (pa_cons (pv 0) (pa_cons pe_int pa_nil))) (fun _ _ => rfl)))))), ?_⟩
    refine ⟨.ref p, rfl, p, x, 1000, rfl, hp, by decide, by decide, fun d y H1 d0 d1 b1 p1 => ?_⟩
    refine ⟨.int d, rfl, 10, 6, rfl, rfl, ⟨by decide, by decide, by decide⟩, 10, 30, rfl, rfl, ⟨by decide, by decide, by decide⟩, len3, fun l hl => ?_⟩
    have s1 := Same.new (o := .lst [.int 1, .int (10 ^ (6 : Int).toNat), .int (10 ^ (30 : Int).toNat)]) hl
    have nlp : l ≠ p := (ne_of_none p1 hl).symm
    refine ⟨.ref p, rfl, p, y, 3, rfl, s1 _ _ p1, by decide, by decide, fun e z H2 e0 e1 b2 p2 => ?_⟩
    obtain ⟨j, rfl⟩ : ∃ j : Nat, e = (j : Int) := ⟨e.toNat, by omega⟩
    have hj : j < 3 := by omega
    have fin : ∀ v : Int, Q (.int (d * v)) H2 := fun v => q _ z _ ((b1.trans (.of s1)).trans b2) p2
    have hd : ∀ v, CMul d v := fun v => .inl ⟨by omega, by omega⟩
    refine ⟨l, [.int 1, .int (10 ^ (6 : Int).toNat), .int (10 ^ (30 : Int).toNat)], (j : Int), _, rfl, rfl, sq (b2 _ _ nlp upd_same), atI_nat (v := ([.int 1, .int (10 ^ (6 : Int).toNat), .int (10 ^ (30 : Int).toNat)] : List V)[j]'hj) (List.getElem?_eq_getElem hj), ?_⟩
    match j, hj with
    | 0, _ => exact ⟨d, 1, rfl, rfl, hd _, fin _⟩
    | 1, _ => exact ⟨d, _, rfl, rfl, hd _, fin _⟩
    | 2, _ => exact ⟨d, _, rfl, rfl, hd _, fin _⟩
end
end K05
set_option Elab.async false
set_option linter.all false
set_option maxRecDepth 100000
set_option maxHeartbeats 4000000
namespace K05
open PySem PySem.Spec PyProof.Rows L2
theorem len2 {a b : V} : [a, b].length ≤ sizeLine := Nat.le_of_lt (small1000 (by show 2 ≤ 1000; decide))
theorem len0 : ([] : List V).length ≤ sizeLine := Nat.zero_le _
theorem grid_nodup (m n : Nat) : ((List.range (m * n)).map fun k => (k / n, k % n)).Nodup := by
  rw [List.nodup_iff_pairwise_ne, List.pairwise_map]
  refine List.Pairwise.imp ?_ (List.nodup_range (n := m * n))
  intro a b h e
  have e1 : a / n = b / n := congrArg Prod.fst e
  have e2 : a % n = b % n := congrArg Prod.snd e
  have h1 := Nat.div_add_mod a n
  have h2 := Nat.div_add_mod b n
  rw [e1, e2, h2] at h1
  exact h h1.symm
theorem grid_in {m n : Nat} {p : Nat × Nat} (h : p ∈ (List.range (m * n)).map fun k => (k / n, k % n)) : p.1 < m ∧ p.2 < n := by
  obtain ⟨k, hk, rfl⟩ := List.mem_map.mp h
  have hk := List.mem_range.mp hk
  have hn : 0 < n := Nat.pos_of_ne_zero fun z => by
    subst z
    omega
  exact ⟨Nat.div_lt_of_lt_mul (by rwa [Nat.mul_comm n m]), Nat.mod_lt _ hn⟩
section
variable {P : Program} {w : World} {K : PySem.W.Frag} {mg : Str → Option Value} {base : Heap} {f : Addr} {fd : FuncData}
/-! ### _law_draw -/
abbrev law_draw_N : List Str := ["pool", "most", "sizes", "left", "k", "bound", "pairs", "step"]
theorem law_draw_sc : FnScope ["pool", "most", "sizes", "left", "k", "bound", "pairs", "step"] ["pool"] (defScope law_draw_st) := ⟨rfl, rfl, rfl, by decide +kernel, rfl, by decide +kernel, by decide +kernel⟩
/-- two sizes and different fitting pairs, told at t -/
structure Drawn (H : Hp) (t : Addr) (m n : Nat) (zs : List Z) (ts q : Addr) : Prop where
  m1 : 1 ≤ m
  m8 : m ≤ 8
  n1 : 1 ≤ n
  n8 : n ≤ 8
  ht : H t = some (.tup [.ref ts, .ref q])
  hs : H ts = some (.tup [nV m, nV n])
  hq : H q = some (.lst (zs.map zV))
  pr : PrZ H zs
  fit : Fit m n (zs.map (·.2))
  few : zs.length ≤ 16
def spDraw : Sp := fun vs H Q _ => ∃ (p : Addr) (x : Int), vs = [.ref p] ∧ H p = some (.lst [.int x]) ∧ ∀ (H' : Hp) (t ts q : Addr) (y : Int) (m n : Nat) (zs : List Z), But p H H' → H' p = some (.lst [.int y]) → Drawn H' t m n zs ts q → H q = none → Q (.ref t) H'
theorem ok_draw {f1 : Addr} {fd1 : FuncData} (F : FnS K "_law_draw" law_draw_st f fd) (m_int : mg "int" = none) (m_len : mg "len" = none) (m_min : mg "min" = none) (m_range : mg "range" = none) (D_law_take : Dn P w K mg base 1 "_law_take" ["pool", "many"] spTake f1 fd1) : FnOk P w K mg base (L2N.CX P w) 2 f fd ["pool"] spDraw := by
  refine F.ok law_draw_sc (fun vs H Q E h => ?_) (fun cdv A outer s H vs Q E hr h => ?_)
  · obtain ⟨p, x, rfl, _⟩ := h
    rfl
  · obtain ⟨p, x, rfl, hp, q⟩ := h
    refine ⟨_, (pss_cons (ps_set (i := 1) law_draw_sc.nd rfl (Or.inl rfl) pe_int)
      (Evl.pss_cut (ps_if (pt_cmpR op_eq (pe_call D_law_take.ok (hr.mono (by decide)) rfl D_law_take.g D_law_take.kp D_law_take.b .nil ErrX.passN (pa_cons (pv 0) (pa_cons pe_int pa_nil))) pe_int (nomark _)) (pss_one (ps_set (i := 1) law_draw_sc.nd rfl (Or.inl rfl) pe_int)) pss_nil)
      (pss_cons (ps_set (i := 2) law_draw_sc.nd rfl (Or.inl rfl) (pe_tup (pa_cons (pe_op op_add pe_int (pe_call D_law_take.ok (hr.mono (by decide)) rfl D_law_take.g D_law_take.kp D_law_take.b .nil ErrX.passN (pa_cons (pv 0) (pa_cons (pv 1) pa_nil)))) (pa_cons (pe_op op_add pe_int (pe_call D_law_take.ok (hr.mono (by decide)) rfl D_law_take.g D_law_take.kp D_law_take.b .nil ErrX.passN (pa_cons (pv 0) (pa_cons (pv 1) pa_nil)))) pa_nil))))
      (pss_cons (ps_set (i := 3) law_draw_sc.nd rfl (Or.inl rfl) (pe_lst pa_nil))
      (pss_cons (ps_for (passes_of rfl) rfl (pi_range1 rfl m_range (pa_cons (pe_op op_mul (pe_ix ix_tup (pv 2) pe_int (fun _ _ => rfl)) (pe_ix ix_tup (pv 2) pe_int (fun _ _ => rfl))) pa_nil)) (pg_name (i := 4) law_draw_sc.nd rfl (Or.inl rfl))
      (pss_one (ps_expr (pe_bm PySem.F.plainAttrs_list PySem.F.slot_list_append PySem.F.type_list_append mt_append (pv 3) (pa_cons (pe_tup (pa_cons (pe_op op_fdivN (pv 4) (pe_ix ix_tup (pv 2) pe_int (fun _ _ => rfl))) (pa_cons (pe_op op_modN (pe_callTy call_int1 (by rfl) m_int (by decide +kernel) (pa_cons (pv 4) pa_nil)) (pe_ix ix_tup (pv 2) pe_int (fun _ _ => rfl))) pa_nil))) pa_nil)))))
      (pss_cons (ps_set (i := 5) law_draw_sc.nd rfl (Or.inl rfl) (pe_callB (call_min2 rfl) (by rfl) m_min (by decide +kernel) (pa_cons (pe_callB call_len_seq (by rfl) m_len (by decide +kernel) (pa_cons (pv 3) pa_nil)) (pa_cons (pe_ix ix_list (pe_lst (pa_cons pe_int (pa_cons pe_int pa_nil))) (pe_op op_fdivN (pv 1) pe_int) (fun _ _ => rfl)) pa_nil))))
      (pss_cons (ps_set (i := 6) law_draw_sc.nd rfl (Or.inl rfl) (pe_lst pa_nil))
      (pss_cons (ps_for (passes_of rfl) rfl (pi_range1 rfl m_range (pa_cons (pe_call D_law_take.ok (hr.mono (by decide)) rfl D_law_take.g D_law_take.kp D_law_take.b .nil ErrX.passN (pa_cons (pv 0) (pa_cons (pe_op op_add (pv 5) pe_int) pa_nil))) pa_nil)) (pg_name (i := 7) law_draw_sc.nd rfl (Or.inl rfl))
      (pss_one (ps_expr (pe_bm PySem.F.plainAttrs_list PySem.F.slot_list_append PySem.F.type_list_append mt_append (pv 6) (pa_cons (pe_bm PySem.F.plainAttrs_list PySem.F.slot_list_pop PySem.F.type_list_pop mt_popAt (pv 3) (pa_cons (pe_call D_law_take.ok (hr.mono (by decide)) rfl D_law_take.g D_law_take.kp D_law_take.b .nil ErrX.passN (pa_cons (pv 0) (pa_cons (pe_callB call_len_seq (by rfl) m_len (by decide +kernel) (pa_cons (pv 3) pa_nil)) pa_nil))) pa_nil)) pa_nil)))))
      (pss_one (ps_ret (pe_tup (pa_cons (pv 2) (pa_cons (pv 6) pa_nil))))))))))))), ?_⟩
    refine ⟨fun σ H' => ∃ (mo x' : Int), σ = [some (.ref p), some (.int mo), none, none, none, none, none, none] ∧ (mo = 4 ∨ mo = 8) ∧ But p H H' ∧ H' p = some (.lst [.int x']), ?_, ?_⟩
    · exact ⟨.ref p, rfl, p, x, 4, rfl, hp, by decide, by decide, fun d y H1 d0 dm b p1 => ⟨rfl, _, rfl, ite2 (fun _ => ⟨8, y, rfl, .inr rfl, b, p1⟩) (fun _ => ⟨4, y, rfl, .inl rfl, b, p1⟩)⟩⟩
    rintro σ0 H0 ⟨mo, x0, rfl, hmo, b0, hp0⟩
    have mo8 : 0 < mo ∧ mo ≤ 8 := by omega
    refine ⟨.ref p, rfl, .int mo, rfl, p, x0, mo, rfl, hp0, by omega, by omega, fun d1 y1 H1 d10 d11 b1' p1 => ?_⟩
    have b1 := b0.trans b1'
    refine ⟨1, d1, rfl, rfl, .ref p, rfl, .int mo, rfl, p, y1, mo, rfl, p1, by omega, by omega, fun d2 y2 H2 d20 d21 b2 p2 => ⟨1, d2, rfl, rfl, len2, fun ts nts => ?_⟩⟩
    obtain ⟨m, em⟩ : ∃ m : Nat, 1 + d1 = (m : Int) := ⟨(1 + d1).toNat, by omega⟩
    obtain ⟨n, en⟩ : ∃ n : Nat, 1 + d2 = (n : Int) := ⟨(1 + d2).toNat, by omega⟩
    dsimp only
    rw [em, en]
    have m1 : 1 ≤ m := by omega
    have m8 : m ≤ 8 := by omega
    have n1 : 1 ≤ n := by omega
    have n8 : n ≤ 8 := by omega
    have s3 := Same.new (o := .tup [.int (m : Int), .int (n : Int)]) nts
    have b3 : But p H (upd H2 ts (.tup [.int (m : Int), .int (n : Int)])) := (b1.trans b2).trans (.of s3)
    have p3 := s3 _ _ p2
    have t3 : (upd H2 ts (.tup [.int (m : Int), .int (n : Int)])) ts = some (.tup [nV m, nV n]) := upd_same
    generalize upd H2 ts (.tup [.int (m : Int), .int (n : Int)]) = H3 at b3 p3 t3 ⊢
    refine ⟨len0, fun l nl => ?_⟩
    have nlp : l ≠ p := (ne_of_none p3 nl).symm
    have Hl : H l = none := b3.back p3 nl
    have nlt : l ≠ ts := (ne_of_none t3 nl).symm
    have hmn : m * n ≤ 64 := Nat.mul_le_mul m8 n8
    have emn : ((m : Int) * (n : Int)) = ((m * n : Nat) : Int) := (Int.natCast_mul m n).symm
    have t4 : (upd H3 l (.lst [])) ts = some (.tup [nV m, nV n]) := by
      rw [upd_ne nlt.symm]
      exact t3
    refine ⟨.ref ts, rfl, ts, _, 0, nV m, rfl, rfl, sqt t4, rfl, .ref ts, rfl, ts, _, 1, nV n, rfl, rfl, sqt t4, rfl, (m : Int), (n : Int), rfl, rfl, .inl ⟨by omega, by omega⟩, (m : Int) * (n : Int), rfl, by rw [emn]; omega, by rw [emn]; omega, ?_⟩
    rw [emn, Int.toNat_natCast]
    refine for_range (lo := 0) (n := m * n) (fun i σ H' => ∃ (y3 : Option V) (zs : List Z), σ = [some (.ref p), some (.int mo), some (.ref ts), some (.ref l), y3, none, none, none] ∧ Same H3 H' ∧ H' l = some (.lst (zs.map zV)) ∧ PrZ H' zs ∧ zs.map (·.2) = (List.range i).map fun k => (k / n, k % n)) ⟨none, [], rfl, Same.new nl, upd_same, (fun _ h => nomatch h), rfl⟩ (fun i σ H' hi h => ?_) (fun σ H' h => ?_)
    · obtain ⟨y3, zs, rfl, sm, hl, pr, ez⟩ := h
      have tt := sqt (K := K) (sm _ _ t3)
      have zl : zs.length = i := by
        have := congrArg List.length ez
        rw [List.length_map, List.length_map, List.length_range] at this
        exact this
      have nz : ((n : Nat) : Int) ≠ 0 := by omega
      refine ⟨.ref l, rfl, .inl ⟨rfl, _, sq hl⟩, .int (0 + (i : Int)), rfl, .ref ts, rfl, ts, _, 1, nV n, rfl, rfl, tt, rfl, 0 + (i : Int), (n : Int), rfl, rfl, ⟨nz, by omega⟩, .int (0 + (i : Int)), rfl, .inl ⟨0 + (i : Int), rfl, .ref ts, rfl, ts, _, 1, nV n, rfl, rfl, tt, rfl, 0 + (i : Int), (n : Int), rfl, rfl, nz, len2, fun t nt => ?_⟩⟩
      have e1 : (0 + (i : Int)).fdiv (n : Int) = ((i / n : Nat) : Int) := by
        rw [Int.zero_add, Int.fdiv_eq_ediv_of_nonneg _ (by omega)]
        exact (Int.natCast_ediv i n).symm
      have e2 : (0 + (i : Int)).fmod (n : Int) = ((i % n : Nat) : Int) := by
        rw [Int.zero_add, Int.fmod_eq_emod_of_nonneg _ (by omega)]
        exact (Int.natCast_emod i n).symm
      have st := Same.new (o := .tup [V.int ((0 + (i : Int)).fdiv (n : Int)), V.int ((0 + (i : Int)).fmod (n : Int))]) nt
      have hl2 := st _ _ hl
      have ntl : t ≠ l := (ne_of_none hl nt).symm
      refine ⟨l, _, _, rfl, rfl, hl2, small1000 (by rw [List.length_map]; omega), some _, zs ++ [(t, i / n, i % n)], rfl, (sm.trans st).mut nl, ?_, ?_, ?_⟩
      · rw [upd_same, List.map_append]
        rfl
      · intro z hz
        rcases List.mem_append.mp hz with hz | hz
        · have := st _ _ (pr z hz)
          rw [upd_ne (fun e => by rw [e] at this; rw [hl2] at this; cases this)]
          exact this
        · rw [List.mem_singleton.mp hz]
          show upd _ l _ t = _
          rw [upd_ne ntl]
          refine upd_same.trans ?_
          show some (HO.tup [V.int ((0 + (i : Int)).fdiv (n : Int)), V.int ((0 + (i : Int)).fmod (n : Int))]) = some (prV (t, i / n, i % n))
          rw [e1, e2]
          rfl
      · rw [List.map_append, ez, List.range_succ, List.map_append]
        rfl
    · obtain ⟨y3, zs, rfl, sm, hl, pr, ez⟩ := h
      have zl : zs.length = m * n := by
        have := congrArg List.length ez
        rw [List.length_map, List.length_map, List.length_range] at this
        exact this
      have fit : Fit m n (zs.map (·.2)) := by
        rw [ez]
        exact ⟨grid_nodup m n, fun p h => grid_in h⟩
      obtain ⟨hl0, p30, t30⟩ : H' l = some (.lst (zs.map zV)) ∧ H' p = some (.lst [.int y2]) ∧ H' ts = some (.tup [nV m, nV n]) := ⟨hl, sm _ _ p3, sm _ _ t3⟩
      refine ⟨.ref l, rfl, l, _, rfl, .inl (sq hl), len2, fun q9 n9 => ?_⟩
      have s9 := Same.new (o := .lst [.int 9, .int 16]) n9
      obtain ⟨v, hv, hv16⟩ : ∃ v : Int, atI [V.int 9, V.int 16] (mo.fdiv 5) = some (.int v) ∧ 0 < v ∧ v ≤ 16 := by
        rcases hmo with rfl | rfl
        · exact ⟨9, rfl, by decide, by decide⟩
        · exact ⟨16, rfl, by decide, by decide⟩
      refine ⟨.int mo, rfl, mo, 5, rfl, rfl, ⟨by decide, by decide⟩, q9, _, mo.fdiv 5, .int v, rfl, rfl, sq upd_same, hv, _, v, rfl, ?_⟩
      replace sm := sm.trans s9
      replace hl := s9 _ _ hl
      replace pr := pr.keep s9
      generalize upd H' q9 (.lst [.int 9, .int 16]) = H'' at sm hl pr ⊢
      clear hl0 p30 t30 s9 n9
      refine ⟨len0, fun qa nq => ?_⟩
      have nqp : qa ≠ p := (ne_of_none (sm _ _ p3) nq).symm
      have Hqa : H qa = none := b3.back p3 (sm.back nq)
      have nql : qa ≠ l := (ne_of_none hl nq).symm
      have Hq : H qa = none := (b3.trans (.of sm)).back (sm _ _ p3) nq
      have s5 := Same.new (o := .lst []) nq
      have p5 := s5 _ _ (sm _ _ p3)
      have t5 := s5 _ _ (sm _ _ t3)
      have l5 := s5 _ _ hl
      have pr5 := pr.keep s5
      have b5 : But p H (upd H'' qa (.lst [])) := (b3.trans (.of sm)).trans (.of s5)
      have q5 : (upd H'' qa (.lst [])) qa = some (.lst []) := upd_same
      generalize upd H'' qa (.lst []) = H5 at p5 t5 l5 pr5 b5 q5 ⊢
      have emin : (if v < (((zs.map zV).length : Nat) : Int) then v else (((zs.map zV).length : Nat) : Int)) ≤ 16 ∧ 0 ≤ (if v < (((zs.map zV).length : Nat) : Int) then v else (((zs.map zV).length : Nat) : Int)) ∧ (if v < (((zs.map zV).length : Nat) : Int) then v else (((zs.map zV).length : Nat) : Int)) ≤ ((m * n : Nat) : Int) := by
        rw [List.length_map, zl]
        split <;> omega
      refine ⟨.ref p, rfl, .int (if v < (((zs.map zV).length : Nat) : Int) then v else (((zs.map zV).length : Nat) : Int)), rfl, _, 1, rfl, rfl, p, y2, _, rfl, p5, ?_, ?_, fun d y6 H6 d0 dm b6 p6 => ?_⟩
      · omega
      · omega
      obtain ⟨j, rfl⟩ : ∃ j : Nat, d = (j : Int) := ⟨d.toNat, by omega⟩
      have hj : j ≤ 16 ∧ j ≤ m * n := by omega
      refine ⟨(j : Int), rfl, by omega, by omega, ?_⟩
      rw [Int.toNat_natCast]
      refine for_range (lo := 0) (n := j) (fun i σ H' => ∃ (x' : Int) (z5 : Option V) (ws us : List Z), σ = [some (.ref p), some (.int mo), some (.ref ts), some (.ref l), y3, some (.int (if v < (((zs.map zV).length : Nat) : Int) then v else (((zs.map zV).length : Nat) : Int))), some (.ref qa), z5] ∧ But p H H' ∧ H' p = some (.lst [.int x']) ∧ H' ts = some (.tup [nV m, nV n]) ∧ H' l = some (.lst (us.map zV)) ∧ H' qa = some (.lst (ws.map zV)) ∧ PrZ H' (ws ++ us) ∧ Fit m n ((ws ++ us).map (·.2)) ∧ ws.length = i ∧ us.length = m * n - i)
        ⟨_, none, [], zs, rfl, b5.trans b6, p6, b6 _ _ (fun e => by rw [e, p5] at t5; cases t5) t5, b6 _ _ nlp l5, b6 _ _ nqp q5, fun z hz => b6 _ _ (fun e => by have := pr5 z hz; rw [e, p5] at this; cases this) (pr5 z hz), fit, rfl, zl⟩ (fun i σ H' hi h => ?_) (fun σ H' h => ?_)
      · obtain ⟨x', z5, ws, us, rfl, b, hp', ht', hl', hq', pr', fit', wl, ul⟩ := h
        have ulp : 0 < us.length := by omega
        refine ⟨.ref qa, rfl, .inl ⟨rfl, _, sq hq'⟩, .ref l, rfl, .inl ⟨rfl, _, sq hl'⟩, .ref p, rfl, .ref l, rfl, l, _, rfl, .inl (sq hl'), p, x', _, rfl, hp', ?_, ?_, fun d x2 H7 d0 dm b7 p7 => ?_⟩
        · rw [List.length_map]; omega
        · rw [List.length_map]; omega
        obtain ⟨c, rfl⟩ : ∃ c : Nat, d = (c : Int) := ⟨d.toNat, by omega⟩
        rw [List.length_map] at dm
        have hc : c < us.length := by omega
        have l7 := b7 _ _ nlp hl'
        have q7 := b7 _ _ nqp hq'
        have t7 := b7 _ _ (fun e => by rw [e, hp'] at ht'; cases ht') ht'
        have pr7 : PrZ H7 (ws ++ us) := fun z hz => b7 _ _ (fun e => by have := pr' z hz; rw [e, hp'] at this; cases this) (pr' z hz)
        refine ⟨l, us.map zV, (c : Int), c, zV us[c], rfl, rfl, l7, by omega, by omega, ?_, ?_, ?_⟩
        · rw [List.length_map]
          exact (ixN_seq (Evl.ixN_nat hc)).1
        · rw [List.getElem?_map, List.getElem?_eq_getElem hc]
          rfl
        · have q8 : (upd H7 l (.lst ((us.map zV).eraseIdx c))) qa = some (.lst (ws.map zV)) := by
            rw [upd_ne nql]
            exact q7
          have fit2 : Fit m n (((ws ++ [us[c]]) ++ us.eraseIdx c).map (·.2)) := by
            have pm : ((ws ++ [us[c]]) ++ us.eraseIdx c).Perm (ws ++ us) := by
              rw [List.append_assoc]
              exact (perm_eraseIdx us c hc).append_left ws
            have pm2 := pm.map (·.2)
            exact ⟨pm2.nodup_iff.mpr fit'.1, fun r hr => fit'.2 r (pm2.mem_iff.mp hr)⟩
          have pr8 : PrZ H7 ((ws ++ [us[c]]) ++ us.eraseIdx c) := fun z hz => pr7 z (by
            have pm : ((ws ++ [us[c]]) ++ us.eraseIdx c).Perm (ws ++ us) := by
              rw [List.append_assoc]
              exact (perm_eraseIdx us c hc).append_left ws
            exact pm.mem_iff.mp hz)
          refine ⟨qa, _, _, rfl, rfl, q8, small1000 (by rw [List.length_map]; omega), x2, _, ws ++ [us[c]], us.eraseIdx c, rfl, (fun b' o nb e => ?_), ?_, ?_, ?_, ?_, ?_, fit2, ?_, ?_⟩
          · rw [upd_ne (ne_of_none e Hq), upd_ne (ne_of_none e Hl)]
            exact (b.trans b7) b' o nb e
          · rw [upd_ne nqp.symm, upd_ne nlp.symm]
            exact p7
          · rw [upd_ne (fun e => by rw [e, q7] at t7; cases t7), upd_ne (fun e => by rw [e, l7] at t7; cases t7)]
            exact t7
          · rw [upd_ne nql.symm, upd_same, map_eraseIdx']
          · rw [upd_same, List.map_append]
            rfl
          · intro z hz
            have := pr8 z hz
            rw [upd_ne (fun e => by rw [e, q7] at this; cases this), upd_ne (fun e => by rw [e, l7] at this; cases this)]
            exact this
          · rw [List.length_append, wl]
            rfl
          · rw [List.length_eraseIdx_of_lt hc]
            omega
      · obtain ⟨x', z5, ws, us, rfl, b, hp', ht', hl', hq', pr', fit', wl, ul⟩ := h
        refine ⟨.ref ts, rfl, .ref qa, rfl, len2, fun t nt => ?_⟩
        have s9 := Same.new (o := .tup [V.ref ts, V.ref qa]) nt
        refine q _ t ts qa x' m n ws (b.trans (.of s9)) (s9 _ _ hp') ⟨m1, m8, n1, n8, upd_same, s9 _ _ ht', s9 _ _ hq', fun z hz => s9 _ _ (pr' z (List.mem_append_left _ hz)), ?_, by omega⟩ Hqa
        have h1 := fit'.1
        rw [List.map_append] at h1
        exact ⟨(List.nodup_append.mp h1).1, fun r hr => fit'.2 r (by rw [List.map_append]; exact List.mem_append_left _ hr)⟩
end
end K05
set_option Elab.async false
set_option linter.all false
set_option maxRecDepth 100000
set_option maxHeartbeats 4000000
namespace K05
open PySem PySem.Spec PyProof.Rows L2
theorem len4 {a b c d : V} : [a, b, c, d].length ≤ sizeLine := Nat.le_of_lt (small1000 (by show 4 ≤ 1000; decide))
section
variable {P : Program} {w : World} {K : PySem.W.Frag} {mg : Str → Option Value} {base : Heap} {f : Addr} {fd : FuncData}
/-! ### _law_draw_lot -/
def spLot : Sp := fun vs H Q _ => ∃ (p : Addr) (x : Int) (m o : Nat), vs = [.ref p, nV m, nV o] ∧ H p = some (.lst [.int x]) ∧ 1 ≤ m ∧ m ≤ 8 ∧ o ≤ 2 ∧ ∀ (H' : Hp) (l : Addr) (y : Int) (ns : List Int), But p H H' → H' p = some (.lst [.int y]) → H l = none → H' l = some (.lst (ns.map V.int)) → ns.length ≤ 10 → Q (.ref l) H'
end
end K05
set_option Elab.async false
set_option linter.all false
set_option maxRecDepth 100000
namespace K05
/-! ### labels -/
def mrg (L : List Nat) (a b : Nat) : List Nat := L.map fun x => if x = a ∨ x = b then min a b else x
def stp (m : Nat) (L : List Nat) (p : Nat × Nat) : List Nat := mrg L (L.getD p.1 0) (L.getD (m + p.2) 0)
def labs (m n : Nat) (ps : List (Nat × Nat)) : List Nat := ps.foldl (stp m) (List.range (m + n))
theorem mrg_max (L : List Nat) (a b : Nat) : (L.map fun x => if x = max a b then min a b else x) = mrg L a b := by
  refine List.map_congr_left fun x _ => ?_
  by_cases h : x = max a b
  · have h' : x = a ∨ x = b := by omega
    rw [if_pos h, if_pos h']
  · by_cases h' : x = a ∨ x = b
    · rw [if_neg h, if_pos h']
      omega
    · rw [if_neg h, if_neg h']
theorem mrg_len (L : List Nat) (a b : Nat) : (mrg L a b).length = L.length := List.length_map _
theorem foldl_len (m : Nat) : ∀ (ps : List (Nat × Nat)) (L : List Nat), (ps.foldl (stp m) L).length = L.length
  | [], _ => rfl
  | p :: ps, L => by
    show (ps.foldl (stp m) (stp m L p)).length = _
    rw [foldl_len m ps]
    exact mrg_len _ _ _
theorem labs_len (m n : Nat) (ps : List (Nat × Nat)) : (labs m n ps).length = m + n := by
  unfold labs
  rw [foldl_len, List.length_range]
theorem labs_take {m n i : Nat} {ps : List (Nat × Nat)} {p : Nat × Nat} (h : ps[i]? = some p) : labs m n (ps.take (i + 1)) = stp m (labs m n (ps.take i)) p := by
  unfold labs
  rw [List.take_add_one, h, List.foldl_append]
  rfl
/-- labels lead to themselves, and not up -/
structure Lab (L : List Nat) : Prop where
  idem : ∀ i, i < L.length → L.getD (L.getD i 0) 0 = L.getD i 0
  le : ∀ i, i < L.length → L.getD i 0 ≤ i
theorem getD_map {α β : Type} {L : List α} {g : α → β} {i : Nat} {d : α} {e : β} (h : i < L.length) : (L.map g).getD i e = g (L.getD i d) := by
  rw [List.getD_eq_getElem?_getD, List.getD_eq_getElem?_getD, List.getElem?_map, List.getElem?_eq_getElem h]
  rfl
theorem Lab.range (n : Nat) : Lab (List.range n) := by
  have g : ∀ i, i < n → (List.range n).getD i 0 = i := fun i h => by
    rw [List.getD_eq_getElem?_getD, List.getElem?_range h]
    rfl
  refine ⟨fun i h => ?_, fun i h => ?_⟩
  · rw [List.length_range] at h
    rw [g i h, g i h]
  · rw [List.length_range] at h
    rw [g i h]
    exact Nat.le_refl _
theorem Lab.stp {L : List Nat} {m : Nat} {p : Nat × Nat} (h : Lab L) (h1 : p.1 < L.length) (h2 : m + p.2 < L.length) : Lab (stp m L p) := by
  unfold K05.stp
  obtain ⟨a, ha⟩ : ∃ a, a = L.getD p.1 0 := ⟨_, rfl⟩
  obtain ⟨b, hb⟩ : ∃ b, b = L.getD (m + p.2) 0 := ⟨_, rfl⟩
  have ia : L.getD a 0 = a := by rw [ha]; exact h.idem _ h1
  have ib : L.getD b 0 = b := by rw [hb]; exact h.idem _ h2
  have la : a < L.length := by have := h.le _ h1; omega
  have lb : b < L.length := by have := h.le _ h2; omega
  rw [← ha, ← hb]
  have g : ∀ i, i < L.length → (mrg L a b).getD i 0 = if L.getD i 0 = a ∨ L.getD i 0 = b then min a b else L.getD i 0 := fun i hi => getD_map hi
  refine ⟨fun i hi => ?_, fun i hi => ?_⟩
  · rw [mrg_len] at hi
    rw [g i hi]
    by_cases c : L.getD i 0 = a ∨ L.getD i 0 = b
    · rw [if_pos c]
      rcases Nat.le_total a b with e | e
      · rw [Nat.min_eq_left e, g a la, ia, if_pos (.inl rfl), Nat.min_eq_left e]
      · rw [Nat.min_eq_right e, g b lb, ib, if_pos (.inr rfl), Nat.min_eq_right e]
    · rw [if_neg c]
      have hl : L.getD i 0 < L.length := Nat.lt_of_le_of_lt (h.le i hi) hi
      rw [g _ hl, h.idem i hi, if_neg c]
  · rw [mrg_len] at hi
    rw [g i hi]
    have := h.le i hi
    by_cases c : L.getD i 0 = a ∨ L.getD i 0 = b
    · rw [if_pos c]
      omega
    · rw [if_neg c]
      exact this
theorem Lab.fold {m : Nat} : ∀ {ps : List (Nat × Nat)} {L : List Nat}, Lab L → (∀ p ∈ ps, p.1 < L.length ∧ m + p.2 < L.length) → Lab (ps.foldl (K05.stp m) L)
  | [], _, h, _ => h
  | p :: ps, L, h, hp => by
    show Lab (ps.foldl (K05.stp m) (K05.stp m L p))
    refine Lab.fold (h.stp (hp p List.mem_cons_self).1 (hp p List.mem_cons_self).2) fun q hq => ?_
    rw [show (K05.stp m L p).length = L.length from mrg_len _ _ _]
    exact hp q (List.mem_cons_of_mem _ hq)
theorem labs_lab {m n : Nat} {ps : List (Nat × Nat)} (h : ∀ p ∈ ps, p.1 < m ∧ p.2 < n) : Lab (labs m n ps) := by
  refine Lab.fold (Lab.range _) fun p hp => ?_
  have := h p hp
  rw [List.length_range]
  omega
/-! ### pieces -/
def ours (m : Nat) (L : List Nat) (k : Nat) : List Nat := (List.range m).filter fun i => decide (L.getD i 0 = k)
def theirs (m n : Nat) (L : List Nat) (k : Nat) : List Nat := (List.range n).filter fun c => decide (L.getD (m + c) 0 = k)
def heads (L : List Nat) : List Nat := (List.range L.length).filter fun k => decide (L.getD k 0 = k)
def pcs (m n : Nat) (L : List Nat) : List (List Nat × List Nat) := (heads L).map fun k => (ours m L k, theirs m n L k)
def places (L : List Nat) (k : Nat) : List Nat := (List.range L.length).filter fun i => decide (L.getD i 0 = k)
theorem range_split (m n : Nat) : List.range (m + n) = List.range m ++ (List.range n).map (m + ·) := List.range_add
theorem places_ours {m n : Nat} {L : List Nat} (h : L.length = m + n) (k : Nat) : ((places L k).filter fun p => decide (p < m)) = ours m L k := by
  unfold places ours
  rw [h, range_split, List.filter_append, List.filter_append, List.filter_filter, List.filter_filter]
  have e : ((List.range n).map (m + ·)).filter (fun a => decide (a < m) && decide (L.getD a 0 = k)) = [] := by
    refine List.filter_eq_nil_iff.mpr fun a ha => ?_
    obtain ⟨c, _, rfl⟩ := List.mem_map.mp ha
    have : ¬ m + c < m := by omega
    simp only [this, decide_false, Bool.false_and]
    exact Bool.false_ne_true
  rw [e, List.append_nil]
  refine List.filter_congr fun a ha => ?_
  have : a < m := List.mem_range.mp ha
  rw [decide_eq_true this, Bool.true_and]
theorem places_theirs {m n : Nat} {L : List Nat} (h : L.length = m + n) (k : Nat) : (((places L k).filter fun p => decide (m ≤ p)).map (· - m)) = theirs m n L k := by
  unfold places theirs
  rw [h, range_split, List.filter_append, List.filter_append, List.filter_filter, List.filter_filter]
  have e : (List.range m).filter (fun a => decide (m ≤ a) && decide (L.getD a 0 = k)) = [] := by
    refine List.filter_eq_nil_iff.mpr fun a ha => ?_
    have := List.mem_range.mp ha
    have : ¬ m ≤ a := by omega
    simp only [this, decide_false, Bool.false_and]
    exact Bool.false_ne_true
  rw [e, List.nil_append, List.filter_map, List.map_map]
  rw [show ((fun x : Nat => x - m) ∘ fun x => m + x) = id from funext fun x => Nat.add_sub_cancel_left m x, List.map_id]
  refine List.filter_congr fun a _ => ?_
  show (decide (m ≤ m + a) && decide (L.getD (m + a) 0 = k)) = _
  rw [decide_eq_true (Nat.le_add_right m a), Bool.true_and]
/-- the labels that occur are the heads -/
theorem mem_heads {L : List Nat} (h : Lab L) {k : Nat} : k ∈ heads L ↔ k ∈ L := by
  unfold heads
  rw [List.mem_filter, List.mem_range, decide_eq_true_iff]
  constructor
  · rintro ⟨h1, h2⟩
    rw [List.getD_eq_getElem?_getD, List.getElem?_eq_getElem h1] at h2
    exact h2 ▸ List.getElem_mem h1
  · intro hk
    obtain ⟨i, hi, e⟩ := List.getElem_of_mem hk
    have e1 : L.getD i 0 = k := by
      rw [List.getD_eq_getElem?_getD, List.getElem?_eq_getElem hi]
      exact e
    have := h.le i hi
    refine ⟨by omega, ?_⟩
    have := h.idem i hi
    rwa [e1] at this
theorem heads_sorted (L : List Nat) : (heads L).Pairwise (· < ·) := List.Pairwise.sublist List.filter_sublist List.pairwise_lt_range
/-- two rising lists with the same members are the same -/
theorem rising_eq : ∀ {xs ys : List Int}, xs.Pairwise (· < ·) → ys.Pairwise (· < ·) → (∀ z, z ∈ xs ↔ z ∈ ys) → xs = ys
  | [], [], _, _, _ => rfl
  | [], y :: ys, _, _, h => nomatch (h y).mpr List.mem_cons_self
  | x :: xs, [], _, _, h => nomatch (h x).mp List.mem_cons_self
  | x :: xs, y :: ys, hx, hy, h => by
    obtain ⟨hx1, hx2⟩ := List.pairwise_cons.mp hx
    obtain ⟨hy1, hy2⟩ := List.pairwise_cons.mp hy
    have e : x = y := by
      rcases List.mem_cons.mp ((h x).mp List.mem_cons_self) with e | e
      · exact e
      · rcases List.mem_cons.mp ((h y).mpr List.mem_cons_self) with e' | e'
        · exact e'.symm
        · have a := hx1 y e'
          have b := hy1 x e
          omega
    subst e
    rw [rising_eq hx2 hy2 fun z => ?_]
    constructor
    · intro hz
      rcases List.mem_cons.mp ((h z).mp (List.mem_cons_of_mem _ hz)) with e | e
      · have := hx1 z hz
        omega
      · exact e
    · intro hz
      rcases List.mem_cons.mp ((h z).mpr (List.mem_cons_of_mem _ hz)) with e | e
      · have := hy1 z hz
        omega
      · exact e
end K05
set_option Elab.async false
set_option linter.all false
set_option maxRecDepth 100000
set_option maxHeartbeats 4000000
namespace K05
open PySem PySem.Spec PyProof.Rows L2
theorem get_nV {L : List Nat} {i : Nat} (h : i < L.length) : atI (L.map nV) (i : Int) = some (nV (L.getD i 0)) := by
  refine atI_nat ?_
  rw [List.getElem?_map, List.getD_eq_getElem?_getD, List.getElem?_eq_getElem h]
  rfl
theorem item_nV {L : List Nat} {i : Nat} {x : V} (h : (L.map nV)[i]? = some x) : i < L.length ∧ x = nV (L.getD i 0) := by
  rw [List.getElem?_map] at h
  have hi : i < L.length := by
    cases e : L[i]? with
    | none => rw [e] at h; cases h
    | some c => exact (List.getElem?_eq_some_iff.mp e).1
  rw [List.getElem?_eq_getElem hi] at h
  rw [List.getD_eq_getElem?_getD, List.getElem?_eq_getElem hi]
  exact ⟨hi, (Option.some.inj h).symm⟩
theorem nV_eq {a b : Nat} : (nV a = nV b) ↔ a = b := ⟨fun h => Int.ofNat.inj (V.int.inj h), fun h => by rw [h]⟩
theorem take_succ_map {L : List Nat} {i : Nat} (h : i < L.length) : L.take (i + 1) = L.take i ++ [L.getD i 0] := by
  rw [List.take_add_one, List.getD_eq_getElem?_getD, List.getElem?_eq_getElem h]
  rfl
section
variable {P : Program} {w : World} {K : PySem.W.Frag} {mg : Str → Option Value} {base : Heap} {f : Addr} {fd : FuncData}
/-! ### merged_labels -/
abbrev merged_labels_N : List Str := ["labels", "first", "second", "one", "two", "least", "label"]
theorem merged_labels_sc : FnScope ["labels", "first", "second", "one", "two", "least", "label"] ["labels", "first", "second"] (defScope merged_labels_st) := ⟨rfl, rfl, rfl, by decide +kernel, rfl, by decide +kernel, by decide +kernel⟩
/-- a new list of the numbers ns -/
def New (H : Hp) (Q : VK) (xs : List V) : Prop := ∀ (H' : Hp) (D : Addr), Same H H' → H D = none → H' D = some (.lst xs) → Q (.ref D) H'
def spMerged : Sp := fun vs H Q _ => ∃ (a : Addr) (L : List Nat) (i j : Nat), vs = [.ref a, nV i, nV j] ∧ H a = some (.lst (L.map nV)) ∧ i < L.length ∧ j < L.length ∧ L.length ≤ 16 ∧ New H Q ((mrg L (L.getD i 0) (L.getD j 0)).map nV)
theorem ok_merged (F : FnS K "merged_labels" merged_labels_st f fd) (m_min : mg "min" = none) : FnOk P w K mg base (L2N.CX P w) 1 f fd ["labels", "first", "second"] spMerged := by
  refine F.ok merged_labels_sc (fun vs H Q E h => ?_) (fun cdv A outer s H vs Q E hr h => ?_)
  · obtain ⟨a, L, i, j, rfl, _⟩ := h
    rfl
  · obtain ⟨a, L, i, j, rfl, ha, hi, hj, h16, q⟩ := h
    refine ⟨_, (pss_cons (ps_set (i := 3) merged_labels_sc.nd rfl (Or.inr rfl) (pe_ix ix_list (pv 0) (pv 1) (fun _ _ => rfl)))
      (pss_cons (ps_set (i := 4) merged_labels_sc.nd rfl (Or.inr rfl) (pe_ix ix_list (pv 0) (pv 2) (fun _ _ => rfl)))
      (pss_cons (ps_set (i := 5) merged_labels_sc.nd rfl (Or.inr rfl) (pe_callB (call_min2 rfl) (by rfl) m_min (by decide +kernel) (pa_cons (pv 3) (pa_cons (pv 4) pa_nil))))
      (pss_one (ps_ret (pe_lc (own := [("label", 6)]) rfl merged_labels_sc.nd (pi_list (pv 0)) (blkOk_by (own := [("label", 6)]) (N := merged_labels_N) (sc := defScope merged_labels_st) (by decide +kernel)) (fun _ _ _ _ _ => (pg_name (i := 6) merged_labels_sc.nd rfl (Or.inl rfl))) (fun _ _ _ _ _ => pts_nil) (fun _ _ _ _ _ => (pe_ifExp (PW.pt (pw_or (pt_cmpR op_eq (pv 6) (pv 3) (nomark _)) (pw_or1 (pt_cmpR op_eq (pv 6) (pv 4) (nomark _))))) (pv 5) (pv 6))))))))), ?_⟩
    refine ⟨.ref a, rfl, nV i, rfl, a, _, (i : Int), nV (L.getD i 0), rfl, rfl, sq ha, get_nV hi, ?_⟩
    refine ⟨.ref a, rfl, nV j, rfl, a, _, (j : Int), nV (L.getD j 0), rfl, rfl, sq ha, get_nV hj, ?_⟩
    refine ⟨nV (L.getD i 0), rfl, nV (L.getD j 0), rfl, _, _, rfl, ?_⟩
    have emin : (if ((L.getD j 0 : Nat) : Int) < ((L.getD i 0 : Nat) : Int) then ((L.getD j 0 : Nat) : Int) else ((L.getD i 0 : Nat) : Int)) = ((min (L.getD i 0) (L.getD j 0) : Nat) : Int) := by
      split <;> omega
    dsimp only
    rw [emin]
    refine ⟨.ref a, rfl, a, rfl, ⟨_, sq ha⟩, fun D nD => ?_⟩
    refine lc_list (K := K) (a := a) (xs := L.map nV) (fun i' H' => Same H H' ∧ H' D = some (.lst ((mrg (L.take i') (L.getD i 0) (L.getD j 0)).map nV))) ⟨Same.new nD, upd_same⟩ (fun i' H' _ h => sq (h.1 _ _ ha)) (fun i' x H' hx h => ?_) (fun H' h => ?_)
    · obtain ⟨sm, hD⟩ := h
      obtain ⟨hi', rfl⟩ := item_nV hx
      have hlen : ((mrg (L.take i') (L.getD i 0) (L.getD j 0)).map nV).length < sizeLine := small1000 (by rw [List.length_map, mrg_len, List.length_take]; omega)
      have fin : ∀ y : Nat, (y = if L.getD i' 0 = L.getD i 0 ∨ L.getD i' 0 = L.getD j 0 then min (L.getD i 0) (L.getD j 0) else L.getD i' 0) → Same H (upd H' D (.lst ((mrg (L.take i') (L.getD i 0) (L.getD j 0)).map nV ++ [nV y]))) ∧ (upd H' D (.lst ((mrg (L.take i') (L.getD i 0) (L.getD j 0)).map nV ++ [nV y]))) D = some (.lst ((mrg (L.take (i' + 1)) (L.getD i 0) (L.getD j 0)).map nV)) := fun y e => by
        refine ⟨sm.mut nD, ?_⟩
        subst e
        rw [upd_same, take_succ_map hi']
        unfold mrg
        rw [List.map_append, List.map_append]
        rfl
      refine ⟨rfl, ?_⟩
      refine ⟨nV (L.getD i' 0), rfl, nV (L.getD i 0), rfl, ⟨rfl, _, rfl, ite2 (fun e => ?_) (fun e => ?_)⟩⟩
      · have e := nV_eq.mp (of_decide_eq_true e)
        refine iteT ⟨_, rfl, _, hD, hlen, fin _ (by rw [if_pos (.inl e)])⟩
      · have e : ¬ L.getD i' 0 = L.getD i 0 := fun z => e (decide_eq_true (nV_eq.mpr z))
        refine ⟨nV (L.getD i' 0), rfl, nV (L.getD j 0), rfl, ⟨rfl, _, rfl, ?_⟩⟩
        refine ite2 (fun e2 => ?_) (fun e2 => ?_)
        · have e2 := nV_eq.mp (of_decide_eq_true e2)
          refine ⟨_, rfl, _, hD, hlen, fin _ (by rw [if_pos (.inr e2)])⟩
        · have e2 : ¬ L.getD i' 0 = L.getD j 0 := fun z => e2 (decide_eq_true (nV_eq.mpr z))
          refine ⟨_, rfl, _, hD, hlen, fin _ (by rw [if_neg (fun z => z.elim e e2)])⟩
    · obtain ⟨sm, hD⟩ := h
      rw [List.length_map, List.take_length] at hD
      exact q H' D sm nD hD
end
end K05
set_option Elab.async false
set_option linter.all false
set_option maxRecDepth 100000
set_option maxHeartbeats 4000000
namespace K05
open PySem PySem.Spec PyProof.Rows L2
theorem rgV_nV (N : Nat) : rgV 0 (N : Int) = (List.range N).map nV := by
  unfold rgV
  rw [Int.sub_zero, Int.toNat_natCast]
  refine List.map_congr_left fun i _ => ?_
  rw [Int.zero_add]
  rfl
theorem item_zV {zs : List Z} {i : Nat} {x : V} (h : (zs.map zV)[i]? = some x) : ∃ z, zs[i]? = some z ∧ z ∈ zs ∧ x = zV z := by
  rw [List.getElem?_map] at h
  cases e : zs[i]? with
  | none => rw [e] at h; cases h
  | some z => rw [e] at h; exact ⟨z, rfl, List.mem_of_getElem? e, (Option.some.inj h).symm⟩
theorem zs_at {zs : List Z} {i : Nat} {z : Z} (h : zs[i]? = some z) : (zs.map (·.2))[i]? = some z.2 := by
  rw [List.getElem?_map, h]
  rfl
def InR (m n : Nat) (zs : List Z) : Prop := ∀ z ∈ zs, z.2.1 < m ∧ z.2.2 < n
theorem filter_succ (g : Nat → Bool) (i : Nat) : (List.range (i + 1)).filter g = (List.range i).filter g ++ if g i = true then [i] else [] := by
  rw [List.range_succ, List.filter_append]
  congr 1
  by_cases h : g i = true
  · rw [if_pos h, List.filter_cons_of_pos h]
    rfl
  · rw [if_neg h, List.filter_cons_of_neg h]
    rfl
theorem one_pos {g : Nat → Bool} {x : Nat} (h : g x = true) : [x].filter g = [x] := List.filter_cons_of_pos h
theorem one_neg {g : Nat → Bool} {x : Nat} (h : ¬ g x = true) : [x].filter g = [] := List.filter_cons_of_neg h
theorem filter_le (g : Nat → Bool) (xs : List Nat) : ((xs.filter g).map nV).length ≤ xs.length := by
  rw [List.length_map]
  exact List.length_filter_le _ _
section
variable {P : Program} {w : World} {K : PySem.W.Frag} {mg : Str → Option Value} {base : Heap} {f : Addr} {fd : FuncData}
/-! ### place_labels -/
abbrev place_labels_N : List Str := ["depots", "customers", "routes", "labels", "depot", "customer"]
theorem place_labels_sc : FnScope ["depots", "customers", "routes", "labels", "depot", "customer"] ["depots", "customers", "routes"] (defScope place_labels_st) := ⟨rfl, rfl, rfl, by decide +kernel, rfl, by decide +kernel, by decide +kernel⟩
def spLabels : Sp := fun vs H Q _ => ∃ (a : Addr) (m n : Nat) (zs : List Z), vs = [nV m, nV n, .ref a] ∧ H a = some (.lst (zs.map zV)) ∧ PrZ H zs ∧ InR m n zs ∧ m ≤ 8 ∧ n ≤ 8 ∧ New H Q ((labs m n (zs.map (·.2))).map nV)
theorem ok_labels {f1 : Addr} {fd1 : FuncData} (F : FnS K "place_labels" place_labels_st f fd) (m_list : mg "list" = none) (m_range : mg "range" = none) (D_merged_labels : Dn P w K mg base 1 "merged_labels" ["labels", "first", "second"] spMerged f1 fd1) : FnOk P w K mg base (L2N.CX P w) 2 f fd ["depots", "customers", "routes"] spLabels := by
  refine F.ok place_labels_sc (fun vs H Q E h => ?_) (fun cdv A outer s H vs Q E hr h => ?_)
  · obtain ⟨a, m, n, zs, rfl, _⟩ := h
    rfl
  · obtain ⟨a, m, n, zs, rfl, ha, pr, inr, m8, n8, q⟩ := h
    refine ⟨_, (pss_cons (ps_set (i := 3) place_labels_sc.nd rfl (Or.inl rfl) (pe_listRg rfl rfl m_list (prg_1 rfl m_range (pe_op op_add (pv 0) (pv 1)))))
      (pss_cons (ps_for (passes_of rfl) rfl (pi_list (pv 2)) (pg_tup rfl (pgs_cons (pg_name (i := 4) place_labels_sc.nd rfl (Or.inl rfl)) (pgs_cons (pg_name (i := 5) place_labels_sc.nd rfl (Or.inl rfl)) pgs_nil)))
      (pss_one (ps_set (i := 3) place_labels_sc.nd rfl (Or.inl rfl) (pe_call D_merged_labels.ok (hr.mono (by decide)) rfl D_merged_labels.g D_merged_labels.kp D_merged_labels.b .nil ErrX.passN (pa_cons (pv 3) (pa_cons (pv 4) (pa_cons (pe_op op_add (pv 0) (pv 5)) pa_nil)))))))
      (pss_one (ps_ret (pv 3))))), ?_⟩
    refine ⟨nV m, rfl, nV n, rfl, m, n, rfl, rfl, _, rfl, ⟨by omega, by omega, by omega, by omega, by omega⟩, fun D0 n0 => ?_⟩
    refine ⟨.ref a, rfl, a, rfl, ⟨_, sq (Same.new n0 _ _ ha)⟩, ?_⟩
    refine for_list (K := K) (a := a) (xs := zs.map zV) (fun i σ H' => ∃ (D : Addr) (y4 y5 : Option V), σ = [some (nV m), some (nV n), some (.ref a), some (.ref D), y4, y5] ∧ Same H H' ∧ H D = none ∧ H' D = some (.lst ((labs m n ((zs.map (·.2)).take i)).map nV))) ⟨D0, none, none, rfl, Same.new n0, n0, ?_⟩ (fun i σ H' _ h => ?_) (fun i x σ H' hx h => ?_) (fun σ H' h => ?_)
    · rw [upd_same]
      exact congrArg (fun z => some (HO.lst z)) (rgV_nV (m + n))
    · obtain ⟨D, y4, y5, _, sm, _⟩ := h
      exact sq (sm _ _ ha)
    · obtain ⟨D, y4, y5, rfl, sm, nD, hD⟩ := h
      obtain ⟨z, ez, mz, rfl⟩ := item_zV hx
      have hz := sm _ _ (pr z mz)
      obtain ⟨r1, r2⟩ := inr z mz
      have hl := labs_len m n ((zs.map (·.2)).take i)
      refine ⟨z.1, [nV z.2.1, nV z.2.2], rfl, sqt hz, rfl, nV z.2.1, [nV z.2.2], rfl, nV z.2.2, [], rfl, rfl, ?_⟩
      refine ⟨.ref D, rfl, nV z.2.1, rfl, nV m, rfl, nV z.2.2, rfl, m, z.2.2, rfl, rfl, D, labs m n ((zs.map (·.2)).take i), z.2.1, m + z.2.2, rfl, hD, by omega, by omega, by omega, fun H2 D2 s2 n2 h2 => ?_⟩
      refine ⟨D2, _, _, rfl, sm.trans s2, sm.back n2, ?_⟩
      rw [h2, labs_take (zs_at ez)]
      rfl
    · obtain ⟨D, y4, y5, rfl, sm, nD, hD⟩ := h
      rw [List.take_of_length_le (by rw [List.length_map, List.length_map]; exact Nat.le_refl _)] at hD
      exact ⟨.ref D, rfl, q H' D sm nD hD⟩
/-! ### labelled_piece -/
abbrev labelled_piece_N : List Str := ["labels", "depots", "label", "places", "place"]
theorem labelled_piece_sc : FnScope ["labels", "depots", "label", "places", "place"] ["labels", "depots", "label"] (defScope labelled_piece_st) := ⟨rfl, rfl, rfl, by decide +kernel, rfl, by decide +kernel, by decide +kernel⟩
/-- a piece at t, its two lists at o and u -/
structure PcAt (H : Hp) (t o u : Addr) (xs ys : List Nat) : Prop where
  ht : H t = some (.tup [.ref o, .ref u])
  ho : H o = some (.lst (xs.map nV))
  hu : H u = some (.lst (ys.map nV))
theorem PcAt.keep {H H' : Hp} {t o u : Addr} {xs ys : List Nat} (h : PcAt H t o u xs ys) (e : Same H H') : PcAt H' t o u xs ys := ⟨e _ _ h.ht, e _ _ h.ho, e _ _ h.hu⟩
def NewPc (H : Hp) (Q : VK) (xs ys : List Nat) : Prop := ∀ (H' : Hp) (t o u : Addr), Same H H' → H t = none → H o = none → H u = none → PcAt H' t o u xs ys → Q (.ref t) H'
def spPiece : Sp := fun vs H Q _ => ∃ (a : Addr) (L : List Nat) (m n k : Nat), vs = [.ref a, nV m, nV k] ∧ H a = some (.lst (L.map nV)) ∧ L.length = m + n ∧ m ≤ 8 ∧ n ≤ 8 ∧ NewPc H Q (ours m L k) (theirs m n L k)
theorem ok_piece (F : FnS K "labelled_piece" labelled_piece_st f fd) (m_len : mg "len" = none) (m_range : mg "range" = none) : FnOk P w K mg base (L2N.CX P w) 1 f fd ["labels", "depots", "label"] spPiece := by
  refine F.ok labelled_piece_sc (fun vs H Q E h => ?_) (fun cdv A outer s H vs Q E hr h => ?_)
  · obtain ⟨a, L, m, n, k, rfl, _⟩ := h
    rfl
  · obtain ⟨a, L, m, n, k, rfl, ha, hl, m8, n8, q⟩ := h
    refine ⟨_, (pss_cons (ps_setLc (i := 3) (own := [("place", 4)]) rfl labelled_piece_sc.nd rfl rfl (sw_true rfl rfl rfl (by decide +kernel)) (pi_range1 rfl m_range (pa_cons (pe_callB call_len_seq (by rfl) m_len (by decide +kernel) (pa_cons (pv 0) pa_nil)) pa_nil)) (blkOk_by (own := [("place", 4)]) (N := labelled_piece_N) (sc := defScope labelled_piece_st) (by decide +kernel)) (fun _ _ _ _ _ => (pg_name (i := 4) labelled_piece_sc.nd rfl (Or.inl rfl))) (fun _ _ _ _ _ => (pts_one (pt_cmpR op_eq (pe_ix (ix_list : IxR _ (rIxL K)) (pv 0) (pv 4) (fun _ _ => rfl)) (pv 2) (nomark _)))) (fun _ _ _ _ _ => (pv 4)))
      (pss_one (ps_ret (pe_tup (pa_cons (pe_lc (own := [("place", 4)]) rfl labelled_piece_sc.nd (pi_list (pv 3)) (blkOk_by (own := [("place", 4)]) (N := labelled_piece_N) (sc := defScope labelled_piece_st) (by decide +kernel)) (fun _ _ _ _ _ => (pg_name (i := 4) labelled_piece_sc.nd rfl (Or.inl rfl))) (fun _ _ _ _ _ => (pts_one (pt_cmpR op_lt (pv 4) (pv 1) (nomark _)))) (fun _ _ _ _ _ => (pv 4))) (pa_cons (pe_lc (own := [("place", 4)]) rfl labelled_piece_sc.nd (pi_list (pv 3)) (blkOk_by (own := [("place", 4)]) (N := labelled_piece_N) (sc := defScope labelled_piece_st) (by decide +kernel)) (fun _ _ _ _ _ => (pg_name (i := 4) labelled_piece_sc.nd rfl (Or.inl rfl))) (fun _ _ _ _ _ => (pts_one (pt_cmpR op_ge (pv 4) (pv 1) (nomark _)))) (fun _ _ _ _ _ => (pe_op op_sub (pv 4) (pv 1)))) pa_nil)))))), ?_⟩
    refine ⟨.ref a, rfl, a, _, rfl, .inl (sq ha), _, rfl, by rw [List.length_map]; omega, by rw [List.length_map]; omega, fun D nD => ?_⟩
    rw [List.length_map, Int.toNat_natCast]
    refine lc_range (lo := 0) (n := L.length) (fun i H' => Same H H' ∧ H' D = some (.lst (((List.range i).filter fun p => decide (L.getD p 0 = k)).map nV))) ⟨Same.new nD, upd_same⟩ (fun i H' hi h => ?_) (fun H1 h => ?_)
    · obtain ⟨sm, hD⟩ := h
      have e0 : V.int (0 + (i : Int)) = nV i := congrArg V.int (Int.zero_add _)
      rw [e0]
      refine ⟨rfl, ?_⟩
      refine ⟨.ref a, rfl, nV i, rfl, a, _, (i : Int), nV (L.getD i 0), rfl, rfl, sq (sm _ _ ha), get_nV hi, nV k, rfl, ⟨rfl, _, rfl, ite2 (fun e => ?_) (fun e => ?_)⟩⟩
      · have e := nV_eq.mp (of_decide_eq_true e)
        refine ⟨nV i, rfl, _, hD, small1000 (Nat.le_trans (filter_le _ _) (by rw [List.length_range]; omega)), sm.mut nD, ?_⟩
        rw [upd_same, filter_succ, if_pos (decide_eq_true e), List.map_append]
        rfl
      · have e : ¬ L.getD i 0 = k := fun z => e (decide_eq_true (nV_eq.mpr z))
        refine ⟨sm, ?_⟩
        rw [filter_succ, if_neg (fun z => e (of_decide_eq_true z)), List.append_nil]
        exact hD
    · obtain ⟨s1, hD⟩ := h
      change H1 D = some (.lst ((places L k).map nV)) at hD
      have pl : (places L k).length ≤ 16 := by
        unfold places
        have := List.length_filter_le (fun i => decide (L.getD i 0 = k)) (List.range L.length)
        rw [List.length_range] at this
        omega
      refine ⟨.ref D, rfl, D, rfl, ⟨_, sq hD⟩, fun o no => ?_⟩
      refine lc_list (K := K) (a := D) (xs := (places L k).map nV) (fun i H' => Same H1 H' ∧ H' o = some (.lst ((((places L k).take i).filter fun p => decide (p < m)).map nV))) ⟨Same.new no, upd_same⟩ (fun i H' _ h => sq (h.1 _ _ hD)) (fun i x H' hx h => ?_) (fun H2 h => ?_)
      · obtain ⟨sm, hO⟩ := h
        obtain ⟨hi, rfl⟩ := item_nV hx
        refine ⟨rfl, ?_⟩
        refine ⟨_, rfl, nV m, rfl, _, _, rfl, rfl, _, rfl, ite2 (fun e => ?_) (fun e => ?_)⟩
        · have e : (places L k).getD i 0 < m := Int.ofNat_lt.mp (of_decide_eq_true e)
          refine ⟨_, rfl, _, hO, small1000 (Nat.le_trans (filter_le _ _) (by rw [List.length_take]; omega)), sm.mut no, ?_⟩
          rw [upd_same, take_succ_map hi, List.filter_append, one_pos (g := fun p => decide (p < m)) (decide_eq_true e), List.map_append]
          rfl
        · have e : ¬ (places L k).getD i 0 < m := fun z => e (decide_eq_true (Int.ofNat_lt.mpr z))
          refine ⟨sm, ?_⟩
          rw [take_succ_map hi, List.filter_append, one_neg (g := fun p => decide (p < m)) (fun z => e (of_decide_eq_true z)), List.append_nil]
          exact hO
      · obtain ⟨s2, hO⟩ := h
        rw [List.length_map, List.take_length, places_ours hl] at hO
        have hD2 := s2 _ _ hD
        refine ⟨.ref D, rfl, D, rfl, ⟨_, sq hD2⟩, fun u nu => ?_⟩
        refine lc_list (K := K) (a := D) (xs := (places L k).map nV) (fun i H' => Same H2 H' ∧ H' u = some (.lst (((((places L k).take i).filter fun p => decide (m ≤ p)).map (· - m)).map nV))) ⟨Same.new nu, upd_same⟩ (fun i H' _ h => sq (h.1 _ _ hD2)) (fun i x H' hx h => ?_) (fun H3 h => ?_)
        · obtain ⟨sm, hU⟩ := h
          obtain ⟨hi, rfl⟩ := item_nV hx
          refine ⟨rfl, ?_⟩
          refine ⟨_, rfl, nV m, rfl, _, _, rfl, rfl, _, rfl, ite2 (fun e => ?_) (fun e => ?_)⟩
          · have e : m ≤ (places L k).getD i 0 := Int.ofNat_le.mp (of_decide_eq_true e)
            refine ⟨_, rfl, nV m, rfl, _, _, rfl, rfl, _, hU, small1000 (Nat.le_trans (Nat.le_of_eq (List.length_map _)) (Nat.le_trans (Nat.le_of_eq (List.length_map _)) (Nat.le_trans (List.length_filter_le _ _) (by rw [List.length_take]; omega)))), sm.mut nu, ?_⟩
            rw [upd_same, take_succ_map hi, List.filter_append, one_pos (g := fun p => decide (m ≤ p)) (decide_eq_true e), List.map_append, List.map_append]
            refine congrArg (fun z => some (HO.lst (_ ++ [z]))) ?_
            show V.int (((places L k).getD i 0 : Nat) - (m : Int)) = V.int _
            rw [← Int.ofNat_sub e]
          · have e : ¬ m ≤ (places L k).getD i 0 := fun z => e (decide_eq_true (Int.ofNat_le.mpr z))
            refine ⟨sm, ?_⟩
            rw [take_succ_map hi, List.filter_append, one_neg (g := fun p => decide (m ≤ p)) (fun z => e (of_decide_eq_true z)), List.append_nil]
            exact hU
        · obtain ⟨s3, hU⟩ := h
          rw [List.length_map, List.take_length, places_theirs hl] at hU
          refine ⟨len2, fun t nt => ?_⟩
          have s4 := Same.new (o := .tup [V.ref o, V.ref u]) nt
          have s12 := s1.trans s2
          have s123 := s12.trans s3
          exact q _ t o u (s123.trans s4) (s123.back nt) (s1.back no) (s12.back nu) ⟨upd_same, s4 _ _ (s3 _ _ hO), s4 _ _ hU⟩
end
end K05
set_option Elab.async false
set_option linter.all false
set_option maxRecDepth 100000
set_option maxHeartbeats 4000000
namespace K05
open PySem PySem.Spec PyProof.Rows L2
/-- a piece told: the tuple, its two lists, what they hold -/
structure P4 where
  t : Addr
  o : Addr
  u : Addr
  d : List Nat × List Nat
def pV (z : P4) : V := .ref z.t
def PcZ (H : Hp) (ws : List P4) : Prop := ∀ z ∈ ws, PcAt H z.t z.o z.u z.d.1 z.d.2
theorem PcZ.keep {H H' : Hp} {ws : List P4} (h : PcZ H ws) (e : Same H H') : PcZ H' ws := fun z m => (h z m).keep e
/-- all of ws is new -/
def FrZ (H : Hp) (ws : List P4) : Prop := ∀ z ∈ ws, H z.t = none ∧ H z.o = none ∧ H z.u = none
theorem PcAt.upd {H : Hp} {D : Addr} {xs : List V} {t o u : Addr} {a b : List Nat} (h : PcAt H t o u a b) {hd : List V} (hD : H D = some (.lst hd)) (no : o ≠ D) (nu : u ≠ D) : PcAt (L2.upd H D (.lst xs)) t o u a b := by
  refine ⟨?_, ?_, ?_⟩
  · rw [upd_ne (fun e => by have := h.ht; rw [e, hD] at this; cases this)]
    exact h.ht
  · rw [upd_ne no]
    exact h.ho
  · rw [upd_ne nu]
    exact h.hu
def NewPcs (H : Hp) (Q : VK) (d : List (List Nat × List Nat)) : Prop := ∀ (H' : Hp) (D : Addr) (ws : List P4), Same H H' → H D = none → H' D = some (.lst (ws.map pV)) → PcZ H' ws → FrZ H ws → ws.map P4.d = d → (∀ z ∈ ws, z.o ≠ D ∧ z.u ≠ D) → Q (.ref D) H'
section
variable {P : Program} {w : World} {K : PySem.W.Frag} {mg : Str → Option Value} {base : Heap} {f : Addr} {fd : FuncData}
/-! ### _found_pieces -/
abbrev found_pieces_N : List Str := ["depots", "customers", "routes", "labels", "label"]
theorem found_pieces_sc : FnScope ["depots", "customers", "routes", "labels", "label"] ["depots", "customers", "routes"] (defScope found_pieces_st) := ⟨rfl, rfl, rfl, by decide +kernel, rfl, by decide +kernel, by decide +kernel⟩
def spFound : Sp := fun vs H Q _ => ∃ (a : Addr) (m n : Nat) (zs : List Z), vs = [nV m, nV n, .ref a] ∧ H a = some (.lst (zs.map zV)) ∧ PrZ H zs ∧ InR m n zs ∧ m ≤ 8 ∧ n ≤ 8 ∧ NewPcs H Q (pcs m n (labs m n (zs.map (·.2))))
theorem ok_found {f1 f2 : Addr} {fd1 fd2 : FuncData} (F : FnS K "_found_pieces" found_pieces_st f fd) (m_sorted : mg "sorted" = none) (m_set : mg "set" = none) (D_place_labels : Dn P w K mg base 2 "place_labels" ["depots", "customers", "routes"] spLabels f1 fd1) (D_labelled_piece : Dn P w K mg base 1 "labelled_piece" ["labels", "depots", "label"] spPiece f2 fd2) : FnOk P w K mg base (L2N.CX P w) 3 f fd ["depots", "customers", "routes"] spFound := by
  refine F.ok found_pieces_sc (fun vs H Q E h => ?_) (fun cdv A outer s H vs Q E hr h => ?_)
  · obtain ⟨a, m, n, zs, rfl, _⟩ := h
    rfl
  · obtain ⟨a, m, n, zs, rfl, ha, pr, inr, m8, n8, q⟩ := h
    refine ⟨_, (pss_cons (ps_set (i := 3) found_pieces_sc.nd rfl (Or.inr rfl) (pe_call D_place_labels.ok (hr.mono (by decide)) rfl D_place_labels.g D_place_labels.kp D_place_labels.b .nil ErrX.passN (pa_cons (pv 0) (pa_cons (pv 1) (pa_cons (pv 2) pa_nil)))))
      (pss_one (ps_ret (pe_lc (own := [("label", 4)]) rfl found_pieces_sc.nd (pi_list (pe_callB (cr_sortedSet rfl) (by rfl) m_sorted (by decide +kernel) (pa_cons (pe_callTy (SetL.cr_setI rfl) (by rfl) m_set (by decide +kernel) (pa_cons (pv 3) pa_nil)) pa_nil))) (blkOk_by (own := [("label", 4)]) (N := found_pieces_N) (sc := defScope found_pieces_st) (by decide +kernel)) (fun _ _ _ _ _ => (pg_name (i := 4) found_pieces_sc.nd rfl (Or.inl rfl))) (fun _ _ _ _ _ => pts_nil) (fun _ _ _ _ _ => (pe_call D_labelled_piece.ok (hr.mono (by decide)) rfl D_labelled_piece.g D_labelled_piece.kp D_labelled_piece.b .nil ErrX.passN (pa_cons (pv 3) (pa_cons (pv 0) (pa_cons (pv 4) pa_nil))))))))), ?_⟩
    refine ⟨nV m, rfl, nV n, rfl, .ref a, rfl, a, m, n, zs, rfl, ha, pr, inr, m8, n8, fun H1 l s1 nl hl => ?_⟩
    have ll := labs_len m n (zs.map (·.2))
    have lb := labs_lab (m := m) (n := n) (ps := zs.map (·.2)) fun p hp => by
      obtain ⟨z, hz, rfl⟩ := List.mem_map.mp hp
      exact inr z hz
    generalize labs m n (zs.map (·.2)) = L at hl ll lb q
    refine ⟨.ref l, rfl, l, L.map fun x : Nat => (x : Int), rfl, ?_, by rw [List.length_map]; omega, fun S c nS hc => ?_⟩
    · refine sq (hl.trans ?_)
      rw [List.map_map]
      rfl
    rw [List.length_map] at hc
    have s2 := Same.new (o := SetO w S (fun j => decide (j ∈ L.map fun x : Nat => (x : Int))) c) nS
    refine ⟨S, _, c, rfl, upd_same, by omega, fun ns g hns hmem hlen ng => ?_⟩
    have ens : ns = (heads L).map fun x : Nat => (x : Int) := by
      refine rising_eq hns ?_ fun z => ?_
      · rw [List.pairwise_map]
        exact (heads_sorted L).imp fun h => Int.ofNat_lt.mpr h
      · rw [hmem, decide_eq_true_iff, List.mem_map, List.mem_map]
        exact ⟨fun ⟨k, hk, e⟩ => ⟨k, (mem_heads lb).mpr hk, e⟩, fun ⟨k, hk, e⟩ => ⟨k, (mem_heads lb).mp hk, e⟩⟩
    subst ens
    replace ng : (L2.upd H1 S (SetO w S (fun j => decide (j ∈ L.map fun x : Nat => (x : Int))) c)) g = none := ng
    have s3 := Same.new (o := .lst (((heads L).map fun x : Nat => (x : Int)).map V.int)) ng
    have s13 := s1.trans (s2.trans s3)
    have hl3 := s3 _ _ (s2 _ _ hl)
    have hg : (L2.upd (L2.upd H1 S (SetO w S (fun j => decide (j ∈ L.map fun x : Nat => (x : Int))) c)) g (.lst (((heads L).map fun x : Nat => (x : Int)).map V.int))) g = some (.lst ((heads L).map nV)) := by
      rw [upd_same, List.map_map]
      rfl
    obtain ⟨H3, eH⟩ : ∃ H3, H3 = L2.upd (L2.upd H1 S (SetO w S (fun j => decide (j ∈ L.map fun x : Nat => (x : Int))) c)) g (.lst (((heads L).map fun x : Nat => (x : Int)).map V.int)) := ⟨_, rfl⟩
    have hh : (heads L).length ≤ 16 := by
      unfold heads
      have := List.length_filter_le (fun k => decide (L.getD k 0 = k)) (List.range L.length)
      rw [List.length_range] at this
      omega
    refine ⟨g, rfl, ⟨_, sq hg⟩, fun D nD => ?_⟩
    replace nD : (L2.upd (L2.upd H1 S (SetO w S (fun j => decide (j ∈ L.map fun x : Nat => (x : Int))) c)) g (.lst (((heads L).map fun x : Nat => (x : Int)).map V.int))) D = none := nD
    have nD3 : H3 D = none := eH.symm ▸ nD
    have z3 : Same H3 (L2.upd (L2.upd (L2.upd H1 S (SetO w S (fun j => decide (j ∈ L.map fun x : Nat => (x : Int))) c)) g (.lst (((heads L).map fun x : Nat => (x : Int)).map V.int))) D (.lst [])) := by
      rw [← eH]
      exact Same.new nD3
    rw [← eH] at s13 hl3 hg
    refine lc_list (K := K) (a := g) (xs := (heads L).map nV) (fun i H' => ∃ ws : List P4, Same H3 H' ∧ H' D = some (.lst (ws.map pV)) ∧ PcZ H' ws ∧ FrZ H ws ∧ ws.map P4.d = ((heads L).take i).map (fun k => (ours m L k, theirs m n L k)) ∧ ∀ z ∈ ws, z.o ≠ D ∧ z.u ≠ D) ⟨[], z3, upd_same, (fun _ h => nomatch h), (fun _ h => nomatch h), rfl, (fun _ h => nomatch h)⟩ (fun i H' _ h => ?_) (fun i x H' hx h => ?_) (fun H' h => ?_)
    · obtain ⟨ws, sm, _⟩ := h
      exact sq (sm _ _ hg)
    · obtain ⟨ws, sm, hD, pz, fz, ez, nz⟩ := h
      obtain ⟨hi, rfl⟩ := item_nV hx
      have hl' := sm _ _ hl3
      refine ⟨rfl, ?_⟩
      refine ⟨.ref l, rfl, nV m, rfl, _, rfl, l, L, m, n, _, rfl, hl', ll, m8, n8, fun H4 t o u s4 nt no nu hp => ?_⟩
      have wl : ws.length = i := by
        have := congrArg List.length ez
        rw [List.length_map, List.length_map, List.length_take] at this
        omega
      have hD4 := s4 _ _ hD
      have noD : o ≠ D := (ne_of_none hD no).symm
      have nuD : u ≠ D := (ne_of_none hD nu).symm
      have s0 := s13.trans sm
      refine ⟨_, hD4, small1000 (by rw [List.length_map]; omega), ws ++ [⟨t, o, u, (ours m L ((heads L).getD i 0), theirs m n L ((heads L).getD i 0))⟩], (sm.trans s4).mut nD3, ?_, ?_, ?_, ?_, ?_⟩
      · rw [upd_same, List.map_append]
        rfl
      · intro z hz
        rcases List.mem_append.mp hz with hz | hz
        · exact ((pz z hz).keep s4).upd hD4 (nz z hz).1 (nz z hz).2
        · rw [List.mem_singleton.mp hz]
          exact hp.upd hD4 noD nuD
      · intro z hz
        rcases List.mem_append.mp hz with hz | hz
        · exact fz z hz
        · rw [List.mem_singleton.mp hz]
          exact ⟨s0.back nt, s0.back no, s0.back nu⟩
      · rw [List.map_append, ez, take_succ_map hi, List.map_append]
        rfl
      · intro z hz
        rcases List.mem_append.mp hz with hz | hz
        · exact nz z hz
        · rw [List.mem_singleton.mp hz]
          exact ⟨noD, nuD⟩
    · obtain ⟨ws, sm, hD, pz, fz, ez, nz⟩ := h
      rw [List.length_map, List.take_length] at ez
      exact q H' D ws (s13.trans sm) (s13.back nD3) hD pz fz ez nz
end
end K05
set_option Elab.async false
set_option linter.all false
set_option maxRecDepth 100000
set_option maxHeartbeats 4000000
namespace K05
open PySem PySem.Spec PyProof.Rows L2
theorem int_nV (i : Nat) : V.int (0 + (i : Int)) = nV i := congrArg V.int (Int.zero_add _)
section
variable {P : Program} {w : World} {K : PySem.W.Frag} {mg : Str → Option Value} {base : Heap} {f : Addr} {fd : FuncData}
/-! ### _law_linked -/
abbrev law_linked_N : List Str := ["sizes", "pairs", "labels", "pair", "old", "new", "k", "label"]
theorem law_linked_sc : FnScope ["sizes", "pairs", "labels", "pair", "old", "new", "k", "label"] ["sizes", "pairs"] (defScope law_linked_st) := ⟨rfl, rfl, rfl, by decide +kernel, rfl, by decide +kernel, by decide +kernel⟩
structure Sz (H : Hp) (ts a : Addr) (m n : Nat) (zs : List Z) : Prop where
  hs : H ts = some (.tup [nV m, nV n])
  ha : H a = some (.lst (zs.map zV))
  pr : PrZ H zs
  inr : InR m n zs
  m8 : m ≤ 8
  n8 : n ≤ 8
theorem Sz.keep {H H' : Hp} {ts a : Addr} {m n : Nat} {zs : List Z} (h : Sz H ts a m n zs) (e : Same H H') : Sz H' ts a m n zs := ⟨e _ _ h.hs, e _ _ h.ha, h.pr.keep e, h.inr, h.m8, h.n8⟩
def spLinked : Sp := fun vs H Q _ => ∃ (ts a : Addr) (m n : Nat) (zs : List Z), vs = [.ref ts, .ref a] ∧ Sz H ts a m n zs ∧ New H Q ((labs m n (zs.map (·.2))).map nV)
theorem ok_linked (F : FnS K "_law_linked" law_linked_st f fd) (m_min : mg "min" = none) (m_max : mg "max" = none) (m_range : mg "range" = none) : FnOk P w K mg base (L2N.CX P w) 1 f fd ["sizes", "pairs"] spLinked := by
  refine F.ok law_linked_sc (fun vs H Q E h => ?_) (fun cdv A outer s H vs Q E hr h => ?_)
  · obtain ⟨ts, a, m, n, zs, rfl, _⟩ := h
    rfl
  · obtain ⟨ts, a, m, n, zs, rfl, h, q⟩ := h
    have m8 := h.m8
    have n8 := h.n8
    refine ⟨_, (pss_cons (ps_setLc (i := 2) (own := [("k", 6)]) rfl law_linked_sc.nd rfl rfl (sw_true rfl rfl rfl (by decide +kernel)) (pi_range1 rfl m_range (pa_cons (pe_op op_add (pe_ix ix_tup (pv 0) pe_int (fun _ _ => rfl)) (pe_ix ix_tup (pv 0) pe_int (fun _ _ => rfl))) pa_nil)) (blkOk_by (own := [("k", 6)]) (N := law_linked_N) (sc := defScope law_linked_st) (by decide +kernel)) (fun _ _ _ _ _ => (pg_name (i := 6) law_linked_sc.nd rfl (Or.inl rfl))) (fun _ _ _ _ _ => pts_nil) (fun _ _ _ _ _ => (pv 6)))
      (pss_cons (ps_for (passes_of rfl) rfl (pi_list (pv 1)) (pg_name (i := 3) law_linked_sc.nd rfl (Or.inl rfl))
      (pss_cons (ps_set (i := 4) law_linked_sc.nd rfl (Or.inr rfl) (pe_callB (call_max2 rfl) (by rfl) m_max (by decide +kernel) (pa_cons (pe_ix ix_list (pv 2) (pe_ix ix_tup (pv 3) pe_int (fun _ _ => rfl)) (fun _ _ => rfl)) (pa_cons (pe_ix ix_list (pv 2) (pe_op op_add (pe_ix ix_tup (pv 0) pe_int (fun _ _ => rfl)) (pe_ix ix_tup (pv 3) pe_int (fun _ _ => rfl))) (fun _ _ => rfl)) pa_nil))))
      (pss_cons (ps_set (i := 5) law_linked_sc.nd rfl (Or.inr rfl) (pe_callB (call_min2 rfl) (by rfl) m_min (by decide +kernel) (pa_cons (pe_ix ix_list (pv 2) (pe_ix ix_tup (pv 3) pe_int (fun _ _ => rfl)) (fun _ _ => rfl)) (pa_cons (pe_ix ix_list (pv 2) (pe_op op_add (pe_ix ix_tup (pv 0) pe_int (fun _ _ => rfl)) (pe_ix ix_tup (pv 3) pe_int (fun _ _ => rfl))) (fun _ _ => rfl)) pa_nil))))
      (pss_one (ps_setLc (i := 2) (own := [("label", 7)]) rfl law_linked_sc.nd rfl rfl (sw_true rfl rfl rfl (by decide +kernel)) (pi_list (pv 2)) (blkOk_by (own := [("label", 7)]) (N := law_linked_N) (sc := defScope law_linked_st) (by decide +kernel)) (fun _ _ _ _ _ => (pg_name (i := 7) law_linked_sc.nd rfl (Or.inl rfl))) (fun _ _ _ _ _ => pts_nil) (fun _ _ _ _ _ => (pe_ifExp (pt_cmpR op_eq (pv 7) (pv 4) (nomark _)) (pv 5) (pv 7))))))))
      (pss_one (ps_ret (pv 2))))), ?_⟩
    refine ⟨.ref ts, rfl, ts, _, 0, nV m, rfl, rfl, sqt h.hs, rfl, .ref ts, rfl, ts, _, 1, nV n, rfl, rfl, sqt h.hs, rfl, m, n, rfl, rfl, _, rfl, by omega, by omega, fun D0 n0 => ?_⟩
    refine lc_range (lo := 0) (n := m + n) (fun i H' => Same H H' ∧ H' D0 = some (.lst ((List.range i).map nV))) ⟨Same.new n0, upd_same⟩ (fun i H' hi g => ?_) (fun H1 g => ?_)
    · obtain ⟨sm, hD⟩ := g
      rw [int_nV]
      refine ⟨rfl, nV i, rfl, _, hD, small1000 (by rw [List.length_map, List.length_range]; omega), sm.mut n0, ?_⟩
      rw [upd_same, List.range_succ, List.map_append]
      rfl
    · obtain ⟨s1, h1⟩ := g
      refine ⟨.ref a, rfl, a, rfl, ⟨_, sq (s1 _ _ h.ha)⟩, ?_⟩
      refine for_list (K := K) (a := a) (xs := zs.map zV) (fun i σ H' => ∃ (D : Addr) (y3 y4 y5 : Option V), σ = [some (.ref ts), some (.ref a), some (.ref D), y3, y4, y5, none, none] ∧ Same H H' ∧ H D = none ∧ H' D = some (.lst ((labs m n ((zs.map (·.2)).take i)).map nV))) ⟨D0, none, none, none, rfl, s1, n0, h1⟩ (fun i σ H' _ g => ?_) (fun i x σ H' hx g => ?_) (fun σ H' g => ?_)
      · obtain ⟨D, y3, y4, y5, _, sm, _⟩ := g
        exact sq (sm _ _ h.ha)
      · obtain ⟨D, y3, y4, y5, rfl, sm, nD, hD⟩ := g
        obtain ⟨z, ez, mz, rfl⟩ := item_zV hx
        have hz := sm _ _ (h.pr z mz)
        have hts := sm _ _ h.hs
        obtain ⟨r1, r2⟩ := h.inr z mz
        have hl := labs_len m n ((zs.map (·.2)).take i)
        have et := labs_take (m := m) (n := n) (zs_at ez)
        generalize labs m n ((zs.map (·.2)).take i) = L at hl hD et
        have g1 : z.2.1 < L.length := by omega
        have g2 : m + z.2.2 < L.length := by omega
        refine ⟨.ref D, rfl, .ref z.1, rfl, z.1, _, 0, nV z.2.1, rfl, rfl, sqt hz, rfl, D, _, (z.2.1 : Int), nV (L.getD z.2.1 0), rfl, rfl, sq hD, get_nV g1, .ref D, rfl, .ref ts, rfl, ts, _, 0, nV m, rfl, rfl, sqt hts, rfl, .ref z.1, rfl, z.1, _, 1, nV z.2.2, rfl, rfl, sqt hz, rfl, m, z.2.2, rfl, rfl, D, _, ((m + z.2.2 : Nat) : Int), nV (L.getD (m + z.2.2) 0), rfl, rfl, sq hD, get_nV g2, _, _, rfl, ?_⟩
        refine ⟨.ref D, rfl, .ref z.1, rfl, z.1, _, 0, nV z.2.1, rfl, rfl, sqt hz, rfl, D, _, (z.2.1 : Int), nV (L.getD z.2.1 0), rfl, rfl, sq hD, get_nV g1, .ref D, rfl, .ref ts, rfl, ts, _, 0, nV m, rfl, rfl, sqt hts, rfl, .ref z.1, rfl, z.1, _, 1, nV z.2.2, rfl, rfl, sqt hz, rfl, m, z.2.2, rfl, rfl, D, _, ((m + z.2.2 : Nat) : Int), nV (L.getD (m + z.2.2) 0), rfl, rfl, sq hD, get_nV g2, _, _, rfl, ?_⟩
        have emin : (if ((L.getD (m + z.2.2) 0 : Nat) : Int) < ((L.getD z.2.1 0 : Nat) : Int) then ((L.getD (m + z.2.2) 0 : Nat) : Int) else ((L.getD z.2.1 0 : Nat) : Int)) = ((min (L.getD z.2.1 0) (L.getD (m + z.2.2) 0) : Nat) : Int) := by
          split <;> omega
        have emax : (if ((L.getD (m + z.2.2) 0 : Nat) : Int) > ((L.getD z.2.1 0 : Nat) : Int) then ((L.getD (m + z.2.2) 0 : Nat) : Int) else ((L.getD z.2.1 0 : Nat) : Int)) = ((max (L.getD z.2.1 0) (L.getD (m + z.2.2) 0) : Nat) : Int) := by
          split <;> omega
        dsimp only
        rw [emin, emax]
        have est : labs m n ((zs.map (·.2)).take (i + 1)) = L.map fun x => if x = max (L.getD z.2.1 0) (L.getD (m + z.2.2) 0) then min (L.getD z.2.1 0) (L.getD (m + z.2.2) 0) else x := by
          rw [et, mrg_max]
          rfl
        generalize min (L.getD z.2.1 0) (L.getD (m + z.2.2) 0) = lo at est ⊢
        generalize max (L.getD z.2.1 0) (L.getD (m + z.2.2) 0) = hi at est ⊢
        refine ⟨.ref D, rfl, D, rfl, ⟨_, sq hD⟩, fun D2 nD2 => ?_⟩
        refine lc_list (K := K) (a := D) (xs := L.map nV) (fun i' H2 => Same H' H2 ∧ H2 D2 = some (.lst (((L.take i').map fun x => if x = hi then lo else x).map nV))) ⟨Same.new nD2, upd_same⟩ (fun i' H2 _ g => sq (g.1 _ _ hD)) (fun i' x H2 hx g => ?_) (fun H2 g => ?_)
        · obtain ⟨s2, hD2⟩ := g
          obtain ⟨hi', rfl⟩ := item_nV hx
          have hlen : (((L.take i').map fun x => if x = hi then lo else x).map nV).length < sizeLine := small1000 (by rw [List.length_map, List.length_map, List.length_take]; omega)
          refine ⟨rfl, ?_⟩
          refine ⟨nV (L.getD i' 0), rfl, nV hi, rfl, ⟨rfl, _, rfl, ite2 (fun e => ?_) (fun e => ?_)⟩⟩
          · have e := nV_eq.mp (of_decide_eq_true e)
            refine ⟨nV lo, rfl, _, hD2, hlen, s2.mut nD2, ?_⟩
            rw [upd_same, take_succ_map hi', List.map_append, List.map_append]
            show _ = some (HO.lst (_ ++ [nV (if L.getD i' 0 = hi then lo else L.getD i' 0)]))
            rw [if_pos e]
          · have e : ¬ L.getD i' 0 = hi := fun z => e (decide_eq_true (nV_eq.mpr z))
            refine ⟨nV (L.getD i' 0), rfl, _, hD2, hlen, s2.mut nD2, ?_⟩
            rw [upd_same, take_succ_map hi', List.map_append, List.map_append]
            show _ = some (HO.lst (_ ++ [nV (if L.getD i' 0 = hi then lo else L.getD i' 0)]))
            rw [if_neg e]
        · obtain ⟨s2, hD2⟩ := g
          rw [List.length_map, List.take_length] at hD2
          refine ⟨D2, _, _, _, rfl, sm.trans s2, sm.back nD2, ?_⟩
          rw [hD2, est]
      · obtain ⟨D, y3, y4, y5, rfl, sm, nD, hD⟩ := g
        rw [List.take_of_length_le (by rw [List.length_map, List.length_map]; exact Nat.le_refl _)] at hD
        exact ⟨.ref D, rfl, q H' D sm nD hD⟩
/-! ### _law_pieces_due -/
def spPiecesDue : Sp := fun vs H Q _ => ∃ (ts a : Addr) (m n : Nat) (zs : List Z), vs = [.ref ts, .ref a] ∧ Sz H ts a m n zs ∧ NewPcs H Q (pcs m n (labs m n (zs.map (·.2))))
end
end K05
set_option Elab.async false
set_option linter.all false
set_option maxRecDepth 100000
namespace K05
open PySem L2
/-! ### the first error due of a lot -/
/-- false: no such depot; true: a second time -/
def scan (m : Nat) : List Int → List Int → Option (Bool × Int)
  | _, [] => none
  | pre, x :: xs => if 0 ≤ x ∧ x < (m : Int) then (if x ∈ pre then some (true, x) else scan m (pre ++ [x]) xs) else some (false, x)
def due (m : Nat) (ns : List Int) : Option (Bool × Int) := scan m [] ns
def rest (m : Nat) (ns : List Int) (i : Nat) : Option (Bool × Int) := scan m (ns.take i) (ns.drop i)
theorem rest_0 (m : Nat) (ns : List Int) : rest m ns 0 = due m ns := rfl
theorem rest_end (m : Nat) (ns : List Int) {i : Nat} (h : ns.length ≤ i) : rest m ns i = none := by
  unfold rest
  rw [List.drop_eq_nil_iff.mpr h]
  rfl
theorem rest_at {m : Nat} {ns : List Int} {i : Nat} {x : Int} (h : ns[i]? = some x) : rest m ns i = if 0 ≤ x ∧ x < (m : Int) then (if x ∈ ns.take i then some (true, x) else rest m ns (i + 1)) else some (false, x) := by
  obtain ⟨hi, e⟩ := List.getElem?_eq_some_iff.mp h
  unfold rest
  rw [List.drop_eq_getElem_cons hi, e]
  have e2 : ns.take (i + 1) = ns.take i ++ [x] := by
    rw [List.take_add_one, h]
    rfl
  rw [e2]
  rfl
theorem due_in {m : Nat} : ∀ {xs pre : List Int}, scan m pre xs = none → ∀ x ∈ xs, 0 ≤ x ∧ x < (m : Int)
  | [], _, _, _, h => nomatch h
  | y :: ys, pre, e, x, h => by
    unfold scan at e
    by_cases c : 0 ≤ y ∧ y < (m : Int)
    · rw [if_pos c] at e
      by_cases c2 : y ∈ pre
      · rw [if_pos c2] at e
        cases e
      · rw [if_neg c2] at e
        rcases List.mem_cons.mp h with h | h
        · rw [h]
          exact c
        · exact due_in e x h
    · rw [if_neg c] at e
      cases e
theorem inV_ints (x : Int) : ∀ ns : List Int, inV (.int x) (ns.map V.int) = decide (x ∈ ns)
  | [] => rfl
  | y :: ys => by
    have e := inV_ints x ys
    unfold inV at e ⊢
    rw [List.map_cons, List.any_cons, e]
    by_cases h : x = y
    · subst h
      have : eqV (.int x) (.int x) = true := by simp [eqV]
      rw [this, Bool.true_or]
      exact (decide_eq_true List.mem_cons_self).symm
    · have h' : ¬ y = x := fun z => h z.symm
      have : eqV (.int y) (.int x) = false := by simp [eqV, h']
      rw [this, Bool.false_or]
      by_cases c : x ∈ ys
      · rw [decide_eq_true c]
        exact (decide_eq_true (List.mem_cons_of_mem _ c)).symm
      · rw [decide_eq_false c]
        exact (decide_eq_false fun z => (List.mem_cons.mp z).elim h c).symm
theorem flat_ints : ∀ ns : List Int, (ns.map V.int).all flatV = true
  | [] => rfl
  | _ :: ys => by
    rw [List.map_cons, List.all_cons, flat_ints ys]
    rfl
/-! ### who is reached -/
def hits (zs : List (Nat × Nat)) (ns : List Int) (c : Nat) : Bool := zs.any fun p => decide (p.2 = c) && decide ((p.1 : Int) ∈ ns)
def rch (n : Nat) (zs : List (Nat × Nat)) (ns : List Int) : List Nat := (List.range n).filter (hits zs ns)
theorem hits_iff {zs : List (Nat × Nat)} {ns : List Int} {c : Nat} : hits zs ns c = true ↔ ∃ p ∈ zs, p.2 = c ∧ (p.1 : Int) ∈ ns := by
  unfold hits
  rw [List.any_eq_true]
  constructor
  · rintro ⟨p, hp, h⟩
    rw [Bool.and_eq_true, decide_eq_true_iff, decide_eq_true_iff] at h
    exact ⟨p, hp, h⟩
  · rintro ⟨p, hp, h⟩
    exact ⟨p, hp, by rw [Bool.and_eq_true, decide_eq_true_iff, decide_eq_true_iff]; exact h⟩
theorem rch_sorted (n : Nat) (zs : List (Nat × Nat)) (ns : List Int) : ((rch n zs ns).map fun x : Nat => (x : Int)).Pairwise (· < ·) := by
  rw [List.pairwise_map]
  exact (List.Pairwise.sublist List.filter_sublist List.pairwise_lt_range).imp fun h => Int.ofNat_lt.mpr h
theorem mem_rch {n : Nat} {zs : List (Nat × Nat)} {ns : List Int} (hin : ∀ p ∈ zs, p.2 < n) {k : Int} : k ∈ (rch n zs ns).map (fun x : Nat => (x : Int)) ↔ ∃ p ∈ zs, (p.2 : Int) = k ∧ (p.1 : Int) ∈ ns := by
  rw [List.mem_map]
  unfold rch
  constructor
  · rintro ⟨c, hc, rfl⟩
    obtain ⟨p, hp, e, h⟩ := hits_iff.mp (List.mem_filter.mp hc).2
    exact ⟨p, hp, by rw [e], h⟩
  · rintro ⟨p, hp, rfl, h⟩
    exact ⟨p.2, List.mem_filter.mpr ⟨List.mem_range.mpr (hin p hp), hits_iff.mpr ⟨p, hp, rfl, h⟩⟩, rfl⟩
theorem rch_of {n : Nat} {zs : List (Nat × Nat)} {ns xs : List Int} (hin : ∀ p ∈ zs, p.2 < n) (h1 : xs.Pairwise (· < ·)) (h2 : ∀ k, k ∈ xs ↔ ∃ p ∈ zs, (p.2 : Int) = k ∧ (p.1 : Int) ∈ ns) : xs = (rch n zs ns).map fun x : Nat => (x : Int) :=
  rising_eq h1 (rch_sorted n zs ns) fun z => (h2 z).trans (mem_rch hin).symm
end K05
set_option Elab.async false
set_option linter.all false
set_option maxRecDepth 100000
set_option maxHeartbeats 4000000
namespace K05
open PySem PySem.Spec PyProof.Rows L2
/-- an own error: its class, its __init__ that keeps its argument in one field -/
structure Er (P : Program) (w : World) (K : PySem.W.Frag) (mg : Str → Option Value) (base : Heap) (x fld : Str) (C fI : Addr) (fd : FuncData) (ps : List Str) : Prop where
  T : OexC K C
  iC : PySem.W.findIn K (.ref C) "__init__" = some (some (.ref fI))
  tI : PySem.W.typeIn K (.ref fI) = some (.type "function")
  F : FnOk P w K mg base (L2N.CX P w) 1 fI fd ps (ErrX.spI C fld)
  b : Binds K fd ps []
  g : mg x = some (.ref C)
section
variable {P : Program} {w : World} {K : PySem.W.Frag} {mg : Str → Option Value} {base : Heap} {f : Addr} {fd : FuncData}
/-! ### checks -/
abbrev check_size_N : List Str := ["size", "least", "most"]
theorem check_size_sc : FnScope ["size", "least", "most"] ["size", "least", "most"] (defScope check_size_st) := ⟨rfl, rfl, rfl, by decide +kernel, rfl, by decide +kernel, by decide +kernel⟩
def spSize : Sp := fun vs H Q _ => ∃ (x a b : Int), vs = [.int x, .int a, .int b] ∧ a ≤ x ∧ x ≤ b ∧ Q .non H
theorem ok_size (F : FnS K "check_size" check_size_st f fd) : FnOk P w K mg base (L2N.CX P w) 1 f fd ["size", "least", "most"] spSize := by
  refine F.ok check_size_sc (fun vs H Q E h => ?_) (fun cdv A outer s H vs Q E hr h => ?_)
  · obtain ⟨x, a, b, rfl, _⟩ := h
    rfl
  · obtain ⟨x, a, b, rfl, h1, h2, q⟩ := h
    refine ⟨_, (pss_one (ps_if (pt_not (pt_chain op_le op_le (pv 1) (pv 0) (pv 2))) (pss_one ps_never) pss_nil)), ?_⟩
    refine ⟨.int a, rfl, .int x, rfl, a, x, rfl, rfl, true, congrArg V.bl (decide_eq_true h1), iteT ⟨.int b, rfl, x, b, rfl, rfl, _, rfl, ite2 (fun e => ?_) (fun e => ?_)⟩⟩
    · rw [decide_eq_true h2] at e
      cases e
    · exact q
abbrev check_most_N : List Str := ["number", "most"]
theorem check_most_sc : FnScope ["number", "most"] ["number", "most"] (defScope check_most_st) := ⟨rfl, rfl, rfl, by decide +kernel, rfl, by decide +kernel, by decide +kernel⟩
def spMost : Sp := fun vs H Q _ => ∃ (x b : Int), vs = [.int x, .int b] ∧ x ≤ b ∧ Q .non H
theorem ok_most (F : FnS K "check_most" check_most_st f fd) : FnOk P w K mg base (L2N.CX P w) 1 f fd ["number", "most"] spMost := by
  refine F.ok check_most_sc (fun vs H Q E h => ?_) (fun cdv A outer s H vs Q E hr h => ?_)
  · obtain ⟨x, b, rfl, _⟩ := h
    rfl
  · obtain ⟨x, b, rfl, h1, q⟩ := h
    refine ⟨_, (pss_one (ps_if (pt_cmpR op_gt (pv 0) (pv 1) (nomark _)) (pss_one ps_never) pss_nil)), ?_⟩
    refine ⟨.int x, rfl, .int b, rfl, x, b, rfl, rfl, _, rfl, ite2 (fun e => ?_) (fun e => ?_)⟩
    · have := of_decide_eq_true e
      omega
    · exact q
abbrev check_customer_N : List Str := ["customer", "customers"]
theorem check_customer_sc : FnScope ["customer", "customers"] ["customer", "customers"] (defScope check_customer_st) := ⟨rfl, rfl, rfl, by decide +kernel, rfl, by decide +kernel, by decide +kernel⟩
def spCustomer : Sp := fun vs H Q _ => ∃ (x b : Int), vs = [.int x, .int b] ∧ 0 ≤ x ∧ x < b ∧ Q .non H
theorem ok_customer (F : FnS K "check_customer" check_customer_st f fd) : FnOk P w K mg base (L2N.CX P w) 1 f fd ["customer", "customers"] spCustomer := by
  refine F.ok check_customer_sc (fun vs H Q E h => ?_) (fun cdv A outer s H vs Q E hr h => ?_)
  · obtain ⟨x, b, rfl, _⟩ := h
    rfl
  · obtain ⟨x, b, rfl, h1, h2, q⟩ := h
    refine ⟨_, (pss_one (ps_if (pt_not (pt_chain op_le op_lt pe_int (pv 0) (pv 1))) (pss_one ps_never) pss_nil)), ?_⟩
    refine ⟨.int x, rfl, 0, x, rfl, rfl, true, congrArg V.bl (decide_eq_true h1), iteT ⟨.int b, rfl, x, b, rfl, rfl, _, rfl, ite2 (fun e => ?_) (fun e => ?_)⟩⟩
    · rw [decide_eq_true h2] at e
      cases e
    · exact q
abbrev check_depot_N : List Str := ["depot", "depots"]
theorem check_depot_sc : FnScope ["depot", "depots"] ["depot", "depots"] (defScope check_depot_st) := ⟨rfl, rfl, rfl, by decide +kernel, rfl, by decide +kernel, by decide +kernel⟩
def spDepot (C : Addr) : Sp := fun vs H Q E => ∃ (x : Int) (m : Nat), vs = [.int x, nV m] ∧ (0 ≤ x ∧ x < (m : Int) → Q .non H) ∧ (¬ (0 ≤ x ∧ x < (m : Int)) → ∀ d, H d = none → E (.ref C) (some d) (upd H d (.xd [("depot", .int x)])))
theorem ok_depot {C fI : Addr} {fdI : FuncData} {psI : List Str} (F : FnS K "check_depot" check_depot_st f fd) (D_NoDepot : Er P w K mg base "NoDepot" "depot" C fI fdI psI) : FnOk P w K mg base (L2N.CX P w) 3 f fd ["depot", "depots"] (spDepot C) := by
  refine F.ok check_depot_sc (fun vs H Q E h => ?_) (fun cdv A outer s H vs Q E hr h => ?_)
  · obtain ⟨x, m, rfl, _⟩ := h
    rfl
  · obtain ⟨x, m, rfl, h1, h2⟩ := h
    refine ⟨_, (pss_one (ps_if (pt_not (pt_chain op_le op_lt pe_int (pv 0) (pv 1))) (pss_one (L2N.ps_raise rfl (L2N.takes_of rfl rfl rfl rfl) (ErrX.pmk_err1 D_NoDepot.T D_NoDepot.iC D_NoDepot.tI D_NoDepot.F hr D_NoDepot.b ErrX.passN rfl D_NoDepot.g (pa_cons (pv 0) pa_nil)))) pss_nil)), ?_⟩
    refine ⟨.int x, rfl, 0, x, rfl, rfl, _, rfl, ite2 (fun e0 => ?_) (fun e0 => ?_)⟩
    · have e0 := of_decide_eq_true e0
      refine ⟨nV m, rfl, x, m, rfl, rfl, _, rfl, ite2 (fun e => ?_) (fun e => ?_)⟩
      · have hb : ¬ x < (m : Int) := fun z => by
          rw [decide_eq_true z] at e
          cases e
        exact ⟨_, rfl, _, rfl, h2 fun z => hb z.2⟩
      · by_cases z : x < (m : Int)
        · exact h1 ⟨e0, z⟩
        · rw [decide_eq_false z] at e
          exact absurd rfl e
    · have hb : ¬ 0 ≤ x := fun z => e0 (decide_eq_true z)
      refine ⟨false, rfl, iteT ⟨_, rfl, _, rfl, h2 fun z => hb z.1⟩⟩
end
end K05
set_option Elab.async false
set_option linter.all false
set_option maxRecDepth 100000
set_option maxHeartbeats 4000000
namespace K05
open PySem PySem.Spec PyProof.Rows L2
theorem item_int {ns : List Int} {i : Nat} {x : V} (h : (ns.map V.int)[i]? = some x) : ∃ c, ns[i]? = some c ∧ x = .int c := by
  rw [List.getElem?_map] at h
  cases e : ns[i]? with
  | none => rw [e] at h; cases h
  | some c => rw [e] at h; exact ⟨c, rfl, (Option.some.inj h).symm⟩
theorem Same.seqT {K : PySem.W.Frag} {H H' : Hp} {a : Addr} {xs : List V} (e : Same H H') (h : SqT K H a xs) : SqT K H' a xs := Evl.ex_t e h
def wrd (b : Bool) : Str := if b then "Repeated" else "NoDepot"
def fldOf (b : Bool) : Str := if b then "entry" else "depot"
section
variable {P : Program} {w : World} {K : PySem.W.Frag} {mg : Str → Option Value} {base : Heap} {f : Addr} {fd : FuncData}
/-! ### checked_lot -/
abbrev checked_lot_N : List Str := ["lot", "depots", "entries", "entry"]
theorem checked_lot_sc : FnScope ["lot", "depots", "entries", "entry"] ["lot", "depots"] (defScope checked_lot_st) := ⟨rfl, rfl, rfl, by decide +kernel, rfl, by decide +kernel, by decide +kernel⟩
def spChecked (K : PySem.W.Frag) (CN CR : Addr) : Sp := fun vs H Q E => ∃ (a : Addr) (m : Nat) (ns : List Int), vs = [.ref a, nV m] ∧ (SqL K H a (ns.map V.int) ∨ SqT K H a (ns.map V.int)) ∧ ns.length ≤ 10 ∧
  (due m ns = none → ∀ (H' : Hp) (D : Addr) (es : List Int), Same H H' → H D = none → H' D = some (.lst (es.map V.int)) → (∀ x, x ∈ es ↔ x ∈ ns) → Q (.ref D) H') ∧
  (∀ b x, due m ns = some (b, x) → ∀ (H' : Hp) (d : Addr), Same H H' → H d = none → H' d = some (.xd [(fldOf b, .int x)]) → E (.ref (if b then CR else CN)) (some d) H')
theorem ok_checked {CN fN CR fR f1 : Addr} {fdN fdR fd1 : FuncData} {psN psR : List Str} (F : FnS K "checked_lot" checked_lot_st f fd) (m_sorted : mg "sorted" = none) (D_NoDepot : Er P w K mg base "NoDepot" "depot" CN fN fdN psN) (D_Repeated : Er P w K mg base "Repeated" "entry" CR fR fdR psR) (D_check_depot : Dn P w K mg base 3 "check_depot" ["depot", "depots"] (spDepot CN) f1 fd1) : FnOk P w K mg base (L2N.CX P w) 4 f fd ["lot", "depots"] (spChecked K CN CR) := by
  refine F.ok checked_lot_sc (fun vs H Q E h => ?_) (fun cdv A outer s H vs Q E hr h => ?_)
  · obtain ⟨a, m, ns, rfl, _⟩ := h
    rfl
  · obtain ⟨a, m, ns, rfl, hs, h10, q, qe⟩ := h
    rcases hs with hs | hs
    · refine ⟨_, (pss_cons (ps_set (i := 2) checked_lot_sc.nd rfl (Or.inl rfl) (pe_lst pa_nil))
      (pss_cons (ps_for (passes_of rfl) rfl (pi_list (pv 0)) (pg_name (i := 3) checked_lot_sc.nd rfl (Or.inl rfl))
      (pss_cons (ps_expr (pe_callS D_check_depot.ok (hr.mono (by decide)) rfl D_check_depot.g D_check_depot.kp D_check_depot.b (fun σ => L2N.passAt (L2N.takes_of rfl rfl rfl rfl) σ) (pa_cons (pv 3) (pa_cons (pv 1) pa_nil))))
      (pss_cons (ps_if (pt_cmpR op_in_seq (pv 3) (pv 2) rfl) (pss_one (L2N.ps_raise rfl (L2N.takes_of rfl rfl rfl rfl) (ErrX.pmk_err1 D_Repeated.T D_Repeated.iC D_Repeated.tI D_Repeated.F (hr.mono (by decide)) D_Repeated.b ErrX.passN rfl D_Repeated.g (pa_cons (pv 3) pa_nil)))) pss_nil)
      (pss_one (ps_expr (pe_bm PySem.F.plainAttrs_list PySem.F.slot_list_append PySem.F.type_list_append mt_append (pv 2) (pa_cons (pv 3) pa_nil)))))))
      (pss_one (ps_ret (pe_callB cr_sortedI (by rfl) m_sorted (by decide +kernel) (pa_cons (pv 2) pa_nil)))))), ?_⟩
      refine ⟨len0, fun D nD => ?_⟩
      have s1 := Same.new (o := .lst []) nD
      refine ⟨.ref a, rfl, a, rfl, ⟨_, Same.seq s1 hs⟩, ?_⟩
      refine for_list (K := K) (a := a) (xs := ns.map V.int) (fun i σ H' => ∃ y3 : Option V, σ = [some (.ref a), some (nV m), some (.ref D), y3] ∧ Same H H' ∧ H' D = some (.lst ((ns.take i).map V.int)) ∧ rest m ns i = due m ns) ⟨none, rfl, s1, upd_same, rfl⟩ (fun i σ H' _ h => ?_) (fun i x σ H' hx h => ?_) (fun σ H' h => ?_)
      · obtain ⟨y3, _, sm, _⟩ := h
        exact Same.seq sm hs
      · obtain ⟨y3, rfl, sm, hD, hre⟩ := h
        obtain ⟨c, hc, rfl⟩ := item_int hx
        rw [rest_at hc] at hre
        refine ⟨.int c, rfl, nV m, rfl, c, m, rfl, fun hin => ?_, fun hout d nd => ?_⟩
        · rw [if_pos hin] at hre
          refine ⟨.int c, rfl, .ref D, rfl, D, _, rfl, .inl (sq hD), rfl, flat_ints _, _, rfl, ite2 (fun e => ?_) (fun e => ?_)⟩
          · have e : c ∈ ns.take i := by
              have e : inV (.int c) ((ns.take i).map V.int) = true := e
              rw [inV_ints] at e
              exact of_decide_eq_true e
            rw [if_pos e] at hre
            refine ⟨.int c, rfl, _, rfl, fun d nd => ?_⟩
            exact qe true c hre.symm _ d (sm.trans (Same.new nd)) (sm.back nd) upd_same
          · have e : ¬ c ∈ ns.take i := fun z => by
              have e : ¬ inV (.int c) ((ns.take i).map V.int) = true := e
              rw [inV_ints, decide_eq_true z] at e
              exact e rfl
            rw [if_neg e] at hre
            refine ⟨.ref D, rfl, .inl ⟨rfl, _, sq hD⟩, .int c, rfl, D, _, _, rfl, rfl, hD, small1000 (by rw [List.length_map, List.length_take]; omega), _, rfl, sm.mut nD, ?_, hre⟩
            rw [upd_same, List.take_add_one, hc, List.map_append]
            rfl
        · rw [if_neg hout] at hre
          exact qe false c hre.symm _ d (sm.trans (Same.new nd)) (sm.back nd) upd_same
      · obtain ⟨y3, rfl, sm, hD, hre⟩ := h
        rw [List.length_map] at hD hre
        rw [rest_end m ns (Nat.le_refl _)] at hre
        rw [List.take_length] at hD
        refine ⟨.ref D, rfl, D, ns, rfl, sq hD, fun es p pm _ np => ?_⟩
        exact q hre.symm _ p es (sm.trans (Same.new np)) (sm.back np) upd_same fun x => pm.mem_iff
    · refine ⟨_, (pss_cons (ps_set (i := 2) checked_lot_sc.nd rfl (Or.inl rfl) (pe_lst pa_nil))
      (pss_cons (ps_for (passes_of rfl) rfl (pi_tup (pv 0)) (pg_name (i := 3) checked_lot_sc.nd rfl (Or.inl rfl))
      (pss_cons (ps_expr (pe_callS D_check_depot.ok (hr.mono (by decide)) rfl D_check_depot.g D_check_depot.kp D_check_depot.b (fun σ => L2N.passAt (L2N.takes_of rfl rfl rfl rfl) σ) (pa_cons (pv 3) (pa_cons (pv 1) pa_nil))))
      (pss_cons (ps_if (pt_cmpR op_in_seq (pv 3) (pv 2) rfl) (pss_one (L2N.ps_raise rfl (L2N.takes_of rfl rfl rfl rfl) (ErrX.pmk_err1 D_Repeated.T D_Repeated.iC D_Repeated.tI D_Repeated.F (hr.mono (by decide)) D_Repeated.b ErrX.passN rfl D_Repeated.g (pa_cons (pv 3) pa_nil)))) pss_nil)
      (pss_one (ps_expr (pe_bm PySem.F.plainAttrs_list PySem.F.slot_list_append PySem.F.type_list_append mt_append (pv 2) (pa_cons (pv 3) pa_nil)))))))
      (pss_one (ps_ret (pe_callB cr_sortedI (by rfl) m_sorted (by decide +kernel) (pa_cons (pv 2) pa_nil)))))), ?_⟩
      refine ⟨len0, fun D nD => ?_⟩
      have s1 := Same.new (o := .lst []) nD
      refine ⟨.ref a, rfl, a, rfl, ⟨_, K05.Same.seqT s1 hs⟩, ?_⟩
      refine for_tup (K := K) (a := a) (xs := ns.map V.int) (fun i σ H' => ∃ y3 : Option V, σ = [some (.ref a), some (nV m), some (.ref D), y3] ∧ Same H H' ∧ H' D = some (.lst ((ns.take i).map V.int)) ∧ rest m ns i = due m ns) ⟨none, rfl, s1, upd_same, rfl⟩ (fun i σ H' _ h => ?_) (fun i x σ H' hx h => ?_) (fun σ H' h => ?_)
      · obtain ⟨y3, _, sm, _⟩ := h
        exact K05.Same.seqT sm hs
      · obtain ⟨y3, rfl, sm, hD, hre⟩ := h
        obtain ⟨c, hc, rfl⟩ := item_int hx
        rw [rest_at hc] at hre
        refine ⟨.int c, rfl, nV m, rfl, c, m, rfl, fun hin => ?_, fun hout d nd => ?_⟩
        · rw [if_pos hin] at hre
          refine ⟨.int c, rfl, .ref D, rfl, D, _, rfl, .inl (sq hD), rfl, flat_ints _, _, rfl, ite2 (fun e => ?_) (fun e => ?_)⟩
          · have e : c ∈ ns.take i := by
              have e : inV (.int c) ((ns.take i).map V.int) = true := e
              rw [inV_ints] at e
              exact of_decide_eq_true e
            rw [if_pos e] at hre
            refine ⟨.int c, rfl, _, rfl, fun d nd => ?_⟩
            exact qe true c hre.symm _ d (sm.trans (Same.new nd)) (sm.back nd) upd_same
          · have e : ¬ c ∈ ns.take i := fun z => by
              have e : ¬ inV (.int c) ((ns.take i).map V.int) = true := e
              rw [inV_ints, decide_eq_true z] at e
              exact e rfl
            rw [if_neg e] at hre
            refine ⟨.ref D, rfl, .inl ⟨rfl, _, sq hD⟩, .int c, rfl, D, _, _, rfl, rfl, hD, small1000 (by rw [List.length_map, List.length_take]; omega), _, rfl, sm.mut nD, ?_, hre⟩
            rw [upd_same, List.take_add_one, hc, List.map_append]
            rfl
        · rw [if_neg hout] at hre
          exact qe false c hre.symm _ d (sm.trans (Same.new nd)) (sm.back nd) upd_same
      · obtain ⟨y3, rfl, sm, hD, hre⟩ := h
        rw [List.length_map] at hD hre
        rw [rest_end m ns (Nat.le_refl _)] at hre
        rw [List.take_length] at hD
        refine ⟨.ref D, rfl, D, ns, rfl, sq hD, fun es p pm _ np => ?_⟩
        exact q hre.symm _ p es (sm.trans (Same.new np)) (sm.back np) upd_same fun x => pm.mem_iff
end
end K05
set_option Elab.async false
set_option linter.all false
set_option maxRecDepth 100000
set_option maxHeartbeats 4000000
namespace K05
open PySem PySem.Spec PyProof.Rows L2
theorem cut_take (xs : List V) (i : Nat) : cutV xs none (some (i : Int)) = xs.take i := by
  unfold cutV
  rw [HT.sIx_none, show HT.sIx xs.length xs.length (some (i : Int)) = min i xs.length from HT.sIx_nat _ _ _, Nat.sub_zero]
  show (xs.drop 0).take _ = _
  rw [List.drop_zero]
  by_cases h : i ≤ xs.length
  · rw [Nat.min_eq_left h]
  · rw [Nat.min_eq_right (by omega), List.take_length, List.take_of_length_le (by omega)]
theorem get_int {ns : List Int} {i : Nat} (h : i < ns.length) : ∃ c, ns[i]? = some c ∧ atI (ns.map V.int) (i : Int) = some (.int c) := by
  refine ⟨ns[i], List.getElem?_eq_getElem h, atI_nat ?_⟩
  rw [List.getElem?_map, List.getElem?_eq_getElem h]
  rfl
/-- an answer told at t: a refusal, or the row r -/
def Told (H H' : Hp) (t : Addr) (o : Option (Bool × Int)) (r : List Nat) : Prop := H t = none ∧ match o with
  | some (b, x) => H' t = some (.tup [.str "refused", .str (wrd b), .int x])
  | none => ∃ u, H u = none ∧ H' t = some (.tup [.str "told", .ref u]) ∧ H' u = some (.lst (r.map nV))
theorem lt_of_le_nodup {xs : List Int} (h : xs.Pairwise (· ≤ ·)) (n : xs.Nodup) : xs.Pairwise (· < ·) := by
  rw [List.nodup_iff_pairwise_ne] at n
  exact (h.and n).imp fun ⟨a, b⟩ => by omega
section
variable {P : Program} {w : World} {K : PySem.W.Frag} {mg : Str → Option Value} {base : Heap} {f : Addr} {fd : FuncData}
/-! ### _law_reach_due -/
def spReachDue (K : PySem.W.Frag) : Sp := fun vs H Q _ => ∃ (ts a l : Addr) (m n : Nat) (zs : List Z) (ns : List Int), vs = [.ref ts, .ref a, .ref l] ∧ Sz H ts a m n zs ∧ zs.length ≤ 16 ∧ SqL K H l (ns.map V.int) ∧ ns.length ≤ 10 ∧ ∀ (H' : Hp) (t : Addr), Same H H' → Told H H' t (due m ns) (rch n (zs.map (·.2)) ns) → Q (.ref t) H'
end
end K05
set_option Elab.async false
set_option linter.all false
set_option maxRecDepth 100000
namespace K05
open PySem L2
theorem perm_map_inv {α β : Type} {g : α → β} {ys xs : List β} (h : ys.Perm xs) : ∀ zs : List α, xs = zs.map g → ∃ zs' : List α, ys = zs'.map g ∧ zs'.Perm zs := by
  induction h with
  | nil => exact fun zs e => ⟨[], rfl, by
      cases zs with
      | nil => exact .refl _
      | cons z zs => cases e⟩
  | cons x _ ih =>
    intro zs e
    cases zs with
    | nil => cases e
    | cons z zs =>
      obtain ⟨e1, e2⟩ := List.cons.inj e
      obtain ⟨zs', h1, h2⟩ := ih zs e2
      exact ⟨z :: zs', by rw [h1, e1]; rfl, h2.cons z⟩
  | swap x y l =>
    intro zs e
    match zs, e with
    | z1 :: z2 :: zs, e =>
      obtain ⟨e1, e2⟩ := List.cons.inj e
      obtain ⟨e3, e4⟩ := List.cons.inj e2
      exact ⟨z2 :: z1 :: zs, by rw [e1, e3, e4]; rfl, List.Perm.swap _ _ _⟩
  | trans _ _ ih1 ih2 =>
    intro zs e
    obtain ⟨zs1, h1, p1⟩ := ih2 zs e
    obtain ⟨zs2, h2, p2⟩ := ih1 zs1 h1
    exact ⟨zs2, h2, p2.trans p1⟩
/-- two lists in strict order with the same members are the same -/
theorem strict_eq {α : Type} {lt : α → α → Prop} (as : ∀ a b, lt a b → ¬ lt b a) : ∀ {xs ys : List α}, xs.Pairwise lt → ys.Pairwise lt → (∀ z, z ∈ xs ↔ z ∈ ys) → xs = ys
  | [], [], _, _, _ => rfl
  | [], y :: ys, _, _, h => nomatch (h y).mpr List.mem_cons_self
  | x :: xs, [], _, _, h => nomatch (h x).mp List.mem_cons_self
  | x :: xs, y :: ys, hx, hy, h => by
    obtain ⟨hx1, hx2⟩ := List.pairwise_cons.mp hx
    obtain ⟨hy1, hy2⟩ := List.pairwise_cons.mp hy
    have e : x = y := by
      rcases List.mem_cons.mp ((h x).mp List.mem_cons_self) with e | e
      · exact e
      · rcases List.mem_cons.mp ((h y).mpr List.mem_cons_self) with e' | e'
        · exact e'.symm
        · exact absurd (hy1 x e) (as _ _ (hx1 y e'))
    subst e
    rw [strict_eq as hx2 hy2 fun z => ?_]
    constructor
    · intro hz
      rcases List.mem_cons.mp ((h z).mp (List.mem_cons_of_mem _ hz)) with e | e
      · subst e
        have := hx1 z hz
        exact absurd this (as _ _ this)
      · exact e
    · intro hz
      rcases List.mem_cons.mp ((h z).mpr (List.mem_cons_of_mem _ hz)) with e | e
      · subst e
        have := hy1 z hz
        exact absurd this (as _ _ this)
      · exact e
def ltN (a b : Nat × Nat) : Prop := a.1 < b.1 ∨ (a.1 = b.1 ∧ a.2 < b.2)
theorem ltN_as (a b : Nat × Nat) (h : ltN a b) : ¬ ltN b a := by
  unfold ltN at *
  omega
/-- ps' is ps in ascending order -/
def Asc (ps' ps : List (Nat × Nat)) : Prop := ps'.Perm ps ∧ ps'.Pairwise ltN
theorem Asc.uniq {a b ps : List (Nat × Nat)} (h : Asc a ps) (k : Asc b ps) : a = b := strict_eq ltN_as h.2 k.2 fun _ => h.1.mem_iff.trans k.1.mem_iff.symm
def kH (H : Hp) : V → Int × Int := fun y => match y with
  | .ref t => match H t with
    | some (.tup [.int a, .int b]) => (a, b)
    | _ => (0, 0)
  | _ => (0, 0)
theorem kH_at {H : Hp} {z : Z} (h : H z.1 = some (prV z)) : kH H (zV z) = ((z.2.1 : Int), (z.2.2 : Int)) := by
  show (match H z.1 with
    | some (.tup [.int a, .int b]) => (a, b)
    | _ => ((0 : Int), (0 : Int))) = _
  rw [h]
  rfl
theorem sorted_pairs {H : Hp} {zs : List Z} (pr : PrZ H zs) (nd : (zs.map (·.2)).Nodup) {ys : List V} (hs : SrtO.Srtd (ltP (kH H)) ys) (hb : SrtO.Stb (ltP (kH H)) ys (zs.map zV)) :
    ∃ zs' : List Z, ys = zs'.map zV ∧ zs'.Perm zs ∧ Asc (zs'.map (·.2)) (zs.map (·.2)) := by
  obtain ⟨zs', rfl, pm⟩ := perm_map_inv hb.perm zs rfl
  refine ⟨zs', rfl, pm, pm.map _, ?_⟩
  have nd' : (zs'.map (·.2)).Nodup := (pm.map _).nodup_iff.mpr nd
  rw [List.nodup_iff_pairwise_ne] at nd'
  rw [List.pairwise_map] at nd' ⊢
  have hs' : zs'.Pairwise fun x y => ltP (kH H) (zV y) (zV x) = false := List.pairwise_map.mp hs
  have both := hs'.and nd'
  refine List.Pairwise.imp_of_mem ?_ both
  intro a b ha hb ⟨h1, h2⟩
  have ka := kH_at (pr a (pm.mem_iff.mp ha))
  have kb := kH_at (pr b (pm.mem_iff.mp hb))
  unfold ltP at h1
  rw [ka, kb] at h1
  unfold ltN
  have ne : ¬ (a.2.1 = b.2.1 ∧ a.2.2 = b.2.2) := fun ⟨e1, e2⟩ => h2 (Prod.ext e1 e2)
  have h1 := SrtO.lexB_no.mp h1
  dsimp only at h1
  omega
end K05
set_option Elab.async false
set_option linter.all false
set_option maxRecDepth 100000
set_option maxHeartbeats 4000000
namespace K05
open PySem PySem.Spec PyProof.Rows L2
theorem u65 {A : Around} {k : Nat} (r : Room k A) : A.units + 65 < cLine := by
  have := r.un
  omega
/-! ### pairs as data -/
def qD (p : Nat × Nat) : PyData := .tuple [.int p.1, .int p.2]
theorem qD_shaped (p : Nat × Nat) : SeqAt.shaped (qD p) = true := by
  show ((qD p).canLay0 && decide ((qD p).depth ≤ 64)) = true
  have h1 : (qD p).canLay0 = true := by simp [qD, PyData.canLay0, PyData.canLayAll0]
  have h2 : (qD p).depth = 1 := by simp [qD, PyData.depth, PyData.depthAll]
  rw [h1, h2]
  rfl
theorem qDs_shaped (ps : List (Nat × Nat)) : SeqAt.shaped (.list (ps.map qD)) = true := by
  have h1 : ∀ qs : List (Nat × Nat), PyData.canLayAll0 (qs.map qD) = true := fun qs => by
    induction qs with
    | nil => simp [PyData.canLayAll0]
    | cons q qs ih => simp [PyData.canLayAll0, ih, qD, PyData.canLay0]
  have h2 : ∀ qs : List (Nat × Nat), PyData.depthAll (qs.map qD) ≤ 1 := fun qs => by
    induction qs with
    | nil => simp [PyData.depthAll]
    | cons q qs ih =>
      have : (qD q).depth = 1 := by simp [qD, PyData.depth, PyData.depthAll]
      simp only [List.map_cons, PyData.depthAll]
      omega
  have h3 : PyData.depth (.list (ps.map qD)) ≤ 64 := by
    have := h2 ps
    simp only [PyData.depth]
    omega
  show (PyData.canLay0 (.list (ps.map qD)) && decide (PyData.depth (.list (ps.map qD)) ≤ 64)) = true
  rw [decide_eq_true h3, Bool.and_true]
  simp only [PyData.canLay0]
  exact h1 ps
theorem qD_ne {p q : Nat × Nat} (h : p ≠ q) : PyData.eqv (qD p) (qD q) = false := by
  have e : PyData.eqv (qD p) (qD q) = (((p.1 : Int) == (q.1 : Int)) && (((p.2 : Int) == (q.2 : Int)) && true)) := by simp only [qD, PyData.eqv, PyData.eqvAll]
  rw [e]
  by_cases h1 : p.1 = q.1
  · have h2 : ¬ p.2 = q.2 := fun z => h (Prod.ext h1 z)
    rw [show ((p.2 : Int) == (q.2 : Int)) = false from beq_eq_false_iff_ne.mpr (by omega), Bool.false_and, Bool.and_false]
  · rw [show ((p.1 : Int) == (q.1 : Int)) = false from beq_eq_false_iff_ne.mpr (by omega), Bool.false_and]
theorem qD_none {ps : List (Nat × Nat)} {p : Nat × Nat} (h : p ∉ ps) : ((ps.map qD).any fun z => PyData.eqv z (qD p)) = false := by
  rw [List.any_eq_false]
  intro d hd
  obtain ⟨q, hq, rfl⟩ := List.mem_map.mp hd
  have hn := qD_ne (p := q) (q := p) (fun e => h (by rw [← e]; exact hq))
  rw [hn]
  exact Bool.false_ne_true
section
variable {K : PySem.W.Frag} {H : Hp}
theorem dp_pair {t : Addr} {p : Nat × Nat} (h : H t = some (.tup [nV p.1, nV p.2])) : Dp K H (.ref t) (qD p) := .tup (sqt h) (.cons (.int _) (.cons (.int _) .nil))
theorem dp_all : ∀ {zs : List Z}, PrZ H zs → DpAll K H (zs.map zV) ((zs.map (·.2)).map qD)
  | [], _ => .nil
  | z :: zs, h => .cons (dp_pair (h z List.mem_cons_self)) (dp_all fun y hy => h y (List.mem_cons_of_mem _ hy))
theorem dp_pairs {a : Addr} {zs : List Z} (ha : H a = some (.lst (zs.map zV))) (h : PrZ H zs) : Dp K H (.ref a) (.list ((zs.map (·.2)).map qD)) := .lst (sq ha) (dp_all h)
end
section
variable {P : Program} {w : World} {K : PySem.W.Frag} {mg : Str → Option Value} {base : Heap} {f : Addr} {fd : FuncData}
/-! ### _checked_pairs -/
abbrev checked_pairs_N : List Str := ["depots", "customers", "routes", "pairs", "depot", "customer"]
theorem checked_pairs_sc : FnScope ["depots", "customers", "routes", "pairs", "depot", "customer"] ["depots", "customers", "routes"] (defScope checked_pairs_st) := ⟨rfl, rfl, rfl, by decide +kernel, rfl, by decide +kernel, by decide +kernel⟩
def spPairs : Sp := fun vs H Q _ => ∃ (a : Addr) (m n : Nat) (zs : List Z), vs = [nV m, nV n, .ref a] ∧ H a = some (.lst (zs.map zV)) ∧ PrZ H zs ∧ Fit m n (zs.map (·.2)) ∧ zs.length ≤ 40 ∧
  ∀ (H' : Hp) (D : Addr) (ws : List Z), Same H H' → H D = none → H' D = some (.lst (ws.map zV)) → PrZ H' ws → ws.map (·.2) = zs.map (·.2) → Q (.ref D) H'
theorem ok_pairs {CN f1 f2 : Addr} {fd1 fd2 : FuncData} (F : FnS K "_checked_pairs" checked_pairs_st f fd) (D_check_depot : Dn P w K mg base 3 "check_depot" ["depot", "depots"] (spDepot CN) f1 fd1) (D_check_customer : Dn P w K mg base 1 "check_customer" ["customer", "customers"] spCustomer f2 fd2) : FnOk P w K mg base (L2N.CX P w) 4 f fd ["depots", "customers", "routes"] spPairs := by
  refine F.ok checked_pairs_sc (fun vs H Q E h => ?_) (fun cdv A outer s H vs Q E hr h => ?_)
  · obtain ⟨a, m, n, zs, rfl, _⟩ := h
    rfl
  · obtain ⟨a, m, n, zs, rfl, ha, pr, fit, z16, q⟩ := h
    have hu65 := u65 hr
    refine ⟨_, (pss_cons (ps_set (i := 3) checked_pairs_sc.nd rfl (Or.inl rfl) (pe_lst pa_nil))
      (pss_cons (ps_for (passes_of rfl) rfl (pi_list (pv 2)) (pg_tup rfl (pgs_cons (pg_name (i := 4) checked_pairs_sc.nd rfl (Or.inl rfl)) (pgs_cons (pg_name (i := 5) checked_pairs_sc.nd rfl (Or.inl rfl)) pgs_nil)))
      (pss_cons (ps_expr (pe_call D_check_depot.ok (hr.mono (by decide)) rfl D_check_depot.g D_check_depot.kp D_check_depot.b .nil ErrX.passN (pa_cons (pv 4) (pa_cons (pv 0) pa_nil))))
      (pss_cons (ps_expr (pe_call D_check_customer.ok (hr.mono (by decide)) rfl D_check_customer.g D_check_customer.kp D_check_customer.b .nil ErrX.passN (pa_cons (pv 5) (pa_cons (pv 1) pa_nil))))
      (pss_cons (ps_if (pt_cmpR (op_inD hu65) (pe_tup (pa_cons (pv 4) (pa_cons (pv 5) pa_nil))) (pv 3) rfl) (pss_one ps_never) pss_nil)
      (pss_one (ps_expr (pe_bm PySem.F.plainAttrs_list PySem.F.slot_list_append PySem.F.type_list_append mt_append (pv 3) (pa_cons (pe_tup (pa_cons (pv 4) (pa_cons (pv 5) pa_nil))) pa_nil))))))))
      (pss_one (ps_ret (pv 3))))), ?_⟩
    refine ⟨len0, fun D nD => ?_⟩
    have s1 := Same.new (o := .lst []) nD
    refine ⟨.ref a, rfl, a, rfl, ⟨_, sq (s1 _ _ ha)⟩, ?_⟩
    refine for_list (K := K) (a := a) (xs := zs.map zV) (fun i σ H' => ∃ (y4 y5 : Option V) (ws : List Z), σ = [some (nV m), some (nV n), some (.ref a), some (.ref D), y4, y5] ∧ Same H H' ∧ H' D = some (.lst (ws.map zV)) ∧ PrZ H' ws ∧ ws.map (·.2) = (zs.map (·.2)).take i) ⟨none, none, [], rfl, s1, upd_same, (fun _ h => nomatch h), rfl⟩ (fun i σ H' _ h => ?_) (fun i x σ H' hx h => ?_) (fun σ H' h => ?_)
    · obtain ⟨y4, y5, ws, _, sm, _⟩ := h
      exact sq (sm _ _ ha)
    · obtain ⟨y4, y5, ws, rfl, sm, hD, pw, ew⟩ := h
      obtain ⟨z, ez, mz, rfl⟩ := item_zV hx
      have hz := sm _ _ (pr z mz)
      obtain ⟨r1, r2⟩ := fit.2 z.2 (List.mem_map_of_mem mz)
      have hi : i < 40 := Nat.lt_of_lt_of_le (List.getElem?_eq_some_iff.mp ez).1 z16
      have wl : ws.length ≤ i := by
        have := congrArg List.length ew
        rw [List.length_map, List.length_take] at this
        omega
      refine ⟨z.1, [nV z.2.1, nV z.2.2], rfl, sqt hz, rfl, nV z.2.1, [nV z.2.2], rfl, nV z.2.2, [], rfl, rfl, ?_⟩
      refine ⟨nV z.2.1, rfl, nV m, rfl, (z.2.1 : Int), m, rfl, fun _ => ?_, fun hb => absurd ⟨Int.natCast_nonneg _, Int.ofNat_lt.mpr r1⟩ hb⟩
      refine ⟨nV z.2.2, rfl, nV n, rfl, (z.2.2 : Int), (n : Int), rfl, Int.natCast_nonneg _, Int.ofNat_lt.mpr r2, ?_⟩
      refine ⟨nV z.2.1, rfl, nV z.2.2, rfl, len2, fun t nt => ?_⟩
      have st := Same.new (o := .tup [nV z.2.1, nV z.2.2]) nt
      have hD2 := st _ _ hD
      have nin : z.2 ∉ ws.map (·.2) := by
        rw [ew]
        have hz' := zs_at ez
        have nd := fit.1
        obtain ⟨hl, e⟩ := List.getElem?_eq_some_iff.mp hz'
        intro hm
        obtain ⟨j, hj, ej⟩ := List.getElem_of_mem hm
        rw [List.getElem_take] at ej
        rw [List.length_take] at hj
        have := (List.getElem_inj (h₀ := by omega) (h₁ := hl) nd).mp (ej.trans e.symm)
        omega
      refine ⟨.ref D, rfl, qD z.2, (ws.map (·.2)).map qD, dp_pair upd_same, dp_pairs hD2 (pw.keep st), qD_shaped _, qDs_shaped _, _, rfl, ite2 (fun e => ?_) (fun e => ?_)⟩
      · have := qD_none nin
        rw [this] at e
        cases e
      · refine ⟨.ref D, rfl, .inl ⟨rfl, _, sq hD2⟩, nV z.2.1, rfl, nV z.2.2, rfl, len2, fun t2 nt2 => ?_⟩
        have st2 := Same.new (o := .tup [nV z.2.1, nV z.2.2]) nt2
        have hD3 := st2 _ _ hD2
        have ntD : t2 ≠ D := (ne_of_none hD2 nt2).symm
        refine ⟨D, _, _, rfl, rfl, hD3, small1000 (by rw [List.length_map]; omega), _, _, ws ++ [(t2, z.2.1, z.2.2)], rfl, ((sm.trans st).trans st2).mut nD, ?_, ?_, ?_⟩
        · rw [upd_same, List.map_append]
          rfl
        · intro y hy
          rcases List.mem_append.mp hy with hy | hy
          · have := st2 _ _ (st _ _ (pw y hy))
            rw [upd_ne (fun e => by rw [e, hD3] at this; cases this)]
            exact this
          · rw [List.mem_singleton.mp hy]
            show upd _ D _ t2 = _
            rw [upd_ne ntD]
            exact upd_same
        · rw [List.map_append, ew, List.take_add_one, zs_at ez]
          rfl
    · obtain ⟨y4, y5, ws, rfl, sm, hD, pw, ew⟩ := h
      rw [List.take_of_length_le (by rw [List.length_map, List.length_map]; exact Nat.le_refl _)] at ew
      exact ⟨.ref D, rfl, q H' D ws sm nD hD pw ew⟩
end
end K05
set_option Elab.async false
set_option linter.all false
set_option maxRecDepth 100000
set_option maxHeartbeats 4000000
namespace K05
open PySem PySem.Spec PyProof.Rows L2
abbrev FnM (K : PySem.W.Frag) (x q : Str) (st : Stmt) (f : Addr) (fd : FuncData) : Prop := FunD K x q (defArgs st) (defBody st) (defScope st) [] [] f fd
theorem putF_len (g : Str) (v : V) : ∀ fs : List (Str × V), (putF g v fs).length ≤ fs.length + 1
  | [] => Nat.le_refl _
  | (h, x) :: r => by
    unfold putF
    by_cases e : h = g
    · rw [if_pos e]
      exact Nat.le_succ _
    · rw [if_neg e]
      exact Nat.succ_le_succ (putF_len g v r)
/-- the class Network as the top has made it -/
structure NetC (K : PySem.W.Frag) (C : Addr) (uP uR : Value) : Prop where
  cl : Cls K C
  nD : NoAttr K C "_depots"
  nC : NoAttr K C "_customers"
  nR : NoAttr K C "_routes"
  nI : NoAttr K C "_indices"
  nP : NoAttr K C "_pieces"
  cP : Con K C "MOST_PLACES" (.int 8) uP
  cR : Con K C "MOST_ROUTES" (.int 16) uR
def nf (m n : Nat) (r di q : Addr) : List (Str × V) := putF "_pieces" (.ref q) (putF "_indices" (.ref di) (putF "_routes" (.ref r) (putF "_customers" (nV n) (putF "_depots" (nV m) []))))
theorem nf_D (m n : Nat) (r di q : Addr) : (nf m n r di q).lookup ("_depots" : Str) = some (nV m) := by
  unfold nf
  rw [lookup_putF, if_neg (by decide), lookup_putF, if_neg (by decide), lookup_putF, if_neg (by decide), lookup_putF, if_neg (by decide), lookup_putF, if_pos rfl]
theorem nf_R (m n : Nat) (r di q : Addr) : (nf m n r di q).lookup ("_routes" : Str) = some (V.ref r) := by
  unfold nf
  rw [lookup_putF, if_neg (by decide), lookup_putF, if_neg (by decide), lookup_putF, if_pos rfl]
theorem nf_P (m n : Nat) (r di q : Addr) : (nf m n r di q).lookup ("_pieces" : Str) = some (V.ref q) := by
  unfold nf
  rw [lookup_putF, if_pos rfl]
theorem nf_no (m n : Nat) (r di q : Addr) {g : Str} (h1 : ¬ g = "_pieces") (h2 : ¬ g = "_indices") (h3 : ¬ g = "_routes") (h4 : ¬ g = "_customers") (h5 : ¬ g = "_depots") : (nf m n r di q).lookup g = none := by
  unfold nf
  rw [lookup_putF, if_neg h1, lookup_putF, if_neg h2, lookup_putF, if_neg h3, lookup_putF, if_neg h4, lookup_putF, if_neg h5]
  rfl
/-- the key of a route; its number among the first i of zs -/
def kz (z : Z) : List Key := [Sum.inl (z.2.1 : Int), Sum.inl (z.2.2 : Int)]
def ixv (zs : List Z) : Nat → List Key → Option V
  | 0, _ => none
  | i + 1, k => match zs[i]? with
    | some z => if k = kz z then some (.int (i : Nat)) else ixv zs i k
    | none => ixv zs i k
/-- the network at p numbers its routes -/
def NetIx (C : Addr) (H : Hp) (p : Addr) (zs : List Z) : Prop := ∃ dx m n r di q kvs, H p = some (.ins C dx (nf m n r di q)) ∧ H di = some (.dT kvs) ∧ ∀ k, valV kvs k = ixv zs zs.length k
theorem NetIx.keep {C : Addr} {H H' : Hp} {p : Addr} {zs : List Z} (h : NetIx C H p zs) (e : Same H H') : NetIx C H' p zs := by
  obtain ⟨dx, m, n, r, di, q, kvs, h1, h2, h3⟩ := h
  exact ⟨dx, m, n, r, di, q, kvs, e _ _ h1, e _ _ h2, h3⟩
/-- a network stands at p -/
structure NetAt (C : Addr) (H : Hp) (p : Addr) (m n : Nat) (zs : List Z) (ws : List P4) : Prop where
  ob : ∃ dx r di q, H p = some (.ins C dx (nf m n r di q)) ∧ H r = some (.lst (zs.map zV)) ∧ H q = some (.lst (ws.map pV))
  pr : PrZ H zs
  pc : PcZ H ws
  inr : InR m n zs
  few : zs.length ≤ 16
  due : ws.map P4.d = pcs m n (labs m n (zs.map (·.2)))
  m8 : m ≤ 8
  n8 : n ≤ 8
theorem NetAt.keep {C : Addr} {H H' : Hp} {p : Addr} {m n : Nat} {zs : List Z} {ws : List P4} (h : NetAt C H p m n zs ws) (e : Same H H') : NetAt C H' p m n zs ws := by
  obtain ⟨dx, r, di, q, h1, h2, h3⟩ := h.ob
  exact ⟨⟨dx, r, di, q, e _ _ h1, e _ _ h2, e _ _ h3⟩, h.pr.keep e, h.pc.keep e, h.inr, h.few, h.due, h.m8, h.n8⟩
theorem ne_ins {H : Hp} {a p C : Addr} {dx : Addr} {fs : List (Str × V)} {xs : List V} (ha : H a = some (.lst xs)) (hp : H p = some (.ins C dx fs)) : a ≠ p := fun e => by
  rw [e, hp] at ha
  cases ha
theorem ne_insT {H : Hp} {a p C : Addr} {dx : Addr} {fs : List (Str × V)} {xs : List V} (ha : H a = some (.tup xs)) (hp : H p = some (.ins C dx fs)) : a ≠ p := fun e => by
  rw [e, hp] at ha
  cases ha
theorem PrZ.upd {H : Hp} {p C : Addr} {dx : Addr} {fs : List (Str × V)} {o : HO} {zs : List Z} (h : PrZ H zs) (hp : H p = some (.ins C dx fs)) : PrZ (L2.upd H p o) zs := fun z m => by
  rw [upd_ne (ne_insT (h z m) hp)]
  exact h z m
section
variable {P : Program} {w : World} {K : PySem.W.Frag} {mg : Str → Option Value} {base : Heap} {f : Addr} {fd : FuncData}
/-! ### Network.__init__ -/
abbrev Network_init_N : List Str := ["self", "depots", "customers", "routes", "pairs", "index", "route"]
theorem Network_init_sc : FnScope ["self", "depots", "customers", "routes", "pairs", "index", "route"] ["self", "depots", "customers", "routes"] (defScope Network_init_st) := ⟨rfl, rfl, rfl, by decide +kernel, rfl, by decide +kernel, by decide +kernel⟩
def spNet (C : Addr) : Sp := fun vs H Q _ => ∃ (p a : Addr) (dx : Addr) (m n : Nat) (zs : List Z), vs = [.ref p, nV m, nV n, .ref a] ∧ H p = some (.ins C dx []) ∧ H a = some (.lst (zs.map zV)) ∧ PrZ H zs ∧ Fit m n (zs.map (·.2)) ∧ zs.length ≤ 16 ∧ 1 ≤ m ∧ m ≤ 8 ∧ 1 ≤ n ∧ n ≤ 8 ∧
  ∀ (H' : Hp) (zs' : List Z) (ws : List P4), But p H H' → NetAt C H' p m n zs' ws → Asc (zs'.map (·.2)) (zs.map (·.2)) → FrZ H ws → (∀ (b0 : Addr) (xs : List V), H b0 = some (.lst xs) → NetAt C (del H' b0) p m n zs' ws) → NetIx C H' p zs' → Q .non H'
theorem ok_net {C f1 f2 f3 f4 : Addr} {fd1 fd2 fd3 fd4 : FuncData} {uP uR : Value} (F : FnM K "__init__" "Network.__init__" Network_init_st f fd) (T : NetC K C uP uR) (m_len : mg "len" = none) (m_sorted : mg "sorted" = none) (m_enumerate : mg "enumerate" = none)
    (D_check_size : Dn P w K mg base 1 "check_size" ["size", "least", "most"] spSize f1 fd1) (D_check_most : Dn P w K mg base 1 "check_most" ["number", "most"] spMost f2 fd2) (D_checked_pairs : Dn P w K mg base 4 "_checked_pairs" ["depots", "customers", "routes"] spPairs f3 fd3) (D_found_pieces : Dn P w K mg base 3 "_found_pieces" ["depots", "customers", "routes"] spFound f4 fd4) :
    FnOk P w K mg base (L2N.CX P w) 5 f fd ["self", "depots", "customers", "routes"] (spNet C) := by
  refine F.ok Network_init_sc (fun vs H Q E h => ?_) (fun cdv A outer s H vs Q E hr h => ?_)
  · obtain ⟨p, a, dx, m, n, zs, rfl, _⟩ := h
    rfl
  · obtain ⟨p, a, dx, m, n, zs, rfl, hp, ha, pr, fit, z16, m1, m8, n1, n8, q⟩ := h
    have hu0 := hr.units0
    refine ⟨_, (pss_cons (ps_expr (pe_call D_check_size.ok (hr.mono (by decide)) rfl D_check_size.g D_check_size.kp D_check_size.b .nil ErrX.passN (pa_cons (pv 1) (pa_cons pe_int (pa_cons (pe_con (pv 0) rfl) pa_nil)))))
      (pss_cons (ps_expr (pe_call D_check_size.ok (hr.mono (by decide)) rfl D_check_size.g D_check_size.kp D_check_size.b .nil ErrX.passN (pa_cons (pv 2) (pa_cons pe_int (pa_cons (pe_con (pv 0) rfl) pa_nil)))))
      (pss_cons (ps_set (i := 4) Network_init_sc.nd rfl (Or.inl rfl) (pe_call D_checked_pairs.ok (hr.mono (by decide)) rfl D_checked_pairs.g D_checked_pairs.kp D_checked_pairs.b .nil ErrX.passN (pa_cons (pv 1) (pa_cons (pv 2) (pa_cons (pv 3) pa_nil)))))
      (pss_cons (ps_expr (pe_call D_check_most.ok (hr.mono (by decide)) rfl D_check_most.g D_check_most.kp D_check_most.b .nil ErrX.passN (pa_cons (pe_callB call_len_seq (by rfl) m_len (by decide +kernel) (pa_cons (pv 4) pa_nil)) (pa_cons (pe_con (pv 0) rfl) pa_nil))))
      (pss_cons (ps_fld (pv 0) (pv 1) rfl)
      (pss_cons (ps_fld (pv 0) (pv 2) rfl)
      (pss_cons (ps_fld (pv 0) (pe_callB cr_sortedPO (by rfl) m_sorted (by decide +kernel) (pa_cons (pv 4) pa_nil)) rfl)
      (pss_cons (ps_fld (pv 0) (CmX.pe_dcT (own := [("index", 5), ("route", 6)]) hu0 rfl Network_init_sc.nd (pi_enum (by rfl) m_enumerate (pa_cons (pe_fld (pv 0) rfl) pa_nil)) (blkOk_by (own := [("index", 5), ("route", 6)]) (N := Network_init_N) (sc := defScope Network_init_st) (by decide +kernel)) (fun _ _ _ _ _ => (pg_tup rfl (pgs_cons (pg_name (i := 5) Network_init_sc.nd rfl (Or.inl rfl)) (pgs_cons (pg_name (i := 6) Network_init_sc.nd rfl (Or.inl rfl)) pgs_nil)) : PG _ _ (gTup K 2 _))) (fun _ _ _ _ _ => pts_nil) (fun _ _ _ _ _ => (pv 6)) (fun _ _ _ _ _ => (pv 5))) rfl)
      (pss_one (ps_fld (pv 0) (pe_call D_found_pieces.ok (hr.mono (by decide)) rfl D_found_pieces.g D_found_pieces.kp D_found_pieces.b .nil ErrX.passN (pa_cons (pv 1) (pa_cons (pv 2) (pa_cons (pe_fld (pv 0) rfl) pa_nil)))) rfl)))))))))), ?_⟩
    refine ⟨nV m, rfl, .ref p, rfl, p, C, dx, [], .int 8, uP, rfl, hp, T.cl, T.cP, rfl, (m : Int), 1, 8, rfl, by omega, by omega, ?_⟩
    refine ⟨nV n, rfl, .ref p, rfl, p, C, dx, [], .int 8, uP, rfl, hp, T.cl, T.cP, rfl, (n : Int), 1, 8, rfl, by omega, by omega, ?_⟩
    refine ⟨nV m, rfl, nV n, rfl, .ref a, rfl, a, m, n, zs, rfl, ha, pr, fit, Nat.le_trans z16 (by decide), fun H1 D vs s1 nD hD pv ev => ?_⟩
    have hp1 := s1 _ _ hp
    have vl : vs.length ≤ 16 := by
      have := congrArg List.length ev
      rw [List.length_map, List.length_map] at this
      omega
    refine ⟨.ref D, rfl, D, _, rfl, .inl (sq hD), .ref p, rfl, p, C, dx, [], .int 16, uR, rfl, hp1, T.cl, T.cR, rfl, _, 16, rfl, by rw [List.length_map]; omega, ?_⟩
    refine ⟨nV m, rfl, .ref p, rfl, p, C, dx, [], rfl, hp1, T.cl, T.nD, Nat.zero_lt_succ _, ?_⟩
    refine ⟨nV n, rfl, .ref p, rfl, p, C, dx, _, rfl, upd_same, T.cl, T.nC, Nat.lt_of_le_of_lt (putF_len _ _ _) (by decide), ?_⟩
    rw [upd_upd]
    have hp2 : (upd H1 p (.ins C dx (putF "_customers" (nV n) (putF "_depots" (nV m) [])))) p = some (.ins C dx (putF "_customers" (nV n) (putF "_depots" (nV m) []))) := upd_same
    have hD2 : (upd H1 p (.ins C dx (putF "_customers" (nV n) (putF "_depots" (nV m) [])))) D = some (.lst (vs.map zV)) := by
      rw [upd_ne (ne_ins hD hp1)]
      exact hD
    have pv2 : PrZ (upd H1 p (.ins C dx (putF "_customers" (nV n) (putF "_depots" (nV m) [])))) vs := pv.upd hp1
    have b2 : But p H (upd H1 p (.ins C dx (putF "_customers" (nV n) (putF "_depots" (nV m) [])))) := But.at_ (.of s1)
    generalize upd H1 p (.ins C dx (putF "_customers" (nV n) (putF "_depots" (nV m) []))) = H2 at hp2 hD2 pv2 b2 ⊢
    have nd2 : (vs.map (·.2)).Nodup := by
      rw [ev]
      exact fit.1
    refine ⟨.ref D, rfl, D, vs.map zV, kH H2, rfl, sq hD2, fun x hx => ?_, fun ys r hs hb nr => ?_⟩
    · obtain ⟨z, hz, rfl⟩ := List.mem_map.mp hx
      have hk := kH_at (pv2 z hz)
      refine ⟨z.1, rfl, ?_⟩
      rw [hk]
      exact pv2 z hz
    obtain ⟨zs', rfl, pm, asc⟩ := sorted_pairs pv2 nd2 hs hb
    rw [ev] at asc
    have pr2 : PrZ H2 zs' := fun z hz => pv2 z (pm.mem_iff.mp hz)
    have z'16 : zs'.length ≤ 16 := by
      rw [pm.length_eq]
      exact vl
    have inr : InR m n zs' := fun z hz => fit.2 z.2 (asc.1.mem_iff.mp (List.mem_map_of_mem hz))
    have s3 := Same.new (o := .lst (zs'.map zV)) nr
    have hp3 := s3 _ _ hp2
    have nrp : r ≠ p := (ne_of_none hp2 nr).symm
    refine ⟨.ref p, rfl, p, C, dx, _, rfl, hp3, T.cl, T.nR, Nat.lt_of_le_of_lt (putF_len _ _ _) (Nat.lt_of_le_of_lt (Nat.succ_le_succ (putF_len _ _ _)) (by decide)), ?_⟩
    have hp4 : (upd (upd H2 r (.lst (zs'.map zV))) p (.ins C dx (putF "_routes" (.ref r) (putF "_customers" (nV n) (putF "_depots" (nV m) []))))) p = some (.ins C dx (putF "_routes" (.ref r) (putF "_customers" (nV n) (putF "_depots" (nV m) [])))) := upd_same
    have hr4 : (upd (upd H2 r (.lst (zs'.map zV))) p (.ins C dx (putF "_routes" (.ref r) (putF "_customers" (nV n) (putF "_depots" (nV m) []))))) r = some (.lst (zs'.map zV)) := by
      rw [upd_ne nrp]
      exact upd_same
    have pr4 : PrZ (upd (upd H2 r (.lst (zs'.map zV))) p (.ins C dx (putF "_routes" (.ref r) (putF "_customers" (nV n) (putF "_depots" (nV m) []))))) zs' := (pr2.keep s3).upd hp3
    have b4 : But p H (upd (upd H2 r (.lst (zs'.map zV))) p (.ins C dx (putF "_routes" (.ref r) (putF "_customers" (nV n) (putF "_depots" (nV m) []))))) := But.at_ (b2.trans (.of s3))
    generalize upd (upd H2 r (.lst (zs'.map zV))) p (.ins C dx (putF "_routes" (.ref r) (putF "_customers" (nV n) (putF "_depots" (nV m) [])))) = H4 at hp4 hr4 pr4 b4 ⊢
    have look : (putF "_routes" (.ref r) (putF "_customers" (nV n) (putF "_depots" (nV m) []))).lookup ("_routes" : Str) = some (V.ref r) := by rw [lookup_putF, if_pos rfl]
    refine ⟨.ref p, rfl, p, C, dx, _, .ref r, rfl, hp4, T.cl, T.nR, look, r, zs'.map zV, rfl, sq hr4, fun Di nDi => ?_⟩
    refine ⟨fun i m' H' => m' = zs'.length - i ∧ i ≤ zs'.length ∧ Same H4 H' ∧ ∃ kvs : List (List Key × V), H' Di = some (.dT kvs) ∧ kvs.length ≤ i ∧ ∀ k, valV kvs k = ixv zs' i k, ⟨_, rfl, Nat.zero_le _, Same.new nDi, [], upd_same, Nat.le_refl _, fun _ => rfl⟩, fun i m' H' hW => ?_⟩
    obtain ⟨rfl, hi, sm, kvs, hDi, kl, kx⟩ := hW
    have hr' := sm _ _ hr4
    by_cases hlt : i < zs'.length
    · have g : (zs'.map zV)[i]? = some (zV zs'[i]) := by
        rw [List.getElem?_map, List.getElem?_eq_getElem hlt]
        rfl
      refine .inr ⟨⟨_, _, sq hr', g⟩, fun H'' => Same H4 H'' ∧ ∃ kvs : List (List Key × V), H'' Di = some (.dT kvs) ∧ kvs.length ≤ i + 1 ∧ ∀ k, valV kvs k = ixv zs' (i + 1) k, fun H'' ⟨h1, h2⟩ => ⟨zs'.length - (i + 1), by omega, rfl, hlt, h1, h2⟩, fun x H'' hy => ?_⟩
      obtain ⟨Tt, x1, rfl, nT, rfl, fx⟩ := hy
      have ex : x1 = zV zs'[i] := Option.some.inj ((fx _ (sq hr')).symm.trans g)
      subst ex
      have st := Same.new (o := .tup [.int (i : Nat), zV zs'[i]]) nT
      have hz := st _ _ (sm _ _ (pr4 _ (List.getElem_mem hlt)))
      refine ⟨Tt, [.int (i : Nat), zV zs'[i]], rfl, sqt upd_same, rfl, .int (i : Nat), [zV zs'[i]], rfl, zV zs'[i], [], rfl, rfl, rfl, ?_⟩
      refine ⟨zV zs'[i], rfl, .int (i : Nat), rfl, zs'[i].1, kvs, [Sum.inl (zs'[i].2.1 : Int), Sum.inl (zs'[i].2.2 : Int)], rfl, st _ _ hDi, hz, small1000 (by omega), (sm.trans st).mut nDi, _, upd_same, ?_, fun k => ?_⟩
      · have := length_putK kvs [Sum.inl (zs'[i].2.1 : Int), Sum.inl (zs'[i].2.2 : Int)] (.int (i : Nat))
        omega
      · rw [valV_put, kx]
        show _ = (match zs'[i]? with
          | some z => if k = kz z then some (V.int (i : Nat)) else ixv zs' i k
          | none => ixv zs' i k)
        rw [List.getElem?_eq_getElem hlt]
        rfl
    · refine .inl ⟨⟨_, sq hr', by rw [List.length_map]; omega⟩, ?_⟩
      have hp5 := sm _ _ hp4
      have nDp : Di ≠ p := (ne_of_none hp4 nDi).symm
      refine ⟨.ref p, rfl, p, C, dx, _, rfl, hp5, T.cl, T.nI, Nat.lt_of_le_of_lt (putF_len _ _ _) (Nat.lt_of_le_of_lt (Nat.succ_le_succ (putF_len _ _ _)) (Nat.lt_of_le_of_lt (Nat.succ_le_succ (Nat.succ_le_succ (putF_len _ _ _))) (by decide))), ?_⟩
      have hp6 : (upd H' p (.ins C dx (putF "_indices" (.ref Di) (putF "_routes" (.ref r) (putF "_customers" (nV n) (putF "_depots" (nV m) [])))))) p = some (.ins C dx (putF "_indices" (.ref Di) (putF "_routes" (.ref r) (putF "_customers" (nV n) (putF "_depots" (nV m) []))))) := upd_same
      have hr6 : (upd H' p (.ins C dx (putF "_indices" (.ref Di) (putF "_routes" (.ref r) (putF "_customers" (nV n) (putF "_depots" (nV m) [])))))) r = some (.lst (zs'.map zV)) := by
        rw [upd_ne nrp]
        exact hr'
      have pr6 : PrZ (upd H' p (.ins C dx (putF "_indices" (.ref Di) (putF "_routes" (.ref r) (putF "_customers" (nV n) (putF "_depots" (nV m) [])))))) zs' := (pr4.keep sm).upd hp5
      have b6 : But p H (upd H' p (.ins C dx (putF "_indices" (.ref Di) (putF "_routes" (.ref r) (putF "_customers" (nV n) (putF "_depots" (nV m) [])))))) := But.at_ (b4.trans (.of sm))
      have hDx : (upd H' p (.ins C dx (putF "_indices" (.ref Di) (putF "_routes" (.ref r) (putF "_customers" (nV n) (putF "_depots" (nV m) [])))))) Di = some (.dT kvs) := by
        rw [upd_ne nDp]
        exact hDi
      generalize upd H' p (.ins C dx (putF "_indices" (.ref Di) (putF "_routes" (.ref r) (putF "_customers" (nV n) (putF "_depots" (nV m) []))))) = H6 at hp6 hr6 pr6 b6 hDx ⊢
      have look2 : (putF "_indices" (.ref Di) (putF "_routes" (.ref r) (putF "_customers" (nV n) (putF "_depots" (nV m) [])))).lookup ("_routes" : Str) = some (V.ref r) := by rw [lookup_putF, if_neg (by decide), look]
      refine ⟨nV m, rfl, nV n, rfl, .ref p, rfl, p, C, dx, _, .ref r, rfl, hp6, T.cl, T.nR, look2, r, m, n, zs', rfl, hr6, pr6, inr, m8, n8, fun H7 g wz s7 ng hg pz fz ez nz => ?_⟩
      have hp7 := s7 _ _ hp6
      refine ⟨.ref p, rfl, p, C, dx, _, rfl, hp7, T.cl, T.nP, Nat.lt_of_le_of_lt (putF_len _ _ _) (Nat.lt_of_le_of_lt (Nat.succ_le_succ (putF_len _ _ _)) (Nat.lt_of_le_of_lt (Nat.succ_le_succ (Nat.succ_le_succ (putF_len _ _ _))) (Nat.lt_of_le_of_lt (Nat.succ_le_succ (Nat.succ_le_succ (Nat.succ_le_succ (putF_len _ _ _)))) (by decide)))), ?_⟩
      have ngp : g ≠ p := (ne_of_none hp6 ng).symm
      have hDi6 : H6 Di = some (.dT kvs) := hDx
      have ie : i = zs'.length := by omega
      have fz' : FrZ H wz := fun z hz => ⟨b6.back hp6 (fz z hz).1, b6.back hp6 (fz z hz).2.1, b6.back hp6 (fz z hz).2.2⟩
      have bF : But p H (upd H7 p (.ins C dx (putF "_pieces" (.ref g) (putF "_indices" (.ref Di) (putF "_routes" (.ref r) (putF "_customers" (nV n) (putF "_depots" (nV m) []))))))) := But.at_ (b6.trans (.of s7))
      have Hr0 : H r = none := b2.back hp2 nr
      have Hg0 : H g = none := b6.back hp6 ng
      have pF : PrZ (upd H7 p (.ins C dx (putF "_pieces" (.ref g) (putF "_indices" (.ref Di) (putF "_routes" (.ref r) (putF "_customers" (nV n) (putF "_depots" (nV m) []))))))) zs' := (pr6.keep s7).upd hp7
      have rF : (upd H7 p (.ins C dx (putF "_pieces" (.ref g) (putF "_indices" (.ref Di) (putF "_routes" (.ref r) (putF "_customers" (nV n) (putF "_depots" (nV m) []))))))) r = some (.lst (zs'.map zV)) := by
        rw [upd_ne nrp]
        exact s7 _ _ hr6
      have gF : (upd H7 p (.ins C dx (putF "_pieces" (.ref g) (putF "_indices" (.ref Di) (putF "_routes" (.ref r) (putF "_customers" (nV n) (putF "_depots" (nV m) []))))))) g = some (.lst (wz.map pV)) := by
        rw [upd_ne ngp]
        exact hg
      have cF : PcZ (upd H7 p (.ins C dx (putF "_pieces" (.ref g) (putF "_indices" (.ref Di) (putF "_routes" (.ref r) (putF "_customers" (nV n) (putF "_depots" (nV m) []))))))) wz := fun z hz => by
        have h := pz z hz
        refine ⟨?_, ?_, ?_⟩
        · rw [upd_ne (ne_insT h.ht hp7)]
          exact h.ht
        · rw [upd_ne (ne_ins h.ho hp7)]
          exact h.ho
        · rw [upd_ne (ne_ins h.hu hp7)]
          exact h.hu
      refine q _ zs' wz bF ⟨⟨dx, r, Di, g, upd_same, rF, gF⟩, pF, cF, inr, z'16, ez, m8, n8⟩ asc fz' (fun b0 xs hb0 => ?_) ⟨dx, m, n, r, Di, g, kvs, upd_same, by rw [upd_ne nDp]; exact s7 _ _ hDi6, by rw [← ie]; exact kx⟩
      have nb0 : b0 ≠ p := ne_ins hb0 hp
      have hbF := bF _ _ nb0 hb0
      have tupne : ∀ {c : Addr} {ys : List V}, (upd H7 p (.ins C dx (putF "_pieces" (.ref g) (putF "_indices" (.ref Di) (putF "_routes" (.ref r) (putF "_customers" (nV n) (putF "_depots" (nV m) []))))))) c = some (.tup ys) → c ≠ b0 := fun h e => by
        rw [e, hbF] at h
        cases h
      have frne : ∀ {c : Addr}, H c = none → c ≠ b0 := fun h e => by
        rw [e, hb0] at h
        cases h
      refine ⟨⟨dx, r, Di, g, ?_, ?_, ?_⟩, fun z hz => ?_, fun z hz => ⟨?_, ?_, ?_⟩, inr, z'16, ez, m8, n8⟩
      · rw [del_ne nb0.symm]
        exact upd_same
      · rw [del_ne (frne Hr0)]
        exact rF
      · rw [del_ne (frne Hg0)]
        exact gF
      · rw [del_ne (tupne (pF z hz))]
        exact pF z hz
      · rw [del_ne (tupne (cF z hz).ht)]
        exact (cF z hz).ht
      · rw [del_ne (frne (fz' z hz).2.1)]
        exact (cF z hz).ho
      · rw [del_ne (frne (fz' z hz).2.2)]
        exact (cF z hz).hu
end
end K05
set_option Elab.async false
set_option linter.all false
set_option maxRecDepth 100000
set_option maxHeartbeats 4000000
namespace K05
open PySem PySem.Spec PyProof.Rows L2
def rLstOf (K : PySem.W.Frag) : List V → Hp → VK → Prop := fun xs H Q => ∃ p ys, xs = [V.ref p] ∧ (SqL K H p ys ∨ SqT K H p ys) ∧ ∀ l, H l = none → Q (.ref l) (L2.upd H l (.lst ys))
theorem call_lst {X : Cx} : CallR X (.type "list") (rLstOf X.K) := call_list_of
section
variable {P : Program} {w : World} {K : PySem.W.Frag} {mg : Str → Option Value} {base : Heap} {f : Addr} {fd : FuncData}
/-! ### Network.pieces -/
abbrev Network_pieces_N : List Str := ["self", "depots", "customers"]
theorem Network_pieces_sc : FnScope ["self", "depots", "customers"] ["self"] (defScope Network_pieces_st) := ⟨rfl, rfl, rfl, by decide +kernel, rfl, by decide +kernel, by decide +kernel⟩
def spPieces (C : Addr) : Sp := fun vs H Q _ => ∃ (p : Addr) (m n : Nat) (zs : List Z) (ws : List P4), vs = [.ref p] ∧ NetAt C H p m n zs ws ∧ NewPcs H Q (pcs m n (labs m n (zs.map (·.2))))
theorem ok_pieces {C : Addr} {uP uR : Value} (F : FnM K "pieces" "Network.pieces" Network_pieces_st f fd) (T : NetC K C uP uR) (m_list : mg "list" = none) : FnOk P w K mg base (L2N.CX P w) 1 f fd ["self"] (spPieces C) := by
  refine F.ok Network_pieces_sc (fun vs H Q E h => ?_) (fun cdv A outer s H vs Q E hr h => ?_)
  · obtain ⟨p, m, n, zs, ws, rfl, _⟩ := h
    rfl
  · obtain ⟨p, m, n, zs, ws, rfl, N, q⟩ := h
    obtain ⟨dx, r, di, g, hp, hr', hg⟩ := N.ob
    have wl : ws.length ≤ 16 := by
      have h1 := congrArg List.length N.due
      unfold pcs heads at h1
      rw [List.length_map, List.length_map] at h1
      have h2 := List.length_filter_le (fun k => decide ((labs m n (zs.map (·.2))).getD k 0 = k)) (List.range (labs m n (zs.map (·.2))).length)
      rw [List.length_range, labs_len] at h2
      have := N.m8
      have := N.n8
      rw [labs_len] at h1
      omega
    refine ⟨_, (pss_one (ps_ret (pe_lc (own := [("depots", 1), ("customers", 2)]) rfl Network_pieces_sc.nd (pi_list (pe_fld (pv 0) rfl)) (blkOk_by (own := [("depots", 1), ("customers", 2)]) (N := Network_pieces_N) (sc := defScope Network_pieces_st) (by decide +kernel)) (fun _ _ _ _ _ => (pg_tup rfl (pgs_cons (pg_name (i := 1) Network_pieces_sc.nd rfl (Or.inl rfl)) (pgs_cons (pg_name (i := 2) Network_pieces_sc.nd rfl (Or.inl rfl)) pgs_nil)) : PG _ _ (gTup K 2 _))) (fun _ _ _ _ _ => pts_nil) (fun _ _ _ _ _ => (pe_tup (pa_cons (pe_callTy (call_lst : CallR _ (.type "list") (rLstOf K)) (by rfl) m_list (by decide +kernel) (pa_cons (pv 1) pa_nil)) (pa_cons (pe_callTy (call_lst : CallR _ (.type "list") (rLstOf K)) (by rfl) m_list (by decide +kernel) (pa_cons (pv 2) pa_nil)) pa_nil))))))), ?_⟩
    refine ⟨.ref p, rfl, p, C, dx, _, .ref g, rfl, hp, T.cl, T.nP, nf_P _ _ _ _ _, g, rfl, ⟨_, sq hg⟩, fun D nD => ?_⟩
    refine lc_list (K := K) (a := g) (xs := ws.map pV) (fun i H' => ∃ us : List P4, Same H H' ∧ H' D = some (.lst (us.map pV)) ∧ PcZ H' us ∧ FrZ H us ∧ us.map P4.d = (ws.map P4.d).take i ∧ ∀ z ∈ us, z.o ≠ D ∧ z.u ≠ D) ⟨[], Same.new nD, upd_same, (fun _ h => nomatch h), (fun _ h => nomatch h), rfl, (fun _ h => nomatch h)⟩ (fun i H' _ h => ?_) (fun i x H' hx h => ?_) (fun H' h => ?_)
    · obtain ⟨us, sm, _⟩ := h
      exact sq (sm _ _ hg)
    · obtain ⟨us, sm, hD, pz, fz, ez, nz⟩ := h
      rw [List.getElem?_map] at hx
      cases e : ws[i]? with
      | none => rw [e] at hx; cases hx
      | some z =>
        rw [e] at hx
        have hx := Option.some.inj hx
        subst hx
        have hz := (N.pc z (List.mem_of_getElem? e)).keep sm
        have hi : i < ws.length := (List.getElem?_eq_some_iff.mp e).1
        have ul : us.length = i := by
          have := congrArg List.length ez
          rw [List.length_map, List.length_take, List.length_map] at this
          omega
        refine ⟨z.t, [.ref z.o, .ref z.u], rfl, sqt hz.ht, rfl, .ref z.o, [.ref z.u], rfl, .ref z.u, [], rfl, rfl, rfl, ?_⟩
        refine ⟨.ref z.o, rfl, z.o, _, rfl, .inl (sq hz.ho), fun o no => ?_⟩
        have s1 := Same.new (o := .lst (z.d.1.map nV)) no
        refine ⟨.ref z.u, rfl, z.u, _, rfl, .inl (sq (s1 _ _ hz.hu)), fun u nu => ⟨len2, fun t nt => ?_⟩⟩
        have s2 := Same.new (o := .lst (z.d.2.map nV)) nu
        have s3 := Same.new (o := .tup [V.ref o, V.ref u]) nt
        have s12 := s1.trans s2
        have s123 := s12.trans s3
        have hD4 := s123 _ _ hD
        have noD : o ≠ D := (ne_of_none hD no).symm
        have nuD : u ≠ D := (ne_of_none (s1 _ _ hD) nu).symm
        have hpc : PcAt (L2.upd (L2.upd (L2.upd H' o (.lst (z.d.1.map nV))) u (.lst (z.d.2.map nV))) t (.tup [V.ref o, V.ref u])) t o u z.d.1 z.d.2 := ⟨upd_same, s3 _ _ (s2 _ _ upd_same), s3 _ _ upd_same⟩
        refine ⟨_, hD4, small1000 (by rw [List.length_map]; omega), us ++ [⟨t, o, u, z.d⟩], (sm.trans s123).mut nD, ?_, ?_, ?_, ?_, ?_⟩
        · rw [upd_same, List.map_append]
          rfl
        · intro y hy
          rcases List.mem_append.mp hy with hy | hy
          · exact ((pz y hy).keep s123).upd hD4 (nz y hy).1 (nz y hy).2
          · rw [List.mem_singleton.mp hy]
            exact hpc.upd hD4 noD nuD
        · intro y hy
          rcases List.mem_append.mp hy with hy | hy
          · exact fz y hy
          · rw [List.mem_singleton.mp hy]
            exact ⟨(sm.trans s12).back nt, sm.back no, (sm.trans s1).back nu⟩
        · rw [List.map_append, ez, List.take_add_one, List.getElem?_map, e]
          rfl
        · intro y hy
          rcases List.mem_append.mp hy with hy | hy
          · exact nz y hy
          · rw [List.mem_singleton.mp hy]
            exact ⟨noD, nuD⟩
    · obtain ⟨us, sm, hD, pz, fz, ez, nz⟩ := h
      rw [List.take_of_length_le (by rw [List.length_map, List.length_map]; exact Nat.le_refl _), N.due] at ez
      exact q H' D us sm nD hD pz fz ez nz
/-! ### Network.reach -/
abbrev Network_reach_N : List Str := ["self", "lot", "entries", "depot", "customer"]
theorem Network_reach_sc : FnScope ["self", "lot", "entries", "depot", "customer"] ["self", "lot"] (defScope Network_reach_st) := ⟨rfl, rfl, rfl, by decide +kernel, rfl, by decide +kernel, by decide +kernel⟩
def spReach (K : PySem.W.Frag) (C CN CR : Addr) : Sp := fun vs H Q E => ∃ (p l : Addr) (m n : Nat) (zs : List Z) (ws : List P4) (ns : List Int), vs = [.ref p, .ref l] ∧ NetAt C H p m n zs ws ∧ (SqL K H l (ns.map V.int) ∨ SqT K H l (ns.map V.int)) ∧ ns.length ≤ 10 ∧
  (due m ns = none → New H Q ((rch n (zs.map (·.2)) ns).map nV)) ∧
  (∀ b x, due m ns = some (b, x) → ∀ (H' : Hp) (d : Addr), Same H H' → H d = none → H' d = some (.xd [(fldOf b, .int x)]) → E (.ref (if b then CR else CN)) (some d) H')
theorem ok_reach {C CN CR f1 : Addr} {fd1 : FuncData} {uP uR : Value} (F : FnM K "reach" "Network.reach" Network_reach_st f fd) (T : NetC K C uP uR) (m_sorted : mg "sorted" = none) (D_checked_lot : Dn P w K mg base 4 "checked_lot" ["lot", "depots"] (spChecked K CN CR) f1 fd1) : FnOk P w K mg base (L2N.CX P w) 5 f fd ["self", "lot"] (spReach K C CN CR) := by
  refine F.ok Network_reach_sc (fun vs H Q E h => ?_) (fun cdv A outer s H vs Q E hr h => ?_)
  · obtain ⟨p, l, m, n, zs, ws, ns, rfl, _⟩ := h
    rfl
  · obtain ⟨p, l, m, n, zs, ws, ns, rfl, N, hl, h10, q, qe⟩ := h
    obtain ⟨dx, r, di, g, hp, hr', hg⟩ := N.ob
    refine ⟨_, (pss_cons (ps_set (i := 2) Network_reach_sc.nd rfl (Or.inr rfl) (pe_callS D_checked_lot.ok (hr.mono (by decide)) rfl D_checked_lot.g D_checked_lot.kp D_checked_lot.b (fun σ => L2N.passAt (L2N.takes_of rfl rfl rfl rfl) σ) (pa_cons (pv 1) (pa_cons (pe_fld (pv 0) rfl) pa_nil))))
      (pss_one (ps_ret (pe_callB (cr_sortedSet rfl) (by rfl) m_sorted (by decide +kernel) (pa_cons (CmX.pe_scI (own := [("depot", 3), ("customer", 4)]) rfl Network_reach_sc.nd (pi_list (pe_fld (pv 0) rfl)) (blkOk_by (own := [("depot", 3), ("customer", 4)]) (N := Network_reach_N) (sc := defScope Network_reach_st) (by decide +kernel)) (fun _ _ _ _ _ => (pg_tup rfl (pgs_cons (pg_name (i := 3) Network_reach_sc.nd rfl (Or.inl rfl)) (pgs_cons (pg_name (i := 4) Network_reach_sc.nd rfl (Or.inl rfl)) pgs_nil)) : PG _ _ (gTup K 2 _))) (fun _ _ _ _ _ => (pts_one (pt_cmpR (op_in_seq : OpR _ _ (rIn K false)) (pv 3) (pv 2) rfl))) (fun _ _ _ _ _ => (pv 4))) pa_nil))))), ?_⟩
    refine ⟨.ref l, rfl, .ref p, rfl, p, C, dx, _, nV m, rfl, hp, T.cl, T.nD, nf_D _ _ _ _ _, l, m, ns, rfl, hl, h10, fun hd H1 D es s1 nD hD mem => ?_, qe⟩
    refine ⟨.ref p, rfl, p, C, dx, _, .ref r, rfl, s1 _ _ hp, T.cl, T.nR, nf_R _ _ _ _ _, r, rfl, ⟨_, sq (s1 _ _ hr')⟩, fun S nS => ?_⟩
    refine ⟨fun i m' H' => m' = zs.length - i ∧ i ≤ zs.length ∧ Same H1 H' ∧ ∃ (Sf : Int → Bool) (c : Nat), H' S = some (SetO w S Sf c) ∧ c ≤ i ∧ ∀ k, Sf k = true ↔ ∃ z ∈ (zs.map (·.2)).take i, (z.2 : Int) = k ∧ (z.1 : Int) ∈ es, ⟨_, rfl, Nat.zero_le _, Same.new nS, fun _ => false, 0, upd_same, Nat.le_refl _, fun k => ⟨fun z => (nomatch z), fun ⟨p, z, _⟩ => (nomatch z)⟩⟩, fun i m' H' hW => ?_⟩
    obtain ⟨rfl, hi, sm, Sf, c, hS, hc, hSf⟩ := hW
    have hr2 := sm _ _ (s1 _ _ hr')
    by_cases hlt : i < zs.length
    · have g0 : (zs.map zV)[i]? = some (zV zs[i]) := by
        rw [List.getElem?_map, List.getElem?_eq_getElem hlt]
        rfl
      refine .inr ⟨⟨_, _, sq hr2, g0⟩, fun H'' => Same H1 H'' ∧ ∃ (Sf : Int → Bool) (c : Nat), H'' S = some (SetO w S Sf c) ∧ c ≤ i + 1 ∧ ∀ k, Sf k = true ↔ ∃ z ∈ (zs.map (·.2)).take (i + 1), (z.2 : Int) = k ∧ (z.1 : Int) ∈ es, fun H'' ⟨h1, h2⟩ => ⟨zs.length - (i + 1), by omega, rfl, hlt, h1, h2⟩, fun x H'' hy => ?_⟩
      obtain ⟨rfl, fx⟩ := hy
      have ex : x = zV zs[i] := Option.some.inj ((fx _ (sq hr2)).symm.trans g0)
      subst ex
      have hz := sm _ _ (s1 _ _ (N.pr _ (List.getElem_mem hlt)))
      have et : (zs.map (·.2)).take (i + 1) = (zs.map (·.2)).take i ++ [zs[i].2] := by
        rw [List.take_add_one, List.getElem?_map, List.getElem?_eq_getElem hlt]
        rfl
      refine ⟨zs[i].1, [nV zs[i].2.1, nV zs[i].2.2], rfl, sqt hz, rfl, nV zs[i].2.1, [nV zs[i].2.2], rfl, nV zs[i].2.2, [], rfl, rfl, rfl, ?_⟩
      refine ⟨nV zs[i].2.1, rfl, .ref D, rfl, D, _, rfl, .inl (sq (sm _ _ hD)), rfl, flat_ints _, _, rfl, ite2 (fun e => ?_) (fun e => ?_)⟩
      · have e : (zs[i].2.1 : Int) ∈ es := by
          have e : inV (.int (zs[i].2.1 : Int)) (es.map V.int) = true := e
          rw [inV_ints] at e
          exact of_decide_eq_true e
        refine ⟨nV zs[i].2.2, rfl, (zs[i].2.2 : Int), Sf, c, rfl, hS, by have := N.few; unfold scanBound; omega, sm.mut nS, _, _, upd_same, ?_, fun k => ?_⟩
        · split <;> omega
        · rw [et, Bool.or_eq_true, hSf, decide_eq_true_iff]
          constructor
          · rintro (⟨z, hz, h1, h2⟩ | rfl)
            · exact ⟨z, List.mem_append_left _ hz, h1, h2⟩
            · exact ⟨zs[i].2, List.mem_append_right _ List.mem_cons_self, rfl, e⟩
          · rintro ⟨z, hz, h1, h2⟩
            rcases List.mem_append.mp hz with hz | hz
            · exact .inl ⟨z, hz, h1, h2⟩
            · rw [List.mem_singleton.mp hz] at h1
              exact .inr h1.symm
      · have e : ¬ (zs[i].2.1 : Int) ∈ es := fun z => by
          have e : ¬ inV (.int (zs[i].2.1 : Int)) (es.map V.int) = true := e
          rw [inV_ints, decide_eq_true z] at e
          exact e rfl
        refine ⟨sm, Sf, c, hS, Nat.le_succ_of_le hc, fun k => ?_⟩
        rw [et, hSf]
        constructor
        · rintro ⟨z, hz, h1⟩
          exact ⟨z, List.mem_append_left _ hz, h1⟩
        · rintro ⟨z, hz, h1, h2⟩
          rcases List.mem_append.mp hz with hz | hz
          · exact ⟨z, hz, h1, h2⟩
          · rw [List.mem_singleton.mp hz] at h2
            exact absurd h2 e
    · have ei : i = zs.length := by omega
      subst ei
      refine .inl ⟨⟨_, sq hr2, by rw [List.length_map]; exact Nat.le_refl _⟩, ?_⟩
      refine ⟨S, Sf, c, rfl, hS, by have := N.few; omega, fun xs u hxs hmem _ nu => ?_⟩
      have s3 := Same.new (o := .lst (xs.map V.int)) nu
      rw [List.take_of_length_le (by rw [List.length_map]; exact Nat.le_refl _)] at hSf
      have exs := rch_of (n := n) (zs := zs.map (·.2)) (ns := ns) (xs := xs) (fun p hp => by
        obtain ⟨z, hz, rfl⟩ := List.mem_map.mp hp
        exact (N.inr z hz).2) hxs fun k => by
          rw [hmem, hSf]
          constructor
          · rintro ⟨z, hz, h1, h2⟩
            exact ⟨z, hz, h1, (mem _).mp h2⟩
          · rintro ⟨z, hz, h1, h2⟩
            exact ⟨z, hz, h1, (mem _).mpr h2⟩
      refine q hd _ u ((s1.trans sm).trans s3) ((s1.trans sm).back nu) ?_
      rw [upd_same, exs, List.map_map]
      rfl
end
end K05
set_option Elab.async false
set_option linter.all false
set_option maxRecDepth 100000
set_option maxHeartbeats 4000000
namespace K05
open PySem PySem.Spec PyProof.Rows L2
/-- a network in front of its facts -/
def NetHd (C : Addr) (H : Hp) (p : Addr) (m n : Nat) (zs : List Z) (ws : List P4) : Prop := NetAt C H p m n zs ws
/-- the second places of the routes of depot e, the first ones of customer b -/
def custs (zs : List Z) (e : Int) : List Nat := (zs.filter fun z => decide ((z.2.1 : Int) = e)).map fun z => z.2.2
def deps (zs : List Z) (b : Int) : List Nat := (zs.filter fun z => decide ((z.2.2 : Int) = b)).map fun z => z.2.1
theorem one_z {g : Z → Bool} {z : Z} (h : g z = true) : [z].filter g = [z] := List.filter_cons_of_pos h
theorem none_z {g : Z → Bool} {z : Z} (h : ¬ g z = true) : [z].filter g = [] := List.filter_cons_of_neg h
theorem take_z {zs : List Z} {i : Nat} {z : Z} (h : zs[i]? = some z) : zs.take (i + 1) = zs.take i ++ [z] := by
  rw [List.take_add_one, h]
  rfl
section
variable {P : Program} {w : World} {K : PySem.W.Frag} {mg : Str → Option Value} {base : Heap} {f : Addr} {fd : FuncData}
/-! ### Network.customers_of -/
def spCusts (C CN : Addr) : Sp := fun vs H Q E => ∃ (p : Addr) (x : Int) (m n : Nat) (zs : List Z) (ws : List P4), vs = [.ref p, .int x] ∧ NetAt C H p m n zs ws ∧ (0 ≤ x ∧ x < (m : Int) → New H Q ((custs zs x).map nV)) ∧ (¬ (0 ≤ x ∧ x < (m : Int)) → ∀ d, H d = none → E (.ref CN) (some d) (upd H d (.xd [("depot", .int x)])))
/-! ### Network.loops, joined, and what it tells of itself -/
abbrev Network_depots_N : List Str := ["self"]
theorem Network_depots_sc : FnScope ["self"] ["self"] (defScope Network_depots_st) := ⟨rfl, rfl, rfl, by decide +kernel, rfl, by decide +kernel, by decide +kernel⟩
abbrev Network_customers_N : List Str := ["self"]
theorem Network_customers_sc : FnScope ["self"] ["self"] (defScope Network_customers_st) := ⟨rfl, rfl, rfl, by decide +kernel, rfl, by decide +kernel, by decide +kernel⟩
abbrev Network_routes_N : List Str := ["self"]
theorem Network_routes_sc : FnScope ["self"] ["self"] (defScope Network_routes_st) := ⟨rfl, rfl, rfl, by decide +kernel, rfl, by decide +kernel, by decide +kernel⟩
abbrev Network_loops_N : List Str := ["self"]
theorem Network_loops_sc : FnScope ["self"] ["self"] (defScope Network_loops_st) := ⟨rfl, rfl, rfl, by decide +kernel, rfl, by decide +kernel, by decide +kernel⟩
abbrev Network_joined_N : List Str := ["self"]
theorem Network_joined_sc : FnScope ["self"] ["self"] (defScope Network_joined_st) := ⟨rfl, rfl, rfl, by decide +kernel, rfl, by decide +kernel, by decide +kernel⟩
def spNum (C : Addr) (g : Nat → Nat → List Z → List P4 → V) : Sp := fun vs H Q _ => ∃ (p : Addr) (m n : Nat) (zs : List Z) (ws : List P4), vs = [.ref p] ∧ NetAt C H p m n zs ws ∧ Q (g m n zs ws) H
theorem ok_depots {C : Addr} {uP uR : Value} (F : FnM K "depots" "Network.depots" Network_depots_st f fd) (T : NetC K C uP uR) : FnOk P w K mg base (L2N.CX P w) 1 f fd ["self"] (spNum C fun m _ _ _ => nV m) := by
  refine F.ok Network_depots_sc (fun vs H Q E h => ?_) (fun cdv A outer s H vs Q E hr h => ?_)
  · obtain ⟨p, m, n, zs, ws, rfl, _⟩ := h
    rfl
  · obtain ⟨p, m, n, zs, ws, rfl, N, q⟩ := h
    obtain ⟨dx, r, di, g, hp, hr', hg⟩ := N.ob
    refine ⟨_, (pss_one (ps_ret (pe_fld (pv 0) rfl))), ?_⟩
    exact ⟨.ref p, rfl, p, C, dx, _, nV m, rfl, hp, T.cl, T.nD, nf_D _ _ _ _ _, q⟩
theorem nf_C (m n : Nat) (r di q : Addr) : (nf m n r di q).lookup ("_customers" : Str) = some (nV n) := by
  unfold nf
  rw [lookup_putF, if_neg (by decide), lookup_putF, if_neg (by decide), lookup_putF, if_neg (by decide), lookup_putF, if_pos rfl]
theorem ok_customers {C : Addr} {uP uR : Value} (F : FnM K "customers" "Network.customers" Network_customers_st f fd) (T : NetC K C uP uR) : FnOk P w K mg base (L2N.CX P w) 1 f fd ["self"] (spNum C fun _ n _ _ => nV n) := by
  refine F.ok Network_customers_sc (fun vs H Q E h => ?_) (fun cdv A outer s H vs Q E hr h => ?_)
  · obtain ⟨p, m, n, zs, ws, rfl, _⟩ := h
    rfl
  · obtain ⟨p, m, n, zs, ws, rfl, N, q⟩ := h
    obtain ⟨dx, r, di, g, hp, hr', hg⟩ := N.ob
    refine ⟨_, (pss_one (ps_ret (pe_fld (pv 0) rfl))), ?_⟩
    exact ⟨.ref p, rfl, p, C, dx, _, nV n, rfl, hp, T.cl, T.nC, nf_C _ _ _ _ _, q⟩
theorem ok_loops {C : Addr} {uP uR : Value} (F : FnM K "loops" "Network.loops" Network_loops_st f fd) (T : NetC K C uP uR) (m_len : mg "len" = none) : FnOk P w K mg base (L2N.CX P w) 1 f fd ["self"] (spNum C fun m n zs ws => .int ((((zs.length : Nat) : Int) - (m : Int) - (n : Int)) + (ws.length : Nat))) := by
  refine F.ok Network_loops_sc (fun vs H Q E h => ?_) (fun cdv A outer s H vs Q E hr h => ?_)
  · obtain ⟨p, m, n, zs, ws, rfl, _⟩ := h
    rfl
  · obtain ⟨p, m, n, zs, ws, rfl, N, q⟩ := h
    obtain ⟨dx, r, di, g, hp, hr', hg⟩ := N.ob
    refine ⟨_, (pss_one (ps_ret (pe_op op_add (pe_op op_sub (pe_op op_sub (pe_callB call_len_seq (by rfl) m_len (by decide +kernel) (pa_cons (pe_fld (pv 0) rfl) pa_nil)) (pe_fld (pv 0) rfl)) (pe_fld (pv 0) rfl)) (pe_callB call_len_seq (by rfl) m_len (by decide +kernel) (pa_cons (pe_fld (pv 0) rfl) pa_nil))))), ?_⟩
    refine ⟨.ref p, rfl, p, C, dx, _, .ref r, rfl, hp, T.cl, T.nR, nf_R _ _ _ _ _, r, _, rfl, .inl (sq hr'), .ref p, rfl, p, C, dx, _, nV m, rfl, hp, T.cl, T.nD, nf_D _ _ _ _ _, _, _, rfl, rfl, .ref p, rfl, p, C, dx, _, nV n, rfl, hp, T.cl, T.nC, nf_C _ _ _ _ _, _, _, rfl, rfl, .ref p, rfl, p, C, dx, _, .ref g, rfl, hp, T.cl, T.nP, nf_P _ _ _ _ _, g, _, rfl, .inl (sq hg), _, _, rfl, rfl, ?_⟩
    dsimp only
    rw [List.length_map, List.length_map]
    exact q
end
end K05
set_option Elab.async false
set_option linter.all false
set_option maxRecDepth 100000
set_option maxHeartbeats 4000000
namespace K05
open PySem PySem.Spec PyProof.Rows L2
/-- the class Network: how it is made -/
structure NwT (P : Program) (w : World) (K : PySem.W.Frag) (mg : Str → Option Value) (base : Heap) (C f : Addr) (fd : FuncData) : Prop where
  mkk : Mk K C f
  ok : FnOk P w K mg base (L2N.CX P w) 5 f fd ["self", "depots", "customers", "routes"] (spNet C)
  g : mg "Network" = some (.ref C)
  b : Binds K fd ["self", "depots", "customers", "routes"] []
def swp (p : Nat × Nat) : Nat × Nat := (p.2, p.1)
theorem swp_nodup {ps : List (Nat × Nat)} (h : ps.Nodup) : (ps.map swp).Nodup := by
  rw [List.nodup_iff_pairwise_ne] at h ⊢
  rw [List.pairwise_map]
  refine h.imp fun {a b} n e => n ?_
  have e1 : a.2 = b.2 := congrArg Prod.fst e
  have e2 : a.1 = b.1 := congrArg Prod.snd e
  exact Prod.ext e2 e1
section
variable {P : Program} {w : World} {K : PySem.W.Frag} {mg : Str → Option Value} {base : Heap} {f : Addr} {fd : FuncData}
/-! ### Network.turned -/
abbrev Network_turned_N : List Str := ["self", "routes", "depot", "customer"]
theorem Network_turned_sc : FnScope ["self", "routes", "depot", "customer"] ["self"] (defScope Network_turned_st) := ⟨rfl, rfl, rfl, by decide +kernel, rfl, by decide +kernel, by decide +kernel⟩
def spTurned (C : Addr) : Sp := fun vs H Q _ => ∃ (p : Addr) (m n : Nat) (zs : List Z) (ws : List P4), vs = [.ref p] ∧ NetAt C H p m n zs ws ∧ (zs.map (·.2)).Nodup ∧ 1 ≤ m ∧ 1 ≤ n ∧
  ∀ (H' : Hp) (x : Addr) (zt : List Z) (wt : List P4), Same H H' → H x = none → NetAt C H' x n m zt wt → NetIx C H' x zt → Asc (zt.map (·.2)) ((zs.map (·.2)).map swp) → FrZ H wt → Q (.ref x) H'
theorem ok_turned {C f2 : Addr} {fd2 : FuncData} {uP uR : Value} (F : FnM K "turned" "Network.turned" Network_turned_st f fd) (T : NetC K C uP uR) (D_Network : NwT P w K mg base C f2 fd2) : FnOk P w K mg base (L2N.CX P w) 7 f fd ["self"] (spTurned C) := by
  refine F.ok Network_turned_sc (fun vs H Q E h => ?_) (fun cdv A outer s H vs Q E hr h => ?_)
  · obtain ⟨p, m, n, zs, ws, rfl, _⟩ := h
    rfl
  · obtain ⟨p, m, n, zs, ws, rfl, N, nd, m1, n1, q⟩ := h
    obtain ⟨dx, r, di, g, hp, hr', hg⟩ := N.ob
    refine ⟨_, (pss_cons (ps_setLc (i := 1) (own := [("depot", 2), ("customer", 3)]) rfl Network_turned_sc.nd rfl rfl (sw_true rfl rfl rfl (by decide +kernel)) (pi_list (pe_fld (pv 0) rfl)) (blkOk_by (own := [("depot", 2), ("customer", 3)]) (N := Network_turned_N) (sc := defScope Network_turned_st) (by decide +kernel)) (fun _ _ _ _ _ => (pg_tup rfl (pgs_cons (pg_name (i := 2) Network_turned_sc.nd rfl (Or.inl rfl)) (pgs_cons (pg_name (i := 3) Network_turned_sc.nd rfl (Or.inl rfl)) pgs_nil)) : PG _ _ (gTup K 2 _))) (fun _ _ _ _ _ => pts_nil) (fun _ _ _ _ _ => (pe_tup (pa_cons (pv 3) (pa_cons (pv 2) pa_nil)))))
      (pss_one (ps_ret (pe_make D_Network.mkk D_Network.ok (hr.mono (by decide)) rfl D_Network.g D_Network.b .nil ErrX.passN (pa_cons (pe_fld (pv 0) rfl) (pa_cons (pe_fld (pv 0) rfl) (pa_cons (pv 1) pa_nil))))))), ?_⟩
    refine ⟨.ref p, rfl, p, C, dx, _, .ref r, rfl, hp, T.cl, T.nR, nf_R _ _ _ _ _, r, rfl, ⟨_, sq hr'⟩, fun D nD => ?_⟩
    refine lc_list (K := K) (a := r) (xs := zs.map zV) (fun i H' => ∃ us : List Z, Same H H' ∧ H' D = some (.lst (us.map zV)) ∧ PrZ H' us ∧ us.map (·.2) = ((zs.map (·.2)).take i).map swp) ⟨[], Same.new nD, upd_same, (fun _ h => nomatch h), rfl⟩ (fun i H' _ h => ?_) (fun i y H' hy h => ?_) (fun H1 h => ?_)
    · obtain ⟨us, sm, _⟩ := h
      exact sq (sm _ _ hr')
    · obtain ⟨us, sm, hD, pu, eu⟩ := h
      obtain ⟨z, ez, mz, rfl⟩ := item_zV hy
      have hz := sm _ _ (N.pr z mz)
      have hi : i < 16 := Nat.lt_of_lt_of_le (List.getElem?_eq_some_iff.mp ez).1 N.few
      have ul : us.length ≤ i := by
        have := congrArg List.length eu
        rw [List.length_map, List.length_map, List.length_take] at this
        omega
      refine ⟨z.1, [nV z.2.1, nV z.2.2], rfl, sqt hz, rfl, nV z.2.1, [nV z.2.2], rfl, nV z.2.2, [], rfl, rfl, rfl, ?_⟩
      refine ⟨nV z.2.2, rfl, nV z.2.1, rfl, len2, fun t nt => ?_⟩
      have st := Same.new (o := .tup [nV z.2.2, nV z.2.1]) nt
      have hD2 := st _ _ hD
      have ntD : t ≠ D := (ne_of_none hD nt).symm
      refine ⟨_, hD2, small1000 (by rw [List.length_map]; omega), us ++ [(t, z.2.2, z.2.1)], (sm.trans st).mut nD, ?_, ?_, ?_⟩
      · rw [upd_same, List.map_append]
        rfl
      · intro u hu
        rcases List.mem_append.mp hu with hu | hu
        · have := st _ _ (pu u hu)
          rw [upd_ne (fun e => by rw [e, hD2] at this; cases this)]
          exact this
        · rw [List.mem_singleton.mp hu]
          show upd _ D _ t = _
          rw [upd_ne ntD]
          exact upd_same
      · rw [List.map_append, eu, List.take_add_one, zs_at ez, List.map_append]
        rfl
    · obtain ⟨us, s1, hD, pu, eu⟩ := h
      rw [List.take_of_length_le (by rw [List.length_map, List.length_map]; exact Nat.le_refl _)] at eu
      have hp1 := s1 _ _ hp
      have fit : Fit n m (us.map (·.2)) := by
        rw [eu]
        refine ⟨swp_nodup nd, fun c hc => ?_⟩
        obtain ⟨d, hd, rfl⟩ := List.mem_map.mp hc
        obtain ⟨z, hz, rfl⟩ := List.mem_map.mp hd
        exact ⟨(N.inr z hz).2, (N.inr z hz).1⟩
      have ul : us.length ≤ 16 := by
        have := congrArg List.length eu
        rw [List.length_map, List.length_map, List.length_map] at this
        have := N.few
        omega
      refine ⟨.ref p, rfl, p, C, dx, _, nV n, rfl, hp1, T.cl, T.nC, nf_C _ _ _ _ _, .ref p, rfl, p, C, dx, _, nV m, rfl, hp1, T.cl, T.nD, nf_D _ _ _ _ _, .ref D, rfl, ?_⟩
      intro x dy nx ndy nex
      have sM : Same H1 (upd (upd H1 dy (.own x)) x (.ins C dy [])) := ((Same.refl H1).mut ndy).mut nx
      refine ⟨x, D, dy, n, m, us, rfl, upd_same, sM _ _ hD, pu.keep sM, fit, ul, n1, N.n8, m1, N.m8, fun H3 zt wt bN Nt asc fr _ ix => ⟨rfl, ?_⟩⟩
      have s3 : Same H1 H3 := fun b o e => bN b o (ne_of_none e nx) (sM b o e)
      rw [eu] at asc
      have sH := s1.trans sM
      exact q H3 x zt wt (s1.trans s3) (s1.back nx) Nt ix asc fun z hz => ⟨sH.back (fr z hz).1, sH.back (fr z hz).2.1, sH.back (fr z hz).2.2⟩
end
end K05
set_option Elab.async false
set_option linter.all false
set_option maxRecDepth 100000
set_option maxHeartbeats 4000000
namespace K05
open PySem PySem.Spec PyProof.Rows L2
section
variable {P : Program} {w : World} {K : PySem.W.Frag} {mg : Str → Option Value} {base : Heap} {f : Addr} {fd : FuncData}
def spCustB (C : Addr) : Sp := fun vs H Q E => ∃ (x : Int) (m : Nat), vs = [.int x, nV m] ∧ (0 ≤ x ∧ x < (m : Int) → Q .non H) ∧ (¬ (0 ≤ x ∧ x < (m : Int)) → ∀ d, H d = none → E (.ref C) (some d) (upd H d (.xd [("customer", .int x)])))
theorem ok_custB {C fI : Addr} {fdI : FuncData} {psI : List Str} (F : FnS K "check_customer" check_customer_st f fd) (D_NoCustomer : Er P w K mg base "NoCustomer" "customer" C fI fdI psI) : FnOk P w K mg base (L2N.CX P w) 3 f fd ["customer", "customers"] (spCustB C) := by
  refine F.ok check_customer_sc (fun vs H Q E h => ?_) (fun cdv A outer s H vs Q E hr h => ?_)
  · obtain ⟨x, m, rfl, _⟩ := h
    rfl
  · obtain ⟨x, m, rfl, h1, h2⟩ := h
    refine ⟨_, (pss_one (ps_if (pt_not (pt_chain op_le op_lt pe_int (pv 0) (pv 1))) (pss_one (L2N.ps_raise rfl (L2N.takes_of rfl rfl rfl rfl) (ErrX.pmk_err1 D_NoCustomer.T D_NoCustomer.iC D_NoCustomer.tI D_NoCustomer.F hr D_NoCustomer.b ErrX.passN rfl D_NoCustomer.g (pa_cons (pv 0) pa_nil)))) pss_nil)), ?_⟩
    refine ⟨.int x, rfl, 0, x, rfl, rfl, _, rfl, ite2 (fun e0 => ?_) (fun e0 => ?_)⟩
    · have e0 := of_decide_eq_true e0
      refine ⟨nV m, rfl, x, m, rfl, rfl, _, rfl, ite2 (fun e => ?_) (fun e => ?_)⟩
      · have hb : ¬ x < (m : Int) := fun z => by
          rw [decide_eq_true z] at e
          cases e
        exact ⟨_, rfl, _, rfl, h2 fun z => hb z.2⟩
      · by_cases z : x < (m : Int)
        · exact h1 ⟨e0, z⟩
        · rw [decide_eq_false z] at e
          exact absurd rfl e
    · have hb : ¬ 0 ≤ x := fun z => e0 (decide_eq_true z)
      refine ⟨false, rfl, iteT ⟨_, rfl, _, rfl, h2 fun z => hb z.1⟩⟩
/-! ### Network.depots_of -/
def spDeps (C CN : Addr) : Sp := fun vs H Q E => ∃ (p : Addr) (x : Int) (m n : Nat) (zs : List Z) (ws : List P4), vs = [.ref p, .int x] ∧ NetAt C H p m n zs ws ∧ (0 ≤ x ∧ x < (n : Int) → New H Q ((deps zs x).map nV)) ∧ (¬ (0 ≤ x ∧ x < (n : Int)) → ∀ d, H d = none → E (.ref CN) (some d) (upd H d (.xd [("customer", .int x)])))
/-! ### Network.joined, routes -/
theorem ok_joined {C : Addr} {uP uR : Value} (F : FnM K "joined" "Network.joined" Network_joined_st f fd) (T : NetC K C uP uR) (m_len : mg "len" = none) : FnOk P w K mg base (L2N.CX P w) 1 f fd ["self"] (spNum C fun _ _ _ ws => .bl (decide (ws.length = 1))) := by
  refine F.ok Network_joined_sc (fun vs H Q E h => ?_) (fun cdv A outer s H vs Q E hr h => ?_)
  · obtain ⟨p, m, n, zs, ws, rfl, _⟩ := h
    rfl
  · obtain ⟨p, m, n, zs, ws, rfl, N, q⟩ := h
    obtain ⟨dx, r, di, g, hp, hr', hg⟩ := N.ob
    refine ⟨_, (pss_one (ps_ret (pe_cmpR op_eq (pe_callB call_len_seq (by rfl) m_len (by decide +kernel) (pa_cons (pe_fld (pv 0) rfl) pa_nil)) pe_int (nomark _)))), ?_⟩
    refine ⟨.ref p, rfl, p, C, dx, _, .ref g, rfl, hp, T.cl, T.nP, nf_P _ _ _ _ _, g, _, rfl, .inl (sq hg), rfl, ?_⟩
    have e : decide (V.int (((ws.map pV).length : Nat) : Int) = V.int 1) = decide (ws.length = 1) := by
      rw [List.length_map]
      by_cases c : ws.length = 1
      · rw [decide_eq_true c]
        exact decide_eq_true (by rw [c]; rfl)
      · rw [decide_eq_false c]
        exact decide_eq_false fun z => c (Int.ofNat.inj (V.int.inj z))
    show Q (.bl (decide (V.int (((ws.map pV).length : Nat) : Int) = V.int 1))) H
    rw [e]
    exact q
def spRoutes (C : Addr) : Sp := fun vs H Q _ => ∃ (p : Addr) (m n : Nat) (zs : List Z) (ws : List P4), vs = [.ref p] ∧ NetAt C H p m n zs ws ∧ New H Q (zs.map zV)
theorem ok_routes {C : Addr} {uP uR : Value} (F : FnM K "routes" "Network.routes" Network_routes_st f fd) (T : NetC K C uP uR) (m_list : mg "list" = none) : FnOk P w K mg base (L2N.CX P w) 1 f fd ["self"] (spRoutes C) := by
  refine F.ok Network_routes_sc (fun vs H Q E h => ?_) (fun cdv A outer s H vs Q E hr h => ?_)
  · obtain ⟨p, m, n, zs, ws, rfl, _⟩ := h
    rfl
  · obtain ⟨p, m, n, zs, ws, rfl, N, q⟩ := h
    obtain ⟨dx, r, di, g, hp, hr', hg⟩ := N.ob
    refine ⟨_, (pss_one (ps_ret (pe_callTy call_list_of (by rfl) m_list (by decide +kernel) (pa_cons (pe_fld (pv 0) rfl) pa_nil)))), ?_⟩
    exact ⟨.ref p, rfl, p, C, dx, _, .ref r, rfl, hp, T.cl, T.nR, nf_R _ _ _ _ _, r, _, rfl, .inl (sq hr'), fun D nD => q _ D (Same.new nD) nD upd_same⟩
end
end K05
set_option Elab.async false
set_option linter.all false
set_option maxRecDepth 100000
set_option maxHeartbeats 4000000
namespace K05
open PySem PySem.Spec PyProof.Rows L2
/-- a property, a method, a method of a reserved name: where it stands, what it promises -/
structure PrD (P : Program) (w : World) (K : PySem.W.Frag) (mg : Str → Option Value) (base : Heap) (k : Nat) (C : Addr) (f : Str) (sp : Sp) (p g : Addr) (fd : FuncData) : Prop where
  po : PropOf K C f p g
  ok : FnOk P w K mg base (L2N.CX P w) k g fd ["self"] sp
  b : Binds K fd ["self"] []
structure MtD (P : Program) (w : World) (K : PySem.W.Frag) (mg : Str → Option Value) (base : Heap) (k : Nat) (C : Addr) (x : Str) (ps : List Str) (sp : Sp) (f : Addr) (fd : FuncData) : Prop where
  m : Meth K C x f
  ok : FnOk P w K mg base (L2N.CX P w) k f fd ps sp
  b : Binds K fd ps []
structure OwD (P : Program) (w : World) (K : PySem.W.Frag) (mg : Str → Option Value) (base : Heap) (k : Nat) (C : Addr) (x : Str) (ps : List Str) (sp : Sp) (f : Addr) (fd : FuncData) : Prop where
  s : PySem.W.findIn K (.ref C) x = some (some (.ref f))
  fn : PySem.W.isFn K (.ref f) = true
  ok : FnOk P w K mg base (L2N.CX P w) k f fd ps sp
  b : Binds K fd ps []
structure ErT (P : Program) (w : World) (K : PySem.W.Frag) (mg : Str → Option Value) (base : Heap) (x fld : Str) (C fI : Addr) (fd : FuncData) (ps : List Str) : Prop where
  T : OexC K C
  iC : PySem.W.findIn K (.ref C) "__init__" = some (some (.ref fI))
  tI : PySem.W.typeIn K (.ref fI) = some (.type "function")
  F : FnOk P w K mg base (L2N.CX P w) 1 fI fd ps (ErrX.spT C fld)
  b : Binds K fd ps []
  g : mg x = some (.ref C)
/-- the number of a route among the routes -/
def hitP (a b : Int) (p : Nat × Nat) : Bool := decide ((p.1 : Int) = a) && decide ((p.2 : Int) = b)
def fx (ps : List (Nat × Nat)) (a b : Int) : Option Nat := ps.findIdx? (hitP a b)
theorem hitP_iff {a b : Int} {p : Nat × Nat} : hitP a b p = true ↔ (p.1 : Int) = a ∧ (p.2 : Int) = b := by
  unfold hitP
  rw [Bool.and_eq_true, decide_eq_true_iff, decide_eq_true_iff]
theorem hitP_one {a b : Int} {p q : Nat × Nat} (h : hitP a b p = true) (h' : hitP a b q = true) : p = q := by
  have h1 := hitP_iff.mp h
  have h2 := hitP_iff.mp h'
  exact Prod.ext (by omega) (by omega)
theorem kz_iff {a b : Int} {z : Z} : ([Sum.inl a, Sum.inl b] : List Key) = kz z ↔ hitP a b z.2 = true := by
  rw [hitP_iff]
  unfold kz
  constructor
  · intro e
    have e1 := List.cons.inj e
    have e2 := List.cons.inj e1.2
    exact ⟨(Sum.inl.inj e1.1).symm, (Sum.inl.inj e2.1).symm⟩
  · rintro ⟨h1, h2⟩
    rw [h1, h2]
theorem ixv_none {zs : List Z} {a b : Int} (h : ∀ z ∈ zs, hitP a b z.2 = false) : ∀ i, ixv zs i [Sum.inl a, Sum.inl b] = none
  | 0 => rfl
  | i + 1 => by
    show (match zs[i]? with
      | some z => if ([Sum.inl a, Sum.inl b] : List Key) = kz z then some (V.int (i : Nat)) else ixv zs i [Sum.inl a, Sum.inl b]
      | none => ixv zs i [Sum.inl a, Sum.inl b]) = none
    cases e : zs[i]? with
    | none => exact ixv_none h i
    | some z =>
      have hz := h z (List.mem_of_getElem? e)
      have : ¬ ([Sum.inl a, Sum.inl b] : List Key) = kz z := fun q => by
        rw [kz_iff.mp q] at hz
        cases hz
      dsimp only
      rw [if_neg this]
      exact ixv_none h i
theorem ixv_at {zs : List Z} {a b : Int} {j : Nat} {z : Z} (nd : (zs.map (·.2)).Nodup) (hj : zs[j]? = some z) (hh : hitP a b z.2 = true) : ∀ i, j < i → i ≤ zs.length → ixv zs i [Sum.inl a, Sum.inl b] = some (V.int (j : Nat))
  | 0, h, _ => absurd h (Nat.not_lt_zero _)
  | i + 1, h, hl => by
    show (match zs[i]? with
      | some z => if ([Sum.inl a, Sum.inl b] : List Key) = kz z then some (V.int (i : Nat)) else ixv zs i [Sum.inl a, Sum.inl b]
      | none => ixv zs i [Sum.inl a, Sum.inl b]) = _
    rw [List.getElem?_eq_getElem (show i < zs.length by omega)]
    by_cases e : i = j
    · subst e
      have : zs[i]'(by omega) = z := by
        rw [List.getElem?_eq_getElem (show i < zs.length by omega)] at hj
        exact Option.some.inj hj
      rw [this]
      dsimp only
      rw [if_pos (kz_iff.mpr hh)]
    · have : ¬ ([Sum.inl a, Sum.inl b] : List Key) = kz (zs[i]'(by omega)) := fun q => by
        have hq := hitP_one (kz_iff.mp q) hh
        have e1 : (zs.map (·.2))[i]? = some z.2 := by
          rw [List.getElem?_map, List.getElem?_eq_getElem (show i < zs.length by omega)]
          exact congrArg some hq
        have e2 : (zs.map (·.2))[j]? = some z.2 := zs_at hj
        have hl1 : i < (zs.map (·.2)).length := by rw [List.length_map]; omega
        exact e ((List.getElem?_inj hl1 nd).mp (e1.trans e2.symm))
      dsimp only
      rw [if_neg this]
      exact ixv_at nd hj hh i (by omega) (by omega)
theorem ixv_fx {zs : List Z} (nd : (zs.map (·.2)).Nodup) (a b : Int) : ixv zs zs.length [Sum.inl a, Sum.inl b] = (fx (zs.map (·.2)) a b).map fun i => V.int (i : Nat) := by
  cases e : fx (zs.map (·.2)) a b with
  | none =>
    have h := List.findIdx?_eq_none_iff.mp e
    exact ixv_none (fun z hz => h z.2 (List.mem_map_of_mem hz)) _
  | some j =>
    obtain ⟨hl, hp, _⟩ := List.findIdx?_eq_some_iff_getElem.mp e
    have hl' : j < zs.length := by rw [List.length_map] at hl; exact hl
    rw [List.getElem_map] at hp
    exact ixv_at nd (List.getElem?_eq_getElem hl') hp _ hl' (Nat.le_refl _)
section
variable {P : Program} {w : World} {K : PySem.W.Frag} {mg : Str → Option Value} {base : Heap} {f : Addr} {fd : FuncData}
/-! ### Network.__contains__, __len__ -/
abbrev Network_contains_N : List Str := ["self", "route"]
theorem Network_contains_sc : FnScope ["self", "route"] ["self", "route"] (defScope Network_contains_st) := ⟨rfl, rfl, rfl, by decide +kernel, rfl, by decide +kernel, by decide +kernel⟩
def pzV (a b : Int) : HO := .tup [.int a, .int b]
def spHas (C : Addr) : Sp := fun vs H Q _ => ∃ (p t : Addr) (a b : Int) (zs : List Z), vs = [.ref p, .ref t] ∧ NetIx C H p zs ∧ (zs.map (·.2)).Nodup ∧ H t = some (pzV a b) ∧ Q (.bl (fx (zs.map (·.2)) a b).isSome) H
theorem nf_I (m n : Nat) (r di q : Addr) : (nf m n r di q).lookup ("_indices" : Str) = some (V.ref di) := by
  unfold nf
  rw [lookup_putF, if_neg (by decide), lookup_putF, if_pos rfl]
theorem ok_has {C : Addr} {uP uR : Value} (F : FnM K "__contains__" "Network.__contains__" Network_contains_st f fd) (T : NetC K C uP uR) (m_tuple : mg "tuple" = none) : FnOk P w K mg base (L2N.CX P w) 1 f fd ["self", "route"] (spHas C) := by
  refine F.ok Network_contains_sc (fun vs H Q E h => ?_) (fun cdv A outer s H vs Q E hr h => ?_)
  · obtain ⟨p, t, a, b, zs, rfl, _⟩ := h
    rfl
  · obtain ⟨p, t, a, b, zs, rfl, ⟨dx, m, n, r, di, g, kvs, hp, hdi, hk⟩, nd, ht, q⟩ := h
    have hu1 := Nat.lt_of_le_of_lt (Nat.add_le_add_left (by decide : 1 ≤ 65) _) (u65 hr)
    refine ⟨_, (pss_one (ps_ret (pe_cmp (pc_din hu1 (pe_callTy call_tuple_of (by rfl) m_tuple (by decide +kernel) (pa_cons (pv 1) pa_nil)) (pe_fld (pv 0) rfl))))), ?_⟩
    refine ⟨.ref t, rfl, t, _, rfl, .inr ⟨sqt ht, ?_⟩⟩
    refine ⟨.ref p, rfl, p, C, dx, _, .ref di, rfl, hp, T.cl, T.nI, nf_I _ _ _ _ _, di, _, rfl, DGet.t (k := [Sum.inl a, Sum.inl b]) hdi ht, ?_⟩
    rw [hk, ixv_fx nd, Option.isSome_map]
    exact q
abbrev Network_len_N : List Str := ["self"]
theorem Network_len_sc : FnScope ["self"] ["self"] (defScope Network_len_st) := ⟨rfl, rfl, rfl, by decide +kernel, rfl, by decide +kernel, by decide +kernel⟩
theorem ok_nlen {C : Addr} {uP uR : Value} (F : FnM K "__len__" "Network.__len__" Network_len_st f fd) (T : NetC K C uP uR) (m_len : mg "len" = none) : FnOk P w K mg base (L2N.CX P w) 1 f fd ["self"] (spNum C fun _ _ zs _ => .int ((zs.length : Nat) : Int)) := by
  refine F.ok Network_len_sc (fun vs H Q E h => ?_) (fun cdv A outer s H vs Q E hr h => ?_)
  · obtain ⟨p, m, n, zs, ws, rfl, _⟩ := h
    rfl
  · obtain ⟨p, m, n, zs, ws, rfl, N, q⟩ := h
    obtain ⟨dx, r, di, g, hp, hr', hg⟩ := N.ob
    refine ⟨_, (pss_one (ps_ret (pe_callB call_len_seq (by rfl) m_len (by decide +kernel) (pa_cons (pe_fld (pv 0) rfl) pa_nil)))), ?_⟩
    refine ⟨.ref p, rfl, p, C, dx, _, .ref r, rfl, hp, T.cl, T.nR, nf_R _ _ _ _ _, r, _, rfl, .inl (sq hr'), ?_⟩
    rw [List.length_map]
    exact q
end
end K05
set_option Elab.async false
set_option linter.all false
set_option maxRecDepth 100000
set_option maxHeartbeats 4000000
namespace K05
open PySem PySem.Spec PyProof.Rows L2
section
variable {P : Program} {w : World} {K : PySem.W.Frag} {mg : Str → Option Value} {base : Heap} {f : Addr} {fd : FuncData}
/-! ### checked_route, index_of -/
/-- what asking for a route may raise -/
def RtE (CN CC CR : Addr) (m n : Nat) (ps : List (Nat × Nat)) (a b : Int) (H : Hp) (E : XK) : Prop :=
  (¬ (0 ≤ a ∧ a < (m : Int)) → ∀ d, H d = none → E (.ref CN) (some d) (upd H d (.xd [("depot", .int a)]))) ∧
  ((0 ≤ a ∧ a < (m : Int)) → ¬ (0 ≤ b ∧ b < (n : Int)) → ∀ d, H d = none → E (.ref CC) (some d) (upd H d (.xd [("customer", .int b)]))) ∧
  ((0 ≤ a ∧ a < (m : Int)) → (0 ≤ b ∧ b < (n : Int)) → fx ps a b = none → ∀ (H' : Hp) (d t : Addr), Same H H' → H d = none → H t = none → H' t = some (pzV a b) → H' d = some (.xd [("route", .ref t)]) → E (.ref CR) (some d) H')
def spRoute (C CN CC CR : Addr) : Sp := fun vs H Q E => ∃ (p t : Addr) (a b : Int) (m n : Nat) (zs : List Z) (ws : List P4), vs = [.ref p, .ref t] ∧ NetAt C H p m n zs ws ∧ NetIx C H p zs ∧ (zs.map (·.2)).Nodup ∧ H t = some (pzV a b) ∧ RtE CN CC CR m n (zs.map (·.2)) a b H E ∧
  ∀ i, (0 ≤ a ∧ a < (m : Int)) → (0 ≤ b ∧ b < (n : Int)) → fx (zs.map (·.2)) a b = some i → ∀ (H' : Hp) (t' : Addr), Same H H' → H t' = none → H' t' = some (pzV a b) → Q (.ref t') H'
def spIndex (C CN CC CR : Addr) : Sp := fun vs H Q E => ∃ (p t : Addr) (a b : Int) (m n : Nat) (zs : List Z) (ws : List P4), vs = [.ref p, .ref t] ∧ NetAt C H p m n zs ws ∧ NetIx C H p zs ∧ (zs.map (·.2)).Nodup ∧ H t = some (pzV a b) ∧ RtE CN CC CR m n (zs.map (·.2)) a b H E ∧
  ∀ i, (0 ≤ a ∧ a < (m : Int)) → (0 ≤ b ∧ b < (n : Int)) → fx (zs.map (·.2)) a b = some i → ∀ (H' : Hp), Same H H' → Q (.int (i : Nat)) H'
end
end K05
set_option Elab.async false
set_option linter.all false
set_option maxRecDepth 100000
set_option maxHeartbeats 4000000
namespace K05
open PySem PySem.Spec PyProof.Rows L2 TL
theorem qD_eqs : ∀ ps qs : List (Nat × Nat), PyData.eqvAll (ps.map qD) (qs.map qD) = decide (ps = qs)
  | [], [] => by simp [PyData.eqvAll]
  | [], q :: qs => by simp [PyData.eqvAll]
  | p :: ps, [] => by simp [PyData.eqvAll]
  | p :: ps, q :: qs => by
    have e : PyData.eqvAll ((p :: ps).map qD) ((q :: qs).map qD) = (PyData.eqv (qD p) (qD q) && PyData.eqvAll (ps.map qD) (qs.map qD)) := by simp only [List.map_cons, PyData.eqvAll]
    rw [e, qD_eqs ps qs]
    by_cases h : p = q
    · subst h
      have : PyData.eqv (qD p) (qD p) = true := by simp [qD, PyData.eqv, PyData.eqvAll]
      rw [this, Bool.true_and]
      by_cases h' : ps = qs
      · subst h'
        rw [decide_eq_true rfl, decide_eq_true rfl]
      · rw [decide_eq_false h', decide_eq_false fun z => h' (List.cons.inj z).2]
    · rw [qD_ne h, Bool.false_and, decide_eq_false fun z => h (List.cons.inj z).1]
/-- an object of the class is one of the class -/
structure IsN (K : PySem.W.Frag) (C : Addr) : Prop where
  ha : PySem.W.findIn K (.ref C) "__class__" = some (some (.builtin "object.__class__"))
  hn : PySem.W.specialIn K (.builtin "object.__class__") "__get__" = some (some (.builtin "getset_descriptor.__get__"))
  ht : PySem.W.takesIn K (.builtin "object.__class__") = some true
  hm : PySem.W.mroIn K C (.type "object") = some true
  k : PySem.W.kitOne K (.ref C) (.ref C) = some true
/-! ### texts -/
def sI (i : Nat) : Str := toString (i : Int)
theorem sI_ok : ∀ i : Nat, i ≤ 8 → (sI i).length = 1 ∧ (i : Int).natAbs.log2 < 1920 := by
  have h : ∀ i : Fin 9, (sI i.val).length = 1 ∧ ((i.val : Nat) : Int).natAbs.log2 < 1920 := by decide +kernel
  intro i hi
  exact h ⟨i, by omega⟩
def hdT (m n : Nat) : Str := ((sI m ++ (" x " : Str)) ++ sI n) ++ (":" : Str)
def rtT (p : Nat × Nat) : Str := (((Str.empty ++ (" " : Str)) ++ sI p.1) ++ ("-" : Str)) ++ sI p.2
def wrT (m n : Nat) (ps : List (Nat × Nat)) : Str := ps.foldl (fun o p => (((o ++ (" " : Str)) ++ sI p.1) ++ ("-" : Str)) ++ sI p.2) (hdT m n)
theorem len_app (a b : Str) : (a ++ b).length = a.length + b.length := by
  show (a ++ b).cps.size = _
  show (a.cps ++ b.cps).size = _
  rw [Array.size_append]
  rfl
theorem empty_app (a : Str) : Str.empty ++ a = a := by
  have : (Str.empty ++ a).cps = a.cps := by
    show Str.empty.cps ++ a.cps = _
    exact Array.empty_append
  exact Str.ext' this
theorem joinL_flat : ∀ ps : List (List Nat), joinL [] ps = ps.flatten
  | [] => rfl
  | [p] => by simp [joinL]
  | p :: q :: r => by
    show p ++ ([] ++ joinL [] (q :: r)) = _
    rw [joinL_flat (q :: r)]
    rfl
theorem tl_inj {a b : Str} (h : tl a = tl b) : a = b := by
  have := map_tl_inj (l := [a]) (m := [b]) (by simp [h])
  exact (List.cons.inj this).1
theorem tl_fold : ∀ (ps : List (Nat × Nat)) (o : Str), tl (ps.foldl (fun o p => (((o ++ (" " : Str)) ++ sI p.1) ++ ("-" : Str)) ++ sI p.2) o) = tl o ++ (ps.map fun p => tl (rtT p)).flatten
  | [], o => by simp
  | p :: ps, o => by
    rw [List.foldl_cons, tl_fold ps]
    simp only [tl_append, rtT, List.map_cons, List.flatten_cons, List.append_assoc]
    rw [show tl Str.empty = [] from rfl, List.nil_append]
theorem wrT_join (m n : Nat) (ps : List (Nat × Nat)) : hdT m n ++ Txt.join ("" : Str) (ps.map rtT) = wrT m n ps := by
  apply tl_inj
  unfold wrT
  rw [tl_append, join_eq, tl_join, tl_fold, show tl ("" : Str) = [] from rfl, joinL_flat, List.map_map]
  rfl
theorem rtT_len {p : Nat × Nat} (h1 : p.1 ≤ 8) (h2 : p.2 ≤ 8) : (rtT p).length = 4 := by
  unfold rtT
  rw [len_app, len_app, len_app, len_app, (sI_ok _ h1).1, (sI_ok _ h2).1]
  rfl
theorem hdT_len {m n : Nat} (h1 : m ≤ 8) (h2 : n ≤ 8) : (hdT m n).length = 6 := by
  unfold hdT
  rw [len_app, len_app, len_app, (sI_ok _ h1).1, (sI_ok _ h2).1]
  rfl
theorem rts_sum : ∀ {ps : List (Nat × Nat)}, (∀ p ∈ ps, p.1 ≤ 8 ∧ p.2 ≤ 8) → ((ps.map rtT).map (·.length)).sum = 4 * ps.length
  | [], _ => rfl
  | p :: ps, h => by
    have hp := h p List.mem_cons_self
    rw [List.map_cons, List.map_cons, List.sum_cons, rtT_len hp.1 hp.2, rts_sum fun q hq => h q (List.mem_cons_of_mem _ hq), List.length_cons]
    omega
theorem wrT_len {m n : Nat} (hm : m ≤ 8) (hn : n ≤ 8) : ∀ {ps : List (Nat × Nat)}, (∀ p ∈ ps, p.1 ≤ 8 ∧ p.2 ≤ 8) → (wrT m n ps).length = 6 + 4 * ps.length := by
  have go : ∀ (ps : List (Nat × Nat)) (o : Str), (∀ p ∈ ps, p.1 ≤ 8 ∧ p.2 ≤ 8) → (ps.foldl (fun o p => (((o ++ (" " : Str)) ++ sI p.1) ++ ("-" : Str)) ++ sI p.2) o).length = o.length + 4 * ps.length := by
    intro ps
    induction ps with
    | nil => intro o _; rfl
    | cons p ps ih =>
      intro o h
      have hp := h p List.mem_cons_self
      rw [List.foldl_cons, ih _ fun q hq => h q (List.mem_cons_of_mem _ hq), len_app, len_app, len_app, len_app, (sI_ok _ hp.1).1, (sI_ok _ hp.2).1, List.length_cons]
      show o.length + 1 + 1 + 1 + 1 + _ = _
      omega
  intro ps h
  unfold wrT
  rw [go ps _ h, hdT_len hm hn]
/-- an f-string, its rule by a name -/
def tJd (ts : List TE) : TE := fun σ H Q => tJs ts Str.empty σ H fun out H1 => Q (.str out) H1
theorem pe_jd {X : Cx} {v1 v2 : Expr} {rest : List Expr} {ts : List TE} {pos : Pos} (h : PJ X (v1 :: v2 :: rest) ts) : PE X (.JoinedStr (v1 :: v2 :: rest) pos) (tJd ts) := pe_joined h
section
variable {P : Program} {w : World} {K : PySem.W.Frag} {mg : Str → Option Value} {base : Heap} {f : Addr} {fd : FuncData}
/-! ### Network.__eq__ -/
abbrev Network_eq_N : List Str := ["self", "other"]
theorem Network_eq_sc : FnScope ["self", "other"] ["self", "other"] (defScope Network_eq_st) := ⟨rfl, rfl, rfl, by decide +kernel, rfl, by decide +kernel, by decide +kernel⟩
def spNEq (C : Addr) : Sp := fun vs H Q _ => ∃ (p p' : Addr) (m n m' n' : Nat) (zs zs' : List Z) (ws ws' : List P4), vs = [.ref p, .ref p'] ∧ NetAt C H p m n zs ws ∧ NetAt C H p' m' n' zs' ws' ∧ Q (.bl (decide (m = m' ∧ n = n' ∧ zs.map (·.2) = zs'.map (·.2)))) H
theorem ok_neq {C : Addr} {uP uR : Value} (F : FnM K "__eq__" "Network.__eq__" Network_eq_st f fd) (T : NetC K C uP uR) (J : IsN K C) (m_isinstance : mg "isinstance" = none) (g_Network : mg "Network" = some (.ref C)) : FnOk P w K mg base (L2N.CX P w) 1 f fd ["self", "other"] (spNEq C) := by
  refine F.ok Network_eq_sc (fun vs H Q E h => ?_) (fun cdv A outer s H vs Q E hr h => ?_)
  · obtain ⟨p, p', m, n, m', n', zs, zs', ws, ws', rfl, _⟩ := h
    rfl
  · obtain ⟨p, p', m, n, m', n', zs, zs', ws, ws', rfl, N, N', q⟩ := h
    obtain ⟨dx, r, di, g, hp, hr', hg⟩ := N.ob
    obtain ⟨dx2, r2, di2, g2, hp2, hr2, hg2⟩ := N'.ob
    refine ⟨_, (pss_one (ps_ret (pe_and (pe_callB call_isi (by rfl) m_isinstance (by decide +kernel) (pa_cons (pv 1) (pa_cons (pe_glob (v := .ref C) rfl g_Network rfl) pa_nil))) (pe_and (pe_cmpR op_eq (pe_fld (pv 0) rfl) (pe_fld (pv 1) rfl) (nomark _)) (pe_and (pe_cmpR op_eq (pe_fld (pv 0) rfl) (pe_fld (pv 1) rfl) (nomark _)) (pe_one (pe_cmpR (op_eqD hr.units) (pe_fld (pv 0) rfl) (pe_fld (pv 1) rfl) (nomark _)))))))), ?_⟩
    refine ⟨.ref p', rfl, .ref p', .ref C, .ref C, .ref C, true, rfl, .own _, .base (.ins hp2 T.cl J.ha J.hn J.ht J.hm), J.k, _, rfl, iteT ?_⟩
    refine ⟨.ref p, rfl, p, C, dx, _, nV m, rfl, hp, T.cl, T.nD, nf_D _ _ _ _ _, .ref p', rfl, p', C, dx2, _, nV m', rfl, hp2, T.cl, T.nD, nf_D _ _ _ _ _, rfl, _, rfl, ite2 (fun e1 => ?_) (fun e1 => ?_)⟩
    · have e1 : m = m' := by have := V.int.inj (of_decide_eq_true e1); omega
      refine ⟨.ref p, rfl, p, C, dx, _, nV n, rfl, hp, T.cl, T.nC, nf_C _ _ _ _ _, .ref p', rfl, p', C, dx2, _, nV n', rfl, hp2, T.cl, T.nC, nf_C _ _ _ _ _, rfl, _, rfl, ite2 (fun e2 => ?_) (fun e2 => ?_)⟩
      · have e2 : n = n' := by have := V.int.inj (of_decide_eq_true e2); omega
        refine ⟨.ref p, rfl, p, C, dx, _, .ref r, rfl, hp, T.cl, T.nR, nf_R _ _ _ _ _, .ref p', rfl, p', C, dx2, _, .ref r2, rfl, hp2, T.cl, T.nR, nf_R _ _ _ _ _, _, _, dp_pairs hr' N.pr, dp_pairs hr2 N'.pr, qDs_shaped _, qDs_shaped _, ?_⟩
        have e : PyData.eqv (.list ((zs.map (·.2)).map qD)) (.list ((zs'.map (·.2)).map qD)) = decide (m = m' ∧ n = n' ∧ zs.map (·.2) = zs'.map (·.2)) := by
          rw [show PyData.eqv (.list ((zs.map (·.2)).map qD)) (.list ((zs'.map (·.2)).map qD)) = PyData.eqvAll ((zs.map (·.2)).map qD) ((zs'.map (·.2)).map qD) by simp only [PyData.eqv], qD_eqs]
          by_cases h : zs.map (·.2) = zs'.map (·.2)
          · rw [decide_eq_true h, decide_eq_true ⟨e1, e2, h⟩]
          · rw [decide_eq_false h, decide_eq_false fun z => h z.2.2]
        rw [e]
        exact q
      · have e2 : ¬ n = n' := fun z => e2 (decide_eq_true (by rw [z]))
        rw [decide_eq_false fun z => e2 z.2.1] at q
        exact q
    · have e1 : ¬ m = m' := fun z => e1 (decide_eq_true (by rw [z]))
      rw [decide_eq_false fun z => e1 z.1] at q
      exact q
/-! ### Network.__str__ -/
abbrev Network_str_N : List Str := ["self", "routes", "depot", "customer"]
theorem Network_str_sc : FnScope ["self", "routes", "depot", "customer"] ["self"] (defScope Network_str_st) := ⟨rfl, rfl, rfl, by decide +kernel, rfl, by decide +kernel, by decide +kernel⟩
def spStr (C : Addr) : Sp := fun vs H Q _ => ∃ (p : Addr) (m n : Nat) (zs : List Z) (ws : List P4), vs = [.ref p] ∧ NetAt C H p m n zs ws ∧ ∀ H', Same H H' → Q (.str (wrT m n (zs.map (·.2)))) H'
theorem ok_nstr {C : Addr} {uP uR : Value} (F : FnM K "__str__" "Network.__str__" Network_str_st f fd) (T : NetC K C uP uR) : FnOk P w K mg base (L2N.CX P w) 1 f fd ["self"] (spStr C) := by
  refine F.ok Network_str_sc (fun vs H Q E h => ?_) (fun cdv A outer s H vs Q E hr h => ?_)
  · obtain ⟨p, m, n, zs, ws, rfl, _⟩ := h
    rfl
  · obtain ⟨p, m, n, zs, ws, rfl, N, q⟩ := h
    obtain ⟨dx, r, di, g, hp, hr', hg⟩ := N.ob
    refine ⟨_, (pss_cons (ps_set (i := 1) Network_str_sc.nd rfl (Or.inl rfl) (pe_join pe_str (pe_lc (own := [("depot", 2), ("customer", 3)]) rfl Network_str_sc.nd (pi_list (pe_fld (pv 0) rfl)) (blkOk_by (own := [("depot", 2), ("customer", 3)]) (N := Network_str_N) (sc := defScope Network_str_st) (by decide +kernel)) (fun _ _ _ _ _ => (pg_tup rfl (pgs_cons (pg_name (i := 2) Network_str_sc.nd rfl (Or.inl rfl)) (pgs_cons (pg_name (i := 3) Network_str_sc.nd rfl (Or.inl rfl)) pgs_nil)) : PG _ _ (gTup K 2 _))) (fun _ _ _ _ _ => pts_nil) (fun _ _ _ _ _ => (pe_jd (.cons pe_str (.cons (pe_fmt (pv 2)) (.cons pe_str (.cons (pe_fmt (pv 3)) .nil)))))))))
      (pss_one (ps_ret (pe_jd (.cons (pe_fmt (pe_fld (pv 0) rfl)) (.cons pe_str (.cons (pe_fmt (pe_fld (pv 0) rfl)) (.cons pe_str (.cons (pe_fmt (pv 1)) .nil))))))))), ?_⟩
    refine ⟨⟨_, rfl⟩, .ref p, rfl, p, C, dx, _, .ref r, rfl, hp, T.cl, T.nR, nf_R _ _ _ _ _, r, rfl, ⟨_, sq hr'⟩, fun D nD => ?_⟩
    refine lc_list (K := K) (a := r) (xs := zs.map zV) (fun i H' => Same H H' ∧ H' D = some (.lst ((((zs.map (·.2)).take i).map rtT).map V.str))) ⟨Same.new nD, upd_same⟩ (fun i H' _ h => sq (h.1 _ _ hr')) (fun i y H' hy h => ?_) (fun H1 h => ?_)
    · obtain ⟨sm, hD⟩ := h
      obtain ⟨z, ez, mz, rfl⟩ := item_zV hy
      have hz := sm _ _ (N.pr z mz)
      have hi : i < 16 := Nat.lt_of_lt_of_le (List.getElem?_eq_some_iff.mp ez).1 N.few
      have i1 := N.inr z mz
      have m8 := N.m8
      have n8 := N.n8
      have k1 := sI_ok z.2.1 (by omega)
      have k2 := sI_ok z.2.2 (by omega)
      refine ⟨z.1, [nV z.2.1, nV z.2.2], rfl, sqt hz, rfl, nV z.2.1, [nV z.2.2], rfl, nV z.2.2, [], rfl, rfl, rfl, ?_⟩
      have q1 : (Str.empty ++ (" " : Str)).length = 1 := by decide +kernel
      have q2 : ((Str.empty ++ (" " : Str)) ++ sI z.2.1).length = 2 := by rw [len_app, q1, k1.1]
      have q3 : (((Str.empty ++ (" " : Str)) ++ sI z.2.1) ++ ("-" : Str)).length = 3 := by rw [len_app, q2]; rfl
      have q4 : ((((Str.empty ++ (" " : Str)) ++ sI z.2.1) ++ ("-" : Str)) ++ sI z.2.2).length = 4 := by rw [len_app, q3, k2.1]
      have small : ∀ {x k : Nat}, x = k → k ≤ 8 → x ≤ sizeLine := fun h hk => by
        have := small1000 (show 8 ≤ 1000 by decide)
        omega
      refine ⟨(" " : Str), rfl, small q1 (by decide), nV z.2.1, rfl, .inr ⟨(z.2.1 : Int), rfl, k1.2, sI z.2.1, rfl, small q2 (by decide), ("-" : Str), rfl, small q3 (by decide), nV z.2.2, rfl, .inr ⟨(z.2.2 : Int), rfl, k2.2, sI z.2.2, rfl, small q4 (by decide), ?_⟩⟩⟩
      refine ⟨_, hD, small1000 (by rw [List.length_map, List.length_map, List.length_take]; omega), sm.mut nD, ?_⟩
      rw [upd_same, List.take_add_one, zs_at ez, List.map_append, List.map_append]
      rfl
    · obtain ⟨sm, hD⟩ := h
      rw [List.take_of_length_le (by rw [List.length_map, List.length_map]; exact Nat.le_refl _)] at hD
      have hp1 := sm _ _ hp
      have m8 := N.m8
      have n8 := N.n8
      have k1 := sI_ok m m8
      have k2 := sI_ok n n8
      have few := N.few
      have in8 : ∀ c ∈ zs.map (·.2), c.1 ≤ 8 ∧ c.2 ≤ 8 := fun c hc => by
        obtain ⟨z, hz, rfl⟩ := List.mem_map.mp hc
        have := N.inr z hz
        omega
      have sum := rts_sum in8
      rw [List.length_map] at sum
      have big := small1000 (show 100 ≤ 1000 by decide)
      refine ⟨("" : Str), D, (zs.map (·.2)).map rtT, rfl, rfl, .inl (sq hD), ?_, ?_⟩
      · rw [sum]
        show 4 * zs.length + _ * 0 ≤ _
        omega
      have e1 : (Str.empty ++ sI m) = sI m := empty_app _
      have l1 : (sI m ++ (" x " : Str)).length = 4 := by rw [len_app, k1.1]; rfl
      have l2 : ((sI m ++ (" x " : Str)) ++ sI n).length = 5 := by rw [len_app, l1, k2.1]
      have l3 : (((sI m ++ (" x " : Str)) ++ sI n) ++ (":" : Str)).length = 6 := by rw [len_app, l2]; rfl
      have l4 := wrT_len m8 n8 in8
      rw [List.length_map] at l4
      have l5 : (Txt.join ("" : Str) ((zs.map (·.2)).map rtT)).length ≤ sizeLine := by
        have := congrArg Str.length (wrT_join m n (zs.map (·.2)))
        rw [len_app] at this
        omega
      refine ⟨.ref p, rfl, p, C, dx, _, nV m, rfl, hp1, T.cl, T.nD, nf_D _ _ _ _ _, .inr ⟨(m : Int), rfl, k1.2, sI m, rfl, ?_, (" x " : Str), rfl, ?_, .ref p, rfl, p, C, dx, _, nV n, rfl, hp1, T.cl, T.nC, nf_C _ _ _ _ _, .inr ⟨(n : Int), rfl, k2.2, sI n, rfl, ?_, (":" : Str), rfl, ?_, .str (Txt.join ("" : Str) ((zs.map (·.2)).map rtT)), rfl, .inl ⟨_, rfl, l5, _, rfl, ?_, ?_⟩⟩⟩⟩
      · rw [e1, k1.1]; omega
      · rw [e1, l1]; omega
      · rw [e1, l2]; omega
      · rw [e1, l3]; omega
      · rw [e1]
        show (hdT m n ++ _).length ≤ _
        rw [wrT_join, l4]
        omega
      · show Q (.str ((((Str.empty ++ sI m) ++ (" x " : Str)) ++ sI n) ++ (":" : Str) ++ Txt.join ("" : Str) ((zs.map (·.2)).map rtT))) H1
        rw [e1]
        show Q (.str (hdT m n ++ _)) H1
        rw [wrT_join]
        exact q _ sm
end
end K05
set_option Elab.async false
set_option linter.all false
set_option maxRecDepth 100000
set_option maxHeartbeats 4000000
namespace K05
open PySem PySem.Spec PyProof.Rows L2
section
variable {P : Program} {w : World} {K : PySem.W.Frag} {mg : Str → Option Value} {base : Heap} {f : Addr} {fd : FuncData}
/-! ### checks that refuse -/
def spSizeB (C : Addr) : Sp := fun vs H Q E => ∃ (x a b : Int), vs = [.int x, .int a, .int b] ∧ (a ≤ x ∧ x ≤ b → Q .non H) ∧ (¬ (a ≤ x ∧ x ≤ b) → ∀ d, H d = none → E (.ref C) (some d) (upd H d (.xd [("size", .int x)])))
theorem ok_sizeB {C fI : Addr} {fdI : FuncData} {psI : List Str} (F : FnS K "check_size" check_size_st f fd) (D_E : Er P w K mg base "BadSize" "size" C fI fdI psI) : FnOk P w K mg base (L2N.CX P w) 3 f fd ["size", "least", "most"] (spSizeB C) := by
  refine F.ok check_size_sc (fun vs H Q E h => ?_) (fun cdv A outer s H vs Q E hr h => ?_)
  · obtain ⟨x, a, b, rfl, _⟩ := h
    rfl
  · obtain ⟨x, a, b, rfl, h1, h2⟩ := h
    refine ⟨_, (pss_one (ps_if (pt_not (pt_chain op_le op_le (pv 1) (pv 0) (pv 2))) (pss_one (L2N.ps_raise rfl (L2N.takes_of rfl rfl rfl rfl) (ErrX.pmk_err1 D_E.T D_E.iC D_E.tI D_E.F hr D_E.b ErrX.passN rfl D_E.g (pa_cons (pv 0) pa_nil)))) pss_nil)), ?_⟩
    refine ⟨.int a, rfl, .int x, rfl, a, x, rfl, rfl, _, rfl, ite2 (fun e0 => ?_) (fun e0 => ?_)⟩
    · have e0 := of_decide_eq_true e0
      refine ⟨.int b, rfl, x, b, rfl, rfl, _, rfl, ite2 (fun e => ?_) (fun e => ?_)⟩
      · have hb : ¬ x ≤ b := fun z => by
          rw [decide_eq_true z] at e
          cases e
        exact ⟨_, rfl, _, rfl, h2 fun z => hb z.2⟩
      · by_cases z : x ≤ b
        · exact h1 ⟨e0, z⟩
        · rw [decide_eq_false z] at e
          exact absurd rfl e
    · have hb : ¬ a ≤ x := fun z => e0 (decide_eq_true z)
      refine ⟨false, rfl, iteT ⟨_, rfl, _, rfl, h2 fun z => hb z.1⟩⟩
def spMostB (C : Addr) : Sp := fun vs H Q E => ∃ (x b : Int), vs = [.int x, .int b] ∧ (x ≤ b → Q .non H) ∧ (¬ x ≤ b → ∀ d, H d = none → E (.ref C) (some d) (upd H d (.xd [("most", .int b)])))
theorem ok_mostB {C fI : Addr} {fdI : FuncData} {psI : List Str} (F : FnS K "check_most" check_most_st f fd) (D_E : Er P w K mg base "TooMany" "most" C fI fdI psI) : FnOk P w K mg base (L2N.CX P w) 3 f fd ["number", "most"] (spMostB C) := by
  refine F.ok check_most_sc (fun vs H Q E h => ?_) (fun cdv A outer s H vs Q E hr h => ?_)
  · obtain ⟨x, b, rfl, _⟩ := h
    rfl
  · obtain ⟨x, b, rfl, h1, h2⟩ := h
    refine ⟨_, (pss_one (ps_if (pt_cmpR op_gt (pv 0) (pv 1) (nomark _)) (pss_one (L2N.ps_raise rfl (L2N.takes_of rfl rfl rfl rfl) (ErrX.pmk_err1 D_E.T D_E.iC D_E.tI D_E.F hr D_E.b ErrX.passN rfl D_E.g (pa_cons (pv 1) pa_nil)))) pss_nil)), ?_⟩
    refine ⟨.int x, rfl, .int b, rfl, x, b, rfl, rfl, _, rfl, ite2 (fun e => ?_) (fun e => ?_)⟩
    · have e := of_decide_eq_true e
      exact ⟨_, rfl, _, rfl, h2 (by omega)⟩
    · by_cases z : x > b
      · rw [decide_eq_true z] at e
        exact absurd rfl e
      · exact h1 (by omega)
def spNetE (C CB CT : Addr) : Sp := fun vs H Q E => ∃ (p a : Addr) (dx : Addr) (m n : Nat) (zs : List Z), vs = [.ref p, nV m, nV n, .ref a] ∧ H p = some (.ins C dx []) ∧ H a = some (.lst (zs.map zV)) ∧ PrZ H zs ∧ Fit m n (zs.map (·.2)) ∧ zs.length ≤ 40 ∧ 1 ≤ m ∧ 1 ≤ n ∧
  (8 < m → ∀ d, H d = none → E (.ref CB) (some d) (upd H d (.xd [("size", nV m)]))) ∧
  (m ≤ 8 → 8 < n → ∀ d, H d = none → E (.ref CB) (some d) (upd H d (.xd [("size", nV n)]))) ∧
  (m ≤ 8 → n ≤ 8 → 16 < zs.length → ∀ (H' : Hp) (d : Addr), Same H H' → H d = none → H' d = some (.xd [("most", .int 16)]) → E (.ref CT) (some d) H') ∧
  (m ≤ 8 → n ≤ 8 → zs.length ≤ 16 → ∀ (H' : Hp) (zs' : List Z) (ws : List P4), But p H H' → NetAt C H' p m n zs' ws → Asc (zs'.map (·.2)) (zs.map (·.2)) → FrZ H ws → (∀ (b0 : Addr) (xs : List V), H b0 = some (.lst xs) → NetAt C (del H' b0) p m n zs' ws) → NetIx C H' p zs' → Q .non H')
theorem ok_netE {C CB CT f1 f2 f3 f4 : Addr} {fd1 fd2 fd3 fd4 : FuncData} {uP uR : Value} (F : FnM K "__init__" "Network.__init__" Network_init_st f fd) (T : NetC K C uP uR) (m_len : mg "len" = none) (m_sorted : mg "sorted" = none) (m_enumerate : mg "enumerate" = none)
    (D_check_size : Dn P w K mg base 3 "check_size" ["size", "least", "most"] (spSizeB CB) f1 fd1) (D_check_most : Dn P w K mg base 3 "check_most" ["number", "most"] (spMostB CT) f2 fd2) (D_checked_pairs : Dn P w K mg base 4 "_checked_pairs" ["depots", "customers", "routes"] spPairs f3 fd3) (D_found_pieces : Dn P w K mg base 3 "_found_pieces" ["depots", "customers", "routes"] spFound f4 fd4) :
    FnOk P w K mg base (L2N.CX P w) 5 f fd ["self", "depots", "customers", "routes"] (spNetE C CB CT) := by
  refine F.ok Network_init_sc (fun vs H Q E h => ?_) (fun cdv A outer s H vs Q E hr h => ?_)
  · obtain ⟨p, a, dx, m, n, zs, rfl, _⟩ := h
    rfl
  · obtain ⟨p, a, dx, m, n, zs, rfl, hp, ha, pr, fit, z40, m1, n1, e1, e2, e3, q⟩ := h
    have hu0 := hr.units0
    refine ⟨_, (pss_cons (ps_expr (pe_callS D_check_size.ok (hr.mono (by decide)) rfl D_check_size.g D_check_size.kp D_check_size.b (fun σ => L2N.passAt (L2N.takes_of rfl rfl rfl rfl) σ) (pa_cons (pv 1) (pa_cons pe_int (pa_cons (pe_con (pv 0) rfl) pa_nil)))))
      (pss_cons (ps_expr (pe_callS D_check_size.ok (hr.mono (by decide)) rfl D_check_size.g D_check_size.kp D_check_size.b (fun σ => L2N.passAt (L2N.takes_of rfl rfl rfl rfl) σ) (pa_cons (pv 2) (pa_cons pe_int (pa_cons (pe_con (pv 0) rfl) pa_nil)))))
      (pss_cons (ps_set (i := 4) Network_init_sc.nd rfl (Or.inl rfl) (pe_call D_checked_pairs.ok (hr.mono (by decide)) rfl D_checked_pairs.g D_checked_pairs.kp D_checked_pairs.b .nil ErrX.passN (pa_cons (pv 1) (pa_cons (pv 2) (pa_cons (pv 3) pa_nil)))))
      (pss_cons (ps_expr (pe_callS D_check_most.ok (hr.mono (by decide)) rfl D_check_most.g D_check_most.kp D_check_most.b (fun σ => L2N.passAt (L2N.takes_of rfl rfl rfl rfl) σ) (pa_cons (pe_callB call_len_seq (by rfl) m_len (by decide +kernel) (pa_cons (pv 4) pa_nil)) (pa_cons (pe_con (pv 0) rfl) pa_nil))))
      (pss_cons (ps_fld (pv 0) (pv 1) rfl)
      (pss_cons (ps_fld (pv 0) (pv 2) rfl)
      (pss_cons (ps_fld (pv 0) (pe_callB cr_sortedPO (by rfl) m_sorted (by decide +kernel) (pa_cons (pv 4) pa_nil)) rfl)
      (pss_cons (ps_fld (pv 0) (CmX.pe_dcT (own := [("index", 5), ("route", 6)]) hu0 rfl Network_init_sc.nd (pi_enum (by rfl) m_enumerate (pa_cons (pe_fld (pv 0) rfl) pa_nil)) (blkOk_by (own := [("index", 5), ("route", 6)]) (N := Network_init_N) (sc := defScope Network_init_st) (by decide +kernel)) (fun _ _ _ _ _ => (pg_tup rfl (pgs_cons (pg_name (i := 5) Network_init_sc.nd rfl (Or.inl rfl)) (pgs_cons (pg_name (i := 6) Network_init_sc.nd rfl (Or.inl rfl)) pgs_nil)) : PG _ _ (gTup K 2 _))) (fun _ _ _ _ _ => pts_nil) (fun _ _ _ _ _ => (pv 6)) (fun _ _ _ _ _ => (pv 5))) rfl)
      (pss_one (ps_fld (pv 0) (pe_call D_found_pieces.ok (hr.mono (by decide)) rfl D_found_pieces.g D_found_pieces.kp D_found_pieces.b .nil ErrX.passN (pa_cons (pv 1) (pa_cons (pv 2) (pa_cons (pe_fld (pv 0) rfl) pa_nil)))) rfl)))))))))), ?_⟩
    refine ⟨nV m, rfl, .ref p, rfl, p, C, dx, [], .int 8, uP, rfl, hp, T.cl, T.cP, rfl, (m : Int), 1, 8, rfl, fun hm => ?_, fun hm => e1 (by omega)⟩
    have m8 : m ≤ 8 := by omega
    refine ⟨nV n, rfl, .ref p, rfl, p, C, dx, [], .int 8, uP, rfl, hp, T.cl, T.cP, rfl, (n : Int), 1, 8, rfl, fun hn => ?_, fun hn => e2 m8 (by omega)⟩
    have n8 : n ≤ 8 := by omega
    refine ⟨nV m, rfl, nV n, rfl, .ref a, rfl, a, m, n, zs, rfl, ha, pr, fit, z40, fun H1 D vs s1 nD hD pv ev => ?_⟩
    have hp1 := s1 _ _ hp
    have vz : vs.length = zs.length := by
      have := congrArg List.length ev
      rw [List.length_map, List.length_map] at this
      exact this
    refine ⟨.ref D, rfl, D, _, rfl, .inl (sq hD), .ref p, rfl, p, C, dx, [], .int 16, uR, rfl, hp1, T.cl, T.cR, rfl, _, 16, rfl, fun hz => ?_, fun hz d nd' => e3 m8 n8 (by rw [List.length_map] at hz; omega) _ d (s1.trans (Same.new nd')) (s1.back nd') upd_same⟩
    have vl : vs.length ≤ 16 := by
      rw [List.length_map] at hz
      omega
    have z16 : zs.length ≤ 16 := by omega
    replace q := q m8 n8 z16
    refine ⟨nV m, rfl, .ref p, rfl, p, C, dx, [], rfl, hp1, T.cl, T.nD, Nat.zero_lt_succ _, ?_⟩
    refine ⟨nV n, rfl, .ref p, rfl, p, C, dx, _, rfl, upd_same, T.cl, T.nC, Nat.lt_of_le_of_lt (putF_len _ _ _) (by decide), ?_⟩
    rw [upd_upd]
    have hp2 : (upd H1 p (.ins C dx (putF "_customers" (nV n) (putF "_depots" (nV m) [])))) p = some (.ins C dx (putF "_customers" (nV n) (putF "_depots" (nV m) []))) := upd_same
    have hD2 : (upd H1 p (.ins C dx (putF "_customers" (nV n) (putF "_depots" (nV m) [])))) D = some (.lst (vs.map zV)) := by
      rw [upd_ne (ne_ins hD hp1)]
      exact hD
    have pv2 : PrZ (upd H1 p (.ins C dx (putF "_customers" (nV n) (putF "_depots" (nV m) [])))) vs := pv.upd hp1
    have b2 : But p H (upd H1 p (.ins C dx (putF "_customers" (nV n) (putF "_depots" (nV m) [])))) := But.at_ (.of s1)
    generalize upd H1 p (.ins C dx (putF "_customers" (nV n) (putF "_depots" (nV m) []))) = H2 at hp2 hD2 pv2 b2 ⊢
    have nd2 : (vs.map (·.2)).Nodup := by
      rw [ev]
      exact fit.1
    refine ⟨.ref D, rfl, D, vs.map zV, kH H2, rfl, sq hD2, fun x hx => ?_, fun ys r hs hb nr => ?_⟩
    · obtain ⟨z, hz, rfl⟩ := List.mem_map.mp hx
      have hk := kH_at (pv2 z hz)
      refine ⟨z.1, rfl, ?_⟩
      rw [hk]
      exact pv2 z hz
    obtain ⟨zs', rfl, pm, asc⟩ := sorted_pairs pv2 nd2 hs hb
    rw [ev] at asc
    have pr2 : PrZ H2 zs' := fun z hz => pv2 z (pm.mem_iff.mp hz)
    have z'16 : zs'.length ≤ 16 := by
      rw [pm.length_eq]
      exact vl
    have inr : InR m n zs' := fun z hz => fit.2 z.2 (asc.1.mem_iff.mp (List.mem_map_of_mem hz))
    have s3 := Same.new (o := .lst (zs'.map zV)) nr
    have hp3 := s3 _ _ hp2
    have nrp : r ≠ p := (ne_of_none hp2 nr).symm
    refine ⟨.ref p, rfl, p, C, dx, _, rfl, hp3, T.cl, T.nR, Nat.lt_of_le_of_lt (putF_len _ _ _) (Nat.lt_of_le_of_lt (Nat.succ_le_succ (putF_len _ _ _)) (by decide)), ?_⟩
    have hp4 : (upd (upd H2 r (.lst (zs'.map zV))) p (.ins C dx (putF "_routes" (.ref r) (putF "_customers" (nV n) (putF "_depots" (nV m) []))))) p = some (.ins C dx (putF "_routes" (.ref r) (putF "_customers" (nV n) (putF "_depots" (nV m) [])))) := upd_same
    have hr4 : (upd (upd H2 r (.lst (zs'.map zV))) p (.ins C dx (putF "_routes" (.ref r) (putF "_customers" (nV n) (putF "_depots" (nV m) []))))) r = some (.lst (zs'.map zV)) := by
      rw [upd_ne nrp]
      exact upd_same
    have pr4 : PrZ (upd (upd H2 r (.lst (zs'.map zV))) p (.ins C dx (putF "_routes" (.ref r) (putF "_customers" (nV n) (putF "_depots" (nV m) []))))) zs' := (pr2.keep s3).upd hp3
    have b4 : But p H (upd (upd H2 r (.lst (zs'.map zV))) p (.ins C dx (putF "_routes" (.ref r) (putF "_customers" (nV n) (putF "_depots" (nV m) []))))) := But.at_ (b2.trans (.of s3))
    generalize upd (upd H2 r (.lst (zs'.map zV))) p (.ins C dx (putF "_routes" (.ref r) (putF "_customers" (nV n) (putF "_depots" (nV m) [])))) = H4 at hp4 hr4 pr4 b4 ⊢
    have look : (putF "_routes" (.ref r) (putF "_customers" (nV n) (putF "_depots" (nV m) []))).lookup ("_routes" : Str) = some (V.ref r) := by rw [lookup_putF, if_pos rfl]
    refine ⟨.ref p, rfl, p, C, dx, _, .ref r, rfl, hp4, T.cl, T.nR, look, r, zs'.map zV, rfl, sq hr4, fun Di nDi => ?_⟩
    refine ⟨fun i m' H' => m' = zs'.length - i ∧ i ≤ zs'.length ∧ Same H4 H' ∧ ∃ kvs : List (List Key × V), H' Di = some (.dT kvs) ∧ kvs.length ≤ i ∧ ∀ k, valV kvs k = ixv zs' i k, ⟨_, rfl, Nat.zero_le _, Same.new nDi, [], upd_same, Nat.le_refl _, fun _ => rfl⟩, fun i m' H' hW => ?_⟩
    obtain ⟨rfl, hi, sm, kvs, hDi, kl, kx⟩ := hW
    have hr' := sm _ _ hr4
    by_cases hlt : i < zs'.length
    · have g : (zs'.map zV)[i]? = some (zV zs'[i]) := by
        rw [List.getElem?_map, List.getElem?_eq_getElem hlt]
        rfl
      refine .inr ⟨⟨_, _, sq hr', g⟩, fun H'' => Same H4 H'' ∧ ∃ kvs : List (List Key × V), H'' Di = some (.dT kvs) ∧ kvs.length ≤ i + 1 ∧ ∀ k, valV kvs k = ixv zs' (i + 1) k, fun H'' ⟨h1, h2⟩ => ⟨zs'.length - (i + 1), by omega, rfl, hlt, h1, h2⟩, fun x H'' hy => ?_⟩
      obtain ⟨Tt, x1, rfl, nT, rfl, fx⟩ := hy
      have ex : x1 = zV zs'[i] := Option.some.inj ((fx _ (sq hr')).symm.trans g)
      subst ex
      have st := Same.new (o := .tup [.int (i : Nat), zV zs'[i]]) nT
      have hz := st _ _ (sm _ _ (pr4 _ (List.getElem_mem hlt)))
      refine ⟨Tt, [.int (i : Nat), zV zs'[i]], rfl, sqt upd_same, rfl, .int (i : Nat), [zV zs'[i]], rfl, zV zs'[i], [], rfl, rfl, rfl, ?_⟩
      refine ⟨zV zs'[i], rfl, .int (i : Nat), rfl, zs'[i].1, kvs, [Sum.inl (zs'[i].2.1 : Int), Sum.inl (zs'[i].2.2 : Int)], rfl, st _ _ hDi, hz, small1000 (by omega), (sm.trans st).mut nDi, _, upd_same, ?_, fun k => ?_⟩
      · have := length_putK kvs [Sum.inl (zs'[i].2.1 : Int), Sum.inl (zs'[i].2.2 : Int)] (.int (i : Nat))
        omega
      · rw [valV_put, kx]
        show _ = (match zs'[i]? with
          | some z => if k = kz z then some (V.int (i : Nat)) else ixv zs' i k
          | none => ixv zs' i k)
        rw [List.getElem?_eq_getElem hlt]
        rfl
    · refine .inl ⟨⟨_, sq hr', by rw [List.length_map]; omega⟩, ?_⟩
      have hp5 := sm _ _ hp4
      have nDp : Di ≠ p := (ne_of_none hp4 nDi).symm
      refine ⟨.ref p, rfl, p, C, dx, _, rfl, hp5, T.cl, T.nI, Nat.lt_of_le_of_lt (putF_len _ _ _) (Nat.lt_of_le_of_lt (Nat.succ_le_succ (putF_len _ _ _)) (Nat.lt_of_le_of_lt (Nat.succ_le_succ (Nat.succ_le_succ (putF_len _ _ _))) (by decide))), ?_⟩
      have hp6 : (upd H' p (.ins C dx (putF "_indices" (.ref Di) (putF "_routes" (.ref r) (putF "_customers" (nV n) (putF "_depots" (nV m) [])))))) p = some (.ins C dx (putF "_indices" (.ref Di) (putF "_routes" (.ref r) (putF "_customers" (nV n) (putF "_depots" (nV m) []))))) := upd_same
      have hr6 : (upd H' p (.ins C dx (putF "_indices" (.ref Di) (putF "_routes" (.ref r) (putF "_customers" (nV n) (putF "_depots" (nV m) [])))))) r = some (.lst (zs'.map zV)) := by
        rw [upd_ne nrp]
        exact hr'
      have pr6 : PrZ (upd H' p (.ins C dx (putF "_indices" (.ref Di) (putF "_routes" (.ref r) (putF "_customers" (nV n) (putF "_depots" (nV m) [])))))) zs' := (pr4.keep sm).upd hp5
      have b6 : But p H (upd H' p (.ins C dx (putF "_indices" (.ref Di) (putF "_routes" (.ref r) (putF "_customers" (nV n) (putF "_depots" (nV m) [])))))) := But.at_ (b4.trans (.of sm))
      have hDx : (upd H' p (.ins C dx (putF "_indices" (.ref Di) (putF "_routes" (.ref r) (putF "_customers" (nV n) (putF "_depots" (nV m) [])))))) Di = some (.dT kvs) := by
        rw [upd_ne nDp]
        exact hDi
      generalize upd H' p (.ins C dx (putF "_indices" (.ref Di) (putF "_routes" (.ref r) (putF "_customers" (nV n) (putF "_depots" (nV m) []))))) = H6 at hp6 hr6 pr6 b6 hDx ⊢
      have look2 : (putF "_indices" (.ref Di) (putF "_routes" (.ref r) (putF "_customers" (nV n) (putF "_depots" (nV m) [])))).lookup ("_routes" : Str) = some (V.ref r) := by rw [lookup_putF, if_neg (by decide), look]
      refine ⟨nV m, rfl, nV n, rfl, .ref p, rfl, p, C, dx, _, .ref r, rfl, hp6, T.cl, T.nR, look2, r, m, n, zs', rfl, hr6, pr6, inr, m8, n8, fun H7 g wz s7 ng hg pz fz ez nz => ?_⟩
      have hp7 := s7 _ _ hp6
      refine ⟨.ref p, rfl, p, C, dx, _, rfl, hp7, T.cl, T.nP, Nat.lt_of_le_of_lt (putF_len _ _ _) (Nat.lt_of_le_of_lt (Nat.succ_le_succ (putF_len _ _ _)) (Nat.lt_of_le_of_lt (Nat.succ_le_succ (Nat.succ_le_succ (putF_len _ _ _))) (Nat.lt_of_le_of_lt (Nat.succ_le_succ (Nat.succ_le_succ (Nat.succ_le_succ (putF_len _ _ _)))) (by decide)))), ?_⟩
      have ngp : g ≠ p := (ne_of_none hp6 ng).symm
      have hDi6 : H6 Di = some (.dT kvs) := hDx
      have ie : i = zs'.length := by omega
      have fz' : FrZ H wz := fun z hz => ⟨b6.back hp6 (fz z hz).1, b6.back hp6 (fz z hz).2.1, b6.back hp6 (fz z hz).2.2⟩
      have bF : But p H (upd H7 p (.ins C dx (putF "_pieces" (.ref g) (putF "_indices" (.ref Di) (putF "_routes" (.ref r) (putF "_customers" (nV n) (putF "_depots" (nV m) []))))))) := But.at_ (b6.trans (.of s7))
      have Hr0 : H r = none := b2.back hp2 nr
      have Hg0 : H g = none := b6.back hp6 ng
      have pF : PrZ (upd H7 p (.ins C dx (putF "_pieces" (.ref g) (putF "_indices" (.ref Di) (putF "_routes" (.ref r) (putF "_customers" (nV n) (putF "_depots" (nV m) []))))))) zs' := (pr6.keep s7).upd hp7
      have rF : (upd H7 p (.ins C dx (putF "_pieces" (.ref g) (putF "_indices" (.ref Di) (putF "_routes" (.ref r) (putF "_customers" (nV n) (putF "_depots" (nV m) []))))))) r = some (.lst (zs'.map zV)) := by
        rw [upd_ne nrp]
        exact s7 _ _ hr6
      have gF : (upd H7 p (.ins C dx (putF "_pieces" (.ref g) (putF "_indices" (.ref Di) (putF "_routes" (.ref r) (putF "_customers" (nV n) (putF "_depots" (nV m) []))))))) g = some (.lst (wz.map pV)) := by
        rw [upd_ne ngp]
        exact hg
      have cF : PcZ (upd H7 p (.ins C dx (putF "_pieces" (.ref g) (putF "_indices" (.ref Di) (putF "_routes" (.ref r) (putF "_customers" (nV n) (putF "_depots" (nV m) []))))))) wz := fun z hz => by
        have h := pz z hz
        refine ⟨?_, ?_, ?_⟩
        · rw [upd_ne (ne_insT h.ht hp7)]
          exact h.ht
        · rw [upd_ne (ne_ins h.ho hp7)]
          exact h.ho
        · rw [upd_ne (ne_ins h.hu hp7)]
          exact h.hu
      refine q _ zs' wz bF ⟨⟨dx, r, Di, g, upd_same, rF, gF⟩, pF, cF, inr, z'16, ez, m8, n8⟩ asc fz' (fun b0 xs hb0 => ?_) ⟨dx, m, n, r, Di, g, kvs, upd_same, by rw [upd_ne nDp]; exact s7 _ _ hDi6, by rw [← ie]; exact kx⟩
      have nb0 : b0 ≠ p := ne_ins hb0 hp
      have hbF := bF _ _ nb0 hb0
      have tupne : ∀ {c : Addr} {ys : List V}, (upd H7 p (.ins C dx (putF "_pieces" (.ref g) (putF "_indices" (.ref Di) (putF "_routes" (.ref r) (putF "_customers" (nV n) (putF "_depots" (nV m) []))))))) c = some (.tup ys) → c ≠ b0 := fun h e => by
        rw [e, hbF] at h
        cases h
      have frne : ∀ {c : Addr}, H c = none → c ≠ b0 := fun h e => by
        rw [e, hb0] at h
        cases h
      refine ⟨⟨dx, r, Di, g, ?_, ?_, ?_⟩, fun z hz => ?_, fun z hz => ⟨?_, ?_, ?_⟩, inr, z'16, ez, m8, n8⟩
      · rw [del_ne nb0.symm]
        exact upd_same
      · rw [del_ne (frne Hr0)]
        exact rF
      · rw [del_ne (frne Hg0)]
        exact gF
      · rw [del_ne (tupne (pF z hz))]
        exact pF z hz
      · rw [del_ne (tupne (cF z hz).ht)]
        exact (cF z hz).ht
      · rw [del_ne (frne (fz' z hz).2.1)]
        exact (cF z hz).ho
      · rw [del_ne (frne (fz' z hz).2.2)]
        exact (cF z hz).hu
end
end K05
set_option Elab.async false
set_option linter.all false
set_option maxRecDepth 100000
set_option maxHeartbeats 4000000
namespace K05
open PySem PySem.Spec PyProof.Rows L2
/-- the class Network: how it is made, or refused -/
structure NwE (P : Program) (w : World) (K : PySem.W.Frag) (mg : Str → Option Value) (base : Heap) (C CB CT f : Addr) (fd : FuncData) : Prop where
  mkk : Mk K C f
  ok : FnOk P w K mg base (L2N.CX P w) 5 f fd ["self", "depots", "customers", "routes"] (spNetE C CB CT)
  g : mg "Network" = some (.ref C)
  b : Binds K fd ["self", "depots", "customers", "routes"] []
section
variable {P : Program} {w : World} {K : PySem.W.Frag} {mg : Str → Option Value} {base : Heap} {f : Addr} {fd : FuncData}
/-! ### Network.__iter__ -/
abbrev Network_iter_N : List Str := ["self"]
theorem Network_iter_sc : FnScope ["self"] ["self"] (defScope Network_iter_st) := ⟨rfl, rfl, rfl, by decide +kernel, rfl, by decide +kernel, by decide +kernel⟩
def spIter (C : Addr) (k : Nat) : Sp := fun vs H Q _ => ∃ (p : Addr) (m n : Nat) (zs : List Z) (ws : List P4), vs = [.ref p] ∧ NetAt C H p m n zs ws ∧ ∀ (it r : Addr), H r = some (.lst (zs.map zV)) → H it = none → k ≤ it → Q (.ref it) (upd H it (ItO r it 0))
theorem ok_iter {C : Addr} {uP uR : Value} (F : FnM K "__iter__" "Network.__iter__" Network_iter_st f fd) (T : NetC K C uP uR) (m_iter : mg "iter" = none) : ∀ base : Heap, FnOk P w K mg base (L2N.CX P w) 1 f fd ["self"] (spIter C base.objs.size) := by
  intro base
  refine F.ok Network_iter_sc (fun vs H Q E h => ?_) (fun cdv A outer s H vs Q E hr h => ?_)
  · obtain ⟨p, m, n, zs, ws, rfl, _⟩ := h
    rfl
  · obtain ⟨p, m, n, zs, ws, rfl, N, q⟩ := h
    obtain ⟨dx, r, di, g, hp, hr', hg⟩ := N.ob
    refine ⟨_, (pss_one (ps_ret (pe_callB OwnM.call_iterB (by rfl) m_iter (by decide +kernel) (pa_cons (pe_fld (pv 0) rfl) pa_nil)))), ?_⟩
    exact ⟨.ref p, rfl, p, C, dx, _, .ref r, rfl, hp, T.cl, T.nR, nf_R _ _ _ _ _, r, _, rfl, sq hr', fun it nit le => q it r hr' nit le⟩
/-! ### _glued_numbers -/
abbrev glued_numbers_N : List Str := ["many", "glued", "into", "start", "before", "behind", "place"]
theorem glued_numbers_sc : FnScope ["many", "glued", "into", "start", "before", "behind", "place"] ["many", "glued", "into", "start"] (defScope glued_numbers_st) := ⟨rfl, rfl, rfl, by decide +kernel, rfl, by decide +kernel, by decide +kernel⟩
/-- the new numbers of glued places -/
def gNum (many glued into start : Nat) : List Nat := (List.range glued).map (start + ·) ++ [into] ++ (List.range (many - (glued + 1))).map fun i => start + (glued + 1 + i) - 1
def spGNum : Sp := fun vs H Q _ => ∃ (a b c d : Nat), vs = [nV a, nV b, nV c, nV d] ∧ b < a ∧ a ≤ 8 ∧ d ≤ 8 ∧ New H Q ((gNum a b c d).map nV)
theorem ok_gnum (F : FnS K "_glued_numbers" glued_numbers_st f fd) (m_range : mg "range" = none) : FnOk P w K mg base (L2N.CX P w) 1 f fd ["many", "glued", "into", "start"] spGNum := by
  refine F.ok glued_numbers_sc (fun vs H Q E h => ?_) (fun cdv A outer s H vs Q E hr h => ?_)
  · obtain ⟨a, b, c, d, rfl, _⟩ := h
    rfl
  · obtain ⟨a, b, c, d, rfl, hb, a8, d8, q⟩ := h
    refine ⟨_, (pss_cons (ps_setLc (i := 4) (own := [("place", 6)]) rfl glued_numbers_sc.nd rfl rfl (sw_true rfl rfl rfl (by decide +kernel)) (pi_range1 rfl m_range (pa_cons (pv 1) pa_nil)) (blkOk_by (own := [("place", 6)]) (N := glued_numbers_N) (sc := defScope glued_numbers_st) (by decide +kernel)) (fun _ _ _ _ _ => (pg_name (i := 6) glued_numbers_sc.nd rfl (Or.inl rfl))) (fun _ _ _ _ _ => pts_nil) (fun _ _ _ _ _ => (pe_op op_add (pv 3) (pv 6))))
      (pss_cons (ps_setLc (i := 5) (own := [("place", 6)]) rfl glued_numbers_sc.nd rfl rfl (sw_true rfl rfl rfl (by decide +kernel)) (pi_range2 rfl m_range (pa_cons (pe_op op_add (pv 1) pe_int) (pa_cons (pv 0) pa_nil))) (blkOk_by (own := [("place", 6)]) (N := glued_numbers_N) (sc := defScope glued_numbers_st) (by decide +kernel)) (fun _ _ _ _ _ => (pg_name (i := 6) glued_numbers_sc.nd rfl (Or.inl rfl))) (fun _ _ _ _ _ => pts_nil) (fun _ _ _ _ _ => (pe_op op_sub (pe_op op_add (pv 3) (pv 6)) pe_int)))
      (pss_one (ps_ret (pe_op op_cat (pe_op op_cat (pv 4) (pe_lst (pa_cons (pv 2) pa_nil))) (pv 5)))))), ?_⟩
    have big := small1000 (show 100 ≤ 1000 by decide)
    refine ⟨nV b, rfl, _, rfl, by omega, by omega, fun D nD => ?_⟩
    rw [Int.toNat_natCast]
    refine lc_range (lo := 0) (n := b) (fun i H' => Same H H' ∧ H' D = some (.lst (((List.range i).map (d + ·)).map nV))) ⟨Same.new nD, upd_same⟩ (fun i H' hi h => ?_) (fun H1 h => ?_)
    · obtain ⟨sm, hD⟩ := h
      refine ⟨rfl, ?_⟩
      refine ⟨nV d, rfl, .int (0 + (i : Int)), rfl, (d : Int), 0 + (i : Int), rfl, rfl, _, hD, small1000 (by rw [List.length_map, List.length_map, List.length_range]; omega), sm.mut nD, ?_⟩
      rw [upd_same, List.range_succ, List.map_append, List.map_append]
      show some (HO.lst (_ ++ [V.int ((d : Int) + (0 + (i : Int)))])) = some (HO.lst (_ ++ [V.int ((d + i : Nat) : Int)]))
      rw [show (d : Int) + (0 + (i : Int)) = ((d + i : Nat) : Int) by omega]
    obtain ⟨s1, hD⟩ := h
    refine ⟨nV b, rfl, (b : Int), 1, rfl, rfl, nV a, rfl, (b : Int) + 1, (a : Int), rfl, by omega, fun D2 nD2 => ?_⟩
    rw [show ((a : Int) - ((b : Int) + 1)).toNat = a - (b + 1) by omega]
    have nDD : D ≠ D2 := ne_of_none hD nD2
    refine lc_range (lo := (b : Int) + 1) (n := a - (b + 1)) (fun i H' => Same H1 H' ∧ H' D2 = some (.lst (((List.range i).map fun i => d + (b + 1 + i) - 1).map nV))) ⟨Same.new nD2, upd_same⟩ (fun i H' hi h => ?_) (fun H2 h => ?_)
    · obtain ⟨sm, hD2⟩ := h
      refine ⟨rfl, ?_⟩
      refine ⟨nV d, rfl, .int ((b : Int) + 1 + (i : Int)), rfl, (d : Int), (b : Int) + 1 + (i : Int), rfl, rfl, _, 1, rfl, rfl, _, hD2, small1000 (by rw [List.length_map, List.length_map, List.length_range]; omega), sm.mut nD2, ?_⟩
      rw [upd_same, List.range_succ, List.map_append, List.map_append]
      show some (HO.lst (_ ++ [V.int ((d : Int) + ((b : Int) + 1 + (i : Int)) - 1)])) = some (HO.lst (_ ++ [V.int ((d + (b + 1 + i) - 1 : Nat) : Int)]))
      rw [show (d : Int) + ((b : Int) + 1 + (i : Int)) - 1 = ((d + (b + 1 + i) - 1 : Nat) : Int) by omega]
    obtain ⟨s2, hD2⟩ := h
    have hD' := s2 _ _ hD
    refine ⟨.ref D, rfl, nV c, rfl, len1, fun l nl => ?_⟩
    have s3 := Same.new (o := .lst [nV c]) nl
    refine ⟨D, l, _, _, rfl, rfl, s3 _ _ hD', upd_same, by rw [List.length_map, List.length_map, List.length_range]; show b + 1 ≤ _; omega, fun e ne => ?_⟩
    have s4 := Same.new (o := .lst (((List.range b).map (d + ·)).map nV ++ [nV c])) ne
    refine ⟨.ref D2, rfl, e, D2, _, _, rfl, rfl, upd_same, s4 _ _ (s3 _ _ hD2), by rw [List.length_append, List.length_map, List.length_map, List.length_map, List.length_map, List.length_range, List.length_range]; show b + 1 + _ ≤ _; omega, fun g ng => ?_⟩
    have s5 := Same.new (o := .lst (((List.range b).map (d + ·)).map nV ++ [nV c] ++ ((List.range (a - (b + 1))).map fun i => d + (b + 1 + i) - 1).map nV)) ng
    have ss := s1.trans (s2.trans (s3.trans (s4.trans s5)))
    refine q _ g ss ((s1.trans (s2.trans (s3.trans s4))).back ng) (upd_same.trans ?_)
    unfold gNum
    rw [List.map_append, List.map_append]
    rfl
end
end K05
set_option Elab.async false
set_option linter.all false
set_option maxRecDepth 100000
set_option maxHeartbeats 4000000
namespace K05
open PySem PySem.Spec PyProof.Rows L2
/-- the same data twice, k deep -/
def Sm : Nat → Hp → V → V → Prop
  | 0, _, x, y => (∃ i, x = .int i ∧ y = .int i) ∨ (∃ z, x = .str z ∧ y = .str z) ∨ ∃ c, x = .bl c ∧ y = .bl c
  | k + 1, H, x, y => ((∃ i, x = .int i ∧ y = .int i) ∨ (∃ z, x = .str z ∧ y = .str z) ∨ ∃ c, x = .bl c ∧ y = .bl c) ∨ ∃ (a b : Addr) (xs ys : List V), x = .ref a ∧ y = .ref b ∧ ((H a = some (.lst xs) ∧ H b = some (.lst ys)) ∨ (H a = some (.tup xs) ∧ H b = some (.tup ys))) ∧ xs.length = ys.length ∧ xs.length ≤ 100 ∧ ∀ (i : Nat) (u v : V), xs[i]? = some u → ys[i]? = some v → Sm k H u v
def spSame (k : Nat) : Sp := fun vs H Q _ => ∃ x y, vs = [x, y] ∧ Sm k H x y ∧ Q (.bl true) H
section
variable {P : Program} {w : World} {K : PySem.W.Frag} {mg : Str → Option Value} {base : Heap} {f : Addr} {fd : FuncData}
/-! ### _law_same -/
abbrev law_same_N : List Str := ["told", "due", "k"]
theorem law_same_sc : FnScope ["told", "due", "k"] ["told", "due"] (defScope law_same_st) := ⟨rfl, rfl, rfl, by decide +kernel, rfl, by decide +kernel, by decide +kernel⟩
theorem ok_same0 (F : FnS K "_law_same" law_same_st f fd) (m_bool : mg "bool" = none) (m_len : mg "len" = none) (m_isinstance : mg "isinstance" = none) (m_int : mg "int" = none) (m_tuple : mg "tuple" = none) (m_range : mg "range" = none) (m_list : mg "list" = none) (m_str : mg "str" = none) : FnOk P w K mg base (L2N.CX P w) 1 f fd ["told", "due"] (spSame 0) := by
  refine F.ok law_same_sc (fun vs H Q E h => ?_) (fun cdv A outer s H vs Q E hr h => ?_)
  · obtain ⟨x, y, rfl, _⟩ := h
    rfl
  · obtain ⟨x, y, rfl, hs, q⟩ := h
    refine ⟨_, (pss_cons (ps_if (pt_cmpR op_isN (pv 1) pe_non (nomark _)) (pss_one (ps_ret (pe_cmpR op_isN (pv 0) pe_non (nomark _)))) pss_nil)
      (pss_cons (ps_if (pt_val (pe_callB call_isi (by rfl) m_isinstance (by decide +kernel) (pa_cons (pv 1) (pa_cons (pe_bltn (by rfl) m_bool (by decide +kernel) (v := .ty "bool") rfl) pa_nil)))) (pss_one (ps_ret (pe_and (pe_callB call_isi (by rfl) m_isinstance (by decide +kernel) (pa_cons (pv 0) (pa_cons (pe_bltn (by rfl) m_bool (by decide +kernel) (v := .ty "bool") rfl) pa_nil))) (pe_one (pe_cmpR op_eq (pv 0) (pv 1) (nomark _)))))) pss_nil)
      (pss_cons (ps_if (pt_val (pe_callB call_isi (by rfl) m_isinstance (by decide +kernel) (pa_cons (pv 1) (pa_cons (pe_bltn (by rfl) m_int (by decide +kernel) (v := .ty "int") rfl) pa_nil)))) (pss_one (ps_ret (pe_and (pe_callB call_isi (by rfl) m_isinstance (by decide +kernel) (pa_cons (pv 0) (pa_cons (pe_bltn (by rfl) m_int (by decide +kernel) (v := .ty "int") rfl) pa_nil))) (pe_and (pe_not (pe_callB call_isi (by rfl) m_isinstance (by decide +kernel) (pa_cons (pv 0) (pa_cons (pe_bltn (by rfl) m_bool (by decide +kernel) (v := .ty "bool") rfl) pa_nil)))) (pe_one (pe_cmpR op_eq (pv 0) (pv 1) (nomark _))))))) pss_nil)
      (pss_cons (ps_if (pt_val (pe_callB call_isi (by rfl) m_isinstance (by decide +kernel) (pa_cons (pv 1) (pa_cons (pe_bltn (by rfl) m_str (by decide +kernel) (v := .ty "str") rfl) pa_nil)))) (pss_one (ps_ret (pe_and (pe_callB call_isi (by rfl) m_isinstance (by decide +kernel) (pa_cons (pv 0) (pa_cons (pe_bltn (by rfl) m_str (by decide +kernel) (v := .ty "str") rfl) pa_nil))) (pe_one (pe_cmpR op_eq (pv 0) (pv 1) (nomark _)))))) pss_nil)
      (pss_cons (ps_if (PW.pt (pw_and (pt_val (pe_callB call_isi (by rfl) m_isinstance (by decide +kernel) (pa_cons (pv 1) (pa_cons (pe_bltn (by rfl) m_list (by decide +kernel) (v := .ty "list") rfl) pa_nil)))) (pw_and1 (pt_not (pt_val (pe_callB call_isi (by rfl) m_isinstance (by decide +kernel) (pa_cons (pv 0) (pa_cons (pe_bltn (by rfl) m_list (by decide +kernel) (v := .ty "list") rfl) pa_nil)))))))) (pss_one (ps_ret pe_bl)) pss_nil)
      (pss_cons (ps_if (PW.pt (pw_and (pt_val (pe_callB call_isi (by rfl) m_isinstance (by decide +kernel) (pa_cons (pv 1) (pa_cons (pe_bltn (by rfl) m_tuple (by decide +kernel) (v := .ty "tuple") rfl) pa_nil)))) (pw_and1 (pt_not (pt_val (pe_callB call_isi (by rfl) m_isinstance (by decide +kernel) (pa_cons (pv 0) (pa_cons (pe_bltn (by rfl) m_tuple (by decide +kernel) (v := .ty "tuple") rfl) pa_nil)))))))) (pss_one (ps_ret pe_bl)) pss_nil)
      (pss_cons (ps_if (pt_cmpR op_ne (pe_callB call_len_seq (by rfl) m_len (by decide +kernel) (pa_cons (pv 0) pa_nil)) (pe_callB call_len_seq (by rfl) m_len (by decide +kernel) (pa_cons (pv 1) pa_nil)) (nomark _)) (pss_one (ps_ret pe_bl)) pss_nil)
      (pss_cons ps_never
      (pss_one (ps_ret pe_bl)))))))))), ?_⟩
    rcases hs with ⟨i, rfl, rfl⟩ | ⟨z, rfl, rfl⟩ | ⟨c, rfl, rfl⟩
    · refine ⟨.int i, rfl, rfl, _, rfl, ite2 (fun e => absurd (of_decide_eq_true e) (fun z => nomatch z)) (fun _ => ?_)⟩
      refine ⟨.int i, rfl, .int i, .ty "bool", .type "int", .type "bool", false, rfl, .ty _, .base (.int i), kit_ty (by decide +kernel), _, rfl, iteF ?_⟩
      refine ⟨.int i, rfl, .int i, .ty "int", .type "int", .type "int", true, rfl, .ty _, .base (.int i), kit_ty (by decide +kernel), _, rfl, iteT ?_⟩
      refine ⟨.int i, rfl, .int i, .ty "int", .type "int", .type "int", true, rfl, .ty _, .base (.int i), kit_ty (by decide +kernel), _, rfl, iteT ⟨.int i, rfl, .int i, .ty "bool", .type "int", .type "bool", false, rfl, .ty _, .base (.int i), kit_ty (by decide +kernel), _, rfl, _, rfl, iteT ⟨.int i, rfl, .int i, rfl, rfl, (show Q (.bl (decide (V.int i = V.int i))) _ from by rw [decide_eq_true (rfl : V.int i = V.int i)]; exact q)⟩⟩⟩
    · refine ⟨.str z, rfl, rfl, _, rfl, ite2 (fun e => absurd (of_decide_eq_true e) (fun z => nomatch z)) (fun _ => ?_)⟩
      refine ⟨.str z, rfl, .str z, .ty "bool", .type "str", .type "bool", false, rfl, .ty _, .base (.str z), kit_ty (by decide +kernel), _, rfl, iteF ?_⟩
      refine ⟨.str z, rfl, .str z, .ty "int", .type "str", .type "int", false, rfl, .ty _, .base (.str z), kit_ty (by decide +kernel), _, rfl, iteF ?_⟩
      refine ⟨.str z, rfl, .str z, .ty "str", .type "str", .type "str", true, rfl, .ty _, .base (.str z), kit_ty (by decide +kernel), _, rfl, iteT ?_⟩
      exact ⟨.str z, rfl, .str z, .ty "str", .type "str", .type "str", true, rfl, .ty _, .base (.str z), kit_ty (by decide +kernel), _, rfl, iteT ⟨.str z, rfl, .str z, rfl, rfl, (show Q (.bl (decide (V.str z = V.str z))) _ from by rw [decide_eq_true (rfl : V.str z = V.str z)]; exact q)⟩⟩
    · refine ⟨.bl c, rfl, rfl, _, rfl, ite2 (fun e => absurd (of_decide_eq_true e) (fun z => nomatch z)) (fun _ => ?_)⟩
      exact ⟨.bl c, rfl, .bl c, .ty "bool", .type "bool", .type "bool", true, rfl, .ty _, .base (.bl c), kit_ty (by decide +kernel), _, rfl, iteT ⟨.bl c, rfl, .bl c, .ty "bool", .type "bool", .type "bool", true, rfl, .ty _, .base (.bl c), kit_ty (by decide +kernel), _, rfl, iteT ⟨.bl c, rfl, .bl c, rfl, rfl, (show Q (.bl (decide (V.bl c = V.bl c))) _ from by rw [decide_eq_true (rfl : V.bl c = V.bl c)]; exact q)⟩⟩⟩
theorem ok_sameS {k : Nat} (F : FnS K "_law_same" law_same_st f fd) (m_bool : mg "bool" = none) (m_len : mg "len" = none) (m_isinstance : mg "isinstance" = none) (m_int : mg "int" = none) (m_tuple : mg "tuple" = none) (m_range : mg "range" = none) (m_list : mg "list" = none) (m_str : mg "str" = none) (D_law_same : Dn P w K mg base (k + 1) "_law_same" ["told", "due"] (spSame k) f fd) : FnOk P w K mg base (L2N.CX P w) (k + 2) f fd ["told", "due"] (spSame (k + 1)) := by
  refine F.ok law_same_sc (fun vs H Q E h => ?_) (fun cdv A outer s H vs Q E hr h => ?_)
  · obtain ⟨x, y, rfl, _⟩ := h
    rfl
  · obtain ⟨x, y, rfl, hs | ⟨a, b, xs, ys, rfl, rfl, ⟨ha, hb⟩ | ⟨ha, hb⟩, hl, h100, hd⟩, q⟩ := h
    · refine ⟨_, (pss_cons (ps_if (pt_cmpR op_isN (pv 1) pe_non (nomark _)) (pss_one (ps_ret (pe_cmpR op_isN (pv 0) pe_non (nomark _)))) pss_nil)
      (pss_cons (ps_if (pt_val (pe_callB call_isi (by rfl) m_isinstance (by decide +kernel) (pa_cons (pv 1) (pa_cons (pe_bltn (by rfl) m_bool (by decide +kernel) (v := .ty "bool") rfl) pa_nil)))) (pss_one (ps_ret (pe_and (pe_callB call_isi (by rfl) m_isinstance (by decide +kernel) (pa_cons (pv 0) (pa_cons (pe_bltn (by rfl) m_bool (by decide +kernel) (v := .ty "bool") rfl) pa_nil))) (pe_one (pe_cmpR op_eq (pv 0) (pv 1) (nomark _)))))) pss_nil)
      (pss_cons (ps_if (pt_val (pe_callB call_isi (by rfl) m_isinstance (by decide +kernel) (pa_cons (pv 1) (pa_cons (pe_bltn (by rfl) m_int (by decide +kernel) (v := .ty "int") rfl) pa_nil)))) (pss_one (ps_ret (pe_and (pe_callB call_isi (by rfl) m_isinstance (by decide +kernel) (pa_cons (pv 0) (pa_cons (pe_bltn (by rfl) m_int (by decide +kernel) (v := .ty "int") rfl) pa_nil))) (pe_and (pe_not (pe_callB call_isi (by rfl) m_isinstance (by decide +kernel) (pa_cons (pv 0) (pa_cons (pe_bltn (by rfl) m_bool (by decide +kernel) (v := .ty "bool") rfl) pa_nil)))) (pe_one (pe_cmpR op_eq (pv 0) (pv 1) (nomark _))))))) pss_nil)
      (pss_cons (ps_if (pt_val (pe_callB call_isi (by rfl) m_isinstance (by decide +kernel) (pa_cons (pv 1) (pa_cons (pe_bltn (by rfl) m_str (by decide +kernel) (v := .ty "str") rfl) pa_nil)))) (pss_one (ps_ret (pe_and (pe_callB call_isi (by rfl) m_isinstance (by decide +kernel) (pa_cons (pv 0) (pa_cons (pe_bltn (by rfl) m_str (by decide +kernel) (v := .ty "str") rfl) pa_nil))) (pe_one (pe_cmpR op_eq (pv 0) (pv 1) (nomark _)))))) pss_nil)
      (pss_cons (ps_if (PW.pt (pw_and (pt_val (pe_callB call_isi (by rfl) m_isinstance (by decide +kernel) (pa_cons (pv 1) (pa_cons (pe_bltn (by rfl) m_list (by decide +kernel) (v := .ty "list") rfl) pa_nil)))) (pw_and1 (pt_not (pt_val (pe_callB call_isi (by rfl) m_isinstance (by decide +kernel) (pa_cons (pv 0) (pa_cons (pe_bltn (by rfl) m_list (by decide +kernel) (v := .ty "list") rfl) pa_nil)))))))) (pss_one (ps_ret pe_bl)) pss_nil)
      (pss_cons (ps_if (PW.pt (pw_and (pt_val (pe_callB call_isi (by rfl) m_isinstance (by decide +kernel) (pa_cons (pv 1) (pa_cons (pe_bltn (by rfl) m_tuple (by decide +kernel) (v := .ty "tuple") rfl) pa_nil)))) (pw_and1 (pt_not (pt_val (pe_callB call_isi (by rfl) m_isinstance (by decide +kernel) (pa_cons (pv 0) (pa_cons (pe_bltn (by rfl) m_tuple (by decide +kernel) (v := .ty "tuple") rfl) pa_nil)))))))) (pss_one (ps_ret pe_bl)) pss_nil)
      (pss_cons (ps_if (pt_cmpR op_ne (pe_callB call_len_seq (by rfl) m_len (by decide +kernel) (pa_cons (pv 0) pa_nil)) (pe_callB call_len_seq (by rfl) m_len (by decide +kernel) (pa_cons (pv 1) pa_nil)) (nomark _)) (pss_one (ps_ret pe_bl)) pss_nil)
      (pss_cons ps_never
      (pss_one (ps_ret pe_bl)))))))))), ?_⟩
      rcases hs with ⟨i, rfl, rfl⟩ | ⟨z, rfl, rfl⟩ | ⟨c, rfl, rfl⟩
      · refine ⟨.int i, rfl, rfl, _, rfl, ite2 (fun e => absurd (of_decide_eq_true e) (fun z => nomatch z)) (fun _ => ?_)⟩
        refine ⟨.int i, rfl, .int i, .ty "bool", .type "int", .type "bool", false, rfl, .ty _, .base (.int i), kit_ty (by decide +kernel), _, rfl, iteF ?_⟩
        refine ⟨.int i, rfl, .int i, .ty "int", .type "int", .type "int", true, rfl, .ty _, .base (.int i), kit_ty (by decide +kernel), _, rfl, iteT ?_⟩
        refine ⟨.int i, rfl, .int i, .ty "int", .type "int", .type "int", true, rfl, .ty _, .base (.int i), kit_ty (by decide +kernel), _, rfl, iteT ⟨.int i, rfl, .int i, .ty "bool", .type "int", .type "bool", false, rfl, .ty _, .base (.int i), kit_ty (by decide +kernel), _, rfl, _, rfl, iteT ⟨.int i, rfl, .int i, rfl, rfl, (show Q (.bl (decide (V.int i = V.int i))) _ from by rw [decide_eq_true (rfl : V.int i = V.int i)]; exact q)⟩⟩⟩
      · refine ⟨.str z, rfl, rfl, _, rfl, ite2 (fun e => absurd (of_decide_eq_true e) (fun z => nomatch z)) (fun _ => ?_)⟩
        refine ⟨.str z, rfl, .str z, .ty "bool", .type "str", .type "bool", false, rfl, .ty _, .base (.str z), kit_ty (by decide +kernel), _, rfl, iteF ?_⟩
        refine ⟨.str z, rfl, .str z, .ty "int", .type "str", .type "int", false, rfl, .ty _, .base (.str z), kit_ty (by decide +kernel), _, rfl, iteF ?_⟩
        refine ⟨.str z, rfl, .str z, .ty "str", .type "str", .type "str", true, rfl, .ty _, .base (.str z), kit_ty (by decide +kernel), _, rfl, iteT ?_⟩
        exact ⟨.str z, rfl, .str z, .ty "str", .type "str", .type "str", true, rfl, .ty _, .base (.str z), kit_ty (by decide +kernel), _, rfl, iteT ⟨.str z, rfl, .str z, rfl, rfl, (show Q (.bl (decide (V.str z = V.str z))) _ from by rw [decide_eq_true (rfl : V.str z = V.str z)]; exact q)⟩⟩
      · refine ⟨.bl c, rfl, rfl, _, rfl, ite2 (fun e => absurd (of_decide_eq_true e) (fun z => nomatch z)) (fun _ => ?_)⟩
        exact ⟨.bl c, rfl, .bl c, .ty "bool", .type "bool", .type "bool", true, rfl, .ty _, .base (.bl c), kit_ty (by decide +kernel), _, rfl, iteT ⟨.bl c, rfl, .bl c, .ty "bool", .type "bool", .type "bool", true, rfl, .ty _, .base (.bl c), kit_ty (by decide +kernel), _, rfl, iteT ⟨.bl c, rfl, .bl c, rfl, rfl, (show Q (.bl (decide (V.bl c = V.bl c))) _ from by rw [decide_eq_true (rfl : V.bl c = V.bl c)]; exact q)⟩⟩⟩
    · refine ⟨_, (pss_cons (ps_if (pt_cmpR op_isN (pv 1) pe_non (nomark _)) (pss_one (ps_ret (pe_cmpR op_isN (pv 0) pe_non (nomark _)))) pss_nil)
      (pss_cons (ps_if (pt_val (pe_callB call_isi (by rfl) m_isinstance (by decide +kernel) (pa_cons (pv 1) (pa_cons (pe_bltn (by rfl) m_bool (by decide +kernel) (v := .ty "bool") rfl) pa_nil)))) (pss_one (ps_ret (pe_and (pe_callB call_isi (by rfl) m_isinstance (by decide +kernel) (pa_cons (pv 0) (pa_cons (pe_bltn (by rfl) m_bool (by decide +kernel) (v := .ty "bool") rfl) pa_nil))) (pe_one (pe_cmpR (op_eqD hr.units) (pv 0) (pv 1) (nomark _)))))) pss_nil)
      (pss_cons (ps_if (pt_val (pe_callB call_isi (by rfl) m_isinstance (by decide +kernel) (pa_cons (pv 1) (pa_cons (pe_bltn (by rfl) m_int (by decide +kernel) (v := .ty "int") rfl) pa_nil)))) (pss_one (ps_ret (pe_and (pe_callB call_isi (by rfl) m_isinstance (by decide +kernel) (pa_cons (pv 0) (pa_cons (pe_bltn (by rfl) m_int (by decide +kernel) (v := .ty "int") rfl) pa_nil))) (pe_and (pe_not (pe_callB call_isi (by rfl) m_isinstance (by decide +kernel) (pa_cons (pv 0) (pa_cons (pe_bltn (by rfl) m_bool (by decide +kernel) (v := .ty "bool") rfl) pa_nil)))) (pe_one (pe_cmpR (op_eqD hr.units) (pv 0) (pv 1) (nomark _))))))) pss_nil)
      (pss_cons (ps_if (pt_val (pe_callB call_isi (by rfl) m_isinstance (by decide +kernel) (pa_cons (pv 1) (pa_cons (pe_bltn (by rfl) m_str (by decide +kernel) (v := .ty "str") rfl) pa_nil)))) (pss_one (ps_ret (pe_and (pe_callB call_isi (by rfl) m_isinstance (by decide +kernel) (pa_cons (pv 0) (pa_cons (pe_bltn (by rfl) m_str (by decide +kernel) (v := .ty "str") rfl) pa_nil))) (pe_one (pe_cmpR (op_eqD hr.units) (pv 0) (pv 1) (nomark _)))))) pss_nil)
      (pss_cons (ps_if (PW.pt (pw_and (pt_val (pe_callB call_isi (by rfl) m_isinstance (by decide +kernel) (pa_cons (pv 1) (pa_cons (pe_bltn (by rfl) m_list (by decide +kernel) (v := .ty "list") rfl) pa_nil)))) (pw_and1 (pt_not (pt_val (pe_callB call_isi (by rfl) m_isinstance (by decide +kernel) (pa_cons (pv 0) (pa_cons (pe_bltn (by rfl) m_list (by decide +kernel) (v := .ty "list") rfl) pa_nil)))))))) (pss_one (ps_ret pe_bl)) pss_nil)
      (pss_cons (ps_if (PW.pt (pw_and (pt_val (pe_callB call_isi (by rfl) m_isinstance (by decide +kernel) (pa_cons (pv 1) (pa_cons (pe_bltn (by rfl) m_tuple (by decide +kernel) (v := .ty "tuple") rfl) pa_nil)))) (pw_and1 (pt_not (pt_val (pe_callB call_isi (by rfl) m_isinstance (by decide +kernel) (pa_cons (pv 0) (pa_cons (pe_bltn (by rfl) m_tuple (by decide +kernel) (v := .ty "tuple") rfl) pa_nil)))))))) (pss_one (ps_ret pe_bl)) pss_nil)
      (pss_cons (ps_if (pt_cmpR op_ne (pe_callB call_len_seq (by rfl) m_len (by decide +kernel) (pa_cons (pv 0) pa_nil)) (pe_callB call_len_seq (by rfl) m_len (by decide +kernel) (pa_cons (pv 1) pa_nil)) (nomark _)) (pss_one (ps_ret pe_bl)) pss_nil)
      (pss_cons (ps_for (passes_of rfl) rfl (pi_range1 rfl m_range (pa_cons (pe_callB call_len_seq (by rfl) m_len (by decide +kernel) (pa_cons (pv 1) pa_nil)) pa_nil)) (pg_name (i := 2) law_same_sc.nd rfl (Or.inl rfl))
      (pss_one (ps_if (pt_not (pt_val (pe_call D_law_same.ok hr rfl D_law_same.g D_law_same.kp D_law_same.b .nil ErrX.passN (pa_cons (pe_ix ix_list (pv 0) (pv 2) (fun _ _ => rfl)) (pa_cons (pe_ix ix_list (pv 1) (pv 2) (fun _ _ => rfl)) pa_nil))))) (pss_one (ps_ret pe_bl)) pss_nil)))
      (pss_one (ps_ret pe_bl)))))))))), ?_⟩
      refine ⟨.ref b, rfl, rfl, _, rfl, ite2 (fun e => absurd (of_decide_eq_true e) (fun z => nomatch z)) (fun _ => ?_)⟩
      refine ⟨.ref b, rfl, .ref b, .ty "bool", .type "list", .type "bool", false, rfl, .ty _, .base (.lst hb), kit_ty (by decide +kernel), _, rfl, iteF ?_⟩
      refine ⟨.ref b, rfl, .ref b, .ty "int", .type "list", .type "int", false, rfl, .ty _, .base (.lst hb), kit_ty (by decide +kernel), _, rfl, iteF ?_⟩
      refine ⟨.ref b, rfl, .ref b, .ty "str", .type "list", .type "str", false, rfl, .ty _, .base (.lst hb), kit_ty (by decide +kernel), _, rfl, iteF ?_⟩
      refine ⟨.ref b, rfl, .ref b, .ty "list", .type "list", .type "list", true, rfl, .ty _, .base (.lst hb), kit_ty (by decide +kernel), _, rfl, iteT ⟨.ref a, rfl, .ref a, .ty "list", .type "list", .type "list", true, rfl, .ty _, .base (.lst ha), kit_ty (by decide +kernel), _, rfl, iteF ?_⟩⟩
      refine ⟨.ref b, rfl, .ref b, .ty "tuple", .type "list", .type "tuple", false, rfl, .ty _, .base (.lst hb), kit_ty (by decide +kernel), _, rfl, iteF (iteF ?_)⟩
      refine ⟨.ref a, rfl, a, xs, rfl, .inl (sq ha), .ref b, rfl, b, ys, rfl, .inl (sq hb), rfl, _, rfl, ite2 (fun e => ?_) (fun _ => ?_)⟩
      · rw [hl, decide_eq_true (rfl : V.int (ys.length : Int) = V.int (ys.length : Int))] at e
        cases e
      · refine ⟨.ref b, rfl, b, ys, rfl, .inl (sq hb), _, rfl, by omega, by omega, ?_⟩
        rw [Int.toNat_natCast]
        refine for_range (lo := 0) (n := ys.length) (fun i σ H' => ∃ y2 : Option V, σ = [some (.ref a), some (.ref b), y2] ∧ H' = H) ⟨none, rfl, rfl⟩ (fun i σ H' hi g => ?_) (fun σ H' g => ?_)
        · obtain ⟨y2, rfl, rfl⟩ := g
          rw [int_nV]
          have g1 : xs[i]? = some (xs[i]'(by omega)) := List.getElem?_eq_getElem (by omega)
          have g2 : ys[i]? = some ys[i] := List.getElem?_eq_getElem hi
          refine ⟨.ref a, rfl, nV i, rfl, a, xs, (i : Int), _, rfl, rfl, sq ha, atI_nat g1, .ref b, rfl, nV i, rfl, b, ys, (i : Int), _, rfl, rfl, sq hb, atI_nat g2, _, _, rfl, hd i _ _ g1 g2, _, rfl, iteF ⟨_, rfl, rfl⟩⟩
        · obtain ⟨y2, rfl, rfl⟩ := g
          exact q
    · refine ⟨_, (pss_cons (ps_if (pt_cmpR op_isN (pv 1) pe_non (nomark _)) (pss_one (ps_ret (pe_cmpR op_isN (pv 0) pe_non (nomark _)))) pss_nil)
      (pss_cons (ps_if (pt_val (pe_callB call_isi (by rfl) m_isinstance (by decide +kernel) (pa_cons (pv 1) (pa_cons (pe_bltn (by rfl) m_bool (by decide +kernel) (v := .ty "bool") rfl) pa_nil)))) (pss_one (ps_ret (pe_and (pe_callB call_isi (by rfl) m_isinstance (by decide +kernel) (pa_cons (pv 0) (pa_cons (pe_bltn (by rfl) m_bool (by decide +kernel) (v := .ty "bool") rfl) pa_nil))) (pe_one (pe_cmpR (op_eqD hr.units) (pv 0) (pv 1) (nomark _)))))) pss_nil)
      (pss_cons (ps_if (pt_val (pe_callB call_isi (by rfl) m_isinstance (by decide +kernel) (pa_cons (pv 1) (pa_cons (pe_bltn (by rfl) m_int (by decide +kernel) (v := .ty "int") rfl) pa_nil)))) (pss_one (ps_ret (pe_and (pe_callB call_isi (by rfl) m_isinstance (by decide +kernel) (pa_cons (pv 0) (pa_cons (pe_bltn (by rfl) m_int (by decide +kernel) (v := .ty "int") rfl) pa_nil))) (pe_and (pe_not (pe_callB call_isi (by rfl) m_isinstance (by decide +kernel) (pa_cons (pv 0) (pa_cons (pe_bltn (by rfl) m_bool (by decide +kernel) (v := .ty "bool") rfl) pa_nil)))) (pe_one (pe_cmpR (op_eqD hr.units) (pv 0) (pv 1) (nomark _))))))) pss_nil)
      (pss_cons (ps_if (pt_val (pe_callB call_isi (by rfl) m_isinstance (by decide +kernel) (pa_cons (pv 1) (pa_cons (pe_bltn (by rfl) m_str (by decide +kernel) (v := .ty "str") rfl) pa_nil)))) (pss_one (ps_ret (pe_and (pe_callB call_isi (by rfl) m_isinstance (by decide +kernel) (pa_cons (pv 0) (pa_cons (pe_bltn (by rfl) m_str (by decide +kernel) (v := .ty "str") rfl) pa_nil))) (pe_one (pe_cmpR (op_eqD hr.units) (pv 0) (pv 1) (nomark _)))))) pss_nil)
      (pss_cons (ps_if (PW.pt (pw_and (pt_val (pe_callB call_isi (by rfl) m_isinstance (by decide +kernel) (pa_cons (pv 1) (pa_cons (pe_bltn (by rfl) m_list (by decide +kernel) (v := .ty "list") rfl) pa_nil)))) (pw_and1 (pt_not (pt_val (pe_callB call_isi (by rfl) m_isinstance (by decide +kernel) (pa_cons (pv 0) (pa_cons (pe_bltn (by rfl) m_list (by decide +kernel) (v := .ty "list") rfl) pa_nil)))))))) (pss_one (ps_ret pe_bl)) pss_nil)
      (pss_cons (ps_if (PW.pt (pw_and (pt_val (pe_callB call_isi (by rfl) m_isinstance (by decide +kernel) (pa_cons (pv 1) (pa_cons (pe_bltn (by rfl) m_tuple (by decide +kernel) (v := .ty "tuple") rfl) pa_nil)))) (pw_and1 (pt_not (pt_val (pe_callB call_isi (by rfl) m_isinstance (by decide +kernel) (pa_cons (pv 0) (pa_cons (pe_bltn (by rfl) m_tuple (by decide +kernel) (v := .ty "tuple") rfl) pa_nil)))))))) (pss_one (ps_ret pe_bl)) pss_nil)
      (pss_cons (ps_if (pt_cmpR op_ne (pe_callB call_len_seq (by rfl) m_len (by decide +kernel) (pa_cons (pv 0) pa_nil)) (pe_callB call_len_seq (by rfl) m_len (by decide +kernel) (pa_cons (pv 1) pa_nil)) (nomark _)) (pss_one (ps_ret pe_bl)) pss_nil)
      (pss_cons (ps_for (passes_of rfl) rfl (pi_range1 rfl m_range (pa_cons (pe_callB call_len_seq (by rfl) m_len (by decide +kernel) (pa_cons (pv 1) pa_nil)) pa_nil)) (pg_name (i := 2) law_same_sc.nd rfl (Or.inl rfl))
      (pss_one (ps_if (pt_not (pt_val (pe_call D_law_same.ok hr rfl D_law_same.g D_law_same.kp D_law_same.b .nil ErrX.passN (pa_cons (pe_ix ix_tup (pv 0) (pv 2) (fun _ _ => rfl)) (pa_cons (pe_ix ix_tup (pv 1) (pv 2) (fun _ _ => rfl)) pa_nil))))) (pss_one (ps_ret pe_bl)) pss_nil)))
      (pss_one (ps_ret pe_bl)))))))))), ?_⟩
      refine ⟨.ref b, rfl, rfl, _, rfl, ite2 (fun e => absurd (of_decide_eq_true e) (fun z => nomatch z)) (fun _ => ?_)⟩
      refine ⟨.ref b, rfl, .ref b, .ty "bool", .type "tuple", .type "bool", false, rfl, .ty _, .base (.tup hb), kit_ty (by decide +kernel), _, rfl, iteF ?_⟩
      refine ⟨.ref b, rfl, .ref b, .ty "int", .type "tuple", .type "int", false, rfl, .ty _, .base (.tup hb), kit_ty (by decide +kernel), _, rfl, iteF ?_⟩
      refine ⟨.ref b, rfl, .ref b, .ty "str", .type "tuple", .type "str", false, rfl, .ty _, .base (.tup hb), kit_ty (by decide +kernel), _, rfl, iteF ?_⟩
      refine ⟨.ref b, rfl, .ref b, .ty "list", .type "tuple", .type "list", false, rfl, .ty _, .base (.tup hb), kit_ty (by decide +kernel), _, rfl, iteF (iteF ?_)⟩
      refine ⟨.ref b, rfl, .ref b, .ty "tuple", .type "tuple", .type "tuple", true, rfl, .ty _, .base (.tup hb), kit_ty (by decide +kernel), _, rfl, iteT ⟨.ref a, rfl, .ref a, .ty "tuple", .type "tuple", .type "tuple", true, rfl, .ty _, .base (.tup ha), kit_ty (by decide +kernel), _, rfl, iteF ?_⟩⟩
      refine ⟨.ref a, rfl, a, xs, rfl, .inr (sqt ha), .ref b, rfl, b, ys, rfl, .inr (sqt hb), rfl, _, rfl, ite2 (fun e => ?_) (fun _ => ?_)⟩
      · rw [hl, decide_eq_true (rfl : V.int (ys.length : Int) = V.int (ys.length : Int))] at e
        cases e
      · refine ⟨.ref b, rfl, b, ys, rfl, .inr (sqt hb), _, rfl, by omega, by omega, ?_⟩
        rw [Int.toNat_natCast]
        refine for_range (lo := 0) (n := ys.length) (fun i σ H' => ∃ y2 : Option V, σ = [some (.ref a), some (.ref b), y2] ∧ H' = H) ⟨none, rfl, rfl⟩ (fun i σ H' hi g => ?_) (fun σ H' g => ?_)
        · obtain ⟨y2, rfl, rfl⟩ := g
          rw [int_nV]
          have g1 : xs[i]? = some (xs[i]'(by omega)) := List.getElem?_eq_getElem (by omega)
          have g2 : ys[i]? = some ys[i] := List.getElem?_eq_getElem hi
          refine ⟨.ref a, rfl, nV i, rfl, a, xs, (i : Int), _, rfl, rfl, sqt ha, atI_nat g1, .ref b, rfl, nV i, rfl, b, ys, (i : Int), _, rfl, rfl, sqt hb, atI_nat g2, _, _, rfl, hd i _ _ g1 g2, _, rfl, iteF ⟨_, rfl, rfl⟩⟩
        · obtain ⟨y2, rfl, rfl⟩ := g
          exact q
theorem ok_same (F : FnS K "_law_same" law_same_st f fd) (m_bool : mg "bool" = none) (m_len : mg "len" = none) (m_isinstance : mg "isinstance" = none) (m_int : mg "int" = none) (m_tuple : mg "tuple" = none) (m_range : mg "range" = none) (m_list : mg "list" = none) (m_str : mg "str" = none) (g : mg "_law_same" = some (.ref f)) (kp : PySem.W.keepIn K (.ref f) = true) (b : Binds K fd ["told", "due"] []) : ∀ k, Dn P w K mg base (k + 1) "_law_same" ["told", "due"] (spSame k) f fd
  | 0 => ⟨ok_same0 F m_bool m_len m_isinstance m_int m_tuple m_range m_list m_str, g, kp, b⟩
  | k + 1 => ⟨ok_sameS F m_bool m_len m_isinstance m_int m_tuple m_range m_list m_str (ok_same F m_bool m_len m_isinstance m_int m_tuple m_range m_list m_str g kp b k), g, kp, b⟩
end
end K05
set_option Elab.async false
set_option linter.all false
set_option maxRecDepth 100000
set_option maxHeartbeats 4000000
namespace K05
open PySem PySem.Spec PyProof.Rows L2
/-- data: a flat value, a list (false) or tuple (true) -/
inductive Dt where
  | lf (v : V)
  | nd (b : Bool) (ds : List Dt)
def Leaf (v : V) : Prop := (∃ i, v = .int i) ∨ (∃ z, v = .str z) ∨ ∃ c, v = .bl c
def seqO (b : Bool) (xs : List V) : HO := if b then .tup xs else .lst xs
/-- v stands for the data d, k deep -/
inductive Rep (F : Addr → Prop) (H : Hp) : Nat → V → Dt → Prop
  | lf {k : Nat} {v : V} (h : Leaf v) : Rep F H k v (.lf v)
  | nd {k : Nat} {a : Addr} {b : Bool} {xs : List V} {ds : List Dt} (h : H a = some (seqO b xs)) (f : b = false → F a) (l : xs.length = ds.length) (s : xs.length ≤ 100) (r : ∀ (i : Nat) (u : V) (d : Dt), xs[i]? = some u → ds[i]? = some d → Rep F H k u d) : Rep F H (k + 1) (.ref a) (.nd b ds)
theorem Rep.keep {F : Addr → Prop} {H H' : Hp} (e : Same H H') : ∀ {k : Nat} {v : V} {d : Dt}, Rep F H k v d → Rep F H' k v d := by
  intro k v d h
  induction h with
  | lf h => exact .lf h
  | nd h f l s r ih => exact .nd (e _ _ h) f l s ih
theorem sm_of {F G : Addr → Prop} {H : Hp} : ∀ {k : Nat} {x : V} {d : Dt}, Rep F H k x d → ∀ {y : V}, Rep G H k y d → Sm k H x y := by
  intro k x d h
  induction h with
  | @lf k v h =>
    intro y h'
    cases h' with
    | lf h' =>
      have e : (∃ i, v = .int i ∧ v = .int i) ∨ (∃ z, v = .str z ∧ v = .str z) ∨ ∃ c, v = .bl c ∧ v = .bl c := by
        rcases h with ⟨i, h⟩ | ⟨z, h⟩ | ⟨c, h⟩
        · exact .inl ⟨i, h, h⟩
        · exact .inr (.inl ⟨z, h, h⟩)
        · exact .inr (.inr ⟨c, h, h⟩)
      cases k with
      | zero => exact e
      | succ k => exact .inl e
  | @nd k a b xs ds h f l s r ih =>
    intro y h'
    cases h' with
    | @nd _ a' _ ys _ h1 f1 l1 s1 r1 =>
      refine .inr ⟨a, a', xs, ys, rfl, rfl, ?_, by rw [l, l1], s, fun i u v hu hv => ?_⟩
      · cases b with
        | true => exact .inr ⟨h, h1⟩
        | false => exact .inl ⟨h, h1⟩
      · have hi : i < ds.length := by
          have := (List.getElem?_eq_some_iff.mp hu).1
          omega
        have hd := List.getElem?_eq_getElem hi
        exact ih i u _ hu hd (r1 i v _ hv hd)
/-- item by item -/
def Reps (F : Addr → Prop) (H : Hp) (k : Nat) (xs : List V) (ds : List Dt) : Prop := xs.length = ds.length ∧ ∀ (i : Nat) (u : V) (d : Dt), xs[i]? = some u → ds[i]? = some d → Rep F H k u d
theorem Reps.nil {F : Addr → Prop} {H : Hp} {k : Nat} : Reps F H k [] [] := ⟨rfl, fun i u d h => by cases i <;> cases h⟩
theorem Reps.cons {F : Addr → Prop} {H : Hp} {k : Nat} {x : V} {xs : List V} {d : Dt} {ds : List Dt} (h : Rep F H k x d) (r : Reps F H k xs ds) : Reps F H k (x :: xs) (d :: ds) := by
  refine ⟨by rw [List.length_cons, List.length_cons, r.1], fun i u e h1 h2 => ?_⟩
  cases i with
  | zero =>
    cases h1
    cases h2
    exact h
  | succ i => exact r.2 i u e h1 h2
theorem Reps.append {F : Addr → Prop} {H : Hp} {k : Nat} {xs ys : List V} {ds es : List Dt} (h : Reps F H k xs ds) (r : Reps F H k ys es) : Reps F H k (xs ++ ys) (ds ++ es) := by
  refine ⟨by rw [List.length_append, List.length_append, h.1, r.1], fun i u d h1 h2 => ?_⟩
  by_cases c : i < xs.length
  · rw [List.getElem?_append_left c] at h1
    rw [List.getElem?_append_left (by rw [← h.1]; exact c)] at h2
    exact h.2 i u d h1 h2
  · rw [List.getElem?_append_right (by omega)] at h1
    rw [List.getElem?_append_right (by rw [← h.1]; omega), ← h.1] at h2
    exact r.2 _ u d h1 h2
theorem Reps.snoc {F : Addr → Prop} {H : Hp} {k : Nat} {xs : List V} {ds : List Dt} {x : V} {d : Dt} (h : Reps F H k xs ds) (r : Rep F H k x d) : Reps F H k (xs ++ [x]) (ds ++ [d]) := h.append (.cons r .nil)
theorem Reps.keep {F : Addr → Prop} {H H' : Hp} {k : Nat} {xs : List V} {ds : List Dt} (h : Reps F H k xs ds) (e : Same H H') : Reps F H' k xs ds := ⟨h.1, fun i u d h1 h2 => (h.2 i u d h1 h2).keep e⟩
theorem Rep.lst {F : Addr → Prop} {H : Hp} {k : Nat} {a : Addr} {xs : List V} {ds : List Dt} (h : H a = some (.lst xs)) (f : F a) (r : Reps F H k xs ds) (s : xs.length ≤ 100) : Rep F H (k + 1) (.ref a) (.nd false ds) := .nd h (fun _ => f) r.1 s r.2
theorem Rep.tup {F : Addr → Prop} {H : Hp} {k : Nat} {a : Addr} {xs : List V} {ds : List Dt} (h : H a = some (.tup xs)) (r : Reps F H k xs ds) (s : xs.length ≤ 100) : Rep F H (k + 1) (.ref a) (.nd true ds) := .nd h (fun z => nomatch z) r.1 s r.2
theorem Rep.int {F : Addr → Prop} {H : Hp} {k : Nat} {i : Int} : Rep F H k (.int i) (.lf (.int i)) := .lf (.inl ⟨i, rfl⟩)
theorem Rep.str {F : Addr → Prop} {H : Hp} {k : Nat} {z : Str} : Rep F H k (.str z) (.lf (.str z)) := .lf (.inr (.inl ⟨z, rfl⟩))
theorem Rep.bl {F : Addr → Prop} {H : Hp} {k : Nat} {c : Bool} : Rep F H k (.bl c) (.lf (.bl c)) := .lf (.inr (.inr ⟨c, rfl⟩))
theorem Rep.imp {F G : Addr → Prop} {H : Hp} (e : ∀ a, F a → G a) : ∀ {k : Nat} {v : V} {d : Dt}, Rep F H k v d → Rep G H k v d := by
  intro k v d h
  induction h with
  | lf h => exact .lf h
  | nd h f l s r ih => exact .nd h (fun z => e _ (f z)) l s ih
theorem Reps.imp {F G : Addr → Prop} {H : Hp} {k : Nat} {xs : List V} {ds : List Dt} (h : Reps F H k xs ds) (e : ∀ a, F a → G a) : Reps G H k xs ds := ⟨h.1, fun i u d h1 h2 => (h.2 i u d h1 h2).imp e⟩
/-- a list that is none of them changes -/
theorem Rep.set {F : Addr → Prop} {H : Hp} {T : Addr} {us vs : List V} (hT : H T = some (.lst us)) (n : ¬ F T) : ∀ {k : Nat} {v : V} {d : Dt}, Rep F H k v d → Rep F (upd H T (.lst vs)) k v d := by
  intro k v d h
  induction h with
  | lf h => exact .lf h
  | @nd k a b xs ds h f l s r ih =>
    refine .nd ?_ f l s ih
    rw [upd_ne]
    · exact h
    · intro e
      subst e
      cases b with
      | true =>
        rw [hT] at h
        cases h
      | false => exact n (f rfl)
theorem Reps.set {F : Addr → Prop} {H : Hp} {k : Nat} {T : Addr} {us vs : List V} {xs : List V} {ds : List Dt} (h : Reps F H k xs ds) (hT : H T = some (.lst us)) (n : ¬ F T) : Reps F (upd H T (.lst vs)) k xs ds := ⟨h.1, fun i u d h1 h2 => (h.2 i u d h1 h2).set hT n⟩
def dNt (x : Nat) : Dt := .lf (nV x)
theorem reps_nV {F : Addr → Prop} {H : Hp} {k : Nat} : ∀ ns : List Nat, Reps F H k (ns.map nV) (ns.map dNt)
  | [] => .nil
  | n :: ns => .cons Rep.int (reps_nV ns)
def dP (p : Nat × Nat) : Dt := .nd true [dNt p.1, dNt p.2]
theorem rep_z {F : Addr → Prop} {H : Hp} {k : Nat} {z : Z} (h : H z.1 = some (prV z)) : Rep F H (k + 1) (zV z) (dP z.2) := Rep.tup h (.cons Rep.int (.cons Rep.int .nil)) (by show 2 ≤ 100; decide)
theorem reps_z {F : Addr → Prop} {H : Hp} {k : Nat} : ∀ {zs : List Z}, PrZ H zs → Reps F H (k + 1) (zs.map zV) ((zs.map (·.2)).map dP)
  | [], _ => .nil
  | z :: zs, h => .cons (rep_z (h z List.mem_cons_self)) (reps_z fun y hy => h y (List.mem_cons_of_mem _ hy))
def dPc (p : List Nat × List Nat) : Dt := .nd true [.nd false (p.1.map dNt), .nd false (p.2.map dNt)]
theorem rep_pc {F : Addr → Prop} {H : Hp} {k : Nat} {z : P4} (h : PcAt H z.t z.o z.u z.d.1 z.d.2) (f1 : F z.o) (f2 : F z.u) (l1 : z.d.1.length ≤ 100) (l2 : z.d.2.length ≤ 100) : Rep F H (k + 2) (pV z) (dPc z.d) :=
  Rep.tup h.ht (.cons (Rep.lst h.ho f1 (reps_nV _) (by rw [List.length_map]; exact l1)) (.cons (Rep.lst h.hu f2 (reps_nV _) (by rw [List.length_map]; exact l2)) .nil)) (by show 2 ≤ 100; decide)
theorem reps_pc {F : Addr → Prop} {H : Hp} {k : Nat} : ∀ {ws : List P4}, PcZ H ws → (∀ z ∈ ws, (F z.o ∧ F z.u) ∧ z.d.1.length ≤ 100 ∧ z.d.2.length ≤ 100) → Reps F H (k + 2) (ws.map pV) ((ws.map P4.d).map dPc)
  | [], _, _ => .nil
  | z :: zs, h, l => .cons (rep_pc (h z List.mem_cons_self) (l z List.mem_cons_self).1.1 (l z List.mem_cons_self).1.2 (l z List.mem_cons_self).2.1 (l z List.mem_cons_self).2.2) (reps_pc (fun y hy => h y (List.mem_cons_of_mem _ hy)) fun y hy => l y (List.mem_cons_of_mem _ hy))
/-! ### the answers as data -/
def dTold (x : Dt) : Dt := .nd true [.lf (.str "told"), x]
def dRef (w : Str) (x : Dt) : Dt := .nd true [.lf (.str "refused"), .lf (.str w), x]
def dInt (x : Int) : Dt := .lf (.int x)
def custP (ps : List (Nat × Nat)) (e : Int) : List Nat := (ps.filter fun p => decide ((p.1 : Int) = e)).map (·.2)
def depsP (ps : List (Nat × Nat)) (b : Int) : List Nat := (ps.filter fun p => decide ((p.2 : Int) = b)).map (·.1)
theorem custP_eq (zs : List Z) (e : Int) : custs zs e = custP (zs.map (·.2)) e := by
  unfold custs custP
  rw [List.filter_map, List.map_map]
  rfl
theorem depsP_eq (zs : List Z) (e : Int) : deps zs e = depsP (zs.map (·.2)) e := by
  unfold deps depsP
  rw [List.filter_map, List.map_map]
  rfl
def cuD (m : Nat) (ps : List (Nat × Nat)) (e : Int) : Dt := if 0 ≤ e ∧ e < (m : Int) then dTold (.nd false ((custP ps e).map dNt)) else dRef "NoDepot" (dInt e)
def deD (n : Nat) (ps : List (Nat × Nat)) (e : Int) : Dt := if 0 ≤ e ∧ e < (n : Int) then dTold (.nd false ((depsP ps e).map dNt)) else dRef "NoCustomer" (dInt e)
def ixD (m n : Nat) (ps : List (Nat × Nat)) (q : Int × Int) : Dt :=
  if 0 ≤ q.1 ∧ q.1 < (m : Int) then if 0 ≤ q.2 ∧ q.2 < (n : Int) then match fx ps q.1 q.2 with
    | some i => dTold (dNt i)
    | none => dRef "NoRoute" (.nd true [dInt q.1, dInt q.2])
  else dRef "NoCustomer" (dInt q.2) else dRef "NoDepot" (dInt q.1)
def inD (ps : List (Nat × Nat)) (q : Int × Int) : Dt := .lf (.bl (fx ps q.1 q.2).isSome)
def reD (m n : Nat) (ps : List (Nat × Nat)) (ns : List Int) : Dt := match due m ns with
  | some (b, x) => dRef (wrd b) (dInt x)
  | none => dTold (.nd false ((rch n ps ns).map dNt))
/-- an answer, and that the list in it is new -/
def AnsF (H0 H : Hp) (v : V) : Prop := (∃ c, v = .bl c) ∨ ∃ (t : Addr) (w x : V) (rest : List V), v = .ref t ∧ H t = some (.tup (w :: x :: rest)) ∧ ((∃ i, x = .int i) ∨ (∃ z, x = .str z) ∨ ∃ (L : Addr) (xs : List V), x = .ref L ∧ H0 L = none ∧ H L = some (.lst xs) ∧ xs.length ≤ 100)
theorem AnsF.keep {H0 H H' : Hp} {v : V} (h : AnsF H0 H v) (e : Same H H') : AnsF H0 H' v := by
  rcases h with h | ⟨t, w, x, rest, h1, h2, h3⟩
  · exact .inl h
  · refine .inr ⟨t, w, x, rest, h1, e _ _ h2, ?_⟩
    rcases h3 with h3 | h3 | ⟨L, xs, a, b, c, d⟩
    · exact .inl h3
    · exact .inr (.inl h3)
    · exact .inr (.inr ⟨L, xs, a, b, e _ _ c, d⟩)
theorem AnsF.from {H0 H1 H : Hp} {v : V} (h : AnsF H1 H v) (e : Same H0 H1) : AnsF H0 H v := by
  rcases h with h | ⟨t, w, x, rest, h1, h2, h3⟩
  · exact .inl h
  · refine .inr ⟨t, w, x, rest, h1, h2, ?_⟩
    rcases h3 with h3 | h3 | ⟨L, xs, a, b, c, d⟩
    · exact .inl h3
    · exact .inr (.inl h3)
    · exact .inr (.inr ⟨L, xs, a, e.back b, c, d⟩)
theorem AnsF.set {H0 H : Hp} {v : V} {T : Addr} {us vs : List V} (h : AnsF H0 H v) (hT : H T = some (.lst us)) (n : ∀ L, H0 L = none → ∀ xs, H L = some (.lst xs) → xs.length ≤ 100 → L ≠ T) : AnsF H0 (upd H T (.lst vs)) v := by
  rcases h with h | ⟨t, w, x, rest, h1, h2, h3⟩
  · exact .inl h
  · have ne : t ≠ T := fun e => by rw [e, hT] at h2; cases h2
    refine .inr ⟨t, w, x, rest, h1, by rw [upd_ne ne]; exact h2, ?_⟩
    rcases h3 with h3 | h3 | ⟨L, xs, a, b, c, d⟩
    · exact .inl h3
    · exact .inr (.inl h3)
    · exact .inr (.inr ⟨L, xs, a, b, by rw [upd_ne (n L b xs c d)]; exact c, d⟩)
/-- a new answer -/
def AnsQ (H : Hp) (Q : VK) (d : Dt) : Prop := ∀ (H' : Hp) (v : V), Same H H' → Rep (fun a => H a = none) H' 3 v d → AnsF H H' v → Q v H'
theorem ans_told {H H' : Hp} {t L : Addr} {ns : List Nat} (nL : H L = none) (ht : H' t = some (.tup [.str "told", .ref L])) (hL : H' L = some (.lst (ns.map nV))) (hl : ns.length ≤ 100) : Rep (fun a => H a = none) H' 3 (.ref t) (dTold (.nd false (ns.map dNt))) ∧ AnsF H H' (.ref t) :=
  ⟨Rep.tup ht (.cons Rep.str (.cons (Rep.lst hL nL (reps_nV _) (by rw [List.length_map]; exact hl)) .nil)) (by show 2 ≤ 100; decide), .inr ⟨t, _, _, _, rfl, ht, .inr (.inr ⟨L, _, rfl, nL, hL, by rw [List.length_map]; exact hl⟩)⟩⟩
theorem ans_int {H H' : Hp} {t : Addr} {i : Int} (ht : H' t = some (.tup [.str "told", .int i])) : Rep (fun a => H a = none) H' 3 (.ref t) (dTold (dInt i)) ∧ AnsF H H' (.ref t) :=
  ⟨Rep.tup ht (.cons Rep.str (.cons Rep.int .nil)) (by show 2 ≤ 100; decide), .inr ⟨t, _, _, _, rfl, ht, .inl ⟨i, rfl⟩⟩⟩
theorem ans_ref {H H' : Hp} {t : Addr} {w : Str} {x : V} {d : Dt} (ht : H' t = some (.tup [.str "refused", .str w, x])) (r : Rep (fun a => H a = none) H' 2 x d) : Rep (fun a => H a = none) H' 3 (.ref t) (dRef w d) ∧ AnsF H H' (.ref t) :=
  ⟨Rep.tup ht (.cons Rep.str (.cons Rep.str (.cons r .nil))) (by show 3 ≤ 100; decide), .inr ⟨t, _, _, _, rfl, ht, .inr (.inl ⟨w, rfl⟩)⟩⟩
end K05
set_option Elab.async false
set_option linter.all false
set_option maxRecDepth 100000
set_option maxHeartbeats 4000000
namespace K05
open PySem PySem.Spec PyProof.Rows L2
section
variable {P : Program} {w : World} {K : PySem.W.Frag} {mg : Str → Option Value} {base : Heap} {f : Addr} {fd : FuncData}
/-! ### _law_written -/
abbrev law_written_N : List Str := ["sizes", "rows", "out", "pair"]
theorem law_written_sc : FnScope ["sizes", "rows", "out", "pair"] ["sizes", "rows"] (defScope law_written_st) := ⟨rfl, rfl, rfl, by decide +kernel, rfl, by decide +kernel, by decide +kernel⟩
def spWritten : Sp := fun vs H Q _ => ∃ (ts a : Addr) (m n : Nat) (zs : List Z), vs = [.ref ts, .ref a] ∧ Sz H ts a m n zs ∧ zs.length ≤ 16 ∧ Q (.str (wrT m n (zs.map (·.2)))) H
theorem ok_written (F : FnS K "_law_written" law_written_st f fd) (m_str : mg "str" = none) : FnOk P w K mg base (L2N.CX P w) 1 f fd ["sizes", "rows"] spWritten := by
  refine F.ok law_written_sc (fun vs H Q E h => ?_) (fun cdv A outer s H vs Q E hr h => ?_)
  · obtain ⟨ts, a, m, n, zs, rfl, _⟩ := h
    rfl
  · obtain ⟨ts, a, m, n, zs, rfl, S, few, q⟩ := h
    have hs := S.hs
    have m8 := S.m8
    have n8 := S.n8
    have k1 := sI_ok m m8
    have k2 := sI_ok n n8
    have big := small1000 (show 100 ≤ 1000 by decide)
    have in8 : ∀ c ∈ zs.map (·.2), c.1 ≤ 8 ∧ c.2 ≤ 8 := fun c hc => by
      obtain ⟨z, hz, rfl⟩ := List.mem_map.mp hc
      have := S.inr z hz
      omega
    have l1 : (sI m ++ (" x " : Str)).length = 4 := by rw [len_app, k1.1]; rfl
    have l2 : ((sI m ++ (" x " : Str)) ++ sI n).length = 5 := by rw [len_app, l1, k2.1]
    have c1 : (":" : Str).length = 1 := by decide +kernel
    have c2 : (" x " : Str).length = 3 := by decide +kernel
    have c3 : (" " : Str).length = 1 := by decide +kernel
    have c4 : ("-" : Str).length = 1 := by decide +kernel
    refine ⟨_, (pss_cons (ps_set (i := 2) law_written_sc.nd rfl (Or.inl rfl) (pe_op op_add_str (pe_op op_add_str (pe_op op_add_str (pe_callTy call_str_int (by rfl) m_str (by decide +kernel) (pa_cons (pe_ix ix_tup (pv 0) pe_int (fun _ _ => rfl)) pa_nil)) pe_str) (pe_callTy call_str_int (by rfl) m_str (by decide +kernel) (pa_cons (pe_ix ix_tup (pv 0) pe_int (fun _ _ => rfl)) pa_nil))) pe_str))
      (pss_cons (ps_for (passes_of rfl) rfl (pi_list (pv 1)) (pg_name (i := 3) law_written_sc.nd rfl (Or.inl rfl))
      (pss_one (ps_set (i := 2) law_written_sc.nd rfl (Or.inl rfl) (pe_op op_add_str (pe_op op_add_str (pe_op op_add_str (pe_op op_add_str (pv 2) pe_str) (pe_callTy call_str_int (by rfl) m_str (by decide +kernel) (pa_cons (pe_ix ix_tup (pv 3) pe_int (fun _ _ => rfl)) pa_nil))) pe_str) (pe_callTy call_str_int (by rfl) m_str (by decide +kernel) (pa_cons (pe_ix ix_tup (pv 3) pe_int (fun _ _ => rfl)) pa_nil))))))
      (pss_one (ps_ret (pv 2))))), ?_⟩
    refine ⟨.ref ts, rfl, ts, _, 0, nV m, rfl, rfl, sqt hs, rfl, (m : Int), rfl, k1.2, sI m, (" x " : Str), rfl, rfl, by rw [k1.1, c2]; omega, ?_⟩
    refine ⟨.ref ts, rfl, ts, _, 1, nV n, rfl, rfl, sqt hs, rfl, (n : Int), rfl, k2.2, _, sI n, rfl, rfl, by rw [l1, k2.1]; omega, _, (":" : Str), rfl, rfl, by rw [l2, c1]; omega, ?_⟩
    refine ⟨.ref a, rfl, a, rfl, ⟨_, sq S.ha⟩, ?_⟩
    refine for_list (K := K) (a := a) (xs := zs.map zV) (fun j σ H' => ∃ y : Option V, σ = [some (.ref ts), some (.ref a), some (.str (wrT m n ((zs.map (·.2)).take j))), y] ∧ H' = H) ⟨none, rfl, rfl⟩ (fun j σ H' _ g => ?_) (fun j x σ H' hx g => ?_) (fun σ H' g => ?_)
    · obtain ⟨y, _, rfl⟩ := g
      exact sq S.ha
    · obtain ⟨y, rfl, rfl⟩ := g
      obtain ⟨z, ez, mz, rfl⟩ := item_zV hx
      have hz := S.pr z mz
      have hj : j < 16 := Nat.lt_of_lt_of_le (List.getElem?_eq_some_iff.mp ez).1 few
      have i1 := S.inr z mz
      have d1 := sI_ok z.2.1 (by omega)
      have d2 := sI_ok z.2.2 (by omega)
      obtain ⟨o, ho⟩ : ∃ o, o = wrT m n ((zs.map (·.2)).take j) := ⟨_, rfl⟩
      have lo : o.length ≤ 70 := by
        rw [ho, wrT_len m8 n8 fun c hc => in8 c (List.mem_of_mem_take hc), List.length_take]
        omega
      have e : wrT m n ((zs.map (·.2)).take (j + 1)) = (((o ++ (" " : Str)) ++ sI z.2.1) ++ ("-" : Str)) ++ sI z.2.2 := by
        rw [List.take_add_one, zs_at ez, ho]
        unfold wrT
        rw [List.foldl_append]
        rfl
      rw [← ho, e]
      have q1 : (o ++ (" " : Str)).length = o.length + 1 := by rw [len_app, c3]
      have q2 : ((o ++ (" " : Str)) ++ sI z.2.1).length = o.length + 2 := by rw [len_app, q1, d1.1]
      have q3 : (((o ++ (" " : Str)) ++ sI z.2.1) ++ ("-" : Str)).length = o.length + 3 := by rw [len_app, q2, c4]
      refine ⟨.str o, rfl, o, (" " : Str), rfl, rfl, by omega, .ref z.1, rfl, z.1, _, 0, nV z.2.1, rfl, rfl, sqt hz, rfl, (z.2.1 : Int), rfl, d1.2, _, sI z.2.1, rfl, rfl, by rw [q1, d1.1]; omega, _, ("-" : Str), rfl, rfl, by rw [q2, c4]; omega, .ref z.1, rfl, z.1, _, 1, nV z.2.2, rfl, rfl, sqt hz, rfl, (z.2.2 : Int), rfl, d2.2, _, sI z.2.2, rfl, rfl, by rw [q3, d2.1]; omega, ?_⟩
      exact ⟨_, rfl, rfl⟩
    · obtain ⟨y, rfl, rfl⟩ := g
      rw [List.take_of_length_le (by rw [List.length_map, List.length_map]; exact Nat.le_refl _)]
      exact ⟨_, rfl, q⟩
end
end K05
set_option Elab.async false
set_option linter.all false
set_option maxRecDepth 100000
set_option maxHeartbeats 4000000
namespace K05
open PySem PySem.Spec PyProof.Rows L2
/-- the errors that the law meets -/
inductive Er4 where
  | N | C | T | R
def nmE : Er4 → Str
  | .N => "NoDepot" | .C => "NoCustomer" | .T => "BadSize" | .R => "TooMany"
def fldE : Er4 → Str
  | .N => "depot" | .C => "customer" | .T => "size" | .R => "most"
structure ClsF (K : PySem.W.Frag) (mg : Str → Option Value) (D : Addr) (nD : Str) (ga : Str → Addr) : Prop where
  exc : L2.ExcC K D
  g : ∀ x ∈ clsN, mg x = some (.ref (ga x))
  k : ∀ x ∈ clsN, PySem.W.kitOne K (.ref D) (.ref (ga x)) = some (decide (x = nD))
  ve : PySem.W.kitOne K (.ref D) (.type "ValueError") = some true
  cnt : (clsN.map fun x => decide (x = nD)).count true = 1
def Tn (nD : Str) (n : Nat) : List V := (clsN.take n).map fun x => V.bl (decide (x = nD))
theorem Tn_len (nD : Str) (n : Nat) : (Tn nD n).length ≤ n := by
  unfold Tn
  rw [List.length_map, List.length_take]
  exact Nat.min_le_left _ _
theorem row2 {K : PySem.W.Frag} {C a dd r c1 c2 : Addr} {b1 b2 : Bool} {fs : List (Str × V)} {nD : Str} {n : Nat} {rest : TS} {D : Ends} {H : Hp} (hr : H r = some (.lst (Tn nD n))) (hd : H dd = some (.xd fs)) (k1 : PySem.W.kitOne K (.ref C) (.ref c1) = some b1) (k2 : PySem.W.kitOne K (.ref C) (.ref c2) = some b2) (hl : n ≤ 900)
    (et : Tn nD n ++ [.bl b1, .bl b2] = Tn nD (n + 2)) (k : ∀ (r' : Addr) (H' : Hp), Same H H' → H' r' = some (.lst (Tn nD (n + 2))) → rest D [some (.ref a), some (.ref r')] H') :
    tSeq (tAsg (tOp rCat (tVar 1) (tLst (tCons (tCB (ErrX.rIsD K C a dd) (tCons (tVar 0) (tCons (tC (.ref c1)) tNil))) (tCons (tCB (ErrX.rIsD K C a dd) (tCons (tVar 0) (tCons (tC (.ref c2)) tNil))) tNil)))) (gName 1)) rest D [some (.ref a), some (.ref r)] H := by
  refine ⟨.ref r, rfl, .ref a, rfl, .ref c1, .ref c1, b1, fs, rfl, .own _, hd, k1, .ref a, rfl, .ref c2, .ref c2, b2, fs, rfl, .own _, hd, k2, len2, fun l nl => ?_⟩
  have s1 := Same.new (o := .lst [.bl b1, .bl b2]) nl
  refine ⟨r, l, Tn nD n, _, rfl, rfl, s1 _ _ hr, upd_same, Nat.le_of_lt (small1000 (by have := Tn_len nD n; show (Tn nD n).length + 2 ≤ 1000; omega)), fun r' nr' => ?_⟩
  exact k r' _ (s1.trans (Same.new nr')) (upd_same.trans (by rw [et]))
theorem row1 {K : PySem.W.Frag} {C a dd r c1 : Addr} {b1 : Bool} {fs : List (Str × V)} {nD : Str} {n : Nat} {rest : TS} {D : Ends} {H : Hp} (hr : H r = some (.lst (Tn nD n))) (hd : H dd = some (.xd fs)) (k1 : PySem.W.kitOne K (.ref C) (.ref c1) = some b1) (hl : n ≤ 900)
    (et : Tn nD n ++ [.bl b1] = Tn nD (n + 1)) (k : ∀ (r' : Addr) (H' : Hp), Same H H' → H' r' = some (.lst (Tn nD (n + 1))) → rest D [some (.ref a), some (.ref r')] H') :
    tSeq (tAsg (tOp rCat (tVar 1) (tLst (tCons (tCB (ErrX.rIsD K C a dd) (tCons (tVar 0) (tCons (tC (.ref c1)) tNil))) tNil))) (gName 1)) rest D [some (.ref a), some (.ref r)] H := by
  refine ⟨.ref r, rfl, .ref a, rfl, .ref c1, .ref c1, b1, fs, rfl, .own _, hd, k1, len1, fun l nl => ?_⟩
  have s1 := Same.new (o := .lst [.bl b1]) nl
  refine ⟨r, l, Tn nD n, _, rfl, rfl, s1 _ _ hr, upd_same, Nat.le_of_lt (small1000 (by have := Tn_len nD n; show (Tn nD n).length + 1 ≤ 1000; omega)), fun r' nr' => ?_⟩
  exact k r' _ (s1.trans (Same.new nr')) (upd_same.trans (by rw [et]))
section
variable {P : Program} {w : World} {K : PySem.W.Frag} {mg : Str → Option Value} {base : Heap} {f : Addr} {fd : FuncData}
/-! ### _law_classes -/
abbrev law_classes_N : List Str := ["e", "rows"]
theorem law_classes_sc : FnScope ["e", "rows"] ["e"] (defScope law_classes_st) := ⟨rfl, rfl, rfl, by decide +kernel, rfl, by decide +kernel, by decide +kernel⟩
def spClasses (ca : Er4 → Addr) : ErrX.SpE := fun a c d vs H Q _ => ∃ (b : Er4) (dd : Addr) (fs : List (Str × V)), vs = [.ref a] ∧ c = .ref (ca b) ∧ d = some dd ∧ H dd = some (.xd fs) ∧ ∀ H', Same H H' → Q (.int 1) H'
theorem ok_classes {ca : Er4 → Addr} {ga : Str → Addr} (F : FnS K "_law_classes" law_classes_st f fd) (m_isinstance : mg "isinstance" = none) (Fc : ∀ b : Er4, ClsF K mg (ca b) (nmE b) ga) : ErrX.FnE P w K mg base (L2N.CX P w) 1 f fd ["e"] (spClasses ca) := by
  refine ErrX.fn_ofE F law_classes_sc (fun a c d vs H Q E h => ?_) (fun cdv A outer s H vs Q E p c d hz hr h => ?_)
  · obtain ⟨b, dd, fs, rfl, _⟩ := h
    rfl
  · obtain ⟨b, dd, fs, rfl, rfl, rfl, hd, q⟩ := h
    have Fb := Fc b
    have hC := Fb.exc
    have hot : ErrX.HotE (L2H.cxH (L2N.CX P w) P w K mg base law_classes_N "_law_classes" (defScope law_classes_st) f cdv A outer s H E p) p.1 (.ref (ca b)) (some dd) := ⟨p, rfl, ⟨hz.1, hz.2⟩, List.mem_cons_self⟩
    obtain ⟨nD, hn⟩ : ∃ nD, nD = nmE b := ⟨_, rfl⟩
    have g_BadColumn := Fb.g "BadColumn" (by decide +kernel)
    have k_BadColumn := Fb.k "BadColumn" (by decide +kernel)
    have g_BadCount := Fb.g "BadCount" (by decide +kernel)
    have k_BadCount := Fb.k "BadCount" (by decide +kernel)
    have g_BadDeed := Fb.g "BadDeed" (by decide +kernel)
    have k_BadDeed := Fb.k "BadDeed" (by decide +kernel)
    have g_BadLength := Fb.g "BadLength" (by decide +kernel)
    have k_BadLength := Fb.k "BadLength" (by decide +kernel)
    have g_BadLine := Fb.g "BadLine" (by decide +kernel)
    have k_BadLine := Fb.k "BadLine" (by decide +kernel)
    have g_BadSize := Fb.g "BadSize" (by decide +kernel)
    have k_BadSize := Fb.k "BadSize" (by decide +kernel)
    have g_Below := Fb.g "Below" (by decide +kernel)
    have k_Below := Fb.k "Below" (by decide +kernel)
    have g_Closes := Fb.g "Closes" (by decide +kernel)
    have k_Closes := Fb.k "Closes" (by decide +kernel)
    have g_DeedRefused := Fb.g "DeedRefused" (by decide +kernel)
    have k_DeedRefused := Fb.k "DeedRefused" (by decide +kernel)
    have g_NoCustomer := Fb.g "NoCustomer" (by decide +kernel)
    have k_NoCustomer := Fb.k "NoCustomer" (by decide +kernel)
    have g_NoCycle := Fb.g "NoCycle" (by decide +kernel)
    have k_NoCycle := Fb.k "NoCycle" (by decide +kernel)
    have g_NoDemand := Fb.g "NoDemand" (by decide +kernel)
    have k_NoDemand := Fb.k "NoDemand" (by decide +kernel)
    have g_NoDepot := Fb.g "NoDepot" (by decide +kernel)
    have k_NoDepot := Fb.k "NoDepot" (by decide +kernel)
    have g_NoLink := Fb.g "NoLink" (by decide +kernel)
    have k_NoLink := Fb.k "NoLink" (by decide +kernel)
    have g_NoNumber := Fb.g "NoNumber" (by decide +kernel)
    have k_NoNumber := Fb.k "NoNumber" (by decide +kernel)
    have g_NoPlace := Fb.g "NoPlace" (by decide +kernel)
    have k_NoPlace := Fb.k "NoPlace" (by decide +kernel)
    have g_NoRoute := Fb.g "NoRoute" (by decide +kernel)
    have k_NoRoute := Fb.k "NoRoute" (by decide +kernel)
    have g_NoSupply := Fb.g "NoSupply" (by decide +kernel)
    have k_NoSupply := Fb.k "NoSupply" (by decide +kernel)
    have g_NotAcross := Fb.g "NotAcross" (by decide +kernel)
    have k_NotAcross := Fb.k "NotAcross" (by decide +kernel)
    have g_NotFlexible := Fb.g "NotFlexible" (by decide +kernel)
    have k_NotFlexible := Fb.k "NotFlexible" (by decide +kernel)
    have g_NotInTree := Fb.g "NotInTree" (by decide +kernel)
    have k_NotInTree := Fb.k "NotInTree" (by decide +kernel)
    have g_NotInner := Fb.g "NotInner" (by decide +kernel)
    have k_NotInner := Fb.k "NotInner" (by decide +kernel)
    have g_NotJoined := Fb.g "NotJoined" (by decide +kernel)
    have k_NotJoined := Fb.k "NotJoined" (by decide +kernel)
    have g_NotMore := Fb.g "NotMore" (by decide +kernel)
    have k_NotMore := Fb.k "NotMore" (by decide +kernel)
    have g_NotPriced := Fb.g "NotPriced" (by decide +kernel)
    have k_NotPriced := Fb.k "NotPriced" (by decide +kernel)
    have g_NotSpanning := Fb.g "NotSpanning" (by decide +kernel)
    have k_NotSpanning := Fb.k "NotSpanning" (by decide +kernel)
    have g_NotSpanningSet := Fb.g "NotSpanningSet" (by decide +kernel)
    have k_NotSpanningSet := Fb.k "NotSpanningSet" (by decide +kernel)
    have g_NothingLeft := Fb.g "NothingLeft" (by decide +kernel)
    have k_NothingLeft := Fb.k "NothingLeft" (by decide +kernel)
    have g_OtherNetwork := Fb.g "OtherNetwork" (by decide +kernel)
    have k_OtherNetwork := Fb.k "OtherNetwork" (by decide +kernel)
    have g_OtherTotals := Fb.g "OtherTotals" (by decide +kernel)
    have k_OtherTotals := Fb.k "OtherTotals" (by decide +kernel)
    have g_Overflow := Fb.g "Overflow" (by decide +kernel)
    have k_Overflow := Fb.k "Overflow" (by decide +kernel)
    have g_Repeated := Fb.g "Repeated" (by decide +kernel)
    have k_Repeated := Fb.k "Repeated" (by decide +kernel)
    have g_SameEnds := Fb.g "SameEnds" (by decide +kernel)
    have k_SameEnds := Fb.k "SameEnds" (by decide +kernel)
    have g_Short := Fb.g "Short" (by decide +kernel)
    have k_Short := Fb.k "Short" (by decide +kernel)
    have g_Stranded := Fb.g "Stranded" (by decide +kernel)
    have k_Stranded := Fb.k "Stranded" (by decide +kernel)
    have g_TooMany := Fb.g "TooMany" (by decide +kernel)
    have k_TooMany := Fb.k "TooMany" (by decide +kernel)
    have g_Unbalanced := Fb.g "Unbalanced" (by decide +kernel)
    have k_Unbalanced := Fb.k "Unbalanced" (by decide +kernel)
    have g_Unfair := Fb.g "Unfair" (by decide +kernel)
    have k_Unfair := Fb.k "Unfair" (by decide +kernel)
    have g_Unread := Fb.g "Unread" (by decide +kernel)
    have k_Unread := Fb.k "Unread" (by decide +kernel)
    have cnt := Fb.cnt
    rw [← hn] at k_BadColumn k_BadCount k_BadDeed k_BadLength k_BadLine k_BadSize k_Below k_Closes k_DeedRefused k_NoCustomer k_NoCycle k_NoDemand k_NoDepot k_NoLink k_NoNumber k_NoPlace k_NoRoute k_NoSupply k_NotAcross k_NotFlexible k_NotInTree k_NotInner k_NotJoined k_NotMore k_NotPriced k_NotSpanning k_NotSpanningSet k_NothingLeft k_OtherNetwork k_OtherTotals k_Overflow k_Repeated k_SameEnds k_Short k_Stranded k_TooMany k_Unbalanced k_Unfair k_Unread cnt
    refine ⟨_, (pss_cons (ps_set (i := 1) law_classes_sc.nd rfl (Or.inl rfl) (pe_lst (pa_cons (pe_callB (ErrX.call_isD hC hot) (by rfl) m_isinstance (by decide +kernel) (pa_cons (pv 0) (pa_cons (pe_glob (v := .ref (ga "BadColumn")) rfl g_BadColumn rfl) pa_nil))) (pa_cons (pe_callB (ErrX.call_isD hC hot) (by rfl) m_isinstance (by decide +kernel) (pa_cons (pv 0) (pa_cons (pe_glob (v := .ref (ga "BadCount")) rfl g_BadCount rfl) pa_nil))) pa_nil))))
      (pss_cons (ps_set (i := 1) law_classes_sc.nd rfl (Or.inl rfl) (pe_op op_cat (pv 1) (pe_lst (pa_cons (pe_callB (ErrX.call_isD hC hot) (by rfl) m_isinstance (by decide +kernel) (pa_cons (pv 0) (pa_cons (pe_glob (v := .ref (ga "BadDeed")) rfl g_BadDeed rfl) pa_nil))) (pa_cons (pe_callB (ErrX.call_isD hC hot) (by rfl) m_isinstance (by decide +kernel) (pa_cons (pv 0) (pa_cons (pe_glob (v := .ref (ga "BadLength")) rfl g_BadLength rfl) pa_nil))) pa_nil)))))
      (pss_cons (ps_set (i := 1) law_classes_sc.nd rfl (Or.inl rfl) (pe_op op_cat (pv 1) (pe_lst (pa_cons (pe_callB (ErrX.call_isD hC hot) (by rfl) m_isinstance (by decide +kernel) (pa_cons (pv 0) (pa_cons (pe_glob (v := .ref (ga "BadLine")) rfl g_BadLine rfl) pa_nil))) (pa_cons (pe_callB (ErrX.call_isD hC hot) (by rfl) m_isinstance (by decide +kernel) (pa_cons (pv 0) (pa_cons (pe_glob (v := .ref (ga "BadSize")) rfl g_BadSize rfl) pa_nil))) pa_nil)))))
      (pss_cons (ps_set (i := 1) law_classes_sc.nd rfl (Or.inl rfl) (pe_op op_cat (pv 1) (pe_lst (pa_cons (pe_callB (ErrX.call_isD hC hot) (by rfl) m_isinstance (by decide +kernel) (pa_cons (pv 0) (pa_cons (pe_glob (v := .ref (ga "Below")) rfl g_Below rfl) pa_nil))) (pa_cons (pe_callB (ErrX.call_isD hC hot) (by rfl) m_isinstance (by decide +kernel) (pa_cons (pv 0) (pa_cons (pe_glob (v := .ref (ga "Closes")) rfl g_Closes rfl) pa_nil))) pa_nil)))))
      (pss_cons (ps_set (i := 1) law_classes_sc.nd rfl (Or.inl rfl) (pe_op op_cat (pv 1) (pe_lst (pa_cons (pe_callB (ErrX.call_isD hC hot) (by rfl) m_isinstance (by decide +kernel) (pa_cons (pv 0) (pa_cons (pe_glob (v := .ref (ga "DeedRefused")) rfl g_DeedRefused rfl) pa_nil))) (pa_cons (pe_callB (ErrX.call_isD hC hot) (by rfl) m_isinstance (by decide +kernel) (pa_cons (pv 0) (pa_cons (pe_glob (v := .ref (ga "NoCustomer")) rfl g_NoCustomer rfl) pa_nil))) pa_nil)))))
      (pss_cons (ps_set (i := 1) law_classes_sc.nd rfl (Or.inl rfl) (pe_op op_cat (pv 1) (pe_lst (pa_cons (pe_callB (ErrX.call_isD hC hot) (by rfl) m_isinstance (by decide +kernel) (pa_cons (pv 0) (pa_cons (pe_glob (v := .ref (ga "NoCycle")) rfl g_NoCycle rfl) pa_nil))) (pa_cons (pe_callB (ErrX.call_isD hC hot) (by rfl) m_isinstance (by decide +kernel) (pa_cons (pv 0) (pa_cons (pe_glob (v := .ref (ga "NoDemand")) rfl g_NoDemand rfl) pa_nil))) pa_nil)))))
      (pss_cons (ps_set (i := 1) law_classes_sc.nd rfl (Or.inl rfl) (pe_op op_cat (pv 1) (pe_lst (pa_cons (pe_callB (ErrX.call_isD hC hot) (by rfl) m_isinstance (by decide +kernel) (pa_cons (pv 0) (pa_cons (pe_glob (v := .ref (ga "NoDepot")) rfl g_NoDepot rfl) pa_nil))) (pa_cons (pe_callB (ErrX.call_isD hC hot) (by rfl) m_isinstance (by decide +kernel) (pa_cons (pv 0) (pa_cons (pe_glob (v := .ref (ga "NoLink")) rfl g_NoLink rfl) pa_nil))) pa_nil)))))
      (pss_cons (ps_set (i := 1) law_classes_sc.nd rfl (Or.inl rfl) (pe_op op_cat (pv 1) (pe_lst (pa_cons (pe_callB (ErrX.call_isD hC hot) (by rfl) m_isinstance (by decide +kernel) (pa_cons (pv 0) (pa_cons (pe_glob (v := .ref (ga "NoNumber")) rfl g_NoNumber rfl) pa_nil))) (pa_cons (pe_callB (ErrX.call_isD hC hot) (by rfl) m_isinstance (by decide +kernel) (pa_cons (pv 0) (pa_cons (pe_glob (v := .ref (ga "NoPlace")) rfl g_NoPlace rfl) pa_nil))) pa_nil)))))
      (pss_cons (ps_set (i := 1) law_classes_sc.nd rfl (Or.inl rfl) (pe_op op_cat (pv 1) (pe_lst (pa_cons (pe_callB (ErrX.call_isD hC hot) (by rfl) m_isinstance (by decide +kernel) (pa_cons (pv 0) (pa_cons (pe_glob (v := .ref (ga "NoRoute")) rfl g_NoRoute rfl) pa_nil))) (pa_cons (pe_callB (ErrX.call_isD hC hot) (by rfl) m_isinstance (by decide +kernel) (pa_cons (pv 0) (pa_cons (pe_glob (v := .ref (ga "NoSupply")) rfl g_NoSupply rfl) pa_nil))) pa_nil)))))
      (pss_cons (ps_set (i := 1) law_classes_sc.nd rfl (Or.inl rfl) (pe_op op_cat (pv 1) (pe_lst (pa_cons (pe_callB (ErrX.call_isD hC hot) (by rfl) m_isinstance (by decide +kernel) (pa_cons (pv 0) (pa_cons (pe_glob (v := .ref (ga "NotAcross")) rfl g_NotAcross rfl) pa_nil))) (pa_cons (pe_callB (ErrX.call_isD hC hot) (by rfl) m_isinstance (by decide +kernel) (pa_cons (pv 0) (pa_cons (pe_glob (v := .ref (ga "NotFlexible")) rfl g_NotFlexible rfl) pa_nil))) pa_nil)))))
      (pss_cons (ps_set (i := 1) law_classes_sc.nd rfl (Or.inl rfl) (pe_op op_cat (pv 1) (pe_lst (pa_cons (pe_callB (ErrX.call_isD hC hot) (by rfl) m_isinstance (by decide +kernel) (pa_cons (pv 0) (pa_cons (pe_glob (v := .ref (ga "NotInTree")) rfl g_NotInTree rfl) pa_nil))) (pa_cons (pe_callB (ErrX.call_isD hC hot) (by rfl) m_isinstance (by decide +kernel) (pa_cons (pv 0) (pa_cons (pe_glob (v := .ref (ga "NotInner")) rfl g_NotInner rfl) pa_nil))) pa_nil)))))
      (pss_cons (ps_set (i := 1) law_classes_sc.nd rfl (Or.inl rfl) (pe_op op_cat (pv 1) (pe_lst (pa_cons (pe_callB (ErrX.call_isD hC hot) (by rfl) m_isinstance (by decide +kernel) (pa_cons (pv 0) (pa_cons (pe_glob (v := .ref (ga "NotJoined")) rfl g_NotJoined rfl) pa_nil))) (pa_cons (pe_callB (ErrX.call_isD hC hot) (by rfl) m_isinstance (by decide +kernel) (pa_cons (pv 0) (pa_cons (pe_glob (v := .ref (ga "NotMore")) rfl g_NotMore rfl) pa_nil))) pa_nil)))))
      (pss_cons (ps_set (i := 1) law_classes_sc.nd rfl (Or.inl rfl) (pe_op op_cat (pv 1) (pe_lst (pa_cons (pe_callB (ErrX.call_isD hC hot) (by rfl) m_isinstance (by decide +kernel) (pa_cons (pv 0) (pa_cons (pe_glob (v := .ref (ga "NotPriced")) rfl g_NotPriced rfl) pa_nil))) (pa_cons (pe_callB (ErrX.call_isD hC hot) (by rfl) m_isinstance (by decide +kernel) (pa_cons (pv 0) (pa_cons (pe_glob (v := .ref (ga "NotSpanning")) rfl g_NotSpanning rfl) pa_nil))) pa_nil)))))
      (pss_cons (ps_set (i := 1) law_classes_sc.nd rfl (Or.inl rfl) (pe_op op_cat (pv 1) (pe_lst (pa_cons (pe_callB (ErrX.call_isD hC hot) (by rfl) m_isinstance (by decide +kernel) (pa_cons (pv 0) (pa_cons (pe_glob (v := .ref (ga "NotSpanningSet")) rfl g_NotSpanningSet rfl) pa_nil))) (pa_cons (pe_callB (ErrX.call_isD hC hot) (by rfl) m_isinstance (by decide +kernel) (pa_cons (pv 0) (pa_cons (pe_glob (v := .ref (ga "NothingLeft")) rfl g_NothingLeft rfl) pa_nil))) pa_nil)))))
      (pss_cons (ps_set (i := 1) law_classes_sc.nd rfl (Or.inl rfl) (pe_op op_cat (pv 1) (pe_lst (pa_cons (pe_callB (ErrX.call_isD hC hot) (by rfl) m_isinstance (by decide +kernel) (pa_cons (pv 0) (pa_cons (pe_glob (v := .ref (ga "OtherNetwork")) rfl g_OtherNetwork rfl) pa_nil))) (pa_cons (pe_callB (ErrX.call_isD hC hot) (by rfl) m_isinstance (by decide +kernel) (pa_cons (pv 0) (pa_cons (pe_glob (v := .ref (ga "OtherTotals")) rfl g_OtherTotals rfl) pa_nil))) pa_nil)))))
      (pss_cons (ps_set (i := 1) law_classes_sc.nd rfl (Or.inl rfl) (pe_op op_cat (pv 1) (pe_lst (pa_cons (pe_callB (ErrX.call_isD hC hot) (by rfl) m_isinstance (by decide +kernel) (pa_cons (pv 0) (pa_cons (pe_glob (v := .ref (ga "Overflow")) rfl g_Overflow rfl) pa_nil))) (pa_cons (pe_callB (ErrX.call_isD hC hot) (by rfl) m_isinstance (by decide +kernel) (pa_cons (pv 0) (pa_cons (pe_glob (v := .ref (ga "Repeated")) rfl g_Repeated rfl) pa_nil))) pa_nil)))))
      (pss_cons (ps_set (i := 1) law_classes_sc.nd rfl (Or.inl rfl) (pe_op op_cat (pv 1) (pe_lst (pa_cons (pe_callB (ErrX.call_isD hC hot) (by rfl) m_isinstance (by decide +kernel) (pa_cons (pv 0) (pa_cons (pe_glob (v := .ref (ga "SameEnds")) rfl g_SameEnds rfl) pa_nil))) (pa_cons (pe_callB (ErrX.call_isD hC hot) (by rfl) m_isinstance (by decide +kernel) (pa_cons (pv 0) (pa_cons (pe_glob (v := .ref (ga "Short")) rfl g_Short rfl) pa_nil))) pa_nil)))))
      (pss_cons (ps_set (i := 1) law_classes_sc.nd rfl (Or.inl rfl) (pe_op op_cat (pv 1) (pe_lst (pa_cons (pe_callB (ErrX.call_isD hC hot) (by rfl) m_isinstance (by decide +kernel) (pa_cons (pv 0) (pa_cons (pe_glob (v := .ref (ga "Stranded")) rfl g_Stranded rfl) pa_nil))) (pa_cons (pe_callB (ErrX.call_isD hC hot) (by rfl) m_isinstance (by decide +kernel) (pa_cons (pv 0) (pa_cons (pe_glob (v := .ref (ga "TooMany")) rfl g_TooMany rfl) pa_nil))) pa_nil)))))
      (pss_cons (ps_set (i := 1) law_classes_sc.nd rfl (Or.inl rfl) (pe_op op_cat (pv 1) (pe_lst (pa_cons (pe_callB (ErrX.call_isD hC hot) (by rfl) m_isinstance (by decide +kernel) (pa_cons (pv 0) (pa_cons (pe_glob (v := .ref (ga "Unbalanced")) rfl g_Unbalanced rfl) pa_nil))) (pa_cons (pe_callB (ErrX.call_isD hC hot) (by rfl) m_isinstance (by decide +kernel) (pa_cons (pv 0) (pa_cons (pe_glob (v := .ref (ga "Unfair")) rfl g_Unfair rfl) pa_nil))) pa_nil)))))
      (pss_cons (ps_set (i := 1) law_classes_sc.nd rfl (Or.inl rfl) (pe_op op_cat (pv 1) (pe_lst (pa_cons (pe_callB (ErrX.call_isD hC hot) (by rfl) m_isinstance (by decide +kernel) (pa_cons (pv 0) (pa_cons (pe_glob (v := .ref (ga "Unread")) rfl g_Unread rfl) pa_nil))) pa_nil))))
      (pss_one (ps_ret (pe_bm PySem.F.plainAttrs_list PySem.F.slot_list_count PySem.F.type_list_count ErrX.mt_lcountB (pv 1) (pa_cons pe_bl pa_nil)))))))))))))))))))))))), ?_⟩
    refine ⟨.ref p.1, rfl, .ref (ga "BadColumn"), .ref (ga "BadColumn"), _, fs, rfl, .own _, hd, k_BadColumn, .ref p.1, rfl, .ref (ga "BadCount"), .ref (ga "BadCount"), _, fs, rfl, .own _, hd, k_BadCount, len2, fun r1 nr => ?_⟩
    have s1 := Same.new (o := .lst [.bl (decide (("BadColumn" : Str) = nD)), .bl (decide (("BadCount" : Str) = nD))]) nr
    have d1 := s1 _ _ hd
    refine row2 (n := 2) (nD := nD) upd_same d1 k_BadDeed k_BadLength (by decide) rfl fun r2 H2 s2 h2 => ?_
    replace s2 := s1.trans s2
    replace d1 := s2 _ _ hd
    refine row2 (n := 4) h2 d1 k_BadLine k_BadSize (by decide) rfl fun r3 H3 s3 h3 => ?_
    replace s3 := s2.trans s3
    replace d1 := s3 _ _ hd
    refine row2 (n := 6) h3 d1 k_Below k_Closes (by decide) rfl fun r4 H4 s4 h4 => ?_
    replace s4 := s3.trans s4
    replace d1 := s4 _ _ hd
    refine row2 (n := 8) h4 d1 k_DeedRefused k_NoCustomer (by decide) rfl fun r5 H5 s5 h5 => ?_
    replace s5 := s4.trans s5
    replace d1 := s5 _ _ hd
    refine row2 (n := 10) h5 d1 k_NoCycle k_NoDemand (by decide) rfl fun r6 H6 s6 h6 => ?_
    replace s6 := s5.trans s6
    replace d1 := s6 _ _ hd
    refine row2 (n := 12) h6 d1 k_NoDepot k_NoLink (by decide) rfl fun r7 H7 s7 h7 => ?_
    replace s7 := s6.trans s7
    replace d1 := s7 _ _ hd
    refine row2 (n := 14) h7 d1 k_NoNumber k_NoPlace (by decide) rfl fun r8 H8 s8 h8 => ?_
    replace s8 := s7.trans s8
    replace d1 := s8 _ _ hd
    refine row2 (n := 16) h8 d1 k_NoRoute k_NoSupply (by decide) rfl fun r9 H9 s9 h9 => ?_
    replace s9 := s8.trans s9
    replace d1 := s9 _ _ hd
    refine row2 (n := 18) h9 d1 k_NotAcross k_NotFlexible (by decide) rfl fun r10 H10 s10 h10 => ?_
    replace s10 := s9.trans s10
    replace d1 := s10 _ _ hd
    refine row2 (n := 20) h10 d1 k_NotInTree k_NotInner (by decide) rfl fun r11 H11 s11 h11 => ?_
    replace s11 := s10.trans s11
    replace d1 := s11 _ _ hd
    refine row2 (n := 22) h11 d1 k_NotJoined k_NotMore (by decide) rfl fun r12 H12 s12 h12 => ?_
    replace s12 := s11.trans s12
    replace d1 := s12 _ _ hd
    refine row2 (n := 24) h12 d1 k_NotPriced k_NotSpanning (by decide) rfl fun r13 H13 s13 h13 => ?_
    replace s13 := s12.trans s13
    replace d1 := s13 _ _ hd
    refine row2 (n := 26) h13 d1 k_NotSpanningSet k_NothingLeft (by decide) rfl fun r14 H14 s14 h14 => ?_
    replace s14 := s13.trans s14
    replace d1 := s14 _ _ hd
    refine row2 (n := 28) h14 d1 k_OtherNetwork k_OtherTotals (by decide) rfl fun r15 H15 s15 h15 => ?_
    replace s15 := s14.trans s15
    replace d1 := s15 _ _ hd
    refine row2 (n := 30) h15 d1 k_Overflow k_Repeated (by decide) rfl fun r16 H16 s16 h16 => ?_
    replace s16 := s15.trans s16
    replace d1 := s16 _ _ hd
    refine row2 (n := 32) h16 d1 k_SameEnds k_Short (by decide) rfl fun r17 H17 s17 h17 => ?_
    replace s17 := s16.trans s17
    replace d1 := s17 _ _ hd
    refine row2 (n := 34) h17 d1 k_Stranded k_TooMany (by decide) rfl fun r18 H18 s18 h18 => ?_
    replace s18 := s17.trans s18
    replace d1 := s18 _ _ hd
    refine row2 (n := 36) h18 d1 k_Unbalanced k_Unfair (by decide) rfl fun r19 H19 s19 h19 => ?_
    replace s19 := s18.trans s19
    replace d1 := s19 _ _ hd
    refine row1 (n := 38) h19 d1 k_Unread (by decide) rfl fun r20 H20 s20 h20 => ?_
    replace s20 := s19.trans s20
    refine ⟨.ref r20, rfl, .inl ⟨rfl, _, sq h20⟩, r20, clsN.map fun x => decide (x = nD), true, rfl, rfl, sq (h20.trans (congrArg (fun z => some (HO.lst z)) (by unfold Tn; rw [List.map_map]; rfl))), ?_⟩
    rw [cnt]
    exact q _ s20
/-! ### _law_refusal -/
abbrev law_refusal_N : List Str := ["e"]
theorem law_refusal_sc : FnScope ["e"] ["e"] (defScope law_refusal_st) := ⟨rfl, rfl, rfl, by decide +kernel, rfl, by decide +kernel, by decide +kernel⟩
def spRefusal (ca : Er4 → Addr) : ErrX.SpE := fun a c d vs H Q _ => ∃ (b : Er4) (dd : Addr) (x : V), vs = [.ref a] ∧ c = .ref (ca b) ∧ d = some dd ∧ H dd = some (.xd [(fldE b, x)]) ∧ ∀ (H' : Hp) (t : Addr), Same H H' → H t = none → H' t = some (.tup [.str "refused", .str (nmE b), x]) → Q (.ref t) H'
theorem ok_refusal {f1 : Addr} {fd1 : FuncData} {ca : Er4 → Addr} {ga : Str → Addr} (F : FnS K "_law_refusal" law_refusal_st f fd) (m_isinstance : mg "isinstance" = none) (m_ValueError : mg "ValueError" = none) (Fc : ∀ b : Er4, ClsF K mg (ca b) (nmE b) ga) (hno : ∀ b : Er4, PySem.W.findIn K (.ref (ca b)) (fldE b) = some none)
    (E_law_classes : ErrX.FnE P w K mg base (L2N.CX P w) 1 f1 fd1 ["e"] (spClasses ca)) (g1 : mg "_law_classes" = some (.ref f1)) (kp1 : PySem.W.keepIn K (.ref f1) = true) (b1 : Binds K fd1 ["e"] []) : ErrX.FnE P w K mg base (L2N.CX P w) 2 f fd ["e"] (spRefusal ca) := by
  refine ErrX.fn_ofE F law_refusal_sc (fun a c d vs H Q E h => ?_) (fun cdv A outer s H vs Q E p c d hz hr h => ?_)
  · obtain ⟨b, dd, x, rfl, _⟩ := h
    rfl
  · obtain ⟨b, dd, x, rfl, rfl, rfl, hd, q⟩ := h
    have Fb := Fc b
    have hC := Fb.exc
    have hnb := hno b
    have g_NoDepot := Fb.g "NoDepot" (by decide +kernel)
    have k_NoDepot := Fb.k "NoDepot" (by decide +kernel)
    have g_NoCustomer := Fb.g "NoCustomer" (by decide +kernel)
    have k_NoCustomer := Fb.k "NoCustomer" (by decide +kernel)
    have g_BadSize := Fb.g "BadSize" (by decide +kernel)
    have k_BadSize := Fb.k "BadSize" (by decide +kernel)
    have g_TooMany := Fb.g "TooMany" (by decide +kernel)
    have k_TooMany := Fb.k "TooMany" (by decide +kernel)
    have kv := Fb.ve
    have hot : ErrX.HotE (L2H.cxH (L2N.CX P w) P w K mg base law_refusal_N "_law_refusal" (defScope law_refusal_st) f cdv A outer s H E p) p.1 (.ref (ca b)) (some dd) := ⟨p, rfl, ⟨hz.1, hz.2⟩, List.mem_cons_self⟩
    cases b with
    | N =>
      refine ⟨_, (pss_cons (ps_if (PW.pt (pw_or (pt_not (pt_val (pe_callB (ErrX.call_isD hC hot) (by rfl) m_isinstance (by decide +kernel) (pa_cons (pv 0) (pa_cons (pe_bltn (by rfl) m_ValueError (by decide +kernel) (v := .ty "ValueError") rfl) pa_nil))))) (pw_or1 (pt_cmpR op_ne (ErrX.pe_callE (E := fun _ => E0) E_law_classes hr hot rfl g1 kp1 b1 (fun σ pins => ErrX.passN pins σ) (pa_cons (pv 0) pa_nil)) pe_int (nomark _))))) (pss_one (ps_ret (pe_tup (pa_cons pe_str (pa_cons pe_str (pa_cons pe_int pa_nil)))))) pss_nil)
      (pss_cons (ps_if (pt_val (pe_callB (ErrX.call_isD hC hot) (by rfl) m_isinstance (by decide +kernel) (pa_cons (pv 0) (pa_cons (pe_glob (v := .ref (ga "NoDepot")) rfl g_NoDepot rfl) pa_nil)))) (pss_one (ps_ret (pe_tup (pa_cons pe_str (pa_cons pe_str (pa_cons (ErrX.pe_fldD hC hnb hot (pv 0)) pa_nil)))))) pss_nil)
      (pss_cons (ps_if (pt_val (pe_callB (ErrX.call_isD hC hot) (by rfl) m_isinstance (by decide +kernel) (pa_cons (pv 0) (pa_cons (pe_glob (v := .ref (ga "NoCustomer")) rfl g_NoCustomer rfl) pa_nil)))) (pss_one ps_never) pss_nil)
      (pss_cons (ps_if (pt_val (pe_callB (ErrX.call_isD hC hot) (by rfl) m_isinstance (by decide +kernel) (pa_cons (pv 0) (pa_cons (pe_glob (v := .ref (ga "BadSize")) rfl g_BadSize rfl) pa_nil)))) (pss_one ps_never) pss_nil)
      (pss_cons (ps_if (pt_val (pe_callB (ErrX.call_isD hC hot) (by rfl) m_isinstance (by decide +kernel) (pa_cons (pv 0) (pa_cons (pe_glob (v := .ref (ga "TooMany")) rfl g_TooMany rfl) pa_nil)))) (pss_one ps_never) pss_nil)
      (pss_one (ps_ret (pe_tup (pa_cons pe_str (pa_cons pe_str (pa_cons pe_int pa_nil))))))))))), ?_⟩
      refine ⟨.ref p.1, rfl, .ty "ValueError", .type "ValueError", true, _, rfl, .ty _, hd, kv, _, rfl, iteF ⟨.ref p.1, rfl, .N, dd, _, rfl, rfl, rfl, hd, fun H1 s1 => ⟨rfl, _, rfl, ?_⟩⟩⟩
      rw [decide_eq_true (rfl : V.int 1 = V.int 1)]
      refine iteF ?_
      have hd1 := s1 _ _ hd
      refine ⟨.ref p.1, rfl, .ref (ga "NoDepot"), .ref (ga "NoDepot"), _, _, rfl, .own _, hd1, k_NoDepot, _, rfl, ?_⟩
      rw [show decide (("NoDepot" : Str) = nmE .N) = true from by decide +kernel]
      refine iteT ⟨.ref p.1, rfl, rfl, _, x, hd1, ?_, len3, fun t nt => ?_⟩
      · exact (by simp [fldE])
      · exact q _ t (s1.trans (Same.new nt)) (s1.back nt) upd_same
    | C =>
      refine ⟨_, (pss_cons (ps_if (PW.pt (pw_or (pt_not (pt_val (pe_callB (ErrX.call_isD hC hot) (by rfl) m_isinstance (by decide +kernel) (pa_cons (pv 0) (pa_cons (pe_bltn (by rfl) m_ValueError (by decide +kernel) (v := .ty "ValueError") rfl) pa_nil))))) (pw_or1 (pt_cmpR op_ne (ErrX.pe_callE (E := fun _ => E0) E_law_classes hr hot rfl g1 kp1 b1 (fun σ pins => ErrX.passN pins σ) (pa_cons (pv 0) pa_nil)) pe_int (nomark _))))) (pss_one (ps_ret (pe_tup (pa_cons pe_str (pa_cons pe_str (pa_cons pe_int pa_nil)))))) pss_nil)
      (pss_cons (ps_if (pt_val (pe_callB (ErrX.call_isD hC hot) (by rfl) m_isinstance (by decide +kernel) (pa_cons (pv 0) (pa_cons (pe_glob (v := .ref (ga "NoDepot")) rfl g_NoDepot rfl) pa_nil)))) (pss_one ps_never) pss_nil)
      (pss_cons (ps_if (pt_val (pe_callB (ErrX.call_isD hC hot) (by rfl) m_isinstance (by decide +kernel) (pa_cons (pv 0) (pa_cons (pe_glob (v := .ref (ga "NoCustomer")) rfl g_NoCustomer rfl) pa_nil)))) (pss_one (ps_ret (pe_tup (pa_cons pe_str (pa_cons pe_str (pa_cons (ErrX.pe_fldD hC hnb hot (pv 0)) pa_nil)))))) pss_nil)
      (pss_cons (ps_if (pt_val (pe_callB (ErrX.call_isD hC hot) (by rfl) m_isinstance (by decide +kernel) (pa_cons (pv 0) (pa_cons (pe_glob (v := .ref (ga "BadSize")) rfl g_BadSize rfl) pa_nil)))) (pss_one ps_never) pss_nil)
      (pss_cons (ps_if (pt_val (pe_callB (ErrX.call_isD hC hot) (by rfl) m_isinstance (by decide +kernel) (pa_cons (pv 0) (pa_cons (pe_glob (v := .ref (ga "TooMany")) rfl g_TooMany rfl) pa_nil)))) (pss_one ps_never) pss_nil)
      (pss_one (ps_ret (pe_tup (pa_cons pe_str (pa_cons pe_str (pa_cons pe_int pa_nil))))))))))), ?_⟩
      refine ⟨.ref p.1, rfl, .ty "ValueError", .type "ValueError", true, _, rfl, .ty _, hd, kv, _, rfl, iteF ⟨.ref p.1, rfl, .C, dd, _, rfl, rfl, rfl, hd, fun H1 s1 => ⟨rfl, _, rfl, ?_⟩⟩⟩
      rw [decide_eq_true (rfl : V.int 1 = V.int 1)]
      refine iteF ?_
      have hd1 := s1 _ _ hd
      refine ⟨.ref p.1, rfl, .ref (ga "NoDepot"), .ref (ga "NoDepot"), _, _, rfl, .own _, hd1, k_NoDepot, _, rfl, ?_⟩
      rw [show decide (("NoDepot" : Str) = nmE .C) = false from by decide +kernel]
      refine iteF ?_
      refine ⟨.ref p.1, rfl, .ref (ga "NoCustomer"), .ref (ga "NoCustomer"), _, _, rfl, .own _, hd1, k_NoCustomer, _, rfl, ?_⟩
      rw [show decide (("NoCustomer" : Str) = nmE .C) = true from by decide +kernel]
      refine iteT ⟨.ref p.1, rfl, rfl, _, x, hd1, ?_, len3, fun t nt => ?_⟩
      · exact (by simp [fldE])
      · exact q _ t (s1.trans (Same.new nt)) (s1.back nt) upd_same
    | T =>
      refine ⟨_, (pss_cons (ps_if (PW.pt (pw_or (pt_not (pt_val (pe_callB (ErrX.call_isD hC hot) (by rfl) m_isinstance (by decide +kernel) (pa_cons (pv 0) (pa_cons (pe_bltn (by rfl) m_ValueError (by decide +kernel) (v := .ty "ValueError") rfl) pa_nil))))) (pw_or1 (pt_cmpR op_ne (ErrX.pe_callE (E := fun _ => E0) E_law_classes hr hot rfl g1 kp1 b1 (fun σ pins => ErrX.passN pins σ) (pa_cons (pv 0) pa_nil)) pe_int (nomark _))))) (pss_one (ps_ret (pe_tup (pa_cons pe_str (pa_cons pe_str (pa_cons pe_int pa_nil)))))) pss_nil)
      (pss_cons (ps_if (pt_val (pe_callB (ErrX.call_isD hC hot) (by rfl) m_isinstance (by decide +kernel) (pa_cons (pv 0) (pa_cons (pe_glob (v := .ref (ga "NoDepot")) rfl g_NoDepot rfl) pa_nil)))) (pss_one ps_never) pss_nil)
      (pss_cons (ps_if (pt_val (pe_callB (ErrX.call_isD hC hot) (by rfl) m_isinstance (by decide +kernel) (pa_cons (pv 0) (pa_cons (pe_glob (v := .ref (ga "NoCustomer")) rfl g_NoCustomer rfl) pa_nil)))) (pss_one ps_never) pss_nil)
      (pss_cons (ps_if (pt_val (pe_callB (ErrX.call_isD hC hot) (by rfl) m_isinstance (by decide +kernel) (pa_cons (pv 0) (pa_cons (pe_glob (v := .ref (ga "BadSize")) rfl g_BadSize rfl) pa_nil)))) (pss_one (ps_ret (pe_tup (pa_cons pe_str (pa_cons pe_str (pa_cons (ErrX.pe_fldD hC hnb hot (pv 0)) pa_nil)))))) pss_nil)
      (pss_cons (ps_if (pt_val (pe_callB (ErrX.call_isD hC hot) (by rfl) m_isinstance (by decide +kernel) (pa_cons (pv 0) (pa_cons (pe_glob (v := .ref (ga "TooMany")) rfl g_TooMany rfl) pa_nil)))) (pss_one ps_never) pss_nil)
      (pss_one (ps_ret (pe_tup (pa_cons pe_str (pa_cons pe_str (pa_cons pe_int pa_nil))))))))))), ?_⟩
      refine ⟨.ref p.1, rfl, .ty "ValueError", .type "ValueError", true, _, rfl, .ty _, hd, kv, _, rfl, iteF ⟨.ref p.1, rfl, .T, dd, _, rfl, rfl, rfl, hd, fun H1 s1 => ⟨rfl, _, rfl, ?_⟩⟩⟩
      rw [decide_eq_true (rfl : V.int 1 = V.int 1)]
      refine iteF ?_
      have hd1 := s1 _ _ hd
      refine ⟨.ref p.1, rfl, .ref (ga "NoDepot"), .ref (ga "NoDepot"), _, _, rfl, .own _, hd1, k_NoDepot, _, rfl, ?_⟩
      rw [show decide (("NoDepot" : Str) = nmE .T) = false from by decide +kernel]
      refine iteF ?_
      refine ⟨.ref p.1, rfl, .ref (ga "NoCustomer"), .ref (ga "NoCustomer"), _, _, rfl, .own _, hd1, k_NoCustomer, _, rfl, ?_⟩
      rw [show decide (("NoCustomer" : Str) = nmE .T) = false from by decide +kernel]
      refine iteF ?_
      refine ⟨.ref p.1, rfl, .ref (ga "BadSize"), .ref (ga "BadSize"), _, _, rfl, .own _, hd1, k_BadSize, _, rfl, ?_⟩
      rw [show decide (("BadSize" : Str) = nmE .T) = true from by decide +kernel]
      refine iteT ⟨.ref p.1, rfl, rfl, _, x, hd1, ?_, len3, fun t nt => ?_⟩
      · exact (by simp [fldE])
      · exact q _ t (s1.trans (Same.new nt)) (s1.back nt) upd_same
    | R =>
      refine ⟨_, (pss_cons (ps_if (PW.pt (pw_or (pt_not (pt_val (pe_callB (ErrX.call_isD hC hot) (by rfl) m_isinstance (by decide +kernel) (pa_cons (pv 0) (pa_cons (pe_bltn (by rfl) m_ValueError (by decide +kernel) (v := .ty "ValueError") rfl) pa_nil))))) (pw_or1 (pt_cmpR op_ne (ErrX.pe_callE (E := fun _ => E0) E_law_classes hr hot rfl g1 kp1 b1 (fun σ pins => ErrX.passN pins σ) (pa_cons (pv 0) pa_nil)) pe_int (nomark _))))) (pss_one (ps_ret (pe_tup (pa_cons pe_str (pa_cons pe_str (pa_cons pe_int pa_nil)))))) pss_nil)
      (pss_cons (ps_if (pt_val (pe_callB (ErrX.call_isD hC hot) (by rfl) m_isinstance (by decide +kernel) (pa_cons (pv 0) (pa_cons (pe_glob (v := .ref (ga "NoDepot")) rfl g_NoDepot rfl) pa_nil)))) (pss_one ps_never) pss_nil)
      (pss_cons (ps_if (pt_val (pe_callB (ErrX.call_isD hC hot) (by rfl) m_isinstance (by decide +kernel) (pa_cons (pv 0) (pa_cons (pe_glob (v := .ref (ga "NoCustomer")) rfl g_NoCustomer rfl) pa_nil)))) (pss_one ps_never) pss_nil)
      (pss_cons (ps_if (pt_val (pe_callB (ErrX.call_isD hC hot) (by rfl) m_isinstance (by decide +kernel) (pa_cons (pv 0) (pa_cons (pe_glob (v := .ref (ga "BadSize")) rfl g_BadSize rfl) pa_nil)))) (pss_one ps_never) pss_nil)
      (pss_cons (ps_if (pt_val (pe_callB (ErrX.call_isD hC hot) (by rfl) m_isinstance (by decide +kernel) (pa_cons (pv 0) (pa_cons (pe_glob (v := .ref (ga "TooMany")) rfl g_TooMany rfl) pa_nil)))) (pss_one (ps_ret (pe_tup (pa_cons pe_str (pa_cons pe_str (pa_cons (ErrX.pe_fldD hC hnb hot (pv 0)) pa_nil)))))) pss_nil)
      (pss_one (ps_ret (pe_tup (pa_cons pe_str (pa_cons pe_str (pa_cons pe_int pa_nil))))))))))), ?_⟩
      refine ⟨.ref p.1, rfl, .ty "ValueError", .type "ValueError", true, _, rfl, .ty _, hd, kv, _, rfl, iteF ⟨.ref p.1, rfl, .R, dd, _, rfl, rfl, rfl, hd, fun H1 s1 => ⟨rfl, _, rfl, ?_⟩⟩⟩
      rw [decide_eq_true (rfl : V.int 1 = V.int 1)]
      refine iteF ?_
      have hd1 := s1 _ _ hd
      refine ⟨.ref p.1, rfl, .ref (ga "NoDepot"), .ref (ga "NoDepot"), _, _, rfl, .own _, hd1, k_NoDepot, _, rfl, ?_⟩
      rw [show decide (("NoDepot" : Str) = nmE .R) = false from by decide +kernel]
      refine iteF ?_
      refine ⟨.ref p.1, rfl, .ref (ga "NoCustomer"), .ref (ga "NoCustomer"), _, _, rfl, .own _, hd1, k_NoCustomer, _, rfl, ?_⟩
      rw [show decide (("NoCustomer" : Str) = nmE .R) = false from by decide +kernel]
      refine iteF ?_
      refine ⟨.ref p.1, rfl, .ref (ga "BadSize"), .ref (ga "BadSize"), _, _, rfl, .own _, hd1, k_BadSize, _, rfl, ?_⟩
      rw [show decide (("BadSize" : Str) = nmE .R) = false from by decide +kernel]
      refine iteF ?_
      refine ⟨.ref p.1, rfl, .ref (ga "TooMany"), .ref (ga "TooMany"), _, _, rfl, .own _, hd1, k_TooMany, _, rfl, ?_⟩
      rw [show decide (("TooMany" : Str) = nmE .R) = true from by decide +kernel]
      refine iteT ⟨.ref p.1, rfl, rfl, _, x, hd1, ?_, len3, fun t nt => ?_⟩
      · exact (by simp [fldE])
      · exact q _ t (s1.trans (Same.new nt)) (s1.back nt) upd_same
end
end K05
set_option Elab.async false
set_option linter.all false
set_option maxRecDepth 100000
set_option maxHeartbeats 4000000
namespace K05
open PySem PySem.Spec PyProof.Rows L2
/-! ### two networks glued: numbers and routes -/
/-- the new number of the place i: c where it is the glued one b -/
def gi (d c b i : Nat) : Nat := if i < b then d + i else if i = b then c else d + i - 1
theorem gNum_len {a b c d : Nat} (h : b < a) : (gNum a b c d).length = a := by
  unfold gNum
  rw [List.length_append, List.length_append, List.length_map, List.length_map, List.length_range, List.length_range]
  show b + 1 + (a - (b + 1)) = a
  omega
theorem gNum_at {a b c d i : Nat} (h : b < a) (hi : i < a) : (gNum a b c d)[i]? = some (gi d c b i) := by
  unfold gNum gi
  have l1 : ((List.range b).map (d + ·)).length = b := by rw [List.length_map, List.length_range]
  rw [List.append_assoc]
  by_cases h1 : i < b
  · rw [List.getElem?_append_left (by rw [l1]; exact h1), if_pos h1, List.getElem?_map, List.getElem?_range h1]
    rfl
  · rw [List.getElem?_append_right (by rw [l1]; omega), l1, if_neg h1]
    by_cases h2 : i = b
    · subst h2
      rw [Nat.sub_self, if_pos rfl]
      rfl
    · rw [if_neg h2, List.getElem?_append_right (by show 1 ≤ _; omega)]
      show (List.map _ _)[i - b - 1]? = _
      rw [List.getElem?_map, List.getElem?_range (by omega)]
      show some (d + (b + 1 + (i - b - 1)) - 1) = _
      congr 1
      omega
/-- a route of the second network, glued at depots -/
def gp (m1 n1 x y : Nat) (p : Nat × Nat) : Nat × Nat := (gi m1 x y p.1, n1 + p.2)
def gl (m1 n1 x y : Nat) (ps1 ps2 : List (Nat × Nat)) : List (Nat × Nat) := ps1 ++ ps2.map (gp m1 n1 x y)
/-- the same by side: true: glued at customers -/
def gls (s : Bool) (m1 n1 x y : Nat) (ps1 ps2 : List (Nat × Nat)) : List (Nat × Nat) := if s then (gl n1 m1 x y (ps1.map swp) (ps2.map swp)).map swp else gl m1 n1 x y ps1 ps2
theorem map_swp2 (ps : List (Nat × Nat)) : (ps.map swp).map swp = ps := by
  rw [List.map_map]
  exact (List.map_congr_left fun p _ => rfl).trans (List.map_id ps)
theorem gls_len (s : Bool) (m1 n1 x y : Nat) (ps1 ps2 : List (Nat × Nat)) : (gls s m1 n1 x y ps1 ps2).length = ps1.length + ps2.length := by
  cases s with
  | false =>
    show (ps1 ++ ps2.map _).length = _
    rw [List.length_append, List.length_map]
  | true =>
    show (List.map swp (List.map swp ps1 ++ List.map _ (ps2.map swp))).length = _
    rw [List.length_map, List.length_append, List.length_map, List.length_map, List.length_map]
theorem gl_fit {m1 n1 m2 n2 x y : Nat} {ps1 ps2 : List (Nat × Nat)} (f1 : Fit m1 n1 ps1) (f2 : Fit m2 n2 ps2) (hx : x < m1) (hy : y < m2) : Fit (m1 + m2 - 1) (n1 + n2) (gl m1 n1 x y ps1 ps2) := by
  unfold gl
  refine ⟨List.nodup_append.mpr ⟨f1.1, ?_, fun a ha b hb e => ?_⟩, fun p hp => ?_⟩
  · have nd := f2.1
    rw [List.nodup_iff_pairwise_ne] at nd ⊢
    rw [List.pairwise_map]
    refine List.Pairwise.imp_of_mem ?_ nd
    intro a b ha hb ne e
    have e1 : gi m1 x y a.1 = gi m1 x y b.1 := congrArg Prod.fst e
    have e2 : n1 + a.2 = n1 + b.2 := congrArg Prod.snd e
    refine ne (Prod.ext ?_ (by omega))
    unfold gi at e1
    split at e1 <;> split at e1 <;> (try split at e1) <;> (try split at e1) <;> omega
  · obtain ⟨q, hq, rfl⟩ := List.mem_map.mp hb
    have h1 := (f1.2 a ha).2
    rw [e] at h1
    have : (gp m1 n1 x y q).2 = n1 + q.2 := rfl
    omega
  · rcases List.mem_append.mp hp with hp | hp
    · have := f1.2 p hp
      exact ⟨by omega, by omega⟩
    · obtain ⟨q, hq, rfl⟩ := List.mem_map.mp hp
      have := f2.2 q hq
      refine ⟨?_, by show n1 + q.2 < _; omega⟩
      show gi m1 x y q.1 < _
      unfold gi
      split
      · omega
      · split <;> omega
theorem swp_fit {m n : Nat} {ps : List (Nat × Nat)} (h : Fit m n ps) : Fit n m (ps.map swp) := ⟨swp_nodup h.1, fun p hp => by
  obtain ⟨q, hq, rfl⟩ := List.mem_map.mp hp
  exact ⟨(h.2 q hq).2, (h.2 q hq).1⟩⟩
/-- how large the glued network is -/
def gM (s : Bool) (m1 m2 : Nat) : Nat := if s then m1 + m2 else m1 + m2 - 1
def pcN (s : Bool) (a b : Nat) : Nat := if s then b else a
theorem gls_fit {s : Bool} {m1 n1 m2 n2 x y : Nat} {ps1 ps2 : List (Nat × Nat)} (f1 : Fit m1 n1 ps1) (f2 : Fit m2 n2 ps2) (hx : x < pcN s m1 n1) (hy : y < pcN s m2 n2) : Fit (gM s m1 m2) (gM (!s) n1 n2) (gls s m1 n1 x y ps1 ps2) := by
  cases s with
  | false => exact gl_fit f1 f2 hx hy
  | true => exact swp_fit (gl_fit (swp_fit f1) (swp_fit f2) hx hy)
/-- what is refused -/
def gDue (s : Bool) (m1 n1 k1 m2 n2 k2 : Nat) (x y : Int) : Option (Er4 × Int) :=
  if 0 ≤ x ∧ x < (pcN s m1 n1 : Int) then
    if 0 ≤ y ∧ y < (pcN s m2 n2 : Int) then
      if gM s m1 m2 ≤ 8 then
        if gM (!s) n1 n2 ≤ 8 then if k1 + k2 ≤ 16 then none else some (.R, 16)
        else some (.T, (gM (!s) n1 n2 : Nat))
      else some (.T, (gM s m1 m2 : Nat))
    else some (if s then .C else .N, y)
  else some (if s then .C else .N, x)
theorem gDue_none {s : Bool} {m1 n1 k1 m2 n2 k2 : Nat} {x y : Int} : gDue s m1 n1 k1 m2 n2 k2 x y = none ↔ (0 ≤ x ∧ x < (pcN s m1 n1 : Int)) ∧ (0 ≤ y ∧ y < (pcN s m2 n2 : Int)) ∧ gM s m1 m2 ≤ 8 ∧ gM (!s) n1 n2 ≤ 8 ∧ k1 + k2 ≤ 16 := by
  unfold gDue
  constructor
  · intro h
    split at h
    · split at h
      · split at h
        · split at h
          · split at h
            · exact ⟨by assumption, by assumption, by assumption, by assumption, by assumption⟩
            · cases h
          · cases h
        · cases h
      · cases h
    · cases h
  · intro ⟨h1, h2, h3, h4, h5⟩
    rw [if_pos h1, if_pos h2, if_pos h3, if_pos h4, if_pos h5]
theorem gDue_turn {s : Bool} {m1 n1 k1 m2 n2 k2 : Nat} {x y : Int} (h : gDue s m1 n1 k1 m2 n2 k2 x y = none) : gDue (!s) n1 m1 k1 n2 m2 k2 x y = none := by
  obtain ⟨h1, h2, h3, h4, h5⟩ := gDue_none.mp h
  refine gDue_none.mpr ⟨?_, ?_, h4, ?_, h5⟩
  · cases s <;> exact h1
  · cases s <;> exact h2
  · rw [Bool.not_not]
    exact h3
theorem gls_turn (s : Bool) (m1 n1 x y : Nat) (ps1 ps2 : List (Nat × Nat)) : gls (!s) n1 m1 x y (ps1.map swp) (ps2.map swp) = (gls s m1 n1 x y ps1 ps2).map swp := by
  cases s with
  | false =>
    show (gl m1 n1 x y ((ps1.map swp).map swp) ((ps2.map swp).map swp)).map swp = _
    rw [map_swp2, map_swp2]
    rfl
  | true =>
    show gl n1 m1 x y (ps1.map swp) (ps2.map swp) = ((gl n1 m1 x y (ps1.map swp) (ps2.map swp)).map swp).map swp
    rw [map_swp2]
theorem gl_perm {m1 n1 x y : Nat} {a b a' b' : List (Nat × Nat)} (h : a.Perm a') (k : b.Perm b') : (gl m1 n1 x y a b).Perm (gl m1 n1 x y a' b') := h.append (k.map _)
theorem gls_perm {s : Bool} {m1 n1 x y : Nat} {a b a' b' : List (Nat × Nat)} (h : a.Perm a') (k : b.Perm b') : (gls s m1 n1 x y a b).Perm (gls s m1 n1 x y a' b') := by
  cases s with
  | false => exact gl_perm h k
  | true => exact (gl_perm (h.map _) (k.map _)).map _
/-- a network: numbers and routes -/
def NG (C : Addr) (H : Hp) (p : Addr) (m n : Nat) (ps : List (Nat × Nat)) : Prop := ∃ (zs : List Z) (ws : List P4), NetAt C H p m n zs ws ∧ Fit m n ps ∧ 1 ≤ m ∧ 1 ≤ n ∧ zs.map (·.2) = ps
theorem NG.keep {C : Addr} {H H' : Hp} {p : Addr} {m n : Nat} {ps : List (Nat × Nat)} (h : NG C H p m n ps) (e : Same H H') : NG C H' p m n ps := by
  obtain ⟨zs, ws, a, b, c, d, f⟩ := h
  exact ⟨zs, ws, a.keep e, b, c, d, f⟩
/-- the constructor, refusals among what it does; its check functions -/
def spGlue (s : Bool) (C : Addr) (ca : Er4 → Addr) : Sp := fun vs H Q E => ∃ (p1 p2 : Addr) (x y : Int) (m1 n1 m2 n2 : Nat) (ps1 ps2 : List (Nat × Nat)), vs = [.ref p1, .ref p2, .int x, .int y] ∧ NG C H p1 m1 n1 ps1 ∧ NG C H p2 m2 n2 ps2 ∧
  (∀ e v, gDue s m1 n1 ps1.length m2 n2 ps2.length x y = some (e, v) → ∀ (H' : Hp) (d : Addr), Same H H' → H d = none → H' d = some (.xd [(fldE e, .int v)]) → E (.ref (ca e)) (some d) H') ∧
  (gDue s m1 n1 ps1.length m2 n2 ps2.length x y = none → ∀ (H' : Hp) (q : Addr) (qs : List (Nat × Nat)), Same H H' → H q = none → NG C H' q (gM s m1 m2) (gM (!s) n1 n2) qs → Asc qs (gls s m1 n1 x.toNat y.toNat ps1 ps2) → Q (.ref q) H')
end K05
set_option Elab.async false
set_option linter.all false
set_option maxRecDepth 100000
set_option maxHeartbeats 4000000
namespace K05
open PySem PySem.Spec PyProof.Rows L2
/-- the own iteration -/
structure OwI (P : Program) (w : World) (K : PySem.W.Frag) (mg : Str → Option Value) (C f : Addr) (fd : FuncData) : Prop where
  s : PySem.W.findIn K (.ref C) "__iter__" = some (some (.ref f))
  fn : PySem.W.isFn K (.ref f) = true
  ok : ∀ base : Heap, FnOk P w K mg base (L2N.CX P w) 1 f fd ["self"] (spIter C base.objs.size)
  b : Binds K fd ["self"] []
section
variable {P : Program} {w : World} {K : PySem.W.Frag} {mg : Str → Option Value} {base : Heap} {f : Addr} {fd : FuncData}
/-! ### glue_depots -/
abbrev glue_depots_N : List Str := ["first", "second", "at", "other", "numbers", "routes", "depot", "customer"]
theorem glue_depots_sc : FnScope ["first", "second", "at", "other", "numbers", "routes", "depot", "customer"] ["first", "second", "at", "other"] (defScope glue_depots_st) := ⟨rfl, rfl, rfl, by decide +kernel, rfl, by decide +kernel, by decide +kernel⟩
theorem ok_glueD {C CB CT f1 f2 f3 f4 p1 p2 p3 g1 g2 g3 : Addr} {fd1 fd2 fd3 fd4 gd1 gd2 gd3 : FuncData} {ca : Er4 → Addr} {uP uR : Value} (F : FnS K "glue_depots" glue_depots_st f fd) (T : NetC K C uP uR)
    (D_check_depot : Dn P w K mg base 3 "check_depot" ["depot", "depots"] (spDepot (ca .N)) f1 fd1) (D_glued_numbers : Dn P w K mg base 1 "_glued_numbers" ["many", "glued", "into", "start"] spGNum f2 fd2)
    (D_Network : NwE P w K mg base C (ca .T) (ca .R) f3 fd3) (O_iter : OwI P w K mg C f4 fd4)
    (P_depots : PrD P w K mg base 1 C "depots" (spNum C fun m _ _ _ => nV m) p1 g1 gd1) (P_customers : PrD P w K mg base 1 C "customers" (spNum C fun _ n _ _ => nV n) p2 g2 gd2) (P_routes : PrD P w K mg base 1 C "routes" (spRoutes C) p3 g3 gd3) :
    FnOk P w K mg base (L2N.CX P w) 7 f fd ["first", "second", "at", "other"] (spGlue false C ca) := by
  refine F.ok glue_depots_sc (fun vs H Q E h => ?_) (fun cdv A outer s H vs Q E hr h => ?_)
  · obtain ⟨p1, p2, x, y, m1, n1, m2, n2, ps1, ps2, rfl, _⟩ := h
    rfl
  · obtain ⟨p1, p2, x, y, m1, n1, m2, n2, ps1, ps2, rfl, ⟨zs1, ws1, N1, f1, l1, l1', rfl⟩, ⟨zs2, ws2, N2, f2, l2, l2', rfl⟩, er, q⟩ := h
    obtain ⟨dx1, r1, di1, g1, hp1, hr1, hg1⟩ := N1.ob
    obtain ⟨dx2, r2, di2, g2, hp2, hr2, hg2⟩ := N2.ob
    refine ⟨_, (pss_cons (ps_expr (pe_callS D_check_depot.ok (hr.mono (by decide)) rfl D_check_depot.g D_check_depot.kp D_check_depot.b (fun σ => L2N.passAt (L2N.takes_of rfl rfl rfl rfl) σ) (pa_cons (pv 2) (pa_cons (pe_prop (pv 0) T.cl P_depots.po P_depots.ok (hr.mono (by decide)) P_depots.b .nil ErrX.passN rfl) pa_nil))))
      (pss_cons (ps_expr (pe_callS D_check_depot.ok (hr.mono (by decide)) rfl D_check_depot.g D_check_depot.kp D_check_depot.b (fun σ => L2N.passAt (L2N.takes_of rfl rfl rfl rfl) σ) (pa_cons (pv 3) (pa_cons (pe_prop (pv 1) T.cl P_depots.po P_depots.ok (hr.mono (by decide)) P_depots.b .nil ErrX.passN rfl) pa_nil))))
      (pss_cons (ps_set (i := 4) glue_depots_sc.nd rfl (Or.inr rfl) (pe_call D_glued_numbers.ok (hr.mono (by decide)) rfl D_glued_numbers.g D_glued_numbers.kp D_glued_numbers.b .nil ErrX.passN (pa_cons (pe_prop (pv 1) T.cl P_depots.po P_depots.ok (hr.mono (by decide)) P_depots.b .nil ErrX.passN rfl) (pa_cons (pv 3) (pa_cons (pv 2) (pa_cons (pe_prop (pv 0) T.cl P_depots.po P_depots.ok (hr.mono (by decide)) P_depots.b .nil ErrX.passN rfl) pa_nil))))))
      (pss_cons (ps_setLc (i := 5) (own := [("depot", 6), ("customer", 7)]) rfl glue_depots_sc.nd rfl rfl (sw_true rfl rfl rfl (by decide +kernel)) (OwnM.pi_ownL (pv 1) O_iter.ok (hr.mono (by decide)) O_iter.b ErrX.passN O_iter.s O_iter.fn) (blkOk_by (own := [("depot", 6), ("customer", 7)]) (N := glue_depots_N) (sc := defScope glue_depots_st) (by decide +kernel)) (fun _ _ _ _ _ => (pg_tup rfl (pgs_cons (pg_name (i := 6) glue_depots_sc.nd rfl (Or.inl rfl)) (pgs_cons (pg_name (i := 7) glue_depots_sc.nd rfl (Or.inl rfl)) pgs_nil)) : PG _ _ (gTup K 2 _))) (fun _ _ _ _ _ => pts_nil) (fun _ _ _ _ _ => (pe_tup (pa_cons (pe_ix (ix_list : IxR _ (rIxL K)) (pv 4) (pv 6) (fun _ _ => rfl)) (pa_cons (pe_op op_add (pe_prop (pv 0) T.cl P_customers.po P_customers.ok (hr.mono (by decide)) P_customers.b .nil ErrX.passN rfl) (pv 7)) pa_nil)))))
      (pss_one (ps_ret (pe_make D_Network.mkk D_Network.ok (hr.mono (by decide)) rfl D_Network.g D_Network.b .nil (fun pins σ H s e s1 I c => L2N.passAt (L2N.takes_of rfl rfl rfl rfl) σ pins H s e s1 I c) (pa_cons (pe_op op_sub (pe_op op_add (pe_prop (pv 0) T.cl P_depots.po P_depots.ok (hr.mono (by decide)) P_depots.b .nil ErrX.passN rfl) (pe_prop (pv 1) T.cl P_depots.po P_depots.ok (hr.mono (by decide)) P_depots.b .nil ErrX.passN rfl)) pe_int) (pa_cons (pe_op op_add (pe_prop (pv 0) T.cl P_customers.po P_customers.ok (hr.mono (by decide)) P_customers.b .nil ErrX.passN rfl) (pe_prop (pv 1) T.cl P_customers.po P_customers.ok (hr.mono (by decide)) P_customers.b .nil ErrX.passN rfl)) (pa_cons (pe_op op_cat (pe_prop (pv 0) T.cl P_routes.po P_routes.ok (hr.mono (by decide)) P_routes.b .nil ErrX.passN rfl) (pv 5)) pa_nil)))))))))), ?_⟩
    refine ⟨.int x, rfl, .ref p1, rfl, p1, dx1, _, rfl, hp1, p1, m1, n1, zs1, ws1, rfl, N1, x, m1, rfl, fun hx => ?_, fun hx d nd' => er .N x (if_neg hx) _ d (Same.new nd') nd' upd_same⟩
    refine ⟨.int y, rfl, .ref p2, rfl, p2, dx2, _, rfl, hp2, p2, m2, n2, zs2, ws2, rfl, N2, y, m2, rfl, fun hy => ?_, fun hy d nd' => er .N y ((if_pos hx).trans (if_neg hy)) _ d (Same.new nd') nd' upd_same⟩
    obtain ⟨xn, rfl⟩ := Int.eq_ofNat_of_zero_le hx.1
    obtain ⟨yn, rfl⟩ := Int.eq_ofNat_of_zero_le hy.1
    have hxn : xn < m1 := by omega
    have hyn : yn < m2 := by omega
    refine ⟨.ref p2, rfl, p2, dx2, _, rfl, hp2, p2, m2, n2, zs2, ws2, rfl, N2, nV yn, rfl, nV xn, rfl, .ref p1, rfl, p1, dx1, _, rfl, hp1, p1, m1, n1, zs1, ws1, rfl, N1, m2, yn, xn, m1, rfl, hyn, N2.m8, N1.m8, fun H1 D s1 nD hD => ?_⟩
    refine ⟨.ref p2, rfl, p2, dx2, _, rfl, s1 _ _ hp2, fun k => ⟨p2, m2, n2, zs2, ws2, rfl, N2.keep s1, fun it r hr' nit le => ⟨it, r, rfl, nit, le, rfl, fun D2 nD2 => ?_⟩⟩⟩
    have nDD : D ≠ D2 := ne_of_none hD nD2
    refine lc_list (K := K) (a := r) (xs := zs2.map zV) (fun i H' => ∃ us : List Z, Same H1 H' ∧ H' D2 = some (.lst (us.map zV)) ∧ PrZ H' us ∧ us.map (·.2) = ((zs2.map (·.2)).take i).map (gp m1 n1 xn yn)) ⟨[], Same.new nD2, upd_same, (fun _ h => nomatch h), rfl⟩ (fun i H' _ h => ?_) (fun i v H' hv h => ?_) (fun H2 h => ?_)
    · obtain ⟨us, sm, _⟩ := h
      exact sq (sm _ _ hr')
    · obtain ⟨us, sm, hD2, pu, eu⟩ := h
      obtain ⟨z, ez, mz, rfl⟩ := item_zV hv
      have sH := s1.trans sm
      have hz := sH _ _ (N2.pr z mz)
      have hi : i < 16 := Nat.lt_of_lt_of_le (List.getElem?_eq_some_iff.mp ez).1 N2.few
      have ul : us.length ≤ i := by
        have := congrArg List.length eu
        rw [List.length_map, List.length_map, List.length_take] at this
        omega
      have zin := N2.inr z mz
      have at_ : ((gNum m2 yn xn m1).map nV)[z.2.1]? = some (nV (gi m1 xn yn z.2.1)) := by rw [List.getElem?_map, gNum_at hyn zin.1]; rfl
      refine ⟨z.1, [nV z.2.1, nV z.2.2], rfl, sqt hz, rfl, nV z.2.1, [nV z.2.2], rfl, nV z.2.2, [], rfl, rfl, rfl, ?_⟩
      refine ⟨.ref D, rfl, nV z.2.1, rfl, D, _, (z.2.1 : Int), nV (gi m1 xn yn z.2.1), rfl, rfl, sq (sm _ _ hD), atI_nat at_, .ref p1, rfl, p1, dx1, _, rfl, sH _ _ hp1, p1, m1, n1, zs1, ws1, rfl, N1.keep sH, nV z.2.2, rfl, (n1 : Int), (z.2.2 : Int), rfl, rfl, len2, fun t nt => ?_⟩
      have st := Same.new (o := .tup [nV (gi m1 xn yn z.2.1), V.int ((n1 : Int) + (z.2.2 : Int))]) nt
      have hD3 := st _ _ hD2
      have ntD : t ≠ D2 := (ne_of_none hD2 nt).symm
      refine ⟨_, hD3, small1000 (by rw [List.length_map]; omega), us ++ [(t, gi m1 xn yn z.2.1, n1 + z.2.2)], (sm.trans st).mut nD2, ?_, ?_, ?_⟩
      · rw [upd_same, List.map_append]
        rfl
      · intro u hu
        rcases List.mem_append.mp hu with hu | hu
        · have := st _ _ (pu u hu)
          rw [upd_ne (fun e => by rw [e, hD3] at this; cases this)]
          exact this
        · rw [List.mem_singleton.mp hu]
          show upd _ D2 _ t = _
          rw [upd_ne ntD]
          exact upd_same
      · rw [List.map_append, eu, List.take_add_one, zs_at ez, List.map_append]
        rfl
    obtain ⟨us, s2, hD2, pu, eu⟩ := h
    rw [List.take_of_length_le (by rw [List.length_map, List.length_map]; exact Nat.le_refl _)] at eu
    have sH := s1.trans s2
    refine ⟨.ref p1, rfl, p1, dx1, _, rfl, sH _ _ hp1, p1, m1, n1, zs1, ws1, rfl, N1.keep sH, .ref p2, rfl, p2, dx2, _, rfl, sH _ _ hp2, p2, m2, n2, zs2, ws2, rfl, N2.keep sH, (m1 : Int), (m2 : Int), rfl, rfl, (m1 : Int) + (m2 : Int), 1, rfl, rfl, ?_⟩
    refine ⟨.ref p1, rfl, p1, dx1, _, rfl, sH _ _ hp1, p1, m1, n1, zs1, ws1, rfl, N1.keep sH, .ref p2, rfl, p2, dx2, _, rfl, sH _ _ hp2, p2, m2, n2, zs2, ws2, rfl, N2.keep sH, (n1 : Int), (n2 : Int), rfl, rfl, ?_⟩
    refine ⟨.ref p1, rfl, p1, dx1, _, rfl, sH _ _ hp1, p1, m1, n1, zs1, ws1, rfl, N1.keep sH, fun H3 R s3 nR hR => ?_⟩
    have lz : us.length ≤ 16 := by
      have := congrArg List.length eu
      rw [List.length_map, List.length_map, List.length_map] at this
      have := N2.few
      omega
    refine ⟨.ref D2, rfl, R, D2, _, _, rfl, rfl, hR, s3 _ _ hD2, Nat.le_of_lt (small1000 (by rw [List.length_map, List.length_map]; have := N1.few; omega)), fun e ne => ?_⟩
    have s4 := Same.new (o := .lst (zs1.map zV ++ us.map zV)) ne
    have sA := sH.trans (s3.trans s4)
    intro p dy np ndy nep
    have sM : Same (upd H3 e (.lst (zs1.map zV ++ us.map zV))) (upd (upd (upd H3 e (.lst (zs1.map zV ++ us.map zV))) dy (.own p)) p (.ins C dy [])) := ((Same.refl _).mut ndy).mut np
    have sB := sA.trans sM
    have eM : (m1 : Int) + (m2 : Int) - 1 = ((gM false m1 m2 : Nat) : Int) := by
      show _ = ((m1 + m2 - 1 : Nat) : Int)
      omega
    have eR : (zs1 ++ us).map (·.2) = gls false m1 n1 xn yn (zs1.map (·.2)) (zs2.map (·.2)) := by
      rw [List.map_append, eu]
      rfl
    have fit : Fit (gM false m1 m2) (gM (!false) n1 n2) ((zs1 ++ us).map (·.2)) := by
      rw [eR]
      exact gls_fit f1 f2 hxn hyn
    have k12 : (zs1 ++ us).length = (zs1.map (·.2)).length + (zs2.map (·.2)).length := by
      rw [← gls_len false m1 n1 xn yn, ← eR, List.length_map]
    have n8 : gM (!false) n1 n2 = n1 + n2 := rfl
    refine ⟨p, e, dy, gM false m1 m2, gM (!false) n1 n2, zs1 ++ us, ?_, upd_same, ?_, ?_, fit, by rw [List.length_append]; have := N1.few; omega, by show 1 ≤ m1 + m2 - 1; omega, by show 1 ≤ n1 + n2; omega,
      fun big d nd' => er .T _ ?_ _ d (sB.trans (Same.new nd')) (sB.back nd') upd_same,
      fun ok8 big d nd' => er .T _ ?_ _ d (sB.trans (Same.new nd')) (sB.back nd') upd_same,
      fun ok8 ok8' big H' d sD nd' hd => er .R _ ?_ H' d (sB.trans sD) (sB.back nd') hd,
      fun ok8 ok8' few H' zq wq bN Nq asc _ _ _ => ⟨rfl, ?_⟩⟩
    · show [V.ref p, V.int ((m1 : Int) + (m2 : Int) - 1), V.int ((n1 : Int) + (n2 : Int)), V.ref e] = _
      rw [eM]
      rfl
    · rw [List.map_append]
      exact sM _ _ upd_same
    · intro z hz
      rcases List.mem_append.mp hz with hz | hz
      · exact sB _ _ (N1.pr z hz)
      · exact sM _ _ (s4 _ _ (s3 _ _ (pu z hz)))
    · exact (if_pos hx).trans ((if_pos hy).trans (if_neg (by omega)))
    · exact (if_pos hx).trans ((if_pos hy).trans ((if_pos ok8).trans (if_neg (by omega))))
    · exact (if_pos hx).trans ((if_pos hy).trans ((if_pos ok8).trans ((if_pos ok8').trans (if_neg (by omega)))))
    · have sq' : Same (upd H3 e (.lst (zs1.map zV ++ us.map zV))) H' := fun b o h => bN b o (ne_of_none h np) (sM b o h)
      rw [eR] at asc
      refine q (gDue_none.mpr ⟨hx, hy, ok8, ok8', by omega⟩) H' p _ (sA.trans sq') (sA.back np) ⟨zq, wq, Nq, ?_, by show 1 ≤ m1 + m2 - 1; omega, by show 1 ≤ n1 + n2; omega, rfl⟩ asc
      rw [eR] at fit
      exact ⟨asc.1.nodup_iff.mpr fit.1, fun c hc => fit.2 c (asc.1.mem_iff.mp hc)⟩
end
end K05
set_option Elab.async false
set_option linter.all false
set_option maxRecDepth 100000
set_option maxHeartbeats 4000000
namespace K05
open PySem PySem.Spec PyProof.Rows L2
/-- a route of the second network, glued at customers -/
def gq (m1 n1 x y : Nat) (p : Nat × Nat) : Nat × Nat := (m1 + p.1, gi n1 x y p.2)
theorem gls_true (m1 n1 x y : Nat) (ps1 ps2 : List (Nat × Nat)) : gls true m1 n1 x y ps1 ps2 = ps1 ++ ps2.map (gq m1 n1 x y) := by
  show (List.map swp (List.map swp ps1 ++ List.map (gp n1 m1 x y) (ps2.map swp))) = _
  rw [List.map_append, map_swp2, List.map_map, List.map_map]
  rfl
section
variable {P : Program} {w : World} {K : PySem.W.Frag} {mg : Str → Option Value} {base : Heap} {f : Addr} {fd : FuncData}
/-! ### glue_customers -/
abbrev glue_customers_N : List Str := ["first", "second", "at", "other", "numbers", "routes", "depot", "customer"]
theorem glue_customers_sc : FnScope ["first", "second", "at", "other", "numbers", "routes", "depot", "customer"] ["first", "second", "at", "other"] (defScope glue_customers_st) := ⟨rfl, rfl, rfl, by decide +kernel, rfl, by decide +kernel, by decide +kernel⟩
theorem ok_glueC {C CB CT f1 f2 f3 f4 p1 p2 p3 g1 g2 g3 : Addr} {fd1 fd2 fd3 fd4 gd1 gd2 gd3 : FuncData} {ca : Er4 → Addr} {uP uR : Value} (F : FnS K "glue_customers" glue_customers_st f fd) (T : NetC K C uP uR)
    (D_check_customer : Dn P w K mg base 3 "check_customer" ["customer", "customers"] (spCustB (ca .C)) f1 fd1) (D_glued_numbers : Dn P w K mg base 1 "_glued_numbers" ["many", "glued", "into", "start"] spGNum f2 fd2)
    (D_Network : NwE P w K mg base C (ca .T) (ca .R) f3 fd3) (O_iter : OwI P w K mg C f4 fd4)
    (P_depots : PrD P w K mg base 1 C "depots" (spNum C fun m _ _ _ => nV m) p1 g1 gd1) (P_customers : PrD P w K mg base 1 C "customers" (spNum C fun _ n _ _ => nV n) p2 g2 gd2) (P_routes : PrD P w K mg base 1 C "routes" (spRoutes C) p3 g3 gd3) :
    FnOk P w K mg base (L2N.CX P w) 7 f fd ["first", "second", "at", "other"] (spGlue true C ca) := by
  refine F.ok glue_customers_sc (fun vs H Q E h => ?_) (fun cdv A outer s H vs Q E hr h => ?_)
  · obtain ⟨p1, p2, x, y, m1, n1, m2, n2, ps1, ps2, rfl, _⟩ := h
    rfl
  · obtain ⟨p1, p2, x, y, m1, n1, m2, n2, ps1, ps2, rfl, ⟨zs1, ws1, N1, f1, l1, l1', rfl⟩, ⟨zs2, ws2, N2, f2, l2, l2', rfl⟩, er, q⟩ := h
    obtain ⟨dx1, r1, di1, g1, hp1, hr1, hg1⟩ := N1.ob
    obtain ⟨dx2, r2, di2, g2, hp2, hr2, hg2⟩ := N2.ob
    refine ⟨_, (pss_cons (ps_expr (pe_callS D_check_customer.ok (hr.mono (by decide)) rfl D_check_customer.g D_check_customer.kp D_check_customer.b (fun σ => L2N.passAt (L2N.takes_of rfl rfl rfl rfl) σ) (pa_cons (pv 2) (pa_cons (pe_prop (pv 0) T.cl P_customers.po P_customers.ok (hr.mono (by decide)) P_customers.b .nil ErrX.passN rfl) pa_nil))))
      (pss_cons (ps_expr (pe_callS D_check_customer.ok (hr.mono (by decide)) rfl D_check_customer.g D_check_customer.kp D_check_customer.b (fun σ => L2N.passAt (L2N.takes_of rfl rfl rfl rfl) σ) (pa_cons (pv 3) (pa_cons (pe_prop (pv 1) T.cl P_customers.po P_customers.ok (hr.mono (by decide)) P_customers.b .nil ErrX.passN rfl) pa_nil))))
      (pss_cons (ps_set (i := 4) glue_customers_sc.nd rfl (Or.inr rfl) (pe_call D_glued_numbers.ok (hr.mono (by decide)) rfl D_glued_numbers.g D_glued_numbers.kp D_glued_numbers.b .nil ErrX.passN (pa_cons (pe_prop (pv 1) T.cl P_customers.po P_customers.ok (hr.mono (by decide)) P_customers.b .nil ErrX.passN rfl) (pa_cons (pv 3) (pa_cons (pv 2) (pa_cons (pe_prop (pv 0) T.cl P_customers.po P_customers.ok (hr.mono (by decide)) P_customers.b .nil ErrX.passN rfl) pa_nil))))))
      (pss_cons (ps_setLc (i := 5) (own := [("depot", 6), ("customer", 7)]) rfl glue_customers_sc.nd rfl rfl (sw_true rfl rfl rfl (by decide +kernel)) (OwnM.pi_ownL (pv 1) O_iter.ok (hr.mono (by decide)) O_iter.b ErrX.passN O_iter.s O_iter.fn) (blkOk_by (own := [("depot", 6), ("customer", 7)]) (N := glue_customers_N) (sc := defScope glue_customers_st) (by decide +kernel)) (fun _ _ _ _ _ => (pg_tup rfl (pgs_cons (pg_name (i := 6) glue_customers_sc.nd rfl (Or.inl rfl)) (pgs_cons (pg_name (i := 7) glue_customers_sc.nd rfl (Or.inl rfl)) pgs_nil)) : PG _ _ (gTup K 2 _))) (fun _ _ _ _ _ => pts_nil) (fun _ _ _ _ _ => (pe_tup (pa_cons (pe_op op_add (pe_prop (pv 0) T.cl P_depots.po P_depots.ok (hr.mono (by decide)) P_depots.b .nil ErrX.passN rfl) (pv 6)) (pa_cons (pe_ix (ix_list : IxR _ (rIxL K)) (pv 4) (pv 7) (fun _ _ => rfl)) pa_nil)))))
      (pss_one (ps_ret (pe_make D_Network.mkk D_Network.ok (hr.mono (by decide)) rfl D_Network.g D_Network.b .nil (fun pins σ H s e s1 I c => L2N.passAt (L2N.takes_of rfl rfl rfl rfl) σ pins H s e s1 I c) (pa_cons (pe_op op_add (pe_prop (pv 0) T.cl P_depots.po P_depots.ok (hr.mono (by decide)) P_depots.b .nil ErrX.passN rfl) (pe_prop (pv 1) T.cl P_depots.po P_depots.ok (hr.mono (by decide)) P_depots.b .nil ErrX.passN rfl)) (pa_cons (pe_op op_sub (pe_op op_add (pe_prop (pv 0) T.cl P_customers.po P_customers.ok (hr.mono (by decide)) P_customers.b .nil ErrX.passN rfl) (pe_prop (pv 1) T.cl P_customers.po P_customers.ok (hr.mono (by decide)) P_customers.b .nil ErrX.passN rfl)) pe_int) (pa_cons (pe_op op_cat (pe_prop (pv 0) T.cl P_routes.po P_routes.ok (hr.mono (by decide)) P_routes.b .nil ErrX.passN rfl) (pv 5)) pa_nil)))))))))), ?_⟩
    refine ⟨.int x, rfl, .ref p1, rfl, p1, dx1, _, rfl, hp1, p1, m1, n1, zs1, ws1, rfl, N1, x, n1, rfl, fun hx => ?_, fun hx d nd' => er .C x (if_neg hx) _ d (Same.new nd') nd' upd_same⟩
    refine ⟨.int y, rfl, .ref p2, rfl, p2, dx2, _, rfl, hp2, p2, m2, n2, zs2, ws2, rfl, N2, y, n2, rfl, fun hy => ?_, fun hy d nd' => er .C y ((if_pos hx).trans (if_neg hy)) _ d (Same.new nd') nd' upd_same⟩
    obtain ⟨xn, rfl⟩ := Int.eq_ofNat_of_zero_le hx.1
    obtain ⟨yn, rfl⟩ := Int.eq_ofNat_of_zero_le hy.1
    have hxn : xn < n1 := by omega
    have hyn : yn < n2 := by omega
    refine ⟨.ref p2, rfl, p2, dx2, _, rfl, hp2, p2, m2, n2, zs2, ws2, rfl, N2, nV yn, rfl, nV xn, rfl, .ref p1, rfl, p1, dx1, _, rfl, hp1, p1, m1, n1, zs1, ws1, rfl, N1, n2, yn, xn, n1, rfl, hyn, N2.n8, N1.n8, fun H1 D s1 nD hD => ?_⟩
    refine ⟨.ref p2, rfl, p2, dx2, _, rfl, s1 _ _ hp2, fun k => ⟨p2, m2, n2, zs2, ws2, rfl, N2.keep s1, fun it r hr' nit le => ⟨it, r, rfl, nit, le, rfl, fun D2 nD2 => ?_⟩⟩⟩
    have nDD : D ≠ D2 := ne_of_none hD nD2
    refine lc_list (K := K) (a := r) (xs := zs2.map zV) (fun i H' => ∃ us : List Z, Same H1 H' ∧ H' D2 = some (.lst (us.map zV)) ∧ PrZ H' us ∧ us.map (·.2) = ((zs2.map (·.2)).take i).map (gq m1 n1 xn yn)) ⟨[], Same.new nD2, upd_same, (fun _ h => nomatch h), rfl⟩ (fun i H' _ h => ?_) (fun i v H' hv h => ?_) (fun H2 h => ?_)
    · obtain ⟨us, sm, _⟩ := h
      exact sq (sm _ _ hr')
    · obtain ⟨us, sm, hD2, pu, eu⟩ := h
      obtain ⟨z, ez, mz, rfl⟩ := item_zV hv
      have sH := s1.trans sm
      have hz := sH _ _ (N2.pr z mz)
      have hi : i < 16 := Nat.lt_of_lt_of_le (List.getElem?_eq_some_iff.mp ez).1 N2.few
      have ul : us.length ≤ i := by
        have := congrArg List.length eu
        rw [List.length_map, List.length_map, List.length_take] at this
        omega
      have zin := N2.inr z mz
      have at_ : ((gNum n2 yn xn n1).map nV)[z.2.2]? = some (nV (gi n1 xn yn z.2.2)) := by rw [List.getElem?_map, gNum_at hyn zin.2]; rfl
      refine ⟨z.1, [nV z.2.1, nV z.2.2], rfl, sqt hz, rfl, nV z.2.1, [nV z.2.2], rfl, nV z.2.2, [], rfl, rfl, rfl, ?_⟩
      refine ⟨.ref p1, rfl, p1, dx1, _, rfl, sH _ _ hp1, p1, m1, n1, zs1, ws1, rfl, N1.keep sH, nV z.2.1, rfl, (m1 : Int), (z.2.1 : Int), rfl, rfl, .ref D, rfl, nV z.2.2, rfl, D, _, (z.2.2 : Int), nV (gi n1 xn yn z.2.2), rfl, rfl, sq (sm _ _ hD), atI_nat at_, len2, fun t nt => ?_⟩
      have st := Same.new (o := .tup [V.int ((m1 : Int) + (z.2.1 : Int)), nV (gi n1 xn yn z.2.2)]) nt
      have hD3 := st _ _ hD2
      have ntD : t ≠ D2 := (ne_of_none hD2 nt).symm
      refine ⟨_, hD3, small1000 (by rw [List.length_map]; omega), us ++ [(t, m1 + z.2.1, gi n1 xn yn z.2.2)], (sm.trans st).mut nD2, ?_, ?_, ?_⟩
      · rw [upd_same, List.map_append]
        rfl
      · intro u hu
        rcases List.mem_append.mp hu with hu | hu
        · have := st _ _ (pu u hu)
          rw [upd_ne (fun e => by rw [e, hD3] at this; cases this)]
          exact this
        · rw [List.mem_singleton.mp hu]
          show upd _ D2 _ t = _
          rw [upd_ne ntD]
          exact upd_same
      · rw [List.map_append, eu, List.take_add_one, zs_at ez, List.map_append]
        rfl
    obtain ⟨us, s2, hD2, pu, eu⟩ := h
    rw [List.take_of_length_le (by rw [List.length_map, List.length_map]; exact Nat.le_refl _)] at eu
    have sH := s1.trans s2
    refine ⟨.ref p1, rfl, p1, dx1, _, rfl, sH _ _ hp1, p1, m1, n1, zs1, ws1, rfl, N1.keep sH, .ref p2, rfl, p2, dx2, _, rfl, sH _ _ hp2, p2, m2, n2, zs2, ws2, rfl, N2.keep sH, (m1 : Int), (m2 : Int), rfl, rfl, ?_⟩
    refine ⟨.ref p1, rfl, p1, dx1, _, rfl, sH _ _ hp1, p1, m1, n1, zs1, ws1, rfl, N1.keep sH, .ref p2, rfl, p2, dx2, _, rfl, sH _ _ hp2, p2, m2, n2, zs2, ws2, rfl, N2.keep sH, (n1 : Int), (n2 : Int), rfl, rfl, (n1 : Int) + (n2 : Int), 1, rfl, rfl, ?_⟩
    refine ⟨.ref p1, rfl, p1, dx1, _, rfl, sH _ _ hp1, p1, m1, n1, zs1, ws1, rfl, N1.keep sH, fun H3 R s3 nR hR => ?_⟩
    have lz : us.length ≤ 16 := by
      have := congrArg List.length eu
      rw [List.length_map, List.length_map, List.length_map] at this
      have := N2.few
      omega
    refine ⟨.ref D2, rfl, R, D2, _, _, rfl, rfl, hR, s3 _ _ hD2, Nat.le_of_lt (small1000 (by rw [List.length_map, List.length_map]; have := N1.few; omega)), fun e ne => ?_⟩
    have s4 := Same.new (o := .lst (zs1.map zV ++ us.map zV)) ne
    have sA := sH.trans (s3.trans s4)
    intro p dy np ndy nep
    have sM : Same (upd H3 e (.lst (zs1.map zV ++ us.map zV))) (upd (upd (upd H3 e (.lst (zs1.map zV ++ us.map zV))) dy (.own p)) p (.ins C dy [])) := ((Same.refl _).mut ndy).mut np
    have sB := sA.trans sM
    have eM : (n1 : Int) + (n2 : Int) - 1 = ((gM (!true) n1 n2 : Nat) : Int) := by
      show _ = ((n1 + n2 - 1 : Nat) : Int)
      omega
    have eR : (zs1 ++ us).map (·.2) = gls true m1 n1 xn yn (zs1.map (·.2)) (zs2.map (·.2)) := by
      rw [List.map_append, eu, gls_true]
    have fit : Fit (gM true m1 m2) (gM (!true) n1 n2) ((zs1 ++ us).map (·.2)) := by
      rw [eR]
      exact gls_fit f1 f2 hxn hyn
    have k12 : (zs1 ++ us).length = (zs1.map (·.2)).length + (zs2.map (·.2)).length := by
      rw [← gls_len true m1 n1 xn yn, ← eR, List.length_map]
    have n8 : gM (!true) n1 n2 = n1 + n2 - 1 := rfl
    refine ⟨p, e, dy, gM true m1 m2, gM (!true) n1 n2, zs1 ++ us, ?_, upd_same, ?_, ?_, fit, by rw [List.length_append]; have := N1.few; omega, by show 1 ≤ m1 + m2; omega, by show 1 ≤ n1 + n2 - 1; omega,
      fun big d nd' => er .T _ ?_ _ d (sB.trans (Same.new nd')) (sB.back nd') upd_same,
      fun ok8 big d nd' => er .T _ ?_ _ d (sB.trans (Same.new nd')) (sB.back nd') upd_same,
      fun ok8 ok8' big H' d sD nd' hd => er .R _ ?_ H' d (sB.trans sD) (sB.back nd') hd,
      fun ok8 ok8' few H' zq wq bN Nq asc _ _ _ => ⟨rfl, ?_⟩⟩
    · show [V.ref p, V.int ((m1 : Int) + (m2 : Int)), V.int ((n1 : Int) + (n2 : Int) - 1), V.ref e] = _
      rw [eM]
      rfl
    · rw [List.map_append]
      exact sM _ _ upd_same
    · intro z hz
      rcases List.mem_append.mp hz with hz | hz
      · exact sB _ _ (N1.pr z hz)
      · exact sM _ _ (s4 _ _ (s3 _ _ (pu z hz)))
    · exact (if_pos hx).trans ((if_pos hy).trans (if_neg (by omega)))
    · exact (if_pos hx).trans ((if_pos hy).trans ((if_pos ok8).trans (if_neg (by omega))))
    · exact (if_pos hx).trans ((if_pos hy).trans ((if_pos ok8).trans ((if_pos ok8').trans (if_neg (by omega)))))
    · have sq' : Same (upd H3 e (.lst (zs1.map zV ++ us.map zV))) H' := fun b o h => bN b o (ne_of_none h np) (sM b o h)
      rw [eR] at asc
      refine q (gDue_none.mpr ⟨hx, hy, ok8, ok8', by omega⟩) H' p _ (sA.trans sq') (sA.back np) ⟨zq, wq, Nq, ?_, by show 1 ≤ m1 + m2; omega, by show 1 ≤ n1 + n2 - 1; omega, rfl⟩ asc
      rw [eR] at fit
      exact ⟨asc.1.nodup_iff.mpr fit.1, fun c hc => fit.2 c (asc.1.mem_iff.mp hc)⟩
end
end K05
set_option Elab.async false
set_option linter.all false
set_option maxRecDepth 100000
set_option maxHeartbeats 4000000
namespace K05
open PySem PySem.Spec PyProof.Rows L2
/-! ### pairs of whole numbers by their addresses -/
abbrev I3 := Addr × Int × Int
def iV (z : I3) : V := .ref z.1
def irV (z : I3) : HO := .tup [.int z.2.1, .int z.2.2]
def PrI (H : Hp) (zs : List I3) : Prop := ∀ z ∈ zs, H z.1 = some (irV z)
theorem PrI.keep {H H' : Hp} {zs : List I3} (h : PrI H zs) (e : Same H H') : PrI H' zs := fun z m => e _ _ (h z m)
theorem kI_at {H : Hp} {z : I3} (h : H z.1 = some (irV z)) : kH H (iV z) = (z.2.1, z.2.2) := by
  show (match H z.1 with
    | some (.tup [.int a, .int b]) => (a, b)
    | _ => ((0 : Int), (0 : Int))) = _
  rw [h]
  rfl
def leI (a b : Int × Int) : Prop := a.1 < b.1 ∨ (a.1 = b.1 ∧ a.2 ≤ b.2)
theorem sorted_ints {H : Hp} {zs : List I3} (pr : PrI H zs) {ys : List V} (hs : SrtO.Srtd (ltP (kH H)) ys) (hb : SrtO.Stb (ltP (kH H)) ys (zs.map iV)) :
    ∃ zs' : List I3, ys = zs'.map iV ∧ zs'.Perm zs ∧ (zs'.map (·.2)).Pairwise leI := by
  obtain ⟨zs', rfl, pm⟩ := perm_map_inv hb.perm zs rfl
  refine ⟨zs', rfl, pm, ?_⟩
  rw [List.pairwise_map]
  have hs' : zs'.Pairwise fun x y => ltP (kH H) (iV y) (iV x) = false := List.pairwise_map.mp hs
  refine List.Pairwise.imp_of_mem ?_ hs'
  intro a b ha hb h1
  have ka := kI_at (pr a (pm.mem_iff.mp ha))
  have kb := kI_at (pr b (pm.mem_iff.mp hb))
  unfold ltP at h1
  rw [ka, kb] at h1
  have h1 := SrtO.lexB_no.mp h1
  dsimp only at h1
  unfold leI
  omega
theorem item_iV {zs : List I3} {i : Nat} {x : V} (h : (zs.map iV)[i]? = some x) : ∃ z, zs[i]? = some z ∧ z ∈ zs ∧ x = iV z := by
  rw [List.getElem?_map] at h
  cases e : zs[i]? with
  | none => rw [e] at h; cases h
  | some z =>
    rw [e] at h
    exact ⟨z, rfl, List.mem_of_getElem? e, (Option.some.inj h).symm⟩
theorem is_at {zs : List I3} {i : Nat} {z : I3} (h : zs[i]? = some z) : (zs.map (·.2))[i]?.toList = [z.2] := by
  rw [List.getElem?_map, h]
  rfl
/-- a network as the law writes it: numbers, rows of whole numbers -/
structure WA (H : Hp) (t ts a : Addr) (m n : Nat) (zs : List I3) : Prop where
  ht : H t = some (.tup [.ref ts, .ref a])
  hs : H ts = some (.tup [nV m, nV n])
  ha : H a = some (.lst (zs.map iV))
  pr : PrI H zs
theorem WA.keep {H H' : Hp} {t ts a : Addr} {m n : Nat} {zs : List I3} (h : WA H t ts a m n zs) (e : Same H H') : WA H' t ts a m n zs := ⟨e _ _ h.ht, e _ _ h.hs, e _ _ h.ha, h.pr.keep e⟩
def WI (H : Hp) (t : Addr) (m n : Nat) (qs : List (Int × Int)) : Prop := ∃ ts a zs, WA H t ts a m n zs ∧ zs.map (·.2) = qs ∧ zs.length ≤ 40
theorem WI.keep {H H' : Hp} {t : Addr} {m n : Nat} {qs : List (Int × Int)} (h : WI H t m n qs) (e : Same H H') : WI H' t m n qs := by
  obtain ⟨ts, a, zs, h1, h2, h3⟩ := h
  exact ⟨ts, a, zs, h1.keep e, h2, h3⟩
def swi (q : Int × Int) : Int × Int := (q.2, q.1)
section
variable {P : Program} {w : World} {K : PySem.W.Frag} {mg : Str → Option Value} {base : Heap} {f : Addr} {fd : FuncData}
/-! ### _law_draw_place -/
abbrev law_draw_place_N : List Str := ["pool", "many", "far", "place", "kind"]
theorem law_draw_place_sc : FnScope ["pool", "many", "far", "place", "kind"] ["pool", "many"] (defScope law_draw_place_st) := ⟨rfl, rfl, rfl, by decide +kernel, rfl, by decide +kernel, by decide +kernel⟩
def spPlace : Sp := fun vs H Q _ => ∃ (p : Addr) (x : Int) (m : Nat), vs = [.ref p, nV m] ∧ H p = some (.lst [.int x]) ∧ 1 ≤ m ∧ m ≤ 8 ∧ ∀ (d y : Int) (H' : Hp), But p H H' → H' p = some (.lst [.int y]) → Q (.int d) H'
theorem ok_place {f1 f2 : Addr} {fd1 fd2 : FuncData} (F : FnS K "_law_draw_place" law_draw_place_st f fd) (D_law_take : Dn P w K mg base 1 "_law_take" ["pool", "many"] spTake f1 fd1) (D_law_draw_far : Dn P w K mg base 2 "_law_draw_far" ["pool"] spFar f2 fd2) :
    FnOk P w K mg base (L2N.CX P w) 3 f fd ["pool", "many"] spPlace := by
  refine F.ok law_draw_place_sc (fun vs H Q E h => ?_) (fun cdv A outer s H vs Q E hr h => ?_)
  · obtain ⟨p, x, m, rfl, _⟩ := h
    rfl
  · obtain ⟨p, x, m, rfl, hp, m1, m8, q⟩ := h
    refine ⟨_, (pss_cons (ps_set (i := 2) law_draw_place_sc.nd rfl (Or.inl rfl) (pe_call D_law_draw_far.ok (hr.mono (by decide)) rfl D_law_draw_far.g D_law_draw_far.kp D_law_draw_far.b .nil ErrX.passN (pa_cons (pv 0) pa_nil)))
      (pss_cons (ps_set (i := 3) law_draw_place_sc.nd rfl (Or.inl rfl) (pe_call D_law_take.ok (hr.mono (by decide)) rfl D_law_take.g D_law_take.kp D_law_take.b .nil ErrX.passN (pa_cons (pv 0) (pa_cons (pv 1) pa_nil))))
      (pss_cons (ps_set (i := 4) law_draw_place_sc.nd rfl (Or.inl rfl) (pe_call D_law_take.ok (hr.mono (by decide)) rfl D_law_take.g D_law_take.kp D_law_take.b .nil ErrX.passN (pa_cons (pv 0) (pa_cons pe_int pa_nil))))
      (pss_cons (ps_if (pt_cmpR op_lt (pv 4) pe_int (nomark _)) (pss_one (ps_ret (pe_ix ix_list (pe_lst (pa_cons (pv 1) (pa_cons (pe_un un_neg pe_int) (pa_cons (pv 2) (pa_cons (pe_op op_sub (pe_un un_neg pe_int) (pv 2)) pa_nil))))) (pv 4) (fun _ _ => rfl)))) pss_nil)
      (pss_one (ps_ret (pv 3))))))), ?_⟩
    refine ⟨.ref p, rfl, p, x, rfl, hp, fun d y H1 b1 p1 => ?_⟩
    refine ⟨.ref p, rfl, nV m, rfl, p, y, m, rfl, p1, by omega, by omega, fun e y2 H2 e0 e1 b2 p2 => ?_⟩
    refine ⟨.ref p, rfl, p, y2, 24, rfl, p2, by decide, by decide, fun k y3 H3 k0 k1 b3 p3 => ?_⟩
    have bb := (b1.trans b2).trans b3
    refine ⟨.int k, rfl, k, 4, rfl, rfl, _, rfl, ite2 (fun c => ?_) (fun c => ?_)⟩
    · have c := of_decide_eq_true c
      obtain ⟨j, rfl⟩ : ∃ j : Nat, k = (j : Int) := ⟨k.toNat, by omega⟩
      have hj : j < 4 := by omega
      refine ⟨nV m, rfl, 1, rfl, .int d, rfl, 1, rfl, .int d, rfl, -1, d, rfl, rfl, len4, fun l nl => ?_⟩
      have s4 := Same.new (o := .lst [nV m, .int (-1), .int d, .int (-1 - d)]) nl
      have nlp : l ≠ p := (ne_of_none p3 nl).symm
      have fin : ∀ v : Int, Q (.int v) (upd H3 l (.lst [nV m, .int (-1), .int d, .int (-1 - d)])) := fun v => q v y3 _ (bb.trans (.of s4)) (s4 _ _ p3)
      refine ⟨.int (j : Int), rfl, l, [nV m, .int (-1), .int d, .int (-1 - d)], (j : Int), _, rfl, rfl, sq upd_same, atI_nat (v := ([nV m, .int (-1), .int d, .int (-1 - d)] : List V)[j]'hj) (List.getElem?_eq_getElem hj), ?_⟩
      match j, hj with
      | 0, _ => exact fin _
      | 1, _ => exact fin _
      | 2, _ => exact fin _
      | 3, _ => exact fin _
    · exact ⟨.int e, rfl, q e y3 _ bb p3⟩
/-! ### _law_flipped -/
abbrev law_flipped_N : List Str := ["world", "rows", "row"]
theorem law_flipped_sc : FnScope ["world", "rows", "row"] ["world"] (defScope law_flipped_st) := ⟨rfl, rfl, rfl, by decide +kernel, rfl, by decide +kernel, by decide +kernel⟩
def spFlip : Sp := fun vs H Q _ => ∃ (t : Addr) (m n : Nat) (qs : List (Int × Int)), vs = [.ref t] ∧ WI H t m n qs ∧
  ∀ (H' : Hp) (t' : Addr) (qs' : List (Int × Int)), Same H H' → WI H' t' n m qs' → qs'.Perm (qs.map swi) → qs'.Pairwise leI → Q (.ref t') H'
theorem ok_flip (F : FnS K "_law_flipped" law_flipped_st f fd) (m_sorted : mg "sorted" = none) : FnOk P w K mg base (L2N.CX P w) 1 f fd ["world"] spFlip := by
  refine F.ok law_flipped_sc (fun vs H Q E h => ?_) (fun cdv A outer s H vs Q E hr h => ?_)
  · obtain ⟨t, m, n, qs, rfl, _⟩ := h
    rfl
  · obtain ⟨t, m, n, qs, rfl, ⟨ts, a, zs, W, rfl, l40⟩, q⟩ := h
    refine ⟨_, (pss_cons (ps_set (i := 1) law_flipped_sc.nd rfl (Or.inl rfl) (pe_callB cr_sortedPO (by rfl) m_sorted (by decide +kernel) (pa_cons (pe_lc (own := [("row", 2)]) rfl law_flipped_sc.nd (pi_list (pe_ix ix_tup (pv 0) pe_int (fun _ _ => rfl))) (blkOk_by (own := [("row", 2)]) (N := law_flipped_N) (sc := defScope law_flipped_st) (by decide +kernel)) (fun _ _ _ _ _ => (pg_name (i := 2) law_flipped_sc.nd rfl (Or.inl rfl))) (fun _ _ _ _ _ => pts_nil) (fun _ _ _ _ _ => (pe_tup (pa_cons (pe_ix (ix_tup : IxR _ (rIxT K)) (pv 2) pe_int (fun _ _ => rfl)) (pa_cons (pe_ix (ix_tup : IxR _ (rIxT K)) (pv 2) pe_int (fun _ _ => rfl)) pa_nil))))) pa_nil)))
      (pss_one (ps_ret (pe_tup (pa_cons (pe_tup (pa_cons (pe_ix ix_tup (pe_ix ix_tup (pv 0) pe_int (fun _ _ => rfl)) pe_int (fun _ _ => rfl)) (pa_cons (pe_ix ix_tup (pe_ix ix_tup (pv 0) pe_int (fun _ _ => rfl)) pe_int (fun _ _ => rfl)) pa_nil))) (pa_cons (pv 1) pa_nil)))))), ?_⟩
    refine ⟨.ref t, rfl, t, _, 1, .ref a, rfl, rfl, sqt W.ht, rfl, a, rfl, ⟨_, sq W.ha⟩, fun D nD => ?_⟩
    refine lc_list (K := K) (a := a) (xs := zs.map iV) (fun i H' => ∃ us : List I3, Same H H' ∧ H' D = some (.lst (us.map iV)) ∧ PrI H' us ∧ us.map (·.2) = ((zs.map (·.2)).take i).map swi) ⟨[], Same.new nD, upd_same, (fun _ h => nomatch h), rfl⟩ (fun i H' _ h => ?_) (fun i v H' hv h => ?_) (fun H1 h => ?_)
    · obtain ⟨us, sm, _⟩ := h
      exact sq (sm _ _ W.ha)
    · obtain ⟨us, sm, hD, pu, eu⟩ := h
      obtain ⟨z, ez, mz, rfl⟩ := item_iV hv
      have hz := sm _ _ (W.pr z mz)
      have hi : i < 40 := Nat.lt_of_lt_of_le (List.getElem?_eq_some_iff.mp ez).1 l40
      have ul : us.length ≤ i := by
        have := congrArg List.length eu
        rw [List.length_map, List.length_map, List.length_take] at this
        omega
      refine ⟨rfl, ?_⟩
      refine ⟨.ref z.1, rfl, z.1, _, 1, .int z.2.2, rfl, rfl, sqt hz, rfl, .ref z.1, rfl, z.1, _, 0, .int z.2.1, rfl, rfl, sqt hz, rfl, len2, fun t1 nt => ?_⟩
      have st := Same.new (o := .tup [.int z.2.2, .int z.2.1]) nt
      have hD2 := st _ _ hD
      have ntD : t1 ≠ D := (ne_of_none hD nt).symm
      refine ⟨_, hD2, small1000 (by rw [List.length_map]; omega), us ++ [(t1, z.2.2, z.2.1)], (sm.trans st).mut nD, ?_, ?_, ?_⟩
      · rw [upd_same, List.map_append]
        rfl
      · intro u hu
        rcases List.mem_append.mp hu with hu | hu
        · have := st _ _ (pu u hu)
          rw [upd_ne (fun e => by rw [e, hD2] at this; cases this)]
          exact this
        · rw [List.mem_singleton.mp hu]
          show upd _ D _ t1 = _
          rw [upd_ne ntD]
          exact upd_same
      · rw [List.map_append, eu, List.take_add_one, is_at ez, List.map_append]
        rfl
    obtain ⟨us, s1, hD, pu, eu⟩ := h
    rw [List.take_of_length_le (by rw [List.length_map, List.length_map]; exact Nat.le_refl _)] at eu
    refine ⟨D, us.map iV, kH H1, rfl, sq hD, fun x hx => ?_, fun ys r hs hb nr => ?_⟩
    · obtain ⟨z, hz, rfl⟩ := List.mem_map.mp hx
      have hk := kI_at (pu z hz)
      refine ⟨z.1, rfl, ?_⟩
      rw [hk]
      exact pu z hz
    obtain ⟨zs', rfl, pm, le⟩ := sorted_ints pu hs hb
    have s2 := Same.new (o := .lst (zs'.map iV)) nr
    have sA := s1.trans s2
    refine ⟨.ref t, rfl, t, _, 0, .ref ts, rfl, rfl, sqt (sA _ _ W.ht), rfl, ts, _, 1, nV n, rfl, rfl, sqt (sA _ _ W.hs), rfl, .ref t, rfl, t, _, 0, .ref ts, rfl, rfl, sqt (sA _ _ W.ht), rfl, ts, _, 0, nV m, rfl, rfl, sqt (sA _ _ W.hs), rfl, len2, fun t1 nt1 => ?_⟩
    have s3 := Same.new (o := .tup [nV n, nV m]) nt1
    refine ⟨.ref r, rfl, len2, fun t2 nt2 => ?_⟩
    have s4 := Same.new (o := .tup [.ref t1, .ref r]) nt2
    refine q _ t2 (zs'.map (·.2)) (sA.trans (s3.trans s4)) ⟨t1, r, zs', ⟨upd_same, s4 _ _ upd_same, (s3.trans s4) _ _ upd_same, fun z hz => (s2.trans (s3.trans s4)) _ _ (pu z (pm.mem_iff.mp hz))⟩, rfl, ?_⟩ (by rw [← eu]; exact pm.map _) le
    have := congrArg List.length eu
    rw [List.length_map, List.length_map, List.length_map] at this
    rw [pm.length_eq]
    omega
end
end K05
set_option Elab.async false
set_option linter.all false
set_option maxRecDepth 100000
set_option maxHeartbeats 4000000
namespace K05
open PySem PySem.Spec PyProof.Rows L2
def sV (s : Bool) : V := .int (if s then 1 else 0)
def DueV (H : Hp) (v : V) : Option (Er4 × Int) → Prop
  | none => v = .non
  | some (e, i) => ∃ t, v = .ref t ∧ H t = some (.tup [.str "refused", .str (nmE e), .int i])
section
variable {P : Program} {w : World} {K : PySem.W.Frag} {mg : Str → Option Value} {base : Heap} {f : Addr} {fd : FuncData}
/-! ### _law_map_of -/
abbrev law_map_of_N : List Str := ["one", "two", "places", "rows", "row", "depot", "sizes"]
theorem law_map_of_sc : FnScope ["one", "two", "places", "rows", "row", "depot", "sizes"] ["one", "two", "places"] (defScope law_map_of_st) := ⟨rfl, rfl, rfl, by decide +kernel, rfl, by decide +kernel, by decide +kernel⟩
/-- a route of the second network, glued at depots, whatever the places -/
def mpI (m1 n1 : Nat) (x y : Int) (q : Int × Int) : Int × Int := (if q.1 > y then (m1 : Int) + q.1 - 1 else if q.1 < y then (m1 : Int) + q.1 else x, (n1 : Int) + q.2)
def spMap : Sp := fun vs H Q _ => ∃ (t1 t2 pl : Addr) (m1 n1 m2 n2 : Nat) (qs1 qs2 : List (Int × Int)) (x y : Int), vs = [.ref t1, .ref t2, .ref pl] ∧ WI H t1 m1 n1 qs1 ∧ WI H t2 m2 n2 qs2 ∧ H pl = some (.tup [.int x, .int y]) ∧ qs1.length ≤ 16 ∧ qs2.length ≤ 16 ∧ 1 ≤ m1 ∧
  ∀ (H' : Hp) (t' : Addr) (qs' : List (Int × Int)), Same H H' → WI H' t' (m1 + m2 - 1) (n1 + n2) qs' → qs'.Perm (qs1 ++ qs2.map (mpI m1 n1 x y)) → qs'.Pairwise leI → Q (.ref t') H'
theorem ok_map (F : FnS K "_law_map_of" law_map_of_st f fd) (m_sorted : mg "sorted" = none) (m_list : mg "list" = none) : FnOk P w K mg base (L2N.CX P w) 1 f fd ["one", "two", "places"] spMap := by
  refine F.ok law_map_of_sc (fun vs H Q E h => ?_) (fun cdv A outer s H vs Q E hr h => ?_)
  · obtain ⟨t1, t2, pl, m1, n1, m2, n2, qs1, qs2, x, y, rfl, _⟩ := h
    rfl
  · obtain ⟨t1, t2, pl, m1, n1, m2, n2, qs1, qs2, x, y, rfl, ⟨ts1, a1, zs1, W1, rfl, _⟩, ⟨ts2, a2, zs2, W2, rfl, _⟩, hpl, k1, k2, l1, q⟩ := h
    rw [List.length_map] at k1 k2
    refine ⟨_, (pss_cons (ps_set (i := 3) law_map_of_sc.nd rfl (Or.inl rfl) (pe_callTy call_list_of (by rfl) m_list (by decide +kernel) (pa_cons (pe_ix ix_tup (pv 0) pe_int (fun _ _ => rfl)) pa_nil)))
      (pss_cons (ps_for (passes_of rfl) rfl (pi_list (pe_ix ix_tup (pv 1) pe_int (fun _ _ => rfl))) (pg_name (i := 4) law_map_of_sc.nd rfl (Or.inl rfl))
      (pss_cons (ps_set (i := 5) law_map_of_sc.nd rfl (Or.inl rfl) (pe_ix ix_tup (pv 2) pe_int (fun _ _ => rfl)))
      (Evl.pss_cut (ps_if (pt_cmpR op_lt (pe_ix ix_tup (pv 4) pe_int (fun _ _ => rfl)) (pe_ix ix_tup (pv 2) pe_int (fun _ _ => rfl)) (nomark _)) (pss_one (ps_set (i := 5) law_map_of_sc.nd rfl (Or.inl rfl) (pe_op op_add (pe_ix ix_tup (pe_ix ix_tup (pv 0) pe_int (fun _ _ => rfl)) pe_int (fun _ _ => rfl)) (pe_ix ix_tup (pv 4) pe_int (fun _ _ => rfl))))) pss_nil)
      (Evl.pss_cut (ps_if (pt_cmpR op_gt (pe_ix ix_tup (pv 4) pe_int (fun _ _ => rfl)) (pe_ix ix_tup (pv 2) pe_int (fun _ _ => rfl)) (nomark _)) (pss_one (ps_set (i := 5) law_map_of_sc.nd rfl (Or.inl rfl) (pe_op op_sub (pe_op op_add (pe_ix ix_tup (pe_ix ix_tup (pv 0) pe_int (fun _ _ => rfl)) pe_int (fun _ _ => rfl)) (pe_ix ix_tup (pv 4) pe_int (fun _ _ => rfl))) pe_int))) pss_nil)
      (pss_one (ps_expr (pe_bm PySem.F.plainAttrs_list PySem.F.slot_list_append PySem.F.type_list_append mt_append (pv 3) (pa_cons (pe_tup (pa_cons (pv 5) (pa_cons (pe_op op_add (pe_ix ix_tup (pe_ix ix_tup (pv 0) pe_int (fun _ _ => rfl)) pe_int (fun _ _ => rfl)) (pe_ix ix_tup (pv 4) pe_int (fun _ _ => rfl))) pa_nil))) pa_nil))))))))
      (pss_cons (ps_set (i := 6) law_map_of_sc.nd rfl (Or.inl rfl) (pe_tup (pa_cons (pe_op op_sub (pe_op op_add (pe_ix ix_tup (pe_ix ix_tup (pv 0) pe_int (fun _ _ => rfl)) pe_int (fun _ _ => rfl)) (pe_ix ix_tup (pe_ix ix_tup (pv 1) pe_int (fun _ _ => rfl)) pe_int (fun _ _ => rfl))) pe_int) (pa_cons (pe_op op_add (pe_ix ix_tup (pe_ix ix_tup (pv 0) pe_int (fun _ _ => rfl)) pe_int (fun _ _ => rfl)) (pe_ix ix_tup (pe_ix ix_tup (pv 1) pe_int (fun _ _ => rfl)) pe_int (fun _ _ => rfl))) pa_nil))))
      (pss_one (ps_ret (pe_tup (pa_cons (pv 6) (pa_cons (pe_callB cr_sortedPO (by rfl) m_sorted (by decide +kernel) (pa_cons (pv 3) pa_nil)) pa_nil)))))))), ?_⟩
    refine ⟨.ref t1, rfl, t1, _, 1, .ref a1, rfl, rfl, sqt W1.ht, rfl, a1, _, rfl, .inl (sq W1.ha), fun D nD => ?_⟩
    have s0 := Same.new (o := .lst (zs1.map iV)) nD
    refine ⟨.ref t2, rfl, t2, _, 1, .ref a2, rfl, rfl, sqt (s0 _ _ W2.ht), rfl, a2, rfl, ⟨_, sq (s0 _ _ W2.ha)⟩, ?_⟩
    refine for_list (K := K) (a := a2) (xs := zs2.map iV) (fun j σ H' => ∃ (u1 u2 : Option V) (us : List I3), σ = [some (.ref t1), some (.ref t2), some (.ref pl), some (.ref D), u1, u2, none] ∧ Same H H' ∧ H' D = some (.lst ((zs1 ++ us).map iV)) ∧ PrI H' us ∧ us.map (·.2) = ((zs2.map (·.2)).take j).map (mpI m1 n1 x y)) ⟨none, none, [], rfl, s0, by rw [List.append_nil]; exact upd_same, (fun _ h => nomatch h), rfl⟩ (fun j σ H' _ g => ?_) (fun j v σ H' hv g => ?_) (fun σ H' g => ?_)
    · obtain ⟨u1, u2, us, _, sm, _⟩ := g
      exact sq (sm _ _ W2.ha)
    · obtain ⟨u1, u2, us, rfl, sm, hD, pu, eu⟩ := g
      obtain ⟨z, ez, mz, rfl⟩ := item_iV hv
      have hz := sm _ _ (W2.pr z mz)
      have hi : j < 16 := Nat.lt_of_lt_of_le (List.getElem?_eq_some_iff.mp ez).1 k2
      have ul : us.length ≤ j := by
        have := congrArg List.length eu
        rw [List.length_map, List.length_map, List.length_take] at this
        omega
      have hp := sm _ _ hpl
      refine ⟨.ref pl, rfl, pl, _, 0, .int x, rfl, rfl, sqt hp, rfl, ?_⟩
      refine ⟨fun σ H2 => σ = [some (.ref t1), some (.ref t2), some (.ref pl), some (.ref D), some (.ref z.1), some (.int (if z.2.1 < y then (m1 : Int) + z.2.1 else x)), none] ∧ H' = H2, ?_, ?_⟩
      · refine ⟨.ref z.1, rfl, z.1, _, 0, .int z.2.1, rfl, rfl, sqt hz, rfl, .ref pl, rfl, pl, _, 1, .int y, rfl, rfl, sqt hp, rfl, z.2.1, y, rfl, rfl, _, rfl, ite2 (fun c => ?_) (fun c => ?_)⟩
        · refine ⟨.ref t1, rfl, t1, _, 0, .ref ts1, rfl, rfl, sqt (sm _ _ W1.ht), rfl, ts1, _, 0, nV m1, rfl, rfl, sqt (sm _ _ W1.hs), rfl, .ref z.1, rfl, z.1, _, 0, .int z.2.1, rfl, rfl, sqt hz, rfl, (m1 : Int), z.2.1, rfl, rfl, ?_⟩
          rw [if_pos (of_decide_eq_true c)]
          exact ⟨rfl, rfl⟩
        · rw [if_neg (fun e => c (decide_eq_true e))]
          exact ⟨rfl, rfl⟩
      rintro σ H2 ⟨rfl, rfl⟩
      refine ⟨fun σ H2 => σ = [some (.ref t1), some (.ref t2), some (.ref pl), some (.ref D), some (.ref z.1), some (.int (mpI m1 n1 x y z.2).1), none] ∧ H' = H2, ?_, ?_⟩
      · refine ⟨.ref z.1, rfl, z.1, _, 0, .int z.2.1, rfl, rfl, sqt hz, rfl, .ref pl, rfl, pl, _, 1, .int y, rfl, rfl, sqt hp, rfl, z.2.1, y, rfl, rfl, _, rfl, ite2 (fun c => ?_) (fun c => ?_)⟩
        · refine ⟨.ref t1, rfl, t1, _, 0, .ref ts1, rfl, rfl, sqt (sm _ _ W1.ht), rfl, ts1, _, 0, nV m1, rfl, rfl, sqt (sm _ _ W1.hs), rfl, .ref z.1, rfl, z.1, _, 0, .int z.2.1, rfl, rfl, sqt hz, rfl, (m1 : Int), z.2.1, rfl, rfl, (m1 : Int) + z.2.1, 1, rfl, rfl, ?_⟩
          have e : (mpI m1 n1 x y z.2).1 = (m1 : Int) + z.2.1 - 1 := if_pos (of_decide_eq_true c)
          rw [e]
          exact ⟨rfl, rfl⟩
        · have e : (mpI m1 n1 x y z.2).1 = if z.2.1 < y then (m1 : Int) + z.2.1 else x := if_neg (fun e => c (decide_eq_true e))
          rw [e]
          exact ⟨rfl, rfl⟩
      rintro σ H2 ⟨rfl, rfl⟩
      refine ⟨.ref D, rfl, .inl ⟨rfl, _, sq hD⟩, .int (mpI m1 n1 x y z.2).1, rfl, .ref t1, rfl, t1, _, 0, .ref ts1, rfl, rfl, sqt (sm _ _ W1.ht), rfl, ts1, _, 1, nV n1, rfl, rfl, sqt (sm _ _ W1.hs), rfl, .ref z.1, rfl, z.1, _, 1, .int z.2.2, rfl, rfl, sqt hz, rfl, (n1 : Int), z.2.2, rfl, rfl, len2, fun t nt => ?_⟩
      have st := Same.new (o := .tup [.int (mpI m1 n1 x y z.2).1, .int ((n1 : Int) + z.2.2)]) nt
      have hD2 := st _ _ hD
      have ntD : t ≠ D := (ne_of_none hD nt).symm
      refine ⟨D, _, _, rfl, rfl, hD2, small1000 (by rw [List.length_map, List.length_append]; omega), _, _, us ++ [(t, mpI m1 n1 x y z.2)], rfl, (sm.trans st).mut nD, ?_, ?_, ?_⟩
      · rw [upd_same, ← List.append_assoc, List.map_append (l₁ := zs1 ++ us)]
        rfl
      · intro u hu
        rcases List.mem_append.mp hu with hu | hu
        · have := st _ _ (pu u hu)
          rw [upd_ne (fun e => by rw [e, hD2] at this; cases this)]
          exact this
        · rw [List.mem_singleton.mp hu]
          show upd _ D _ t = _
          rw [upd_ne ntD]
          exact upd_same
      · rw [List.map_append, eu, List.take_add_one, is_at ez, List.map_append]
        rfl
    obtain ⟨u1, u2, us, rfl, sm, hD, pu, eu⟩ := g
    rw [List.take_of_length_le (by rw [List.length_map, List.length_map]; exact Nat.le_refl _)] at eu
    have lu : us.length = zs2.length := by
      have := congrArg List.length eu
      rw [List.length_map, List.length_map, List.length_map] at this
      exact this
    refine ⟨.ref t1, rfl, t1, _, 0, .ref ts1, rfl, rfl, sqt (sm _ _ W1.ht), rfl, ts1, _, 0, nV m1, rfl, rfl, sqt (sm _ _ W1.hs), rfl, .ref t2, rfl, t2, _, 0, .ref ts2, rfl, rfl, sqt (sm _ _ W2.ht), rfl, ts2, _, 0, nV m2, rfl, rfl, sqt (sm _ _ W2.hs), rfl, (m1 : Int), (m2 : Int), rfl, rfl, (m1 : Int) + (m2 : Int), 1, rfl, rfl, ?_⟩
    refine ⟨.ref t1, rfl, t1, _, 0, .ref ts1, rfl, rfl, sqt (sm _ _ W1.ht), rfl, ts1, _, 1, nV n1, rfl, rfl, sqt (sm _ _ W1.hs), rfl, .ref t2, rfl, t2, _, 0, .ref ts2, rfl, rfl, sqt (sm _ _ W2.ht), rfl, ts2, _, 1, nV n2, rfl, rfl, sqt (sm _ _ W2.hs), rfl, (n1 : Int), (n2 : Int), rfl, rfl, len2, fun tz nz => ?_⟩
    have s5 := Same.new (o := .tup [.int ((m1 : Int) + (m2 : Int) - 1), .int ((n1 : Int) + (n2 : Int))]) nz
    have hD5 := s5 _ _ hD
    have pA : PrI (upd H' tz (.tup [.int ((m1 : Int) + (m2 : Int) - 1), .int ((n1 : Int) + (n2 : Int))])) (zs1 ++ us) := fun z hz => by
      rcases List.mem_append.mp hz with hz | hz
      · exact (sm.trans s5) _ _ (W1.pr z hz)
      · exact s5 _ _ (pu z hz)
    refine ⟨.ref tz, rfl, .ref D, rfl, D, (zs1 ++ us).map iV, kH (upd H' tz (.tup [.int ((m1 : Int) + (m2 : Int) - 1), .int ((n1 : Int) + (n2 : Int))])), rfl, sq hD5, fun u hu => ?_, fun ys r hs hb nr => ?_⟩
    · obtain ⟨z, hz, rfl⟩ := List.mem_map.mp hu
      have hk := kI_at (pA z hz)
      refine ⟨z.1, rfl, ?_⟩
      rw [hk]
      exact pA z hz
    obtain ⟨zs', rfl, pm, le⟩ := sorted_ints pA hs hb
    have s6 := Same.new (o := .lst (zs'.map iV)) nr
    refine ⟨len2, fun t' nt' => ?_⟩
    have s7 := Same.new (o := .tup [.ref tz, .ref r]) nt'
    have eM : (m1 : Int) + (m2 : Int) - 1 = ((m1 + m2 - 1 : Nat) : Int) := by omega
    refine q _ t' (zs'.map (·.2)) (sm.trans (s5.trans (s6.trans s7))) ⟨tz, r, zs', ⟨upd_same, (s6.trans s7) _ _ (upd_same.trans ?_), s7 _ _ upd_same, fun z hz => (s6.trans s7) _ _ (pA z (pm.mem_iff.mp hz))⟩, rfl, ?_⟩ ?_ le
    · show some (HO.tup [V.int ((m1 : Int) + (m2 : Int) - 1), V.int ((n1 : Int) + (n2 : Int))]) = _
      rw [eM]
      rfl
    · rw [pm.length_eq, List.length_append]
      omega
    · rw [← eu, ← List.map_append]
      exact pm.map _
end
end K05
set_option Elab.async false
set_option linter.all false
set_option maxRecDepth 100000
set_option maxHeartbeats 4000000
namespace K05
open PySem PySem.Spec PyProof.Rows L2
section
variable {P : Program} {w : World} {K : PySem.W.Frag} {mg : Str → Option Value} {base : Heap} {f : Addr} {fd : FuncData}
/-! ### _law_first_due -/
abbrev law_first_due_N : List Str := ["side", "one", "two", "places", "name", "sizes", "size"]
theorem law_first_due_sc : FnScope ["side", "one", "two", "places", "name", "sizes", "size"] ["side", "one", "two", "places"] (defScope law_first_due_st) := ⟨rfl, rfl, rfl, by decide +kernel, rfl, by decide +kernel, by decide +kernel⟩
def spDue : Sp := fun vs H Q _ => ∃ (s : Bool) (t1 t2 pl : Addr) (m1 n1 m2 n2 : Nat) (qs1 qs2 : List (Int × Int)) (x y : Int), vs = [sV s, .ref t1, .ref t2, .ref pl] ∧ WI H t1 m1 n1 qs1 ∧ WI H t2 m2 n2 qs2 ∧ H pl = some (.tup [.int x, .int y]) ∧ 1 ≤ m1 ∧ 1 ≤ n1 ∧
  ∀ (H' : Hp) (v : V), Same H H' → DueV H' v (gDue s m1 n1 qs1.length m2 n2 qs2.length x y) → Q v H'
theorem ok_fdue (F : FnS K "_law_first_due" law_first_due_st f fd) (m_len : mg "len" = none) : FnOk P w K mg base (L2N.CX P w) 1 f fd ["side", "one", "two", "places"] spDue := by
  refine F.ok law_first_due_sc (fun vs H Q E h => ?_) (fun cdv A outer s H vs Q E hr h => ?_)
  · obtain ⟨s, t1, t2, pl, m1, n1, m2, n2, qs1, qs2, x, y, rfl, _⟩ := h
    rfl
  · obtain ⟨b, t1, t2, pl, m1, n1, m2, n2, qs1, qs2, x, y, rfl, ⟨ts1, a1, zs1, W1, rfl, _⟩, ⟨ts2, a2, zs2, W2, rfl, _⟩, hpl, m1p, n1p, q⟩ := h
    refine ⟨_, (pss_cons (ps_set (i := 4) law_first_due_sc.nd rfl (Or.inl rfl) (pe_ix ix_list (pe_lst (pa_cons pe_str (pa_cons pe_str pa_nil))) (pv 0) (fun _ _ => rfl)))
      (pss_cons (ps_if (pt_not (pt_chain op_le op_lt pe_int (pe_ix ix_tup (pv 3) pe_int (fun _ _ => rfl)) (pe_ix ix_tup (pe_ix ix_tup (pv 1) pe_int (fun _ _ => rfl)) (pv 0) (fun _ _ => rfl)))) (pss_one (ps_ret (pe_tup (pa_cons pe_str (pa_cons (pv 4) (pa_cons (pe_ix ix_tup (pv 3) pe_int (fun _ _ => rfl)) pa_nil)))))) pss_nil)
      (pss_cons (ps_if (pt_not (pt_chain op_le op_lt pe_int (pe_ix ix_tup (pv 3) pe_int (fun _ _ => rfl)) (pe_ix ix_tup (pe_ix ix_tup (pv 2) pe_int (fun _ _ => rfl)) (pv 0) (fun _ _ => rfl)))) (pss_one (ps_ret (pe_tup (pa_cons pe_str (pa_cons (pv 4) (pa_cons (pe_ix ix_tup (pv 3) pe_int (fun _ _ => rfl)) pa_nil)))))) pss_nil)
      (pss_cons (ps_set (i := 5) law_first_due_sc.nd rfl (Or.inl rfl) (pe_lst (pa_cons (pe_op op_add (pe_ix ix_tup (pe_ix ix_tup (pv 1) pe_int (fun _ _ => rfl)) pe_int (fun _ _ => rfl)) (pe_ix ix_tup (pe_ix ix_tup (pv 2) pe_int (fun _ _ => rfl)) pe_int (fun _ _ => rfl))) (pa_cons (pe_op op_add (pe_ix ix_tup (pe_ix ix_tup (pv 1) pe_int (fun _ _ => rfl)) pe_int (fun _ _ => rfl)) (pe_ix ix_tup (pe_ix ix_tup (pv 2) pe_int (fun _ _ => rfl)) pe_int (fun _ _ => rfl))) pa_nil))))
      (pss_cons (ps_asg (pe_op op_sub (pe_ix ix_list (pv 5) (pv 0) (fun _ _ => rfl)) pe_int) (pg_sub (pv 5) (pv 0) set_list))
      (pss_cons (ps_for (passes_of rfl) rfl (pi_list (pv 5)) (pg_name (i := 6) law_first_due_sc.nd rfl (Or.inl rfl))
      (pss_one (ps_if (pt_cmpR op_gt (pv 6) pe_int (nomark _)) (pss_one (ps_ret (pe_tup (pa_cons pe_str (pa_cons pe_str (pa_cons (pv 6) pa_nil)))))) pss_nil)))
      (pss_cons (ps_if (pt_cmpR op_gt (pe_op op_add (pe_callB call_len_seq (by rfl) m_len (by decide +kernel) (pa_cons (pe_ix ix_tup (pv 1) pe_int (fun _ _ => rfl)) pa_nil)) (pe_callB call_len_seq (by rfl) m_len (by decide +kernel) (pa_cons (pe_ix ix_tup (pv 2) pe_int (fun _ _ => rfl)) pa_nil))) pe_int (nomark _)) (pss_one (ps_ret (pe_tup (pa_cons pe_str (pa_cons pe_str (pa_cons pe_int pa_nil)))))) pss_nil)
      (pss_one (ps_ret pe_non))))))))), ?_⟩
    cases b with
    | false =>
      refine ⟨len2, fun l nl => ⟨sV false, rfl, l, [.str "NoDepot", .str "NoCustomer"], 0, .str "NoDepot", rfl, rfl, sq upd_same, rfl, ?_⟩⟩
      have s1 := Same.new (o := .lst [.str "NoDepot", .str "NoCustomer"]) nl
      generalize upd H l (.lst [.str "NoDepot", .str "NoCustomer"]) = H1 at s1 ⊢
      have hp := s1 _ _ hpl
      refine ⟨.ref pl, rfl, pl, _, 0, .int x, rfl, rfl, sqt hp, rfl, 0, x, rfl, rfl, _, rfl, ite2 (fun e0 => ?_) (fun e0 => ?_)⟩
      rotate_left
      · have hb : ¬ (0 ≤ x ∧ x < (pcN false m1 n1 : Int)) := fun z => e0 (decide_eq_true z.1)
        refine ⟨false, rfl, iteT ⟨.str "NoDepot", rfl, .ref pl, rfl, pl, _, 0, .int x, rfl, rfl, sqt hp, rfl, len3, fun u nu => ?_⟩⟩
        have ed : gDue false m1 n1 (zs1.map (·.2)).length m2 n2 (zs2.map (·.2)).length x y = some (.N, x) := if_neg hb
        exact q _ _ (s1.trans (Same.new nu)) (by rw [ed]; exact ⟨u, rfl, upd_same⟩)
      have e0 := of_decide_eq_true e0
      refine ⟨.ref t1, rfl, t1, _, 0, .ref ts1, rfl, rfl, sqt (s1 _ _ W1.ht), rfl, sV false, rfl, ts1, _, 0, nV m1, rfl, rfl, sqt (s1 _ _ W1.hs), rfl, x, m1, rfl, rfl, _, rfl, ite2 (fun e => ?_) (fun e => ?_)⟩
      · have hb : ¬ (0 ≤ x ∧ x < (pcN false m1 n1 : Int)) := fun z => by
          rw [decide_eq_true (show x < (m1 : Int) from z.2)] at e
          cases e
        refine ⟨.str "NoDepot", rfl, .ref pl, rfl, pl, _, 0, .int x, rfl, rfl, sqt hp, rfl, len3, fun u nu => ?_⟩
        have ed : gDue false m1 n1 (zs1.map (·.2)).length m2 n2 (zs2.map (·.2)).length x y = some (.N, x) := if_neg hb
        exact q _ _ (s1.trans (Same.new nu)) (by rw [ed]; exact ⟨u, rfl, upd_same⟩)
      have hx : 0 ≤ x ∧ x < (pcN false m1 n1 : Int) := ⟨e0, by
        by_cases z : x < (m1 : Int)
        · exact z
        · rw [decide_eq_false z] at e
          exact absurd rfl e⟩
      clear e e0
      refine ⟨.ref pl, rfl, pl, _, 1, .int y, rfl, rfl, sqt hp, rfl, 0, y, rfl, rfl, _, rfl, ite2 (fun e0 => ?_) (fun e0 => ?_)⟩
      rotate_left
      · have hb : ¬ (0 ≤ y ∧ y < (pcN false m2 n2 : Int)) := fun z => e0 (decide_eq_true z.1)
        refine ⟨false, rfl, iteT ⟨.str "NoDepot", rfl, .ref pl, rfl, pl, _, 1, .int y, rfl, rfl, sqt hp, rfl, len3, fun u nu => ?_⟩⟩
        have ed : gDue false m1 n1 (zs1.map (·.2)).length m2 n2 (zs2.map (·.2)).length x y = some (.N, y) := (if_pos hx).trans (if_neg hb)
        exact q _ _ (s1.trans (Same.new nu)) (by rw [ed]; exact ⟨u, rfl, upd_same⟩)
      have e0 := of_decide_eq_true e0
      refine ⟨.ref t2, rfl, t2, _, 0, .ref ts2, rfl, rfl, sqt (s1 _ _ W2.ht), rfl, sV false, rfl, ts2, _, 0, nV m2, rfl, rfl, sqt (s1 _ _ W2.hs), rfl, y, m2, rfl, rfl, _, rfl, ite2 (fun e => ?_) (fun e => ?_)⟩
      · have hb : ¬ (0 ≤ y ∧ y < (pcN false m2 n2 : Int)) := fun z => by
          rw [decide_eq_true (show y < (m2 : Int) from z.2)] at e
          cases e
        refine ⟨.str "NoDepot", rfl, .ref pl, rfl, pl, _, 1, .int y, rfl, rfl, sqt hp, rfl, len3, fun u nu => ?_⟩
        have ed : gDue false m1 n1 (zs1.map (·.2)).length m2 n2 (zs2.map (·.2)).length x y = some (.N, y) := (if_pos hx).trans (if_neg hb)
        exact q _ _ (s1.trans (Same.new nu)) (by rw [ed]; exact ⟨u, rfl, upd_same⟩)
      have hy : 0 ≤ y ∧ y < (pcN false m2 n2 : Int) := ⟨e0, by
        by_cases z : y < (m2 : Int)
        · exact z
        · rw [decide_eq_false z] at e
          exact absurd rfl e⟩
      clear e e0
      refine ⟨.ref t1, rfl, t1, _, 0, .ref ts1, rfl, rfl, sqt (s1 _ _ W1.ht), rfl, ts1, _, 0, nV m1, rfl, rfl, sqt (s1 _ _ W1.hs), rfl, .ref t2, rfl, t2, _, 0, .ref ts2, rfl, rfl, sqt (s1 _ _ W2.ht), rfl, ts2, _, 0, nV m2, rfl, rfl, sqt (s1 _ _ W2.hs), rfl, (m1 : Int), (m2 : Int), rfl, rfl, ?_⟩
      refine ⟨.ref t1, rfl, t1, _, 0, .ref ts1, rfl, rfl, sqt (s1 _ _ W1.ht), rfl, ts1, _, 1, nV n1, rfl, rfl, sqt (s1 _ _ W1.hs), rfl, .ref t2, rfl, t2, _, 0, .ref ts2, rfl, rfl, sqt (s1 _ _ W2.ht), rfl, ts2, _, 1, nV n2, rfl, rfl, sqt (s1 _ _ W2.hs), rfl, (n1 : Int), (n2 : Int), rfl, rfl, len2, fun D nD => ?_⟩
      have s2 := Same.new (o := .lst [.int ((m1 : Int) + (m2 : Int)), .int ((n1 : Int) + (n2 : Int))]) nD
      refine ⟨.ref D, rfl, sV false, rfl, D, [.int ((m1 : Int) + (m2 : Int)), .int ((n1 : Int) + (n2 : Int))], 0, .int ((m1 : Int) + (m2 : Int)), rfl, rfl, sq upd_same, rfl, (m1 : Int) + (m2 : Int), 1, rfl, rfl, .ref D, rfl, sV false, rfl, D, [.int ((m1 : Int) + (m2 : Int)), .int ((n1 : Int) + (n2 : Int))], 0, 0, rfl, rfl, upd_same, rfl, ?_⟩
      have eM : (m1 : Int) + (m2 : Int) - 1 = ((gM false m1 m2 : Nat) : Int) := by
        show _ = ((m1 + m2 - 1 : Nat) : Int)
        omega
      show tSeq _ _ _ _ (upd (upd H1 D (.lst [.int ((m1 : Int) + (m2 : Int)), .int ((n1 : Int) + (n2 : Int))])) D (.lst [.int ((m1 : Int) + (m2 : Int) - 1), .int ((n1 : Int) + (n2 : Int))]))
      rw [upd_upd, eM]
      have s3 := s1.trans (Same.new (o := .lst [nV (gM false m1 m2), nV (gM (!false) n1 n2)]) nD)
      have hD : (upd H1 D (.lst [nV (gM false m1 m2), nV (gM (!false) n1 n2)])) D = some (.lst [nV (gM false m1 m2), nV (gM (!false) n1 n2)]) := upd_same
      generalize eH : upd H1 D (.lst [nV (gM false m1 m2), nV (gM (!false) n1 n2)]) = H3 at s3 hD
      have eH' : upd H1 D (.lst [.int ((gM false m1 m2 : Nat) : Int), .int ((n1 : Int) + (n2 : Int))]) = H3 := eH
      rw [eH']
      refine ⟨.ref D, rfl, D, rfl, ⟨_, sq hD⟩, ?_⟩
      refine for_list (K := K) (a := D) (xs := [nV (gM false m1 m2), nV (gM (!false) n1 n2)]) (fun j σ H' => ∃ u : Option V, σ = [some (sV false), some (.ref t1), some (.ref t2), some (.ref pl), some (.str "NoDepot"), some (.ref D), u] ∧ H3 = H' ∧ (1 ≤ j → gM false m1 m2 ≤ 8) ∧ (2 ≤ j → gM (!false) n1 n2 ≤ 8)) ⟨none, rfl, rfl, fun z => by omega, fun z => by omega⟩ (fun j σ H' _ g => ?_) (fun j v σ H' hv g => ?_) (fun σ H' g => ?_)
      · obtain ⟨u, _, rfl, _⟩ := g
        exact sq hD
      · obtain ⟨u, rfl, rfl, g1, g2⟩ := g
        match j, hv with
        | 0, hv =>
          obtain rfl := Option.some.inj hv
          refine ⟨nV (gM false m1 m2), rfl, (gM false m1 m2 : Nat), 8, rfl, rfl, _, rfl, ite2 (fun c => ?_) (fun c => ?_)⟩
          · have c := of_decide_eq_true c
            refine ⟨nV (gM false m1 m2), rfl, len3, fun u nu => ?_⟩
            have ed : gDue false m1 n1 (zs1.map (·.2)).length m2 n2 (zs2.map (·.2)).length x y = some (Er4.T, ((gM false m1 m2 : Nat) : Int)) := (if_pos hx).trans ((if_pos hy).trans (if_neg (by omega)))
            exact q _ _ (s3.trans (Same.new nu)) (by rw [ed]; exact ⟨u, rfl, upd_same⟩)
          · exact ⟨_, rfl, rfl, fun _ => by
              have : ¬ (8 : Int) < (gM false m1 m2 : Nat) := fun z => c (decide_eq_true z)
              omega, fun z => by omega⟩
        | 1, hv =>
          obtain rfl := Option.some.inj hv
          have ok1 := g1 (Nat.le_refl 1)
          refine ⟨nV (gM (!false) n1 n2), rfl, (gM (!false) n1 n2 : Nat), 8, rfl, rfl, _, rfl, ite2 (fun c => ?_) (fun c => ?_)⟩
          · have c := of_decide_eq_true c
            refine ⟨nV (gM (!false) n1 n2), rfl, len3, fun u nu => ?_⟩
            have ed : gDue false m1 n1 (zs1.map (·.2)).length m2 n2 (zs2.map (·.2)).length x y = some (Er4.T, ((gM (!false) n1 n2 : Nat) : Int)) := (if_pos hx).trans ((if_pos hy).trans ((if_pos ok1).trans (if_neg (by omega))))
            exact q _ _ (s3.trans (Same.new nu)) (by rw [ed]; exact ⟨u, rfl, upd_same⟩)
          · exact ⟨_, rfl, rfl, fun _ => ok1, fun _ => by
              have : ¬ (8 : Int) < (gM (!false) n1 n2 : Nat) := fun z => c (decide_eq_true z)
              omega⟩
        | j + 2, hv => cases hv
      obtain ⟨u, rfl, rfl, g1, g2⟩ := g
      have ok1 := g1 (by show 1 ≤ 2; decide)
      have ok2 := g2 (by show 2 ≤ 2; decide)
      refine ⟨.ref t1, rfl, t1, _, 1, .ref a1, rfl, rfl, sqt (s3 _ _ W1.ht), rfl, a1, _, rfl, .inl (sq (s3 _ _ W1.ha)), .ref t2, rfl, t2, _, 1, .ref a2, rfl, rfl, sqt (s3 _ _ W2.ht), rfl, a2, _, rfl, .inl (sq (s3 _ _ W2.ha)), _, _, rfl, rfl, _, 16, rfl, rfl, _, rfl, ite2 (fun c => ?_) (fun c => ?_)⟩
      · have c := of_decide_eq_true c
        rw [List.length_map, List.length_map] at c
        refine ⟨len3, fun u nu => ?_⟩
        have ed : gDue false m1 n1 (zs1.map (·.2)).length m2 n2 (zs2.map (·.2)).length x y = some (.R, 16) := (if_pos hx).trans ((if_pos hy).trans ((if_pos ok1).trans ((if_pos ok2).trans (if_neg (by rw [List.length_map, List.length_map]; omega)))))
        exact q _ _ (s3.trans (Same.new nu)) (by rw [ed]; exact ⟨u, rfl, upd_same⟩)
      · have c : ¬ (16 : Int) < _ := fun z => c (decide_eq_true z)
        rw [List.length_map, List.length_map] at c
        have ed : gDue false m1 n1 (zs1.map (·.2)).length m2 n2 (zs2.map (·.2)).length x y = none := (if_pos hx).trans ((if_pos hy).trans ((if_pos ok1).trans ((if_pos ok2).trans (if_pos (by rw [List.length_map, List.length_map]; omega)))))
        exact q _ _ s3 (by rw [ed]; rfl)
    | true =>
      refine ⟨len2, fun l nl => ⟨sV true, rfl, l, [.str "NoDepot", .str "NoCustomer"], 1, .str "NoCustomer", rfl, rfl, sq upd_same, rfl, ?_⟩⟩
      have s1 := Same.new (o := .lst [.str "NoDepot", .str "NoCustomer"]) nl
      generalize upd H l (.lst [.str "NoDepot", .str "NoCustomer"]) = H1 at s1 ⊢
      have hp := s1 _ _ hpl
      refine ⟨.ref pl, rfl, pl, _, 0, .int x, rfl, rfl, sqt hp, rfl, 0, x, rfl, rfl, _, rfl, ite2 (fun e0 => ?_) (fun e0 => ?_)⟩
      rotate_left
      · have hb : ¬ (0 ≤ x ∧ x < (pcN true m1 n1 : Int)) := fun z => e0 (decide_eq_true z.1)
        refine ⟨false, rfl, iteT ⟨.str "NoCustomer", rfl, .ref pl, rfl, pl, _, 0, .int x, rfl, rfl, sqt hp, rfl, len3, fun u nu => ?_⟩⟩
        have ed : gDue true m1 n1 (zs1.map (·.2)).length m2 n2 (zs2.map (·.2)).length x y = some (.C, x) := if_neg hb
        exact q _ _ (s1.trans (Same.new nu)) (by rw [ed]; exact ⟨u, rfl, upd_same⟩)
      have e0 := of_decide_eq_true e0
      refine ⟨.ref t1, rfl, t1, _, 0, .ref ts1, rfl, rfl, sqt (s1 _ _ W1.ht), rfl, sV true, rfl, ts1, _, 1, nV n1, rfl, rfl, sqt (s1 _ _ W1.hs), rfl, x, n1, rfl, rfl, _, rfl, ite2 (fun e => ?_) (fun e => ?_)⟩
      · have hb : ¬ (0 ≤ x ∧ x < (pcN true m1 n1 : Int)) := fun z => by
          rw [decide_eq_true (show x < (n1 : Int) from z.2)] at e
          cases e
        refine ⟨.str "NoCustomer", rfl, .ref pl, rfl, pl, _, 0, .int x, rfl, rfl, sqt hp, rfl, len3, fun u nu => ?_⟩
        have ed : gDue true m1 n1 (zs1.map (·.2)).length m2 n2 (zs2.map (·.2)).length x y = some (.C, x) := if_neg hb
        exact q _ _ (s1.trans (Same.new nu)) (by rw [ed]; exact ⟨u, rfl, upd_same⟩)
      have hx : 0 ≤ x ∧ x < (pcN true m1 n1 : Int) := ⟨e0, by
        by_cases z : x < (n1 : Int)
        · exact z
        · rw [decide_eq_false z] at e
          exact absurd rfl e⟩
      clear e e0
      refine ⟨.ref pl, rfl, pl, _, 1, .int y, rfl, rfl, sqt hp, rfl, 0, y, rfl, rfl, _, rfl, ite2 (fun e0 => ?_) (fun e0 => ?_)⟩
      rotate_left
      · have hb : ¬ (0 ≤ y ∧ y < (pcN true m2 n2 : Int)) := fun z => e0 (decide_eq_true z.1)
        refine ⟨false, rfl, iteT ⟨.str "NoCustomer", rfl, .ref pl, rfl, pl, _, 1, .int y, rfl, rfl, sqt hp, rfl, len3, fun u nu => ?_⟩⟩
        have ed : gDue true m1 n1 (zs1.map (·.2)).length m2 n2 (zs2.map (·.2)).length x y = some (.C, y) := (if_pos hx).trans (if_neg hb)
        exact q _ _ (s1.trans (Same.new nu)) (by rw [ed]; exact ⟨u, rfl, upd_same⟩)
      have e0 := of_decide_eq_true e0
      refine ⟨.ref t2, rfl, t2, _, 0, .ref ts2, rfl, rfl, sqt (s1 _ _ W2.ht), rfl, sV true, rfl, ts2, _, 1, nV n2, rfl, rfl, sqt (s1 _ _ W2.hs), rfl, y, n2, rfl, rfl, _, rfl, ite2 (fun e => ?_) (fun e => ?_)⟩
      · have hb : ¬ (0 ≤ y ∧ y < (pcN true m2 n2 : Int)) := fun z => by
          rw [decide_eq_true (show y < (n2 : Int) from z.2)] at e
          cases e
        refine ⟨.str "NoCustomer", rfl, .ref pl, rfl, pl, _, 1, .int y, rfl, rfl, sqt hp, rfl, len3, fun u nu => ?_⟩
        have ed : gDue true m1 n1 (zs1.map (·.2)).length m2 n2 (zs2.map (·.2)).length x y = some (.C, y) := (if_pos hx).trans (if_neg hb)
        exact q _ _ (s1.trans (Same.new nu)) (by rw [ed]; exact ⟨u, rfl, upd_same⟩)
      have hy : 0 ≤ y ∧ y < (pcN true m2 n2 : Int) := ⟨e0, by
        by_cases z : y < (n2 : Int)
        · exact z
        · rw [decide_eq_false z] at e
          exact absurd rfl e⟩
      clear e e0
      refine ⟨.ref t1, rfl, t1, _, 0, .ref ts1, rfl, rfl, sqt (s1 _ _ W1.ht), rfl, ts1, _, 0, nV m1, rfl, rfl, sqt (s1 _ _ W1.hs), rfl, .ref t2, rfl, t2, _, 0, .ref ts2, rfl, rfl, sqt (s1 _ _ W2.ht), rfl, ts2, _, 0, nV m2, rfl, rfl, sqt (s1 _ _ W2.hs), rfl, (m1 : Int), (m2 : Int), rfl, rfl, ?_⟩
      refine ⟨.ref t1, rfl, t1, _, 0, .ref ts1, rfl, rfl, sqt (s1 _ _ W1.ht), rfl, ts1, _, 1, nV n1, rfl, rfl, sqt (s1 _ _ W1.hs), rfl, .ref t2, rfl, t2, _, 0, .ref ts2, rfl, rfl, sqt (s1 _ _ W2.ht), rfl, ts2, _, 1, nV n2, rfl, rfl, sqt (s1 _ _ W2.hs), rfl, (n1 : Int), (n2 : Int), rfl, rfl, len2, fun D nD => ?_⟩
      have s2 := Same.new (o := .lst [.int ((m1 : Int) + (m2 : Int)), .int ((n1 : Int) + (n2 : Int))]) nD
      refine ⟨.ref D, rfl, sV true, rfl, D, [.int ((m1 : Int) + (m2 : Int)), .int ((n1 : Int) + (n2 : Int))], 1, .int ((n1 : Int) + (n2 : Int)), rfl, rfl, sq upd_same, rfl, (n1 : Int) + (n2 : Int), 1, rfl, rfl, .ref D, rfl, sV true, rfl, D, [.int ((m1 : Int) + (m2 : Int)), .int ((n1 : Int) + (n2 : Int))], 1, 1, rfl, rfl, upd_same, rfl, ?_⟩
      have eM : (n1 : Int) + (n2 : Int) - 1 = ((gM (!true) n1 n2 : Nat) : Int) := by
        show _ = ((n1 + n2 - 1 : Nat) : Int)
        omega
      show tSeq _ _ _ _ (upd (upd H1 D (.lst [.int ((m1 : Int) + (m2 : Int)), .int ((n1 : Int) + (n2 : Int))])) D (.lst [.int ((m1 : Int) + (m2 : Int)), .int ((n1 : Int) + (n2 : Int) - 1)]))
      rw [upd_upd, eM]
      have s3 := s1.trans (Same.new (o := .lst [nV (gM true m1 m2), nV (gM (!true) n1 n2)]) nD)
      have hD : (upd H1 D (.lst [nV (gM true m1 m2), nV (gM (!true) n1 n2)])) D = some (.lst [nV (gM true m1 m2), nV (gM (!true) n1 n2)]) := upd_same
      generalize eH : upd H1 D (.lst [nV (gM true m1 m2), nV (gM (!true) n1 n2)]) = H3 at s3 hD
      have eH' : upd H1 D (.lst [.int ((m1 : Int) + (m2 : Int)), .int ((gM (!true) n1 n2 : Nat) : Int)]) = H3 := eH
      rw [eH']
      refine ⟨.ref D, rfl, D, rfl, ⟨_, sq hD⟩, ?_⟩
      refine for_list (K := K) (a := D) (xs := [nV (gM true m1 m2), nV (gM (!true) n1 n2)]) (fun j σ H' => ∃ u : Option V, σ = [some (sV true), some (.ref t1), some (.ref t2), some (.ref pl), some (.str "NoCustomer"), some (.ref D), u] ∧ H3 = H' ∧ (1 ≤ j → gM true m1 m2 ≤ 8) ∧ (2 ≤ j → gM (!true) n1 n2 ≤ 8)) ⟨none, rfl, rfl, fun z => by omega, fun z => by omega⟩ (fun j σ H' _ g => ?_) (fun j v σ H' hv g => ?_) (fun σ H' g => ?_)
      · obtain ⟨u, _, rfl, _⟩ := g
        exact sq hD
      · obtain ⟨u, rfl, rfl, g1, g2⟩ := g
        match j, hv with
        | 0, hv =>
          obtain rfl := Option.some.inj hv
          refine ⟨nV (gM true m1 m2), rfl, (gM true m1 m2 : Nat), 8, rfl, rfl, _, rfl, ite2 (fun c => ?_) (fun c => ?_)⟩
          · have c := of_decide_eq_true c
            refine ⟨nV (gM true m1 m2), rfl, len3, fun u nu => ?_⟩
            have ed : gDue true m1 n1 (zs1.map (·.2)).length m2 n2 (zs2.map (·.2)).length x y = some (Er4.T, ((gM true m1 m2 : Nat) : Int)) := (if_pos hx).trans ((if_pos hy).trans (if_neg (by omega)))
            exact q _ _ (s3.trans (Same.new nu)) (by rw [ed]; exact ⟨u, rfl, upd_same⟩)
          · exact ⟨_, rfl, rfl, fun _ => by
              have : ¬ (8 : Int) < (gM true m1 m2 : Nat) := fun z => c (decide_eq_true z)
              omega, fun z => by omega⟩
        | 1, hv =>
          obtain rfl := Option.some.inj hv
          have ok1 := g1 (Nat.le_refl 1)
          refine ⟨nV (gM (!true) n1 n2), rfl, (gM (!true) n1 n2 : Nat), 8, rfl, rfl, _, rfl, ite2 (fun c => ?_) (fun c => ?_)⟩
          · have c := of_decide_eq_true c
            refine ⟨nV (gM (!true) n1 n2), rfl, len3, fun u nu => ?_⟩
            have ed : gDue true m1 n1 (zs1.map (·.2)).length m2 n2 (zs2.map (·.2)).length x y = some (Er4.T, ((gM (!true) n1 n2 : Nat) : Int)) := (if_pos hx).trans ((if_pos hy).trans ((if_pos ok1).trans (if_neg (by omega))))
            exact q _ _ (s3.trans (Same.new nu)) (by rw [ed]; exact ⟨u, rfl, upd_same⟩)
          · exact ⟨_, rfl, rfl, fun _ => ok1, fun _ => by
              have : ¬ (8 : Int) < (gM (!true) n1 n2 : Nat) := fun z => c (decide_eq_true z)
              omega⟩
        | j + 2, hv => cases hv
      obtain ⟨u, rfl, rfl, g1, g2⟩ := g
      have ok1 := g1 (by show 1 ≤ 2; decide)
      have ok2 := g2 (by show 2 ≤ 2; decide)
      refine ⟨.ref t1, rfl, t1, _, 1, .ref a1, rfl, rfl, sqt (s3 _ _ W1.ht), rfl, a1, _, rfl, .inl (sq (s3 _ _ W1.ha)), .ref t2, rfl, t2, _, 1, .ref a2, rfl, rfl, sqt (s3 _ _ W2.ht), rfl, a2, _, rfl, .inl (sq (s3 _ _ W2.ha)), _, _, rfl, rfl, _, 16, rfl, rfl, _, rfl, ite2 (fun c => ?_) (fun c => ?_)⟩
      · have c := of_decide_eq_true c
        rw [List.length_map, List.length_map] at c
        refine ⟨len3, fun u nu => ?_⟩
        have ed : gDue true m1 n1 (zs1.map (·.2)).length m2 n2 (zs2.map (·.2)).length x y = some (.R, 16) := (if_pos hx).trans ((if_pos hy).trans ((if_pos ok1).trans ((if_pos ok2).trans (if_neg (by rw [List.length_map, List.length_map]; omega)))))
        exact q _ _ (s3.trans (Same.new nu)) (by rw [ed]; exact ⟨u, rfl, upd_same⟩)
      · have c : ¬ (16 : Int) < _ := fun z => c (decide_eq_true z)
        rw [List.length_map, List.length_map] at c
        have ed : gDue true m1 n1 (zs1.map (·.2)).length m2 n2 (zs2.map (·.2)).length x y = none := (if_pos hx).trans ((if_pos hy).trans ((if_pos ok1).trans ((if_pos ok2).trans (if_pos (by rw [List.length_map, List.length_map]; omega)))))
        exact q _ _ s3 (by rw [ed]; rfl)
end
end K05
set_option Elab.async false
set_option linter.all false
set_option maxRecDepth 100000
set_option maxHeartbeats 4000000
namespace K05
open PySem PySem.Spec PyProof.Rows L2
/-- a def with keyword-only parameters: at, other -/
structure DnA (P : Program) (w : World) (K : PySem.W.Frag) (mg : Str → Option Value) (base : Heap) (k : Nat) (x : Str) (sp : Sp) (f : Addr) (fd : FuncData) : Prop where
  ok : FnOk P w K mg base (L2N.CX P w) k f fd ["first", "second", "at", "other"] sp
  g : mg x = some (.ref f)
  kp : PySem.W.keepIn K (.ref f) = true
  b : KBn K fd ["first", "second", "at", "other"] 2 ["at", "other"] (fun us ws => us ++ ws) (fun vs zs => vs ++ zs)
section
variable {P : Program} {w : World} {K : PySem.W.Frag} {mg : Str → Option Value} {base : Heap} {f : Addr} {fd : FuncData}
/-! ### _law_glue -/
abbrev law_glue_N : List Str := ["side", "first", "second", "places", "e"]
theorem law_glue_sc : FnScope ["side", "first", "second", "places", "e"] ["side", "first", "second", "places"] (defScope law_glue_st) := ⟨rfl, rfl, rfl, by decide +kernel, rfl, by decide +kernel, by decide +kernel⟩
def spLGlue (C : Addr) : Sp := fun vs H Q _ => ∃ (s : Bool) (p1 p2 pl : Addr) (x y : Int) (m1 n1 m2 n2 : Nat) (ps1 ps2 : List (Nat × Nat)), vs = [sV s, .ref p1, .ref p2, .ref pl] ∧ NG C H p1 m1 n1 ps1 ∧ NG C H p2 m2 n2 ps2 ∧ H pl = some (.tup [.int x, .int y]) ∧
  (∀ e v, gDue s m1 n1 ps1.length m2 n2 ps2.length x y = some (e, v) → ∀ (H' : Hp) (t : Addr), Same H H' → H' t = some (.tup [.str "refused", .str (nmE e), .int v]) → Q (.ref t) H') ∧
  (gDue s m1 n1 ps1.length m2 n2 ps2.length x y = none → ∀ (H' : Hp) (t q : Addr) (qs : List (Nat × Nat)), Same H H' → H' t = some (.tup [.str "told", .ref q]) → NG C H' q (gM s m1 m2) (gM (!s) n1 n2) qs → Asc qs (gls s m1 n1 x.toNat y.toNat ps1 ps2) → Q (.ref t) H')
theorem ok_lglue {C CD f0 f1 f2 : Addr} {fd0 fd1 fd2 : FuncData} {ca : Er4 → Addr} (F : FnS K "_law_glue" law_glue_st f fd)
    (D_glue_depots : DnA P w K mg base 7 "glue_depots" (spGlue false C ca) f1 fd1) (D_glue_customers : DnA P w K mg base 7 "glue_customers" (spGlue true C ca) f2 fd2)
    (FE : ErrX.FnE P w K mg base (L2N.CX P w) 2 f0 fd0 ["e"] (spRefusal ca)) (g0 : mg "_law_refusal" = some (.ref f0)) (kp0 : PySem.W.keepIn K (.ref f0) = true) (b0 : Binds K fd0 ["e"] []) (gD : mg "DepotError" = some (.ref CD)) (hex : ∀ b : Er4, PySem.W.exmOne K (.ref (ca b)) (.ref CD) = some true) :
    FnOk P w K mg base (L2N.CX P w) 8 f fd ["side", "first", "second", "places"] (spLGlue C) := by
  refine F.ok law_glue_sc (fun vs H Q E h => ?_) (fun cdv A outer s H vs Q E hr h => ?_)
  · obtain ⟨s, p1, p2, pl, x, y, m1, n1, m2, n2, ps1, ps2, rfl, _⟩ := h
    rfl
  · obtain ⟨b, p1, p2, pl, x, y, m1, n1, m2, n2, ps1, ps2, rfl, N1, N2, hpl, er, q⟩ := h
    cases b with
    | false =>
      refine ⟨_, pss_one (L2N.ps_try_as (i := 4) (c := .ref CD) (tb := fun W => tSeq (tIfS (tTest (tOp rEq (tVar 0) (tC (.int 0)))) (tRet (tTup (tCons (tC (.str "told")) (tCons (KwE.tKwE 2 (["at", "other"] : List Str).length (spGlue false C ca) (fun vs zs => vs ++ zs) (L2.WE W) (tCons (tVar 1) (tCons (tVar 2) tNil)) (tCons (tOp (rIxT K) (tVar 3) (tC (.int 0))) (tCons (tOp (rIxT K) (tVar 3) (tC (.int 1))) tNil))) tNil)))) tNext) (tNever))
        (ts := fun a cls d => tRet (ErrX.tCallE (spRefusal ca) a cls d (fun _ => E0) (tCons (tVar 4) tNil))) rfl rfl law_glue_sc.nd rfl rfl ⟨rfl, by decide, Or.inl gD⟩ (L2N.takes_of rfl rfl rfl rfl)
        (fun W pn xe tk po => (pss_cons (ps_if (pt_cmpR op_eq (pv 0) pe_int (nomark _)) (pss_one (ps_ret (pe_tup (pa_cons pe_str (pa_cons (KwE.pe_kwE (ks := ["at", "other"]) (n := 2) D_glue_depots.ok (hr.mono (by decide)) rfl D_glue_depots.g D_glue_depots.kp D_glue_depots.b (fun σ => L2N.passAt tk σ) (pa_cons (pv 1) (pa_cons (pv 2) pa_nil)) (pk_cons (pe_ix ix_tup (pv 3) pe_int (fun _ _ => rfl)) (pk_cons (pe_ix ix_tup (pv 3) pe_int (fun _ _ => rfl)) pk_nil))) pa_nil))))) pss_nil) (pss_one ps_never)))
        (fun a oe cls d pn hz hf => pss_one (ps_ret (ErrX.pe_callE FE (L2H.roomH_mark (hr.mono (by decide)) _) (ErrX.hotE_suite hz hf) rfl g0 kp0 b0 (fun σ pins => ErrX.passN pins σ) (pa_cons (pv 4) pa_nil))))), ?_⟩
      refine ⟨sV false, rfl, rfl, _, rfl, ite2 (fun _ => ?_) (fun e => absurd (decide_eq_true rfl) e)⟩
      refine ⟨.ref p1, rfl, .ref p2, rfl, .ref pl, rfl, pl, _, 0, .int x, rfl, rfl, sqt hpl, rfl, .ref pl, rfl, pl, _, 1, .int y, rfl, rfl, sqt hpl, rfl, rfl, rfl, ?_⟩
      refine ⟨p1, p2, x, y, m1, n1, m2, n2, ps1, ps2, rfl, N1, N2, fun e v ed H1 d s1 nd' hxd => ?_, fun ed H1 g qs s1 ng Ng asc => ⟨len2, fun t nt => ?_⟩⟩
      · refine ⟨true, hex e, fun _ a ha => ⟨.ref a, rfl, e, d, .int v, rfl, rfl, rfl, hxd, fun H2 t s2 nt ht => ?_⟩, fun z => nomatch z⟩
        exact er e v ed H2 t (s1.trans s2) ht
      · have s2 := Same.new (o := .tup [.str "told", .ref g]) nt
        exact q ed _ t g qs (s1.trans s2) upd_same (Ng.keep s2) asc
    | true =>
      refine ⟨_, pss_one (L2N.ps_try_as (i := 4) (c := .ref CD) (tb := fun W => tSeq (tIfS (tTest (tOp rEq (tVar 0) (tC (.int 0)))) (tNever) tNext) (tRet (tTup (tCons (tC (.str "told")) (tCons (KwE.tKwE 2 (["at", "other"] : List Str).length (spGlue true C ca) (fun vs zs => vs ++ zs) (L2.WE W) (tCons (tVar 1) (tCons (tVar 2) tNil)) (tCons (tOp (rIxT K) (tVar 3) (tC (.int 0))) (tCons (tOp (rIxT K) (tVar 3) (tC (.int 1))) tNil))) tNil)))))
        (ts := fun a cls d => tRet (ErrX.tCallE (spRefusal ca) a cls d (fun _ => E0) (tCons (tVar 4) tNil))) rfl rfl law_glue_sc.nd rfl rfl ⟨rfl, by decide, Or.inl gD⟩ (L2N.takes_of rfl rfl rfl rfl)
        (fun W pn xe tk po => (pss_cons (ps_if (pt_cmpR op_eq (pv 0) pe_int (nomark _)) (pss_one ps_never) pss_nil) (pss_one (ps_ret (pe_tup (pa_cons pe_str (pa_cons (KwE.pe_kwE (ks := ["at", "other"]) (n := 2) D_glue_customers.ok (hr.mono (by decide)) rfl D_glue_customers.g D_glue_customers.kp D_glue_customers.b (fun σ => L2N.passAt tk σ) (pa_cons (pv 1) (pa_cons (pv 2) pa_nil)) (pk_cons (pe_ix ix_tup (pv 3) pe_int (fun _ _ => rfl)) (pk_cons (pe_ix ix_tup (pv 3) pe_int (fun _ _ => rfl)) pk_nil))) pa_nil)))))))
        (fun a oe cls d pn hz hf => pss_one (ps_ret (ErrX.pe_callE FE (L2H.roomH_mark (hr.mono (by decide)) _) (ErrX.hotE_suite hz hf) rfl g0 kp0 b0 (fun σ pins => ErrX.passN pins σ) (pa_cons (pv 4) pa_nil))))), ?_⟩
      refine ⟨sV true, rfl, rfl, _, rfl, ite2 (fun e => absurd (of_decide_eq_true e) (by decide)) (fun _ => ?_)⟩
      refine ⟨.ref p1, rfl, .ref p2, rfl, .ref pl, rfl, pl, _, 0, .int x, rfl, rfl, sqt hpl, rfl, .ref pl, rfl, pl, _, 1, .int y, rfl, rfl, sqt hpl, rfl, rfl, rfl, ?_⟩
      refine ⟨p1, p2, x, y, m1, n1, m2, n2, ps1, ps2, rfl, N1, N2, fun e v ed H1 d s1 nd' hxd => ?_, fun ed H1 g qs s1 ng Ng asc => ⟨len2, fun t nt => ?_⟩⟩
      · refine ⟨true, hex e, fun _ a ha => ⟨.ref a, rfl, e, d, .int v, rfl, rfl, rfl, hxd, fun H2 t s2 nt ht => ?_⟩, fun z => nomatch z⟩
        exact er e v ed H2 t (s1.trans s2) ht
      · have s2 := Same.new (o := .tup [.str "told", .ref g]) nt
        exact q ed _ t g qs (s1.trans s2) upd_same (Ng.keep s2) asc
end
end K05
set_option Elab.async false
set_option linter.all false
set_option maxRecDepth 100000
set_option maxHeartbeats 4000000
namespace K05
open PySem PySem.Spec PyProof.Rows L2
def toI (p : Nat × Nat) : Int × Int := ((p.1 : Int), (p.2 : Int))
theorem WA.sz {H : Hp} {t ts a : Addr} {m n : Nat} {zs : List I3} {ps : List (Nat × Nat)} (W : WA H t ts a m n zs) (e : zs.map (·.2) = ps.map toI) (fit : Fit m n ps) (m8 : m ≤ 8) (n8 : n ≤ 8) : ∃ zz : List Z, Sz H ts a m n zz ∧ zz.map (·.2) = ps ∧ zz.map zV = zs.map iV := by
  have e1 : (zs.map fun z => ((z.1, z.2.1.toNat, z.2.2.toNat) : Z)).map (·.2) = ps := by
    rw [List.map_map, show ((fun z : Z => z.2) ∘ fun z : I3 => ((z.1, z.2.1.toNat, z.2.2.toNat) : Z)) = (fun q : Int × Int => (q.1.toNat, q.2.toNat)) ∘ (fun z : I3 => z.2) from rfl, ← List.map_map, e, List.map_map]
    exact (List.map_congr_left fun p _ => rfl).trans (List.map_id ps)
  have e2 : (zs.map fun z => ((z.1, z.2.1.toNat, z.2.2.toNat) : Z)).map zV = zs.map iV := by
    rw [List.map_map]
    rfl
  refine ⟨zs.map fun z => (z.1, z.2.1.toNat, z.2.2.toNat), ⟨W.hs, by rw [e2]; exact W.ha, fun z hz => ?_, fun z hz => ?_, m8, n8⟩, e1, e2⟩
  · obtain ⟨y, hy, rfl⟩ := List.mem_map.mp hz
    have := W.pr y hy
    have hm : y.2 ∈ ps.map toI := e ▸ List.mem_map_of_mem hy
    obtain ⟨p, hp, ep⟩ := List.mem_map.mp hm
    have e3 : y.2.1 = (y.2.1.toNat : Int) := by rw [← ep]; rfl
    have e4 : y.2.2 = (y.2.2.toNat : Int) := by rw [← ep]; rfl
    show H y.1 = some (.tup [V.int (y.2.1.toNat : Int), V.int (y.2.2.toNat : Int)])
    rw [← e3, ← e4]
    exact this
  · exact fit.2 z.2 (e1 ▸ List.mem_map_of_mem hz)
section
variable {P : Program} {w : World} {K : PySem.W.Frag} {mg : Str → Option Value} {base : Heap} {f : Addr} {fd : FuncData}
/-! ### _law_is -/
abbrev law_is_N : List Str := ["network", "world", "sizes", "labels", "parts", "loops", "listed", "told", "due", "k"]
theorem law_is_sc : FnScope ["network", "world", "sizes", "labels", "parts", "loops", "listed", "told", "due", "k"] ["network", "world"] (defScope law_is_st) := ⟨rfl, rfl, rfl, by decide +kernel, rfl, by decide +kernel, by decide +kernel⟩
def spLIs (C : Addr) : Sp := fun vs H Q _ => ∃ (p t : Addr) (m n : Nat) (ps : List (Nat × Nat)), vs = [.ref p, .ref t] ∧ NG C H p m n ps ∧ WI H t m n (ps.map toI) ∧ ∀ H', Same H H' → Q (.bl true) H'
theorem ok_lis {C f1 f2 f3 f4 p1 p2 p3 p4 p5 g1 g2 g3 g4 g5 : Addr} {fd1 fd2 fd3 fd4 gd1 gd2 gd3 gd4 gd5 : FuncData} {uP uR : Value} (F : FnS K "_law_is" law_is_st f fd) (T : NetC K C uP uR) (J : IsN K C) (m_isinstance : mg "isinstance" = none) (m_len : mg "len" = none) (m_range : mg "range" = none) (m_str : mg "str" = none) (g_Network : mg "Network" = some (.ref C))
    (D_law_linked : Dn P w K mg base 1 "_law_linked" ["sizes", "pairs"] spLinked f1 fd1) (D_law_same : Dn P w K mg base 4 "_law_same" ["told", "due"] (spSame 3) f2 fd2) (D_law_written : Dn P w K mg base 1 "_law_written" ["sizes", "rows"] spWritten f3 fd3)
    (P_depots : PrD P w K mg base 1 C "depots" (spNum C fun m _ _ _ => nV m) p1 g1 gd1) (P_customers : PrD P w K mg base 1 C "customers" (spNum C fun _ n _ _ => nV n) p2 g2 gd2) (P_routes : PrD P w K mg base 1 C "routes" (spRoutes C) p3 g3 gd3)
    (P_loops : PrD P w K mg base 1 C "loops" (spNum C fun m n zs ws => .int ((((zs.length : Nat) : Int) - (m : Int) - (n : Int)) + (ws.length : Nat))) p4 g4 gd4) (P_joined : PrD P w K mg base 1 C "joined" (spNum C fun _ _ _ ws => .bl (decide (ws.length = 1))) p5 g5 gd5)
    (O_str : OwD P w K mg base 1 C "__str__" ["self"] (spStr C) f4 fd4) :
    FnOk P w K mg base (L2N.CX P w) 5 f fd ["network", "world"] (spLIs C) := by
  refine F.ok law_is_sc (fun vs H Q E h => ?_) (fun cdv A outer s H vs Q E hr h => ?_)
  · obtain ⟨p, t, m, n, ps, rfl, _⟩ := h
    rfl
  · obtain ⟨p, t, m, n, ps, rfl, ⟨zn, wn, N, fit, m1, n1, ez⟩, ⟨ts, a, zi, W, ei, l40⟩, q⟩ := h
    obtain ⟨dx, r, di, g, hp, hr', hg⟩ := N.ob
    obtain ⟨zz, S, es, ev⟩ := W.sz ei fit N.m8 N.n8
    have l16 : ps.length ≤ 16 := by
      rw [← ez, List.length_map]
      exact N.few
    have lz : zz.length = ps.length := by rw [← es, List.length_map]
    have lw : wn.length = (heads (labs m n ps)).length := by
      have := congrArg List.length N.due
      rw [List.length_map, ez] at this
      unfold pcs at this
      rw [List.length_map] at this
      exact this
    have mn : m + n ≤ 16 := by
      have := N.m8
      have := N.n8
      omega
    have ll := labs_len m n ps
    refine ⟨_, (pss_cons (ps_if (pt_not (pt_val (pe_callB call_isi (by rfl) m_isinstance (by decide +kernel) (pa_cons (pv 0) (pa_cons (pe_glob (v := .ref C) rfl g_Network rfl) pa_nil))))) (pss_one (ps_ret pe_bl)) pss_nil)
      (pss_cons (ps_set (i := 2) law_is_sc.nd rfl (Or.inl rfl) (pe_ix ix_tup (pv 1) pe_int (fun _ _ => rfl)))
      (pss_cons (ps_set (i := 3) law_is_sc.nd rfl (Or.inr rfl) (pe_call D_law_linked.ok (hr.mono (by decide)) rfl D_law_linked.g D_law_linked.kp D_law_linked.b .nil ErrX.passN (pa_cons (pv 2) (pa_cons (pe_ix ix_tup (pv 1) pe_int (fun _ _ => rfl)) pa_nil))))
      (pss_cons (ps_set (i := 4) law_is_sc.nd rfl (Or.inl rfl) (pe_callB call_len_seq (by rfl) m_len (by decide +kernel) (pa_cons (pe_lc (own := [("k", 9)]) rfl law_is_sc.nd (pi_range1 rfl m_range (pa_cons (pe_callB call_len_seq (by rfl) m_len (by decide +kernel) (pa_cons (pv 3) pa_nil)) pa_nil)) (blkOk_by (own := [("k", 9)]) (N := law_is_N) (sc := defScope law_is_st) (by decide +kernel)) (fun _ _ _ _ _ => (pg_name (i := 9) law_is_sc.nd rfl (Or.inl rfl))) (fun _ _ _ _ _ => (pts_one (pt_cmpR op_eq (pe_ix (ix_list : IxR _ (rIxL K)) (pv 3) (pv 9) (fun _ _ => rfl)) (pv 9) (nomark _)))) (fun _ _ _ _ _ => (pv 9))) pa_nil)))
      (pss_cons (ps_set (i := 5) law_is_sc.nd rfl (Or.inl rfl) (pe_op op_add (pe_op op_sub (pe_callB call_len_seq (by rfl) m_len (by decide +kernel) (pa_cons (pe_ix ix_tup (pv 1) pe_int (fun _ _ => rfl)) pa_nil)) (pe_callB call_len_seq (by rfl) m_len (by decide +kernel) (pa_cons (pv 3) pa_nil))) (pv 4)))
      (pss_cons (ps_set (i := 6) law_is_sc.nd rfl (Or.inl rfl) (pe_prop (pv 0) T.cl P_routes.po P_routes.ok (hr.mono (by decide)) P_routes.b .nil ErrX.passN rfl))
      (pss_cons (ps_set (i := 7) law_is_sc.nd rfl (Or.inl rfl) (pe_lst (pa_cons (pe_prop (pv 0) T.cl P_depots.po P_depots.ok (hr.mono (by decide)) P_depots.b .nil ErrX.passN rfl) (pa_cons (pe_prop (pv 0) T.cl P_customers.po P_customers.ok (hr.mono (by decide)) P_customers.b .nil ErrX.passN rfl) (pa_cons (pv 6) (pa_cons (pe_prop (pv 0) T.cl P_loops.po P_loops.ok (hr.mono (by decide)) P_loops.b .nil ErrX.passN rfl) (pa_cons (pe_prop (pv 0) T.cl P_joined.po P_joined.ok (hr.mono (by decide)) P_joined.b .nil ErrX.passN rfl) pa_nil)))))))
      (pss_cons (ps_set (i := 8) law_is_sc.nd rfl (Or.inl rfl) (pe_lst (pa_cons (pe_ix ix_tup (pv 2) pe_int (fun _ _ => rfl)) (pa_cons (pe_ix ix_tup (pv 2) pe_int (fun _ _ => rfl)) (pa_cons (pe_ix ix_tup (pv 1) pe_int (fun _ _ => rfl)) (pa_cons (pv 5) (pa_cons (pe_cmpR op_eq (pv 4) pe_int (nomark _)) pa_nil)))))))
      (pss_cons (ps_if (pt_not (pt_val (pe_call D_law_same.ok (hr.mono (by decide)) rfl D_law_same.g D_law_same.kp D_law_same.b .nil ErrX.passN (pa_cons (pv 7) (pa_cons (pv 8) pa_nil))))) (pss_one (ps_ret pe_bl)) pss_nil)
      (pss_cons (ps_if (pt_not (pt_val (pe_call D_law_same.ok (hr.mono (by decide)) rfl D_law_same.g D_law_same.kp D_law_same.b .nil ErrX.passN (pa_cons (pe_callTy (OwnM.call_strO O_str.ok (hr.mono (by decide)) O_str.b ErrX.passN O_str.s O_str.fn) (by rfl) m_str (by decide +kernel) (pa_cons (pv 0) pa_nil)) (pa_cons (pe_call D_law_written.ok (hr.mono (by decide)) rfl D_law_written.g D_law_written.kp D_law_written.b .nil ErrX.passN (pa_cons (pv 2) (pa_cons (pe_ix ix_tup (pv 1) pe_int (fun _ _ => rfl)) pa_nil))) pa_nil))))) (pss_one (ps_ret pe_bl)) pss_nil)
      (pss_cons (ps_expr (pe_bm PySem.F.plainAttrs_list PySem.F.slot_list_append PySem.F.type_list_append mt_append (pv 6) (pa_cons (pe_tup (pa_cons pe_int (pa_cons pe_int pa_nil))) pa_nil)))
      (pss_cons (ps_expr (pe_bm0 PySem.F.plainAttrs_list PySem.F.slot_list_reverse PySem.F.type_list_reverse mt_reverse (pv 6)))
      (pss_one (ps_ret pe_bl)))))))))))))), ?_⟩
    refine ⟨.ref p, rfl, .ref p, .ref C, .ref C, .ref C, true, rfl, .own _, .base (.ins hp T.cl J.ha J.hn J.ht J.hm), J.k, _, rfl, iteF ?_⟩
    refine ⟨.ref t, rfl, t, _, 0, .ref ts, rfl, rfl, sqt W.ht, rfl, ?_⟩
    refine ⟨.ref ts, rfl, .ref t, rfl, t, _, 1, .ref a, rfl, rfl, sqt W.ht, rfl, ts, a, m, n, zz, rfl, S, fun H1 L s1 nL hL => ?_⟩
    rw [es] at hL
    have ln : ((labs m n ps).map nV).length = m + n := by rw [List.length_map, ll]
    refine ⟨.ref L, rfl, L, _, rfl, .inl (sq hL), _, rfl, by omega, by omega, fun D nD => ?_⟩
    rw [Int.toNat_natCast, ln]
    refine lc_range (lo := 0) (n := m + n) (fun i H' => ∃ ks : List Nat, Same H1 H' ∧ H' D = some (.lst (ks.map nV)) ∧ ks = (List.range i).filter fun k => decide ((labs m n ps).getD k 0 = k)) ⟨[], Same.new nD, upd_same, rfl⟩ (fun i H' hi h => ?_) (fun H2 h => ?_)
    · obtain ⟨ks, sm, hD, ek⟩ := h
      refine ⟨rfl, ?_⟩
      have hgd : (labs m n ps)[i]? = some ((labs m n ps).getD i 0) := by
        rw [List.getD_eq_getElem?_getD, List.getElem?_eq_getElem (by omega)]
        rfl
      have at_ : atI ((labs m n ps).map nV) (0 + (i : Int)) = some (nV ((labs m n ps).getD i 0)) := by
        rw [Int.zero_add]
        exact atI_nat (by rw [List.getElem?_map, hgd]; rfl)
      have kl : ks.length ≤ i := by
        rw [ek]
        have := List.length_filter_le (fun k => decide ((labs m n ps).getD k 0 = k)) (List.range i)
        rw [List.length_range] at this
        exact this
      refine ⟨.ref L, rfl, .int (0 + (i : Int)), rfl, L, _, 0 + (i : Int), nV ((labs m n ps).getD i 0), rfl, rfl, sq (sm _ _ hL), at_, .int (0 + (i : Int)), rfl, rfl, _, rfl, ite2 (fun c => ?_) (fun c => ?_)⟩
      · have c : (labs m n ps).getD i 0 = i := by
          have := V.int.inj (of_decide_eq_true c)
          omega
        refine ⟨.int (0 + (i : Int)), rfl, _, hD, small1000 (by rw [List.length_map]; omega), ks ++ [i], sm.mut nD, ?_, ?_⟩
        · rw [upd_same, List.map_append, Int.zero_add]
          rfl
        · rw [List.range_succ, List.filter_append, ← ek, List.filter_cons_of_pos (by exact decide_eq_true c)]
          rfl
      · have c : ¬ (labs m n ps).getD i 0 = i := fun z => c (decide_eq_true (by rw [z, Int.zero_add]; rfl))
        refine ⟨ks, sm, hD, ?_⟩
        rw [List.range_succ, List.filter_append, ← ek, List.filter_cons_of_neg (by rw [decide_eq_false c]; exact Bool.false_ne_true)]
        exact (List.append_nil _).symm
    obtain ⟨ks, s2, hD, ek⟩ := h
    have lk : ks.length = wn.length := by
      rw [ek, lw]
      unfold heads
      rw [ll]
    have sA := s1.trans s2
    have w16 : wn.length ≤ 16 := by
      rw [lw]
      have := List.length_filter_le (fun k => decide ((labs m n ps).getD k 0 = k)) (List.range (labs m n ps).length)
      rw [List.length_range] at this
      unfold heads
      omega
    refine ⟨D, _, rfl, .inl (sq hD), ?_⟩
    refine ⟨.ref t, rfl, t, _, 1, .ref a, rfl, rfl, sqt (sA _ _ W.ht), rfl, a, _, rfl, .inl (sq (sA _ _ W.ha)), .ref L, rfl, L, _, rfl, .inl (sq (s2 _ _ hL)), _, _, rfl, rfl, .int (ks.map nV).length, rfl, _, _, rfl, rfl, ?_⟩
    refine ⟨.ref p, rfl, p, dx, _, rfl, sA _ _ hp, p, m, n, zn, wn, rfl, N.keep sA, fun H3 R s3 nR hR => ?_⟩
    have sB := sA.trans s3
    have hp3 := sB _ _ hp
    have N3 := N.keep sB
    refine ⟨.ref p, rfl, p, dx, _, rfl, hp3, p, m, n, zn, wn, rfl, N3, .ref p, rfl, p, dx, _, rfl, hp3, p, m, n, zn, wn, rfl, N3, .ref R, rfl, .ref p, rfl, p, dx, _, rfl, hp3, p, m, n, zn, wn, rfl, N3, .ref p, rfl, p, dx, _, rfl, hp3, p, m, n, zn, wn, rfl, N3, Nat.le_of_lt (small1000 (show 5 ≤ 1000 by decide)), fun T1 nT1 => ?_⟩
    have s4 := Same.new (o := .lst [nV m, nV n, .ref R, .int ((((zn.length : Nat) : Int) - (m : Int) - (n : Int)) + (wn.length : Nat)), .bl (decide (wn.length = 1))]) nT1
    have hT1 : (upd H3 T1 (.lst [nV m, nV n, .ref R, .int ((((zn.length : Nat) : Int) - (m : Int) - (n : Int)) + (wn.length : Nat)), .bl (decide (wn.length = 1))])) T1 = some (.lst [nV m, nV n, .ref R, .int ((((zn.length : Nat) : Int) - (m : Int) - (n : Int)) + (wn.length : Nat)), .bl (decide (wn.length = 1))]) := upd_same
    generalize upd H3 T1 (.lst [nV m, nV n, .ref R, .int ((((zn.length : Nat) : Int) - (m : Int) - (n : Int)) + (wn.length : Nat)), .bl (decide (wn.length = 1))]) = H4 at s4 hT1 ⊢
    have sC := sB.trans s4
    refine ⟨.ref ts, rfl, ts, _, 0, nV m, rfl, rfl, sqt (sC _ _ W.hs), rfl, .ref ts, rfl, ts, _, 1, nV n, rfl, rfl, sqt (sC _ _ W.hs), rfl, .ref t, rfl, t, _, 1, .ref a, rfl, rfl, sqt (sC _ _ W.ht), rfl, _, rfl, .int (ks.map nV).length, rfl, rfl, Nat.le_of_lt (small1000 (show 5 ≤ 1000 by decide)), fun T2 nT2 => ?_⟩
    have eL : (((zi.map iV).length : Nat) : Int) - (((labs m n ps).map nV).length : Nat) + ((ks.map nV).length : Nat) = (((zn.length : Nat) : Int) - (m : Int) - (n : Int)) + (wn.length : Nat) := by
      have h1 : (zi.map iV).length = zn.length := by
        rw [← ev, List.length_map, lz, ← ez, List.length_map]
      rw [h1, ln, List.length_map, lk]
      omega
    have eb : decide (V.int ((ks.map nV).length : Nat) = V.int 1) = decide (wn.length = 1) := by
      rw [List.length_map, lk]
      by_cases z : wn.length = 1
      · rw [decide_eq_true z, z]
        rfl
      · rw [decide_eq_false z]
        exact decide_eq_false fun e => z (by have := V.int.inj e; omega)
    show tSeq _ _ _ _ (upd H4 T2 (.lst [nV m, nV n, .ref a, .int ((((zi.map iV).length : Nat) : Int) - (((labs m n ps).map nV).length : Nat) + ((ks.map nV).length : Nat)), .bl (decide (V.int ((ks.map nV).length : Nat) = V.int 1))]))
    rw [eL, eb]
    have s5 := Same.new (o := .lst [nV m, nV n, .ref a, .int ((((zn.length : Nat) : Int) - (m : Int) - (n : Int)) + (wn.length : Nat)), .bl (decide (wn.length = 1))]) nT2
    have hT2 : (upd H4 T2 (.lst [nV m, nV n, .ref a, .int ((((zn.length : Nat) : Int) - (m : Int) - (n : Int)) + (wn.length : Nat)), .bl (decide (wn.length = 1))])) T2 = some (.lst [nV m, nV n, .ref a, .int ((((zn.length : Nat) : Int) - (m : Int) - (n : Int)) + (wn.length : Nat)), .bl (decide (wn.length = 1))]) := upd_same
    generalize upd H4 T2 (.lst [nV m, nV n, .ref a, .int ((((zn.length : Nat) : Int) - (m : Int) - (n : Int)) + (wn.length : Nat)), .bl (decide (wn.length = 1))]) = H5 at s5 hT2 ⊢
    have sD := sC.trans s5
    have hR5 := s5 _ _ (s4 _ _ hR)
    have p1 : PrZ H5 zn := N.pr.keep sD
    have p2 : PrZ H5 zz := S.pr.keep sD
    have R1 : Rep (fun _ => True) H5 3 (.ref T1) (.nd false [dNt m, dNt n, .nd false (ps.map dP), dInt ((((zn.length : Nat) : Int) - (m : Int) - (n : Int)) + (wn.length : Nat)), .lf (.bl (decide (wn.length = 1)))]) := by
      refine Rep.lst (s5 _ _ hT1) trivial (.cons Rep.int (.cons Rep.int (.cons (Rep.lst hR5 trivial ?_ (by rw [List.length_map]; have := N.few; omega)) (.cons Rep.int (.cons Rep.bl .nil))))) (by show 5 ≤ 100; decide)
      rw [← ez]
      exact reps_z p1
    have R2 : Rep (fun _ => True) H5 3 (.ref T2) (.nd false [dNt m, dNt n, .nd false (ps.map dP), dInt ((((zn.length : Nat) : Int) - (m : Int) - (n : Int)) + (wn.length : Nat)), .lf (.bl (decide (wn.length = 1)))]) := by
      refine Rep.lst hT2 trivial (.cons Rep.int (.cons Rep.int (.cons (Rep.lst (sD _ _ S.ha) trivial ?_ (by rw [List.length_map]; omega)) (.cons Rep.int (.cons Rep.bl .nil))))) (by show 5 ≤ 100; decide)
      rw [← es]
      exact reps_z p2
    refine ⟨.ref T1, rfl, .ref T2, rfl, .ref T1, .ref T2, rfl, sm_of R1 R2, _, rfl, iteF ?_⟩
    refine ⟨.ref p, rfl, p, dx, _, rfl, sD _ _ hp, p, m, n, zn, wn, rfl, N.keep sD, fun H6 s6 => ⟨_, rfl, ?_⟩⟩
    have sE := sD.trans s6
    refine ⟨.ref ts, rfl, .ref t, rfl, t, _, 1, .ref a, rfl, rfl, sqt (sE _ _ W.ht), rfl, ts, a, m, n, zz, rfl, S.keep sE, by omega, ?_⟩
    refine ⟨_, _, rfl, .inl (.inr (.inl ⟨wrT m n ps, by rw [ez], by rw [es]⟩)), _, rfl, iteF ?_⟩
    have hR6 := s6 _ _ hR5
    have nR0 := sA.back nR
    refine ⟨.ref R, rfl, .inl ⟨rfl, _, sq hR6⟩, len2, fun t9 n9 => ?_⟩
    have s7 := Same.new (o := .tup [.int 9, .int 9]) n9
    refine ⟨R, _, _, rfl, rfl, s7 _ _ hR6, small1000 (by rw [List.length_map]; have := N.few; omega), ?_⟩
    refine ⟨.ref R, rfl, .inl ⟨rfl, _, sq upd_same⟩, R, _, rfl, rfl, upd_same, ?_⟩
    rw [upd_upd]
    exact q _ ((sE.trans s7).mut nR0)
end
end K05
set_option Elab.async false
set_option linter.all false
set_option maxRecDepth 100000
set_option maxHeartbeats 4000000
namespace K05
open PySem PySem.Spec PyProof.Rows L2
/-- the rows of the glued network, whatever the places -/
def glI (s : Bool) (m1 n1 : Nat) (x y : Int) (qs1 qs2 : List (Int × Int)) : List (Int × Int) := if s then (qs1.map swi ++ (qs2.map swi).map (mpI n1 m1 x y)).map swi else qs1 ++ qs2.map (mpI m1 n1 x y)
theorem mpI_nat (m1 n1 x y : Nat) (hm : 1 ≤ m1) (p : Nat × Nat) : mpI m1 n1 (x : Int) (y : Int) (toI p) = toI (gp m1 n1 x y p) := by
  refine Prod.ext ?_ rfl
  show (if (p.1 : Int) > y then (m1 : Int) + p.1 - 1 else if (p.1 : Int) < y then (m1 : Int) + p.1 else (x : Int)) = ((gi m1 x y p.1 : Nat) : Int)
  unfold gi
  by_cases h1 : p.1 < y
  · rw [if_neg (by omega), if_pos (by omega), if_pos h1]
    rfl
  · rw [if_neg h1]
    by_cases h2 : p.1 = y
    · rw [if_neg (by omega), if_neg (by omega), if_pos h2]
    · rw [if_pos (by omega), if_neg h2]
      omega
theorem toI_swp (ps : List (Nat × Nat)) : (ps.map toI).map swi = (ps.map swp).map toI := by
  rw [List.map_map, List.map_map]
  rfl
theorem mpI_map {m1 n1 x y : Nat} (hm : 1 ≤ m1) (ps : List (Nat × Nat)) : (ps.map toI).map (mpI m1 n1 (x : Int) (y : Int)) = (ps.map (gp m1 n1 x y)).map toI := by
  rw [List.map_map, List.map_map]
  exact List.map_congr_left fun p _ => mpI_nat m1 n1 x y hm p
theorem glI_nat {s : Bool} {m1 n1 x y : Nat} (hm : 1 ≤ m1) (hn : 1 ≤ n1) (ps1 ps2 : List (Nat × Nat)) : glI s m1 n1 (x : Int) (y : Int) (ps1.map toI) (ps2.map toI) = (gls s m1 n1 x y ps1 ps2).map toI := by
  cases s with
  | false =>
    show ps1.map toI ++ (ps2.map toI).map _ = (ps1 ++ ps2.map _).map toI
    rw [mpI_map hm, List.map_append]
  | true =>
    show ((ps1.map toI).map swi ++ ((ps2.map toI).map swi).map _).map swi = ((ps1.map swp ++ (ps2.map swp).map _).map swp).map toI
    rw [toI_swp, toI_swp, mpI_map hn, ← List.map_append, toI_swp]
theorem leI_anti {a b : Int × Int} (h : leI a b) (k : leI b a) : a = b := by
  unfold leI at h k
  exact Prod.ext (by omega) (by omega)
theorem le_uniq : ∀ {xs ys : List (Int × Int)}, xs.Pairwise leI → ys.Pairwise leI → xs.Perm ys → xs = ys
  | [], ys, _, _, p => (List.nil_perm.mp p).symm
  | x :: xs, [], _, _, p => absurd p.length_eq (by simp)
  | x :: xs, y :: ys, hx, hy, p => by
    have e : x = y := by
      have h1 : x ∈ y :: ys := p.mem_iff.mp List.mem_cons_self
      have h2 : y ∈ x :: xs := p.mem_iff.mpr List.mem_cons_self
      rcases List.mem_cons.mp h1 with h1 | h1
      · exact h1
      · rcases List.mem_cons.mp h2 with h2 | h2
        · exact h2.symm
        · exact leI_anti (List.rel_of_pairwise_cons hx h2) (List.rel_of_pairwise_cons hy h1)
    subst e
    rw [le_uniq hx.of_cons hy.of_cons (p.cons_inv)]
theorem asc_le {ps qs : List (Nat × Nat)} (h : Asc ps qs) : (ps.map toI).Pairwise leI := by
  rw [List.pairwise_map]
  refine h.2.imp fun {a b} k => ?_
  show (a.1 : Int) < b.1 ∨ ((a.1 : Int) = b.1 ∧ (a.2 : Int) ≤ b.2)
  unfold ltN at k
  omega
section
variable {P : Program} {w : World} {K : PySem.W.Frag} {mg : Str → Option Value} {base : Heap} {f : Addr} {fd : FuncData}
/-! ### _law_right -/
abbrev law_right_N : List Str := ["side", "first", "second", "one", "two", "places", "due", "mapped", "step", "told", "about"]
theorem law_right_sc : FnScope ["side", "first", "second", "one", "two", "places", "due", "mapped", "step", "told", "about"] ["side", "first", "second", "one", "two", "places"] (defScope law_right_st) := ⟨rfl, rfl, rfl, by decide +kernel, rfl, by decide +kernel, by decide +kernel⟩
def spLR (C : Addr) : Sp := fun vs H Q _ => ∃ (s : Bool) (p1 p2 t1 t2 pl : Addr) (x y : Int) (m1 n1 m2 n2 : Nat) (ps1 ps2 : List (Nat × Nat)), vs = [sV s, .ref p1, .ref p2, .ref t1, .ref t2, .ref pl] ∧ NG C H p1 m1 n1 ps1 ∧ NG C H p2 m2 n2 ps2 ∧ WI H t1 m1 n1 (ps1.map toI) ∧ WI H t2 m2 n2 (ps2.map toI) ∧ H pl = some (.tup [.int x, .int y]) ∧ ∀ H', Same H H' → Q (.bl true) H'
theorem ok_lr {C f1 f2 f3 f4 f5 f6 f7 : Addr} {fd1 fd2 fd3 fd4 fd5 fd6 fd7 : FuncData} {uP uR : Value} (F : FnS K "_law_right" law_right_st f fd) (T : NetC K C uP uR) (m_range : mg "range" = none)
    (D_law_first_due : Dn P w K mg base 1 "_law_first_due" ["side", "one", "two", "places"] spDue f1 fd1) (D_law_map_of : Dn P w K mg base 1 "_law_map_of" ["one", "two", "places"] spMap f2 fd2) (D_law_flipped : Dn P w K mg base 1 "_law_flipped" ["world"] spFlip f3 fd3)
    (D_law_glue : Dn P w K mg base 8 "_law_glue" ["side", "first", "second", "places"] (spLGlue C) f4 fd4) (D_law_same : Dn P w K mg base 4 "_law_same" ["told", "due"] (spSame 3) f5 fd5) (D_law_is : Dn P w K mg base 5 "_law_is" ["network", "world"] (spLIs C) f6 fd6) (M_t : MtD P w K mg base 7 C "turned" ["self"] (spTurned C) f7 fd7) :
    FnOk P w K mg base (L2N.CX P w) 9 f fd ["side", "first", "second", "one", "two", "places"] (spLR C) := by
  refine F.ok law_right_sc (fun vs H Q E h => ?_) (fun cdv A outer s H vs Q E hr h => ?_)
  · obtain ⟨s, p1, p2, t1, t2, pl, x, y, m1, n1, m2, n2, ps1, ps2, rfl, _⟩ := h
    rfl
  · obtain ⟨b, p1, p2, t1, t2, pl, x, y, m1, n1, m2, n2, ps1, ps2, rfl, N1, N2, W1, W2, hpl, q⟩ := h
    have l1 : 1 ≤ m1 := by obtain ⟨_, _, _, _, h, _⟩ := N1; exact h
    have l1' : 1 ≤ n1 := by obtain ⟨_, _, _, _, _, h, _⟩ := N1; exact h
    have c1 : ps1.length ≤ 16 := by obtain ⟨zs, ws, N, _, _, _, rfl⟩ := N1; rw [List.length_map]; exact N.few
    have c2 : ps2.length ≤ 16 := by obtain ⟨zs, ws, N, _, _, _, rfl⟩ := N2; rw [List.length_map]; exact N.few
    refine ⟨_, (pss_cons (ps_set (i := 6) law_right_sc.nd rfl (Or.inl rfl) (pe_call D_law_first_due.ok (hr.mono (by decide)) rfl D_law_first_due.g D_law_first_due.kp D_law_first_due.b .nil ErrX.passN (pa_cons (pv 0) (pa_cons (pv 3) (pa_cons (pv 4) (pa_cons (pv 5) pa_nil))))))
      (pss_cons (ps_set (i := 7) law_right_sc.nd rfl (Or.inl rfl) (pe_call D_law_map_of.ok (hr.mono (by decide)) rfl D_law_map_of.g D_law_map_of.kp D_law_map_of.b .nil ErrX.passN (pa_cons (pv 3) (pa_cons (pv 4) (pa_cons (pv 5) pa_nil)))))
      (Evl.pss_cut (ps_if (pt_cmpR op_eq (pv 0) pe_int (nomark _)) (pss_cons (ps_set (i := 7) law_right_sc.nd rfl (Or.inl rfl) (pe_call D_law_map_of.ok (hr.mono (by decide)) rfl D_law_map_of.g D_law_map_of.kp D_law_map_of.b .nil ErrX.passN (pa_cons (pe_call D_law_flipped.ok (hr.mono (by decide)) rfl D_law_flipped.g D_law_flipped.kp D_law_flipped.b .nil ErrX.passN (pa_cons (pv 3) pa_nil)) (pa_cons (pe_call D_law_flipped.ok (hr.mono (by decide)) rfl D_law_flipped.g D_law_flipped.kp D_law_flipped.b .nil ErrX.passN (pa_cons (pv 4) pa_nil)) (pa_cons (pv 5) pa_nil)))))
      (pss_one (ps_set (i := 7) law_right_sc.nd rfl (Or.inl rfl) (pe_call D_law_flipped.ok (hr.mono (by decide)) rfl D_law_flipped.g D_law_flipped.kp D_law_flipped.b .nil ErrX.passN (pa_cons (pv 7) pa_nil))))) pss_nil)
      (Evl.pss_cut (ps_for (passes_of rfl) rfl (pi_range1 rfl m_range (pa_cons pe_int pa_nil)) (pg_name (i := 8) law_right_sc.nd rfl (Or.inl rfl))
      (pss_cons (ps_set (i := 9) law_right_sc.nd rfl (Or.inl rfl) (pe_call D_law_glue.ok (hr.mono (by decide)) rfl D_law_glue.g D_law_glue.kp D_law_glue.b .nil ErrX.passN (pa_cons (pv 0) (pa_cons (pv 1) (pa_cons (pv 2) (pa_cons (pv 5) pa_nil))))))
      (pss_cons (ps_if (PW.pt (pw_and (pt_cmpR op_notN (pv 6) pe_non (nomark _)) (pw_and1 (pt_not (pt_val (pe_call D_law_same.ok (hr.mono (by decide)) rfl D_law_same.g D_law_same.kp D_law_same.b .nil ErrX.passN (pa_cons (pv 9) (pa_cons (pv 6) pa_nil)))))))) (pss_one (ps_ret pe_bl)) pss_nil)
      (pss_one (ps_if (PW.pt (pw_and (pt_cmpR op_isN (pv 6) pe_non (nomark _)) (pw_and1 (PW.pt (pw_or (pt_cmpR op_ne (pe_ix ix_tup (pv 9) pe_int (fun _ _ => rfl)) pe_str (nomark _)) (pw_or1 (pt_not (pt_val (pe_call D_law_is.ok (hr.mono (by decide)) rfl D_law_is.g D_law_is.kp D_law_is.b .nil ErrX.passN (pa_cons (pe_ix ix_tup (pv 9) pe_int (fun _ _ => rfl)) (pa_cons (pv 7) pa_nil))))))))))) (pss_one (ps_ret pe_bl)) pss_nil)))))
      (pss_cons (ps_if (pt_cmpR op_isN (pv 6) pe_non (nomark _)) (pss_cons (ps_set (i := 10) law_right_sc.nd rfl (Or.inl rfl) (pe_call D_law_glue.ok (hr.mono (by decide)) rfl D_law_glue.g D_law_glue.kp D_law_glue.b .nil ErrX.passN (pa_cons (pe_op op_sub pe_int (pv 0)) (pa_cons (pe_meth0 (pv 1) T.cl M_t.m M_t.ok (hr.mono (by decide)) M_t.b .nil ErrX.passN) (pa_cons (pe_meth0 (pv 2) T.cl M_t.m M_t.ok (hr.mono (by decide)) M_t.b .nil ErrX.passN) (pa_cons (pv 5) pa_nil))))))
      (pss_one (ps_if (PW.pt (pw_or (pt_cmpR op_ne (pe_ix ix_tup (pv 10) pe_int (fun _ _ => rfl)) pe_str (nomark _)) (pw_or1 (pt_not (pt_val (pe_call D_law_is.ok (hr.mono (by decide)) rfl D_law_is.g D_law_is.kp D_law_is.b .nil ErrX.passN (pa_cons (pe_ix ix_tup (pv 10) pe_int (fun _ _ => rfl)) (pa_cons (pe_call D_law_flipped.ok (hr.mono (by decide)) rfl D_law_flipped.g D_law_flipped.kp D_law_flipped.b .nil ErrX.passN (pa_cons (pv 7) pa_nil)) pa_nil)))))))) (pss_one (ps_ret pe_bl)) pss_nil))) pss_nil)
      (pss_one (ps_ret (pe_and (pe_call D_law_is.ok (hr.mono (by decide)) rfl D_law_is.g D_law_is.kp D_law_is.b .nil ErrX.passN (pa_cons (pv 1) (pa_cons (pv 3) pa_nil))) (pe_one (pe_call D_law_is.ok (hr.mono (by decide)) rfl D_law_is.g D_law_is.kp D_law_is.b .nil ErrX.passN (pa_cons (pv 2) (pa_cons (pv 4) pa_nil)))))))))))), ?_⟩
    refine ⟨sV b, rfl, .ref t1, rfl, .ref t2, rfl, .ref pl, rfl, b, t1, t2, pl, m1, n1, m2, n2, _, _, x, y, rfl, W1, W2, hpl, l1, l1', fun H1 dv s1 hdv => ?_⟩
    rw [List.length_map, List.length_map] at hdv
    refine ⟨.ref t1, rfl, .ref t2, rfl, .ref pl, rfl, t1, t2, pl, m1, n1, m2, n2, _, _, x, y, rfl, W1.keep s1, W2.keep s1, s1 _ _ hpl, by rw [List.length_map]; exact c1, by rw [List.length_map]; exact c2, l1, fun H2 M qs s2 WM pm le => ?_⟩
    have sA := s1.trans s2
    refine ⟨fun σ H' => ∃ (M : Addr) (qs : List (Int × Int)), σ = [some (sV b), some (.ref p1), some (.ref p2), some (.ref t1), some (.ref t2), some (.ref pl), some dv, some (.ref M), none, none, none] ∧ Same H1 H' ∧ WI H' M (gM b m1 m2) (gM (!b) n1 n2) qs ∧ qs.Perm (glI b m1 n1 x y (ps1.map toI) (ps2.map toI)) ∧ qs.Pairwise leI, ?_, ?_⟩
    · cases b with
      | false =>
        refine ⟨sV false, rfl, rfl, _, rfl, ite2 (fun e => absurd (of_decide_eq_true e) (by decide)) (fun _ => ?_)⟩
        exact ⟨M, qs, rfl, s2, WM, pm, le⟩
      | true =>
        refine ⟨sV true, rfl, rfl, _, rfl, ite2 (fun _ => ?_) (fun e => absurd (decide_eq_true rfl) e)⟩
        refine ⟨.ref t1, rfl, t1, m1, n1, _, rfl, W1.keep sA, fun H3 F1 r1 s3 V1 q1 _ => ?_⟩
        have sB := sA.trans s3
        refine ⟨.ref t2, rfl, t2, m2, n2, _, rfl, W2.keep sB, fun H4 F2 r2 s4 V2 q2 _ => ?_⟩
        have sC := sB.trans s4
        have k1 : r1.length ≤ 16 := by rw [q1.length_eq, List.length_map, List.length_map]; exact c1
        have k2 : r2.length ≤ 16 := by rw [q2.length_eq, List.length_map, List.length_map]; exact c2
        refine ⟨.ref pl, rfl, F1, F2, pl, n1, m1, n2, m2, r1, r2, x, y, rfl, V1.keep s4, V2, sC _ _ hpl, k1, k2, l1', fun H5 G r5 s5 V5 q5 _ => ?_⟩
        refine ⟨.ref G, rfl, G, _, _, _, rfl, V5, fun H6 L r6 s6 V6 q6 le6 => ?_⟩
        refine ⟨L, r6, rfl, s2.trans (s3.trans (s4.trans (s5.trans s6))), V6, ?_, le6⟩
        exact q6.trans ((q5.trans (q1.append (q2.map _))).map _)
    rintro σ H3 ⟨M, qs, rfl, s3, WM, pm, le⟩
    have sB := s1.trans s3
    rcases hg : gDue b m1 n1 ps1.length m2 n2 ps2.length x y with _ | ⟨e, v⟩
    · rw [hg] at hdv
      obtain rfl : dv = .non := hdv
      obtain ⟨⟨x0, x1⟩, ⟨y0, y1⟩, g8, g8', g16⟩ := gDue_none.mp hg
      obtain ⟨xn, rfl⟩ := Int.eq_ofNat_of_zero_le x0
      obtain ⟨yn, rfl⟩ := Int.eq_ofNat_of_zero_le y0
      rw [glI_nat l1 l1'] at pm
      have hq : ∀ rs, Asc rs (gls b m1 n1 xn yn ps1 ps2) → qs = rs.map toI := fun rs h => le_uniq le (asc_le h) (pm.trans (h.1.map toI).symm)
      refine ⟨fun σ H' => ∃ u8 u9 : Option V, σ = [some (sV b), some (.ref p1), some (.ref p2), some (.ref t1), some (.ref t2), some (.ref pl), some .non, some (.ref M), u8, u9, none] ∧ Same H3 H', ?_, ?_⟩
      · refine ⟨2, rfl, by decide, by decide, ?_⟩
        refine for_range (lo := 0) (n := 2) (fun i σ H' => ∃ u8 u9 : Option V, σ = [some (sV b), some (.ref p1), some (.ref p2), some (.ref t1), some (.ref t2), some (.ref pl), some .non, some (.ref M), u8, u9, none] ∧ Same H3 H') ⟨none, none, rfl, Same.refl _⟩ (fun i σ H' hi h => ?_) (fun σ H' h => h)
        obtain ⟨u8, u9, rfl, sm⟩ := h
        have sC := sB.trans sm
        refine ⟨sV b, rfl, .ref p1, rfl, .ref p2, rfl, .ref pl, rfl, b, p1, p2, pl, xn, yn, m1, n1, m2, n2, ps1, ps2, rfl, N1.keep sC, N2.keep sC, sC _ _ hpl, fun e v ed => (by rw [hg] at ed; cases ed), fun _ H4 t g rs s4 ht Ng asc => ?_⟩
        refine ⟨.non, rfl, rfl, _, rfl, ite2 (fun e => absurd e (by decide)) (fun _ => ?_)⟩
        refine ⟨.non, rfl, rfl, _, rfl, ite2 (fun _ => ?_) (fun e => absurd (decide_eq_true rfl) e)⟩
        refine ⟨.ref t, rfl, t, _, 0, .str "told", rfl, rfl, sqt ht, rfl, rfl, _, rfl, ite2 (fun e => (by rw [decide_eq_true rfl] at e; cases e)) (fun _ => ?_)⟩
        refine ⟨.ref t, rfl, t, _, 1, .ref g, rfl, rfl, sqt ht, rfl, .ref M, rfl, g, M, _, _, rs, rfl, Ng, hq rs asc ▸ WM.keep (sm.trans s4), fun H5 s5 => ⟨_, rfl, iteF ?_⟩⟩
        exact ⟨_, _, rfl, sm.trans (s4.trans s5)⟩
      rintro σ H5 ⟨u8, u9, rfl, s5⟩
      have sC := sB.trans s5
      obtain ⟨zn1, wn1, Nn1, ft1, _, _, ez1⟩ := N1.keep sC
      obtain ⟨zn2, wn2, Nn2, ft2, k1, k1', ez2⟩ := N2.keep sC
      obtain ⟨dx1, _, _, _, hp1, _⟩ := Nn1.ob
      obtain ⟨dx2, _, _, _, hp2, _⟩ := Nn2.ob
      refine ⟨.non, rfl, rfl, _, rfl, ite2 (fun _ => ?_) (fun e => absurd (decide_eq_true rfl) e)⟩
      refine ⟨sV b, rfl, 1, (if b then 1 else 0), rfl, rfl, ?_⟩
      refine ⟨.ref p1, rfl, p1, dx1, _, rfl, hp1, nf_no _ _ _ _ _ (by decide) (by decide) (by decide) (by decide) (by decide), p1, m1, n1, zn1, wn1, rfl, Nn1, by rw [ez1]; exact ft1.1, l1, l1', fun H6 a1 zt1 wt1 s6 na1 Nt1 _ asc1 _ => ?_⟩
      refine ⟨.ref p2, rfl, p2, dx2, _, rfl, s6 _ _ hp2, nf_no _ _ _ _ _ (by decide) (by decide) (by decide) (by decide) (by decide), p2, m2, n2, zn2, wn2, rfl, Nn2.keep s6, by rw [ez2]; exact ft2.1, k1, k1', fun H7 a2 zt2 wt2 s7 na2 Nt2 _ asc2 _ => ?_⟩
      rw [ez1] at asc1
      rw [ez2] at asc2
      have sD := sC.trans (s6.trans s7)
      have q1 : (zt1.map (·.2)).length = ps1.length := by rw [asc1.1.length_eq, List.length_map]
      have q2 : (zt2.map (·.2)).length = ps2.length := by rw [asc2.1.length_eq, List.length_map]
      have hg' : gDue (!b) n1 m1 (zt1.map (·.2)).length n2 m2 (zt2.map (·.2)).length (xn : Int) (yn : Int) = none := by
        rw [q1, q2]
        exact gDue_turn hg
      have NA : ∀ {H' : Hp} {a : Addr} {m n : Nat} {zt : List Z} {wt : List P4} {ps : List (Nat × Nat)}, NetAt C H' a n m zt wt → Asc (zt.map (·.2)) (ps.map swp) → Fit m n ps → 1 ≤ m → 1 ≤ n → NG C H' a n m (zt.map (·.2)) := fun Nt asc ft h1 h2 =>
        ⟨_, _, Nt, ⟨asc.1.nodup_iff.mpr (swp_fit ft).1, fun c hc => (swp_fit ft).2 c (asc.1.mem_iff.mp hc)⟩, h2, h1, rfl⟩
      refine ⟨.ref pl, rfl, !b, a1, a2, pl, xn, yn, n1, m1, n2, m2, zt1.map (·.2), zt2.map (·.2), by cases b <;> rfl, (NA Nt1 asc1 ft1 l1 l1').keep s7, NA Nt2 asc2 ft2 k1 k1', sD _ _ hpl, fun e v ed => (by rw [hg'] at ed; cases ed), fun _ H8 t g rs s8 ht Ng asc => ?_⟩
      have sE := sD.trans s8
      have pr : rs.Perm ((gls b m1 n1 xn yn ps1 ps2).map swp) := by
        rw [← gls_turn]
        exact asc.1.trans (gls_perm asc1.1 asc2.1)
      refine ⟨.ref t, rfl, t, _, 0, .str "told", rfl, rfl, sqt ht, rfl, rfl, _, rfl, ite2 (fun e => (by rw [decide_eq_true rfl] at e; cases e)) (fun _ => ?_)⟩
      refine ⟨.ref t, rfl, t, _, 1, .ref g, rfl, rfl, sqt ht, rfl, .ref M, rfl, M, _, _, _, rfl, WM.keep (s5.trans ((s6.trans s7).trans s8)), fun H9 L r9 s9 V9 q9 le9 => ?_⟩
      have e9 : r9 = rs.map toI := by
        refine le_uniq le9 (asc_le asc) ((q9.trans (pm.map swi)).trans ?_)
        rw [toI_swp]
        exact (pr.map toI).symm
      rw [Bool.not_not] at Ng
      refine ⟨g, L, _, _, rs, rfl, Ng.keep s9, e9 ▸ V9, fun HC sc => ⟨_, rfl, iteF ?_⟩⟩
      have sF := sE.trans (s9.trans sc)
      refine ⟨.ref p1, rfl, .ref t1, rfl, p1, t1, m1, n1, ps1, rfl, N1.keep sF, W1.keep sF, fun HA sa => ⟨_, rfl, iteT ?_⟩⟩
      refine ⟨.ref p2, rfl, .ref t2, rfl, p2, t2, m2, n2, ps2, rfl, N2.keep (sF.trans sa), W2.keep (sF.trans sa), fun HB sb => ?_⟩
      exact q _ ((sF.trans sa).trans sb)
    · rw [hg] at hdv
      obtain ⟨du, rfl, hdu⟩ := hdv
      refine ⟨fun σ H' => ∃ u8 u9 : Option V, σ = [some (sV b), some (.ref p1), some (.ref p2), some (.ref t1), some (.ref t2), some (.ref pl), some (.ref du), some (.ref M), u8, u9, none] ∧ Same H3 H', ?_, ?_⟩
      · refine ⟨2, rfl, by decide, by decide, ?_⟩
        refine for_range (lo := 0) (n := 2) (fun i σ H' => ∃ u8 u9 : Option V, σ = [some (sV b), some (.ref p1), some (.ref p2), some (.ref t1), some (.ref t2), some (.ref pl), some (.ref du), some (.ref M), u8, u9, none] ∧ Same H3 H') ⟨none, none, rfl, Same.refl _⟩ (fun i σ H' hi h => ?_) (fun σ H' h => h)
        obtain ⟨u8, u9, rfl, sm⟩ := h
        have sC := sB.trans sm
        refine ⟨sV b, rfl, .ref p1, rfl, .ref p2, rfl, .ref pl, rfl, b, p1, p2, pl, x, y, m1, n1, m2, n2, ps1, ps2, rfl, N1.keep sC, N2.keep sC, sC _ _ hpl, fun e' v' ed H4 t s4 ht => ?_, fun ed => (by rw [hg] at ed; cases ed)⟩
        rw [hg] at ed
        cases ed
        have hd4 := (s3.trans (sm.trans s4)) _ _ hdu
        have R : ∀ {a : Addr}, H4 a = some (.tup [.str "refused", .str (nmE e), .int v]) → Rep (fun _ => True) H4 3 (.ref a) (dRef (nmE e) (dInt v)) := fun h => Rep.tup h (.cons Rep.str (.cons Rep.str (.cons Rep.int .nil))) (by show 3 ≤ 100; decide)
        refine ⟨.ref du, rfl, rfl, _, rfl, ite2 (fun _ => ?_) (fun e => absurd (by rw [decide_eq_false (fun z => nomatch z)]; rfl) e)⟩
        refine ⟨.ref t, rfl, .ref du, rfl, .ref t, .ref du, rfl, sm_of (R ht) (R hd4), _, rfl, iteF ?_⟩
        refine ⟨.ref du, rfl, rfl, _, rfl, ite2 (fun e => nomatch (of_decide_eq_true e)) (fun _ => ?_)⟩
        exact ⟨_, _, rfl, sm.trans s4⟩
      rintro σ H5 ⟨u8, u9, rfl, s5⟩
      have sF := sB.trans s5
      refine ⟨.ref du, rfl, rfl, _, rfl, ite2 (fun e => nomatch (of_decide_eq_true e)) (fun _ => ?_)⟩
      refine ⟨.ref p1, rfl, .ref t1, rfl, p1, t1, m1, n1, ps1, rfl, N1.keep sF, W1.keep sF, fun HA sa => ⟨_, rfl, iteT ?_⟩⟩
      refine ⟨.ref p2, rfl, .ref t2, rfl, p2, t2, m2, n2, ps2, rfl, N2.keep (sF.trans sa), W2.keep (sF.trans sa), fun HB sb => ?_⟩
      exact q _ ((sF.trans sa).trans sb)
end
end K05
set_option Elab.async false
set_option linter.all false
set_option maxRecDepth 100000
set_option maxHeartbeats 4000000
namespace K05
open PySem PySem.Spec PyProof.Rows L2
/-- without two lists -/
def D2 (H : Hp) (b c : Addr) : Hp := fun a => if a = b ∨ a = c then none else H a
theorem D2_ne {H : Hp} {a b c : Addr} (h1 : a ≠ b) (h2 : a ≠ c) : D2 H b c a = H a := if_neg (fun e => e.elim h1 h2)
theorem D2_sub {H : Hp} {b c : Addr} : Same (D2 H b c) H := fun a o h => by
  unfold D2 at h
  split at h
  · cases h
  · exact h
theorem D2_keep {H H' : Hp} {b c : Addr} (e : ∀ a o, a ≠ b → a ≠ c → H a = some o → H' a = some o) : Same (D2 H b c) (D2 H' b c) := fun a o h => by
  unfold D2 at h ⊢
  split at h
  · cases h
  · rename_i n
    rw [if_neg n]
    exact e a o (fun z => n (.inl z)) (fun z => n (.inr z)) h
theorem d2_of {H : Hp} {a b c : Addr} {o o' : HO} (h : del H b a = some o) (k : del H c a = some o') : D2 H b c a = some o := by
  unfold del at h k
  unfold D2
  split at h
  · cases h
  · split at k
    · cases k
    · rename_i n1 n2
      rw [if_neg (fun z => z.elim n1 n2)]
      exact h
theorem del_at {H : Hp} {a b : Addr} {o : HO} (h : del H b a = some o) : H a = some o := by
  unfold del at h
  split at h
  · cases h
  · exact h
theorem net_d2 {C : Addr} {H : Hp} {p b c : Addr} {m n : Nat} {zs : List Z} {ws : List P4} (h : NetAt C (del H b) p m n zs ws) (k : NetAt C (del H c) p m n zs ws) : NetAt C (D2 H b c) p m n zs ws := by
  obtain ⟨dx, r, di, g, h1, h2, h3⟩ := h.ob
  obtain ⟨dx', r', di', g', k1, k2, k3⟩ := k.ob
  have e := (del_at h1).symm.trans (del_at k1)
  have e2 : nf m n r di g = nf m n r' di' g' := by
    have := Option.some.inj e
    injection this
  have er : r = r' := by
    have h := congrArg (List.lookup ("_routes" : Str)) e2
    rw [nf_R, nf_R] at h
    exact V.ref.inj (Option.some.inj h)
  have eg : g = g' := by
    have h := congrArg (List.lookup ("_pieces" : Str)) e2
    rw [nf_P, nf_P] at h
    exact V.ref.inj (Option.some.inj h)
  subst er
  subst eg
  exact ⟨⟨dx, r, di, g, d2_of h1 k1, d2_of h2 k2, d2_of h3 k3⟩, fun z hz => d2_of (h.pr z hz) (k.pr z hz), fun z hz => ⟨d2_of (h.pc z hz).ht (k.pc z hz).ht, d2_of (h.pc z hz).ho (k.pc z hz).ho, d2_of (h.pc z hz).hu (k.pc z hz).hu⟩, h.inr, h.few, h.due, h.m8, h.n8⟩
/-- a drawn network: the object, the world, its numbers and routes -/
structure Ent where
  p : Addr
  t : Addr
  m : Nat
  n : Nat
  ps : List (Nat × Nat)
def EntAt (C : Addr) (H : Hp) (e : Ent) : Prop := NG C H e.p e.m e.n e.ps ∧ WI H e.t e.m e.n (e.ps.map toI)
theorem EntAt.keep {C : Addr} {H H' : Hp} {e : Ent} (h : EntAt C H e) (s : Same H H') : EntAt C H' e := ⟨h.1.keep s, h.2.keep s⟩
section
variable {P : Program} {w : World} {K : PySem.W.Frag} {mg : Str → Option Value} {base : Heap} {f : Addr} {fd : FuncData}
/-! ### law -/
abbrev law_N : List Str := ["script", "cells", "worlds", "pair_made", "k", "drawn", "pool", "couple", "first", "second", "one", "two", "side", "place", "places"]
theorem law_sc : FnScope ["script", "cells", "worlds", "pair_made", "k", "drawn", "pool", "couple", "first", "second", "one", "two", "side", "place", "places"] ["script"] (defScope law_st) := ⟨rfl, rfl, rfl, by decide +kernel, rfl, by decide +kernel, by decide +kernel⟩
def spLaw (K : PySem.W.Frag) : Sp := fun vs H Q _ => ∃ (a : Addr) (ns : List Int), vs = [.ref a] ∧ SqL K H a (ns.map V.int) ∧ ns.length ≤ 63 ∧ ∀ H', Q (.bl true) H'
theorem ok_law {C f1 f2 f3 f4 f5 : Addr} {fd1 fd2 fd3 fd4 fd5 : FuncData} (F : FnS K "law" law_st f fd) (m_range : mg "range" = none) (m_sorted : mg "sorted" = none) (D_law_source : Dn P w K mg base 2 "_law_source" ["script", "k"] (spSource K) f1 fd1) (D_law_draw : Dn P w K mg base 2 "_law_draw" ["pool"] spDraw f2 fd2)
    (D_Network : NwT P w K mg base C f3 fd3) (D_law_draw_place : Dn P w K mg base 3 "_law_draw_place" ["pool", "many"] spPlace f4 fd4) (D_law_right : Dn P w K mg base 9 "_law_right" ["side", "first", "second", "one", "two", "places"] (spLR C) f5 fd5) : FnOk P w K mg base (L2N.CX P w) 10 f fd ["script"] (spLaw K) := by
  refine F.ok law_sc (fun vs H Q E h => ?_) (fun cdv A outer s H vs Q E hr h => ?_)
  · obtain ⟨a, ns, rfl, _⟩ := h
    rfl
  · obtain ⟨a, ns, rfl, hS, h63, q⟩ := h
    refine ⟨_, (pss_cons (ps_set (i := 1) law_sc.nd rfl (Or.inl rfl) (pe_slice sl_list (pv 0) po_none (po_some pe_int)))
      (pss_cons (ps_set (i := 2) law_sc.nd rfl (Or.inl rfl) (pe_lst pa_nil))
      (pss_cons (ps_set (i := 3) law_sc.nd rfl (Or.inl rfl) (pe_lst pa_nil))
      (pss_cons (ps_for (passes_of rfl) rfl (pi_range1 rfl m_range (pa_cons pe_int pa_nil)) (pg_name (i := 4) law_sc.nd rfl (Or.inl rfl))
      (pss_cons (ps_set (i := 5) law_sc.nd rfl (Or.inl rfl) (pe_call D_law_draw.ok (hr.mono (by decide)) rfl D_law_draw.g D_law_draw.kp D_law_draw.b .nil ErrX.passN (pa_cons (pe_call D_law_source.ok (hr.mono (by decide)) rfl D_law_source.g D_law_source.kp D_law_source.b .nil ErrX.passN (pa_cons (pv 1) (pa_cons (pv 4) pa_nil))) pa_nil)))
      (pss_cons (ps_expr (pe_bm PySem.F.plainAttrs_list PySem.F.slot_list_append PySem.F.type_list_append mt_append (pv 3) (pa_cons (pe_make D_Network.mkk D_Network.ok (hr.mono (by decide)) rfl D_Network.g D_Network.b .nil ErrX.passN (pa_cons (pe_ix ix_tup (pe_ix ix_tup (pv 5) pe_int (fun _ _ => rfl)) pe_int (fun _ _ => rfl)) (pa_cons (pe_ix ix_tup (pe_ix ix_tup (pv 5) pe_int (fun _ _ => rfl)) pe_int (fun _ _ => rfl)) (pa_cons (pe_ix ix_tup (pv 5) pe_int (fun _ _ => rfl)) pa_nil)))) pa_nil)))
      (pss_one (ps_expr (pe_bm PySem.F.plainAttrs_list PySem.F.slot_list_append PySem.F.type_list_append mt_append (pv 2) (pa_cons (pe_tup (pa_cons (pe_ix ix_tup (pv 5) pe_int (fun _ _ => rfl)) (pa_cons (pe_callB cr_sortedPO (by rfl) m_sorted (by decide +kernel) (pa_cons (pe_ix ix_tup (pv 5) pe_int (fun _ _ => rfl)) pa_nil)) pa_nil))) pa_nil)))))))
      (pss_cons (ps_set (i := 6) law_sc.nd rfl (Or.inl rfl) (pe_call D_law_source.ok (hr.mono (by decide)) rfl D_law_source.g D_law_source.kp D_law_source.b .nil ErrX.passN (pa_cons (pv 1) (pa_cons pe_int pa_nil))))
      (pss_cons (ps_for (passes_of rfl) rfl (pi_list (pe_lst (pa_cons (pe_tup (pa_cons pe_int (pa_cons pe_int pa_nil))) (pa_cons (pe_tup (pa_cons pe_int (pa_cons pe_int pa_nil))) (pa_cons (pe_tup (pa_cons pe_int (pa_cons pe_int pa_nil))) pa_nil))))) (pg_name (i := 7) law_sc.nd rfl (Or.inl rfl))
      (pss_cons (ps_set (i := 8) law_sc.nd rfl (Or.inl rfl) (pe_ix ix_list (pv 3) (pe_ix ix_tup (pv 7) pe_int (fun _ _ => rfl)) (fun _ _ => rfl)))
      (pss_cons (ps_set (i := 9) law_sc.nd rfl (Or.inl rfl) (pe_ix ix_list (pv 3) (pe_ix ix_tup (pv 7) pe_int (fun _ _ => rfl)) (fun _ _ => rfl)))
      (pss_cons (ps_set (i := 10) law_sc.nd rfl (Or.inl rfl) (pe_ix ix_list (pv 2) (pe_ix ix_tup (pv 7) pe_int (fun _ _ => rfl)) (fun _ _ => rfl)))
      (pss_cons (ps_set (i := 11) law_sc.nd rfl (Or.inl rfl) (pe_ix ix_list (pv 2) (pe_ix ix_tup (pv 7) pe_int (fun _ _ => rfl)) (fun _ _ => rfl)))
      (pss_one (ps_for (passes_of rfl) rfl (pi_range1 rfl m_range (pa_cons pe_int pa_nil)) (pg_name (i := 12) law_sc.nd rfl (Or.inl rfl))
      (pss_cons (ps_set (i := 13) law_sc.nd rfl (Or.inl rfl) (pe_call D_law_draw_place.ok (hr.mono (by decide)) rfl D_law_draw_place.g D_law_draw_place.kp D_law_draw_place.b .nil ErrX.passN (pa_cons (pv 6) (pa_cons (pe_ix ix_tup (pe_ix ix_tup (pv 10) pe_int (fun _ _ => rfl)) (pv 12) (fun _ _ => rfl)) pa_nil))))
      (pss_cons (ps_set (i := 14) law_sc.nd rfl (Or.inl rfl) (pe_tup (pa_cons (pv 13) (pa_cons (pe_call D_law_draw_place.ok (hr.mono (by decide)) rfl D_law_draw_place.g D_law_draw_place.kp D_law_draw_place.b .nil ErrX.passN (pa_cons (pv 6) (pa_cons (pe_ix ix_tup (pe_ix ix_tup (pv 11) pe_int (fun _ _ => rfl)) (pv 12) (fun _ _ => rfl)) pa_nil))) pa_nil))))
      (pss_one (ps_if (pt_not (pt_val (pe_call D_law_right.ok (hr.mono (by decide)) rfl D_law_right.g D_law_right.kp D_law_right.b .nil ErrX.passN (pa_cons (pv 12) (pa_cons (pv 8) (pa_cons (pv 9) (pa_cons (pv 10) (pa_cons (pv 11) (pa_cons (pv 14) pa_nil))))))))) (pss_one (ps_ret pe_bl)) pss_nil)))))))))))
      (pss_one (ps_ret pe_bl)))))))), ?_⟩
    refine ⟨.ref a, rfl, 63, rfl, a, _, rfl, hS, fun c nc => ?_⟩
    have hc : (upd H c (.lst (cutV (ns.map V.int) none (some 63)))) c = some (.lst ((ns.take 63).map V.int)) := by
      rw [upd_same]
      exact congrArg (fun z => some (HO.lst z)) ((cut_take (ns.map V.int) 63).trans (List.map_take (f := V.int) (l := ns) (i := 63)).symm)
    generalize upd H c (.lst (cutV (ns.map V.int) none (some 63))) = H1 at hc ⊢
    refine ⟨len0, fun W nW => ⟨len0, fun M nM => ?_⟩⟩
    have sW := Same.new (o := .lst []) nW
    have sM := Same.new (o := .lst []) nM
    have cW : c ≠ W := ne_of_none hc nW
    have WM : W ≠ M := ne_of_none upd_same nM
    have cM : c ≠ M := ne_of_none (sW _ _ hc) nM
    refine ⟨2, rfl, by decide, by decide, ?_⟩
    refine for_range (lo := 0) (n := 2) (fun i σ H' => ∃ (y4 y5 : Option V) (L : List Ent), σ = [some (.ref a), some (.ref c), some (.ref W), some (.ref M), y4, y5, none, none, none, none, none, none, none, none, none] ∧ L.length = i ∧ H' c = some (.lst ((ns.take 63).map V.int)) ∧ H' W = some (.lst (L.map fun e => V.ref e.t)) ∧ H' M = some (.lst (L.map fun e => V.ref e.p)) ∧ ∀ e ∈ L, EntAt C (D2 H' W M) e) ⟨none, none, [], rfl, rfl, (sW.trans sM) _ _ hc, sM _ _ upd_same, upd_same, fun _ h => nomatch h⟩ (fun i σ H' hi g => ?_) (fun σ H' g => ?_)
    · obtain ⟨y4, y5, L, rfl, li, hcs, hW, hM, he⟩ := g
      rw [int_nV]
      refine ⟨.ref c, rfl, nV i, rfl, c, ns.take 63, (i : Int), rfl, sq hcs, by omega, by omega, fun p x np => ?_⟩
      have s1 := Same.new (o := .lst [.int x]) np
      refine ⟨p, x, rfl, upd_same, fun H2 t ts q0 y m n zs b2 hp2 D nq0' => ?_⟩
      have s2 : Same H' H2 := fun b o e => b2 b o (ne_of_none e np) (s1 b o e)
      have nq0 : H' q0 = none := s1.back nq0'
      have q0M : q0 ≠ M := (ne_of_none hM nq0).symm
      have q0W : q0 ≠ W := (ne_of_none hW nq0).symm
      have hW2 := s2 _ _ hW
      have hM2 := s2 _ _ hM
      refine ⟨.ref M, rfl, .inl ⟨rfl, _, sq hM2⟩, .ref t, rfl, t, _, 0, .ref ts, rfl, rfl, sqt D.ht, rfl, ts, _, 0, nV m, rfl, rfl, sqt D.hs, rfl, .ref t, rfl, t, _, 0, .ref ts, rfl, rfl, sqt D.ht, rfl, ts, _, 1, nV n, rfl, rfl, sqt D.hs, rfl, .ref t, rfl, t, _, 1, .ref q0, rfl, rfl, sqt D.ht, rfl, ?_⟩
      intro x1 dy nx ndy nex
      have sK : Same H2 (upd (upd H2 dy (.own x1)) x1 (.ins C dy [])) := ((Same.refl H2).mut ndy).mut nx
      refine ⟨x1, q0, dy, m, n, zs, rfl, upd_same, sK _ _ D.hq, D.pr.keep sK, D.fit, D.few, D.m1, D.m8, D.n1, D.n8, fun H3 zn wn bN Nn asc fr dl ix => ⟨rfl, ?_⟩⟩
      have s3 : Same H2 H3 := fun b o e => bN b o (ne_of_none e nx) (sK b o e)
      have NN := net_d2 (dl W _ (sK _ _ hW2)) (dl M _ (sK _ _ hM2))
      have hM3 := s3 _ _ hM2
      have hW3 := s3 _ _ hW2
      refine ⟨M, _, _, rfl, rfl, hM3, small1000 (by rw [List.length_map]; omega), ?_⟩
      have hW4 : (upd H3 M (.lst ((L.map fun e => V.ref e.p) ++ [.ref x1]))) W = some (.lst (L.map fun e => V.ref e.t)) := by
        rw [upd_ne WM]
        exact hW3
      have tupM : ∀ {b : Addr} {us : List V}, H3 b = some (.tup us) → (upd H3 M (.lst ((L.map fun e => V.ref e.p) ++ [.ref x1]))) b = some (.tup us) := fun {b us} h => by
        rw [upd_ne (fun e => by rw [e, hM3] at h; cases h)]
        exact h
      have hq4 : (upd H3 M (.lst ((L.map fun e => V.ref e.p) ++ [.ref x1]))) q0 = some (.lst (zs.map zV)) := by
        rw [upd_ne q0M]
        exact s3 _ _ D.hq
      have hM4 : (upd H3 M (.lst ((L.map fun e => V.ref e.p) ++ [.ref x1]))) M = some (.lst ((L.map fun e => V.ref e.p) ++ [.ref x1])) := upd_same
      have pr4 : PrZ (upd H3 M (.lst ((L.map fun e => V.ref e.p) ++ [.ref x1]))) zs := fun z hz => tupM (s3 _ _ (D.pr z hz))
      have ht4 := tupM (s3 _ _ D.ht)
      have hs4 := tupM (s3 _ _ D.hs)
      have k4 : ∀ (b : Addr) (o : HO), b ≠ M → H3 b = some o → (upd H3 M (.lst ((L.map fun e => V.ref e.p) ++ [.ref x1]))) b = some o := fun b o ne h => by
        rw [upd_ne ne]
        exact h
      generalize upd H3 M (.lst ((L.map fun e => V.ref e.p) ++ [.ref x1])) = H4 at hW4 hq4 hM4 pr4 ht4 hs4 k4 ⊢
      clear tupM
      refine ⟨.ref W, rfl, .inl ⟨rfl, _, sq hW4⟩, .ref t, rfl, t, _, 0, .ref ts, rfl, rfl, sqt ht4, rfl, .ref t, rfl, t, _, 1, .ref q0, rfl, rfl, sqt ht4, rfl, q0, zs.map zV, kH H4, rfl, sq hq4, fun u hu => ?_, fun ys r hs hb nr => ?_⟩
      · obtain ⟨z, hz, rfl⟩ := List.mem_map.mp hu
        have hk := kH_at (pr4 z hz)
        refine ⟨z.1, rfl, ?_⟩
        rw [hk]
        exact pr4 z hz
      obtain ⟨zr, rfl, pm, ascr⟩ := sorted_pairs pr4 D.fit.1 hs hb
      have ezr : zr.map (·.2) = zn.map (·.2) := ascr.uniq asc
      have s5 := Same.new (o := .lst (zr.map zV)) nr
      refine ⟨len2, fun t2 nt2 => ?_⟩
      have s6 := Same.new (o := .tup [.ref ts, .ref r]) nt2
      have s46 := s5.trans s6
      have rW : r ≠ W := (ne_of_none hW4 nr).symm
      have rM : r ≠ M := (ne_of_none hM4 nr).symm
      have tW : t2 ≠ W := (ne_of_none (s5 _ _ hW4) nt2).symm
      have tM : t2 ≠ M := (ne_of_none (s5 _ _ hM4) nt2).symm
      have hr6 : (upd (upd H4 r (.lst (zr.map zV))) t2 (.tup [.ref ts, .ref r])) r = some (.lst (zr.map zV)) := s6 _ _ upd_same
      have ht6 : (upd (upd H4 r (.lst (zr.map zV))) t2 (.tup [.ref ts, .ref r])) t2 = some (.tup [.ref ts, .ref r]) := upd_same
      have hW6 := s46 _ _ hW4
      generalize upd (upd H4 r (.lst (zr.map zV))) t2 (.tup [.ref ts, .ref r]) = H6 at s46 hr6 ht6 hW6 ⊢
      refine ⟨W, _, _, rfl, rfl, hW6, small1000 (by rw [List.length_map]; omega), ?_⟩
      have kF : ∀ (b : Addr) (o : HO), b ≠ W → b ≠ M → H3 b = some o → (upd H6 W (.lst ((L.map fun e => V.ref e.t) ++ [.ref t2]))) b = some o := fun b o n1 n2 h => by
        rw [upd_ne n1]
        exact s46 _ _ (k4 b o n2 h)
      have k6 : ∀ (b : Addr) (o : HO), b ≠ W → H6 b = some o → (upd H6 W (.lst ((L.map fun e => V.ref e.t) ++ [.ref t2]))) b = some o := fun b o n1 h => by
        rw [upd_ne n1]
        exact h
      have hM7 := k6 _ _ WM.symm (s46 _ _ hM4)
      have hW7 : (upd H6 W (.lst ((L.map fun e => V.ref e.t) ++ [.ref t2]))) W = some (.lst ((L.map fun e => V.ref e.t) ++ [.ref t2])) := upd_same
      generalize upd H6 W (.lst ((L.map fun e => V.ref e.t) ++ [.ref t2])) = H7 at kF k6 hM7 hW7 ⊢
      have sD : Same (D2 H' W M) (D2 H7 W M) := D2_keep fun b o n1 n2 h => kF b o n1 n2 (s3 _ _ (s2 _ _ h))
      have sN : Same (D2 H3 W M) (D2 H7 W M) := D2_keep kF
      have tup7 : ∀ {b : Addr} {us : List V}, H6 b = some (.tup us) → b ≠ M → (D2 H7 W M) b = some (.tup us) := fun {b us} h nM' => by
        have nW' : b ≠ W := fun e => by rw [e, hW6] at h; cases h
        rw [D2_ne nW' nM']
        exact k6 b _ nW' h
      have notM : ∀ {b : Addr} {us : List V}, H4 b = some (.tup us) → b ≠ M := fun h e => by rw [e, hM4] at h; cases h
      refine ⟨_, _, L ++ [⟨x1, t2, m, n, zn.map (·.2)⟩], rfl, by rw [List.length_append, li]; rfl, kF _ _ cW cM (s3 _ _ (s2 _ _ hcs)), by rw [List.map_append]; exact hW7, by rw [List.map_append]; exact hM7, fun e he' => ?_⟩
      rcases List.mem_append.mp he' with he' | he'
      · exact (he e he').keep sD
      · rw [List.mem_singleton.mp he']
        refine ⟨⟨zn, wn, NN.keep sN, ⟨asc.1.nodup_iff.mpr D.fit.1, fun c hc => D.fit.2 c (asc.1.mem_iff.mp hc)⟩, D.m1, D.n1, rfl⟩, ts, r, zr.map fun z => (z.1, (z.2.1 : Int), (z.2.2 : Int)), ⟨tup7 ht6 tM, tup7 (s46 _ _ hs4) (notM hs4), ?_, fun u hu => ?_⟩, ?_, ?_⟩
        · rw [D2_ne rW rM, List.map_map]
          exact k6 _ _ rW hr6
        · obtain ⟨z, hz, rfl⟩ := List.mem_map.mp hu
          have hz4 := pr4 z (pm.mem_iff.mp hz)
          exact tup7 (s46 _ _ hz4) (notM hz4)
        · show (zr.map fun z => ((z.1, (z.2.1 : Int), (z.2.2 : Int)) : I3)).map (·.2) = (zn.map (·.2)).map toI
          rw [← ezr, List.map_map, List.map_map]
          rfl
        · rw [List.length_map, pm.length_eq]
          have := D.few
          omega
    · obtain ⟨y4, y5, L, rfl, li, hcs, hW, hM, he⟩ := g
      obtain ⟨e0, e1, rfl⟩ : ∃ e0 e1, L = [e0, e1] := match L, li with
        | [e0, e1], _ => ⟨e0, e1, rfl⟩
      have h0 : EntAt C H' e0 := (he e0 List.mem_cons_self).keep D2_sub
      have h1 : EntAt C H' e1 := (he e1 (List.mem_cons_of_mem _ List.mem_cons_self)).keep D2_sub
      refine ⟨.ref c, rfl, c, ns.take 63, 2, rfl, sq hcs, by decide, by decide, fun p x np => ?_⟩
      have sP := Same.new (o := .lst [.int x]) np
      have hp : (upd H' p (.lst [.int x])) p = some (.lst [.int x]) := upd_same
      generalize upd H' p (.lst [.int x]) = H5 at sP hp ⊢
      refine ⟨len2, fun c0 nc0 => ⟨len2, fun c1 nc1 => ⟨len2, fun c2 nc2 => ⟨len3, fun l nl => ?_⟩⟩⟩⟩
      have k0 := Same.new (o := .tup [.int 0, .int 1]) nc0
      have k1 := Same.new (o := .tup [.int 1, .int 0]) nc1
      have k2 := Same.new (o := .tup [.int 0, .int 0]) nc2
      have k3 := Same.new (o := .lst [.ref c0, .ref c1, .ref c2]) nl
      have c0p : c0 ≠ p := (ne_of_none hp nc0).symm
      have c1p : c1 ≠ p := (ne_of_none (k0 _ _ hp) nc1).symm
      have c2p : c2 ≠ p := (ne_of_none ((k0.trans k1) _ _ hp) nc2).symm
      have lp : l ≠ p := (ne_of_none (((k0.trans k1).trans k2) _ _ hp) nl).symm
      have hp9 := (((k0.trans k1).trans k2).trans k3) _ _ hp
      have v0 := ((k1.trans k2).trans k3) _ _ (upd_same : (upd H5 c0 (.tup [.int 0, .int 1])) c0 = _)
      have v1 := (k2.trans k3) _ _ (upd_same : (upd (upd H5 c0 (.tup [.int 0, .int 1])) c1 (.tup [.int 1, .int 0])) c1 = _)
      have v2 := k3 _ _ (upd_same : (upd (upd (upd H5 c0 (.tup [.int 0, .int 1])) c1 (.tup [.int 1, .int 0])) c2 (.tup [.int 0, .int 0])) c2 = _)
      have hl9 : (upd (upd (upd (upd H5 c0 (.tup [.int 0, .int 1])) c1 (.tup [.int 1, .int 0])) c2 (.tup [.int 0, .int 0])) l (.lst [.ref c0, .ref c1, .ref c2])) l = some (.lst [.ref c0, .ref c1, .ref c2]) := upd_same
      have s9 := sP.trans (((k0.trans k1).trans k2).trans k3)
      generalize upd (upd (upd (upd H5 c0 (.tup [.int 0, .int 1])) c1 (.tup [.int 1, .int 0])) c2 (.tup [.int 0, .int 0])) l (.lst [.ref c0, .ref c1, .ref c2]) = H9 at hp9 v0 v1 v2 hl9 s9 ⊢
      have item : ∀ (j : Nat) (v : V), ([.ref c0, .ref c1, .ref c2] : List V)[j]? = some v → ∃ (u : Addr) (i k : Nat) (ei ek : Ent), v = .ref u ∧ u ≠ p ∧ H9 u = some (.tup [nV i, nV k]) ∧ ([e0, e1] : List Ent)[i]? = some ei ∧ ([e0, e1] : List Ent)[k]? = some ek ∧ EntAt C H' ei ∧ EntAt C H' ek := fun j v h => match j, h with
        | 0, h => ⟨c0, 0, 1, e0, e1, (Option.some.inj h).symm, c0p, v0, rfl, rfl, h0, h1⟩
        | 1, h => ⟨c1, 1, 0, e1, e0, (Option.some.inj h).symm, c1p, v1, rfl, rfl, h1, h0⟩
        | 2, h => ⟨c2, 0, 0, e0, e0, (Option.some.inj h).symm, c2p, v2, rfl, rfl, h0, h0⟩
        | _ + 3, h => nomatch h
      have keep : ∀ {H'' : Hp}, But p H9 H'' → Same H' H'' := fun {H''} b a o e => b a o (ne_of_none e np) (s9 a o e)
      refine ⟨l, rfl, ⟨_, sq hl9⟩, ?_⟩
      refine for_list (K := K) (a := l) (xs := [.ref c0, .ref c1, .ref c2]) (fun j σ H'' => ∃ (y7 y8 y9 y10 y11 y12 y13 y14 : Option V) (z : Int), σ = [some (.ref a), some (.ref c), some (.ref W), some (.ref M), y4, y5, some (.ref p), y7, y8, y9, y10, y11, y12, y13, y14] ∧ But p H9 H'' ∧ H'' p = some (.lst [.int z])) ⟨none, none, none, none, none, none, none, none, x, rfl, But.of (Same.refl _), hp9⟩ (fun j σ H'' _ g => ?_) (fun j v σ H'' hv g => ?_) (fun σ H'' g => ?_)
      · obtain ⟨y7, y8, y9, y10, y11, y12, y13, y14, z, _, bN, _⟩ := g
        exact sq (bN _ _ lp hl9)
      · obtain ⟨y7, y8, y9, y10, y11, y12, y13, y14, z, rfl, bN, hpz⟩ := g
        obtain ⟨u, i, k, ei, ek, rfl, up, hu9, hi, hk, Ei, Ek⟩ := item j v hv
        have hu := bN _ _ up hu9
        have hM' := keep bN _ _ hM
        have hW' := keep bN _ _ hW
        refine ⟨.ref M, rfl, .ref u, rfl, u, _, 0, nV i, rfl, rfl, sqt hu, rfl, M, _, (i : Int), .ref ei.p, rfl, rfl, sq hM', atI_nat (by rw [List.getElem?_map, hi]; rfl), ?_⟩
        refine ⟨.ref M, rfl, .ref u, rfl, u, _, 1, nV k, rfl, rfl, sqt hu, rfl, M, _, (k : Int), .ref ek.p, rfl, rfl, sq hM', atI_nat (by rw [List.getElem?_map, hk]; rfl), ?_⟩
        refine ⟨.ref W, rfl, .ref u, rfl, u, _, 0, nV i, rfl, rfl, sqt hu, rfl, W, _, (i : Int), .ref ei.t, rfl, rfl, sq hW', atI_nat (by rw [List.getElem?_map, hi]; rfl), ?_⟩
        refine ⟨.ref W, rfl, .ref u, rfl, u, _, 1, nV k, rfl, rfl, sqt hu, rfl, W, _, (k : Int), .ref ek.t, rfl, rfl, sq hW', atI_nat (by rw [List.getElem?_map, hk]; rfl), ?_⟩
        refine ⟨2, rfl, by decide, by decide, ?_⟩
        refine for_range (lo := 0) (n := 2) (fun i2 σ H2 => ∃ (y12 y13 y14 : Option V) (z : Int), σ = [some (.ref a), some (.ref c), some (.ref W), some (.ref M), y4, y5, some (.ref p), some (.ref u), some (.ref ei.p), some (.ref ek.p), some (.ref ei.t), some (.ref ek.t), y12, y13, y14] ∧ But p H9 H2 ∧ H2 p = some (.lst [.int z])) ⟨y12, y13, y14, z, rfl, bN, hpz⟩ (fun i2 σ H2 hi2 g => ?_) (fun σ H2 g => ?_)
        · obtain ⟨y12, y13, y14, z, rfl, b2, hp2⟩ := g
          rw [int_nV]
          obtain ⟨s, es, hv2⟩ : ∃ s : Bool, nV i2 = sV s ∧ ∀ m n, ([nV m, nV n] : List V)[i2]? = some (nV (pcN s m n)) := match i2, hi2 with
            | 0, _ => ⟨false, rfl, fun _ _ => rfl⟩
            | 1, _ => ⟨true, rfl, fun _ _ => rfl⟩
          have Fi := Ei.keep (keep b2)
          have Fk := Ek.keep (keep b2)
          have bd : ∀ {e : Ent} {Hx : Hp}, EntAt C Hx e → 1 ≤ pcN s e.m e.n ∧ pcN s e.m e.n ≤ 8 := fun {e Hx} h => by
            obtain ⟨⟨_, _, N, _, m1, n1, _⟩, _⟩ := h
            cases s
            · exact ⟨m1, N.m8⟩
            · exact ⟨n1, N.n8⟩
          obtain ⟨tsi, _, _, Wi, _, _⟩ := Fi.2
          refine ⟨.ref p, rfl, .ref ei.t, rfl, ei.t, _, 0, .ref tsi, rfl, rfl, sqt Wi.ht, rfl, nV i2, rfl, tsi, _, (i2 : Int), nV (pcN s ei.m ei.n), rfl, rfl, sqt Wi.hs, atI_nat (hv2 _ _), p, z, pcN s ei.m ei.n, rfl, hp2, (bd Fi).1, (bd Fi).2, fun d1 z1 H3 b3 hp3 => ?_⟩
          have b23 := b2.trans b3
          obtain ⟨tsk, _, _, Wk, _, _⟩ := (Ek.keep (keep b23)).2
          refine ⟨.int d1, rfl, .ref p, rfl, .ref ek.t, rfl, ek.t, _, 0, .ref tsk, rfl, rfl, sqt Wk.ht, rfl, nV i2, rfl, tsk, _, (i2 : Int), nV (pcN s ek.m ek.n), rfl, rfl, sqt Wk.hs, atI_nat (hv2 _ _), p, z1, pcN s ek.m ek.n, rfl, hp3, (bd Fk).1, (bd Fk).2, fun d2 z2 H4 b4 hp4 => ⟨len2, fun tp ntp => ?_⟩⟩
          have s5 := Same.new (o := .tup [.int d1, .int d2]) ntp
          have b5 := (b23.trans b4).trans (.of s5)
          have Gi := Ei.keep (keep b5)
          have Gk := Ek.keep (keep b5)
          refine ⟨nV i2, rfl, .ref ei.p, rfl, .ref ek.p, rfl, .ref ei.t, rfl, .ref ek.t, rfl, .ref tp, rfl, s, ei.p, ek.p, ei.t, ek.t, tp, d1, d2, ei.m, ei.n, ek.m, ek.n, ei.ps, ek.ps, by rw [es]; rfl, Gi.1, Gk.1, Gi.2, Gk.2, upd_same, fun HZ sz => ⟨_, rfl, iteF ?_⟩⟩
          exact ⟨_, _, _, z2, rfl, b5.trans (.of sz), sz _ _ (s5 _ _ hp4)⟩
        · obtain ⟨y12, y13, y14, z, rfl, b2, hp2⟩ := g
          exact ⟨_, _, _, _, _, _, _, _, z, rfl, b2, hp2⟩
      · exact q _
end
end K05
set_option Elab.async false
set_option linter.all false
set_option maxRecDepth 100000
set_option maxHeartbeats 4000000
namespace K05
open PySem PySem.W PySem.Spec PyProof.Rows L2 Hk
theorem noneB_ok {a b : Value} (h : noneB a b = true) : a = .none ∧ b = .none := by
  cases a <;> cases b <;> first | exact ⟨rfl, rfl⟩ | cases h
theorem dfl_of {d : ErrD} {K : Frag} {oc dV kV doc pm cd ct : Value} {od an : Option Addr} {osl : Array (Option Value)} {n q : Str} {ps : Arguments} {b : List Stmt} {sc : Scope} {cl : List (Str × Addr)} (h : dflB d K = true) (lk : K.lookup (d.at_ K) = some ⟨oc, od, .func (fnX n q ps b sc cl dV kV doc pm an cd ct), osl⟩) : dV = .none ∧ kV = .none := by
  unfold dflB at h
  rw [lk] at h
  exact noneB_ok h
theorem ok_initN {P : Program} {w : World} {K : Frag} {mg : Str → Option Value} {base : Heap} {C : Addr} (EF : ErrF K C (dN.at_ K) "/claim/cut.py" dN) (o : nsIn K cStatics "thirdparty.any" = some none) (ms : mg "super" = none) (hP : P.main.file = "/claim/cut.py") (hsup : (P.main.scope.names.lookup ("super" : Str)).isSome = false) (hd : dflB dN K = true) (hno : findIn K (.ref C) "depot" = some none) :
    ∃ fd, FnOk P w K mg base (L2N.CX P w) 1 (dN.at_ K) fd ["self", "depot"] (ErrX.spI C "depot") ∧ Binds K fd ["self", "depot"] [] := by
  obtain ⟨oc, od, osl, dV, kV, doc, pm, an, ct, cc, cda, cl, cld, csl, ccl, cdd, cvs, ccs, tf, lk, hcd, hcode, hvs, hcell⟩ := EF.fn
  rw [← hP] at hvs
  obtain ⟨rfl, rfl⟩ := dfl_of hd lk
  have S : SupX.ScS ["self", "depot"] ["self", "depot"] (defScope dN.st) := ⟨rfl, rfl, rfl, by decide +kernel, rfl, by decide +kernel, by decide +kernel, by decide +kernel, rfl, rfl⟩
  have T : SupX.SupC P K mg C := ⟨EF.oex, EF.sup, EF.sub, EF.self, o, ms, hsup⟩
  refine ⟨_, SupX.fn_sup (k := 0) (sp := ErrX.spI C "depot") (CX := L2N.CX P w) lk hcd hcode hvs hcell T (fun L => ⟨_, rfl⟩) (fun L => rfl) S rfl rfl (fun vs H Q E h => ?_) (fun A outer s H vs Q E hr h => ?_), .all fun us hl => match us, hl with | [_, _], _ => rfl⟩
  · obtain ⟨a, x, rfl, ha, _⟩ := h
    exact ⟨rfl, a, _, rfl, ha⟩
  · obtain ⟨a, x, rfl, ha, q⟩ := h
    refine ⟨_, pss_one (ps_ost (pv 0) (pv 1) rfl), ?_⟩
    exact ⟨.int x, rfl, .ref a, rfl, a, C, rfl, EF.oex, hno, .inl ⟨ha, q⟩⟩
theorem ok_initC {P : Program} {w : World} {K : Frag} {mg : Str → Option Value} {base : Heap} {C : Addr} (EF : ErrF K C (dC.at_ K) "/claim/cut.py" dC) (o : nsIn K cStatics "thirdparty.any" = some none) (ms : mg "super" = none) (hP : P.main.file = "/claim/cut.py") (hsup : (P.main.scope.names.lookup ("super" : Str)).isSome = false) (hd : dflB dC K = true) (hno : findIn K (.ref C) "customer" = some none) :
    ∃ fd, FnOk P w K mg base (L2N.CX P w) 1 (dC.at_ K) fd ["self", "customer"] (ErrX.spI C "customer") ∧ Binds K fd ["self", "customer"] [] := by
  obtain ⟨oc, od, osl, dV, kV, doc, pm, an, ct, cc, cda, cl, cld, csl, ccl, cdd, cvs, ccs, tf, lk, hcd, hcode, hvs, hcell⟩ := EF.fn
  rw [← hP] at hvs
  obtain ⟨rfl, rfl⟩ := dfl_of hd lk
  have S : SupX.ScS ["self", "customer"] ["self", "customer"] (defScope dC.st) := ⟨rfl, rfl, rfl, by decide +kernel, rfl, by decide +kernel, by decide +kernel, by decide +kernel, rfl, rfl⟩
  have T : SupX.SupC P K mg C := ⟨EF.oex, EF.sup, EF.sub, EF.self, o, ms, hsup⟩
  refine ⟨_, SupX.fn_sup (k := 0) (sp := ErrX.spI C "customer") (CX := L2N.CX P w) lk hcd hcode hvs hcell T (fun L => ⟨_, rfl⟩) (fun L => rfl) S rfl rfl (fun vs H Q E h => ?_) (fun A outer s H vs Q E hr h => ?_), .all fun us hl => match us, hl with | [_, _], _ => rfl⟩
  · obtain ⟨a, x, rfl, ha, _⟩ := h
    exact ⟨rfl, a, _, rfl, ha⟩
  · obtain ⟨a, x, rfl, ha, q⟩ := h
    refine ⟨_, pss_one (ps_ost (pv 0) (pv 1) rfl), ?_⟩
    exact ⟨.int x, rfl, .ref a, rfl, a, C, rfl, EF.oex, hno, .inl ⟨ha, q⟩⟩
theorem ok_initT {P : Program} {w : World} {K : Frag} {mg : Str → Option Value} {base : Heap} {C : Addr} (EF : ErrF K C (dT.at_ K) "/claim/cut.py" dT) (o : nsIn K cStatics "thirdparty.any" = some none) (ms : mg "super" = none) (hP : P.main.file = "/claim/cut.py") (hsup : (P.main.scope.names.lookup ("super" : Str)).isSome = false) (hd : dflB dT K = true) (hno : findIn K (.ref C) "size" = some none) :
    ∃ fd, FnOk P w K mg base (L2N.CX P w) 1 (dT.at_ K) fd ["self", "size"] (ErrX.spI C "size") ∧ Binds K fd ["self", "size"] [] := by
  obtain ⟨oc, od, osl, dV, kV, doc, pm, an, ct, cc, cda, cl, cld, csl, ccl, cdd, cvs, ccs, tf, lk, hcd, hcode, hvs, hcell⟩ := EF.fn
  rw [← hP] at hvs
  obtain ⟨rfl, rfl⟩ := dfl_of hd lk
  have S : SupX.ScS ["self", "size"] ["self", "size"] (defScope dT.st) := ⟨rfl, rfl, rfl, by decide +kernel, rfl, by decide +kernel, by decide +kernel, by decide +kernel, rfl, rfl⟩
  have T : SupX.SupC P K mg C := ⟨EF.oex, EF.sup, EF.sub, EF.self, o, ms, hsup⟩
  refine ⟨_, SupX.fn_sup (k := 0) (sp := ErrX.spI C "size") (CX := L2N.CX P w) lk hcd hcode hvs hcell T (fun L => ⟨_, rfl⟩) (fun L => rfl) S rfl rfl (fun vs H Q E h => ?_) (fun A outer s H vs Q E hr h => ?_), .all fun us hl => match us, hl with | [_, _], _ => rfl⟩
  · obtain ⟨a, x, rfl, ha, _⟩ := h
    exact ⟨rfl, a, _, rfl, ha⟩
  · obtain ⟨a, x, rfl, ha, q⟩ := h
    refine ⟨_, pss_one (ps_ost (pv 0) (pv 1) rfl), ?_⟩
    exact ⟨.int x, rfl, .ref a, rfl, a, C, rfl, EF.oex, hno, .inl ⟨ha, q⟩⟩
theorem ok_initR {P : Program} {w : World} {K : Frag} {mg : Str → Option Value} {base : Heap} {C : Addr} (EF : ErrF K C (dR.at_ K) "/claim/cut.py" dR) (o : nsIn K cStatics "thirdparty.any" = some none) (ms : mg "super" = none) (hP : P.main.file = "/claim/cut.py") (hsup : (P.main.scope.names.lookup ("super" : Str)).isSome = false) (hd : dflB dR K = true) (hno : findIn K (.ref C) "most" = some none) :
    ∃ fd, FnOk P w K mg base (L2N.CX P w) 1 (dR.at_ K) fd ["self", "most"] (ErrX.spI C "most") ∧ Binds K fd ["self", "most"] [] := by
  obtain ⟨oc, od, osl, dV, kV, doc, pm, an, ct, cc, cda, cl, cld, csl, ccl, cdd, cvs, ccs, tf, lk, hcd, hcode, hvs, hcell⟩ := EF.fn
  rw [← hP] at hvs
  obtain ⟨rfl, rfl⟩ := dfl_of hd lk
  have S : SupX.ScS ["self", "most"] ["self", "most"] (defScope dR.st) := ⟨rfl, rfl, rfl, by decide +kernel, rfl, by decide +kernel, by decide +kernel, by decide +kernel, rfl, rfl⟩
  have T : SupX.SupC P K mg C := ⟨EF.oex, EF.sup, EF.sub, EF.self, o, ms, hsup⟩
  refine ⟨_, SupX.fn_sup (k := 0) (sp := ErrX.spI C "most") (CX := L2N.CX P w) lk hcd hcode hvs hcell T (fun L => ⟨_, rfl⟩) (fun L => rfl) S rfl rfl (fun vs H Q E h => ?_) (fun A outer s H vs Q E hr h => ?_), .all fun us hl => match us, hl with | [_, _], _ => rfl⟩
  · obtain ⟨a, x, rfl, ha, _⟩ := h
    exact ⟨rfl, a, _, rfl, ha⟩
  · obtain ⟨a, x, rfl, ha, q⟩ := h
    refine ⟨_, pss_one (ps_ost (pv 0) (pv 1) rfl), ?_⟩
    exact ⟨.int x, rfl, .ref a, rfl, a, C, rfl, EF.oex, hno, .inl ⟨ha, q⟩⟩
end K05
set_option Elab.async false
set_option linter.all false
set_option maxRecDepth 100000
set_option maxHeartbeats 4000000
namespace K05
open PySem PySem.W PySem.Spec PyProof.Rows L2 Hk
theorem conB_ok {C x : Str} {i : Int} {K : Frag} (h : conB C x i K = true) (hc : copiedNames.contains x = false) : ∃ u, Con K (He.ga K C) x (.int i) u := by
  unfold conB at h
  split at h
  · rename_i j t e
    obtain ⟨h1, h2⟩ := Bool.and_eq_true_iff.mp h
    have ej := of_decide_eq_true h1
    subst ej
    exact ⟨.int j t, e, ⟨t, rfl⟩, He.eqO_ok h2, hc⟩
  · cases h
theorem getB_ok {K : Frag} (h : getB K = true) : specialIn K (.builtin "object.__class__") "__get__" = some (some (.builtin "getset_descriptor.__get__")) ∧ takesIn K (.builtin "object.__class__") = some true := by
  obtain ⟨h1, h2⟩ := Bool.and_eq_true_iff.mp h
  exact ⟨He.eqO_ok h1, of_decide_eq_true h2⟩
theorem more_mem {K : Frag} (c : Says ask K) {b : Frag → Bool} (h : b ∈ ask.bs) : b K = true := List.all_eq_true.mp c.all.2.2 b h
theorem fa_mem {K : Frag} (c : Says ask K) {f : He.Fa} (h : f ∈ ask.fa) : f.ok K = true := List.all_eq_true.mp c.all.1.1 f h
theorem propB_ok {C x : Str} {K : Frag} (h : propB C x K = true) : PropOf K (He.ga K C) x (He.ma K (He.ga K C) x) (gaP K C x) := by
  obtain ⟨h1, h2⟩ := Bool.and_eq_true_iff.mp h
  obtain ⟨h2, h3⟩ := Bool.and_eq_true_iff.mp h2
  obtain ⟨h3, h4⟩ := Bool.and_eq_true_iff.mp h3
  refine ⟨He.eqO_ok h1, He.eqO_ok h2, of_decide_eq_true h3, ?_⟩
  unfold gaP
  split at h4
  · rename_i g rest e
    rw [e]
    exact ⟨rest, rfl⟩
  · cases h4
theorem insB_ok {C : Str} {K : Frag} (h : insB C K = true) (g : specialIn K (.builtin "object.__class__") "__get__" = some (some (.builtin "getset_descriptor.__get__")) ∧ takesIn K (.builtin "object.__class__") = some true) : IsN K (He.ga K C) := by
  obtain ⟨h1, h2⟩ := Bool.and_eq_true_iff.mp h
  obtain ⟨h2, h3⟩ := Bool.and_eq_true_iff.mp h2
  exact ⟨He.eqO_ok h1, g.1, g.2, of_decide_eq_true h2, of_decide_eq_true h3⟩
def caK (K : Frag) (b : Er4) : Addr := He.ga K (nmE b)
theorem cls_of {K : Frag} {mg : Str → Option Value} {h : Heap} (X : K.In h) (G : h.Ns mainGlobals mg) (c : Says ask K) : ∀ b : Er4, ClsF K mg (caK K b) (nmE b) (fun x => He.ga K x) := by
  obtain ⟨gt1, gt2⟩ := getB_ok (c.more 3)
  have hg : ∀ x ∈ clsN, mg x = some (.ref (He.ga K x)) := fun x hx => He.glo_ok X G (fa_mem c (List.mem_append_right _ (List.mem_map_of_mem hx)))
  intro b
  cases b with
  | N =>
    have E := c.err 0 (d := dN) rfl
    exact ⟨⟨E.ga, E.gt, E.oex.exC, E.hd, E.cl, gt1, gt2, E.top⟩, hg, fun x hx => of_decide_eq_true (more_mem c (b := isx "NoDepot" x (decide (x = "NoDepot"))) (List.mem_append_right _ (List.mem_append_left _ (List.mem_map_of_mem (f := fun y => isx "NoDepot" y (decide (y = "NoDepot"))) hx)))), of_decide_eq_true (c.more 4), by decide +kernel⟩
  | C =>
    have E := c.err 1 (d := dC) rfl
    exact ⟨⟨E.ga, E.gt, E.oex.exC, E.hd, E.cl, gt1, gt2, E.top⟩, hg, fun x hx => of_decide_eq_true (more_mem c (b := isx "NoCustomer" x (decide (x = "NoCustomer"))) (List.mem_append_right _ (List.mem_append_right _ (List.mem_append_left _ (List.mem_map_of_mem (f := fun y => isx "NoCustomer" y (decide (y = "NoCustomer"))) hx))))), of_decide_eq_true (c.more 5), by decide +kernel⟩
  | T =>
    have E := c.err 2 (d := dT) rfl
    exact ⟨⟨E.ga, E.gt, E.oex.exC, E.hd, E.cl, gt1, gt2, E.top⟩, hg, fun x hx => of_decide_eq_true (more_mem c (b := isx "BadSize" x (decide (x = "BadSize"))) (List.mem_append_right _ (List.mem_append_right _ (List.mem_append_right _ (List.mem_append_left _ (List.mem_map_of_mem (f := fun y => isx "BadSize" y (decide (y = "BadSize"))) hx)))))), of_decide_eq_true (c.more 6), by decide +kernel⟩
  | R =>
    have E := c.err 3 (d := dR) rfl
    exact ⟨⟨E.ga, E.gt, E.oex.exC, E.hd, E.cl, gt1, gt2, E.top⟩, hg, fun x hx => of_decide_eq_true (more_mem c (b := isx "TooMany" x (decide (x = "TooMany"))) (List.mem_append_right _ (List.mem_append_right _ (List.mem_append_right _ (List.mem_append_right _ (List.mem_map_of_mem (f := fun y => isx "TooMany" y (decide (y = "TooMany"))) hx)))))), of_decide_eq_true (c.more 7), by decide +kernel⟩
theorem facts {P : Program} {w : World} {K : Frag} {h : Heap} {mg : Str → Option Value} {f : Addr} (hP : P.main.file = "/claim/cut.py") (hsup : (P.main.scope.names.lookup ("super" : Str)).isSome = false) (X : K.In h) (G : h.Ns mainGlobals mg) (hfa : mg ("law" : Str) = some (.ref f)) (c : Says ask K) :
    ∃ fd : FuncData, (∀ (s : Shared) (v : Value), BindsTo s fd ⟨[v], []⟩ [("script", v)]) ∧ ∀ base : Heap, K.In base → base.Ns mainGlobals mg → FnOk P w K mg base (L2N.CX P w) 10 f fd ["script"] (spLaw K) := by
  obtain ⟨fd_check_size, F_check_size⟩ := c.def_ 0 (d := gdef "check_size" check_size_st) rfl
  obtain ⟨fd_check_most, F_check_most⟩ := c.def_ 1 (d := gdef "check_most" check_most_st) rfl
  obtain ⟨fd_check_depot, F_check_depot⟩ := c.def_ 2 (d := gdef "check_depot" check_depot_st) rfl
  obtain ⟨fd_check_customer, F_check_customer⟩ := c.def_ 3 (d := gdef "check_customer" check_customer_st) rfl
  obtain ⟨fd_place_labels, F_place_labels⟩ := c.def_ 4 (d := gdef "place_labels" place_labels_st) rfl
  obtain ⟨fd_merged_labels, F_merged_labels⟩ := c.def_ 5 (d := gdef "merged_labels" merged_labels_st) rfl
  obtain ⟨fd_labelled_piece, F_labelled_piece⟩ := c.def_ 6 (d := gdef "labelled_piece" labelled_piece_st) rfl
  obtain ⟨fd_checked_pairs, F_checked_pairs⟩ := c.def_ 7 (d := gdef "_checked_pairs" checked_pairs_st) rfl
  obtain ⟨fd_found_pieces, F_found_pieces⟩ := c.def_ 8 (d := gdef "_found_pieces" found_pieces_st) rfl
  obtain ⟨fd_glue_depots, F_glue_depots⟩ := c.def_ 9 (d := gdef "glue_depots" glue_depots_st) rfl
  obtain ⟨fd_glue_customers, F_glue_customers⟩ := c.def_ 10 (d := gdef "glue_customers" glue_customers_st) rfl
  obtain ⟨fd_glued_numbers, F_glued_numbers⟩ := c.def_ 11 (d := gdef "_glued_numbers" glued_numbers_st) rfl
  obtain ⟨fd_law_cell_of, F_law_cell_of⟩ := c.def_ 12 (d := gdef "_law_cell_of" law_cell_of_st) rfl
  obtain ⟨fd_law_source, F_law_source⟩ := c.def_ 13 (d := gdef "_law_source" law_source_st) rfl
  obtain ⟨fd_law_take, F_law_take⟩ := c.def_ 14 (d := gdef "_law_take" law_take_st) rfl
  obtain ⟨fd_law_draw_far, F_law_draw_far⟩ := c.def_ 15 (d := gdef "_law_draw_far" law_draw_far_st) rfl
  obtain ⟨fd_law_draw, F_law_draw⟩ := c.def_ 16 (d := gdef "_law_draw" law_draw_st) rfl
  obtain ⟨fd_law_draw_place, F_law_draw_place⟩ := c.def_ 17 (d := gdef "_law_draw_place" law_draw_place_st) rfl
  obtain ⟨fd_law_same, F_law_same⟩ := c.def_ 18 (d := gdef "_law_same" law_same_st) rfl
  obtain ⟨fd_law_classes, F_law_classes⟩ := c.def_ 19 (d := gdef "_law_classes" law_classes_st) rfl
  obtain ⟨fd_law_refusal, F_law_refusal⟩ := c.def_ 20 (d := gdef "_law_refusal" law_refusal_st) rfl
  obtain ⟨fd_law_glue, F_law_glue⟩ := c.def_ 21 (d := gdef "_law_glue" law_glue_st) rfl
  obtain ⟨fd_law_first_due, F_law_first_due⟩ := c.def_ 22 (d := gdef "_law_first_due" law_first_due_st) rfl
  obtain ⟨fd_law_flipped, F_law_flipped⟩ := c.def_ 23 (d := gdef "_law_flipped" law_flipped_st) rfl
  obtain ⟨fd_law_map_of, F_law_map_of⟩ := c.def_ 24 (d := gdef "_law_map_of" law_map_of_st) rfl
  obtain ⟨fd_law_linked, F_law_linked⟩ := c.def_ 25 (d := gdef "_law_linked" law_linked_st) rfl
  obtain ⟨fd_law_written, F_law_written⟩ := c.def_ 26 (d := gdef "_law_written" law_written_st) rfl
  obtain ⟨fd_law_is, F_law_is⟩ := c.def_ 27 (d := gdef "_law_is" law_is_st) rfl
  obtain ⟨fd_law_right, F_law_right⟩ := c.def_ 28 (d := gdef "_law_right" law_right_st) rfl
  obtain ⟨fd_law, F_law⟩ := c.def_ 29 (d := gdef "law" law_st) rfl
  obtain ⟨fd_Network_init, F_Network_init⟩ := c.def_ 30 (d := mdefN "Network" "__init__" "Network.__init__" Network_init_st) rfl
  obtain ⟨fd_Network_turned, F_Network_turned⟩ := c.def_ 31 (d := mdefN "Network" "turned" "Network.turned" Network_turned_st) rfl
  obtain ⟨fd_Network_iter, F_Network_iter⟩ := c.def_ 32 (d := mdefN "Network" "__iter__" "Network.__iter__" Network_iter_st) rfl
  obtain ⟨fd_Network_str, F_Network_str⟩ := c.def_ 33 (d := mdefN "Network" "__str__" "Network.__str__" Network_str_st) rfl
  obtain ⟨fd_Network_depots, F_Network_depots⟩ := c.def_ 34 (d := pdefN "Network" "depots" "Network.depots" Network_depots_st) rfl
  obtain ⟨fd_Network_customers, F_Network_customers⟩ := c.def_ 35 (d := pdefN "Network" "customers" "Network.customers" Network_customers_st) rfl
  obtain ⟨fd_Network_routes, F_Network_routes⟩ := c.def_ 36 (d := pdefN "Network" "routes" "Network.routes" Network_routes_st) rfl
  obtain ⟨fd_Network_loops, F_Network_loops⟩ := c.def_ 37 (d := pdefN "Network" "loops" "Network.loops" Network_loops_st) rfl
  obtain ⟨fd_Network_joined, F_Network_joined⟩ := c.def_ 38 (d := pdefN "Network" "joined" "Network.joined" Network_joined_st) rfl
  have g_check_size := He.glo_ok X G (c.fact 16 (f := .glo "check_size") rfl)
  have g_check_most := He.glo_ok X G (c.fact 17 (f := .glo "check_most") rfl)
  have g_check_depot := He.glo_ok X G (c.fact 18 (f := .glo "check_depot") rfl)
  have g_check_customer := He.glo_ok X G (c.fact 19 (f := .glo "check_customer") rfl)
  have g_place_labels := He.glo_ok X G (c.fact 20 (f := .glo "place_labels") rfl)
  have g_merged_labels := He.glo_ok X G (c.fact 21 (f := .glo "merged_labels") rfl)
  have g_labelled_piece := He.glo_ok X G (c.fact 22 (f := .glo "labelled_piece") rfl)
  have g_checked_pairs := He.glo_ok X G (c.fact 23 (f := .glo "_checked_pairs") rfl)
  have g_found_pieces := He.glo_ok X G (c.fact 24 (f := .glo "_found_pieces") rfl)
  have g_glue_depots := He.glo_ok X G (c.fact 25 (f := .glo "glue_depots") rfl)
  have g_glue_customers := He.glo_ok X G (c.fact 26 (f := .glo "glue_customers") rfl)
  have g_glued_numbers := He.glo_ok X G (c.fact 27 (f := .glo "_glued_numbers") rfl)
  have g_law_cell_of := He.glo_ok X G (c.fact 28 (f := .glo "_law_cell_of") rfl)
  have g_law_source := He.glo_ok X G (c.fact 29 (f := .glo "_law_source") rfl)
  have g_law_take := He.glo_ok X G (c.fact 30 (f := .glo "_law_take") rfl)
  have g_law_draw_far := He.glo_ok X G (c.fact 31 (f := .glo "_law_draw_far") rfl)
  have g_law_draw := He.glo_ok X G (c.fact 32 (f := .glo "_law_draw") rfl)
  have g_law_draw_place := He.glo_ok X G (c.fact 33 (f := .glo "_law_draw_place") rfl)
  have g_law_same := He.glo_ok X G (c.fact 34 (f := .glo "_law_same") rfl)
  have g_law_classes := He.glo_ok X G (c.fact 35 (f := .glo "_law_classes") rfl)
  have g_law_refusal := He.glo_ok X G (c.fact 36 (f := .glo "_law_refusal") rfl)
  have g_law_glue := He.glo_ok X G (c.fact 37 (f := .glo "_law_glue") rfl)
  have g_law_first_due := He.glo_ok X G (c.fact 38 (f := .glo "_law_first_due") rfl)
  have g_law_flipped := He.glo_ok X G (c.fact 39 (f := .glo "_law_flipped") rfl)
  have g_law_map_of := He.glo_ok X G (c.fact 40 (f := .glo "_law_map_of") rfl)
  have g_law_linked := He.glo_ok X G (c.fact 41 (f := .glo "_law_linked") rfl)
  have g_law_written := He.glo_ok X G (c.fact 42 (f := .glo "_law_written") rfl)
  have g_law_is := He.glo_ok X G (c.fact 43 (f := .glo "_law_is") rfl)
  have g_law_right := He.glo_ok X G (c.fact 44 (f := .glo "_law_right") rfl)
  have g_law := He.glo_ok X G (c.fact 45 (f := .glo "law") rfl)
  have g_Network := He.glo_ok X G (c.fact 46 (f := .glo "Network") rfl)
  have g_DepotError := He.glo_ok X G (c.fact 47 (f := .glo "DepotError") rfl)
  have g_NoDepot := He.glo_ok X G (fa_mem c (List.mem_append_right _ (List.mem_map_of_mem (f := He.Fa.glo) (show ("NoDepot" : Str) ∈ clsN by decide +kernel))))
  have g_NoCustomer := He.glo_ok X G (fa_mem c (List.mem_append_right _ (List.mem_map_of_mem (f := He.Fa.glo) (show ("NoCustomer" : Str) ∈ clsN by decide +kernel))))
  have g_BadSize := He.glo_ok X G (fa_mem c (List.mem_append_right _ (List.mem_map_of_mem (f := He.Fa.glo) (show ("BadSize" : Str) ∈ clsN by decide +kernel))))
  have g_TooMany := He.glo_ok X G (fa_mem c (List.mem_append_right _ (List.mem_map_of_mem (f := He.Fa.glo) (show ("TooMany" : Str) ∈ clsN by decide +kernel))))
  have m_len := He.free_ok X G (c.fact 0 (f := .free "len") rfl)
  have m_range := He.free_ok X G (c.fact 1 (f := .free "range") rfl)
  have m_min := He.free_ok X G (c.fact 2 (f := .free "min") rfl)
  have m_max := He.free_ok X G (c.fact 3 (f := .free "max") rfl)
  have m_int := He.free_ok X G (c.fact 4 (f := .free "int") rfl)
  have m_list := He.free_ok X G (c.fact 5 (f := .free "list") rfl)
  have m_tuple := He.free_ok X G (c.fact 6 (f := .free "tuple") rfl)
  have m_sorted := He.free_ok X G (c.fact 7 (f := .free "sorted") rfl)
  have m_set := He.free_ok X G (c.fact 8 (f := .free "set") rfl)
  have m_enumerate := He.free_ok X G (c.fact 9 (f := .free "enumerate") rfl)
  have m_isinstance := He.free_ok X G (c.fact 10 (f := .free "isinstance") rfl)
  have m_bool := He.free_ok X G (c.fact 11 (f := .free "bool") rfl)
  have m_str := He.free_ok X G (c.fact 12 (f := .free "str") rfl)
  have m_ValueError := He.free_ok X G (c.fact 13 (f := .free "ValueError") rfl)
  have m_super := He.free_ok X G (c.fact 14 (f := .free "super") rfl)
  have m_iter := He.free_ok X G (c.fact 15 (f := .free "iter") rfl)
  have b_check_size : Binds K fd_check_size ["size", "least", "most"] [] := FunD.bindsN F_check_size fun _ _ _ _ _ _ us hl => match us, hl with | [_, _, _], _ => rfl
  have b_check_most : Binds K fd_check_most ["number", "most"] [] := FunD.bindsN F_check_most fun _ _ _ _ _ _ us hl => match us, hl with | [_, _], _ => rfl
  have b_check_depot : Binds K fd_check_depot ["depot", "depots"] [] := FunD.bindsN F_check_depot fun _ _ _ _ _ _ us hl => match us, hl with | [_, _], _ => rfl
  have b_check_customer : Binds K fd_check_customer ["customer", "customers"] [] := FunD.bindsN F_check_customer fun _ _ _ _ _ _ us hl => match us, hl with | [_, _], _ => rfl
  have b_place_labels : Binds K fd_place_labels ["depots", "customers", "routes"] [] := FunD.bindsN F_place_labels fun _ _ _ _ _ _ us hl => match us, hl with | [_, _, _], _ => rfl
  have b_merged_labels : Binds K fd_merged_labels ["labels", "first", "second"] [] := FunD.bindsN F_merged_labels fun _ _ _ _ _ _ us hl => match us, hl with | [_, _, _], _ => rfl
  have b_labelled_piece : Binds K fd_labelled_piece ["labels", "depots", "label"] [] := FunD.bindsN F_labelled_piece fun _ _ _ _ _ _ us hl => match us, hl with | [_, _, _], _ => rfl
  have b_checked_pairs : Binds K fd_checked_pairs ["depots", "customers", "routes"] [] := FunD.bindsN F_checked_pairs fun _ _ _ _ _ _ us hl => match us, hl with | [_, _, _], _ => rfl
  have b_found_pieces : Binds K fd_found_pieces ["depots", "customers", "routes"] [] := FunD.bindsN F_found_pieces fun _ _ _ _ _ _ us hl => match us, hl with | [_, _, _], _ => rfl
  have b_glued_numbers : Binds K fd_glued_numbers ["many", "glued", "into", "start"] [] := FunD.bindsN F_glued_numbers fun _ _ _ _ _ _ us hl => match us, hl with | [_, _, _, _], _ => rfl
  have b_law_cell_of : Binds K fd_law_cell_of ["script", "k"] [] := FunD.bindsN F_law_cell_of fun _ _ _ _ _ _ us hl => match us, hl with | [_, _], _ => rfl
  have b_law_source : Binds K fd_law_source ["script", "k"] [] := FunD.bindsN F_law_source fun _ _ _ _ _ _ us hl => match us, hl with | [_, _], _ => rfl
  have b_law_take : Binds K fd_law_take ["pool", "many"] [] := FunD.bindsN F_law_take fun _ _ _ _ _ _ us hl => match us, hl with | [_, _], _ => rfl
  have b_law_draw_far : Binds K fd_law_draw_far ["pool"] [] := FunD.bindsN F_law_draw_far fun _ _ _ _ _ _ us hl => match us, hl with | [_], _ => rfl
  have b_law_draw : Binds K fd_law_draw ["pool"] [] := FunD.bindsN F_law_draw fun _ _ _ _ _ _ us hl => match us, hl with | [_], _ => rfl
  have b_law_draw_place : Binds K fd_law_draw_place ["pool", "many"] [] := FunD.bindsN F_law_draw_place fun _ _ _ _ _ _ us hl => match us, hl with | [_, _], _ => rfl
  have b_law_same : Binds K fd_law_same ["told", "due"] [] := FunD.bindsN F_law_same fun _ _ _ _ _ _ us hl => match us, hl with | [_, _], _ => rfl
  have b_law_classes : Binds K fd_law_classes ["e"] [] := FunD.bindsN F_law_classes fun _ _ _ _ _ _ us hl => match us, hl with | [_], _ => rfl
  have b_law_refusal : Binds K fd_law_refusal ["e"] [] := FunD.bindsN F_law_refusal fun _ _ _ _ _ _ us hl => match us, hl with | [_], _ => rfl
  have b_law_glue : Binds K fd_law_glue ["side", "first", "second", "places"] [] := FunD.bindsN F_law_glue fun _ _ _ _ _ _ us hl => match us, hl with | [_, _, _, _], _ => rfl
  have b_law_first_due : Binds K fd_law_first_due ["side", "one", "two", "places"] [] := FunD.bindsN F_law_first_due fun _ _ _ _ _ _ us hl => match us, hl with | [_, _, _, _], _ => rfl
  have b_law_flipped : Binds K fd_law_flipped ["world"] [] := FunD.bindsN F_law_flipped fun _ _ _ _ _ _ us hl => match us, hl with | [_], _ => rfl
  have b_law_map_of : Binds K fd_law_map_of ["one", "two", "places"] [] := FunD.bindsN F_law_map_of fun _ _ _ _ _ _ us hl => match us, hl with | [_, _, _], _ => rfl
  have b_law_linked : Binds K fd_law_linked ["sizes", "pairs"] [] := FunD.bindsN F_law_linked fun _ _ _ _ _ _ us hl => match us, hl with | [_, _], _ => rfl
  have b_law_written : Binds K fd_law_written ["sizes", "rows"] [] := FunD.bindsN F_law_written fun _ _ _ _ _ _ us hl => match us, hl with | [_, _], _ => rfl
  have b_law_is : Binds K fd_law_is ["network", "world"] [] := FunD.bindsN F_law_is fun _ _ _ _ _ _ us hl => match us, hl with | [_, _], _ => rfl
  have b_law_right : Binds K fd_law_right ["side", "first", "second", "one", "two", "places"] [] := FunD.bindsN F_law_right fun _ _ _ _ _ _ us hl => match us, hl with | [_, _, _, _, _, _], _ => rfl
  have b_law : Binds K fd_law ["script"] [] := FunD.bindsN F_law fun _ _ _ _ _ _ us hl => match us, hl with | [_], _ => rfl
  have b_Network_init : Binds K fd_Network_init ["self", "depots", "customers", "routes"] [] := FunD.bindsN F_Network_init fun _ _ _ _ _ _ us hl => match us, hl with | [_, _, _, _], _ => rfl
  have b_Network_turned : Binds K fd_Network_turned ["self"] [] := FunD.bindsN F_Network_turned fun _ _ _ _ _ _ us hl => match us, hl with | [_], _ => rfl
  have b_Network_iter : Binds K fd_Network_iter ["self"] [] := FunD.bindsN F_Network_iter fun _ _ _ _ _ _ us hl => match us, hl with | [_], _ => rfl
  have b_Network_str : Binds K fd_Network_str ["self"] [] := FunD.bindsN F_Network_str fun _ _ _ _ _ _ us hl => match us, hl with | [_], _ => rfl
  have b_Network_depots : Binds K fd_Network_depots ["self"] [] := FunD.bindsN F_Network_depots fun _ _ _ _ _ _ us hl => match us, hl with | [_], _ => rfl
  have b_Network_customers : Binds K fd_Network_customers ["self"] [] := FunD.bindsN F_Network_customers fun _ _ _ _ _ _ us hl => match us, hl with | [_], _ => rfl
  have b_Network_routes : Binds K fd_Network_routes ["self"] [] := FunD.bindsN F_Network_routes fun _ _ _ _ _ _ us hl => match us, hl with | [_], _ => rfl
  have b_Network_loops : Binds K fd_Network_loops ["self"] [] := FunD.bindsN F_Network_loops fun _ _ _ _ _ _ us hl => match us, hl with | [_], _ => rfl
  have b_Network_joined : Binds K fd_Network_joined ["self"] [] := FunD.bindsN F_Network_joined fun _ _ _ _ _ _ us hl => match us, hl with | [_], _ => rfl
  have e := hfa.symm.trans g_law
  cases e
  have bA := FunD.bindsA (ps := ["script"]) F_law fun _ _ _ _ _ _ us hl => match us, hl with | [_], _ => rfl
  have EdN := c.err 0 (d := dN) rfl
  have ndN : findIn K (.ref (He.ga K "NoDepot")) "depot" = some none := He.noat_ok (c.fact 62 (f := .noat "NoDepot" "depot") rfl)
  have xdN := He.exm_ok (c.fact 58 (f := .exm "NoDepot" "DepotError" true) rfl)
  have fdN := c.more 8
  have EdC := c.err 1 (d := dC) rfl
  have ndC : findIn K (.ref (He.ga K "NoCustomer")) "customer" = some none := He.noat_ok (c.fact 63 (f := .noat "NoCustomer" "customer") rfl)
  have xdC := He.exm_ok (c.fact 59 (f := .exm "NoCustomer" "DepotError" true) rfl)
  have fdC := c.more 9
  have EdT := c.err 2 (d := dT) rfl
  have ndT : findIn K (.ref (He.ga K "BadSize")) "size" = some none := He.noat_ok (c.fact 64 (f := .noat "BadSize" "size") rfl)
  have xdT := He.exm_ok (c.fact 60 (f := .exm "BadSize" "DepotError" true) rfl)
  have fdT := c.more 10
  have EdR := c.err 3 (d := dR) rfl
  have ndR : findIn K (.ref (He.ga K "TooMany")) "most" = some none := He.noat_ok (c.fact 65 (f := .noat "TooMany" "most") rfl)
  have xdR := He.exm_ok (c.fact 61 (f := .exm "TooMany" "DepotError" true) rfl)
  have fdR := c.more 11
  have oq : nsIn K cStatics "thirdparty.any" = some none := He.eqO_ok (c.more 0)
  obtain ⟨uP, cP⟩ := conB_ok (c.more 1) (by decide)
  obtain ⟨uR, cR⟩ := conB_ok (c.more 2) (by decide)
  have T : NetC K (He.ga K "Network") uP uR := ⟨He.cls_ok (c.fact 48 (f := .cls "Network") rfl), He.noat_ok (c.fact 50 (f := .noat "Network" "_depots") rfl), He.noat_ok (c.fact 51 (f := .noat "Network" "_customers") rfl), He.noat_ok (c.fact 52 (f := .noat "Network" "_routes") rfl), He.noat_ok (c.fact 53 (f := .noat "Network" "_indices") rfl), He.noat_ok (c.fact 54 (f := .noat "Network" "_pieces") rfl), cP, cR⟩
  have M := He.mkr_ok (c.fact 49 (f := .mkr "Network") rfl)
  have J := insB_ok (c.more 12) (getB_ok (c.more 3))
  have k_Network_turned := He.meth_ok (c.fact 55 (f := .meth "Network" "turned") rfl)
  have k_Network_iter := He.meth_ok (c.fact 56 (f := .meth "Network" "__iter__") rfl)
  have k_Network_str := He.meth_ok (c.fact 57 (f := .meth "Network" "__str__") rfl)
  have k_Network_depots := propB_ok (c.more 13)
  have k_Network_customers := propB_ok (c.more 14)
  have k_Network_routes := propB_ok (c.more 15)
  have k_Network_loops := propB_ok (c.more 16)
  have k_Network_joined := propB_ok (c.more 17)
  have Fc := cls_of X G c
  refine ⟨fd_law, fun s v => bA s [v] rfl, fun base _ _ => ?_⟩
  obtain ⟨fdN, oN, bN⟩ := ok_initN (P := P) (w := w) (base := base) EdN oq m_super hP hsup fdN ndN
  obtain ⟨fdC, oC, bC⟩ := ok_initC (P := P) (w := w) (base := base) EdC oq m_super hP hsup fdC ndC
  obtain ⟨fdT, oT, bT⟩ := ok_initT (P := P) (w := w) (base := base) EdT oq m_super hP hsup fdT ndT
  obtain ⟨fdR, oR, bR⟩ := ok_initR (P := P) (w := w) (base := base) EdR oq m_super hP hsup fdR ndR
  have D_NoDepot : Er P w K mg base "NoDepot" "depot" _ _ _ _ := ⟨EdN.oex, EdN.init, EdN.tI, oN, bN, g_NoDepot⟩
  have D_NoCustomer : Er P w K mg base "NoCustomer" "customer" _ _ _ _ := ⟨EdC.oex, EdC.init, EdC.tI, oC, bC, g_NoCustomer⟩
  have D_BadSize : Er P w K mg base "BadSize" "size" _ _ _ _ := ⟨EdT.oex, EdT.init, EdT.tI, oT, bT, g_BadSize⟩
  have D_TooMany : Er P w K mg base "TooMany" "most" _ _ _ _ := ⟨EdR.oex, EdR.init, EdR.tI, oR, bR, g_TooMany⟩
  have D1_size : Dn P w K mg base 1 "check_size" ["size", "least", "most"] spSize _ _ := ⟨ok_size F_check_size, g_check_size, F_check_size.kp, b_check_size⟩
  have D1_most : Dn P w K mg base 1 "check_most" ["number", "most"] spMost _ _ := ⟨ok_most F_check_most, g_check_most, F_check_most.kp, b_check_most⟩
  have D1_customer : Dn P w K mg base 1 "check_customer" ["customer", "customers"] spCustomer _ _ := ⟨ok_customer F_check_customer, g_check_customer, F_check_customer.kp, b_check_customer⟩
  have D_check_size : Dn P w K mg base 3 "check_size" ["size", "least", "most"] (spSizeB ((caK K) .T)) _ _ := ⟨ok_sizeB F_check_size D_BadSize, g_check_size, F_check_size.kp, b_check_size⟩
  have D_check_most : Dn P w K mg base 3 "check_most" ["number", "most"] (spMostB ((caK K) .R)) _ _ := ⟨ok_mostB F_check_most D_TooMany, g_check_most, F_check_most.kp, b_check_most⟩
  have D_check_customer : Dn P w K mg base 3 "check_customer" ["customer", "customers"] (spCustB ((caK K) .C)) _ _ := ⟨ok_custB F_check_customer D_NoCustomer, g_check_customer, F_check_customer.kp, b_check_customer⟩
  have D_check_depot : Dn P w K mg base 3 "check_depot" ["depot", "depots"] (spDepot ((caK K) .N)) _ _ := ⟨ok_depot F_check_depot D_NoDepot, g_check_depot, F_check_depot.kp, b_check_depot⟩
  have D_merged_labels : Dn P w K mg base 1 "merged_labels" ["labels", "first", "second"] spMerged _ _ := ⟨ok_merged F_merged_labels m_min, g_merged_labels, F_merged_labels.kp, b_merged_labels⟩
  have D_place_labels : Dn P w K mg base 2 "place_labels" ["depots", "customers", "routes"] spLabels _ _ := ⟨ok_labels F_place_labels m_list m_range D_merged_labels, g_place_labels, F_place_labels.kp, b_place_labels⟩
  have D_labelled_piece : Dn P w K mg base 1 "labelled_piece" ["labels", "depots", "label"] spPiece _ _ := ⟨ok_piece F_labelled_piece m_len m_range, g_labelled_piece, F_labelled_piece.kp, b_labelled_piece⟩
  have D_found_pieces : Dn P w K mg base 3 "_found_pieces" ["depots", "customers", "routes"] spFound _ _ := ⟨ok_found F_found_pieces m_sorted m_set D_place_labels D_labelled_piece, g_found_pieces, F_found_pieces.kp, b_found_pieces⟩
  have D_checked_pairs : Dn P w K mg base 4 "_checked_pairs" ["depots", "customers", "routes"] spPairs _ _ := ⟨ok_pairs F_checked_pairs D_check_depot D1_customer, g_checked_pairs, F_checked_pairs.kp, b_checked_pairs⟩
  have D_Network : NwT P w K mg base (He.ga K "Network") _ _ := ⟨M, ok_net F_Network_init T m_len m_sorted m_enumerate D1_size D1_most D_checked_pairs D_found_pieces, g_Network, b_Network_init⟩
  have E_Network : NwE P w K mg base (He.ga K "Network") ((caK K) .T) ((caK K) .R) _ _ := ⟨M, ok_netE F_Network_init T m_len m_sorted m_enumerate D_check_size D_check_most D_checked_pairs D_found_pieces, g_Network, b_Network_init⟩
  have P_depots : PrD P w K mg base 1 (He.ga K "Network") "depots" (spNum _ _) _ _ _ := ⟨k_Network_depots, ok_depots F_Network_depots T, b_Network_depots⟩
  have P_customers : PrD P w K mg base 1 (He.ga K "Network") "customers" (spNum _ _) _ _ _ := ⟨k_Network_customers, ok_customers F_Network_customers T, b_Network_customers⟩
  have P_routes : PrD P w K mg base 1 (He.ga K "Network") "routes" (spRoutes _) _ _ _ := ⟨k_Network_routes, ok_routes F_Network_routes T m_list, b_Network_routes⟩
  have P_loops : PrD P w K mg base 1 (He.ga K "Network") "loops" (spNum _ _) _ _ _ := ⟨k_Network_loops, ok_loops F_Network_loops T m_len, b_Network_loops⟩
  have P_joined : PrD P w K mg base 1 (He.ga K "Network") "joined" (spNum _ _) _ _ _ := ⟨k_Network_joined, ok_joined F_Network_joined T m_len, b_Network_joined⟩
  have O_str : OwD P w K mg base 1 (He.ga K "Network") "__str__" ["self"] (spStr (He.ga K "Network")) _ _ := ⟨k_Network_str.at_, k_Network_str.fn, ok_nstr F_Network_str T, b_Network_str⟩
  have O_iter : OwI P w K mg (He.ga K "Network") _ _ := ⟨k_Network_iter.at_, k_Network_iter.fn, ok_iter F_Network_iter T m_iter, b_Network_iter⟩
  have M_t : MtD P w K mg base 7 (He.ga K "Network") "turned" ["self"] (spTurned (He.ga K "Network")) _ _ := ⟨k_Network_turned, ok_turned F_Network_turned T D_Network, b_Network_turned⟩
  have D_law_same := ok_same (P := P) (w := w) (base := base) F_law_same m_bool m_len m_isinstance m_int m_tuple m_range m_list m_str g_law_same F_law_same.kp b_law_same 3
  have hnoB : ∀ b : Er4, findIn K (.ref ((caK K) b)) (fldE b) = some none := fun b => by
    cases b with
    | N => exact ndN
    | C => exact ndC
    | T => exact ndT
    | R => exact ndR
  have hexB : ∀ b : Er4, exmOne K (.ref ((caK K) b)) (.ref (He.ga K "DepotError")) = some true := fun b => by
    cases b with
    | N => exact xdN
    | C => exact xdC
    | T => exact xdT
    | R => exact xdR
  have FEc := ok_classes (P := P) (w := w) (base := base) F_law_classes m_isinstance Fc
  have FEr := ok_refusal (P := P) (w := w) (base := base) F_law_refusal m_isinstance m_ValueError Fc hnoB FEc g_law_classes F_law_classes.kp b_law_classes
  have D_glued_numbers : Dn P w K mg base 1 "_glued_numbers" ["many", "glued", "into", "start"] spGNum _ _ := ⟨ok_gnum F_glued_numbers m_range, g_glued_numbers, F_glued_numbers.kp, b_glued_numbers⟩
  have D_glue_depots : DnA P w K mg base 7 "glue_depots" (spGlue false (He.ga K "Network") (caK K)) _ _ := ⟨ok_glueD (CB := 0) (CT := 0) F_glue_depots T D_check_depot D_glued_numbers E_Network O_iter P_depots P_customers P_routes, g_glue_depots, F_glue_depots.kp, KwE.kbindsR F_glue_depots 2 ["at", "other"] fun _ _ _ _ _ _ us ws h1 h2 => match us, h1, ws, h2 with | [_, _], _, [_, _], _ => rfl⟩
  have D_glue_customers : DnA P w K mg base 7 "glue_customers" (spGlue true (He.ga K "Network") (caK K)) _ _ := ⟨ok_glueC (CB := 0) (CT := 0) F_glue_customers T D_check_customer D_glued_numbers E_Network O_iter P_depots P_customers P_routes, g_glue_customers, F_glue_customers.kp, KwE.kbindsR F_glue_customers 2 ["at", "other"] fun _ _ _ _ _ _ us ws h1 h2 => match us, h1, ws, h2 with | [_, _], _, [_, _], _ => rfl⟩
  have D_law_glue : Dn P w K mg base 8 "_law_glue" ["side", "first", "second", "places"] (spLGlue (He.ga K "Network")) _ _ := ⟨ok_lglue F_law_glue D_glue_depots D_glue_customers FEr g_law_refusal F_law_refusal.kp b_law_refusal g_DepotError hexB, g_law_glue, F_law_glue.kp, b_law_glue⟩
  have D_law_take : Dn P w K mg base 1 "_law_take" ["pool", "many"] spTake _ _ := ⟨ok_take F_law_take m_int, g_law_take, F_law_take.kp, b_law_take⟩
  have D_law_cell_of : Dn P w K mg base 1 "_law_cell_of" ["script", "k"] (spCell K) _ _ := ⟨ok_cell F_law_cell_of m_int m_len, g_law_cell_of, F_law_cell_of.kp, b_law_cell_of⟩
  have D_law_source : Dn P w K mg base 2 "_law_source" ["script", "k"] (spSource K) _ _ := ⟨ok_source F_law_source m_int m_range D_law_cell_of, g_law_source, F_law_source.kp, b_law_source⟩
  have D_law_draw_far : Dn P w K mg base 2 "_law_draw_far" ["pool"] spFar _ _ := ⟨ok_far F_law_draw_far D_law_take, g_law_draw_far, F_law_draw_far.kp, b_law_draw_far⟩
  have D_law_draw : Dn P w K mg base 2 "_law_draw" ["pool"] spDraw _ _ := ⟨ok_draw F_law_draw m_int m_len m_min m_range D_law_take, g_law_draw, F_law_draw.kp, b_law_draw⟩
  have D_law_draw_place : Dn P w K mg base 3 "_law_draw_place" ["pool", "many"] spPlace _ _ := ⟨ok_place F_law_draw_place D_law_take D_law_draw_far, g_law_draw_place, F_law_draw_place.kp, b_law_draw_place⟩
  have D_law_linked : Dn P w K mg base 1 "_law_linked" ["sizes", "pairs"] spLinked _ _ := ⟨ok_linked F_law_linked m_min m_max m_range, g_law_linked, F_law_linked.kp, b_law_linked⟩
  have D_law_written : Dn P w K mg base 1 "_law_written" ["sizes", "rows"] spWritten _ _ := ⟨ok_written F_law_written m_str, g_law_written, F_law_written.kp, b_law_written⟩
  have D_law_first_due : Dn P w K mg base 1 "_law_first_due" ["side", "one", "two", "places"] spDue _ _ := ⟨ok_fdue F_law_first_due m_len, g_law_first_due, F_law_first_due.kp, b_law_first_due⟩
  have D_law_flipped : Dn P w K mg base 1 "_law_flipped" ["world"] spFlip _ _ := ⟨ok_flip F_law_flipped m_sorted, g_law_flipped, F_law_flipped.kp, b_law_flipped⟩
  have D_law_map_of : Dn P w K mg base 1 "_law_map_of" ["one", "two", "places"] spMap _ _ := ⟨ok_map F_law_map_of m_sorted m_list, g_law_map_of, F_law_map_of.kp, b_law_map_of⟩
  have D_law_is : Dn P w K mg base 5 "_law_is" ["network", "world"] (spLIs (He.ga K "Network")) _ _ := ⟨ok_lis F_law_is T J m_isinstance m_len m_range m_str g_Network D_law_linked D_law_same D_law_written P_depots P_customers P_routes P_loops P_joined O_str, g_law_is, F_law_is.kp, b_law_is⟩
  have D_law_right : Dn P w K mg base 9 "_law_right" ["side", "first", "second", "one", "two", "places"] (spLR (He.ga K "Network")) _ _ := ⟨ok_lr F_law_right T m_range D_law_first_due D_law_map_of D_law_flipped D_law_glue D_law_same D_law_is M_t, g_law_right, F_law_right.kp, b_law_right⟩
  exact ok_law (C := He.ga K "Network") F_law m_range m_sorted D_law_source D_law_draw D_Network D_law_draw_place D_law_right
/-- nothing leaves the law: seen as a def that lets nothing out -/
theorem out0 {P : Program} {w : World} {K : Frag} {mg : Str → Option Value} {base : Heap} {k : Nat} {f : Addr} {fd : FuncData} (F : FnOk P w K mg base (L2N.CX P w) k f fd ["script"] (spLaw K)) : FnOk P w K mg base CX0 k f fd ["script"] (spLaw K) := by
  refine ⟨F.len, fun A outer s H args us vs Q E hr he hb hv hs => codeAny_mono (F.run A outer s H args us vs Q (fun _ _ _ => False) hr he hb hv hs) fun r s' h => ?_⟩
  cases r with
  | ok fl => cases fl <;> exact h
  | error e =>
    obtain ⟨_, _, _, _, _, _, _, _, _, _, _, _, z⟩ := h
    exact z.elim
end K05
open PySem PySem.W PySem.Calls PyProof.Rows
theorem PySem.Challenge.cw_whichdepot_k05_glued_networks_holds : PySem.Challenge.rw_whichdepot_k05_glued_networks.Holds := by
  w_on; o_law
  refine HandSHeadRun.head_any (r := K05.R) (q := K05.qv) (H := Hk.hook 6 K05.ask) (ob := Hk.ob 6 K05.ask) (M := 30000) (loose := K05.names) (d := HandSHeadRun.topDef K05.R.prog 80) (kwd := []) Hk.ob_eq
    (by kernel_rfl) (fun s => by kernel_rfl) K05.run (by kernel_rfl) (by kernel_rfl) (by kernel_rfl) (by rfl) (by first | assumption | decide +kernel) (by decide +kernel) ⟨rfl, rfl, rfl, rfl, rfl, by decide +kernel⟩ ?hw ?hc
  case hw => w_witness2
  case hc =>
    refine L2.walk_ofE (l := PySem.Challenge.rw_whichdepot_k05_glued_networks) (n := 63) (k := 10) (x := "script") (CX := L2.CX0) rfl (by decide) (by kernel_rfl) ⟨rfl, by decide, by decide⟩ ?F (fun _ _ _ _ z => z)
    intro w mg fa h Y G hmg0
    obtain ⟨K, KX, c⟩ := Y
    have hmg : mg ("law" : PySem.Str) = some (.ref fa) := by
      have e : (HandSHeadRun.topDef K05.R.prog 80).name = ("law" : PySem.Str) := by kernel_rfl
      rw [← e]
      exact hmg0
    obtain ⟨fd, hb, hF⟩ := K05.facts (P := (PySem.Challenge.rw_whichdepot_k05_glued_networks).prog) (w := w) (by rfl) (by rfl) KX G hmg c
    exact ⟨K, fd, K05.spLaw K, KX, hb, fun H a ns hl _ hS => ⟨a, ns, rfl, hS, hl, fun _ => rfl⟩, fun base h1 h2 => K05.out0 (hF base h1 h2)⟩
