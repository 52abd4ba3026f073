import PyProof.Rows.All
import Wide.All
import OpenK.AllK
import Wide.FinOn
import KE.KExcSuper
import HandS.ForExc
import HandS.ExcInit
import HandS.HotCalls
import HandS.ExcInitHot
import HandS.ExcIs
import HandS.SetFor
import HandS.Defaults
import HandS.IsInst
import HandS.ForMost
import HandS.OwnEq
import OpenK.KMeth
import OpenK.KOps
import KE.KCallOwn
import HandS.Head0
import HandS.Head1
import HandS.Head2
import HandS.HeadEnd
import HandS.HeadHook1
import HandS.HeadHook2
import HandS.HeadNt
import HandS.DictComp
import HandS.SetBool
import HandS.Strs
import HandS.TupSets
import HandS.Deep
import HandS.Evl
import HandS.Conv
import HandS.More
import HandS.Sort
import PySem.Challenge.RW_whichdepot_k03_turned_about
import HandS.SortRule
import HandS.SortInts
import HandS.Property
import HandS.FStr
import HandS.Text
set_option Elab.async false
set_option linter.all false
set_option maxRecDepth 100000
set_option maxHeartbeats 4000000
namespace SupX
open PySem PySem.Spec PySem.W PySem.Calls PyProof.Rows L2

/-- names of an __init__ that says super(): no cells, free is the class's cell alone -/
structure ScS (N P : List Str) (sc : Scope) : Prop where
  kind : sc.kind = .function
  co : sc.isCoroutine = false
  gen : sc.isGenerator = false
  nd : N.Nodup
  pre : N.take P.length = P
  par : ∀ x ∈ P, sc.names.lookup x = some .local
  free : ∀ y ∈ sc.names, y.2 = .free → y.1 = "__class__"
  nocell : ∀ y ∈ sc.names, y.2 ≠ .cell
  sup : sc.names.lookup ("super" : Str) = some .globalImplicit
  cls : sc.names.lookup ("__class__" : Str) = some .free
/-- the context of such a body -/
def cxS (CX : CXT) (P : Program) (w : World) (K : PySem.W.Frag) (mg : Str → Option Value) (base : Heap) (N : List Str) (qual : Str) (scope : Scope) (f : Addr) (cd : Value) (cc : Addr) (A : Around) (outer : List Env) (s : Shared) (H : Hp) (E : XK) : Cx where
  prog := P
  w := w
  K := K
  mg := mg
  base := base
  A := A.deeper (envX qual scope s.heap.objs.size f cd [("__class__", cc)])
  N := N
  s_0 := s
  H_0 := H
  env := envX qual scope s.heap.objs.size f cd [("__class__", cc)]
  outer := outer
  stack := envX qual scope s.heap.objs.size f cd [("__class__", cc)] :: outer
  ex := []
  calm := true
  fn := fun _ => false
  pn := []
  xe := fun e s' => wpAny (model P w) (A.deeper (envX qual scope s.heap.objs.size f cd [("__class__", cc)])) (leaving (envX qual scope s.heap.objs.size f cd [("__class__", cc)]) e) (fun _ s'' => CX outer H s E e s'') (fun e' s'' => CX outer H s E e' s'') s'
theorem look1 {x : Str} {cc c : Addr} (h : List.lookup x [(("__class__" : Str), cc)] = some c) : x = "__class__" ∧ c = cc := by
  simp only [List.lookup] at h
  split at h
  · rename_i q
    exact ⟨beq_iff_eq.mp q, (Option.some.inj h).symm⟩
  · cases h
theorem rev_get {x : Str} {v : Value} : ∀ {P : List Str} {vs : List Value} {i : Nat}, P.Nodup → P[i]? = some x → vs[i]? = some v → (P.zip vs).reverse.lookup x = some v := by
  intro P vs i nd h1 h2
  have key : ∀ {l : List (Str × Value)}, (l.map (·.1)).Nodup → (x, v) ∈ l → l.lookup x = some v := by
    intro l
    induction l with
    | nil => intro _ h; cases h
    | cons p l ih =>
      intro nd h
      obtain ⟨y, u⟩ := p
      obtain ⟨n1, n2⟩ := List.nodup_cons.mp (show (y :: l.map (·.1)).Nodup from nd)
      rcases List.mem_cons.mp h with e | h
      · cases e
        simp [List.lookup]
      · have ne : x ≠ y := fun e => n1 (by rw [← e]; exact List.mem_map.mpr ⟨_, h, rfl⟩)
        have q : (x == y) = false := by simpa using ne
        simp only [List.lookup, q]
        exact ih n2 h
  refine key ?_ ?_
  · rw [List.map_reverse]
    refine List.pairwise_reverse.mpr (List.Pairwise.imp (fun hab => Ne.symm hab) ?_)
    have this : ∀ {P : List Str} {vs : List Value}, P.Nodup → ((P.zip vs).map (·.1)).Nodup := by
      intro P
      induction P with
      | nil => intro vs _; simp
      | cons p P ih =>
        intro vs nd
        cases vs with
        | nil => simp
        | cons u vs =>
          obtain ⟨n1, n2⟩ := List.nodup_cons.mp nd
          show (p :: (P.zip vs).map (·.1)).Nodup
          refine List.nodup_cons.mpr ⟨fun m => ?_, ih n2⟩
          obtain ⟨q, hq, e⟩ := List.mem_map.mp m
          have z := (List.of_mem_zip (a := q.1) (b := q.2) hq).1
          rw [e] at z
          exact n1 z
    exact this nd
  · rw [List.mem_reverse]
    refine List.mem_of_getElem? (i := i) ?_
    rw [List.getElem?_zip_eq_some]
    exact ⟨h1, h2⟩
theorem inv_startS {CX : CXT} {P : Program} {w : World} {K : PySem.W.Frag} {mg : Str → Option Value} {base : Heap} {N ps : List Str} {qual : Str} {scope : Scope} {f cc : Addr} {cd : Value} {A : Around} {outer : List Env} {s : Shared} {H : Hp} {E : XK} {us : List Value} {vs : List V} {h0 : Heap} {tk : Nat} {oc : Obj} {D : Addr}
    (S : ScS N ps scope) (hd : A.handled = none) (e0 : Env0 P w K mg base A outer s H) (hl : vs.length = ps.length) (r : Vals vs us) (hcc : K.lookup cc = some oc) (hoc : oc.data = .cell (some (.ref D)))
    (ns : h0.Ns s.heap.objs.size (fun x => (ps.zip us).reverse.lookup x)) (hk : ∀ b o, s.heap.get? b = some o → h0.get? b = some o) :
    Inv (cxS CX P w K mg base N qual scope f cd cc A outer s H E) [] (L2.start N vs) H { s with heap := h0, toks := tk } := by
  have hpl : ps.length ≤ N.length := by have := congrArg List.length S.pre; rw [List.length_take] at this; omega
  have noA : ∀ b : Addr, b ∉ (cxS CX P w K mg base N qual scope f cd cc A outer s H E).ex := fun b z => absurd (show b ∈ ([] : List Addr) from z) (by simp)
  have bcc : base.get? cc = some oc := e0.mod.kin _ _ hcc
  refine ⟨⟨e0.mod, S.kind, rfl, rfl, Nat.le_refl _, fun y z c h1 h2 => ?_, fun y hy => ?_, fun y c h _ => (Bool.false_ne_true h).elim, fun _ => hd, Around.frames_deeper e0.frames, .inr ⟨rfl, rfl⟩, fun b z => absurd z (noA b), e0.bs, e0.bsz, fun b _ _ => noA b, fun b z => absurd z (noA b), e0.funs, e0.frf⟩,
    rfl, e0.bare, Un.kept hk, ⟨_, ns, fun i y v h1 h2 h3 => ?_⟩, fun y c h => ?_, e0.hok.fresh (Nat.le_refl _), fun y c h => ?_, fun p hp => absurd (show p ∈ ([] : List (Addr × Obj)) from hp) (by simp), e0.hok.kept hk, ?_⟩
  · rw [(look1 h1).1, (look1 h2).1]
  · have hy : scope.names.lookup y = some .cell ∨ scope.names.lookup y = some .free := hy
    rcases hy with hy | hy
    · exact absurd rfl (S.nocell _ (PySem.mem_of_lookup hy))
    · have e := S.free _ (PySem.mem_of_lookup hy) rfl
      have e : y = "__class__" := e
      subst e
      exact ⟨cc, List.lookup_cons_self ..⟩
  · have hi : i < vs.length := by
      unfold L2.start at h2
      by_cases hi : i < vs.length
      · exact hi
      · rw [List.getElem?_append_right (by simpa using hi)] at h2
        rw [List.getElem?_replicate] at h2
        split at h2 <;> cases h2
    have ha : vs[i]? = some v := by
      unfold L2.start at h2
      rw [List.getElem?_append_left (by simpa using hi), List.getElem?_map] at h2
      cases e : vs[i]? with
      | none => rw [e] at h2; cases h2
      | some a => rw [e] at h2; cases h2; rfl
    obtain ⟨u, hu, rv⟩ := r.get ha
    have hp : ps[i]? = some y := by
      rw [← S.pre, List.getElem?_take_of_lt (by omega)]; exact h1
    have ndP : ps.Nodup := by rw [← S.pre]; exact S.nd.sublist (List.take_sublist _ _)
    exact ⟨u, rv, .inl ⟨S.par y (List.mem_of_getElem? hp), rev_get ndP hp hu⟩⟩
  · obtain ⟨_, e⟩ := look1 h
    subst e
    exact ⟨some (.ref D), oc, hk _ _ (e0.bs _ _ bcc).1, hoc⟩
  · obtain ⟨_, e⟩ := look1 h
    subst e
    exact (e0.bs _ _ bcc).2
  · unfold L2.start
    show _ = N.length
    rw [List.length_append, List.length_map, List.length_replicate]
    omega
end SupX
set_option Elab.async false
set_option linter.all false
set_option maxRecDepth 100000
set_option maxHeartbeats 4000000
namespace SupX
open PySem PySem.Spec PySem.W PySem.Calls PyProof.Rows L2
/-- what the written part says of an own exception class C whose __init__ says super().__init__(text) -/
structure SupC (P : Program) (K : PySem.W.Frag) (mg : Str → Option Value) (C : Addr) : Prop where
  oex : OexC K C
  init : ks_superIn K C C "__init__" = some (some (.builtin "ValueError.__init__"))
  sub : subIn K (.ref C) (.type "ValueError") = some true
  self : mroIn K C (.ref C) = some true
  opq : nsIn K cStatics "thirdparty.any" = some none
  mgs : mg "super" = none
  nosup : (P.main.scope.names.lookup ("super" : Str)).isSome = false
abbrev supCall (z : Str) (j : Nat) (p0 p1 p2 p3 p4 : Pos) : Expr := .Call (.Attribute (.Call (.Name "super" p0) [] [] p1) "__init__" p2) [.Constant (.str z) j p3] [] p4
abbrev supStmt (z : Str) (j : Nat) (p0 p1 p2 p3 p4 p5 : Pos) : Stmt := .Expr (supCall z j p0 p1 p2 p3 p4) p5
theorem cls_data {h : Heap} {K : PySem.W.Frag} {C : Addr} {cd : ClassData} (X : K.In h) (e : clsIn K C = some cd) : ∃ oD, h.get? C = some oD ∧ oD.data = .cls cd := by
  unfold clsIn at e
  split at e
  · rename_i c d cd' sl ho
    cases e
    exact ⟨_, X _ _ ho, rfl⟩
  · cases e
section
variable {CX : CXT} {P : Program} {w : World} {K : PySem.W.Frag} {mg : Str → Option Value} {base : Heap} {k : Nat} {f cc cda C : Addr} {name qual z : Str} {params : Arguments} {rest : List Stmt} {scope : Scope} {dV kV doc pm ct oc cl ccl : Value} {an od cld cdd : Option Addr}
  {osl csl ccs : Array (Option Value)} {N ps : List Str} {sp : Sp} {j : Nat} {p0 p1 p2 p3 p4 p5 : Pos} {ar : Arg} {cvs : Array Value} {tf : Tok}
theorem fn_sup (lk : K.lookup f = some ⟨oc, od, .func (fnX name qual params (supStmt z j p0 p1 p2 p3 p4 p5 :: rest) scope [("__class__", cc)] dV kV doc pm an (.ref cda) ct), osl⟩) (hcd : codeIn K (.ref cda) qual = true)
    (hcode : K.lookup cda = some ⟨ccl, cdd, .fields cvs, ccs⟩) (hvs : cvs[2]? = some (.str P.main.file tf)) (hcell : K.lookup cc = some ⟨cl, cld, .cell (some (.ref C)), csl⟩) (T : SupC P K mg C)
    (hev : ∀ L : Addr, ∃ pl : Sem Bool, eval (supCall z j p0 p1 p2 p3 p4) (envX qual scope L f (.ref cda) [("__class__", cc)]) = (do
      let ov ← attributeBase (.Call (.Name "super" p0) [] [] p1) "__init__" (envX qual scope L f (.ref cda) [("__class__", cc)]) (eval (.Call (.Name "super" p0) [] [] p1) (envX qual scope L f (.ref cda) [("__class__", cc)]))
      standAt p2.atName
      let (g, first) ← holding [ov] (getMethod ov "__init__" pl)
      callWith p4 g first (backTo p4 (starEach [Expr.Constant (.str z) j p3] (envX qual scope L f (.ref cda) [("__class__", cc)]))) []))
    (hsw : ∀ L : Addr, swapsWith (supCall z j p0 p1 p2 p3 p4) none p5.line (envX qual scope L f (.ref cda) [("__class__", cc)]) = pure false)
    (S : ScS N ps scope) (hp : (params.posonlyargs ++ params.args).head? = some ar) (har : ps[0]? = some ar.arg)
    (len : ∀ vs H Q E, sp vs H Q E → vs.length = ps.length ∧ ∃ a ws, vs = .ref a :: ws ∧ H a = some (exo a C none))
    (hbody : ∀ (A : Around) (outer : List Env) (s : Shared) (H : Hp) (vs : List V) (Q : VK) (E : XK), Room k (A.deeper (envX qual scope s.heap.objs.size f (.ref cda) [("__class__", cc)])) → sp vs H Q E →
      ∃ t, PSs (cxS CX P w K mg base N qual scope f (.ref cda) cc A outer s H E) rest t ∧ t { nx := fun _ H' => Q .non H', rt := Q } (L2.start N vs) H) :
    FnOk P w K mg base CX (k + 1) f (fnX name qual params (supStmt z j p0 p1 p2 p3 p4 p5 :: rest) scope [("__class__", cc)] dV kV doc pm an (.ref cda) ct) ps sp := by
  refine ⟨fun vs H Q E h => (len vs H Q E h).1, fun A outer s H args us vs Q E hr e0 hb r hsp => ?_⟩
  obtain ⟨hl, a, ws, hvs0, ha⟩ := len _ _ _ _ hsp
  have KX : K.In s.heap := e0.mod.kin.keeps fun b o e => (e0.bs b o e).1
  have lim : s.heap.NoLimit := e0.mod.nolimit.keeps fun b o e => (e0.bs b o e).1
  have hloc : ∀ y ∈ ps.zip us, scope.names.lookup y.1 = some .local := fun ⟨n, v⟩ hy => S.par n (List.of_mem_zip hy).1
  refine ks_codeAny_call_defAt hr.depth (KX _ _ lk) rfl lim (codeRec_of KX hcd) rfl hb S.nocell hloc (fun h0 hns hk => ?_) S.co S.gen S.kind
  obtain ⟨t, ht, hq⟩ := hbody A outer s H vs Q E (hr.deeper _) hsp
  have I : Inv (cxS CX P w K mg base N qual scope f (.ref cda) cc A outer s H E) [] (L2.start N vs) H { s with heap := h0, toks := s.toks + (ps.zip us).length } :=
    inv_startS S hr.hd e0 hl r hcell rfl hns hk
  -- the rest
  have fin : ∀ s1, Inv (cxS CX P w K mg base N qual scope f (.ref cda) cc A outer s H E) [] (L2.start N vs) H s1 →
      wpAny (model P w) (A.deeper (envX qual scope s.heap.objs.size f (.ref cda) [("__class__", cc)])) (execs rest (envX qual scope s.heap.objs.size f (.ref cda) [("__class__", cc)]))
        (fun fl s' => CR CX outer P w H s Q E (.ok (.ret (match fl with | .ret v => v | _ => .none))) s')
        (fun e s' => wpAny (model P w) (A.deeper (envX qual scope s.heap.objs.size f (.ref cda) [("__class__", cc)])) (leaving (envX qual scope s.heap.objs.size f (.ref cda) [("__class__", cc)]) e) (fun _ s'' => CX outer H s E e s'') (fun e' s'' => CX outer H s E e' s'') s') s1 := fun s1 I1 => by
    refine wpAny_mono (ht.run [] s1 (L2.start N vs) H _ I1 hq) (fun fl s' hs => ?_) fun e s' hs => hs
    have fin : ∀ {σ' : L2.St} {H' : Hp} {v : V} {u : Value}, Inv (cxS CX P w K mg base N qual scope f (.ref cda) cc A outer s H E) [] σ' H' s' → RelV v u → Q v H' → CE outer P w H s Q u s' :=
      fun {σ' H' v u} J rv q => ⟨v, H', J.os, J.bare, J.base, J.hok, rv, q⟩
    cases fl with
    | ret u =>
      obtain ⟨v, σ', H', J, rv, q⟩ := hs
      exact fin J rv q
    | next =>
      obtain ⟨σ', H', J, q⟩ := hs
      exact fin (v := V.non) (u := Value.none) J rfl q
    | brk =>
      obtain ⟨_, _, _, q⟩ := hs
      exact False.elim q
    | cont =>
      obtain ⟨_, _, _, q⟩ := hs
      exact False.elim q
  -- super().__init__(text)
  have us0 : ∃ ut, us = .ref a :: ut := by
    rw [hvs0] at r
    cases r with
    | cons r0 _ =>
      cases r0
      exact ⟨_, rfl⟩
  obtain ⟨ut, eus⟩ := us0
  have ndP : ps.Nodup := by rw [← S.pre]; exact S.nd.sublist (List.take_sublist _ _)
  have hvar : (ps.zip us).reverse.lookup ar.arg = some (.ref a) := rev_get ndP har (by rw [eus]; rfl)
  have hkar : scope.names.lookup ar.arg = some .local := S.par _ (List.mem_of_getElem? har)
  have X0 : K.In h0 := KX.keeps hk
  obtain ⟨t1, ho⟩ := exo_at I.hok ha
  obtain ⟨nm, q, NN, bs, bm, sn, sub, ab, col, dd, k0, k1, k2, k3, k5, hC, hbm⟩ := T.oex.cls
  have hcl : clsIn K C = some { name := nm, bases := bs, mro := .ref C :: bm, ns := NN, qualname := q, hasDict := true, slotNames := sn, subclasses := sub, abstract := ab, collection := col, hasDel := false } := by unfold clsIn; rw [hC] <;> rfl
  obtain ⟨oD, hD1, hD2⟩ := cls_data X0 hcl
  have IA : InstAt h0 a { cls := .ref C, dict := none, data := .fields #[.ref t1, .none, .none, .none, .bool false, .none] } C none := ⟨ho, rfl, rfl, trivial⟩
  show _root_.PySem.wpAt _ (A.deeper (envX qual scope s.heap.objs.size f (.ref cda) [("__class__", cc)])) (.func _ (envX qual scope s.heap.objs.size f (.ref cda) [("__class__", cc)])) (execs _ (envX qual scope s.heap.objs.size f (.ref cda) [("__class__", cc)])) _ _ _
  obtain ⟨pl, hev1⟩ := hev s.heap.objs.size
  refine ks_wpAt_execs_cons (ks_wpAt_Expr_any (ks_wpAt_MethodCall (pl := pl) ?_ hev1) (by simp [interactive, S.kind]) (hsw _))
  have hks : (envX qual scope s.heap.objs.size f (.ref cda) [("__class__", cc)]).kindOf "super" = some .globalImplicit := S.sup
  have hkc : (envX qual scope s.heap.objs.size f (.ref cda) [("__class__", cc)]).kindOf "__class__" = some .free := S.cls
  refine ks_wpAt_super_base hks hkc rfl rfl (X0 _ _ lk) rfl hp rfl (X0 _ _ hcode) rfl hvs (beq_self_eq_true _) T.nosup ?_
  obtain ⟨mb, b1, b2⟩ := e0.mod.blt
  have kb : ∀ b o, base.get? b = some o → h0.get? b = some o := fun b o e => hk b o (e0.bs b o e).1
  refine ks_loadName_global S.kind hks (loadGlobal_builtin (e0.mod.glob.keeps kb) T.mgs (b1.keeps kb) ((b2 "super" (by decide +kernel)).trans (by decide +kernel : bootBuiltins "super" = some (Value.type "super"))) ⟨rfl, ?_⟩)
  refine wpAny_loadName_free S.kind hkc (c := cc) (v := .ref C) (List.lookup_cons_self ..) ⟨_, X0 _ _ hcell, rfl⟩ ?_
  refine wpAny_loadName_local S.kind hkar hns hvar ?_
  refine ks_wpAny_isType_cls hD1 hD2 ⟨rfl, ?_⟩
  refine ks_wpAny_call_super hD1 hD2 IA.at_ IA.cls (fun c e => by cases e) (looks_mroIn X0 T.self) (fun h1 e1 kk1 => ?_)
  -- the method
  have X1 : K.In h1 := X0.keeps kk1
  have I1 : Inv (cxS CX P w K mg base N qual scope f (.ref cda) cc A outer s H E) [] (L2.start N vs) H { s with heap := h1, toks := s.toks + (ps.zip us).length } := I.kept kk1
  have IA1 : InstAt h1 a { cls := .ref C, dict := none, data := .fields #[.ref t1, .none, .none, .none, .bool false, .none] } C none := ⟨kk1 _ _ ho, rfl, rfl, trivial⟩
  have hI : Looks (model P w) h1 (isInstance (.ref a) (.type "ValueError")) true := IA1.type.andThen (looks_subIn X1 T.sub)
  have hm := T.init
  unfold ks_superIn at hm
  rw [hcl] at hm
  have neC : a ≠ C := fun e => by
    have z := X0 _ _ hC
    rw [← e, ho] at z
    cases z
  refine kxs_getMethod kxs_ValueError (l₀ := .ref C :: bm) e1 (looks_opaque X1 T.opq) ?_ rfl X1 hm hI neC rfl ?_
  · exact fun A Q E s k q => wpAny_bind ((looks_clsIn X1 hcl) A _ E s k (wpAny_pure q))
  have hu : (h1.push (kxs_mw "ValueError.__init__" a)).get? h1.objs.size = some (kxs_mw "ValueError.__init__" a) := Heap.get?_push_at rfl rfl
  have I2 : Inv (cxS CX P w K mg base N qual scope f (.ref cda) cc A outer s H E) [] (L2.start N vs) H { s with heap := h1.push (kxs_mw "ValueError.__init__" a), toks := s.toks + (ps.zip us).length + 1 } :=
    I1.kept fun b o e => Heap.get?_push_of_some _ e
  have f0 := I1.fpOk (Nat.le_refl _) (I1.hok.fresh (Nat.le_refl _))
  have I2' : Inv (cxS CX P w K mg base N qual scope f (.ref cda) cc A outer s H E) [(h1.objs.size, kxs_mw "ValueError.__init__" a)] (L2.start N vs) H { s with heap := h1.push (kxs_mw "ValueError.__init__" a), toks := s.toks + (ps.zip us).length + 1 } :=
    I2.pins_of fun p hp => by
      obtain rfl := List.mem_singleton.mp hp
      exact ⟨hu, f0.1, f0.2.1, f0.2.2.1, fun v e => by cases e⟩
  have he : starEach [Expr.Constant (.str z) j p3] (envX qual scope s.heap.objs.size f (.ref cda) [("__class__", cc)]) = (false, eval (Expr.Constant (.str z) j p3) (envX qual scope s.heap.objs.size f (.ref cda) [("__class__", cc)])) :: starEach [] (envX qual scope s.heap.objs.size f (.ref cda) [("__class__", cc)]) := rfl
  have pa : PA (cxS CX P w K mg base N qual scope f (.ref cda) cc A outer s H E) [Expr.Constant (.str z) j p3] (tCons (tC (.str z)) tNil) := pa_cons pe_str pa_nil
  have go := pa.run p4 _ _ _ _ (fun vs1 H1 => vs1 = [.str z] ∧ H1 = H) I2' ⟨rfl, rfl⟩
  have go' : wpAny (model P w) (A.deeper (envX qual scope s.heap.objs.size f (.ref cda) [("__class__", cc)])) (spliced (backTo p4 (starEach [Expr.Constant (.str z) j p3] (envX qual scope s.heap.objs.size f (.ref cda) [("__class__", cc)])))) _ _ _ := go
  dsimp only
  rw [he] at go' ⊢
  refine kxs_callWith (i := "ValueError.__init__") (u := h1.objs.size) (x := a) rfl (evalArgs_plain (wpAny_mono go' (fun rs s2 hh => ?_) fun e s' x => x))
  obtain ⟨vs1, H1, I3, r1, ev, eH⟩ := hh
  subst ev eH
  have hlen : rs.length ≤ sizeLine := by
    rw [← Paired.length r1, sizeLine_eq]
    exact (by decide : 1 ≤ 16777216)
  obtain ⟨t2, ho2⟩ := exo_at I3.hok ha
  have IU : s2.heap.get? h1.objs.size = some (kxs_mw "ValueError.__init__" a) := (I3.pin (h1.objs.size, kxs_mw "ValueError.__init__" a) (List.mem_append_right _ List.mem_cons_self)).1
  refine ⟨IU, ?_⟩
  obtain ⟨hh, g2, d2, tk2, os2⟩ := s2
  have hCn : hh.get? C = _ := I3.kIn _ _ hC
  show wpAny _ _ (call (.ref h1.objs.size) rs) _ _ _
  refine wpAny_call (codeAny_of_tree ?_)
  show wpAny _ _ (callAny (.ref h1.objs.size) ⟨rs, []⟩) _ _ _
  simp only [callAny]
  refine wpAny_bind (wpAny_load IU ?_)
  simp only [kxs_mw, show (Value.type "method-wrapper" == Value.type "method" || Value.type "method-wrapper" == Value.type "builtin_function_or_method" || Value.type "method-wrapper" == Value.type "method-wrapper") = true by decide, if_true]
  refine KFB.if_so (by decide) ?_
  refine wpAny_bind (check_bound_init F.excBase_ValueError.toExcCallFacts hCn ho2 rfl ?_)
  refine wpAny_bind (wpAny_pure (wpAny_pure ?_))
  refine ⟨plainId_quiet F.excBase_ValueError.init.plain _, codeAny_builtin F.excBase_ValueError.initEntry ?_⟩
  refine exc_init_tree (cls := .ref C) (t0 := t2) (dv := none) (c2 := .none) (c3 := .none) (b4 := .bool false) ho2 hlen fun h3 k3 e3 _ => ?_
  have J := I3.write (t' := tk2) (x := a) (e := a) (o := exo a C none) (h' := h3) (by rw [ha]; exact True.intro) (.inl rfl) k3 ⟨_, e3⟩ (exo_ok e3)
  have eu : upd H1 a (exo a C none) = H1 := by
    funext b
    by_cases hb : b = a
    · rw [hb, upd_same, ha]
    · rw [upd_ne hb]
  rw [eu] at J
  exact wpAt_of_wpAny (fin _ (J.unpinned (pins := [])))
end
end SupX
set_option Elab.async false
set_option linter.all false
set_option maxRecDepth 100000
set_option maxHeartbeats 4000000
namespace ErrX
open PySem PySem.Spec PyProof.Rows L2
/-- nothing is let out, seen from a def that may raise -/
theorem passN {X : Cx} : Passes (L2N.CX X.prog X.w) X E0 := fun _ _ _ _ _ _ _ h => by
  obtain ⟨_, _, _, _, _, _, _, _, _, _, _, _, z⟩ := h
  exact z.elim
theorem takesN {X : Cx} : L2N.Takes X (fun _ _ _ _ => False) := fun _ _ x => by
  obtain ⟨_, _, _, _, _, _, _, _, _, _, _, _, _, _, _, _, z⟩ := x
  exact z.elim
/-- C(e, ..), C's own __init__ keeping sp: the context of the made exception is None -/
theorem pmk_oexN {X : Cx} {CX : CXT} {x : Str} {e : Expr} {es : List Expr} {ta : TA} {p pos : Pos} {C fI : Addr} {k : Nat} {fd : FuncData} {ps : List Str} {sp : Sp} (T : OexC X.K C) (iC : PySem.W.findIn X.K (.ref C) "__init__" = some (some (.ref fI))) (tI : PySem.W.typeIn X.K (.ref fI) = some (.type "function"))
    (F1 : FnOk X.prog X.w X.K X.mg X.base CX k fI fd ps sp) (hr : Room (k + 1) X.A) (hb : Binds X.K fd ps []) (hx : Passes CX X (fun _ _ _ => False)) (hg : Gl X x) (hm : X.mg x = some (.ref C)) (ha : PA X (e :: es) ta)
    (hdb : (x == ("__debug__" : Str)) = false := by decide) (he : starEach (e :: es) X.env = (false, eval e X.env) :: starEach es X.env := by rfl) (hpl : (backTo pos (starEach es X.env)).any (·.1) = false := by rfl) :
    L2N.PMk X (.Call (.Name x p) (e :: es) [] pos) (tMkO C sp [] ta) := by
  intro pins s σ H Q I h
  obtain ⟨nm, q, N, bs, bm, sn, sub, ab, col, dd, k0, k1, k2, k3, k5, hC, hbm⟩ := T.cls
  refine wpAny_Call_Name_kw (ld_glob I hg hm ?_ hdb)
  refine PySem.W.callWith_K (h₀ := X.base) I.ok.mod.kin T.kC (thn (ha.run pos pins s σ H _ I h) fun us s1 ⟨vs, H1, I1, r1, hz, q1⟩ => ⟨I1.kIn, ?_⟩) he hpl
  show wpAny _ _ (call (.ref C) us) _ _ _
  obtain ⟨hp, g, dr, tk, os⟩ := s1
  have hsz : hp.objs.size ≤ hp.objs.size + 1 := Nat.le_succ _
  have hn : H1 (hp.objs.size + 1) = none := I1.hok.fresh hsz
  have hq := q1 (hp.objs.size + 1) hn
  rw [List.append_nil] at hq
  have kk : ∀ b o, hp.get? b = some o → ((hp.push (PySem.W.kdv_tup us)).push (PySem.HandSPX.excO C hp.objs.size)).get? b = some o := fun b o e => Heap.get?_push_of_some _ (Heap.get?_push_of_some _ e)
  have hget : ((hp.push (PySem.W.kdv_tup us)).push (PySem.HandSPX.excO C hp.objs.size)).get? (hp.objs.size + 1) = some (PySem.HandSPX.excO C hp.objs.size) := by heap_get
  have I2 : Inv X pins σ (upd H1 (hp.objs.size + 1) (exo (hp.objs.size + 1) C none)) ⟨(hp.push (PySem.W.kdv_tup us)).push (PySem.HandSPX.excO C hp.objs.size), g, dr, tk, os⟩ :=
    I1.laid (t' := tk) (a := hp.objs.size + 1) (o := exo (hp.objs.size + 1) C none) (h' := (hp.push (PySem.W.kdv_tup us)).push (PySem.HandSPX.excO C hp.objs.size)) kk hsz (exo_ok hget)
  have r2 : Vals (V.ref (hp.objs.size + 1) :: vs) (Value.ref (hp.objs.size + 1) :: us) := .cons rfl r1
  have hl : (Value.ref (hp.objs.size + 1) :: us ++ []).length = ps.length := by
    have e := r2.length
    rw [F1.len _ _ _ _ hq] at e
    rw [List.append_nil]
    exact e.symm
  have hus : us.length ≤ sizeLine := by
    rw [← Paired.length r1, sizeLine_eq]
    omega
  have b2 := hb _ (Value.ref (hp.objs.size + 1) :: us) I2.kIn hl
  rw [List.append_nil] at b2
  refine wpAny_call (PySem.HandSPX.call_own F.excBase_ValueError (fun Y => PySem.HandSPX.refsVE_contains Y bm hbm) (I1.kIn _ _ hC) (PySem.W.looks_findIn I1.kIn iC) (fun self => PySem.W.bind_fn I1.kIn self tI) hus
    (codeAny_mono (F1.run _ X.stack _ _ ⟨Value.ref (hp.objs.size + 1) :: us, []⟩ (Value.ref (hp.objs.size + 1) :: us) _ _ (fun _ _ _ => False) (hr.make C us []) (I2.env0.make C us []) b2 r2 hq) fun r s' hq' => ?_))
  cases r with
  | error er => exact hx pins σ _ _ er s' I2 hq'
  | ok fl =>
    cases fl with
    | ret u =>
      obtain ⟨v, H2, os2, bare2, un2, hok2, rv, ev, d, fs, ea, ed, hd1, q2⟩ := hq'
      subst ev
      obtain ⟨h2, g2, d2, t2, os'⟩ := s'
      obtain ⟨t0, G, J, kG, ge, hoe, na⟩ := mk_end0 (d2 := d2) (t2 := t2) I1 hsz kk un2 hok2 os2 bare2 ea ed hd1
      exact ⟨rv, ⟨hp.objs.size + 1, _, _, ⟨G, g2, d2, t2, os'⟩, _, .ref C, some d, rfl, J, kG, ge, hoe, ⟨rfl, rfl, fun vs hv => by cases hv; rfl⟩, rfl, rfl, na, rfl, bare2, raises_own T.exC T.tyC, q2⟩⟩
    | next => exact False.elim hq'
    | brk => exact False.elim hq'
    | cont => exact False.elim hq'
/-! ### o.m(e, ..), what is raised is wished for at the caller's slots -/
def tMethE (C : Addr) (m : Str) (sp : Sp) (E : L2.St → XK) (ta : TE) (t : TA) : TE := fun σ H Q => ta σ H fun x H1 => ∃ a dx fs, x = .ref a ∧ H1 a = some (.ins C dx fs) ∧ fs.lookup m = none ∧ t σ H1 fun vs H2 => sp (x :: vs) H2 Q (E σ)
section
variable {X : Cx} {CX : CXT} {k : Nat} {f C : Addr} {fd : FuncData} {ps : List Str} {sp : Sp} {E : L2.St → XK} {m : Str} {pos apos : Pos} {e o : Expr} {es : List Expr} {ta : TE} {t : TA}
theorem pe_methE {pl : Sem Bool} (he : PE X o ta) (c : Cls X.K C) (hm : Meth X.K C m f) (F : FnOk X.prog X.w X.K X.mg X.base CX k f fd ps sp) (hr : Room k X.A) (hb : Binds X.K fd ps []) (hx : ∀ σ, PassesAt CX X σ (E σ)) (ha : PA X (e :: es) t)
    (hst : starEach (e :: es) X.env = (false, eval e X.env) :: starEach es X.env := by rfl) (hpl : (backTo pos (starEach es X.env)).any (·.1) = false := by rfl)
    (ht : eval (.Call (.Attribute o m apos) (e :: es) [] pos) X.env = (do
      let ov ← eval o X.env
      standAt apos.atName
      let (f, first) ← holding [ov] (getMethod ov m pl)
      callWith pos f first (backTo pos (starEach (e :: es) X.env)) (backToKw pos (keywordEach [] X.env))) := by rfl) :
    PE X (.Call (.Attribute o m apos) (e :: es) [] pos) (tMethE C m sp E ta t) := by
  refine ⟨fun pins s σ H Q I h => ?_⟩
  refine PySem.W.methodCall_KW (pl := pl) (thn (he.run pins s σ H _ I h) fun u s1 ⟨x, H1, I1, rx, a, dx, fs, ex, ea, l, q⟩ => ?_) ht
  subst ex
  obtain rfl : u = Value.ref a := rx
  refine getmeth_ok I1 ea c hm l ?_
  refine PySem.W.callWith_K (first := [.ref a]) (h₀ := X.base) I.ok.mod.kin hm.kp (thn (ha.run pos pins s1 σ H1 _ I1 q) fun us s2 ⟨vs, H2, I2, r, q2⟩ => ⟨I2.kIn, ?_⟩) hst hpl
  exact run_fnS (us := .ref a :: us) (vs := .ref a :: vs) F hr hb (hx σ) I2 (.cons rfl r) q2
end
/-! ### defs called within an except suite, told which exception is handled -/
/-- the handled exception: its object p.2 at p.1, class, own dict -/
def HotZ (A : Around) (p : Addr × Obj) (cls : Value) (d : Option Addr) : Prop := A.handled = some (.ref p.1) ∧ L2N.Zn cls d p.2 ∧ ∃ vs : Array Value, p.2.data = .fields vs
theorem HotZ.hot {A : Around} {p : Addr × Obj} {cls : Value} {d : Option Addr} (h : HotZ A p cls d) : L2H.Hot1 A p := by
  obtain ⟨h1, ⟨_, _, h2⟩, vs, h3⟩ := h
  exact ⟨h1, vs, h3, h2 vs h3⟩
/-- a promise that may speak of the handled exception -/
abbrev SpE := Addr → Value → Option Addr → Sp
structure FnE (P : Program) (w : World) (K : PySem.W.Frag) (mg : Str → Option Value) (base : Heap) (CX : CXT) (k : Nat) (f : Addr) (fd : FuncData) (ps : List Str) (sp : SpE) : Prop where
  len : ∀ a c d vs H Q E, sp a c d vs H Q E → vs.length = ps.length
  run : ∀ (A : Around) (outer : List Env) (s : Shared) (H : Hp) (args : Args) (us : List Value) (vs : List V) (Q : VK) (E : XK) (p : Addr × Obj) (c : Value) (d : Option Addr), L2H.RoomH k A → HotZ A p c d → L2H.PinOk outer H s p → Env0 P w K mg base A outer s H → BindsTo s fd args (ps.zip us) → Vals vs us → sp p.1 c d vs H Q E →
    codeAny (model P w) A (.call (.ref f) args) (CR CX outer P w H s Q E) s
theorem fn_ofE {CX : CXT} {P : Program} {w : World} {K : PySem.W.Frag} {mg : Str → Option Value} {base : Heap} {k : Nat} {f : Addr} {name qual : Str} {params : Arguments} {body : List Stmt} {scope : Scope} {dvs : List V} {kws : List (Str × V)} {fd : FuncData} {N ps : List Str} {sp : SpE}
    (F : FunD K name qual params body scope dvs kws f fd) (S : FnScope N ps scope)
    (len : ∀ a c d vs H Q E, sp a c d vs H Q E → vs.length = ps.length)
    (hbody : ∀ (cdv : Value) (A : Around) (outer : List Env) (s : Shared) (H : Hp) (vs : List V) (Q : VK) (E : XK) (p : Addr × Obj) (c : Value) (d : Option Addr), HotZ A p c d → L2H.RoomH k (A.deeper (envOfC qual scope s.heap.objs.size f cdv)) → sp p.1 c d vs H Q E →
      ∃ t, PSs (L2H.cxH CX P w K mg base N qual scope f cdv A outer s H E p) body t ∧ t { nx := fun _ H' => Q .non H', rt := Q } (L2.start N vs) H) :
    FnE P w K mg base CX (k + 1) f fd ps sp := by
  obtain ⟨oc, od, dV, kV, doc, pm, an, cdv, ct, osl, rfl, lk, hcd, _, _⟩ := F.ex
  refine ⟨len, fun A outer s H args us vs Q E p c d hr hz hpin e0 hb r hsp => ?_⟩
  have hot := hz.hot
  have hl := len _ _ _ _ _ _ _ hsp
  have KX : K.In s.heap := e0.mod.kin.keeps fun b o e => (e0.bs b o e).1
  have lim : s.heap.NoLimit := e0.mod.nolimit.keeps fun b o e => (e0.bs b o e).1
  have hkind : ∀ y ∈ ps.zip us, scope.names.lookup y.1 = some .local ∨ (scope.names.lookup y.1 = some .cell ∧ ((cellsFrom (s.heap.objs.size + 1) scope.names []).lookup y.1).isSome = true) := fun ⟨n, v⟩ hy => by
    rcases S.par n (List.of_mem_zip hy).1 with q | q
    · exact .inl q
    · exact .inr ⟨q, PySem.W.cellsFrom_some _ _ _ (.inl q)⟩
  refine codeAny_call_function hr.depth (KX _ _ lk) rfl S.co S.gen rfl (PySem.W.codeRec_of KX hcd) (hb _ _ _ _ ?_)
  refine wpAny_newFunctionEnv_cells S.kind hkind fun env he s1 x => ?_
  subst he
  refine ⟨lim.keeps x.toInCall.keep, codeAny_func ?_⟩
  obtain ⟨t, ht, hq⟩ := hbody cdv A outer s H vs Q E p c d hz (hr.deeper _) hsp
  have I : Inv (L2H.cxH CX P w K mg base N qual scope f cdv A outer s H E p) [] (L2.start N vs) H s1 := L2H.inv_startH S hpin e0 hl r x
  refine wpAny_mono (ht.run [] s1 (L2.start N vs) H _ I hq) (fun fl s' hs => ?_) fun e s' hs => hs
  have fin : ∀ {σ' : L2.St} {H' : Hp} {v : V} {u : Value}, Inv (L2H.cxH CX P w K mg base N qual scope f cdv A outer s H E p) [] σ' H' s' → RelV v u → Q v H' → CE outer P w H s Q u s' :=
    fun {σ' H' v u} J rv q => ⟨v, H', J.os, J.bare, J.base, J.hok, rv, q⟩
  cases fl with
  | ret u =>
    obtain ⟨v, σ', H', J, rv, q⟩ := hs
    exact fin J rv q
  | next =>
    obtain ⟨σ', H', J, q⟩ := hs
    exact fin (v := V.non) (u := Value.none) J rfl q
  | brk =>
    obtain ⟨_, _, _, q⟩ := hs
    exact False.elim q
  | cont =>
    obtain ⟨_, _, _, q⟩ := hs
    exact False.elim q
/-- the context bears the handled exception -/
def HotE (X : Cx) (a : Addr) (c : Value) (d : Option Addr) : Prop := ∃ p : Addr × Obj, p.1 = a ∧ HotZ X.A p c d ∧ p ∈ X.pn
theorem hotE_suite {X : Cx} {a : Addr} {oe : Obj} {cls : Value} {d : Option Addr} {pn : List (Addr × Obj)} (hz : L2N.Zn cls d oe) (hf : ∃ vs, oe.data = .fields vs) : HotE (X.suite a ((a, oe) :: pn)) a cls d := ⟨(a, oe), rfl, ⟨rfl, hz, hf⟩, List.mem_cons_self⟩
def tCallE (sp : SpE) (a : Addr) (c : Value) (d : Option Addr) (E : L2.St → XK) (t : TA) : TE := fun σ H Q => t σ H fun vs H1 => sp a c d vs H1 Q (E σ)
section
variable {X : Cx} {CX : CXT} {k : Nat} {f C a : Addr} {c : Value} {d : Option Addr} {fd : FuncData} {ps : List Str} {sp : SpE} {E : L2.St → XK} {x m : Str} {q pos apos : Pos} {e o : Expr} {es : List Expr} {ta : TE} {t : TA}
theorem run_fnE {pins : List (Addr × Obj)} {σ : L2.St} {H : Hp} {s : Shared} {Q : VK} {us : List Value} {vs : List V} (F : FnE X.prog X.w X.K X.mg X.base CX k f fd ps sp) (hr : L2H.RoomH k X.A) (hc : HotE X a c d) (hb : Binds X.K fd ps []) (hx : PassesAt CX X σ (E σ))
    (I : Inv X pins σ H s) (r : Vals vs us) (h : sp a c d vs H Q (E σ)) : wpAny (model X.prog X.w) X.A (call (.ref f) us) (EP X pins σ Q) X.xe s := by
  obtain ⟨p, rfl, hot, hp⟩ := hc
  have hl : us.length = ps.length := by rw [← r.length]; exact F.len _ _ _ _ _ _ _ h
  have b := hb s us I.kIn (by rw [List.append_nil]; exact hl)
  rw [List.append_nil] at b
  have P1 := I.pin p (List.mem_append_left _ hp)
  have hpin : L2H.PinOk X.stack H s p := ⟨P1.1, P1.2.1, fun hm => (List.mem_cons.mp (I.stkSub p.1 hm)).elim P1.2.2.1 P1.2.2.2.1, P1.2.2.2.2⟩
  refine wpAny_call (codeAny_mono (F.run X.A X.stack s H ⟨us, []⟩ us vs Q (E σ) p c d hr hot hpin I.env0 b r h) fun r s' hq => ?_)
  cases r with
  | error e => exact hx pins H s e s' I hq
  | ok fl =>
    cases fl with
    | ret u => exact I.after hq
    | next => exact False.elim hq
    | brk => exact False.elim hq
    | cont => exact False.elim hq
theorem pe_callE (F : FnE X.prog X.w X.K X.mg X.base CX k f fd ps sp) (hr : L2H.RoomH k X.A) (hc : HotE X a c d) (hg : Gl X x) (hm : X.mg x = some (.ref f)) (hk : PySem.W.keepIn X.K (.ref f) = true) (hb : Binds X.K fd ps []) (hx : ∀ σ, PassesAt CX X σ (E σ))
    (ha : PA X (e :: es) t) (hdb : (x == ("__debug__" : Str)) = false := by decide) (he : starEach (e :: es) X.env = (false, eval e X.env) :: starEach es X.env := by rfl) (hpl : (backTo pos (starEach es X.env)).any (·.1) = false := by rfl) :
    PE X (.Call (.Name x q) (e :: es) [] pos) (tCallE sp a c d E t) := by
  refine ⟨fun pins s σ H Q I h => ?_⟩
  refine wpAny_Call_Name_kw (ld_glob I hg hm ?_ hdb)
  refine PySem.W.callWith_K (h₀ := X.base) I.ok.mod.kin hk (thn (ha.run pos pins s σ H _ I h) fun us s1 ⟨vs, H1, I1, r, q⟩ => ⟨I1.kIn, ?_⟩) he hpl
  exact run_fnE F hr hc hb (hx σ) I1 r q
end
/-! ### isinstance of the handled exception, its fields -/
section
open PySem.W PySem.Calls
variable {prog : Program} {w : World} {A : Around} {E : Value → Shared → Prop} {s : Shared} {K : Frag} {x D : Addr} {ox : Obj} {od : Obj}
theorem kin_classD {Q : Option Value → Shared → Prop} (C : ExcC K D) (X : K.In s.heap) (I : InstAt s.heap x ox D (some od)) (h : Q (some (.ref D)) { s with toks := s.toks + 1 }) : wpAny (model prog w) A (getAttr? (.ref x) "__class__") Q E s := by
  have hga := C.hg
  have hgt := C.hk
  have hsub := C.hs
  have hdct := C.hd
  have ha := C.ha
  have hn := C.hn
  have htk := C.ht
  have hm := C.hm
  have hf : findObj K D (some od) "__class__" = some (.bind (.builtin "getset_descriptor.__get__") (.builtin "object.__class__")) := findObj_data (by obtain ⟨cd, hc, _⟩ := any_some hdct; rw [hc]; rfl) ha hn htk
  obtain ⟨hp, g, d, t, os⟩ := s
  have L0 := I.type (M := model prog w)
  have L1 := looks_findIn (M := model prog w) X hga
  have L2 := looks_findIn (M := model prog w) X hgt
  have L3 := looks_find (M := model prog w) X I hf
  have sub : Looks (model prog w) hp (isInstance (.ref x) (.type "BaseException")) true := L0.andThen (looks_subIn X hsub)
  have hx0 : (false && onTheHeap (Value.builtin "BaseException.__getattribute__")) = false := rfl
  have hx2 : (Value.builtin "BaseException.__getattribute__" == Value.builtin "object.__getattribute__") = false := by decide +kernel
  have hx1 : (onTheHeap (Value.ref D) && Value.builtin "BaseException.__getattribute__" == Value.builtin "object.__getattribute__") = false := by rw [hx2]; rfl
  unfold getAttr? getAttrBy? getAttrBy
  refine wpAny_bind (wpAny_mkText (wpAny_bind (wpAny_attempt (wpAny_holding (wpAny_bind (L0.at (wpAny_bind (L1.at ?_))))))))
  show wpAny _ _ (if (onTheHeap (Value.ref D) && Value.builtin "BaseException.__getattribute__" == Value.builtin "object.__getattribute__") = true then _ else _) _ _ _
  rw [hx1, if_neg Bool.false_ne_true]
  unfold getAttrByItsOwn hookBefore
  refine wpAny_bind ?_
  rw [if_pos (show onTheHeap (Value.ref D) = true from rfl)]
  refine L2.at ?_
  refine wpAny_bind (wpAny_attempt (wpAny_holding ?_))
  unfold callGetattribute
  rw [hx0, if_neg Bool.false_ne_true]
  unfold boundAndCalled
  rw [PySem.F.excAttr_ValueError.ga.bind (.ref x)]
  refine wpAny_bind (wpAny_pure ?_)
  show wpAny _ _ (call (.builtin "BaseException.__getattribute__") [.ref x, .str "__class__" t]) _ _ _
  refine wpAny_call (codeAny_call_builtin PySem.F.excAttr_ValueError.ga.plain PySem.F.entry_bexc_ga ?_)
  refine @check_slot (model prog w) _ _ ⟨hp, g, d, t + 1, os⟩ "BaseException.__getattribute__" "BaseException" "__getattribute__" (.ref x) [.str "__class__" t] [] _ (by decide +kernel) (by decide +kernel) sub (PySem.F.args_bexc_ga (.ref x) (.str "__class__" t)) ?_
  unfold Builtin.«object.__getattribute__»
  refine wpAny_bind (wpAny_of_eq (a := ((Value.ref x : Value), [Value.str "__class__" t])) (by first | rfl | (simp only [slotArgs]; rfl)) ?_)
  refine wpAny_bind (wpAny_pure (wpAny_bind (L0.at (wpAny_bind (L3.at ?_)))))
  show wpAny _ _ (holding [Value.builtin "object.__class__"] (call (.builtin "getset_descriptor.__get__") [.builtin "object.__class__", .ref x, .ref D]) >>= ret) _ _ _
  refine wpAny_bind (wpAny_holding (wpAny_call (class_get (s := ⟨hp, g, d, t + 1, os⟩) (ox := ox) (od := some od) X I hm ?_)))
  refine wpAny_pure ?_
  show wpAny _ _ (handedOut (.ref D)) _ _ _
  rw [handedOut_of (v := .ref D) rfl]
  first
    | exact wpAny_pure (wpAny_pure h)
    | exact wpAny_pure h
    | exact wpAny_pure (wpAny_bind (wpAny_pure (wpAny_pure h)))
theorem kitx_excD (C : ExcC K D) : KitX K (.ref x) (.ref D) (fun h => InstAt h x ox D (some od)) where
  ty := fun _ _ _ I => I.type
  it := fun _ _ X _ => by
    obtain ⟨cdD, hcD, _⟩ := any_some C.hd
    unfold clsIn at hcD
    split at hcD
    · rename_i c' d' cd' sl' ho
      intro A' Q' E' s' k q
      unfold isType loadHead
      exact wpAny_bind (wpAny_loadPart (k _ _ (X _ _ ho)) (wpAny_pure q))
    · cases hcD
  ne := fun h tp dd its n sl X htp => by
    obtain ⟨cdD, hcD, _⟩ := any_some C.hd
    refine Bool.eq_false_iff.mpr fun q => ?_
    have e : D = tp := Value.ref.inj (beq_iff_eq.mp q)
    subst e
    unfold clsIn at hcD
    split at hcD
    · rename_i c' d' cd' sl' ho
      have z := (X _ _ ho).symm.trans htp
      cases z
    · cases hcD
  ca := fun X I k => kin_classD C X I k
end
end ErrX
set_option Elab.async false
set_option linter.all false
set_option maxRecDepth 100000
set_option maxHeartbeats 4000000
namespace ErrX
open PySem PySem.Spec PyProof.Rows L2
section
variable {X : Cx} {a D dd : Addr}
theorem inst_hot {pins : List (Addr × Obj)} {σ : L2.St} {H : Hp} {s : Shared} {fs : List (Str × V)} (hc : HotE X a (.ref D) (some dd)) (I : Inv X pins σ H s) (hd : H dd = some (.xd fs)) :
    ∃ (oe od : Obj) (mA : Str → Option Value), PySem.W.InstAt s.heap a oe D (some od) ∧ (∀ name, PySem.W.lookIn name od = some (mA name)) ∧ ∀ f, RelO (fs.lookup f) (mA f) := by
  obtain ⟨p, rfl, ⟨_, ⟨z1, z2, _⟩, vs, hv⟩, hp⟩ := hc
  obtain ⟨hget, _⟩ := I.pin p (List.mem_append_left _ hp)
  have hx : ObjOk X.prog X.w H s.heap dd (.xd fs) := I.hok dd _ hd
  obtain ⟨mA, hns, hr⟩ := hx
  obtain ⟨od, ho, hl⟩ := lookIn_ns hns
  exact ⟨p.2, od, mA, ⟨hget, z1, by unfold PySem.W.notCls; rw [hv] <;> rfl, by rw [z2]; exact ho⟩, hl, hr⟩
/-- isinstance(e, c), e the handled exception, its own dict at dd -/
def rIsD (K : PySem.W.Frag) (D a dd : Addr) : List V → Hp → VK → Prop := fun xs H Q => ∃ (c : V) (cv : Value) (b : Bool) (fs : List (Str × V)), xs = [.ref a, c] ∧ ClsV c cv ∧ H dd = some (.xd fs) ∧ PySem.W.kitOne K (.ref D) cv = some b ∧ Q (.bl b) H
theorem call_isD (C : ExcC X.K D) (hc : HotE X a (.ref D) (some dd)) : CallR X (.builtin "isinstance") (rIsD X.K D a dd) := by
  intro pins s σ H xs us Q I r h
  obtain ⟨c, cv, b, fs, rfl, hcv, hd, e, q⟩ := h
  obtain ⟨u1, u2, rfl, r1, r2⟩ := vals2 r
  have e2 := hcv.eq r2
  subst e2
  obtain rfl : u1 = Value.ref a := r1
  obtain ⟨oe, od, mA, J, _, _⟩ := inst_hot hc I hd
  exact PySem.W.kia_one (kitx_excD C) I.kIn J e (fun z => nomatch z) fun tk => ⟨.bl b, H, I.kept (t' := tk) fun _ _ z => z, rfl, q⟩
/-- e.f, a field of the handled exception -/
def tFldD (a dd : Addr) (f : Str) (te : TE) : TE := fun σ H Q => te σ H fun x H1 => x = .ref a ∧ ∃ (fs : List (Str × V)) (v : V), H1 dd = some (.xd fs) ∧ fs.lookup f = some v ∧ Q v H1
theorem pe_fldD {e : Expr} {te : TE} {f : Str} {pos : Pos} (C : ExcC X.K D) (hno : PySem.W.findIn X.K (.ref D) f = some none) (hc : HotE X a (.ref D) (some dd)) (he : PE X e te)
    (hb : attributeBase e f X.env (eval e X.env) = eval e X.env := by rfl) : PE X (.Attribute e f pos) (tFldD a dd f te) := by
  refine ⟨fun pins s σ H Q I h => ?_⟩
  refine attr_of hb (thn (he.run pins s σ H _ I h) fun u s1 hh => ?_)
  obtain ⟨x, H1, I1, rx, ex, fs, v, hd, hl, q⟩ := hh
  subst ex
  obtain rfl : u = Value.ref a := rx
  obtain ⟨oe, od, mA, J, hlo, hr⟩ := inst_hot hc I1 hd
  obtain ⟨u, hu, ru⟩ := RelO.some_of (v := v) (o := mA f) (by rw [← hl]; exact hr f)
  exact HandSPX.exc_get I1.kIn J C.hg C.hk C.hs (PySem.W.findObj_own C.hd hno rfl (by rw [hlo, hu])) (handed_of ru) ⟨v, H1, I1.tok _, ru, q⟩
end
/-! ### bools counted -/
def eqb (k : Bool) (v : Value) : Bool := match v with
  | .bool n => n == k
  | _ => false
theorem vals_bools : ∀ {bs : List Bool} {us : List Value}, Vals (bs.map V.bl) us → us = bs.map Value.bool
  | [], _, .nil => rfl
  | b :: bs, _, .cons r t => by
    have e1 := vals_bools t
    rw [e1, show _ = Value.bool b from r]
    rfl
theorem eqb_count {k : Bool} : ∀ bs : List Bool, (bs.map Value.bool).countP (eqb k) = bs.count k
  | [] => rfl
  | b :: bs => by
    rw [List.map_cons, List.countP_cons, List.count_cons, eqb_count bs] <;> rfl
def rCntB (K : PySem.W.Frag) : V → List V → Hp → VK → Prop := fun x xs H Q => ∃ (p : Addr) (bs : List Bool) (k : Bool), x = .ref p ∧ xs = [.bl k] ∧ SqL K H p (bs.map V.bl) ∧ Q (.int (bs.count k : Nat)) H
theorem mt_lcountB {X : Cx} : MtR X "list.count" (rCntB X.K) := by
  intro pins s σ H x xs v us Q I rx rxs h
  obtain ⟨p, bs, k, rfl, rfl, hs, q⟩ := h
  cases rx
  obtain ⟨u, rfl, ru⟩ := rxs.one
  obtain rfl : u = Value.bool k := ru
  obtain ⟨its, rv, ⟨⟨cls, dd, data, sl⟩, n, ho, hc, hdn, hd⟩, hlen⟩ := I.list hs
  simp only at hc hd
  subst hc hd
  have hi := vals_bools rv
  refine call_meets PySem.F.slot_list_count ⟨_, ho, rfl⟩ PySem.F.entry_list_count (PySem.F.args_list_count_2 _ _)
    (SeqAt.list_countAt p its.toArray n dd sl (.bool k) (eqb k)) ⟨ho, fun y hy => ?_, ?_⟩
  · have hy' : y ∈ its := by simpa using hy
    rw [hi] at hy'
    obtain ⟨b, _, rfl⟩ := List.mem_map.mp hy'
    exact SeqAt.EqAt.bool_bool b k
  · have ec : its.toArray.toList.countP (eqb k) = bs.count k := by
      show its.countP (eqb k) = _
      rw [hi]
      exact eqb_count bs
    refine ⟨.int (bs.count k : Nat), H, I.tok _, ⟨s.toks, ?_⟩, q⟩
    show Value.int ((its.toArray.toList.countP (eqb k) : Nat) : Int) s.toks = Value.int ((bs.count k : Nat) : Int) s.toks
    rw [ec]
/-! ### the __init__ that keeps its argument in one field -/
/-- __init__(self, v): super().__init__(..); self.f = v -/
def spI (C : Addr) (f : Str) : Sp := fun vs H Q _ => ∃ (a : Addr) (x : Int), vs = [.ref a, .int x] ∧ H a = some (exo a C none) ∧ ∀ dx, H dx = none → dx ≠ a → Q .non (upd (upd H dx (exd dx [(f, .int x)])) a (exo a C (some dx)))
/-- C(e): the exception, its own dict at d the one field -/
def tMk1 (C : Addr) (f : Str) (ta : TA) : L2.St → Hp → XK → Prop := fun σ H Q => ta σ H fun vs H1 => ∃ x : Int, vs = [.int x] ∧ ∀ d, H1 d = none → Q (.ref C) (some d) (upd H1 d (.xd [(f, .int x)]))
theorem mk1_heap {H : Hp} {a C d : Addr} {f : Str} {v : V} {o : HO} (ha : H a = none) (hd : d ≠ a) : upd (del (upd (upd (upd H a (exo a C none)) d (exd d [(f, v)])) a (exo a C (some d))) a) d o = upd H d o := by
  funext b
  by_cases hb : b = d
  · subst hb
    rw [upd_same, upd_same]
  · rw [upd_ne hb, upd_ne hb]
    by_cases hba : b = a
    · subst hba
      rw [del_same, ha]
    · rw [del_ne hba, upd_ne hba, upd_ne hb, upd_ne hba]
/-- arguments, what follows weakened -/
def taW (ta : TA) : TA := fun σ H Q => ∃ Q1 : List V → Hp → Prop, ta σ H Q1 ∧ ∀ vs H1, Q1 vs H1 → Q vs H1
theorem taW_ok {X : Cx} {es : List Expr} {ta : TA} (h : PA X es ta) : PA X es (taW ta) := by
  refine ⟨fun pos pins s σ H Q I hq => ?_⟩
  obtain ⟨Q1, h1, h2⟩ := hq
  refine wpAny_mono (h.run pos pins s σ H Q1 I h1) (fun us s1 hh => ?_) fun _ _ z => z
  obtain ⟨vs, H1, I1, r1, q1⟩ := hh
  exact ⟨vs, H1, I1, r1, h2 _ _ q1⟩
theorem pmk_err1 {X : Cx} {CX : CXT} {x f : Str} {e : Expr} {ta : TA} {p pos : Pos} {C fI : Addr} {k : Nat} {fd : FuncData} {ps : List Str} (T : OexC X.K C) (iC : PySem.W.findIn X.K (.ref C) "__init__" = some (some (.ref fI))) (tI : PySem.W.typeIn X.K (.ref fI) = some (.type "function"))
    (F1 : FnOk X.prog X.w X.K X.mg X.base CX k fI fd ps (spI C f)) (hr : Room (k + 1) X.A) (hb : Binds X.K fd ps []) (hx : Passes CX X (fun _ _ _ => False)) (hg : Gl X x) (hm : X.mg x = some (.ref C)) (ha : PA X [e] ta)
    (hdb : (x == ("__debug__" : Str)) = false := by decide) (he : starEach [e] X.env = (false, eval e X.env) :: starEach [] X.env := by rfl) (hpl : (backTo pos (starEach [] X.env)).any (·.1) = false := by rfl) :
    L2N.PMk X (.Call (.Name x p) [e] [] pos) (tMk1 C f ta) := by
  intro pins s σ H Q I h
  refine pmk_oexN T iC tI F1 hr hb hx hg hm (taW_ok ha) hdb he hpl pins s σ H Q I ⟨_, h, ?_⟩
  rintro vs H1 ⟨x, rfl, q⟩
  refine ⟨(by show 1 ≤ 1000; decide), fun a hn => ⟨a, x, rfl, upd_same, fun dx hdx ne => ⟨rfl, dx, [(f, .int x)], upd_same, ?_, ?_, ?_⟩⟩⟩
  · rw [upd_ne ne, upd_same]
  · rw [upd_ne ne] at hdx
    exact hdx
  · have hd1 : H1 dx = none := by
      rw [upd_ne ne] at hdx
      exact hdx
    have e := mk1_heap (H := H1) (C := C) (f := f) (v := .int x) (o := .xd [(f, .int x)]) hn ne
    rw [e]
    exact q dx hd1
end ErrX
set_option Elab.async false
set_option linter.all false
set_option maxRecDepth 100000
set_option maxHeartbeats 4000000
namespace ErrX
open PySem PySem.Spec PyProof.Rows L2
/-- __init__(self, v): super().__init__(..); self.f = tuple(v), v a tuple -/
def spT (C : Addr) (f : Str) : Sp := fun vs H Q _ => ∃ (a t : Addr) (xs : List V), vs = [.ref a, .ref t] ∧ H t = some (.tup xs) ∧ H a = some (exo a C none) ∧ ∀ dx, H dx = none → dx ≠ a → Q .non (upd (upd H dx (exd dx [(f, .ref t)])) a (exo a C (some dx)))
def tMk1T (C : Addr) (f : Str) (ta : TA) : L2.St → Hp → XK → Prop := fun σ H Q => ta σ H fun vs H1 => ∃ (t : Addr) (xs : List V), vs = [.ref t] ∧ H1 t = some (.tup xs) ∧ ∀ d, H1 d = none → Q (.ref C) (some d) (upd H1 d (.xd [(f, .ref t)]))
theorem pmk_err1T {X : Cx} {CX : CXT} {x f : Str} {e : Expr} {ta : TA} {p pos : Pos} {C fI : Addr} {k : Nat} {fd : FuncData} {ps : List Str} (T : OexC X.K C) (iC : PySem.W.findIn X.K (.ref C) "__init__" = some (some (.ref fI))) (tI : PySem.W.typeIn X.K (.ref fI) = some (.type "function"))
    (F1 : FnOk X.prog X.w X.K X.mg X.base CX k fI fd ps (spT C f)) (hr : Room (k + 1) X.A) (hb : Binds X.K fd ps []) (hx : Passes CX X (fun _ _ _ => False)) (hg : Gl X x) (hm : X.mg x = some (.ref C)) (ha : PA X [e] ta)
    (hdb : (x == ("__debug__" : Str)) = false := by decide) (he : starEach [e] X.env = (false, eval e X.env) :: starEach [] X.env := by rfl) (hpl : (backTo pos (starEach [] X.env)).any (·.1) = false := by rfl) :
    L2N.PMk X (.Call (.Name x p) [e] [] pos) (tMk1T C f ta) := by
  intro pins s σ H Q I h
  refine pmk_oexN T iC tI F1 hr hb hx hg hm (taW_ok ha) hdb he hpl pins s σ H Q I ⟨_, h, ?_⟩
  rintro vs H1 ⟨t, xs, rfl, ht, q⟩
  refine ⟨(by show 1 ≤ 1000; decide), fun a hn => ⟨a, t, xs, rfl, (upd_ne (ne_of_none ht hn)).trans ht, upd_same, fun dx hdx ne => ⟨rfl, dx, [(f, .ref t)], upd_same, ?_, ?_, ?_⟩⟩⟩
  · rw [upd_ne ne, upd_same]
  · rw [upd_ne ne] at hdx
    exact hdx
  · have hd1 : H1 dx = none := by
      rw [upd_ne ne] at hdx
      exact hdx
    have e := mk1_heap (H := H1) (C := C) (f := f) (v := .ref t) (o := .xd [(f, .ref t)]) hn ne
    rw [e]
    exact q dx hd1
end ErrX
set_option Elab.async false
set_option linter.all false
set_option maxRecDepth 100000
set_option maxHeartbeats 4000000
/-! What the run of the top is asked here: defs, facts of classes, own errors, classes of instances. -/
namespace Hk
open PySem PySem.W L2 SupX ErrX
/-! ### own errors -/
def sixB : List (Option Value) → Bool
  | [_, _, _, _, some (.builtin n), _] => n == "ValueError.__new__"
  | _ => false
theorem sixB_ok {l : List (Option Value)} (h : sixB l = true) : ∃ k0 k1 k2 k3 k5, l = [k0, k1, k2, k3, some (.builtin "ValueError.__new__"), k5] := by
  unfold sixB at h
  split at h
  · rename_i k0 k1 k2 k3 n k5
    have e : n = "ValueError.__new__" := by simpa using h
    subst e
    exact ⟨k0, k1, k2, k3, k5, rfl⟩
  · cases h
def excB (K : Frag) (C : Addr) : Bool := match K.lookup C with
  | some ⟨.type t, _, .cls cd, sl⟩ => (t == "type" && (cd.hasDict && !cd.hasDel)) && ((match cd.mro with
    | .ref C' :: bm => C' == C && HandSPX.refsVE bm
    | _ => false) && sixB sl.toList)
  | _ => false
theorem excB_ok {K : Frag} {C : Addr} (h : excB K C = true) : ∃ nm q N bs bm sn sub ab col dd k0 k1 k2 k3 k5, K.lookup C = some (excClassObj nm q C N bs bm true sn sub ab col dd k0 k1 k2 k3 k5 "ValueError.__new__") ∧ HandSPX.refsVE bm = true := by
  unfold excB at h
  split at h
  · rename_i t dd cd sl e
    obtain ⟨nm, bs, mro, ns, qn, hd, sn, sub, ab, col, del⟩ := cd
    simp only [Bool.and_eq_true, beq_iff_eq, Bool.not_eq_true'] at h
    obtain ⟨⟨h1, h2, h3⟩, h4, h5⟩ := h
    subst h1 h2 h3
    cases mro with
    | nil => cases h4
    | cons v bm =>
      cases v with
      | ref C' =>
        have h4' : (C' == C && HandSPX.refsVE bm) = true := h4
        simp only [Bool.and_eq_true, beq_iff_eq] at h4'
        obtain ⟨h6, h7⟩ := h4'
        subst h6
        obtain ⟨l⟩ := sl
        clear h4
        have hl := sixB_ok h5
        obtain ⟨k0, k1, k2, k3, k5, hl⟩ := hl
        have hl' : l = _ := hl
        subst hl'
        exact ⟨nm, qn, ns, bs, bm, sn, sub, ab, col, dd, k0, k1, k2, k3, k5, e, h7⟩
      | _ => cases h4
  · cases h
def cellB (K : Frag) (c C : Addr) : Bool := match K.lookup c with
  | some ⟨_, _, .cell (some (.ref D)), _⟩ => decide (D = C)
  | _ => false
theorem cellB_ok {K : Frag} {c C : Addr} (h : cellB K c C = true) : ∃ cl cld csl, K.lookup c = some ⟨cl, cld, .cell (some (.ref C)), csl⟩ := by
  unfold cellB at h
  split at h
  · rename_i cl cld D csl e
    have e2 := of_decide_eq_true h
    subst e2
    exact ⟨_, _, _, e⟩
  · cases h
def codeB (K : Frag) (file : Str) (v : Value) : Bool := match v with
  | .ref c => (match K.lookup c with
    | some ⟨_, _, .fields vs, _⟩ => (match (vs[2]? : Option Value) with
      | some (Value.str f _) => decide (f = file)
      | _ => false)
    | _ => false)
  | _ => false
theorem codeB_ok {K : Frag} {file : Str} {v : Value} (h : codeB K file v = true) : ∃ c cl cld vs csl tf, v = .ref c ∧ K.lookup c = some ⟨cl, cld, .fields vs, csl⟩ ∧ vs[2]? = some (.str file tf) := by
  unfold codeB at h
  split at h
  · rename_i c
    split at h
    · rename_i cl cld vs csl e
      split at h
      · rename_i f tf e2
        have e3 := of_decide_eq_true h
        subst e3
        exact ⟨c, _, _, vs, _, tf, rfl, e, e2⟩
      · cases h
    · cases h
  · cases h
/-- an own error: its name and its __init__ as the text has it -/
structure ErrD where
  x : Str
  st : Stmt
abbrev ErW : Type := Option (Str × Str × Arguments × FuncBody × Scope × Addr × List Str × Addr)
def ErrD.qual (d : ErrD) : Str := d.x ++ ".__init__"
def ErrD.at_ (d : ErrD) (K : Frag) : Addr := He.ma K (He.ga K d.x) "__init__"
def ErrD.see (d : ErrD) (K : Frag) : ErW := match K.lookup (d.at_ K) with
  | some ⟨_, _, .func fd, _⟩ => some (fd.name, fd.qualname, fd.params, fd.body, fd.scope, fd.globals, fd.closure.map (·.1), fd.builtins)
  | _ => none
def ErrD.val (d : ErrD) : ErW := some ("__init__", d.qual, defArgs d.st, .stmts (defBody d.st), defScope d.st, mainGlobals, ["__class__"], builtinsNs)
def ErrD.ok (d : ErrD) (file : Str) (K : Frag) : Bool := (match K.lookup (d.at_ K) with
    | some ⟨_, _, .func fd, _⟩ => codeIn K fd.code d.qual && (codeB K file fd.code && fd.closure.all fun q => cellB K q.2 (He.ga K d.x))
    | _ => false) && (excB K (He.ga K d.x) && (He.eqO (findIn K (.ref (He.ga K d.x)) "__setattr__") (some (some (.builtin "object.__setattr__"))) && (decide (subIn K (.ref (He.ga K d.x)) (.type "BaseException") = some true) && (decide (typeIn K (.ref (He.ga K d.x)) = some (.type "type")) &&
    (keepIn K (.ref (He.ga K d.x)) && (He.eqO (findIn K (.ref (He.ga K d.x)) "__init__") (some (some (.ref (d.at_ K)))) && (decide (typeIn K (.ref (d.at_ K)) = some (.type "function")) && (He.eqO (ks_superIn K (He.ga K d.x) (He.ga K d.x) "__init__") (some (some (.builtin "ValueError.__init__"))) &&
    (decide (subIn K (.ref (He.ga K d.x)) (.type "ValueError") = some true) && (decide (mroIn K (He.ga K d.x) (.ref (He.ga K d.x)) = some true) && (He.eqO (nsIn K mainGlobals d.x) (some (some (.ref (He.ga K d.x)))) &&
    (He.eqO (findIn K (.ref (He.ga K d.x)) "__getattribute__") (some (some (.builtin "BaseException.__getattribute__"))) && (He.eqO (findIn K (.ref (He.ga K d.x)) "__getattr__") (some none) && (hasDictIn K (He.ga K d.x) && (He.eqO (findIn K (.ref (He.ga K d.x)) "__class__") (some (some (.builtin "object.__class__"))) && decide (mroIn K (He.ga K d.x) (.type "object") = some true))))))))))))))))
/-- what an own error's class and __init__ are in K -/
structure ErrF (K : Frag) (C f : Addr) (file : Str) (d : ErrD) : Prop where
  fn : ∃ (oc : Value) (od : Option Addr) (osl : Array (Option Value)) (dV kV doc pm : Value) (an : Option Addr) (ct : Value) (cc cda : Addr) (cl : Value) (cld : Option Addr) (csl : Array (Option Value)) (ccl : Value) (cdd : Option Addr) (cvs : Array Value) (ccs : Array (Option Value)) (tf : Tok),
    K.lookup f = some ⟨oc, od, .func (fnX "__init__" d.qual (defArgs d.st) (defBody d.st) (defScope d.st) [("__class__", cc)] dV kV doc pm an (.ref cda) ct), osl⟩ ∧ codeIn K (.ref cda) d.qual = true ∧
    K.lookup cda = some ⟨ccl, cdd, .fields cvs, ccs⟩ ∧ cvs[2]? = some (.str file tf) ∧ K.lookup cc = some ⟨cl, cld, .cell (some (.ref C)), csl⟩
  oex : OexC K C
  init : findIn K (.ref C) "__init__" = some (some (.ref f))
  tI : typeIn K (.ref f) = some (.type "function")
  sup : ks_superIn K C C "__init__" = some (some (.builtin "ValueError.__init__"))
  sub : subIn K (.ref C) (.type "ValueError") = some true
  self : mroIn K C (.ref C) = some true
  ns : nsIn K mainGlobals d.x = some (some (.ref C))
  ga : findIn K (.ref C) "__getattribute__" = some (some (.builtin "BaseException.__getattribute__"))
  gt : findIn K (.ref C) "__getattr__" = some none
  hd : hasDictIn K C = true
  cl : findIn K (.ref C) "__class__" = some (some (.builtin "object.__class__"))
  top : mroIn K C (.type "object") = some true
theorem ErrD.okF {d : ErrD} {file : Str} {K : Frag} (e : d.see K = d.val) (h : d.ok file K = true) : ErrF K (He.ga K d.x) (d.at_ K) file d := by
  unfold ErrD.ok at h
  simp only [Bool.and_eq_true, decide_eq_true_eq] at h
  obtain ⟨h1, h2, h3, h4, h5, h6, h7, h8, h9, h10, h11, h12, h13, h14, h15, h16, h17⟩ := h
  refine ⟨?_, ⟨excB_ok h2, He.eqO_ok h3, h4, h5, h6⟩, He.eqO_ok h7, h8, He.eqO_ok h9, h10, h11, He.eqO_ok h12, He.eqO_ok h13, He.eqO_ok h14, h15, He.eqO_ok h16, h17⟩
  unfold ErrD.see at e
  split at h1
  · rename_i oc od fd osl lk
    rw [lk] at e
    simp only [Bool.and_eq_true] at h1
    obtain ⟨k1, k2, k3⟩ := h1
    obtain ⟨n1, n2, n3, n4, n5, n6, n7, n8, n9, n10, n11, n12, n13, n14, n15⟩ := fd
    obtain ⟨cda, ccl, cdd, cvs, ccs, tf, ec, lc, hv⟩ := codeB_ok k2
    have ec' : n13 = .ref cda := ec
    subst ec'
    have e2 : (some (n1, n2, n3, n4, n5, n6, n7.map (·.1), n15) : ErW) = d.val := e
    unfold ErrD.val at e2
    simp only [Option.some.injEq, Prod.mk.injEq] at e2
    obtain ⟨q1, q2, q3, q4, q5, q6, q7, q8⟩ := e2
    cases n7 with
    | nil => cases q7
    | cons q n7 =>
    cases n7 with
    | cons q2 n7 => exact absurd (congrArg List.length q7) (by simp)
    | nil =>
      obtain ⟨y, cc⟩ := q
      have ey : y = "__class__" := (List.cons.inj q7).1
      have kc : cellB K cc (He.ga K d.x) = true := by
        have z : (cellB K cc (He.ga K d.x) && true) = true := k3
        rw [Bool.and_true] at z
        exact z
      obtain ⟨cl, cld, csl, lcc⟩ := cellB_ok kc
      subst q1 q2 q3 q4 q5 q6 q8 ey
      exact ⟨oc, od, osl, n8, n9, n10, n11, n12, n14, cc, cda, cl, cld, csl, ccl, cdd, cvs, ccs, tf, lk, k1, lc, hv, lcc⟩
  · cases h1
/-! ### the hook -/
structure Ask where
  fa : List He.Fa
  fn : List He5.DefA
  er : List ErrD
  bs : List (Frag → Bool)
  file : Str
  sel : List Str
abbrev Al : Type := Bool × List He.FnW × List ErW
def Ask.see (q : Ask) (K : Frag) : Al := (((q.fa.all fun f => f.ok K) && q.fn.all fun d => d.ok K) && ((q.er.all fun d => d.ok q.file K) && q.bs.all fun b => b K), q.fn.map fun d => He5.fnA K (d.at_ K), q.er.map fun d => d.see K)
def Ask.val (q : Ask) : Al := (true, q.fn.map He5.DefA.val, q.er.map ErrD.val)
def Says (q : Ask) (K : Frag) : Prop := q.see K = q.val
/-- the objects that are looked at: the module's, of the chosen classes what they hold, of each def its code and cells -/
def gv (g : Addr → Option Obj) (a : Addr) : List Addr := match g a with
  | some o => He.refsO o
  | none => []
def picks (sel : List Str) : Option Obj → List Addr
  | some ⟨_, _, .cls cd, _⟩ => (match sel.contains cd.name with
    | true => [cd.ns]
    | false => [])
  | _ => []
def fieldsOf : Option Obj → List Addr
  | some ⟨_, _, .fields vs, _⟩ => vs.toList.flatMap He.refV
  | _ => []
def codeOf : Option Obj → List Addr
  | some ⟨_, _, .func fd, _⟩ => He.refV fd.code ++ fd.closure.map (·.2)
  | _ => []
def addrs (sel : List Str) (g : Addr → Option Obj) : List Addr :=
  let l1 := gv g mainGlobals
  let ns := l1.flatMap fun a => picks sel (g a)
  let ms := ns.flatMap (gv g)
  let fs := ms.flatMap fun a => fieldsOf (g a)
  [mainGlobals, cStatics] ++ (l1 ++ (ns ++ (ms ++ (fs ++ (l1 ++ (ms ++ fs)).flatMap fun a => codeOf (g a)))))
def Ask.off (q : Ask) (n : Nat) (g : Addr → Option Obj) : Al := q.see (He.frG g (addrs q.sel g))
def hook (n : Nat) (q : Ask) : Hook where
  α := Al
  obs := fun s => q.off n s.heap.get?
  val := fun _ => q.val
  says := fun _ h => ∃ K : Frag, K.In h ∧ Says q K
  of := fun _ _ e => ⟨_, He.frG_in, e⟩
  keeps := fun _ _ _ ⟨K, hK, c⟩ k => ⟨K, Frag.In.keeps hK k, c⟩
def ob (n : Nat) (q : Ask) (s : SharedT) : Al := q.off n (HandSHeadRun.getT s)
theorem ob_eq {n : Nat} {q : Ask} (s : SharedT) : ob n q s = (hook n q).obs s.abs := by
  have e : HandSHeadRun.getT s = s.abs.heap.get? := funext (HandSHeadRun.getT_eq s)
  show q.off n _ = q.off n _
  rw [e]
section
variable {q : Ask} {K : Frag}
theorem Says.all (c : Says q K) : ((q.fa.all fun f => f.ok K) = true ∧ (q.fn.all fun d => d.ok K) = true) ∧ (q.er.all fun d => d.ok q.file K) = true ∧ (q.bs.all fun b => b K) = true := by
  have c1 : (((q.fa.all fun f => f.ok K) && q.fn.all fun d => d.ok K) && ((q.er.all fun d => d.ok q.file K) && q.bs.all fun b => b K)) = true := congrArg (fun z : Al => z.1) c
  simp only [Bool.and_eq_true] at c1
  exact c1
theorem Says.fact (c : Says q K) (i : Nat) {f : He.Fa} (h : q.fa[i]? = some f := by rfl) : f.ok K = true := List.all_eq_true.mp c.all.1.1 f (List.mem_of_getElem? h)
theorem Says.more (c : Says q K) (i : Nat) {b : Frag → Bool} (h : q.bs[i]? = some b := by rfl) : b K = true := List.all_eq_true.mp c.all.2.2 b (List.mem_of_getElem? h)
theorem Says.def_ (c : Says q K) (i : Nat) {d : He5.DefA} (h : q.fn[i]? = some d := by rfl) : ∃ fd, FunD K d.name d.qual d.params d.body d.scope (d.dvs K) (d.kws K) (d.at_ K) fd := by
  have e : q.fn.map (fun d => He5.fnA K (d.at_ K)) = q.fn.map He5.DefA.val := congrArg (fun z : Al => z.2.1) c
  have e2 := congrArg (fun l => l[i]?) e
  simp only [List.getElem?_map, h, Option.map_some] at e2
  exact He5.DefA.funD (Option.some.inj e2) (List.all_eq_true.mp c.all.1.2 d (List.mem_of_getElem? h))
theorem Says.err (c : Says q K) (i : Nat) {d : ErrD} (h : q.er[i]? = some d := by rfl) : ErrF K (He.ga K d.x) (d.at_ K) q.file d := by
  have e : q.er.map (fun d => d.see K) = q.er.map ErrD.val := congrArg (fun z : Al => z.2.2) c
  have e2 := congrArg (fun l => l[i]?) e
  simp only [List.getElem?_map, h, Option.map_some] at e2
  exact ErrD.okF (Option.some.inj e2) (List.all_eq_true.mp c.all.2.1 d (List.mem_of_getElem? h))
end
/-! ### short facts -/
def glo (x : Str) (K : Frag) : Bool := (He.Fa.glo x).ok K
def isx (x y : Str) (b : Bool) (K : Frag) : Bool := decide (kitOne K (.ref (He.ga K x)) (.ref (He.ga K y)) = some b)
def ist (x : Str) (t : String) (b : Bool) (K : Frag) : Bool := decide (kitOne K (.ref (He.ga K x)) (.type t) = some b)
def opq (K : Frag) : Bool := He.eqO (nsIn K cStatics "thirdparty.any") (some none)
/-- a def of the module, a method -/
def gdef (x : Str) (st : Stmt) : He5.DefA := ⟨fun K => He.ga K x, x, x, defArgs st, defBody st, defScope st, [], []⟩
def mdef (C x : Str) (st : Stmt) : He5.DefA := ⟨fun K => He.ma K (He.ga K C) x, x, C ++ ("." ++ x), defArgs st, defBody st, defScope st, [], []⟩
end Hk
set_option Elab.async false
set_option linter.all false
set_option maxRecDepth 100000
set_option maxHeartbeats 0
namespace K03
open PySem PySem.W L2 Hk
def top (i : Nat) : Stmt := PySem.Challenge.pw_whichdepot_k03_turned_about.main.body.getD i (.Pass ⟨0, 0, 0, 0⟩)
def inClass (st : Stmt) (i : Nat) : Stmt := match st with
  | .ClassDef _ _ _ body _ _ _ _ _ _ _ => body.getD i (.Pass ⟨0, 0, 0, 0⟩)
  | _ => .Pass ⟨0, 0, 0, 0⟩
abbrev law_take_st : Stmt := top 61
abbrev law_cell_of_st : Stmt := top 59
abbrev law_source_st : Stmt := top 60
abbrev law_draw_st : Stmt := top 62
abbrev merged_labels_st : Stmt := top 51
abbrev place_labels_st : Stmt := top 50
abbrev labelled_piece_st : Stmt := top 52
abbrev found_pieces_st : Stmt := top 57
abbrev law_linked_st : Stmt := top 69
abbrev law_pieces_due_st : Stmt := top 70
abbrev check_size_st : Stmt := top 43
abbrev check_most_st : Stmt := top 44
abbrev check_customer_st : Stmt := top 46
abbrev check_depot_st : Stmt := top 45
abbrev checked_lot_st : Stmt := top 48
abbrev law_reach_due_st : Stmt := top 71
abbrev checked_pairs_st : Stmt := top 56
abbrev Network_init_st : Stmt := inClass (top 54) 2
abbrev Network_pieces_st : Stmt := inClass (top 54) 12
abbrev Network_reach_st : Stmt := inClass (top 54) 11
abbrev Network_customers_of_st : Stmt := inClass (top 54) 9
abbrev Network_depots_st : Stmt := inClass (top 54) 4
abbrev Network_customers_st : Stmt := inClass (top 54) 5
abbrev Network_routes_st : Stmt := inClass (top 54) 6
abbrev Network_loops_st : Stmt := inClass (top 54) 7
abbrev Network_joined_st : Stmt := inClass (top 54) 8
abbrev Network_turned_st : Stmt := inClass (top 54) 14
abbrev Network_depots_of_st : Stmt := inClass (top 54) 10
abbrev law_same_st : Stmt := top 64
abbrev Network_contains_st : Stmt := inClass (top 54) 15
abbrev Network_len_st : Stmt := inClass (top 54) 16
abbrev checked_route_st : Stmt := top 47
abbrev Network_index_of_st : Stmt := inClass (top 54) 13
abbrev Network_eq_st : Stmt := inClass (top 54) 18
abbrev Network_str_st : Stmt := inClass (top 54) 19
abbrev law_classes_st : Stmt := top 65
abbrev law_refusal_st : Stmt := top 66
abbrev law_ask_st : Stmt := top 67
abbrev law_index_due_st : Stmt := top 72
abbrev law_written_st : Stmt := top 73
abbrev law_all_told_st : Stmt := top 68
abbrev law_all_due_st : Stmt := top 74
abbrev law_right_st : Stmt := top 75
abbrev law_draw_odd_st : Stmt := top 76
abbrev law_mirrored_st : Stmt := top 63
abbrev law_right_world_st : Stmt := top 77
abbrev law_st : Stmt := top 78
def clsN : List Str := (["BadColumn", "BadCount", "BadDeed", "BadLength", "BadLine", "BadSize", "Below", "Closes", "DeedRefused", "NoCustomer", "NoCycle", "NoDemand", "NoDepot"] : List Str) ++ ((["NoLink", "NoNumber", "NoPlace", "NoRoute", "NoSupply", "NotAcross", "NotFlexible", "NotInTree", "NotInner", "NotJoined", "NotMore", "NotPriced", "NotSpanning"] : List Str) ++ (["NotSpanningSet", "NothingLeft", "OtherNetwork", "OtherTotals", "Overflow", "Repeated", "SameEnds", "Short", "Stranded", "TooMany", "Unbalanced", "Unfair", "Unread"] : List Str))
def noneB (a b : Value) : Bool := match a, b with
  | .none, .none => true
  | _, _ => false
def dflB (d : ErrD) (K : Frag) : Bool := match K.lookup (d.at_ K) with
  | some ⟨_, _, .func fd, _⟩ => noneB fd.defaults fd.kwdefaults
  | _ => false
def dN : ErrD := ⟨"NoDepot", inClass (top 6) 0⟩
def dC : ErrD := ⟨"NoCustomer", inClass (top 7) 0⟩
def dT : ErrD := ⟨"NoRoute", inClass (top 15) 0⟩
def dR : ErrD := ⟨"Repeated", inClass (top 22) 0⟩
def mdefN (C x q : Str) (st : Stmt) : He5.DefA := ⟨fun K => He.ma K (He.ga K C) x, x, q, defArgs st, defBody st, defScope st, [], []⟩
/-- the getter of a property -/
def gaP (K : Frag) (C x : Str) : Addr := match recIn K (He.ma K (He.ga K C) x) "property" with
  | some (.ref g :: _) => g
  | _ => 0
def pdefN (C x q : Str) (st : Stmt) : He5.DefA := ⟨fun K => gaP K C x, x, q, defArgs st, defBody st, defScope st, [], []⟩
def propB (C x : Str) (K : Frag) : Bool := He.eqO (findIn K (.ref (He.ga K C)) x) (some (some (.ref (He.ma K (He.ga K C) x)))) && (He.eqO (specialIn K (.ref (He.ma K (He.ga K C) x)) "__get__") (some (some (.builtin "property.__get__"))) && (decide (takesIn K (.ref (He.ma K (He.ga K C) x)) = some true) && (match recIn K (He.ma K (He.ga K C) x) "property" with
  | some (.ref g :: _) => true
  | _ => false)))
def insB (C : Str) (K : Frag) : Bool := He.eqO (findIn K (.ref (He.ga K C)) "__class__") (some (some (.builtin "object.__class__"))) && (decide (mroIn K (He.ga K C) (.type "object") = some true) && decide (kitOne K (.ref (He.ga K C)) (.ref (He.ga K C)) = some true))
def conB (C x : Str) (i : Int) (K : Frag) : Bool := match findIn K (.ref (He.ga K C)) x with
  | some (some (.int j t)) => decide (j = i) && He.eqO (specialIn K (.int j t) "__get__") (some none)
  | _ => false
def getB (K : Frag) : Bool := He.eqO (specialIn K (.builtin "object.__class__") "__get__") (some (some (.builtin "getset_descriptor.__get__"))) && decide (takesIn K (.builtin "object.__class__") = some true)
abbrev R : OpenRow := OpenLaw.row PySem.Challenge.rw_whichdepot_k03_turned_about
abbrev qv : Program := view R.prog [78]
def nmS (s : Stmt) : List Str := match s with
  | .FunctionDef n _ _ _ _ _ _ _ _ _ => [n]
  | .ClassDef n _ _ _ _ _ _ _ _ _ _ => [n]
  | .Assign [.Name x _] _ _ => [x]
  | _ => []
def names : List Str := (PySem.Challenge.pw_whichdepot_k03_turned_about.main.body.flatMap nmS).eraseDups.filter (fun x => x != "law" && x != "__name__")
def askFa : List He.Fa := ([.free "len", .free "range", .free "min", .free "max", .free "int", .free "list", .free "tuple", .free "sorted", .free "set", .free "enumerate", .free "isinstance", .free "bool", .free "str", .free "ValueError", .free "super"] : List He.Fa) ++ (([.glo "check_size", .glo "check_most", .glo "check_depot", .glo "check_customer", .glo "checked_route", .glo "checked_lot", .glo "place_labels", .glo "merged_labels", .glo "labelled_piece", .glo "_checked_pairs", .glo "_found_pieces", .glo "_law_cell_of", .glo "_law_source", .glo "_law_take", .glo "_law_draw"] : List He.Fa) ++ (([.glo "_law_mirrored", .glo "_law_same", .glo "_law_classes", .glo "_law_refusal", .glo "_law_ask", .glo "_law_all_told", .glo "_law_linked", .glo "_law_pieces_due", .glo "_law_reach_due", .glo "_law_index_due", .glo "_law_written", .glo "_law_all_due", .glo "_law_right", .glo "_law_draw_odd", .glo "_law_right_world"] : List He.Fa) ++ (([.glo "law", .glo "Network", .glo "DepotError", .cls "Network", .mkr "Network", .noat "Network" "_depots", .noat "Network" "_customers", .noat "Network" "_routes", .noat "Network" "_indices", .noat "Network" "_pieces", .meth "Network" "customers_of", .meth "Network" "depots_of", .meth "Network" "reach", .meth "Network" "pieces", .meth "Network" "index_of"] : List He.Fa) ++ (([.meth "Network" "turned", .meth "Network" "__contains__", .meth "Network" "__len__", .meth "Network" "__eq__", .meth "Network" "__str__", .exm "NoDepot" "DepotError" true, .exm "NoCustomer" "DepotError" true, .exm "NoRoute" "DepotError" true, .exm "Repeated" "DepotError" true, .noat "NoDepot" "depot", .noat "NoCustomer" "customer", .noat "NoRoute" "route", .noat "Repeated" "entry"] : List He.Fa)))))
def askFn : List He5.DefA := ([gdef "check_size" check_size_st, gdef "check_most" check_most_st, gdef "check_depot" check_depot_st, gdef "check_customer" check_customer_st, gdef "checked_route" checked_route_st, gdef "checked_lot" checked_lot_st, gdef "place_labels" place_labels_st, gdef "merged_labels" merged_labels_st, gdef "labelled_piece" labelled_piece_st, gdef "_checked_pairs" checked_pairs_st, gdef "_found_pieces" found_pieces_st, gdef "_law_cell_of" law_cell_of_st] : List He5.DefA) ++ (([gdef "_law_source" law_source_st, gdef "_law_take" law_take_st, gdef "_law_draw" law_draw_st, gdef "_law_mirrored" law_mirrored_st, gdef "_law_same" law_same_st, gdef "_law_classes" law_classes_st, gdef "_law_refusal" law_refusal_st, gdef "_law_ask" law_ask_st, gdef "_law_all_told" law_all_told_st, gdef "_law_linked" law_linked_st, gdef "_law_pieces_due" law_pieces_due_st, gdef "_law_reach_due" law_reach_due_st] : List He5.DefA) ++ (([gdef "_law_index_due" law_index_due_st, gdef "_law_written" law_written_st, gdef "_law_all_due" law_all_due_st, gdef "_law_right" law_right_st, gdef "_law_draw_odd" law_draw_odd_st, gdef "_law_right_world" law_right_world_st, gdef "law" law_st, mdefN "Network" "__init__" "Network.__init__" Network_init_st, mdefN "Network" "customers_of" "Network.customers_of" Network_customers_of_st, mdefN "Network" "depots_of" "Network.depots_of" Network_depots_of_st, mdefN "Network" "reach" "Network.reach" Network_reach_st, mdefN "Network" "pieces" "Network.pieces" Network_pieces_st] : List He5.DefA) ++ (([mdefN "Network" "index_of" "Network.index_of" Network_index_of_st, mdefN "Network" "turned" "Network.turned" Network_turned_st, mdefN "Network" "__contains__" "Network.__contains__" Network_contains_st, mdefN "Network" "__len__" "Network.__len__" Network_len_st, mdefN "Network" "__eq__" "Network.__eq__" Network_eq_st, mdefN "Network" "__str__" "Network.__str__" Network_str_st, pdefN "Network" "depots" "Network.depots" Network_depots_st, pdefN "Network" "customers" "Network.customers" Network_customers_st, pdefN "Network" "routes" "Network.routes" Network_routes_st, pdefN "Network" "loops" "Network.loops" Network_loops_st, pdefN "Network" "joined" "Network.joined" Network_joined_st] : List He5.DefA))))
def ask : Ask where
  fa := askFa ++ clsN.map He.Fa.glo
  fn := askFn
  er := [dN, dC, dT, dR]
  bs := (([opq, conB "Network" "MOST_PLACES" 8, conB "Network" "MOST_ROUTES" 16, getB, ist "NoDepot" "ValueError" true, ist "NoCustomer" "ValueError" true, ist "NoRoute" "ValueError" true, ist "Repeated" "ValueError" true, dflB dN, dflB dC, dflB dT, dflB dR] : List (Frag → Bool)) ++ (([insB "Network", propB "Network" "depots", propB "Network" "customers", propB "Network" "routes", propB "Network" "loops", propB "Network" "joined"] : List (Frag → Bool)))) ++ ((clsN.map fun y => isx "NoDepot" y (decide (y = "NoDepot"))) ++ ((clsN.map fun y => isx "NoCustomer" y (decide (y = "NoCustomer"))) ++ ((clsN.map fun y => isx "NoRoute" y (decide (y = "NoRoute"))) ++ ((clsN.map fun y => isx "Repeated" y (decide (y = "Repeated")))))))
  file := "/claim/cut.py"
  sel := ["DepotError", "NoDepot", "NoCustomer", "NoRoute", "Repeated", "Network"]
theorem run (w : World) : HandSHeadRun.RunEq R qv (hook 6 ask) (ob 6 ask) 30000 names w := by
  intro os
  kernel_rfl
end K03
set_option Elab.async false
set_option linter.all false
set_option maxRecDepth 100000
set_option maxHeartbeats 4000000
namespace OwnM
open PySem PySem.Spec PyProof.Rows L2
section
variable {X : Cx} {CX : CXT} {k : Nat} {f C : Addr} {fd : FuncData} {ps : List Str} {sp : Sp} {E : XK} {pins : List (Addr × Obj)} {σ : L2.St} {H : Hp} {s : Shared}
/-- a def of the text runs below the running body -/
theorem run_at {A : Around} {Q : VK} {us : List Value} {vs : List V} (F : FnOk X.prog X.w X.K X.mg X.base CX k f fd ps sp) (sb : Sub X k A) (hb : Binds X.K fd ps []) (hx : Passes CX X E) (I : Inv X pins σ H s) (r : Vals vs us) (h : sp vs H Q E) :
    wpAny (model X.prog X.w) A (call (.ref f) us) (EP X pins σ Q) X.xe s := by
  have e0 : Env0 X.prog X.w X.K X.mg X.base A X.stack s H := by
    have e := I.env0
    exact ⟨by rw [sb.fr]; exact e.frames, e.mod, e.bs, e.bsz, e.funs, e.frf, e.hok, e.bare⟩
  have hl : us.length = ps.length := by rw [← r.length]; exact F.len _ _ _ _ h
  refine wpAny_call (codeAny_mono (F.run A X.stack s H ⟨us, []⟩ us vs Q E sb.room e0 (by
    have := hb s us I.kIn (by simpa using hl)
    simpa using this) r h) fun r s' hq => ?_)
  cases r with
  | error e => exact hx pins σ H s e s' I hq
  | ok fl =>
    cases fl with
    | ret u => exact I.after hq
    | next => exact False.elim hq
    | brk => exact False.elim hq
    | cont => exact False.elim hq
theorem Sub.deep1 {A : Around} {n : Nat} (s : Sub X (n + 1) A) : Sub X n A.in1 := s.in1
def rInO (C : Addr) (sp : Sp) (E : XK) (neg : Bool) : R2 := fun x y H Q => ∃ a dx fs, y = .ref a ∧ H a = some (.ins C dx fs) ∧ sp [.ref a, x] H (fun v H' => ∃ b, v = .bl b ∧ Q (.bl (if neg then !b else b)) H') E
theorem op_inO (F : FnOk X.prog X.w X.K X.mg X.base CX k f fd ps sp) (hr : Room k X.A) (hb : Binds X.K fd ps []) (hx : Passes CX X E) (hs : PySem.W.findIn X.K (.ref C) "__contains__" = some (some (.ref f))) (hf : PySem.W.isFn X.K (.ref f) = true) : OpR X (compareOp .In) (rInO C sp E false) := by
  intro pins s σ H x y v u Q I rx ry hq
  obtain ⟨a, dx, fs, rfl, ha, hsp⟩ := hq
  cases ry
  obtain ⟨mA, J, _⟩ := ins_get I.hok ha
  obtain ⟨od, J, _⟩ := J.look
  obtain ⟨m, hF⟩ := I.fr
  refine PySem.W.in_K hF I.ok.mod.kin J hs hf ?_
  refine wpAny_mono (run_at F ⟨hr, rfl⟩ hb hx I (show Vals [V.ref a, x] [Value.ref a, v] from .cons rfl (.cons rx .nil)) hsp) (fun r s' h => ?_) fun _ _ z => z
  obtain ⟨z, H', I', rz, b, rfl, hq⟩ := h
  cases rz
  exact wpAny_truthy_bool ⟨.bl b, H', I', rfl, hq⟩
theorem op_notInO (F : FnOk X.prog X.w X.K X.mg X.base CX k f fd ps sp) (hr : Room k X.A) (hb : Binds X.K fd ps []) (hx : Passes CX X E) (hs : PySem.W.findIn X.K (.ref C) "__contains__" = some (some (.ref f))) (hf : PySem.W.isFn X.K (.ref f) = true) : OpR X (compareOp .NotIn) (rInO C sp E true) := by
  intro pins s σ H x y v u Q I rx ry hq
  obtain ⟨a, dx, fs, rfl, ha, hsp⟩ := hq
  cases ry
  obtain ⟨mA, J, _⟩ := ins_get I.hok ha
  obtain ⟨od, J, _⟩ := J.look
  obtain ⟨m, hF⟩ := I.fr
  refine PySem.W.notIn_K hF I.ok.mod.kin J hs hf ?_
  refine wpAny_mono (run_at F ⟨hr, rfl⟩ hb hx I (show Vals [V.ref a, x] [Value.ref a, v] from .cons rfl (.cons rx .nil)) hsp) (fun r s' h => ?_) fun _ _ z => z
  obtain ⟨z, H', I', rz, b, rfl, hq⟩ := h
  cases rz
  exact wpAny_truthy_bool ⟨.bl (!b), H', I', rfl, hq⟩
def rEqO (C : Addr) (sp : Sp) (E : XK) : R2 := fun x y H Q => ∃ a b dx dy fs gs, x = .ref a ∧ y = .ref b ∧ H a = some (.ins C dx fs) ∧ H b = some (.ins C dy gs) ∧ sp [.ref a, .ref b] H (fun v H' => ∃ c, v = .bl c ∧ Q (.bl c) H') E
theorem op_eqO (F : FnOk X.prog X.w X.K X.mg X.base CX k f fd ps sp) (hr : Room k X.A) (hb : Binds X.K fd ps []) (hx : Passes CX X E) (hs : PySem.W.findIn X.K (.ref C) "__eq__" = some (some (.ref f))) (hf : PySem.W.isFn X.K (.ref f) = true) : OpR X (compareOp .Eq) (rEqO C sp E) := by
  intro pins s σ H x y v u Q I rx ry hq
  obtain ⟨a, b, dx, dy, fs, gs, rfl, rfl, ha, hb', hsp⟩ := hq
  cases rx
  cases ry
  obtain ⟨mA, J, _⟩ := ins_get I.hok ha
  obtain ⟨mB, J', _⟩ := ins_get I.hok hb'
  obtain ⟨od, J, _⟩ := J.look
  obtain ⟨od', J', _⟩ := J'.look
  obtain ⟨m, hF⟩ := I.fr
  show wpAny (model X.prog X.w) X.A (richCompare .Eq (.ref a) (.ref b)) (EP X pins σ Q) X.xe s
  refine PySem.W.cmp_K (op := .Eq) (tb := .ref C) hr.units0 hF I.ok.mod.kin J J'.type (by simp [PySem.W.notFirst]) hs hf ?_
  refine wpAny_mono (run_at F ⟨hr, rfl⟩ hb hx I (show Vals [V.ref a, V.ref b] [Value.ref a, Value.ref b] from .cons rfl (.cons rfl .nil)) hsp) (fun r s' h => ?_) fun _ _ z => z
  obtain ⟨z, H', I', rz, c, rfl, hq⟩ := h
  cases rz
  exact ⟨.bl c, H', I', rfl, hq⟩
theorem call_lenO (F : FnOk X.prog X.w X.K X.mg X.base CX k f fd ps sp) (hr : Room (k + 1) X.A) (hb : Binds X.K fd ps []) (hx : Passes CX X E) (hs : PySem.W.findIn X.K (.ref C) "__len__" = some (some (.ref f))) (hf : PySem.W.isFn X.K (.ref f) = true) :
    CallR X (.builtin "len") (fun xs H Q => ∃ a dx fs, xs = [.ref a] ∧ H a = some (.ins C dx fs) ∧ sp [.ref a] H (fun v H' => ∃ n : Nat, n ≤ 1000 ∧ v = .int (n : Int) ∧ Q (.int (n : Int)) H') E) := by
  intro pins s σ H xs us Q I r h
  obtain ⟨a, dx, fs, rfl, ha, hsp⟩ := h
  obtain ⟨u, rfl, ru⟩ := vals1 r
  cases ru
  obtain ⟨mA, J, _⟩ := ins_get I.hok ha
  obtain ⟨od, J, _⟩ := J.look
  obtain ⟨m, hF⟩ := I.fr
  refine PySem.W.len_K hF I.ok.mod.kin J hs hf ?_
  refine wpAny_mono (run_at F (Sub.deep1 ⟨hr, rfl⟩) hb hx I (show Vals [V.ref a] [Value.ref a] from .cons rfl .nil) hsp) (fun r s' h => ?_) fun _ _ z => z
  obtain ⟨z, H', I', rz, n, hn, rfl, hq⟩ := h
  obtain ⟨t, rfl⟩ := rz
  exact ⟨⟨by omega, by omega⟩, .int n, H', I'.tok _, ⟨_, rfl⟩, hq⟩
theorem call_strO (F : FnOk X.prog X.w X.K X.mg X.base CX k f fd ps sp) (hr : Room (k + 2) X.A) (hb : Binds X.K fd ps []) (hx : Passes CX X E) (hs : PySem.W.findIn X.K (.ref C) "__str__" = some (some (.ref f))) (hf : PySem.W.isFn X.K (.ref f) = true) :
    CallR X (.type "str") (fun xs H Q => ∃ a dx fs, xs = [.ref a] ∧ H a = some (.ins C dx fs) ∧ sp [.ref a] H (fun v H' => ∃ y : Str, v = .str y ∧ Q (.str y) H') E) := by
  intro pins s σ H xs us Q I r h
  obtain ⟨a, dx, fs, rfl, ha, hsp⟩ := h
  obtain ⟨u, rfl, ru⟩ := vals1 r
  cases ru
  obtain ⟨mA, J, _⟩ := ins_get I.hok ha
  obtain ⟨od, J, _⟩ := J.look
  have sb : Sub X k X.A.in1.in1 := Sub.deep1 (Sub.deep1 ⟨hr, rfl⟩)
  refine PySem.W.kso_call sb.room.units0 I.kIn J hs hf ?_
  refine wpAny_mono (run_at F sb hb hx I (show Vals [V.ref a] [Value.ref a] from .cons rfl .nil) hsp) (fun r s' h => ?_) fun _ _ z => z
  obtain ⟨z, H', I', rz, y, rfl, hq⟩ := h
  obtain ⟨t, rfl⟩ := rz
  exact ⟨.str y, H', I', ⟨_, rfl⟩, hq⟩
end
end OwnM
set_option Elab.async false
set_option linter.all false
set_option maxRecDepth 100000
set_option maxHeartbeats 4000000
/-! Comprehensions of one clause that fill a dict keyed by tuples or a set of ints: one core, by what a turn asks. -/
namespace CmX
open PySem PySem.Spec PyProof.Rows L2
abbrev Err (X : Cx) (env : Env) (R : Result → Shared → Prop) : Value → Shared → Prop := notedBy (model X.prog X.w) X.A env fun e s' => R (.error e) s'
abbrev Tests (ifs : List Expr) (env : Env) : Sem Bool := forIn ifs true fun c r => if r = true then do let ok ← isTrue c env (eval c env); pure (ForInStep.yield ok) else pure (ForInStep.yield r)
/-- what a turn of the block's loop asks; B: where the tests have let the item through -/
abbrev Turn1 (X : Cx) (tg : Expr) (ifs : List Expr) (env : Env) (it : Value) (R : Result → Shared → Prop) (B N : Shared → Prop) (s : Shared) : Prop :=
  wpAny (model X.prog X.w) X.A (pyNext it) (fun r s1 => match r with
    | none => R (.ok .next) s1
    | some v => wpAny (model X.prog X.w) X.A (letOwnedTupleGo tg it v) (fun _ s2 => wpAny (model X.prog X.w) X.A (assign tg env v) (fun _ s3 =>
        wpAny (model X.prog X.w) X.A (Tests ifs env) (fun ok s4 => if ok = true then B s4 else N s4) (Err X env R) s3) (Err X env R) s2) (Err X env R) s1) (Err X env R) s
/-- a kind of comprehension: the object that it fills, what a turn asks of it -/
structure Kind (X : Cx) (e tg iter : Expr) (ifs : List Expr) (mk : Sem Value) (ob : Obj) (body : Env → Addr → (Shared → Prop) → (Value → Shared → Prop) → Shared → Prop) : Prop where
  one : ∃ gs, clausesOf e = ⟨tg, iter, ifs, 0⟩ :: gs
  acc : ∀ {E : Value → Shared → Prop} {s : Shared} {Q : Value → Shared → Prop}, Q (.ref s.heap.objs.size) { s with heap := s.heap.push ob } → wpAny (model X.prog X.w) X.A mk Q E s
  loop : ∀ {env : Env} {it : Value} {D : Addr} {R : Result → Shared → Prop} (I : Nat → Shared → Prop),
    (∀ n s, I n s → Turn1 X tg ifs env it R (body env D (fun s' => ∃ m, m < n ∧ I m s') (Err X env R)) (fun s' => ∃ m, m < n ∧ I m s') s) → ∀ n s, I n s → codeAny (model X.prog X.w) X.A (.compLoop e 0 it (.ref D) env) R s
  start : ∀ {env : Env} {it : Value} {D : Addr} {R : Result → Shared → Prop} {s : Shared}, codeAny (model X.prog X.w) X.A (.compLoop e 0 it (.ref D) env) R s →
    wpAny (model X.prog X.w) X.A (pyIter it) (fun it' s' => codeAny (model X.prog X.w) X.A (.compLoop e 0 it' (.ref D) env) R s') (Err X env R) s → codeAny (model X.prog X.w) X.A (.compStart e 0 it (.ref D) env) R s
section
variable {X : Cx}
/-- one turn over the layer: y the slots of the block between two turns -/
theorem turn_ok {Y : Cx} {tg : Expr} {ifs : List Expr} {J : It} {fp : List Addr} {it : Addr} {tn : Nat → Heap → Prop} {i : Nat} {y : L2.St} {vs : List Nat} {H : Hp} {s : Shared} {R : Result → Shared → Prop} {B N : Shared → Prop} {g : TG} {tt : TT}
    (hx : ∀ e s', ¬ Y.xe e s') (T : Turn Y.prog Y.w Y.K tg J fp it tn) (hc : Y.calm = true) (I : Inv Y [] y H s) (st : tn i s.heap) (far : ∀ {σ : L2.St} {H' : Hp} {s' : Shared}, Inv Y [] σ H' s' → (∀ b ∈ fp, H' b = none) → ∀ b ∈ fp, FpOk Y [] H' b) (fr : ∀ b ∈ fp, H b = none) (pg : PG Y tg g) (pt : PTs Y ifs tt)
    (h : (J.stop i H ∧ ∀ s1, Inv Y [] y H s1 → R (.ok .next) s1) ∨ (J.go i H ∧ ∃ G : L2.St → Bool → Hp → Prop, (∀ x H1, J.yld i H x H1 → g x y H1 fun σ H2 => wipe σ vs = y ∧ tt σ H2 (G σ)) ∧
      ∀ σ b H3, G σ b H3 → ∀ (pp : List (Addr × Obj)) (s3 : Shared), Inv Y pp σ H3 s3 → (∀ H' s', Inv Y pp σ H' s' → Inv Y [] y H' s' ∧ tn (i + 1) s'.heap ∧ ∀ b ∈ fp, H' b = none) → if b = true then B s3 else N s3)) :
    Turn1 Y tg ifs Y.env (.ref it) R B N s := by
  rcases h with ⟨stop, hq⟩ | ⟨go, G, hq, hG⟩
  · refine thnF (T.done Y rfl rfl rfl hc i [] s y H (fun _ _ => False) I (far I fr) st stop) fun r s1 hh => ?_
    obtain ⟨er, J1⟩ := hh
    rw [er]
    exact hq s1 J1
  · refine thnF (T.item Y rfl rfl rfl hc i [] s y H (fun _ _ => False) I (far I fr) st go) fun r s1 hh => ?_
    obtain ⟨u, er, h1⟩ := hh
    rw [er]
    refine wpAny_mono h1 (fun _ s2 h2 => ?_) fun _ _ z => z.elim
    obtain ⟨x, H1, J1, rx, yl, st1, fr1⟩ := h2
    have J2 := J1.pinned (far J1 fr1) (T.obj _ _ st1)
    refine wpAny_mono (pg.run _ s2 y H1 x u _ J2 rx (hq x H1 yl)) (fun _ s3 h3 => ?_) fun e s' z => (hx e s' z).elim
    obtain ⟨σ, H2, J3, ew, ht⟩ := h3
    refine wpAny_mono (pt.run _ s3 σ H2 _ J3 ht) (fun b s4 h4 => ?_) fun e s' z => (hx e s' z).elim
    obtain ⟨H3, J4, hb⟩ := h4
    refine hG σ b H3 hb _ s4 J4 fun H' s' J' => ?_
    have kept : ∀ b ∈ fp, ∀ o, s2.heap.get? b = some o → s'.heap.get? b = some o ∧ H' b = none := fun b hb o eo =>
      have z := J'.pin (b, o) (List.mem_append_right _ (List.mem_append_right _ (mem_pinsAt hb eo)))
      ⟨z.1, z.2.1⟩
    refine ⟨(J'.unpinned (pins := [])).weak (by rw [← ew, wipe_length]) fun j v ev => ?_, T.keep _ _ _ st1 fun b hb o eo => (kept b hb o eo).1, fun b hb => ?_⟩
    · rw [← ew] at ev
      exact (wipe_some ev).1
    · obtain ⟨o, eo, _⟩ := T.obj _ _ st1 b hb
      exact (kept b hb o eo).2
/-- the reading: ob at D the new object; St: the store's wish, given the element's place in the block -/
def tCo (o0 : Addr → HO) (wi : TI) (g : TG) (tt : TT) (te : L2.St → Hp → Addr → (Hp → Prop) → Prop) (vs : List Nat) : TE := fun σ H Q => wi σ H fun J H1 => ∀ D, H1 D = none →
  ∃ W : Nat → Nat → Hp → Prop, (∃ m, W 0 m (upd H1 D (o0 D))) ∧ ∀ i m H, W i m H → (J.stop i H ∧ Q (.ref D) H) ∨ (J.go i H ∧ ∃ N : Hp → Prop, (∀ H', N H' → ∃ m', m' < m ∧ W (i + 1) m' H') ∧
    ∀ x H', J.yld i H x H' → g x (wipe σ vs) H' fun σ2 H2 => wipe σ2 vs = wipe σ vs ∧ tt σ2 H2 fun b H3 => if b = true then te σ2 H3 D N else N H3)
theorem comp_core {e tg iter : Expr} {ifs : List Expr} {mk : Sem Value} {ob : Obj} {body : Env → Addr → (Shared → Prop) → (Value → Shared → Prop) → Shared → Prop} {o0 : Addr → HO} {scope : Scope} {own : List (Str × Nat)} {pos : Pos} {wi : TI} {g : TG} {tt : TT}
    {te : L2.St → Hp → Addr → (Hp → Prop) → Prop} {pins : List (Addr × Obj)} {s : Shared} {σ : L2.St} {H : Hp} {Q : VK}
    (k : Kind X e tg iter ifs mk ob body) (hc : X.calm = true) (hN : X.N.Nodup) (I : Inv X pins σ H s) (hi : PI X tg iter wi) (ok : BlkOk X.N X.env.scope scope own)
    (hnew : ∀ (h : Heap) (H1 : Hp), sysModules < h.objs.size → ObjOk X.prog X.w (upd H1 h.objs.size (o0 h.objs.size)) (h.push ob) h.objs.size (o0 h.objs.size))
    (hg : ∀ (s : Shared) (H : Hp) (C : Addr) (cl : List (Str × Addr)) (fp : List Addr), PG (X.blk s H scope (compEnvC scope cl C X.env) fp) tg g) (ht : ∀ (s : Shared) (H : Hp) (C : Addr) (cl : List (Str × Addr)) (fp : List Addr), PTs (X.blk s H scope (compEnvC scope cl C X.env) fp) ifs tt)
    (he : ∀ (s : Shared) (H : Hp) (C : Addr) (cl : List (Str × Addr)) (fp : List Addr) (pp : List (Addr × Obj)) (σ2 : L2.St) (H3 : Hp) (s3 : Shared) (D : Addr) (N : Hp → Prop) (nx : Shared → Prop) (er : Value → Shared → Prop),
      Inv (X.blk s H scope (compEnvC scope cl C X.env) fp) pp σ2 H3 s3 → te σ2 H3 D N → (∀ H' s', Inv (X.blk s H scope (compEnvC scope cl C X.env) fp) pp σ2 H' s' → N H' → nx s') → body (compEnvC scope cl C X.env) D nx er s3)
    (hs : ∀ x, foldedSetIterable iter X.env x = pure x) (h : tCo o0 wi g tt te (own.map (·.2)) σ H Q) :
    wpAny (model X.prog X.w) X.A (comprehension e scope X.env pos mk false (eval iter X.env) none) (EP X pins σ Q) X.xe s := by
  have hfree : ∀ y ∈ scope.names, y.2 = .free → ∃ c, X.env.cells.lookup y.1 = some c := fun y hy ey => (ok.free y hy ey).elim (fun z => I.ok.has _ (.inl z)) fun z => I.ok.has _ (.inr z)
  obtain ⟨gs, hone⟩ := k.one
  refine wpAny_comprehension_free (use := none) hone hs (closure_ok hfree) ok.kind (fun y hy ey => by rw [ok.uniq y hy, ey]) (thn (hi.run pins s σ H _ I h) fun xv s1 hx => thn hx fun itv s2 h2 => ?_)
  obtain ⟨it, fp, tn, J, H2, rfl, I2, T, st2, f2, q⟩ := h2
  refine k.acc (newEnv_comp ?_)
  obtain ⟨W, ⟨m0, w0⟩, turn⟩ := q s2.heap.objs.size (I2.hok.fresh (Nat.le_refl _))
  have I3 := I2.laid (t' := s2.toks) (a := s2.heap.objs.size) (o := o0 s2.heap.objs.size) (h' := s2.heap.push ob) (fun b o eo => Heap.get?_push_of_some _ eo) (Nat.le_refl _) (hnew _ _ I2.big)
  have low : ∀ b ∈ fp, b < s2.heap.objs.size := fun b hb => by
    obtain ⟨o, eo, _⟩ := T.obj _ _ st2 b hb
    exact Heap.lt_size eo
  have f3 : ∀ b ∈ fp, FpOk X pins (upd H2 s2.heap.objs.size (o0 s2.heap.objs.size)) b ∧ b < (s2.heap.push ob).objs.size := fun b hb =>
    ⟨⟨by rw [upd_ne (Nat.ne_of_lt (low b hb))]; exact (f2 b hb).1, (f2 b hb).2⟩, by rw [Heap.size_push]; exact Nat.lt_succ_of_lt (low b hb)⟩
  have st3 : tn 0 (s2.heap.push ob) := T.keep _ _ _ st2 fun b _ o eo => Heap.get?_push_of_some _ eo
  have I4 := block_start I3 ok hN f3
  have st4 : tn 0 (pushCells ((s2.heap.push ob).push { cls := .type "dict", data := .dict #[] }) scope.names) := T.keep _ _ _ st3 fun b _ o eo => pushCells_keeps _ _ _ _ (Heap.get?_push_of_some _ eo)
  show codeAny _ _ (.compStart e 0 (.ref it) (.ref s2.heap.objs.size) (compEnvC scope (cellsFrom ((s2.heap.push ob).objs.size + 1) scope.names (cloFrom X.env.cells scope.names [])) (s2.heap.push ob).objs.size X.env)) (compPost (model X.prog X.w) X.A X.xe none (EP X pins σ Q) (.ref s2.heap.objs.size) (s2.heap.push ob).objs.size)
    { s2 with heap := pushCells ((s2.heap.push ob).push { cls := .type "dict", data := .dict #[] }) scope.names }
  generalize cellsFrom ((s2.heap.push ob).objs.size + 1) scope.names (cloFrom X.env.cells scope.names []) = cs at I4 ⊢
  generalize eH : upd H2 s2.heap.objs.size (o0 s2.heap.objs.size) = H3 at I3 I4 f3 w0
  have nfp : ∀ b ∈ fp, H3 b = none := fun b hb => (f3 b hb).1.1
  have far : ∀ {σ' : L2.St} {H' : Hp} {s' : Shared}, Inv (X.blk { s2 with heap := s2.heap.push ob } H3 scope (compEnvC scope cs (s2.heap.push ob).objs.size X.env) fp) [] σ' H' s' → (∀ b ∈ fp, H' b = none) →
      ∀ b ∈ fp, FpOk (X.blk { s2 with heap := s2.heap.push ob } H3 scope (compEnvC scope cs (s2.heap.push ob).objs.size X.env) fp) [] H' b := fun I' hn b hb =>
    ⟨hn b hb, (I'.ok.exf b hb).1, I'.ok.exfs b hb, .inl hb, fun x c ec => (I'.ok.exf b hb).2 x c ec, fun p hp => absurd hp (by simp)⟩
  have loop := k.loop (env := compEnvC scope cs (s2.heap.push ob).objs.size X.env) (it := .ref it) (D := s2.heap.objs.size)
    (R := compPost (model X.prog X.w) X.A X.xe none (EP X pins σ Q) (.ref s2.heap.objs.size) (s2.heap.push ob).objs.size)
    (fun n s' => ∃ i H', Inv (X.blk { s2 with heap := s2.heap.push ob } H3 scope (compEnvC scope cs (s2.heap.push ob).objs.size X.env) fp) [] (wipe σ (own.map (·.2))) H' s' ∧ tn i s'.heap ∧ (∀ b ∈ fp, H' b = none) ∧ W i n H')
    (fun n s5 hI => by
      obtain ⟨i, H5, I5, st5, n5, w5⟩ := hI
      refine turn_ok (Y := X.blk { s2 with heap := s2.heap.push ob } H3 scope (compEnvC scope cs (s2.heap.push ob).objs.size X.env) fp) (vs := own.map (·.2)) (fun _ _ z => z) T hc I5 st5 far n5 (hg _ _ _ _ _) (ht _ _ _ _ _) ?_
      rcases turn i n H5 w5 with ⟨stop, qq⟩ | ⟨go, N, hN', step⟩
      · refine .inl ⟨stop, fun s6 I6 => ?_⟩
        have I7 : Inv X pins σ H5 s6 := I3.call' (ch := fp) I6.os I6.base I6.hok I6.bare fun b hb => ⟨(f3 b hb).1.2.2.2.1, (f3 b hb).1.2.1, (f3 b hb).1.2.2.2.2.1, (f3 b hb).1.2.2.2.2.2⟩
        have nC : H5 (s2.heap.push ob).objs.size = none := I6.free
        obtain ⟨m, hn, _⟩ := I6.loc
        refine ⟨m, hn, fun h' sb => ?_⟩
        obtain ⟨f0, f1, f4, f5, f6, f7⟩ := I3.fpOk (Nat.le_refl _) nC
        exact ⟨.ref s2.heap.objs.size, H5, I7.turned (t' := s6.toks) (fun b o hb eo => (sb.2 b hb).trans eo) f0 f1 f5 f6 f7, rfl, qq⟩
      · refine .inr ⟨go, fun σ2 b H3 => if b = true then te σ2 H3 s2.heap.objs.size N else N H3, step, fun σ2 b H8 hb pp s8 I8 back => ?_⟩
        cases b with
        | true =>
          refine he _ _ _ _ _ pp σ2 H8 s8 _ N _ _ I8 hb fun H9 s9 I9 n9 => ?_
          obtain ⟨m', hm, w'⟩ := hN' H9 n9
          obtain ⟨b1, b2, b3⟩ := back H9 s9 I9
          exact ⟨m', hm, i + 1, H9, b1, b2, b3, w'⟩
        | false =>
          obtain ⟨m', hm, w'⟩ := hN' H8 hb
          obtain ⟨b1, b2, b3⟩ := back H8 s8 I8
          exact ⟨m', hm, i + 1, H8, b1, b2, b3, w'⟩)
    m0 _ ⟨0, H3, I4, st4, nfp, w0⟩
  exact k.start loop (T.self X.A 0 _ _ _ st4 loop)
/-! ### {k: v for ..}, the keys tuples -/
def teD (tk tv : TE) : L2.St → Hp → Addr → (Hp → Prop) → Prop := fun σ H D N => tk σ H fun y H1 => tv σ H1 fun z H2 => ∃ (b : Addr) (kvs : List (List Key × V)) (ks : List Key), y = .ref b ∧ H2 D = some (.dT kvs) ∧ H2 b = some (.tup (ks.map kV)) ∧ kvs.length < sizeLine ∧ N (upd H2 D (.dT (putK kvs ks z)))
theorem put_tup {Y : Cx} {pins : List (Addr × Obj)} {σ : L2.St} {H : Hp} {s : Shared} {E : Value → Shared → Prop} {D b : Addr} {kvs : List (List Key × V)} {ks : List Key} {v : V} {r : Value} {Q : Unit → Shared → Prop} (hu : Y.A.units < cLine) (I : Inv Y pins σ H s) (hD : H D = some (.dT kvs)) (hb : H b = some (.tup (ks.map kV)))
    (hz : kvs.length < sizeLine) (rv : RelV v r) (h : ∀ s', Inv Y pins σ (upd H D (.dT (putK kvs ks v))) s' → Q () s') : wpAny (model Y.prog Y.w) Y.A (dictSet D (.ref b) r) Q E s := by
  obtain ⟨lk, hd, xs, rel, dd⟩ := dt_of I.hok hD
  have lx : xs.length ≤ sizeLine := by rw [← Paired.length rel]; exact lk
  have lp : (putK kvs ks v).length ≤ sizeLine := by
    have := length_putK kvs ks v
    omega
  refine wpAny_dictSet_heap (hsz := lx) (by exact hu) (key_of I.hok hb) dd fun h1 d1 same => h _ ?_
  obtain ⟨o, es, ep, q1, q2, q3, q4, _, q5⟩ := d1
  refine d_write I (by rw [hD]; exact True.intro) same ⟨o, q1⟩ ⟨lp, hd, _, (rel.put ks hb rv).keeps fun c ys ec => ?_, o, es, ep, q1, q2, q3, q4, q5⟩
  rw [upd_ne (ne_of ec hD (fun z => nomatch z))]
  exact ec
theorem kind_dict {kx vx tg iter : Expr} {ifs : List Expr} {scope : Scope} {pos : Pos} : Kind X (.DictComp kx vx [⟨tg, iter, ifs, 0⟩] scope pos) tg iter ifs newDict { cls := .type "dict", data := .dict #[] }
    (fun env D nx er s => wpAny (model X.prog X.w) X.A (eval kx env) (fun kv s1 => wpAny (model X.prog X.w) X.A (eval vx env) (fun vv s2 => wpAny (model X.prog X.w) X.A (dictSet D kv vv) (fun _ s3 => nx s3) er s2) er s1) er s) where
  one := ⟨[], rfl⟩
  acc := fun q => wpAny_newObj_type q
  loop := fun I turn n s hI => compLoop_anyD I turn n hI
  start := fun l i => codeAny_compStart_dict l i
theorem pe_dcT {kx vx tg iter : Expr} {ifs : List Expr} {scope : Scope} {own : List (Str × Nat)} {pos : Pos} {wi : TI} {g : TG} {tt : TT} {tk tv : TE} (hu : X.A.units < cLine) (hc : X.calm = true) (hN : X.N.Nodup) (hi : PI X tg iter wi) (ok : BlkOk X.N X.env.scope scope own)
    (hg : ∀ (s : Shared) (H : Hp) (C : Addr) (cl : List (Str × Addr)) (fp : List Addr), PG (X.blk s H scope (compEnvC scope cl C X.env) fp) tg g) (ht : ∀ (s : Shared) (H : Hp) (C : Addr) (cl : List (Str × Addr)) (fp : List Addr), PTs (X.blk s H scope (compEnvC scope cl C X.env) fp) ifs tt)
    (hk : ∀ (s : Shared) (H : Hp) (C : Addr) (cl : List (Str × Addr)) (fp : List Addr), PE (X.blk s H scope (compEnvC scope cl C X.env) fp) kx tk) (hv : ∀ (s : Shared) (H : Hp) (C : Addr) (cl : List (Str × Addr)) (fp : List Addr), PE (X.blk s H scope (compEnvC scope cl C X.env) fp) vx tv)
    (hs : ∀ x, foldedSetIterable iter X.env x = pure x := by intro _; rfl) : PE X (.DictComp kx vx [⟨tg, iter, ifs, 0⟩] scope pos) (tCo (fun _ => .dT []) wi g tt (teD tk tv) (own.map (·.2))) := by
  refine ⟨fun pins s σ H Q I h => ?_⟩
  rw [arm_eval_DictComp]
  refine comp_core kind_dict hc hN I hi ok (fun h1 H1 big => dt_empty h1 big) hg ht (fun s1 H1 C cl fp pp σ2 H3 s3 D N nx er I3 hte fin => ?_) hs h
  refine wpAny_mono ((hk s1 H1 C cl fp).run pp s3 σ2 H3 _ I3 hte) (fun kv s4 h4 => ?_) fun _ _ z => False.elim z
  obtain ⟨y, H4, I4, ry, h4⟩ := h4
  refine wpAny_mono ((hv s1 H1 C cl fp).run pp s4 σ2 H4 _ I4 h4) (fun vv s5 h5 => ?_) fun _ _ z => False.elim z
  obtain ⟨z, H5, I5, rz, b, kvs, ks, rfl, hD, hb, hl, n5⟩ := h5
  obtain rfl : kv = Value.ref b := ry
  exact put_tup (Y := X.blk s1 H1 scope (compEnvC scope cl C X.env) fp) hu I5 hD hb hl rz fun s6 I6 => fin _ _ I6 n5
/-! ### {e for ..}, the members ints -/
def teS (w : World) (te : TE) : L2.St → Hp → Addr → (Hp → Prop) → Prop := fun σ H D N => te σ H fun y H1 => ∃ (k : Int) (S : Int → Bool) (n : Nat), y = .int k ∧ H1 D = some (SetO w D S n) ∧ n + 1 < scanBound ∧ N (upd H1 D (SetO w D (fun j => S j || decide (j = k)) (if S k = true then n else n + 1)))
theorem add_int {Y : Cx} {pins : List (Addr × Obj)} {σ : L2.St} {H : Hp} {s : Shared} {E : Value → Shared → Prop} {D : Addr} {S : Int → Bool} {n : Nat} {k : Int} {u : Value} {Q : Value → Shared → Prop} (I : Inv Y pins σ H s) (hD : H D = some (SetO Y.w D S n)) (room : n + 1 < scanBound) (ru : RelV (.int k) u)
    (h : ∀ s', Inv Y pins σ (upd H D (SetO Y.w D (fun j => S j || decide (j = k)) (if S k = true then n else n + 1))) s' → Q .none s') : wpAny (model Y.prog Y.w) Y.A (call (.builtin "set.add") [.ref D, u]) Q E s := by
  obtain ⟨tk, rfl⟩ := ru
  refine setR_add (setO_get I hD) room fun h1 same new => h _ ?_
  have there : ∃ o, h1.get? D = some o := by
    obtain ⟨o, _, _, _, ho, _⟩ := id new
    exact ⟨o, ho⟩
  exact I.write (e := D) (t' := s.toks + 1) (by rw [hD]; exact True.intro) (.inl rfl) (fun b o hb ho => (same.2 b hb).trans ho) there (setO_new new)
theorem kind_set {elt tg iter : Expr} {ifs : List Expr} {scope : Scope} {pos : Pos} : Kind X (.SetComp elt [⟨tg, iter, ifs, 0⟩] scope pos) tg iter ifs (newSet (.type "set")) { cls := .type "set", dict := none, data := .set #[] 0 (.fresh 0 0 (!X.w.params.followText "set-order")) }
    (fun env D nx er s => wpAny (model X.prog X.w) X.A (eval elt env) (fun x s1 => wpAny (model X.prog X.w) X.A (call (.builtin "set.add") [.ref D, x]) (fun _ s2 => nx s2) er s1) er s) where
  one := ⟨[], rfl⟩
  acc := fun q => PpSet.newSet_ok q
  loop := fun I turn n s hI => PpSet.compLoopS_any I turn n hI
  start := fun l i => PpSet.codeAny_compStart_set l i
theorem pe_scI {elt tg iter : Expr} {ifs : List Expr} {scope : Scope} {own : List (Str × Nat)} {pos : Pos} {wi : TI} {g : TG} {tt : TT} {te : TE} (hc : X.calm = true) (hN : X.N.Nodup) (hi : PI X tg iter wi) (ok : BlkOk X.N X.env.scope scope own)
    (hg : ∀ (s : Shared) (H : Hp) (C : Addr) (cl : List (Str × Addr)) (fp : List Addr), PG (X.blk s H scope (compEnvC scope cl C X.env) fp) tg g) (ht : ∀ (s : Shared) (H : Hp) (C : Addr) (cl : List (Str × Addr)) (fp : List Addr), PTs (X.blk s H scope (compEnvC scope cl C X.env) fp) ifs tt)
    (he : ∀ (s : Shared) (H : Hp) (C : Addr) (cl : List (Str × Addr)) (fp : List Addr), PE (X.blk s H scope (compEnvC scope cl C X.env) fp) elt te)
    (hs : ∀ x, foldedSetIterable iter X.env x = pure x := by intro _; rfl) : PE X (.SetComp elt [⟨tg, iter, ifs, 0⟩] scope pos) (tCo (fun D => SetO X.w D (fun _ => false) 0) wi g tt (teS X.w te) (own.map (·.2))) := by
  refine ⟨fun pins s σ H Q I h => ?_⟩
  rw [PpSet.eval_SetComp]
  refine comp_core kind_set hc hN I hi ok (fun h1 H1 _ => setO_new (setR_fresh X.w)) hg ht (fun s1 H1 C cl fp pp σ2 H3 s3 D N nx er I3 hte fin => ?_) hs h
  refine wpAny_mono ((he s1 H1 C cl fp).run pp s3 σ2 H3 _ I3 hte) (fun x s4 h4 => ?_) fun _ _ z => False.elim z
  obtain ⟨y, H4, I4, ry, k, S, n, rfl, hD, room, n4⟩ := h4
  exact add_int (Y := X.blk s1 H1 scope (compEnvC scope cl C X.env) fp) I4 hD room ry fun s5 I5 => fin _ _ I5 n4
end
end CmX
set_option Elab.async false
set_option linter.all false
set_option maxRecDepth 100000
set_option maxHeartbeats 4000000
/-! set(xs), xs a list of ints, as a set that sorted takes. -/
namespace SetL
open PySem PySem.Spec PyProof.Rows L2
abbrev Emp (w : World) : Obj := { cls := .type "set", dict := none, data := .set #[] 0 (.fresh 0 0 (!w.params.followText "set-order")) }
section
variable {P : Program} {w : World} {A : Around} {E : Value → Shared → Prop} {s : Shared}
/-- the loop that fills the set, from a list -/
theorem fill_list {l : Addr} {items : Array Value} (ns : List Int) {R : Result → Shared → Prop} (calm : A.handled = none) (lst : s.heap.IsList l items) (hin : IntsAre items.toList ns) (few : ns.length + 1 < scanBound)
    (fin : ∀ (h1 : Heap) (tk c : Nat), SetR w h1 s.heap.objs.size (fun j => decide (j ∈ ns)) c → c ≤ ns.length → (∀ b o, s.heap.get? b = some o → h1.get? b = some o) → R (.ok (.ret .none)) { s with heap := h1, toks := tk }) :
    wpAny (model P w) A (pyIter (.ref l)) (fun it s1 => codeAny (model P w) A (.builtin "set.update.loop" ⟨[.ref s.heap.objs.size, it], []⟩) R s1) E { s with heap := s.heap.push (Emp w) } := by
  have size : items.size = ns.length := (Array.length_toList (xs := items)).symm.trans (IntsAre.length hin)
  have lst1 : (s.heap.push (Emp w)).IsList l items := lst.push _
  obtain ⟨ol, atl, _⟩ := id lst
  have low : l < s.heap.objs.size := Heap.lt_size atl
  have far : l ≠ (s.heap.push (Emp w)).objs.size := by
    rw [Heap.size_push]
    exact Nat.ne_of_lt (Nat.lt_succ_of_lt low)
  refine wpAny_pyIter_list lst1 ?_
  have apart : s.heap.objs.size ∉ [(s.heap.push (Emp w)).objs.size, l] := by
    rw [Heap.size_push]
    intro m
    rcases List.mem_cons.mp m with e | m
    · exact Nat.ne_of_lt (Nat.lt_succ_self _) e
    · exact Nat.ne_of_gt low (List.mem_singleton.mp m)
  have val : ∀ (i : Nat) (v : Value), items[i]? = some v → ∃ k t, ns[i]? = some k ∧ v = .int k t := fun i v hv => by
    have lt : i < ns.length := size ▸ (Array.getElem?_eq_some_iff.mp hv).1
    obtain ⟨t, e⟩ := PyProof.Rows.IntsAre.int_at hin i v (by rw [Array.getElem?_toList]; exact hv)
    refine ⟨ns[i], t, List.getElem?_eq_getElem lt, ?_⟩
    rw [e, List.getD_eq_getElem?_getD, List.getElem?_eq_getElem lt] <;> rfl
  have calm1 : A.in1.handled = none := calm
  refine set_update_ints ((Walks.list calm1 _ l far items).toS) s.heap.objs.size apart ns size few val (items.size - 0) 0 _ (by omega) (Nat.zero_le _) ⟨⟨_, Heap.get?_push_size _ rfl, rfl, rfl⟩, lst1.push _⟩ ?_ ?_
  · exact ⟨0, Nat.le_refl 0, setR_new_at (Heap.get?_push_of_some _ (Heap.get?_push_size _ rfl))⟩
  · rintro ⟨h1, g1, d1, t1, o1⟩ c mv hc hS
    have e1 : g1 = s.gens := mv.gens
    have e2 : d1 = s.drawn := mv.drawn
    have e3 : o1 = s.os := mv.os
    subst e1 e2 e3
    refine fin h1 t1 c hS (by omega) fun b o eb => mv.heap b o (fun m => ?_) (Heap.get?_push_of_some _ (Heap.get?_push_of_some _ eb))
    have lt := Heap.lt_size eb
    rcases List.mem_cons.mp m with e | m
    · exact Nat.ne_of_lt lt e
    · have e := List.mem_singleton.mp m
      rw [Heap.size_push] at e
      exact Nat.ne_of_lt (Nat.lt_succ_of_lt lt) e
theorem call_set_ints {l : Addr} {items : Array Value} (ns : List Int) {Q : Value → Shared → Prop} (calm : A.handled = none) (lst : s.heap.IsList l items) (hin : IntsAre items.toList ns) (few : ns.length + 1 < scanBound)
    (h : ∀ (h1 : Heap) (tk c : Nat), SetR w h1 s.heap.objs.size (fun j => decide (j ∈ ns)) c → c ≤ ns.length → (∀ b o, s.heap.get? b = some o → h1.get? b = some o) → Q (.ref s.heap.objs.size) { s with heap := h1, toks := tk }) :
    wpAny (model P w) A (call (.type "set") [.ref l]) Q E s := by
  obtain ⟨c, tl, hmro⟩ := F.called_set.mro
  have a1 := F.called_set.made
  have a2 := F.called_set.sub
  have a3 := F.called_set.notType
  have a4 := F.called_set.canCreate
  have a5 := F.typeCall_set_1 (.ref l)
  refine wpAny_call (codeAny_of_tree ?_)
  show wpAny _ _ (callAny (.type "set") _) _ _ _
  refine wpAny_pure ⟨Code.quiet_builtin _ (by decide +kernel), codeAny_builtin F.entry_type_call ?_⟩
  rw [Around.under_plain (weight_type_call_type "set" [.ref l] []) rfl]
  repeat (any_goals (first | assumption | wp_step))
  refine codeAny_mono (code_set_led1 (.ref l) (E := E) (Q₁ := fun v s1 => v = .ref s.heap.objs.size ∧ s1 = { s with heap := s.heap.push (Emp w) }) ⟨rfl, rfl⟩) fun r s1 hr => ?_
  match r, hr with
  | .error _, hr => exact hr
  | .ok .next, hr => exact hr.elim
  | .ok .brk, hr => exact hr.elim
  | .ok .cont, hr => exact hr.elim
  | .ok (.ret v0), hr =>
    obtain ⟨rfl, rfl⟩ := hr
    have atS : (s.heap.push (Emp w)).get? s.heap.objs.size = some (Emp w) := Heap.get?_push_size _ rfl
    have ty : Shared.TypeIs { s with heap := s.heap.push (Emp w) } (.ref s.heap.objs.size) "set" := ⟨_, atS, rfl⟩
    have b1 := F.called_set.init.lookup
    have b2 := F.called_set.init.bind (.ref s.heap.objs.size)
    repeat (any_goals (first | assumption | wp_step))
    refine codeAny_mono (codeAny_call_builtin (R := wants (fun r s2 => r = .none ∧ ∃ h1 tk c, s2 = { s with heap := h1, toks := tk } ∧ SetR w h1 s.heap.objs.size (fun j => decide (j ∈ ns)) c ∧ c ≤ ns.length ∧ (∀ b o, s.heap.get? b = some o → h1.get? b = some o)) E)
      F.called_set.init.plain F.entry_set_init (check_set_init_1 ty ?_)) fun r2 s2 hr2 => ?_
    · obtain ⟨⟨oc, od, odt, osl⟩, atl, cl, nl, dl⟩ := id lst
      simp only at cl dl
      subst cl dl
      have atl1 : (s.heap.push (Emp w)).get? l = some { cls := .type "list", dict := od, data := .seq items nl, slots := osl } := Heap.get?_push_of_some _ atl
      have c1 := F.sub_list_set
      have c2 := F.sub_list_frozenset
      have c3 : (Value.type "list" == Value.type "dict") = false := by decide
      unfold Builtin.«set.__init__» noKeywords Builtin.Frozenset.updateFrom
      generalize hPI : pyIter = PI
      wp_walk
      subst hPI
      refine wpAny_mono (fill_list (s := s) ns (by exact calm) lst hin few ?fin) (fun it s1 h1 => wpAny_bind (wpAny_runValue h1)) fun _ _ z => z
      case fin =>
        intro h1 tk c q1 q2 q3
        show wpAny _ _ _ _ _ _
        refine wpAny_pure ?_
        show wpAny _ _ (ret Value.none) _ _ _
        exact wpAny_pure ⟨rfl, h1, tk, c, rfl, q1, q2, q3⟩
    · match r2, hr2 with
      | .error _, hr2 => exact hr2
      | .ok .next, hr2 => exact hr2.elim
      | .ok .brk, hr2 => exact hr2.elim
      | .ok .cont, hr2 => exact hr2.elim
      | .ok (.ret v1), hr2 =>
        obtain ⟨rfl, h1, tk, c, rfl, q1, q2, q3⟩ := hr2
        repeat (any_goals (first | assumption | wp_step))
        exact h _ _ _ q1 q2 q3
end
end SetL
set_option Elab.async false
set_option linter.all false
set_option maxRecDepth 100000
set_option maxHeartbeats 4000000
namespace SetL
open PySem PySem.Spec PyProof.Rows L2
/-- set(xs), xs a list of ints -/
def rSetI (K : PySem.W.Frag) (w : World) : List V → Hp → VK → Prop := fun xs H Q => ∃ (l : Addr) (ns : List Int), xs = [V.ref l] ∧ SqL K H l (ns.map V.int) ∧ ns.length < 1000 ∧
  ∀ (a : Addr) (c : Nat), H a = none → c ≤ ns.length → Q (.ref a) (upd H a (SetO w a (fun j => decide (j ∈ ns)) c))
theorem cr_setI {X : Cx} (hc : X.calm = true) : CallR X (.type "set") (rSetI X.K X.w) := by
  intro pins s σ H xs us Q I r h
  obtain ⟨l, ns, rfl, hl, hz, q⟩ := h
  rw [Vals.ref1 r]
  obtain ⟨its, rv, pl, _⟩ := I.list hl
  have hin : IntsAre its ns := ints_of_vals rv
  have hn : H s.heap.objs.size = none := I.hok.fresh (Nat.le_refl _)
  refine call_set_ints (P := X.prog) (w := X.w) ns (I.ok.hd hc) pl.isList (by simpa using hin) (by unfold scanBound; omega) fun h1 tk c R1 hcn keep => ?_
  exact ⟨.ref s.heap.objs.size, _, I.laid (t' := tk) (a := s.heap.objs.size) (o := SetO X.w s.heap.objs.size (fun j => decide (j ∈ ns)) c) keep (Nat.le_refl _) (setO_new R1), rfl, q _ c hn hcn⟩
end SetL
set_option Elab.async false
set_option linter.all false
set_option maxRecDepth 100000
set_option maxHeartbeats 4000000
namespace K03
open PySem PySem.Spec PyProof.Rows L2
/-- a written def with its promise -/
structure Dn (P : Program) (w : World) (K : PySem.W.Frag) (mg : Str → Option Value) (base : Heap) (k : Nat) (x : Str) (ps : List Str) (sp : Sp) (f : Addr) (fd : FuncData) : Prop where
  ok : FnOk P w K mg base (L2N.CX P w) k f fd ps sp
  g : mg x = some (.ref f)
  kp : PySem.W.keepIn K (.ref f) = true
  b : Binds K fd ps []
def DnE (P : Program) (w : World) (K : PySem.W.Frag) (mg : Str → Option Value) (base : Heap) (k : Nat) (x : Str) (ps : List Str) (sp : Sp) : Prop := ∃ f fd, Dn P w K mg base k x ps sp f fd
abbrev FnS (K : PySem.W.Frag) (x : Str) (st : Stmt) (f : Addr) (fd : FuncData) : Prop := FunD K x x (defArgs st) (defBody st) (defScope st) [] [] f fd
/-! ### heaps -/
/-- all but p is as it was -/
def But (p : Addr) (H H' : Hp) : Prop := ∀ b o, b ≠ p → H b = some o → H' b = some o
theorem But.of {p : Addr} {H H' : Hp} (h : Same H H') : But p H H' := fun b o _ e => h b o e
theorem But.trans {p : Addr} {H H1 H2 : Hp} (a : But p H H1) (b : But p H1 H2) : But p H H2 := fun c o n h => b c o n (a c o n h)
theorem But.at_ {p : Addr} {H H' : Hp} {u : HO} (a : But p H H') : But p H (upd H' p u) := fun c o n h => by
  rw [upd_ne n]
  exact a c o n h
theorem But.seq {K : PySem.W.Frag} {p : Addr} {H H' : Hp} {a : Addr} {xs : List V} (e : But p H H') (n : a ≠ p) (h : SqL K H a xs) : SqL K H' a xs := by
  rcases h with (h | ⟨o, h⟩) | h
  · exact .inl (.inl (e _ _ n h))
  · exact .inl (.inr ⟨o, e _ _ n h⟩)
  · exact .inr h
theorem But.back {p : Addr} {H H' : Hp} {u : HO} {l : Addr} (e : But p H H') (h : H' p = some u) (n : H' l = none) : H l = none := by
  cases q : H l with
  | none => rfl
  | some o =>
    rw [e l o (ne_of_none h n).symm q] at n
    cases n
theorem But.seqT {K : PySem.W.Frag} {p : Addr} {H H' : Hp} {a : Addr} {xs : List V} (e : But p H H') (n : a ≠ p) (h : SqT K H a xs) : SqT K H' a xs := by
  rcases h with (h | ⟨o, h⟩) | h
  · exact .inl (.inl (e _ _ n h))
  · exact .inl (.inr ⟨o, e _ _ n h⟩)
  · exact .inr h
/-! ### pairs by their addresses -/
abbrev Z := Addr × Nat × Nat
def nV (x : Nat) : V := .int (x : Int)
def zV (z : Z) : V := .ref z.1
def prV (z : Z) : HO := .tup [nV z.2.1, nV z.2.2]
/-- the tuples of zs stand in the heap -/
def PrZ (H : Hp) (zs : List Z) : Prop := ∀ z ∈ zs, H z.1 = some (prV z)
theorem PrZ.keep {H H' : Hp} {zs : List Z} (h : PrZ H zs) (e : Same H H') : PrZ H' zs := fun z m => e _ _ (h z m)
/-- all in range, no two the same -/
def Fit (m n : Nat) (ps : List (Nat × Nat)) : Prop := ps.Nodup ∧ ∀ p ∈ ps, p.1 < m ∧ p.2 < n
theorem map_eraseIdx' {α β : Type} (g : α → β) : ∀ (xs : List α) (i : Nat), (xs.map g).eraseIdx i = (xs.eraseIdx i).map g
  | [], _ => rfl
  | _ :: _, 0 => rfl
  | x :: xs, i + 1 => by
    show g x :: (xs.map g).eraseIdx i = g x :: (xs.eraseIdx i).map g
    rw [map_eraseIdx' g xs i]
theorem perm_eraseIdx {α : Type} : ∀ (xs : List α) (i : Nat) (h : i < xs.length), (xs[i] :: xs.eraseIdx i).Perm xs
  | x :: xs, 0, _ => .refl _
  | x :: xs, i + 1, h => (List.Perm.swap x _ _).trans ((perm_eraseIdx xs i (Nat.lt_of_succ_lt_succ h)).cons x)
theorem _root_.L2.Same.new {H : Hp} {p : Addr} {o : HO} (h : H p = none) : Same H (upd H p o) := Evl.Ex.new h
theorem _root_.L2.Same.mut {H H' : Hp} {p : Addr} {o : HO} (e : Same H H') (h : H p = none) : Same H (upd H' p o) := Evl.Ex.mut e h
theorem _root_.L2.Same.back {H H' : Hp} {p : Addr} (e : Same H H') (h : H' p = none) : H p = none := Evl.fresh_back e h
theorem sq {K : PySem.W.Frag} {H : Hp} {a : Addr} {xs : List V} (h : H a = some (.lst xs)) : SqL K H a xs := .inl (.inl h)
theorem sqt {K : PySem.W.Frag} {H : Hp} {a : Addr} {xs : List V} (h : H a = some (.tup xs)) : SqT K H a xs := .inl (.inl h)
end K03
set_option Elab.async false
set_option linter.all false
set_option maxRecDepth 100000
namespace K03
/-! ### labels -/
def mrg (L : List Nat) (a b : Nat) : List Nat := L.map fun x => if x = a ∨ x = b then min a b else x
def stp (m : Nat) (L : List Nat) (p : Nat × Nat) : List Nat := mrg L (L.getD p.1 0) (L.getD (m + p.2) 0)
def labs (m n : Nat) (ps : List (Nat × Nat)) : List Nat := ps.foldl (stp m) (List.range (m + n))
theorem mrg_max (L : List Nat) (a b : Nat) : (L.map fun x => if x = max a b then min a b else x) = mrg L a b := by
  refine List.map_congr_left fun x _ => ?_
  by_cases h : x = max a b
  · have h' : x = a ∨ x = b := by omega
    rw [if_pos h, if_pos h']
  · by_cases h' : x = a ∨ x = b
    · rw [if_neg h, if_pos h']
      omega
    · rw [if_neg h, if_neg h']
theorem mrg_len (L : List Nat) (a b : Nat) : (mrg L a b).length = L.length := List.length_map _
theorem foldl_len (m : Nat) : ∀ (ps : List (Nat × Nat)) (L : List Nat), (ps.foldl (stp m) L).length = L.length
  | [], _ => rfl
  | p :: ps, L => by
    show (ps.foldl (stp m) (stp m L p)).length = _
    rw [foldl_len m ps]
    exact mrg_len _ _ _
theorem labs_len (m n : Nat) (ps : List (Nat × Nat)) : (labs m n ps).length = m + n := by
  unfold labs
  rw [foldl_len, List.length_range]
theorem labs_take {m n i : Nat} {ps : List (Nat × Nat)} {p : Nat × Nat} (h : ps[i]? = some p) : labs m n (ps.take (i + 1)) = stp m (labs m n (ps.take i)) p := by
  unfold labs
  rw [List.take_add_one, h, List.foldl_append]
  rfl
/-- labels lead to themselves, and not up -/
structure Lab (L : List Nat) : Prop where
  idem : ∀ i, i < L.length → L.getD (L.getD i 0) 0 = L.getD i 0
  le : ∀ i, i < L.length → L.getD i 0 ≤ i
theorem getD_map {α β : Type} {L : List α} {g : α → β} {i : Nat} {d : α} {e : β} (h : i < L.length) : (L.map g).getD i e = g (L.getD i d) := by
  rw [List.getD_eq_getElem?_getD, List.getD_eq_getElem?_getD, List.getElem?_map, List.getElem?_eq_getElem h]
  rfl
theorem Lab.range (n : Nat) : Lab (List.range n) := by
  have g : ∀ i, i < n → (List.range n).getD i 0 = i := fun i h => by
    rw [List.getD_eq_getElem?_getD, List.getElem?_range h]
    rfl
  refine ⟨fun i h => ?_, fun i h => ?_⟩
  · rw [List.length_range] at h
    rw [g i h, g i h]
  · rw [List.length_range] at h
    rw [g i h]
    exact Nat.le_refl _
theorem Lab.stp {L : List Nat} {m : Nat} {p : Nat × Nat} (h : Lab L) (h1 : p.1 < L.length) (h2 : m + p.2 < L.length) : Lab (stp m L p) := by
  unfold K03.stp
  obtain ⟨a, ha⟩ : ∃ a, a = L.getD p.1 0 := ⟨_, rfl⟩
  obtain ⟨b, hb⟩ : ∃ b, b = L.getD (m + p.2) 0 := ⟨_, rfl⟩
  have ia : L.getD a 0 = a := by rw [ha]; exact h.idem _ h1
  have ib : L.getD b 0 = b := by rw [hb]; exact h.idem _ h2
  have la : a < L.length := by have := h.le _ h1; omega
  have lb : b < L.length := by have := h.le _ h2; omega
  rw [← ha, ← hb]
  have g : ∀ i, i < L.length → (mrg L a b).getD i 0 = if L.getD i 0 = a ∨ L.getD i 0 = b then min a b else L.getD i 0 := fun i hi => getD_map hi
  refine ⟨fun i hi => ?_, fun i hi => ?_⟩
  · rw [mrg_len] at hi
    rw [g i hi]
    by_cases c : L.getD i 0 = a ∨ L.getD i 0 = b
    · rw [if_pos c]
      rcases Nat.le_total a b with e | e
      · rw [Nat.min_eq_left e, g a la, ia, if_pos (.inl rfl), Nat.min_eq_left e]
      · rw [Nat.min_eq_right e, g b lb, ib, if_pos (.inr rfl), Nat.min_eq_right e]
    · rw [if_neg c]
      have hl : L.getD i 0 < L.length := Nat.lt_of_le_of_lt (h.le i hi) hi
      rw [g _ hl, h.idem i hi, if_neg c]
  · rw [mrg_len] at hi
    rw [g i hi]
    have := h.le i hi
    by_cases c : L.getD i 0 = a ∨ L.getD i 0 = b
    · rw [if_pos c]
      omega
    · rw [if_neg c]
      exact this
theorem Lab.fold {m : Nat} : ∀ {ps : List (Nat × Nat)} {L : List Nat}, Lab L → (∀ p ∈ ps, p.1 < L.length ∧ m + p.2 < L.length) → Lab (ps.foldl (K03.stp m) L)
  | [], _, h, _ => h
  | p :: ps, L, h, hp => by
    show Lab (ps.foldl (K03.stp m) (K03.stp m L p))
    refine Lab.fold (h.stp (hp p List.mem_cons_self).1 (hp p List.mem_cons_self).2) fun q hq => ?_
    rw [show (K03.stp m L p).length = L.length from mrg_len _ _ _]
    exact hp q (List.mem_cons_of_mem _ hq)
theorem labs_lab {m n : Nat} {ps : List (Nat × Nat)} (h : ∀ p ∈ ps, p.1 < m ∧ p.2 < n) : Lab (labs m n ps) := by
  refine Lab.fold (Lab.range _) fun p hp => ?_
  have := h p hp
  rw [List.length_range]
  omega
/-! ### pieces -/
def ours (m : Nat) (L : List Nat) (k : Nat) : List Nat := (List.range m).filter fun i => decide (L.getD i 0 = k)
def theirs (m n : Nat) (L : List Nat) (k : Nat) : List Nat := (List.range n).filter fun c => decide (L.getD (m + c) 0 = k)
def heads (L : List Nat) : List Nat := (List.range L.length).filter fun k => decide (L.getD k 0 = k)
def pcs (m n : Nat) (L : List Nat) : List (List Nat × List Nat) := (heads L).map fun k => (ours m L k, theirs m n L k)
def places (L : List Nat) (k : Nat) : List Nat := (List.range L.length).filter fun i => decide (L.getD i 0 = k)
theorem range_split (m n : Nat) : List.range (m + n) = List.range m ++ (List.range n).map (m + ·) := List.range_add
theorem places_ours {m n : Nat} {L : List Nat} (h : L.length = m + n) (k : Nat) : ((places L k).filter fun p => decide (p < m)) = ours m L k := by
  unfold places ours
  rw [h, range_split, List.filter_append, List.filter_append, List.filter_filter, List.filter_filter]
  have e : ((List.range n).map (m + ·)).filter (fun a => decide (a < m) && decide (L.getD a 0 = k)) = [] := by
    refine List.filter_eq_nil_iff.mpr fun a ha => ?_
    obtain ⟨c, _, rfl⟩ := List.mem_map.mp ha
    have : ¬ m + c < m := by omega
    simp only [this, decide_false, Bool.false_and]
    exact Bool.false_ne_true
  rw [e, List.append_nil]
  refine List.filter_congr fun a ha => ?_
  have : a < m := List.mem_range.mp ha
  rw [decide_eq_true this, Bool.true_and]
theorem places_theirs {m n : Nat} {L : List Nat} (h : L.length = m + n) (k : Nat) : (((places L k).filter fun p => decide (m ≤ p)).map (· - m)) = theirs m n L k := by
  unfold places theirs
  rw [h, range_split, List.filter_append, List.filter_append, List.filter_filter, List.filter_filter]
  have e : (List.range m).filter (fun a => decide (m ≤ a) && decide (L.getD a 0 = k)) = [] := by
    refine List.filter_eq_nil_iff.mpr fun a ha => ?_
    have := List.mem_range.mp ha
    have : ¬ m ≤ a := by omega
    simp only [this, decide_false, Bool.false_and]
    exact Bool.false_ne_true
  rw [e, List.nil_append, List.filter_map, List.map_map]
  rw [show ((fun x : Nat => x - m) ∘ fun x => m + x) = id from funext fun x => Nat.add_sub_cancel_left m x, List.map_id]
  refine List.filter_congr fun a _ => ?_
  show (decide (m ≤ m + a) && decide (L.getD (m + a) 0 = k)) = _
  rw [decide_eq_true (Nat.le_add_right m a), Bool.true_and]
/-- the labels that occur are the heads -/
theorem mem_heads {L : List Nat} (h : Lab L) {k : Nat} : k ∈ heads L ↔ k ∈ L := by
  unfold heads
  rw [List.mem_filter, List.mem_range, decide_eq_true_iff]
  constructor
  · rintro ⟨h1, h2⟩
    rw [List.getD_eq_getElem?_getD, List.getElem?_eq_getElem h1] at h2
    exact h2 ▸ List.getElem_mem h1
  · intro hk
    obtain ⟨i, hi, e⟩ := List.getElem_of_mem hk
    have e1 : L.getD i 0 = k := by
      rw [List.getD_eq_getElem?_getD, List.getElem?_eq_getElem hi]
      exact e
    have := h.le i hi
    refine ⟨by omega, ?_⟩
    have := h.idem i hi
    rwa [e1] at this
theorem heads_sorted (L : List Nat) : (heads L).Pairwise (· < ·) := List.Pairwise.sublist List.filter_sublist List.pairwise_lt_range
/-- two rising lists with the same members are the same -/
theorem rising_eq : ∀ {xs ys : List Int}, xs.Pairwise (· < ·) → ys.Pairwise (· < ·) → (∀ z, z ∈ xs ↔ z ∈ ys) → xs = ys
  | [], [], _, _, _ => rfl
  | [], y :: ys, _, _, h => nomatch (h y).mpr List.mem_cons_self
  | x :: xs, [], _, _, h => nomatch (h x).mp List.mem_cons_self
  | x :: xs, y :: ys, hx, hy, h => by
    obtain ⟨hx1, hx2⟩ := List.pairwise_cons.mp hx
    obtain ⟨hy1, hy2⟩ := List.pairwise_cons.mp hy
    have e : x = y := by
      rcases List.mem_cons.mp ((h x).mp List.mem_cons_self) with e | e
      · exact e
      · rcases List.mem_cons.mp ((h y).mpr List.mem_cons_self) with e' | e'
        · exact e'.symm
        · have a := hx1 y e'
          have b := hy1 x e
          omega
    subst e
    rw [rising_eq hx2 hy2 fun z => ?_]
    constructor
    · intro hz
      rcases List.mem_cons.mp ((h z).mp (List.mem_cons_of_mem _ hz)) with e | e
      · have := hx1 z hz
        omega
      · exact e
    · intro hz
      rcases List.mem_cons.mp ((h z).mpr (List.mem_cons_of_mem _ hz)) with e | e
      · have := hy1 z hz
        omega
      · exact e
end K03
set_option Elab.async false
set_option linter.all false
set_option maxRecDepth 100000
namespace K03
open PySem L2
/-! ### the first error due of a lot -/
/-- false: no such depot; true: a second time -/
def scan (m : Nat) : List Int → List Int → Option (Bool × Int)
  | _, [] => none
  | pre, x :: xs => if 0 ≤ x ∧ x < (m : Int) then (if x ∈ pre then some (true, x) else scan m (pre ++ [x]) xs) else some (false, x)
def due (m : Nat) (ns : List Int) : Option (Bool × Int) := scan m [] ns
def rest (m : Nat) (ns : List Int) (i : Nat) : Option (Bool × Int) := scan m (ns.take i) (ns.drop i)
theorem rest_0 (m : Nat) (ns : List Int) : rest m ns 0 = due m ns := rfl
theorem rest_end (m : Nat) (ns : List Int) {i : Nat} (h : ns.length ≤ i) : rest m ns i = none := by
  unfold rest
  rw [List.drop_eq_nil_iff.mpr h]
  rfl
theorem rest_at {m : Nat} {ns : List Int} {i : Nat} {x : Int} (h : ns[i]? = some x) : rest m ns i = if 0 ≤ x ∧ x < (m : Int) then (if x ∈ ns.take i then some (true, x) else rest m ns (i + 1)) else some (false, x) := by
  obtain ⟨hi, e⟩ := List.getElem?_eq_some_iff.mp h
  unfold rest
  rw [List.drop_eq_getElem_cons hi, e]
  have e2 : ns.take (i + 1) = ns.take i ++ [x] := by
    rw [List.take_add_one, h]
    rfl
  rw [e2]
  rfl
theorem due_in {m : Nat} : ∀ {xs pre : List Int}, scan m pre xs = none → ∀ x ∈ xs, 0 ≤ x ∧ x < (m : Int)
  | [], _, _, _, h => nomatch h
  | y :: ys, pre, e, x, h => by
    unfold scan at e
    by_cases c : 0 ≤ y ∧ y < (m : Int)
    · rw [if_pos c] at e
      by_cases c2 : y ∈ pre
      · rw [if_pos c2] at e
        cases e
      · rw [if_neg c2] at e
        rcases List.mem_cons.mp h with h | h
        · rw [h]
          exact c
        · exact due_in e x h
    · rw [if_neg c] at e
      cases e
theorem inV_ints (x : Int) : ∀ ns : List Int, inV (.int x) (ns.map V.int) = decide (x ∈ ns)
  | [] => rfl
  | y :: ys => by
    have e := inV_ints x ys
    unfold inV at e ⊢
    rw [List.map_cons, List.any_cons, e]
    by_cases h : x = y
    · subst h
      have : eqV (.int x) (.int x) = true := by simp [eqV]
      rw [this, Bool.true_or]
      exact (decide_eq_true List.mem_cons_self).symm
    · have h' : ¬ y = x := fun z => h z.symm
      have : eqV (.int y) (.int x) = false := by simp [eqV, h']
      rw [this, Bool.false_or]
      by_cases c : x ∈ ys
      · rw [decide_eq_true c]
        exact (decide_eq_true (List.mem_cons_of_mem _ c)).symm
      · rw [decide_eq_false c]
        exact (decide_eq_false fun z => (List.mem_cons.mp z).elim h c).symm
theorem flat_ints : ∀ ns : List Int, (ns.map V.int).all flatV = true
  | [] => rfl
  | _ :: ys => by
    rw [List.map_cons, List.all_cons, flat_ints ys]
    rfl
/-! ### who is reached -/
def hits (zs : List (Nat × Nat)) (ns : List Int) (c : Nat) : Bool := zs.any fun p => decide (p.2 = c) && decide ((p.1 : Int) ∈ ns)
def rch (n : Nat) (zs : List (Nat × Nat)) (ns : List Int) : List Nat := (List.range n).filter (hits zs ns)
theorem hits_iff {zs : List (Nat × Nat)} {ns : List Int} {c : Nat} : hits zs ns c = true ↔ ∃ p ∈ zs, p.2 = c ∧ (p.1 : Int) ∈ ns := by
  unfold hits
  rw [List.any_eq_true]
  constructor
  · rintro ⟨p, hp, h⟩
    rw [Bool.and_eq_true, decide_eq_true_iff, decide_eq_true_iff] at h
    exact ⟨p, hp, h⟩
  · rintro ⟨p, hp, h⟩
    exact ⟨p, hp, by rw [Bool.and_eq_true, decide_eq_true_iff, decide_eq_true_iff]; exact h⟩
theorem rch_sorted (n : Nat) (zs : List (Nat × Nat)) (ns : List Int) : ((rch n zs ns).map fun x : Nat => (x : Int)).Pairwise (· < ·) := by
  rw [List.pairwise_map]
  exact (List.Pairwise.sublist List.filter_sublist List.pairwise_lt_range).imp fun h => Int.ofNat_lt.mpr h
theorem mem_rch {n : Nat} {zs : List (Nat × Nat)} {ns : List Int} (hin : ∀ p ∈ zs, p.2 < n) {k : Int} : k ∈ (rch n zs ns).map (fun x : Nat => (x : Int)) ↔ ∃ p ∈ zs, (p.2 : Int) = k ∧ (p.1 : Int) ∈ ns := by
  rw [List.mem_map]
  unfold rch
  constructor
  · rintro ⟨c, hc, rfl⟩
    obtain ⟨p, hp, e, h⟩ := hits_iff.mp (List.mem_filter.mp hc).2
    exact ⟨p, hp, by rw [e], h⟩
  · rintro ⟨p, hp, rfl, h⟩
    exact ⟨p.2, List.mem_filter.mpr ⟨List.mem_range.mpr (hin p hp), hits_iff.mpr ⟨p, hp, rfl, h⟩⟩, rfl⟩
theorem rch_of {n : Nat} {zs : List (Nat × Nat)} {ns xs : List Int} (hin : ∀ p ∈ zs, p.2 < n) (h1 : xs.Pairwise (· < ·)) (h2 : ∀ k, k ∈ xs ↔ ∃ p ∈ zs, (p.2 : Int) = k ∧ (p.1 : Int) ∈ ns) : xs = (rch n zs ns).map fun x : Nat => (x : Int) :=
  rising_eq h1 (rch_sorted n zs ns) fun z => (h2 z).trans (mem_rch hin).symm
end K03
set_option Elab.async false
set_option linter.all false
set_option maxRecDepth 100000
namespace K03
open PySem L2
theorem perm_map_inv {α β : Type} {g : α → β} {ys xs : List β} (h : ys.Perm xs) : ∀ zs : List α, xs = zs.map g → ∃ zs' : List α, ys = zs'.map g ∧ zs'.Perm zs := by
  induction h with
  | nil => exact fun zs e => ⟨[], rfl, by
      cases zs with
      | nil => exact .refl _
      | cons z zs => cases e⟩
  | cons x _ ih =>
    intro zs e
    cases zs with
    | nil => cases e
    | cons z zs =>
      obtain ⟨e1, e2⟩ := List.cons.inj e
      obtain ⟨zs', h1, h2⟩ := ih zs e2
      exact ⟨z :: zs', by rw [h1, e1]; rfl, h2.cons z⟩
  | swap x y l =>
    intro zs e
    match zs, e with
    | z1 :: z2 :: zs, e =>
      obtain ⟨e1, e2⟩ := List.cons.inj e
      obtain ⟨e3, e4⟩ := List.cons.inj e2
      exact ⟨z2 :: z1 :: zs, by rw [e1, e3, e4]; rfl, List.Perm.swap _ _ _⟩
  | trans _ _ ih1 ih2 =>
    intro zs e
    obtain ⟨zs1, h1, p1⟩ := ih2 zs e
    obtain ⟨zs2, h2, p2⟩ := ih1 zs1 h1
    exact ⟨zs2, h2, p2.trans p1⟩
/-- two lists in strict order with the same members are the same -/
theorem strict_eq {α : Type} {lt : α → α → Prop} (as : ∀ a b, lt a b → ¬ lt b a) : ∀ {xs ys : List α}, xs.Pairwise lt → ys.Pairwise lt → (∀ z, z ∈ xs ↔ z ∈ ys) → xs = ys
  | [], [], _, _, _ => rfl
  | [], y :: ys, _, _, h => nomatch (h y).mpr List.mem_cons_self
  | x :: xs, [], _, _, h => nomatch (h x).mp List.mem_cons_self
  | x :: xs, y :: ys, hx, hy, h => by
    obtain ⟨hx1, hx2⟩ := List.pairwise_cons.mp hx
    obtain ⟨hy1, hy2⟩ := List.pairwise_cons.mp hy
    have e : x = y := by
      rcases List.mem_cons.mp ((h x).mp List.mem_cons_self) with e | e
      · exact e
      · rcases List.mem_cons.mp ((h y).mpr List.mem_cons_self) with e' | e'
        · exact e'.symm
        · exact absurd (hy1 x e) (as _ _ (hx1 y e'))
    subst e
    rw [strict_eq as hx2 hy2 fun z => ?_]
    constructor
    · intro hz
      rcases List.mem_cons.mp ((h z).mp (List.mem_cons_of_mem _ hz)) with e | e
      · subst e
        have := hx1 z hz
        exact absurd this (as _ _ this)
      · exact e
    · intro hz
      rcases List.mem_cons.mp ((h z).mpr (List.mem_cons_of_mem _ hz)) with e | e
      · subst e
        have := hy1 z hz
        exact absurd this (as _ _ this)
      · exact e
def ltN (a b : Nat × Nat) : Prop := a.1 < b.1 ∨ (a.1 = b.1 ∧ a.2 < b.2)
theorem ltN_as (a b : Nat × Nat) (h : ltN a b) : ¬ ltN b a := by
  unfold ltN at *
  omega
/-- ps' is ps in ascending order -/
def Asc (ps' ps : List (Nat × Nat)) : Prop := ps'.Perm ps ∧ ps'.Pairwise ltN
theorem Asc.uniq {a b ps : List (Nat × Nat)} (h : Asc a ps) (k : Asc b ps) : a = b := strict_eq ltN_as h.2 k.2 fun _ => h.1.mem_iff.trans k.1.mem_iff.symm
def kH (H : Hp) : V → Int × Int := fun y => match y with
  | .ref t => match H t with
    | some (.tup [.int a, .int b]) => (a, b)
    | _ => (0, 0)
  | _ => (0, 0)
theorem kH_at {H : Hp} {z : Z} (h : H z.1 = some (prV z)) : kH H (zV z) = ((z.2.1 : Int), (z.2.2 : Int)) := by
  show (match H z.1 with
    | some (.tup [.int a, .int b]) => (a, b)
    | _ => ((0 : Int), (0 : Int))) = _
  rw [h]
  rfl
theorem sorted_pairs {H : Hp} {zs : List Z} (pr : PrZ H zs) (nd : (zs.map (·.2)).Nodup) {ys : List V} (hs : SrtO.Srtd (ltP (kH H)) ys) (hb : SrtO.Stb (ltP (kH H)) ys (zs.map zV)) :
    ∃ zs' : List Z, ys = zs'.map zV ∧ zs'.Perm zs ∧ Asc (zs'.map (·.2)) (zs.map (·.2)) := by
  obtain ⟨zs', rfl, pm⟩ := perm_map_inv hb.perm zs rfl
  refine ⟨zs', rfl, pm, pm.map _, ?_⟩
  have nd' : (zs'.map (·.2)).Nodup := (pm.map _).nodup_iff.mpr nd
  rw [List.nodup_iff_pairwise_ne] at nd'
  rw [List.pairwise_map] at nd' ⊢
  have hs' : zs'.Pairwise fun x y => ltP (kH H) (zV y) (zV x) = false := List.pairwise_map.mp hs
  have both := hs'.and nd'
  refine List.Pairwise.imp_of_mem ?_ both
  intro a b ha hb ⟨h1, h2⟩
  have ka := kH_at (pr a (pm.mem_iff.mp ha))
  have kb := kH_at (pr b (pm.mem_iff.mp hb))
  unfold ltP at h1
  rw [ka, kb] at h1
  unfold ltN
  have ne : ¬ (a.2.1 = b.2.1 ∧ a.2.2 = b.2.2) := fun ⟨e1, e2⟩ => h2 (Prod.ext e1 e2)
  have h1 := SrtO.lexB_no.mp h1
  dsimp only at h1
  omega
end K03
set_option Elab.async false
set_option linter.all false
set_option maxRecDepth 100000
set_option maxHeartbeats 4000000
namespace K03
open PySem PySem.Spec PyProof.Rows L2
section
variable {P : Program} {w : World} {K : PySem.W.Frag} {mg : Str → Option Value} {base : Heap} {f : Addr} {fd : FuncData}
theorem len1 {v : V} : [v].length ≤ sizeLine := Nat.le_of_lt (small1000 (by show 1 ≤ 1000; decide))
theorem len3 {a b c : V} : [a, b, c].length ≤ sizeLine := Nat.le_of_lt (small1000 (by show 3 ≤ 1000; decide))
/-! ### _law_take -/
abbrev law_take_N : List Str := ["pool", "many", "digit"]
theorem law_take_sc : FnScope ["pool", "many", "digit"] ["pool", "many"] (defScope law_take_st) := ⟨rfl, rfl, rfl, by decide +kernel, rfl, by decide +kernel, by decide +kernel⟩
def spTake : Sp := fun vs H Q _ => ∃ (p : Addr) (x m : Int), vs = [.ref p, .int m] ∧ H p = some (.lst [.int x]) ∧ 0 < m ∧ m < 1073741824 ∧ ∀ (d y : Int) (H' : Hp), 0 ≤ d → d < m → But p H H' → H' p = some (.lst [.int y]) → Q (.int d) H'
theorem ok_take (F : FnS K "_law_take" law_take_st f fd) (m_int : mg "int" = none) : FnOk P w K mg base (L2N.CX P w) 1 f fd ["pool", "many"] spTake := by
  refine F.ok law_take_sc (fun vs H Q E h => ?_) (fun cdv A outer s H vs Q E hr h => ?_)
  · obtain ⟨p, x, m, rfl, _⟩ := h
    rfl
  · obtain ⟨p, x, m, rfl, hp, h0, h1, q⟩ := h
    have hm : m ≠ 0 := by omega
    have hc : CDivN x m := ⟨hm, by omega⟩
    refine ⟨_, (pss_cons (ps_set (i := 2) law_take_sc.nd rfl (Or.inl rfl) (pe_op op_modN (pe_callTy call_int1 (by rfl) m_int (by decide +kernel) (pa_cons (pe_ix ix_list (pv 0) pe_int (fun _ _ => rfl)) pa_nil)) (pv 1)))
      (pss_cons (ps_asg (pe_op op_fdivN (pe_ix ix_list (pv 0) pe_int (fun _ _ => rfl)) (pv 1)) (pg_sub (pv 0) pe_int set_list))
      (pss_one (ps_ret (pv 2))))), ?_⟩
    refine ⟨.ref p, rfl, p, [.int x], 0, .int x, rfl, rfl, sq hp, rfl, .inl ⟨x, rfl, .int m, rfl, x, m, rfl, rfl, hm, ?_⟩⟩
    refine ⟨.ref p, rfl, p, [.int x], 0, .int x, rfl, rfl, sq hp, rfl, .int m, rfl, x, m, rfl, rfl, hc, ?_⟩
    refine ⟨.ref p, rfl, p, [.int x], 0, 0, rfl, rfl, hp, rfl, .int (x.fmod m), rfl, ?_⟩
    have e : x.fmod m = x % m := Int.fmod_eq_emod_of_nonneg x (by omega)
    exact q _ _ _ (by rw [e]; exact Int.emod_nonneg x hm) (by rw [e]; exact Int.emod_lt_of_pos x h0) (But.at_ fun _ _ _ z => z) upd_same
/-! ### _law_cell_of -/
abbrev law_cell_of_N : List Str := ["script", "k", "mixed", "cell"]
theorem law_cell_of_sc : FnScope ["script", "k", "mixed", "cell"] ["script", "k"] (defScope law_cell_of_st) := ⟨rfl, rfl, rfl, by decide +kernel, rfl, by decide +kernel, by decide +kernel⟩
def spCell (K : PySem.W.Frag) : Sp := fun vs H Q _ => ∃ (a : Addr) (ns : List Int) (k : Int), vs = [.ref a, .int k] ∧ SqL K H a (ns.map V.int) ∧ 0 ≤ k ∧ k < 1000 ∧ ∀ x : Int, Q (.int x) H
theorem ok_cell (F : FnS K "_law_cell_of" law_cell_of_st f fd) (m_int : mg "int" = none) (m_len : mg "len" = none) : FnOk P w K mg base (L2N.CX P w) 1 f fd ["script", "k"] (spCell K) := by
  refine F.ok law_cell_of_sc (fun vs H Q E h => ?_) (fun cdv A outer s H vs Q E hr h => ?_)
  · obtain ⟨a, ns, k, rfl, _⟩ := h
    rfl
  · obtain ⟨a, ns, k, rfl, hs, h0, h1, q⟩ := h
    refine ⟨_, (pss_cons (ps_if (pt_cmpR op_lt (pv 1) (pe_callB call_len_seq (by rfl) m_len (by decide +kernel) (pa_cons (pv 0) pa_nil)) (nomark _)) (pss_one (ps_ret (pe_ix ix_list (pv 0) (pv 1) (fun _ _ => rfl)))) pss_nil)
      (pss_cons (ps_set (i := 2) law_cell_of_sc.nd rfl (Or.inl rfl) (pe_op op_mul pe_int (pe_op op_add (pv 1) pe_int)))
      (pss_cons (ps_for (passes_of rfl) rfl (pi_list (pv 0)) (pg_name (i := 3) law_cell_of_sc.nd rfl (Or.inl rfl))
      (pss_one (ps_set (i := 2) law_cell_of_sc.nd rfl (Or.inl rfl) (pe_op op_modN (pe_callTy call_int1 (by rfl) m_int (by decide +kernel) (pa_cons (pe_op op_add (pe_op op_add (pe_op op_mul (pv 2) pe_int) (pe_op op_mul (pv 3) pe_int)) pe_int) pa_nil)) pe_int))))
      (pss_one (ps_ret (pv 2)))))), ?_⟩
    refine ⟨.int k, rfl, .ref a, rfl, a, _, rfl, .inl hs, k, _, rfl, rfl, _, rfl, ite2 (fun e => ?_) (fun e => ?_)⟩
    · have e1 := of_decide_eq_true e
      rw [List.length_map] at e1
      obtain ⟨j, rfl⟩ : ∃ j : Nat, k = (j : Int) := ⟨k.toNat, by omega⟩
      have hj : j < ns.length := by omega
      refine ⟨.ref a, rfl, .int j, rfl, a, _, (j : Int), .int ns[j], rfl, rfl, hs, atI_nat ?_, ?_⟩
      · rw [List.getElem?_map, List.getElem?_eq_getElem hj]
        rfl
      · exact q _
    · refine ⟨.int k, rfl, k, 1, rfl, rfl, 7919, k + 1, rfl, rfl, .inl (by decide), ?_⟩
      refine ⟨.ref a, rfl, a, rfl, ⟨_, hs⟩, ?_⟩
      refine for_list (K := K) (a := a) (xs := ns.map V.int) (fun i σ H' => ∃ (m : Int) (y : Option V), σ = [some (.ref a), some (.int k), some (.int m), y] ∧ H' = H) ⟨_, none, rfl, rfl⟩ (fun i σ H' _ h => ?_) (fun i x σ H' hx h => ?_) (fun σ H' h => ?_)
      · obtain ⟨m, y, _, rfl⟩ := h
        exact hs
      · obtain ⟨m, y, rfl, rfl⟩ := h
        obtain ⟨c, rfl⟩ : ∃ c, x = V.int c := by
          rw [List.getElem?_map] at hx
          cases e : ns[i]? with
          | none => rw [e] at hx; cases hx
          | some c => rw [e] at hx; exact ⟨c, (Option.some.inj hx).symm⟩
        refine ⟨.int m, rfl, m, 48271, rfl, rfl, .inr (by decide), .int c, rfl, c, 69621, rfl, rfl, .inr (by decide), _, _, rfl, rfl, _, _, rfl, rfl, .inl ⟨_, rfl, _, _, rfl, rfl, (show (_ : Int) ≠ 0 by decide), _, _, rfl, rfl⟩⟩
      · obtain ⟨m, y, rfl, rfl⟩ := h
        exact ⟨_, rfl, q _⟩
/-! ### _law_source -/
abbrev law_source_N : List Str := ["script", "k", "cell", "state", "great", "step"]
theorem law_source_sc : FnScope ["script", "k", "cell", "state", "great", "step"] ["script", "k"] (defScope law_source_st) := ⟨rfl, rfl, rfl, by decide +kernel, rfl, by decide +kernel, by decide +kernel⟩
def spSource (K : PySem.W.Frag) : Sp := fun vs H Q _ => ∃ (a : Addr) (ns : List Int) (k : Int), vs = [.ref a, .int k] ∧ SqL K H a (ns.map V.int) ∧ 0 ≤ k ∧ k < 1000 ∧ ∀ (p : Addr) (x : Int), H p = none → Q (.ref p) (upd H p (.lst [.int x]))
theorem ok_source {f1 : Addr} {fd1 : FuncData} (F : FnS K "_law_source" law_source_st f fd) (m_int : mg "int" = none) (m_range : mg "range" = none) (D_law_cell_of : Dn P w K mg base 1 "_law_cell_of" ["script", "k"] (spCell K) f1 fd1) : FnOk P w K mg base (L2N.CX P w) 2 f fd ["script", "k"] (spSource K) := by
  refine F.ok law_source_sc (fun vs H Q E h => ?_) (fun cdv A outer s H vs Q E hr h => ?_)
  · obtain ⟨a, ns, k, rfl, _⟩ := h
    rfl
  · obtain ⟨a, ns, k, rfl, hs, h0, h1, q⟩ := h
    refine ⟨_, (pss_cons (ps_set (i := 2) law_source_sc.nd rfl (Or.inl rfl) (pe_call D_law_cell_of.ok (hr.mono (by decide)) rfl D_law_cell_of.g D_law_cell_of.kp D_law_cell_of.b .nil ErrX.passN (pa_cons (pv 0) (pa_cons (pv 1) pa_nil))))
      (pss_cons (ps_if (pt_cmpR op_ge (pv 2) (pe_op op_pow pe_int pe_int) (nomark _)) (pss_one (ps_ret (pe_lst (pa_cons (pv 2) pa_nil)))) pss_nil)
      (pss_cons (ps_set (i := 3) law_source_sc.nd rfl (Or.inl rfl) (pe_op op_modN (pe_callTy call_int1 (by rfl) m_int (by decide +kernel) (pa_cons (pe_op op_add (pe_op op_add (pe_op op_mul (pv 2) pe_int) (pe_op op_mul (pv 1) pe_int)) pe_int) pa_nil)) pe_int))
      (pss_cons (ps_set (i := 4) law_source_sc.nd rfl (Or.inl rfl) pe_int)
      (pss_cons (ps_for (passes_of rfl) rfl (pi_range1 rfl m_range (pa_cons pe_int pa_nil)) (pg_name (i := 5) law_source_sc.nd rfl (Or.inl rfl))
      (pss_cons (ps_set (i := 3) law_source_sc.nd rfl (Or.inl rfl) (pe_op op_modN (pe_callTy call_int1 (by rfl) m_int (by decide +kernel) (pa_cons (pe_op op_add (pe_op op_add (pe_op op_add (pe_op op_mul (pv 3) (pv 3)) (pe_op op_mul (pv 3) pe_int)) (pe_op op_mul (pv 5) pe_int)) pe_int) pa_nil)) pe_int))
      (pss_one (ps_set (i := 4) law_source_sc.nd rfl (Or.inl rfl) (pe_op op_add (pe_op op_mul (pv 4) pe_int) (pv 3))))))
      (pss_one (ps_ret (pe_lst (pa_cons (pv 4) pa_nil))))))))), ?_⟩
    refine ⟨.ref a, rfl, .int k, rfl, a, ns, k, rfl, hs, h0, h1, fun x => ?_⟩
    refine ⟨.int x, rfl, 10, 18, rfl, rfl, ⟨by decide, by decide, by decide⟩, x, _, rfl, rfl, _, rfl, ite2 (fun e => ?_) (fun e => ?_)⟩
    · exact ⟨.int x, rfl, len1, fun p hp => q p x hp⟩
    · refine ⟨.int x, rfl, x, 48271, rfl, rfl, .inr (by decide), .int k, rfl, k, 69621, rfl, rfl, .inr (by decide), _, _, rfl, rfl, _, _, rfl, rfl, .inl ⟨_, rfl, _, _, rfl, rfl, (show (_ : Int) ≠ 0 by decide), ?_⟩⟩
      refine ⟨12, rfl, by decide, by decide, ?_⟩
      refine for_range (lo := 0) (n := 12) (fun i σ H' => ∃ (m g : Int) (y : Option V), σ = [some (.ref a), some (.int k), some (.int x), some (.int m), some (.int g), y] ∧ H' = H ∧ 0 ≤ m ∧ m < 2147483648) ⟨_, 0, none, rfl, rfl, ?_, ?_⟩ (fun i σ H' hi h => ?_) (fun σ H' h => ?_)
      · rw [Int.fmod_eq_emod_of_nonneg _ (by decide)]
        exact Int.emod_nonneg _ (by decide)
      · rw [Int.fmod_eq_emod_of_nonneg _ (by decide)]
        exact Int.lt_trans (Int.emod_lt_of_pos _ (by decide)) (by decide)
      · obtain ⟨m, g, y, rfl, rfl, m0, m1⟩ := h
        refine ⟨.int m, rfl, .int m, rfl, m, m, rfl, rfl, .inl ⟨by omega, by omega⟩, .int m, rfl, m, 48271, rfl, rfl, .inr (by decide), _, _, rfl, rfl, .int (0 + (i : Int)), rfl, _, 7919, rfl, rfl, .inr (by decide), _, _, rfl, rfl, _, _, rfl, rfl, .inl ⟨_, rfl, _, _, rfl, rfl, (show (_ : Int) ≠ 0 by decide), ?_⟩⟩
        refine ⟨.int g, rfl, g, 2147483629, rfl, rfl, .inr (by decide), .int _, rfl, _, _, rfl, rfl, ?_⟩
        refine ⟨_, _, _, rfl, rfl, ?_, ?_⟩
        · rw [Int.fmod_eq_emod_of_nonneg _ (by decide)]
          exact Int.emod_nonneg _ (by decide)
        · rw [Int.fmod_eq_emod_of_nonneg _ (by decide)]
          exact Int.lt_trans (Int.emod_lt_of_pos _ (by decide)) (by decide)
      · obtain ⟨m, g, y, rfl, rfl, _⟩ := h
        exact ⟨.int g, rfl, len1, fun p hp => q p g hp⟩
/-! ### _law_draw_far -/
def spFar : Sp := fun vs H Q _ => ∃ (p : Addr) (x : Int), vs = [.ref p] ∧ H p = some (.lst [.int x]) ∧ ∀ (d y : Int) (H' : Hp), But p H H' → H' p = some (.lst [.int y]) → Q (.int d) H'
end
end K03
set_option Elab.async false
set_option linter.all false
set_option maxRecDepth 100000
set_option maxHeartbeats 4000000
namespace K03
open PySem PySem.Spec PyProof.Rows L2
theorem len2 {a b : V} : [a, b].length ≤ sizeLine := Nat.le_of_lt (small1000 (by show 2 ≤ 1000; decide))
theorem len0 : ([] : List V).length ≤ sizeLine := Nat.zero_le _
theorem grid_nodup (m n : Nat) : ((List.range (m * n)).map fun k => (k / n, k % n)).Nodup := by
  rw [List.nodup_iff_pairwise_ne, List.pairwise_map]
  refine List.Pairwise.imp ?_ (List.nodup_range (n := m * n))
  intro a b h e
  have e1 : a / n = b / n := congrArg Prod.fst e
  have e2 : a % n = b % n := congrArg Prod.snd e
  have h1 := Nat.div_add_mod a n
  have h2 := Nat.div_add_mod b n
  rw [e1, e2, h2] at h1
  exact h h1.symm
theorem grid_in {m n : Nat} {p : Nat × Nat} (h : p ∈ (List.range (m * n)).map fun k => (k / n, k % n)) : p.1 < m ∧ p.2 < n := by
  obtain ⟨k, hk, rfl⟩ := List.mem_map.mp h
  have hk := List.mem_range.mp hk
  have hn : 0 < n := Nat.pos_of_ne_zero fun z => by
    subst z
    omega
  exact ⟨Nat.div_lt_of_lt_mul (by rwa [Nat.mul_comm n m]), Nat.mod_lt _ hn⟩
section
variable {P : Program} {w : World} {K : PySem.W.Frag} {mg : Str → Option Value} {base : Heap} {f : Addr} {fd : FuncData}
/-! ### _law_draw -/
abbrev law_draw_N : List Str := ["pool", "sizes", "left", "k", "pairs", "step"]
theorem law_draw_sc : FnScope ["pool", "sizes", "left", "k", "pairs", "step"] ["pool"] (defScope law_draw_st) := ⟨rfl, rfl, rfl, by decide +kernel, rfl, by decide +kernel, by decide +kernel⟩
/-- two sizes and different fitting pairs, told at t -/
structure Drawn (H : Hp) (t : Addr) (m n : Nat) (zs : List Z) (ts q : Addr) : Prop where
  m1 : 1 ≤ m
  m8 : m ≤ 8
  n1 : 1 ≤ n
  n8 : n ≤ 8
  ht : H t = some (.tup [.ref ts, .ref q])
  hs : H ts = some (.tup [nV m, nV n])
  hq : H q = some (.lst (zs.map zV))
  pr : PrZ H zs
  fit : Fit m n (zs.map (·.2))
  few : zs.length ≤ 16
def spDraw : Sp := fun vs H Q _ => ∃ (p : Addr) (x : Int), vs = [.ref p] ∧ H p = some (.lst [.int x]) ∧ ∀ (H' : Hp) (t ts q : Addr) (y : Int) (m n : Nat) (zs : List Z), But p H H' → H' p = some (.lst [.int y]) → Drawn H' t m n zs ts q → Q (.ref t) H'
theorem ok_draw {f1 : Addr} {fd1 : FuncData} (F : FnS K "_law_draw" law_draw_st f fd) (m_int : mg "int" = none) (m_len : mg "len" = none) (m_min : mg "min" = none) (m_range : mg "range" = none) (D_law_take : Dn P w K mg base 1 "_law_take" ["pool", "many"] spTake f1 fd1) : FnOk P w K mg base (L2N.CX P w) 2 f fd ["pool"] spDraw := by
  refine F.ok law_draw_sc (fun vs H Q E h => ?_) (fun cdv A outer s H vs Q E hr h => ?_)
  · obtain ⟨p, x, rfl, _⟩ := h
    rfl
  · obtain ⟨p, x, rfl, hp, q⟩ := h
    refine ⟨_, (pss_cons (ps_set (i := 1) law_draw_sc.nd rfl (Or.inl rfl) (pe_tup (pa_cons (pe_op op_add pe_int (pe_call D_law_take.ok (hr.mono (by decide)) rfl D_law_take.g D_law_take.kp D_law_take.b .nil ErrX.passN (pa_cons (pv 0) (pa_cons pe_int pa_nil)))) (pa_cons (pe_op op_add pe_int (pe_call D_law_take.ok (hr.mono (by decide)) rfl D_law_take.g D_law_take.kp D_law_take.b .nil ErrX.passN (pa_cons (pv 0) (pa_cons pe_int pa_nil)))) pa_nil))))
      (pss_cons (ps_set (i := 2) law_draw_sc.nd rfl (Or.inl rfl) (pe_lst pa_nil))
      (pss_cons (ps_for (passes_of rfl) rfl (pi_range1 rfl m_range (pa_cons (pe_op op_mul (pe_ix ix_tup (pv 1) pe_int (fun _ _ => rfl)) (pe_ix ix_tup (pv 1) pe_int (fun _ _ => rfl))) pa_nil)) (pg_name (i := 3) law_draw_sc.nd rfl (Or.inl rfl))
      (pss_one (ps_expr (pe_bm PySem.F.plainAttrs_list PySem.F.slot_list_append PySem.F.type_list_append mt_append (pv 2) (pa_cons (pe_tup (pa_cons (pe_op op_fdivN (pv 3) (pe_ix ix_tup (pv 1) pe_int (fun _ _ => rfl))) (pa_cons (pe_op op_modN (pe_callTy call_int1 (by rfl) m_int (by decide +kernel) (pa_cons (pv 3) pa_nil)) (pe_ix ix_tup (pv 1) pe_int (fun _ _ => rfl))) pa_nil))) pa_nil)))))
      (pss_cons (ps_set (i := 4) law_draw_sc.nd rfl (Or.inl rfl) (pe_lst pa_nil))
      (pss_cons (ps_for (passes_of rfl) rfl (pi_range1 rfl m_range (pa_cons (pe_call D_law_take.ok (hr.mono (by decide)) rfl D_law_take.g D_law_take.kp D_law_take.b .nil ErrX.passN (pa_cons (pv 0) (pa_cons (pe_op op_add (pe_callB (call_min2 rfl) (by rfl) m_min (by decide +kernel) (pa_cons pe_int (pa_cons (pe_callB call_len_seq (by rfl) m_len (by decide +kernel) (pa_cons (pv 2) pa_nil)) pa_nil))) pe_int) pa_nil))) pa_nil)) (pg_name (i := 5) law_draw_sc.nd rfl (Or.inl rfl))
      (pss_one (ps_expr (pe_bm PySem.F.plainAttrs_list PySem.F.slot_list_append PySem.F.type_list_append mt_append (pv 4) (pa_cons (pe_bm PySem.F.plainAttrs_list PySem.F.slot_list_pop PySem.F.type_list_pop mt_popAt (pv 2) (pa_cons (pe_call D_law_take.ok (hr.mono (by decide)) rfl D_law_take.g D_law_take.kp D_law_take.b .nil ErrX.passN (pa_cons (pv 0) (pa_cons (pe_callB call_len_seq (by rfl) m_len (by decide +kernel) (pa_cons (pv 2) pa_nil)) pa_nil))) pa_nil)) pa_nil)))))
      (pss_one (ps_ret (pe_tup (pa_cons (pv 1) (pa_cons (pv 4) pa_nil)))))))))), ?_⟩
    refine ⟨.ref p, rfl, p, x, 8, rfl, hp, by decide, by decide, fun d1 y1 H1 d10 d11 b1 p1 => ?_⟩
    refine ⟨1, d1, rfl, rfl, .ref p, rfl, p, y1, 8, rfl, p1, by decide, by decide, fun d2 y2 H2 d20 d21 b2 p2 => ⟨1, d2, rfl, rfl, len2, fun ts nts => ?_⟩⟩
    obtain ⟨m, em⟩ : ∃ m : Nat, 1 + d1 = (m : Int) := ⟨(1 + d1).toNat, by omega⟩
    obtain ⟨n, en⟩ : ∃ n : Nat, 1 + d2 = (n : Int) := ⟨(1 + d2).toNat, by omega⟩
    dsimp only
    rw [em, en]
    have m1 : 1 ≤ m := by omega
    have m8 : m ≤ 8 := by omega
    have n1 : 1 ≤ n := by omega
    have n8 : n ≤ 8 := by omega
    have s3 := Same.new (o := .tup [.int (m : Int), .int (n : Int)]) nts
    have b3 : But p H (upd H2 ts (.tup [.int (m : Int), .int (n : Int)])) := (b1.trans b2).trans (.of s3)
    have p3 := s3 _ _ p2
    have t3 : (upd H2 ts (.tup [.int (m : Int), .int (n : Int)])) ts = some (.tup [nV m, nV n]) := upd_same
    generalize upd H2 ts (.tup [.int (m : Int), .int (n : Int)]) = H3 at b3 p3 t3 ⊢
    refine ⟨len0, fun l nl => ?_⟩
    have nlp : l ≠ p := (ne_of_none p3 nl).symm
    have Hl : H l = none := b3.back p3 nl
    have nlt : l ≠ ts := (ne_of_none t3 nl).symm
    have hmn : m * n ≤ 64 := Nat.mul_le_mul m8 n8
    have emn : ((m : Int) * (n : Int)) = ((m * n : Nat) : Int) := (Int.natCast_mul m n).symm
    have t4 : (upd H3 l (.lst [])) ts = some (.tup [nV m, nV n]) := by
      rw [upd_ne nlt.symm]
      exact t3
    refine ⟨.ref ts, rfl, ts, _, 0, nV m, rfl, rfl, sqt t4, rfl, .ref ts, rfl, ts, _, 1, nV n, rfl, rfl, sqt t4, rfl, (m : Int), (n : Int), rfl, rfl, .inl ⟨by omega, by omega⟩, (m : Int) * (n : Int), rfl, by rw [emn]; omega, by rw [emn]; omega, ?_⟩
    rw [emn, Int.toNat_natCast]
    refine for_range (lo := 0) (n := m * n) (fun i σ H' => ∃ (y3 : Option V) (zs : List Z), σ = [some (.ref p), some (.ref ts), some (.ref l), y3, none, none] ∧ Same H3 H' ∧ H' l = some (.lst (zs.map zV)) ∧ PrZ H' zs ∧ zs.map (·.2) = (List.range i).map fun k => (k / n, k % n)) ⟨none, [], rfl, Same.new nl, upd_same, (fun _ h => nomatch h), rfl⟩ (fun i σ H' hi h => ?_) (fun σ H' h => ?_)
    · obtain ⟨y3, zs, rfl, sm, hl, pr, ez⟩ := h
      have tt := sqt (K := K) (sm _ _ t3)
      have zl : zs.length = i := by
        have := congrArg List.length ez
        rw [List.length_map, List.length_map, List.length_range] at this
        exact this
      have nz : ((n : Nat) : Int) ≠ 0 := by omega
      refine ⟨.ref l, rfl, .inl ⟨rfl, _, sq hl⟩, .int (0 + (i : Int)), rfl, .ref ts, rfl, ts, _, 1, nV n, rfl, rfl, tt, rfl, 0 + (i : Int), (n : Int), rfl, rfl, ⟨nz, by omega⟩, .int (0 + (i : Int)), rfl, .inl ⟨0 + (i : Int), rfl, .ref ts, rfl, ts, _, 1, nV n, rfl, rfl, tt, rfl, 0 + (i : Int), (n : Int), rfl, rfl, nz, len2, fun t nt => ?_⟩⟩
      have e1 : (0 + (i : Int)).fdiv (n : Int) = ((i / n : Nat) : Int) := by
        rw [Int.zero_add, Int.fdiv_eq_ediv_of_nonneg _ (by omega)]
        exact (Int.natCast_ediv i n).symm
      have e2 : (0 + (i : Int)).fmod (n : Int) = ((i % n : Nat) : Int) := by
        rw [Int.zero_add, Int.fmod_eq_emod_of_nonneg _ (by omega)]
        exact (Int.natCast_emod i n).symm
      have st := Same.new (o := .tup [V.int ((0 + (i : Int)).fdiv (n : Int)), V.int ((0 + (i : Int)).fmod (n : Int))]) nt
      have hl2 := st _ _ hl
      have ntl : t ≠ l := (ne_of_none hl nt).symm
      refine ⟨l, _, _, rfl, rfl, hl2, small1000 (by rw [List.length_map]; omega), some _, zs ++ [(t, i / n, i % n)], rfl, (sm.trans st).mut nl, ?_, ?_, ?_⟩
      · rw [upd_same, List.map_append]
        rfl
      · intro z hz
        rcases List.mem_append.mp hz with hz | hz
        · have := st _ _ (pr z hz)
          rw [upd_ne (fun e => by rw [e] at this; rw [hl2] at this; cases this)]
          exact this
        · rw [List.mem_singleton.mp hz]
          show upd _ l _ t = _
          rw [upd_ne ntl]
          refine upd_same.trans ?_
          show some (HO.tup [V.int ((0 + (i : Int)).fdiv (n : Int)), V.int ((0 + (i : Int)).fmod (n : Int))]) = some (prV (t, i / n, i % n))
          rw [e1, e2]
          rfl
      · rw [List.map_append, ez, List.range_succ, List.map_append]
        rfl
    · obtain ⟨y3, zs, rfl, sm, hl, pr, ez⟩ := h
      have zl : zs.length = m * n := by
        have := congrArg List.length ez
        rw [List.length_map, List.length_map, List.length_range] at this
        exact this
      have fit : Fit m n (zs.map (·.2)) := by
        rw [ez]
        exact ⟨grid_nodup m n, fun p h => grid_in h⟩
      refine ⟨len0, fun qa nq => ?_⟩
      have nqp : qa ≠ p := (ne_of_none (sm _ _ p3) nq).symm
      have nql : qa ≠ l := (ne_of_none hl nq).symm
      have Hq : H qa = none := (b3.trans (.of sm)).back (sm _ _ p3) nq
      have s5 := Same.new (o := .lst []) nq
      have p5 := s5 _ _ (sm _ _ p3)
      have t5 := s5 _ _ (sm _ _ t3)
      have l5 := s5 _ _ hl
      have pr5 := pr.keep s5
      have b5 : But p H (upd H' qa (.lst [])) := (b3.trans (.of sm)).trans (.of s5)
      have q5 : (upd H' qa (.lst [])) qa = some (.lst []) := upd_same
      generalize upd H' qa (.lst []) = H5 at p5 t5 l5 pr5 b5 q5 ⊢
      have emin : (if (((zs.map zV).length : Nat) : Int) < 16 then (((zs.map zV).length : Nat) : Int) else 16) ≤ 16 ∧ 0 ≤ (if (((zs.map zV).length : Nat) : Int) < 16 then (((zs.map zV).length : Nat) : Int) else 16) ∧ (if (((zs.map zV).length : Nat) : Int) < 16 then (((zs.map zV).length : Nat) : Int) else 16) ≤ ((m * n : Nat) : Int) := by
        rw [List.length_map, zl]
        split <;> omega
      refine ⟨.ref p, rfl, .ref l, rfl, l, _, rfl, .inl (sq l5), 16, _, rfl, _, 1, rfl, rfl, p, y2, _, rfl, p5, ?_, ?_, fun d y6 H6 d0 dm b6 p6 => ?_⟩
      · omega
      · omega
      obtain ⟨j, rfl⟩ : ∃ j : Nat, d = (j : Int) := ⟨d.toNat, by omega⟩
      have hj : j ≤ 16 ∧ j ≤ m * n := by omega
      refine ⟨(j : Int), rfl, by omega, by omega, ?_⟩
      rw [Int.toNat_natCast]
      refine for_range (lo := 0) (n := j) (fun i σ H' => ∃ (x' : Int) (z5 : Option V) (ws us : List Z), σ = [some (.ref p), some (.ref ts), some (.ref l), y3, some (.ref qa), z5] ∧ But p H H' ∧ H' p = some (.lst [.int x']) ∧ H' ts = some (.tup [nV m, nV n]) ∧ H' l = some (.lst (us.map zV)) ∧ H' qa = some (.lst (ws.map zV)) ∧ PrZ H' (ws ++ us) ∧ Fit m n ((ws ++ us).map (·.2)) ∧ ws.length = i ∧ us.length = m * n - i)
        ⟨_, none, [], zs, rfl, b5.trans b6, p6, b6 _ _ (fun e => by rw [e, p5] at t5; cases t5) t5, b6 _ _ nlp l5, b6 _ _ nqp q5, fun z hz => b6 _ _ (fun e => by have := pr5 z hz; rw [e, p5] at this; cases this) (pr5 z hz), fit, rfl, zl⟩ (fun i σ H' hi h => ?_) (fun σ H' h => ?_)
      · obtain ⟨x', z5, ws, us, rfl, b, hp', ht', hl', hq', pr', fit', wl, ul⟩ := h
        have ulp : 0 < us.length := by omega
        refine ⟨.ref qa, rfl, .inl ⟨rfl, _, sq hq'⟩, .ref l, rfl, .inl ⟨rfl, _, sq hl'⟩, .ref p, rfl, .ref l, rfl, l, _, rfl, .inl (sq hl'), p, x', _, rfl, hp', ?_, ?_, fun d x2 H7 d0 dm b7 p7 => ?_⟩
        · rw [List.length_map]; omega
        · rw [List.length_map]; omega
        obtain ⟨c, rfl⟩ : ∃ c : Nat, d = (c : Int) := ⟨d.toNat, by omega⟩
        rw [List.length_map] at dm
        have hc : c < us.length := by omega
        have l7 := b7 _ _ nlp hl'
        have q7 := b7 _ _ nqp hq'
        have t7 := b7 _ _ (fun e => by rw [e, hp'] at ht'; cases ht') ht'
        have pr7 : PrZ H7 (ws ++ us) := fun z hz => b7 _ _ (fun e => by have := pr' z hz; rw [e, hp'] at this; cases this) (pr' z hz)
        refine ⟨l, us.map zV, (c : Int), c, zV us[c], rfl, rfl, l7, by omega, by omega, ?_, ?_, ?_⟩
        · rw [List.length_map]
          exact (ixN_seq (Evl.ixN_nat hc)).1
        · rw [List.getElem?_map, List.getElem?_eq_getElem hc]
          rfl
        · have q8 : (upd H7 l (.lst ((us.map zV).eraseIdx c))) qa = some (.lst (ws.map zV)) := by
            rw [upd_ne nql]
            exact q7
          have fit2 : Fit m n (((ws ++ [us[c]]) ++ us.eraseIdx c).map (·.2)) := by
            have pm : ((ws ++ [us[c]]) ++ us.eraseIdx c).Perm (ws ++ us) := by
              rw [List.append_assoc]
              exact (perm_eraseIdx us c hc).append_left ws
            have pm2 := pm.map (·.2)
            exact ⟨pm2.nodup_iff.mpr fit'.1, fun r hr => fit'.2 r (pm2.mem_iff.mp hr)⟩
          have pr8 : PrZ H7 ((ws ++ [us[c]]) ++ us.eraseIdx c) := fun z hz => pr7 z (by
            have pm : ((ws ++ [us[c]]) ++ us.eraseIdx c).Perm (ws ++ us) := by
              rw [List.append_assoc]
              exact (perm_eraseIdx us c hc).append_left ws
            exact pm.mem_iff.mp hz)
          refine ⟨qa, _, _, rfl, rfl, q8, small1000 (by rw [List.length_map]; omega), x2, _, ws ++ [us[c]], us.eraseIdx c, rfl, (fun b' o nb e => ?_), ?_, ?_, ?_, ?_, ?_, fit2, ?_, ?_⟩
          · rw [upd_ne (ne_of_none e Hq), upd_ne (ne_of_none e Hl)]
            exact (b.trans b7) b' o nb e
          · rw [upd_ne nqp.symm, upd_ne nlp.symm]
            exact p7
          · rw [upd_ne (fun e => by rw [e, q7] at t7; cases t7), upd_ne (fun e => by rw [e, l7] at t7; cases t7)]
            exact t7
          · rw [upd_ne nql.symm, upd_same, map_eraseIdx']
          · rw [upd_same, List.map_append]
            rfl
          · intro z hz
            have := pr8 z hz
            rw [upd_ne (fun e => by rw [e, q7] at this; cases this), upd_ne (fun e => by rw [e, l7] at this; cases this)]
            exact this
          · rw [List.length_append, wl]
            rfl
          · rw [List.length_eraseIdx_of_lt hc]
            omega
      · obtain ⟨x', z5, ws, us, rfl, b, hp', ht', hl', hq', pr', fit', wl, ul⟩ := h
        refine ⟨.ref ts, rfl, .ref qa, rfl, len2, fun t nt => ?_⟩
        have s9 := Same.new (o := .tup [V.ref ts, V.ref qa]) nt
        refine q _ t ts qa x' m n ws (b.trans (.of s9)) (s9 _ _ hp') ⟨m1, m8, n1, n8, upd_same, s9 _ _ ht', s9 _ _ hq', fun z hz => s9 _ _ (pr' z (List.mem_append_left _ hz)), ?_, by omega⟩
        have h1 := fit'.1
        rw [List.map_append] at h1
        exact ⟨(List.nodup_append.mp h1).1, fun r hr => fit'.2 r (by rw [List.map_append]; exact List.mem_append_left _ hr)⟩
end
end K03
set_option Elab.async false
set_option linter.all false
set_option maxRecDepth 100000
set_option maxHeartbeats 4000000
namespace K03
open PySem PySem.Spec PyProof.Rows L2
theorem len4 {a b c d : V} : [a, b, c, d].length ≤ sizeLine := Nat.le_of_lt (small1000 (by show 4 ≤ 1000; decide))
section
variable {P : Program} {w : World} {K : PySem.W.Frag} {mg : Str → Option Value} {base : Heap} {f : Addr} {fd : FuncData}
/-! ### _law_draw_lot -/
def spLot : Sp := fun vs H Q _ => ∃ (p : Addr) (x : Int) (m o : Nat), vs = [.ref p, nV m, nV o] ∧ H p = some (.lst [.int x]) ∧ 1 ≤ m ∧ m ≤ 8 ∧ o ≤ 2 ∧ ∀ (H' : Hp) (l : Addr) (y : Int) (ns : List Int), But p H H' → H' p = some (.lst [.int y]) → H l = none → H' l = some (.lst (ns.map V.int)) → ns.length ≤ 10 → Q (.ref l) H'
end
end K03
set_option Elab.async false
set_option linter.all false
set_option maxRecDepth 100000
set_option maxHeartbeats 4000000
namespace K03
open PySem PySem.Spec PyProof.Rows L2
theorem get_nV {L : List Nat} {i : Nat} (h : i < L.length) : atI (L.map nV) (i : Int) = some (nV (L.getD i 0)) := by
  refine atI_nat ?_
  rw [List.getElem?_map, List.getD_eq_getElem?_getD, List.getElem?_eq_getElem h]
  rfl
theorem item_nV {L : List Nat} {i : Nat} {x : V} (h : (L.map nV)[i]? = some x) : i < L.length ∧ x = nV (L.getD i 0) := by
  rw [List.getElem?_map] at h
  have hi : i < L.length := by
    cases e : L[i]? with
    | none => rw [e] at h; cases h
    | some c => exact (List.getElem?_eq_some_iff.mp e).1
  rw [List.getElem?_eq_getElem hi] at h
  rw [List.getD_eq_getElem?_getD, List.getElem?_eq_getElem hi]
  exact ⟨hi, (Option.some.inj h).symm⟩
theorem nV_eq {a b : Nat} : (nV a = nV b) ↔ a = b := ⟨fun h => Int.ofNat.inj (V.int.inj h), fun h => by rw [h]⟩
theorem take_succ_map {L : List Nat} {i : Nat} (h : i < L.length) : L.take (i + 1) = L.take i ++ [L.getD i 0] := by
  rw [List.take_add_one, List.getD_eq_getElem?_getD, List.getElem?_eq_getElem h]
  rfl
section
variable {P : Program} {w : World} {K : PySem.W.Frag} {mg : Str → Option Value} {base : Heap} {f : Addr} {fd : FuncData}
/-! ### merged_labels -/
abbrev merged_labels_N : List Str := ["labels", "first", "second", "one", "two", "least", "label"]
theorem merged_labels_sc : FnScope ["labels", "first", "second", "one", "two", "least", "label"] ["labels", "first", "second"] (defScope merged_labels_st) := ⟨rfl, rfl, rfl, by decide +kernel, rfl, by decide +kernel, by decide +kernel⟩
/-- a new list of the numbers ns -/
def New (H : Hp) (Q : VK) (xs : List V) : Prop := ∀ (H' : Hp) (D : Addr), Same H H' → H D = none → H' D = some (.lst xs) → Q (.ref D) H'
def spMerged : Sp := fun vs H Q _ => ∃ (a : Addr) (L : List Nat) (i j : Nat), vs = [.ref a, nV i, nV j] ∧ H a = some (.lst (L.map nV)) ∧ i < L.length ∧ j < L.length ∧ L.length ≤ 16 ∧ New H Q ((mrg L (L.getD i 0) (L.getD j 0)).map nV)
theorem ok_merged (F : FnS K "merged_labels" merged_labels_st f fd) (m_min : mg "min" = none) : FnOk P w K mg base (L2N.CX P w) 1 f fd ["labels", "first", "second"] spMerged := by
  refine F.ok merged_labels_sc (fun vs H Q E h => ?_) (fun cdv A outer s H vs Q E hr h => ?_)
  · obtain ⟨a, L, i, j, rfl, _⟩ := h
    rfl
  · obtain ⟨a, L, i, j, rfl, ha, hi, hj, h16, q⟩ := h
    refine ⟨_, (pss_cons (ps_set (i := 3) merged_labels_sc.nd rfl (Or.inr rfl) (pe_ix ix_list (pv 0) (pv 1) (fun _ _ => rfl)))
      (pss_cons (ps_set (i := 4) merged_labels_sc.nd rfl (Or.inr rfl) (pe_ix ix_list (pv 0) (pv 2) (fun _ _ => rfl)))
      (pss_cons (ps_set (i := 5) merged_labels_sc.nd rfl (Or.inr rfl) (pe_callB (call_min2 rfl) (by rfl) m_min (by decide +kernel) (pa_cons (pv 3) (pa_cons (pv 4) pa_nil))))
      (pss_one (ps_ret (pe_lc (own := [("label", 6)]) rfl merged_labels_sc.nd (pi_list (pv 0)) (blkOk_by (own := [("label", 6)]) (N := merged_labels_N) (sc := defScope merged_labels_st) (by decide +kernel)) (fun _ _ _ _ _ => (pg_name (i := 6) merged_labels_sc.nd rfl (Or.inl rfl))) (fun _ _ _ _ _ => pts_nil) (fun _ _ _ _ _ => (pe_ifExp (PW.pt (pw_or (pt_cmpR op_eq (pv 6) (pv 3) (nomark _)) (pw_or1 (pt_cmpR op_eq (pv 6) (pv 4) (nomark _))))) (pv 5) (pv 6))))))))), ?_⟩
    refine ⟨.ref a, rfl, nV i, rfl, a, _, (i : Int), nV (L.getD i 0), rfl, rfl, sq ha, get_nV hi, ?_⟩
    refine ⟨.ref a, rfl, nV j, rfl, a, _, (j : Int), nV (L.getD j 0), rfl, rfl, sq ha, get_nV hj, ?_⟩
    refine ⟨nV (L.getD i 0), rfl, nV (L.getD j 0), rfl, _, _, rfl, ?_⟩
    have emin : (if ((L.getD j 0 : Nat) : Int) < ((L.getD i 0 : Nat) : Int) then ((L.getD j 0 : Nat) : Int) else ((L.getD i 0 : Nat) : Int)) = ((min (L.getD i 0) (L.getD j 0) : Nat) : Int) := by
      split <;> omega
    dsimp only
    rw [emin]
    refine ⟨.ref a, rfl, a, rfl, ⟨_, sq ha⟩, fun D nD => ?_⟩
    refine lc_list (K := K) (a := a) (xs := L.map nV) (fun i' H' => Same H H' ∧ H' D = some (.lst ((mrg (L.take i') (L.getD i 0) (L.getD j 0)).map nV))) ⟨Same.new nD, upd_same⟩ (fun i' H' _ h => sq (h.1 _ _ ha)) (fun i' x H' hx h => ?_) (fun H' h => ?_)
    · obtain ⟨sm, hD⟩ := h
      obtain ⟨hi', rfl⟩ := item_nV hx
      have hlen : ((mrg (L.take i') (L.getD i 0) (L.getD j 0)).map nV).length < sizeLine := small1000 (by rw [List.length_map, mrg_len, List.length_take]; omega)
      have fin : ∀ y : Nat, (y = if L.getD i' 0 = L.getD i 0 ∨ L.getD i' 0 = L.getD j 0 then min (L.getD i 0) (L.getD j 0) else L.getD i' 0) → Same H (upd H' D (.lst ((mrg (L.take i') (L.getD i 0) (L.getD j 0)).map nV ++ [nV y]))) ∧ (upd H' D (.lst ((mrg (L.take i') (L.getD i 0) (L.getD j 0)).map nV ++ [nV y]))) D = some (.lst ((mrg (L.take (i' + 1)) (L.getD i 0) (L.getD j 0)).map nV)) := fun y e => by
        refine ⟨sm.mut nD, ?_⟩
        subst e
        rw [upd_same, take_succ_map hi']
        unfold mrg
        rw [List.map_append, List.map_append]
        rfl
      refine ⟨rfl, ?_⟩
      refine ⟨nV (L.getD i' 0), rfl, nV (L.getD i 0), rfl, ⟨rfl, _, rfl, ite2 (fun e => ?_) (fun e => ?_)⟩⟩
      · have e := nV_eq.mp (of_decide_eq_true e)
        refine iteT ⟨_, rfl, _, hD, hlen, fin _ (by rw [if_pos (.inl e)])⟩
      · have e : ¬ L.getD i' 0 = L.getD i 0 := fun z => e (decide_eq_true (nV_eq.mpr z))
        refine ⟨nV (L.getD i' 0), rfl, nV (L.getD j 0), rfl, ⟨rfl, _, rfl, ?_⟩⟩
        refine ite2 (fun e2 => ?_) (fun e2 => ?_)
        · have e2 := nV_eq.mp (of_decide_eq_true e2)
          refine ⟨_, rfl, _, hD, hlen, fin _ (by rw [if_pos (.inr e2)])⟩
        · have e2 : ¬ L.getD i' 0 = L.getD j 0 := fun z => e2 (decide_eq_true (nV_eq.mpr z))
          refine ⟨_, rfl, _, hD, hlen, fin _ (by rw [if_neg (fun z => z.elim e e2)])⟩
    · obtain ⟨sm, hD⟩ := h
      rw [List.length_map, List.take_length] at hD
      exact q H' D sm nD hD
end
end K03
set_option Elab.async false
set_option linter.all false
set_option maxRecDepth 100000
set_option maxHeartbeats 4000000
namespace K03
open PySem PySem.Spec PyProof.Rows L2
theorem rgV_nV (N : Nat) : rgV 0 (N : Int) = (List.range N).map nV := by
  unfold rgV
  rw [Int.sub_zero, Int.toNat_natCast]
  refine List.map_congr_left fun i _ => ?_
  rw [Int.zero_add]
  rfl
theorem item_zV {zs : List Z} {i : Nat} {x : V} (h : (zs.map zV)[i]? = some x) : ∃ z, zs[i]? = some z ∧ z ∈ zs ∧ x = zV z := by
  rw [List.getElem?_map] at h
  cases e : zs[i]? with
  | none => rw [e] at h; cases h
  | some z => rw [e] at h; exact ⟨z, rfl, List.mem_of_getElem? e, (Option.some.inj h).symm⟩
theorem zs_at {zs : List Z} {i : Nat} {z : Z} (h : zs[i]? = some z) : (zs.map (·.2))[i]? = some z.2 := by
  rw [List.getElem?_map, h]
  rfl
def InR (m n : Nat) (zs : List Z) : Prop := ∀ z ∈ zs, z.2.1 < m ∧ z.2.2 < n
theorem filter_succ (g : Nat → Bool) (i : Nat) : (List.range (i + 1)).filter g = (List.range i).filter g ++ if g i = true then [i] else [] := by
  rw [List.range_succ, List.filter_append]
  congr 1
  by_cases h : g i = true
  · rw [if_pos h, List.filter_cons_of_pos h]
    rfl
  · rw [if_neg h, List.filter_cons_of_neg h]
    rfl
theorem one_pos {g : Nat → Bool} {x : Nat} (h : g x = true) : [x].filter g = [x] := List.filter_cons_of_pos h
theorem one_neg {g : Nat → Bool} {x : Nat} (h : ¬ g x = true) : [x].filter g = [] := List.filter_cons_of_neg h
theorem filter_le (g : Nat → Bool) (xs : List Nat) : ((xs.filter g).map nV).length ≤ xs.length := by
  rw [List.length_map]
  exact List.length_filter_le _ _
section
variable {P : Program} {w : World} {K : PySem.W.Frag} {mg : Str → Option Value} {base : Heap} {f : Addr} {fd : FuncData}
/-! ### place_labels -/
abbrev place_labels_N : List Str := ["depots", "customers", "routes", "labels", "depot", "customer"]
theorem place_labels_sc : FnScope ["depots", "customers", "routes", "labels", "depot", "customer"] ["depots", "customers", "routes"] (defScope place_labels_st) := ⟨rfl, rfl, rfl, by decide +kernel, rfl, by decide +kernel, by decide +kernel⟩
def spLabels : Sp := fun vs H Q _ => ∃ (a : Addr) (m n : Nat) (zs : List Z), vs = [nV m, nV n, .ref a] ∧ H a = some (.lst (zs.map zV)) ∧ PrZ H zs ∧ InR m n zs ∧ m ≤ 8 ∧ n ≤ 8 ∧ New H Q ((labs m n (zs.map (·.2))).map nV)
theorem ok_labels {f1 : Addr} {fd1 : FuncData} (F : FnS K "place_labels" place_labels_st f fd) (m_list : mg "list" = none) (m_range : mg "range" = none) (D_merged_labels : Dn P w K mg base 1 "merged_labels" ["labels", "first", "second"] spMerged f1 fd1) : FnOk P w K mg base (L2N.CX P w) 2 f fd ["depots", "customers", "routes"] spLabels := by
  refine F.ok place_labels_sc (fun vs H Q E h => ?_) (fun cdv A outer s H vs Q E hr h => ?_)
  · obtain ⟨a, m, n, zs, rfl, _⟩ := h
    rfl
  · obtain ⟨a, m, n, zs, rfl, ha, pr, inr, m8, n8, q⟩ := h
    refine ⟨_, (pss_cons (ps_set (i := 3) place_labels_sc.nd rfl (Or.inl rfl) (pe_listRg rfl rfl m_list (prg_1 rfl m_range (pe_op op_add (pv 0) (pv 1)))))
      (pss_cons (ps_for (passes_of rfl) rfl (pi_list (pv 2)) (pg_tup rfl (pgs_cons (pg_name (i := 4) place_labels_sc.nd rfl (Or.inl rfl)) (pgs_cons (pg_name (i := 5) place_labels_sc.nd rfl (Or.inl rfl)) pgs_nil)))
      (pss_one (ps_set (i := 3) place_labels_sc.nd rfl (Or.inl rfl) (pe_call D_merged_labels.ok (hr.mono (by decide)) rfl D_merged_labels.g D_merged_labels.kp D_merged_labels.b .nil ErrX.passN (pa_cons (pv 3) (pa_cons (pv 4) (pa_cons (pe_op op_add (pv 0) (pv 5)) pa_nil)))))))
      (pss_one (ps_ret (pv 3))))), ?_⟩
    refine ⟨nV m, rfl, nV n, rfl, m, n, rfl, rfl, _, rfl, ⟨by omega, by omega, by omega, by omega, by omega⟩, fun D0 n0 => ?_⟩
    refine ⟨.ref a, rfl, a, rfl, ⟨_, sq (Same.new n0 _ _ ha)⟩, ?_⟩
    refine for_list (K := K) (a := a) (xs := zs.map zV) (fun i σ H' => ∃ (D : Addr) (y4 y5 : Option V), σ = [some (nV m), some (nV n), some (.ref a), some (.ref D), y4, y5] ∧ Same H H' ∧ H D = none ∧ H' D = some (.lst ((labs m n ((zs.map (·.2)).take i)).map nV))) ⟨D0, none, none, rfl, Same.new n0, n0, ?_⟩ (fun i σ H' _ h => ?_) (fun i x σ H' hx h => ?_) (fun σ H' h => ?_)
    · rw [upd_same]
      exact congrArg (fun z => some (HO.lst z)) (rgV_nV (m + n))
    · obtain ⟨D, y4, y5, _, sm, _⟩ := h
      exact sq (sm _ _ ha)
    · obtain ⟨D, y4, y5, rfl, sm, nD, hD⟩ := h
      obtain ⟨z, ez, mz, rfl⟩ := item_zV hx
      have hz := sm _ _ (pr z mz)
      obtain ⟨r1, r2⟩ := inr z mz
      have hl := labs_len m n ((zs.map (·.2)).take i)
      refine ⟨z.1, [nV z.2.1, nV z.2.2], rfl, sqt hz, rfl, nV z.2.1, [nV z.2.2], rfl, nV z.2.2, [], rfl, rfl, ?_⟩
      refine ⟨.ref D, rfl, nV z.2.1, rfl, nV m, rfl, nV z.2.2, rfl, m, z.2.2, rfl, rfl, D, labs m n ((zs.map (·.2)).take i), z.2.1, m + z.2.2, rfl, hD, by omega, by omega, by omega, fun H2 D2 s2 n2 h2 => ?_⟩
      refine ⟨D2, _, _, rfl, sm.trans s2, sm.back n2, ?_⟩
      rw [h2, labs_take (zs_at ez)]
      rfl
    · obtain ⟨D, y4, y5, rfl, sm, nD, hD⟩ := h
      rw [List.take_of_length_le (by rw [List.length_map, List.length_map]; exact Nat.le_refl _)] at hD
      exact ⟨.ref D, rfl, q H' D sm nD hD⟩
/-! ### labelled_piece -/
abbrev labelled_piece_N : List Str := ["labels", "depots", "label", "places", "place"]
theorem labelled_piece_sc : FnScope ["labels", "depots", "label", "places", "place"] ["labels", "depots", "label"] (defScope labelled_piece_st) := ⟨rfl, rfl, rfl, by decide +kernel, rfl, by decide +kernel, by decide +kernel⟩
/-- a piece at t, its two lists at o and u -/
structure PcAt (H : Hp) (t o u : Addr) (xs ys : List Nat) : Prop where
  ht : H t = some (.tup [.ref o, .ref u])
  ho : H o = some (.lst (xs.map nV))
  hu : H u = some (.lst (ys.map nV))
theorem PcAt.keep {H H' : Hp} {t o u : Addr} {xs ys : List Nat} (h : PcAt H t o u xs ys) (e : Same H H') : PcAt H' t o u xs ys := ⟨e _ _ h.ht, e _ _ h.ho, e _ _ h.hu⟩
def NewPc (H : Hp) (Q : VK) (xs ys : List Nat) : Prop := ∀ (H' : Hp) (t o u : Addr), Same H H' → H t = none → H o = none → H u = none → PcAt H' t o u xs ys → Q (.ref t) H'
def spPiece : Sp := fun vs H Q _ => ∃ (a : Addr) (L : List Nat) (m n k : Nat), vs = [.ref a, nV m, nV k] ∧ H a = some (.lst (L.map nV)) ∧ L.length = m + n ∧ m ≤ 8 ∧ n ≤ 8 ∧ NewPc H Q (ours m L k) (theirs m n L k)
theorem ok_piece (F : FnS K "labelled_piece" labelled_piece_st f fd) (m_len : mg "len" = none) (m_range : mg "range" = none) : FnOk P w K mg base (L2N.CX P w) 1 f fd ["labels", "depots", "label"] spPiece := by
  refine F.ok labelled_piece_sc (fun vs H Q E h => ?_) (fun cdv A outer s H vs Q E hr h => ?_)
  · obtain ⟨a, L, m, n, k, rfl, _⟩ := h
    rfl
  · obtain ⟨a, L, m, n, k, rfl, ha, hl, m8, n8, q⟩ := h
    refine ⟨_, (pss_cons (ps_setLc (i := 3) (own := [("place", 4)]) rfl labelled_piece_sc.nd rfl rfl (sw_true rfl rfl rfl (by decide +kernel)) (pi_range1 rfl m_range (pa_cons (pe_callB call_len_seq (by rfl) m_len (by decide +kernel) (pa_cons (pv 0) pa_nil)) pa_nil)) (blkOk_by (own := [("place", 4)]) (N := labelled_piece_N) (sc := defScope labelled_piece_st) (by decide +kernel)) (fun _ _ _ _ _ => (pg_name (i := 4) labelled_piece_sc.nd rfl (Or.inl rfl))) (fun _ _ _ _ _ => (pts_one (pt_cmpR op_eq (pe_ix (ix_list : IxR _ (rIxL K)) (pv 0) (pv 4) (fun _ _ => rfl)) (pv 2) (nomark _)))) (fun _ _ _ _ _ => (pv 4)))
      (pss_one (ps_ret (pe_tup (pa_cons (pe_lc (own := [("place", 4)]) rfl labelled_piece_sc.nd (pi_list (pv 3)) (blkOk_by (own := [("place", 4)]) (N := labelled_piece_N) (sc := defScope labelled_piece_st) (by decide +kernel)) (fun _ _ _ _ _ => (pg_name (i := 4) labelled_piece_sc.nd rfl (Or.inl rfl))) (fun _ _ _ _ _ => (pts_one (pt_cmpR op_lt (pv 4) (pv 1) (nomark _)))) (fun _ _ _ _ _ => (pv 4))) (pa_cons (pe_lc (own := [("place", 4)]) rfl labelled_piece_sc.nd (pi_list (pv 3)) (blkOk_by (own := [("place", 4)]) (N := labelled_piece_N) (sc := defScope labelled_piece_st) (by decide +kernel)) (fun _ _ _ _ _ => (pg_name (i := 4) labelled_piece_sc.nd rfl (Or.inl rfl))) (fun _ _ _ _ _ => (pts_one (pt_cmpR op_ge (pv 4) (pv 1) (nomark _)))) (fun _ _ _ _ _ => (pe_op op_sub (pv 4) (pv 1)))) pa_nil)))))), ?_⟩
    refine ⟨.ref a, rfl, a, _, rfl, .inl (sq ha), _, rfl, by rw [List.length_map]; omega, by rw [List.length_map]; omega, fun D nD => ?_⟩
    rw [List.length_map, Int.toNat_natCast]
    refine lc_range (lo := 0) (n := L.length) (fun i H' => Same H H' ∧ H' D = some (.lst (((List.range i).filter fun p => decide (L.getD p 0 = k)).map nV))) ⟨Same.new nD, upd_same⟩ (fun i H' hi h => ?_) (fun H1 h => ?_)
    · obtain ⟨sm, hD⟩ := h
      have e0 : V.int (0 + (i : Int)) = nV i := congrArg V.int (Int.zero_add _)
      rw [e0]
      refine ⟨rfl, ?_⟩
      refine ⟨.ref a, rfl, nV i, rfl, a, _, (i : Int), nV (L.getD i 0), rfl, rfl, sq (sm _ _ ha), get_nV hi, nV k, rfl, ⟨rfl, _, rfl, ite2 (fun e => ?_) (fun e => ?_)⟩⟩
      · have e := nV_eq.mp (of_decide_eq_true e)
        refine ⟨nV i, rfl, _, hD, small1000 (Nat.le_trans (filter_le _ _) (by rw [List.length_range]; omega)), sm.mut nD, ?_⟩
        rw [upd_same, filter_succ, if_pos (decide_eq_true e), List.map_append]
        rfl
      · have e : ¬ L.getD i 0 = k := fun z => e (decide_eq_true (nV_eq.mpr z))
        refine ⟨sm, ?_⟩
        rw [filter_succ, if_neg (fun z => e (of_decide_eq_true z)), List.append_nil]
        exact hD
    · obtain ⟨s1, hD⟩ := h
      change H1 D = some (.lst ((places L k).map nV)) at hD
      have pl : (places L k).length ≤ 16 := by
        unfold places
        have := List.length_filter_le (fun i => decide (L.getD i 0 = k)) (List.range L.length)
        rw [List.length_range] at this
        omega
      refine ⟨.ref D, rfl, D, rfl, ⟨_, sq hD⟩, fun o no => ?_⟩
      refine lc_list (K := K) (a := D) (xs := (places L k).map nV) (fun i H' => Same H1 H' ∧ H' o = some (.lst ((((places L k).take i).filter fun p => decide (p < m)).map nV))) ⟨Same.new no, upd_same⟩ (fun i H' _ h => sq (h.1 _ _ hD)) (fun i x H' hx h => ?_) (fun H2 h => ?_)
      · obtain ⟨sm, hO⟩ := h
        obtain ⟨hi, rfl⟩ := item_nV hx
        refine ⟨rfl, ?_⟩
        refine ⟨_, rfl, nV m, rfl, _, _, rfl, rfl, _, rfl, ite2 (fun e => ?_) (fun e => ?_)⟩
        · have e : (places L k).getD i 0 < m := Int.ofNat_lt.mp (of_decide_eq_true e)
          refine ⟨_, rfl, _, hO, small1000 (Nat.le_trans (filter_le _ _) (by rw [List.length_take]; omega)), sm.mut no, ?_⟩
          rw [upd_same, take_succ_map hi, List.filter_append, one_pos (g := fun p => decide (p < m)) (decide_eq_true e), List.map_append]
          rfl
        · have e : ¬ (places L k).getD i 0 < m := fun z => e (decide_eq_true (Int.ofNat_lt.mpr z))
          refine ⟨sm, ?_⟩
          rw [take_succ_map hi, List.filter_append, one_neg (g := fun p => decide (p < m)) (fun z => e (of_decide_eq_true z)), List.append_nil]
          exact hO
      · obtain ⟨s2, hO⟩ := h
        rw [List.length_map, List.take_length, places_ours hl] at hO
        have hD2 := s2 _ _ hD
        refine ⟨.ref D, rfl, D, rfl, ⟨_, sq hD2⟩, fun u nu => ?_⟩
        refine lc_list (K := K) (a := D) (xs := (places L k).map nV) (fun i H' => Same H2 H' ∧ H' u = some (.lst (((((places L k).take i).filter fun p => decide (m ≤ p)).map (· - m)).map nV))) ⟨Same.new nu, upd_same⟩ (fun i H' _ h => sq (h.1 _ _ hD2)) (fun i x H' hx h => ?_) (fun H3 h => ?_)
        · obtain ⟨sm, hU⟩ := h
          obtain ⟨hi, rfl⟩ := item_nV hx
          refine ⟨rfl, ?_⟩
          refine ⟨_, rfl, nV m, rfl, _, _, rfl, rfl, _, rfl, ite2 (fun e => ?_) (fun e => ?_)⟩
          · have e : m ≤ (places L k).getD i 0 := Int.ofNat_le.mp (of_decide_eq_true e)
            refine ⟨_, rfl, nV m, rfl, _, _, rfl, rfl, _, hU, small1000 (Nat.le_trans (Nat.le_of_eq (List.length_map _)) (Nat.le_trans (Nat.le_of_eq (List.length_map _)) (Nat.le_trans (List.length_filter_le _ _) (by rw [List.length_take]; omega)))), sm.mut nu, ?_⟩
            rw [upd_same, take_succ_map hi, List.filter_append, one_pos (g := fun p => decide (m ≤ p)) (decide_eq_true e), List.map_append, List.map_append]
            refine congrArg (fun z => some (HO.lst (_ ++ [z]))) ?_
            show V.int (((places L k).getD i 0 : Nat) - (m : Int)) = V.int _
            rw [← Int.ofNat_sub e]
          · have e : ¬ m ≤ (places L k).getD i 0 := fun z => e (decide_eq_true (Int.ofNat_le.mpr z))
            refine ⟨sm, ?_⟩
            rw [take_succ_map hi, List.filter_append, one_neg (g := fun p => decide (m ≤ p)) (fun z => e (of_decide_eq_true z)), List.append_nil]
            exact hU
        · obtain ⟨s3, hU⟩ := h
          rw [List.length_map, List.take_length, places_theirs hl] at hU
          refine ⟨len2, fun t nt => ?_⟩
          have s4 := Same.new (o := .tup [V.ref o, V.ref u]) nt
          have s12 := s1.trans s2
          have s123 := s12.trans s3
          exact q _ t o u (s123.trans s4) (s123.back nt) (s1.back no) (s12.back nu) ⟨upd_same, s4 _ _ (s3 _ _ hO), s4 _ _ hU⟩
end
end K03
set_option Elab.async false
set_option linter.all false
set_option maxRecDepth 100000
set_option maxHeartbeats 4000000
namespace K03
open PySem PySem.Spec PyProof.Rows L2
/-- a piece told: the tuple, its two lists, what they hold -/
structure P4 where
  t : Addr
  o : Addr
  u : Addr
  d : List Nat × List Nat
def pV (z : P4) : V := .ref z.t
def PcZ (H : Hp) (ws : List P4) : Prop := ∀ z ∈ ws, PcAt H z.t z.o z.u z.d.1 z.d.2
theorem PcZ.keep {H H' : Hp} {ws : List P4} (h : PcZ H ws) (e : Same H H') : PcZ H' ws := fun z m => (h z m).keep e
/-- all of ws is new -/
def FrZ (H : Hp) (ws : List P4) : Prop := ∀ z ∈ ws, H z.t = none ∧ H z.o = none ∧ H z.u = none
theorem PcAt.upd {H : Hp} {D : Addr} {xs : List V} {t o u : Addr} {a b : List Nat} (h : PcAt H t o u a b) {hd : List V} (hD : H D = some (.lst hd)) (no : o ≠ D) (nu : u ≠ D) : PcAt (L2.upd H D (.lst xs)) t o u a b := by
  refine ⟨?_, ?_, ?_⟩
  · rw [upd_ne (fun e => by have := h.ht; rw [e, hD] at this; cases this)]
    exact h.ht
  · rw [upd_ne no]
    exact h.ho
  · rw [upd_ne nu]
    exact h.hu
def NewPcs (H : Hp) (Q : VK) (d : List (List Nat × List Nat)) : Prop := ∀ (H' : Hp) (D : Addr) (ws : List P4), Same H H' → H D = none → H' D = some (.lst (ws.map pV)) → PcZ H' ws → FrZ H ws → ws.map P4.d = d → (∀ z ∈ ws, z.o ≠ D ∧ z.u ≠ D) → Q (.ref D) H'
section
variable {P : Program} {w : World} {K : PySem.W.Frag} {mg : Str → Option Value} {base : Heap} {f : Addr} {fd : FuncData}
/-! ### _found_pieces -/
abbrev found_pieces_N : List Str := ["depots", "customers", "routes", "labels", "label"]
theorem found_pieces_sc : FnScope ["depots", "customers", "routes", "labels", "label"] ["depots", "customers", "routes"] (defScope found_pieces_st) := ⟨rfl, rfl, rfl, by decide +kernel, rfl, by decide +kernel, by decide +kernel⟩
def spFound : Sp := fun vs H Q _ => ∃ (a : Addr) (m n : Nat) (zs : List Z), vs = [nV m, nV n, .ref a] ∧ H a = some (.lst (zs.map zV)) ∧ PrZ H zs ∧ InR m n zs ∧ m ≤ 8 ∧ n ≤ 8 ∧ NewPcs H Q (pcs m n (labs m n (zs.map (·.2))))
theorem ok_found {f1 f2 : Addr} {fd1 fd2 : FuncData} (F : FnS K "_found_pieces" found_pieces_st f fd) (m_sorted : mg "sorted" = none) (m_set : mg "set" = none) (D_place_labels : Dn P w K mg base 2 "place_labels" ["depots", "customers", "routes"] spLabels f1 fd1) (D_labelled_piece : Dn P w K mg base 1 "labelled_piece" ["labels", "depots", "label"] spPiece f2 fd2) : FnOk P w K mg base (L2N.CX P w) 3 f fd ["depots", "customers", "routes"] spFound := by
  refine F.ok found_pieces_sc (fun vs H Q E h => ?_) (fun cdv A outer s H vs Q E hr h => ?_)
  · obtain ⟨a, m, n, zs, rfl, _⟩ := h
    rfl
  · obtain ⟨a, m, n, zs, rfl, ha, pr, inr, m8, n8, q⟩ := h
    refine ⟨_, (pss_cons (ps_set (i := 3) found_pieces_sc.nd rfl (Or.inr rfl) (pe_call D_place_labels.ok (hr.mono (by decide)) rfl D_place_labels.g D_place_labels.kp D_place_labels.b .nil ErrX.passN (pa_cons (pv 0) (pa_cons (pv 1) (pa_cons (pv 2) pa_nil)))))
      (pss_one (ps_ret (pe_lc (own := [("label", 4)]) rfl found_pieces_sc.nd (pi_list (pe_callB (cr_sortedSet rfl) (by rfl) m_sorted (by decide +kernel) (pa_cons (pe_callTy (SetL.cr_setI rfl) (by rfl) m_set (by decide +kernel) (pa_cons (pv 3) pa_nil)) pa_nil))) (blkOk_by (own := [("label", 4)]) (N := found_pieces_N) (sc := defScope found_pieces_st) (by decide +kernel)) (fun _ _ _ _ _ => (pg_name (i := 4) found_pieces_sc.nd rfl (Or.inl rfl))) (fun _ _ _ _ _ => pts_nil) (fun _ _ _ _ _ => (pe_call D_labelled_piece.ok (hr.mono (by decide)) rfl D_labelled_piece.g D_labelled_piece.kp D_labelled_piece.b .nil ErrX.passN (pa_cons (pv 3) (pa_cons (pv 0) (pa_cons (pv 4) pa_nil))))))))), ?_⟩
    refine ⟨nV m, rfl, nV n, rfl, .ref a, rfl, a, m, n, zs, rfl, ha, pr, inr, m8, n8, fun H1 l s1 nl hl => ?_⟩
    have ll := labs_len m n (zs.map (·.2))
    have lb := labs_lab (m := m) (n := n) (ps := zs.map (·.2)) fun p hp => by
      obtain ⟨z, hz, rfl⟩ := List.mem_map.mp hp
      exact inr z hz
    generalize labs m n (zs.map (·.2)) = L at hl ll lb q
    refine ⟨.ref l, rfl, l, L.map fun x : Nat => (x : Int), rfl, ?_, by rw [List.length_map]; omega, fun S c nS hc => ?_⟩
    · refine sq (hl.trans ?_)
      rw [List.map_map]
      rfl
    rw [List.length_map] at hc
    have s2 := Same.new (o := SetO w S (fun j => decide (j ∈ L.map fun x : Nat => (x : Int))) c) nS
    refine ⟨S, _, c, rfl, upd_same, by omega, fun ns g hns hmem hlen ng => ?_⟩
    have ens : ns = (heads L).map fun x : Nat => (x : Int) := by
      refine rising_eq hns ?_ fun z => ?_
      · rw [List.pairwise_map]
        exact (heads_sorted L).imp fun h => Int.ofNat_lt.mpr h
      · rw [hmem, decide_eq_true_iff, List.mem_map, List.mem_map]
        exact ⟨fun ⟨k, hk, e⟩ => ⟨k, (mem_heads lb).mpr hk, e⟩, fun ⟨k, hk, e⟩ => ⟨k, (mem_heads lb).mp hk, e⟩⟩
    subst ens
    replace ng : (L2.upd H1 S (SetO w S (fun j => decide (j ∈ L.map fun x : Nat => (x : Int))) c)) g = none := ng
    have s3 := Same.new (o := .lst (((heads L).map fun x : Nat => (x : Int)).map V.int)) ng
    have s13 := s1.trans (s2.trans s3)
    have hl3 := s3 _ _ (s2 _ _ hl)
    have hg : (L2.upd (L2.upd H1 S (SetO w S (fun j => decide (j ∈ L.map fun x : Nat => (x : Int))) c)) g (.lst (((heads L).map fun x : Nat => (x : Int)).map V.int))) g = some (.lst ((heads L).map nV)) := by
      rw [upd_same, List.map_map]
      rfl
    obtain ⟨H3, eH⟩ : ∃ H3, H3 = L2.upd (L2.upd H1 S (SetO w S (fun j => decide (j ∈ L.map fun x : Nat => (x : Int))) c)) g (.lst (((heads L).map fun x : Nat => (x : Int)).map V.int)) := ⟨_, rfl⟩
    have hh : (heads L).length ≤ 16 := by
      unfold heads
      have := List.length_filter_le (fun k => decide (L.getD k 0 = k)) (List.range L.length)
      rw [List.length_range] at this
      omega
    refine ⟨g, rfl, ⟨_, sq hg⟩, fun D nD => ?_⟩
    replace nD : (L2.upd (L2.upd H1 S (SetO w S (fun j => decide (j ∈ L.map fun x : Nat => (x : Int))) c)) g (.lst (((heads L).map fun x : Nat => (x : Int)).map V.int))) D = none := nD
    have nD3 : H3 D = none := eH.symm ▸ nD
    have z3 : Same H3 (L2.upd (L2.upd (L2.upd H1 S (SetO w S (fun j => decide (j ∈ L.map fun x : Nat => (x : Int))) c)) g (.lst (((heads L).map fun x : Nat => (x : Int)).map V.int))) D (.lst [])) := by
      rw [← eH]
      exact Same.new nD3
    rw [← eH] at s13 hl3 hg
    refine lc_list (K := K) (a := g) (xs := (heads L).map nV) (fun i H' => ∃ ws : List P4, Same H3 H' ∧ H' D = some (.lst (ws.map pV)) ∧ PcZ H' ws ∧ FrZ H ws ∧ ws.map P4.d = ((heads L).take i).map (fun k => (ours m L k, theirs m n L k)) ∧ ∀ z ∈ ws, z.o ≠ D ∧ z.u ≠ D) ⟨[], z3, upd_same, (fun _ h => nomatch h), (fun _ h => nomatch h), rfl, (fun _ h => nomatch h)⟩ (fun i H' _ h => ?_) (fun i x H' hx h => ?_) (fun H' h => ?_)
    · obtain ⟨ws, sm, _⟩ := h
      exact sq (sm _ _ hg)
    · obtain ⟨ws, sm, hD, pz, fz, ez, nz⟩ := h
      obtain ⟨hi, rfl⟩ := item_nV hx
      have hl' := sm _ _ hl3
      refine ⟨rfl, ?_⟩
      refine ⟨.ref l, rfl, nV m, rfl, _, rfl, l, L, m, n, _, rfl, hl', ll, m8, n8, fun H4 t o u s4 nt no nu hp => ?_⟩
      have wl : ws.length = i := by
        have := congrArg List.length ez
        rw [List.length_map, List.length_map, List.length_take] at this
        omega
      have hD4 := s4 _ _ hD
      have noD : o ≠ D := (ne_of_none hD no).symm
      have nuD : u ≠ D := (ne_of_none hD nu).symm
      have s0 := s13.trans sm
      refine ⟨_, hD4, small1000 (by rw [List.length_map]; omega), ws ++ [⟨t, o, u, (ours m L ((heads L).getD i 0), theirs m n L ((heads L).getD i 0))⟩], (sm.trans s4).mut nD3, ?_, ?_, ?_, ?_, ?_⟩
      · rw [upd_same, List.map_append]
        rfl
      · intro z hz
        rcases List.mem_append.mp hz with hz | hz
        · exact ((pz z hz).keep s4).upd hD4 (nz z hz).1 (nz z hz).2
        · rw [List.mem_singleton.mp hz]
          exact hp.upd hD4 noD nuD
      · intro z hz
        rcases List.mem_append.mp hz with hz | hz
        · exact fz z hz
        · rw [List.mem_singleton.mp hz]
          exact ⟨s0.back nt, s0.back no, s0.back nu⟩
      · rw [List.map_append, ez, take_succ_map hi, List.map_append]
        rfl
      · intro z hz
        rcases List.mem_append.mp hz with hz | hz
        · exact nz z hz
        · rw [List.mem_singleton.mp hz]
          exact ⟨noD, nuD⟩
    · obtain ⟨ws, sm, hD, pz, fz, ez, nz⟩ := h
      rw [List.length_map, List.take_length] at ez
      exact q H' D ws (s13.trans sm) (s13.back nD3) hD pz fz ez nz
end
end K03
set_option Elab.async false
set_option linter.all false
set_option maxRecDepth 100000
set_option maxHeartbeats 4000000
namespace K03
open PySem PySem.Spec PyProof.Rows L2
theorem int_nV (i : Nat) : V.int (0 + (i : Int)) = nV i := congrArg V.int (Int.zero_add _)
section
variable {P : Program} {w : World} {K : PySem.W.Frag} {mg : Str → Option Value} {base : Heap} {f : Addr} {fd : FuncData}
/-! ### _law_linked -/
abbrev law_linked_N : List Str := ["sizes", "pairs", "labels", "pair", "old", "new", "k", "label"]
theorem law_linked_sc : FnScope ["sizes", "pairs", "labels", "pair", "old", "new", "k", "label"] ["sizes", "pairs"] (defScope law_linked_st) := ⟨rfl, rfl, rfl, by decide +kernel, rfl, by decide +kernel, by decide +kernel⟩
structure Sz (H : Hp) (ts a : Addr) (m n : Nat) (zs : List Z) : Prop where
  hs : H ts = some (.tup [nV m, nV n])
  ha : H a = some (.lst (zs.map zV))
  pr : PrZ H zs
  inr : InR m n zs
  m8 : m ≤ 8
  n8 : n ≤ 8
theorem Sz.keep {H H' : Hp} {ts a : Addr} {m n : Nat} {zs : List Z} (h : Sz H ts a m n zs) (e : Same H H') : Sz H' ts a m n zs := ⟨e _ _ h.hs, e _ _ h.ha, h.pr.keep e, h.inr, h.m8, h.n8⟩
def spLinked : Sp := fun vs H Q _ => ∃ (ts a : Addr) (m n : Nat) (zs : List Z), vs = [.ref ts, .ref a] ∧ Sz H ts a m n zs ∧ New H Q ((labs m n (zs.map (·.2))).map nV)
theorem ok_linked (F : FnS K "_law_linked" law_linked_st f fd) (m_min : mg "min" = none) (m_max : mg "max" = none) (m_range : mg "range" = none) : FnOk P w K mg base (L2N.CX P w) 1 f fd ["sizes", "pairs"] spLinked := by
  refine F.ok law_linked_sc (fun vs H Q E h => ?_) (fun cdv A outer s H vs Q E hr h => ?_)
  · obtain ⟨ts, a, m, n, zs, rfl, _⟩ := h
    rfl
  · obtain ⟨ts, a, m, n, zs, rfl, h, q⟩ := h
    have m8 := h.m8
    have n8 := h.n8
    refine ⟨_, (pss_cons (ps_setLc (i := 2) (own := [("k", 6)]) rfl law_linked_sc.nd rfl rfl (sw_true rfl rfl rfl (by decide +kernel)) (pi_range1 rfl m_range (pa_cons (pe_op op_add (pe_ix ix_tup (pv 0) pe_int (fun _ _ => rfl)) (pe_ix ix_tup (pv 0) pe_int (fun _ _ => rfl))) pa_nil)) (blkOk_by (own := [("k", 6)]) (N := law_linked_N) (sc := defScope law_linked_st) (by decide +kernel)) (fun _ _ _ _ _ => (pg_name (i := 6) law_linked_sc.nd rfl (Or.inl rfl))) (fun _ _ _ _ _ => pts_nil) (fun _ _ _ _ _ => (pv 6)))
      (pss_cons (ps_for (passes_of rfl) rfl (pi_list (pv 1)) (pg_name (i := 3) law_linked_sc.nd rfl (Or.inl rfl))
      (pss_cons (ps_set (i := 4) law_linked_sc.nd rfl (Or.inr rfl) (pe_callB (call_max2 rfl) (by rfl) m_max (by decide +kernel) (pa_cons (pe_ix ix_list (pv 2) (pe_ix ix_tup (pv 3) pe_int (fun _ _ => rfl)) (fun _ _ => rfl)) (pa_cons (pe_ix ix_list (pv 2) (pe_op op_add (pe_ix ix_tup (pv 0) pe_int (fun _ _ => rfl)) (pe_ix ix_tup (pv 3) pe_int (fun _ _ => rfl))) (fun _ _ => rfl)) pa_nil))))
      (pss_cons (ps_set (i := 5) law_linked_sc.nd rfl (Or.inr rfl) (pe_callB (call_min2 rfl) (by rfl) m_min (by decide +kernel) (pa_cons (pe_ix ix_list (pv 2) (pe_ix ix_tup (pv 3) pe_int (fun _ _ => rfl)) (fun _ _ => rfl)) (pa_cons (pe_ix ix_list (pv 2) (pe_op op_add (pe_ix ix_tup (pv 0) pe_int (fun _ _ => rfl)) (pe_ix ix_tup (pv 3) pe_int (fun _ _ => rfl))) (fun _ _ => rfl)) pa_nil))))
      (pss_one (ps_setLc (i := 2) (own := [("label", 7)]) rfl law_linked_sc.nd rfl rfl (sw_true rfl rfl rfl (by decide +kernel)) (pi_list (pv 2)) (blkOk_by (own := [("label", 7)]) (N := law_linked_N) (sc := defScope law_linked_st) (by decide +kernel)) (fun _ _ _ _ _ => (pg_name (i := 7) law_linked_sc.nd rfl (Or.inl rfl))) (fun _ _ _ _ _ => pts_nil) (fun _ _ _ _ _ => (pe_ifExp (pt_cmpR op_eq (pv 7) (pv 4) (nomark _)) (pv 5) (pv 7))))))))
      (pss_one (ps_ret (pv 2))))), ?_⟩
    refine ⟨.ref ts, rfl, ts, _, 0, nV m, rfl, rfl, sqt h.hs, rfl, .ref ts, rfl, ts, _, 1, nV n, rfl, rfl, sqt h.hs, rfl, m, n, rfl, rfl, _, rfl, by omega, by omega, fun D0 n0 => ?_⟩
    refine lc_range (lo := 0) (n := m + n) (fun i H' => Same H H' ∧ H' D0 = some (.lst ((List.range i).map nV))) ⟨Same.new n0, upd_same⟩ (fun i H' hi g => ?_) (fun H1 g => ?_)
    · obtain ⟨sm, hD⟩ := g
      rw [int_nV]
      refine ⟨rfl, nV i, rfl, _, hD, small1000 (by rw [List.length_map, List.length_range]; omega), sm.mut n0, ?_⟩
      rw [upd_same, List.range_succ, List.map_append]
      rfl
    · obtain ⟨s1, h1⟩ := g
      refine ⟨.ref a, rfl, a, rfl, ⟨_, sq (s1 _ _ h.ha)⟩, ?_⟩
      refine for_list (K := K) (a := a) (xs := zs.map zV) (fun i σ H' => ∃ (D : Addr) (y3 y4 y5 : Option V), σ = [some (.ref ts), some (.ref a), some (.ref D), y3, y4, y5, none, none] ∧ Same H H' ∧ H D = none ∧ H' D = some (.lst ((labs m n ((zs.map (·.2)).take i)).map nV))) ⟨D0, none, none, none, rfl, s1, n0, h1⟩ (fun i σ H' _ g => ?_) (fun i x σ H' hx g => ?_) (fun σ H' g => ?_)
      · obtain ⟨D, y3, y4, y5, _, sm, _⟩ := g
        exact sq (sm _ _ h.ha)
      · obtain ⟨D, y3, y4, y5, rfl, sm, nD, hD⟩ := g
        obtain ⟨z, ez, mz, rfl⟩ := item_zV hx
        have hz := sm _ _ (h.pr z mz)
        have hts := sm _ _ h.hs
        obtain ⟨r1, r2⟩ := h.inr z mz
        have hl := labs_len m n ((zs.map (·.2)).take i)
        have et := labs_take (m := m) (n := n) (zs_at ez)
        generalize labs m n ((zs.map (·.2)).take i) = L at hl hD et
        have g1 : z.2.1 < L.length := by omega
        have g2 : m + z.2.2 < L.length := by omega
        refine ⟨.ref D, rfl, .ref z.1, rfl, z.1, _, 0, nV z.2.1, rfl, rfl, sqt hz, rfl, D, _, (z.2.1 : Int), nV (L.getD z.2.1 0), rfl, rfl, sq hD, get_nV g1, .ref D, rfl, .ref ts, rfl, ts, _, 0, nV m, rfl, rfl, sqt hts, rfl, .ref z.1, rfl, z.1, _, 1, nV z.2.2, rfl, rfl, sqt hz, rfl, m, z.2.2, rfl, rfl, D, _, ((m + z.2.2 : Nat) : Int), nV (L.getD (m + z.2.2) 0), rfl, rfl, sq hD, get_nV g2, _, _, rfl, ?_⟩
        refine ⟨.ref D, rfl, .ref z.1, rfl, z.1, _, 0, nV z.2.1, rfl, rfl, sqt hz, rfl, D, _, (z.2.1 : Int), nV (L.getD z.2.1 0), rfl, rfl, sq hD, get_nV g1, .ref D, rfl, .ref ts, rfl, ts, _, 0, nV m, rfl, rfl, sqt hts, rfl, .ref z.1, rfl, z.1, _, 1, nV z.2.2, rfl, rfl, sqt hz, rfl, m, z.2.2, rfl, rfl, D, _, ((m + z.2.2 : Nat) : Int), nV (L.getD (m + z.2.2) 0), rfl, rfl, sq hD, get_nV g2, _, _, rfl, ?_⟩
        have emin : (if ((L.getD (m + z.2.2) 0 : Nat) : Int) < ((L.getD z.2.1 0 : Nat) : Int) then ((L.getD (m + z.2.2) 0 : Nat) : Int) else ((L.getD z.2.1 0 : Nat) : Int)) = ((min (L.getD z.2.1 0) (L.getD (m + z.2.2) 0) : Nat) : Int) := by
          split <;> omega
        have emax : (if ((L.getD (m + z.2.2) 0 : Nat) : Int) > ((L.getD z.2.1 0 : Nat) : Int) then ((L.getD (m + z.2.2) 0 : Nat) : Int) else ((L.getD z.2.1 0 : Nat) : Int)) = ((max (L.getD z.2.1 0) (L.getD (m + z.2.2) 0) : Nat) : Int) := by
          split <;> omega
        dsimp only
        rw [emin, emax]
        have est : labs m n ((zs.map (·.2)).take (i + 1)) = L.map fun x => if x = max (L.getD z.2.1 0) (L.getD (m + z.2.2) 0) then min (L.getD z.2.1 0) (L.getD (m + z.2.2) 0) else x := by
          rw [et, mrg_max]
          rfl
        generalize min (L.getD z.2.1 0) (L.getD (m + z.2.2) 0) = lo at est ⊢
        generalize max (L.getD z.2.1 0) (L.getD (m + z.2.2) 0) = hi at est ⊢
        refine ⟨.ref D, rfl, D, rfl, ⟨_, sq hD⟩, fun D2 nD2 => ?_⟩
        refine lc_list (K := K) (a := D) (xs := L.map nV) (fun i' H2 => Same H' H2 ∧ H2 D2 = some (.lst (((L.take i').map fun x => if x = hi then lo else x).map nV))) ⟨Same.new nD2, upd_same⟩ (fun i' H2 _ g => sq (g.1 _ _ hD)) (fun i' x H2 hx g => ?_) (fun H2 g => ?_)
        · obtain ⟨s2, hD2⟩ := g
          obtain ⟨hi', rfl⟩ := item_nV hx
          have hlen : (((L.take i').map fun x => if x = hi then lo else x).map nV).length < sizeLine := small1000 (by rw [List.length_map, List.length_map, List.length_take]; omega)
          refine ⟨rfl, ?_⟩
          refine ⟨nV (L.getD i' 0), rfl, nV hi, rfl, ⟨rfl, _, rfl, ite2 (fun e => ?_) (fun e => ?_)⟩⟩
          · have e := nV_eq.mp (of_decide_eq_true e)
            refine ⟨nV lo, rfl, _, hD2, hlen, s2.mut nD2, ?_⟩
            rw [upd_same, take_succ_map hi', List.map_append, List.map_append]
            show _ = some (HO.lst (_ ++ [nV (if L.getD i' 0 = hi then lo else L.getD i' 0)]))
            rw [if_pos e]
          · have e : ¬ L.getD i' 0 = hi := fun z => e (decide_eq_true (nV_eq.mpr z))
            refine ⟨nV (L.getD i' 0), rfl, _, hD2, hlen, s2.mut nD2, ?_⟩
            rw [upd_same, take_succ_map hi', List.map_append, List.map_append]
            show _ = some (HO.lst (_ ++ [nV (if L.getD i' 0 = hi then lo else L.getD i' 0)]))
            rw [if_neg e]
        · obtain ⟨s2, hD2⟩ := g
          rw [List.length_map, List.take_length] at hD2
          refine ⟨D2, _, _, _, rfl, sm.trans s2, sm.back nD2, ?_⟩
          rw [hD2, est]
      · obtain ⟨D, y3, y4, y5, rfl, sm, nD, hD⟩ := g
        rw [List.take_of_length_le (by rw [List.length_map, List.length_map]; exact Nat.le_refl _)] at hD
        exact ⟨.ref D, rfl, q H' D sm nD hD⟩
/-! ### _law_pieces_due -/
abbrev law_pieces_due_N : List Str := ["sizes", "rows", "labels", "start", "out", "k", "ours", "theirs", "depot", "c"]
theorem law_pieces_due_sc : FnScope ["sizes", "rows", "labels", "start", "out", "k", "ours", "theirs", "depot", "c"] ["sizes", "rows"] (defScope law_pieces_due_st) := ⟨rfl, rfl, rfl, by decide +kernel, rfl, by decide +kernel, by decide +kernel⟩
def spPiecesDue : Sp := fun vs H Q _ => ∃ (ts a : Addr) (m n : Nat) (zs : List Z), vs = [.ref ts, .ref a] ∧ Sz H ts a m n zs ∧ NewPcs H Q (pcs m n (labs m n (zs.map (·.2))))
theorem ok_pieces_due {f1 : Addr} {fd1 : FuncData} (F : FnS K "_law_pieces_due" law_pieces_due_st f fd) (m_len : mg "len" = none) (m_range : mg "range" = none) (D_law_linked : Dn P w K mg base 1 "_law_linked" ["sizes", "pairs"] spLinked f1 fd1) : FnOk P w K mg base (L2N.CX P w) 2 f fd ["sizes", "rows"] spPiecesDue := by
  refine F.ok law_pieces_due_sc (fun vs H Q E h => ?_) (fun cdv A outer s H vs Q E hr h => ?_)
  · obtain ⟨ts, a, m, n, zs, rfl, _⟩ := h
    rfl
  · obtain ⟨ts, a, m, n, zs, rfl, h, q⟩ := h
    have m8 := h.m8
    have n8 := h.n8
    refine ⟨_, (pss_cons (ps_set (i := 2) law_pieces_due_sc.nd rfl (Or.inr rfl) (pe_call D_law_linked.ok (hr.mono (by decide)) rfl D_law_linked.g D_law_linked.kp D_law_linked.b .nil ErrX.passN (pa_cons (pv 0) (pa_cons (pv 1) pa_nil))))
      (pss_cons (ps_set (i := 3) law_pieces_due_sc.nd rfl (Or.inr rfl) (pe_ix ix_tup (pv 0) pe_int (fun _ _ => rfl)))
      (pss_cons (ps_set (i := 4) law_pieces_due_sc.nd rfl (Or.inl rfl) (pe_lst pa_nil))
      (pss_cons (ps_for (passes_of rfl) rfl (pi_range1 rfl m_range (pa_cons (pe_callB call_len_seq (by rfl) m_len (by decide +kernel) (pa_cons (pv 2) pa_nil)) pa_nil)) (pg_name (i := 5) law_pieces_due_sc.nd rfl (Or.inr rfl))
      (pss_one (ps_if (pt_cmpR op_eq (pe_ix ix_list (pv 2) (pv 5) (fun _ _ => rfl)) (pv 5) (nomark _)) (pss_cons (ps_setLc (i := 6) (own := [("depot", 8)]) rfl law_pieces_due_sc.nd rfl rfl (sw_true rfl rfl rfl (by decide +kernel)) (pi_range1 rfl m_range (pa_cons (pv 3) pa_nil)) (blkOk_by (own := [("depot", 8)]) (N := law_pieces_due_N) (sc := defScope law_pieces_due_st) (by decide +kernel)) (fun _ _ _ _ _ => (pg_name (i := 8) law_pieces_due_sc.nd rfl (Or.inl rfl))) (fun _ _ _ _ _ => (pts_one (pt_cmpR op_eq (pe_ix (ix_list : IxR _ (rIxL K)) (pv 2) (pv 8) (fun _ _ => rfl)) (pv 5) (nomark _)))) (fun _ _ _ _ _ => (pv 8)))
      (pss_cons (ps_setLc (i := 7) (own := [("c", 9)]) rfl law_pieces_due_sc.nd rfl rfl (sw_true rfl rfl rfl (by decide +kernel)) (pi_range1 rfl m_range (pa_cons (pe_ix ix_tup (pv 0) pe_int (fun _ _ => rfl)) pa_nil)) (blkOk_by (own := [("c", 9)]) (N := law_pieces_due_N) (sc := defScope law_pieces_due_st) (by decide +kernel)) (fun _ _ _ _ _ => (pg_name (i := 9) law_pieces_due_sc.nd rfl (Or.inl rfl))) (fun _ _ _ _ _ => (pts_one (pt_cmpR op_eq (pe_ix (ix_list : IxR _ (rIxL K)) (pv 2) (pe_op op_add (pv 3) (pv 9)) (fun _ _ => rfl)) (pv 5) (nomark _)))) (fun _ _ _ _ _ => (pv 9)))
      (pss_one (ps_expr (pe_bm PySem.F.plainAttrs_list PySem.F.slot_list_append PySem.F.type_list_append mt_append (pv 4) (pa_cons (pe_tup (pa_cons (pv 6) (pa_cons (pv 7) pa_nil))) pa_nil)))))) pss_nil)))
      (pss_one (ps_ret (pv 4))))))), ?_⟩
    refine ⟨.ref ts, rfl, .ref a, rfl, ts, a, m, n, zs, rfl, h, fun H1 l s1 nl hl => ?_⟩
    have ll := labs_len m n (zs.map (·.2))
    generalize labs m n (zs.map (·.2)) = L at hl ll q
    have hts := s1 _ _ h.hs
    refine ⟨.ref ts, rfl, ts, _, 0, nV m, rfl, rfl, sqt hts, rfl, ?_⟩
    refine ⟨len0, fun D nD => ?_⟩
    have ss := Same.new (o := .lst []) nD
    refine ⟨.ref l, rfl, l, _, rfl, .inl (sq (ss _ _ hl)), _, rfl, by rw [List.length_map]; omega, by rw [List.length_map]; omega, ?_⟩
    rw [List.length_map, Int.toNat_natCast]
    refine for_range (lo := 0) (n := L.length) (fun i σ H' => ∃ (y5 y6 y7 : Option V) (ws : List P4), σ = [some (.ref ts), some (.ref a), some (.ref l), some (nV m), some (.ref D), y5, y6, y7, none, none] ∧ Same H1 H' ∧ H' D = some (.lst (ws.map pV)) ∧ PcZ H' ws ∧ FrZ H ws ∧ ws.map P4.d = (((List.range i).filter fun k => decide (L.getD k 0 = k)).map fun k => (ours m L k, theirs m n L k)) ∧ ∀ z ∈ ws, z.o ≠ D ∧ z.u ≠ D)
      ⟨none, none, none, [], rfl, ss, upd_same, (fun _ h => nomatch h), (fun _ h => nomatch h), rfl, (fun _ h => nomatch h)⟩ (fun i σ H' hi g => ?_) (fun σ H' g => ?_)
    · obtain ⟨y5, y6, y7, ws, rfl, sm, hD, pz, fz, ez, nz⟩ := g
      have hl' := sm _ _ hl
      have hts' := sm _ _ hts
      have wl : ws.length ≤ i := by
        have := congrArg List.length ez
        rw [List.length_map, List.length_map] at this
        have h2 := List.length_filter_le (fun k => decide (L.getD k 0 = k)) (List.range i)
        rw [List.length_range] at h2
        omega
      rw [int_nV]
      refine ⟨.ref l, rfl, nV i, rfl, l, _, (i : Int), nV (L.getD i 0), rfl, rfl, sq hl', get_nV hi, nV i, rfl, ⟨rfl, _, rfl, ite2 (fun e => ?_) (fun e => ?_)⟩⟩
      · have e := nV_eq.mp (of_decide_eq_true e)
        refine ⟨nV m, rfl, (m : Int), rfl, by omega, by omega, fun o no => ?_⟩
        rw [Int.toNat_natCast]
        refine lc_range (lo := 0) (n := m) (fun i' H2 => Same H' H2 ∧ H2 o = some (.lst (((List.range i').filter fun p => decide (L.getD p 0 = i)).map nV))) ⟨Same.new no, upd_same⟩ (fun i' H2 hi2 g => ?_) (fun H2 g => ?_)
        · obtain ⟨s2, hO⟩ := g
          rw [int_nV]
          refine ⟨rfl, ?_⟩
          refine ⟨.ref l, rfl, nV i', rfl, l, _, (i' : Int), nV (L.getD i' 0), rfl, rfl, sq (s2 _ _ hl'), get_nV (by omega), nV i, rfl, ⟨rfl, _, rfl, ite2 (fun e => ?_) (fun e => ?_)⟩⟩
          · have e := nV_eq.mp (of_decide_eq_true e)
            refine ⟨nV i', rfl, _, hO, small1000 (Nat.le_trans (filter_le _ _) (by rw [List.length_range]; omega)), s2.mut no, ?_⟩
            rw [upd_same, filter_succ, if_pos (decide_eq_true e), List.map_append]
            rfl
          · have e : ¬ L.getD i' 0 = i := fun z => e (decide_eq_true (nV_eq.mpr z))
            refine ⟨s2, ?_⟩
            rw [filter_succ, if_neg (fun z => e (of_decide_eq_true z)), List.append_nil]
            exact hO
        · obtain ⟨s2, hO⟩ := g
          have hl2 := s2 _ _ hl'
          have hts2 := s2 _ _ hts'
          refine ⟨.ref ts, rfl, ts, _, 1, nV n, rfl, rfl, sqt hts2, rfl, (n : Int), rfl, by omega, by omega, fun u nu => ?_⟩
          rw [Int.toNat_natCast]
          refine lc_range (lo := 0) (n := n) (fun i' H3 => Same H2 H3 ∧ H3 u = some (.lst (((List.range i').filter fun c => decide (L.getD (m + c) 0 = i)).map nV))) ⟨Same.new nu, upd_same⟩ (fun i' H3 hi2 g => ?_) (fun H3 g => ?_)
          · obtain ⟨s3, hU⟩ := g
            rw [int_nV]
            refine ⟨rfl, ?_⟩
            refine ⟨.ref l, rfl, nV m, rfl, nV i', rfl, m, i', rfl, rfl, l, _, ((m + i' : Nat) : Int), nV (L.getD (m + i') 0), rfl, rfl, sq (s3 _ _ hl2), get_nV (by omega), nV i, rfl, ⟨rfl, _, rfl, ite2 (fun e => ?_) (fun e => ?_)⟩⟩
            · have e := nV_eq.mp (of_decide_eq_true e)
              refine ⟨nV i', rfl, _, hU, small1000 (Nat.le_trans (filter_le _ _) (by rw [List.length_range]; omega)), s3.mut nu, ?_⟩
              rw [upd_same, filter_succ, if_pos (decide_eq_true e), List.map_append]
              rfl
            · have e : ¬ L.getD (m + i') 0 = i := fun z => e (decide_eq_true (nV_eq.mpr z))
              refine ⟨s3, ?_⟩
              rw [filter_succ, if_neg (fun z => e (of_decide_eq_true z)), List.append_nil]
              exact hU
          · obtain ⟨s3, hU⟩ := g
            have hD3 := s3 _ _ (s2 _ _ hD)
            have noD : o ≠ D := (ne_of_none hD no).symm
            have nuD : u ≠ D := (ne_of_none (s2 _ _ hD) nu).symm
            refine ⟨.ref D, rfl, .inl ⟨rfl, _, sq hD3⟩, .ref o, rfl, .ref u, rfl, len2, fun t nt => ?_⟩
            have s4 := Same.new (o := .tup [V.ref o, V.ref u]) nt
            have hD4 := s4 _ _ hD3
            have s0 := s1.trans sm
            have s02 := s0.trans s2
            have s23 := s2.trans s3
            have hp : PcAt (L2.upd H3 t (.tup [V.ref o, V.ref u])) t o u (ours m L i) (theirs m n L i) := ⟨upd_same, s4 _ _ (s3 _ _ hO), s4 _ _ hU⟩
            refine ⟨D, _, _, rfl, rfl, hD4, small1000 (by rw [List.length_map]; omega), _, _, _, ws ++ [⟨t, o, u, (ours m L i, theirs m n L i)⟩], rfl, ((sm.trans s23).trans s4).mut nD, ?_, ?_, ?_, ?_, ?_⟩
            · rw [upd_same, List.map_append]
              rfl
            · intro z hz
              rcases List.mem_append.mp hz with hz | hz
              · exact ((pz z hz).keep (s23.trans s4)).upd hD4 (nz z hz).1 (nz z hz).2
              · rw [List.mem_singleton.mp hz]
                exact hp.upd hD4 noD nuD
            · intro z hz
              rcases List.mem_append.mp hz with hz | hz
              · exact fz z hz
              · rw [List.mem_singleton.mp hz]
                exact ⟨(s02.trans s3).back nt, s0.back no, s02.back nu⟩
            · rw [List.map_append, ez, filter_succ, if_pos (decide_eq_true e), List.map_append]
              rfl
            · intro z hz
              rcases List.mem_append.mp hz with hz | hz
              · exact nz z hz
              · rw [List.mem_singleton.mp hz]
                exact ⟨noD, nuD⟩
      · have e : ¬ L.getD i 0 = i := fun z => e (decide_eq_true (nV_eq.mpr z))
        refine ⟨_, _, _, ws, rfl, sm, hD, pz, fz, ?_, nz⟩
        rw [ez, filter_succ, if_neg (fun z => e (of_decide_eq_true z)), List.append_nil]
    · obtain ⟨y5, y6, y7, ws, rfl, sm, hD, pz, fz, ez, nz⟩ := g
      exact ⟨.ref D, rfl, q H' D ws (s1.trans sm) (s1.back nD) hD pz fz ez nz⟩
end
end K03
set_option Elab.async false
set_option linter.all false
set_option maxRecDepth 100000
set_option maxHeartbeats 4000000
namespace K03
open PySem PySem.Spec PyProof.Rows L2
/-- an own error: its class, its __init__ that keeps its argument in one field -/
structure Er (P : Program) (w : World) (K : PySem.W.Frag) (mg : Str → Option Value) (base : Heap) (x fld : Str) (C fI : Addr) (fd : FuncData) (ps : List Str) : Prop where
  T : OexC K C
  iC : PySem.W.findIn K (.ref C) "__init__" = some (some (.ref fI))
  tI : PySem.W.typeIn K (.ref fI) = some (.type "function")
  F : FnOk P w K mg base (L2N.CX P w) 1 fI fd ps (ErrX.spI C fld)
  b : Binds K fd ps []
  g : mg x = some (.ref C)
section
variable {P : Program} {w : World} {K : PySem.W.Frag} {mg : Str → Option Value} {base : Heap} {f : Addr} {fd : FuncData}
/-! ### checks -/
abbrev check_size_N : List Str := ["size", "least", "most"]
theorem check_size_sc : FnScope ["size", "least", "most"] ["size", "least", "most"] (defScope check_size_st) := ⟨rfl, rfl, rfl, by decide +kernel, rfl, by decide +kernel, by decide +kernel⟩
def spSize : Sp := fun vs H Q _ => ∃ (x a b : Int), vs = [.int x, .int a, .int b] ∧ a ≤ x ∧ x ≤ b ∧ Q .non H
theorem ok_size (F : FnS K "check_size" check_size_st f fd) : FnOk P w K mg base (L2N.CX P w) 1 f fd ["size", "least", "most"] spSize := by
  refine F.ok check_size_sc (fun vs H Q E h => ?_) (fun cdv A outer s H vs Q E hr h => ?_)
  · obtain ⟨x, a, b, rfl, _⟩ := h
    rfl
  · obtain ⟨x, a, b, rfl, h1, h2, q⟩ := h
    refine ⟨_, (pss_one (ps_if (pt_not (pt_chain op_le op_le (pv 1) (pv 0) (pv 2))) (pss_one ps_never) pss_nil)), ?_⟩
    refine ⟨.int a, rfl, .int x, rfl, a, x, rfl, rfl, true, congrArg V.bl (decide_eq_true h1), iteT ⟨.int b, rfl, x, b, rfl, rfl, _, rfl, ite2 (fun e => ?_) (fun e => ?_)⟩⟩
    · rw [decide_eq_true h2] at e
      cases e
    · exact q
abbrev check_most_N : List Str := ["number", "most"]
theorem check_most_sc : FnScope ["number", "most"] ["number", "most"] (defScope check_most_st) := ⟨rfl, rfl, rfl, by decide +kernel, rfl, by decide +kernel, by decide +kernel⟩
def spMost : Sp := fun vs H Q _ => ∃ (x b : Int), vs = [.int x, .int b] ∧ x ≤ b ∧ Q .non H
theorem ok_most (F : FnS K "check_most" check_most_st f fd) : FnOk P w K mg base (L2N.CX P w) 1 f fd ["number", "most"] spMost := by
  refine F.ok check_most_sc (fun vs H Q E h => ?_) (fun cdv A outer s H vs Q E hr h => ?_)
  · obtain ⟨x, b, rfl, _⟩ := h
    rfl
  · obtain ⟨x, b, rfl, h1, q⟩ := h
    refine ⟨_, (pss_one (ps_if (pt_cmpR op_gt (pv 0) (pv 1) (nomark _)) (pss_one ps_never) pss_nil)), ?_⟩
    refine ⟨.int x, rfl, .int b, rfl, x, b, rfl, rfl, _, rfl, ite2 (fun e => ?_) (fun e => ?_)⟩
    · have := of_decide_eq_true e
      omega
    · exact q
abbrev check_customer_N : List Str := ["customer", "customers"]
theorem check_customer_sc : FnScope ["customer", "customers"] ["customer", "customers"] (defScope check_customer_st) := ⟨rfl, rfl, rfl, by decide +kernel, rfl, by decide +kernel, by decide +kernel⟩
def spCustomer : Sp := fun vs H Q _ => ∃ (x b : Int), vs = [.int x, .int b] ∧ 0 ≤ x ∧ x < b ∧ Q .non H
theorem ok_customer (F : FnS K "check_customer" check_customer_st f fd) : FnOk P w K mg base (L2N.CX P w) 1 f fd ["customer", "customers"] spCustomer := by
  refine F.ok check_customer_sc (fun vs H Q E h => ?_) (fun cdv A outer s H vs Q E hr h => ?_)
  · obtain ⟨x, b, rfl, _⟩ := h
    rfl
  · obtain ⟨x, b, rfl, h1, h2, q⟩ := h
    refine ⟨_, (pss_one (ps_if (pt_not (pt_chain op_le op_lt pe_int (pv 0) (pv 1))) (pss_one ps_never) pss_nil)), ?_⟩
    refine ⟨.int x, rfl, 0, x, rfl, rfl, true, congrArg V.bl (decide_eq_true h1), iteT ⟨.int b, rfl, x, b, rfl, rfl, _, rfl, ite2 (fun e => ?_) (fun e => ?_)⟩⟩
    · rw [decide_eq_true h2] at e
      cases e
    · exact q
abbrev check_depot_N : List Str := ["depot", "depots"]
theorem check_depot_sc : FnScope ["depot", "depots"] ["depot", "depots"] (defScope check_depot_st) := ⟨rfl, rfl, rfl, by decide +kernel, rfl, by decide +kernel, by decide +kernel⟩
def spDepot (C : Addr) : Sp := fun vs H Q E => ∃ (x : Int) (m : Nat), vs = [.int x, nV m] ∧ (0 ≤ x ∧ x < (m : Int) → Q .non H) ∧ (¬ (0 ≤ x ∧ x < (m : Int)) → ∀ d, H d = none → E (.ref C) (some d) (upd H d (.xd [("depot", .int x)])))
theorem ok_depot {C fI : Addr} {fdI : FuncData} {psI : List Str} (F : FnS K "check_depot" check_depot_st f fd) (D_NoDepot : Er P w K mg base "NoDepot" "depot" C fI fdI psI) : FnOk P w K mg base (L2N.CX P w) 3 f fd ["depot", "depots"] (spDepot C) := by
  refine F.ok check_depot_sc (fun vs H Q E h => ?_) (fun cdv A outer s H vs Q E hr h => ?_)
  · obtain ⟨x, m, rfl, _⟩ := h
    rfl
  · obtain ⟨x, m, rfl, h1, h2⟩ := h
    refine ⟨_, (pss_one (ps_if (pt_not (pt_chain op_le op_lt pe_int (pv 0) (pv 1))) (pss_one (L2N.ps_raise rfl (L2N.takes_of rfl rfl rfl rfl) (ErrX.pmk_err1 D_NoDepot.T D_NoDepot.iC D_NoDepot.tI D_NoDepot.F hr D_NoDepot.b ErrX.passN rfl D_NoDepot.g (pa_cons (pv 0) pa_nil)))) pss_nil)), ?_⟩
    refine ⟨.int x, rfl, 0, x, rfl, rfl, _, rfl, ite2 (fun e0 => ?_) (fun e0 => ?_)⟩
    · have e0 := of_decide_eq_true e0
      refine ⟨nV m, rfl, x, m, rfl, rfl, _, rfl, ite2 (fun e => ?_) (fun e => ?_)⟩
      · have hb : ¬ x < (m : Int) := fun z => by
          rw [decide_eq_true z] at e
          cases e
        exact ⟨_, rfl, _, rfl, h2 fun z => hb z.2⟩
      · by_cases z : x < (m : Int)
        · exact h1 ⟨e0, z⟩
        · rw [decide_eq_false z] at e
          exact absurd rfl e
    · have hb : ¬ 0 ≤ x := fun z => e0 (decide_eq_true z)
      refine ⟨false, rfl, iteT ⟨_, rfl, _, rfl, h2 fun z => hb z.1⟩⟩
end
end K03
set_option Elab.async false
set_option linter.all false
set_option maxRecDepth 100000
set_option maxHeartbeats 4000000
namespace K03
open PySem PySem.Spec PyProof.Rows L2
theorem item_int {ns : List Int} {i : Nat} {x : V} (h : (ns.map V.int)[i]? = some x) : ∃ c, ns[i]? = some c ∧ x = .int c := by
  rw [List.getElem?_map] at h
  cases e : ns[i]? with
  | none => rw [e] at h; cases h
  | some c => rw [e] at h; exact ⟨c, rfl, (Option.some.inj h).symm⟩
theorem Same.seqT {K : PySem.W.Frag} {H H' : Hp} {a : Addr} {xs : List V} (e : Same H H') (h : SqT K H a xs) : SqT K H' a xs := Evl.ex_t e h
def wrd (b : Bool) : Str := if b then "Repeated" else "NoDepot"
def fldOf (b : Bool) : Str := if b then "entry" else "depot"
section
variable {P : Program} {w : World} {K : PySem.W.Frag} {mg : Str → Option Value} {base : Heap} {f : Addr} {fd : FuncData}
/-! ### checked_lot -/
abbrev checked_lot_N : List Str := ["lot", "depots", "entries", "entry"]
theorem checked_lot_sc : FnScope ["lot", "depots", "entries", "entry"] ["lot", "depots"] (defScope checked_lot_st) := ⟨rfl, rfl, rfl, by decide +kernel, rfl, by decide +kernel, by decide +kernel⟩
def spChecked (K : PySem.W.Frag) (CN CR : Addr) : Sp := fun vs H Q E => ∃ (a : Addr) (m : Nat) (ns : List Int), vs = [.ref a, nV m] ∧ (SqL K H a (ns.map V.int) ∨ SqT K H a (ns.map V.int)) ∧ ns.length ≤ 10 ∧
  (due m ns = none → ∀ (H' : Hp) (D : Addr) (es : List Int), Same H H' → H D = none → H' D = some (.lst (es.map V.int)) → (∀ x, x ∈ es ↔ x ∈ ns) → Q (.ref D) H') ∧
  (∀ b x, due m ns = some (b, x) → ∀ (H' : Hp) (d : Addr), Same H H' → H d = none → H' d = some (.xd [(fldOf b, .int x)]) → E (.ref (if b then CR else CN)) (some d) H')
theorem ok_checked {CN fN CR fR f1 : Addr} {fdN fdR fd1 : FuncData} {psN psR : List Str} (F : FnS K "checked_lot" checked_lot_st f fd) (m_sorted : mg "sorted" = none) (D_NoDepot : Er P w K mg base "NoDepot" "depot" CN fN fdN psN) (D_Repeated : Er P w K mg base "Repeated" "entry" CR fR fdR psR) (D_check_depot : Dn P w K mg base 3 "check_depot" ["depot", "depots"] (spDepot CN) f1 fd1) : FnOk P w K mg base (L2N.CX P w) 4 f fd ["lot", "depots"] (spChecked K CN CR) := by
  refine F.ok checked_lot_sc (fun vs H Q E h => ?_) (fun cdv A outer s H vs Q E hr h => ?_)
  · obtain ⟨a, m, ns, rfl, _⟩ := h
    rfl
  · obtain ⟨a, m, ns, rfl, hs, h10, q, qe⟩ := h
    rcases hs with hs | hs
    · refine ⟨_, (pss_cons (ps_set (i := 2) checked_lot_sc.nd rfl (Or.inl rfl) (pe_lst pa_nil))
      (pss_cons (ps_for (passes_of rfl) rfl (pi_list (pv 0)) (pg_name (i := 3) checked_lot_sc.nd rfl (Or.inl rfl))
      (pss_cons (ps_expr (pe_callS D_check_depot.ok (hr.mono (by decide)) rfl D_check_depot.g D_check_depot.kp D_check_depot.b (fun σ => L2N.passAt (L2N.takes_of rfl rfl rfl rfl) σ) (pa_cons (pv 3) (pa_cons (pv 1) pa_nil))))
      (pss_cons (ps_if (pt_cmpR op_in_seq (pv 3) (pv 2) rfl) (pss_one (L2N.ps_raise rfl (L2N.takes_of rfl rfl rfl rfl) (ErrX.pmk_err1 D_Repeated.T D_Repeated.iC D_Repeated.tI D_Repeated.F (hr.mono (by decide)) D_Repeated.b ErrX.passN rfl D_Repeated.g (pa_cons (pv 3) pa_nil)))) pss_nil)
      (pss_one (ps_expr (pe_bm PySem.F.plainAttrs_list PySem.F.slot_list_append PySem.F.type_list_append mt_append (pv 2) (pa_cons (pv 3) pa_nil)))))))
      (pss_one (ps_ret (pe_callB cr_sortedI (by rfl) m_sorted (by decide +kernel) (pa_cons (pv 2) pa_nil)))))), ?_⟩
      refine ⟨len0, fun D nD => ?_⟩
      have s1 := Same.new (o := .lst []) nD
      refine ⟨.ref a, rfl, a, rfl, ⟨_, Same.seq s1 hs⟩, ?_⟩
      refine for_list (K := K) (a := a) (xs := ns.map V.int) (fun i σ H' => ∃ y3 : Option V, σ = [some (.ref a), some (nV m), some (.ref D), y3] ∧ Same H H' ∧ H' D = some (.lst ((ns.take i).map V.int)) ∧ rest m ns i = due m ns) ⟨none, rfl, s1, upd_same, rfl⟩ (fun i σ H' _ h => ?_) (fun i x σ H' hx h => ?_) (fun σ H' h => ?_)
      · obtain ⟨y3, _, sm, _⟩ := h
        exact Same.seq sm hs
      · obtain ⟨y3, rfl, sm, hD, hre⟩ := h
        obtain ⟨c, hc, rfl⟩ := item_int hx
        rw [rest_at hc] at hre
        refine ⟨.int c, rfl, nV m, rfl, c, m, rfl, fun hin => ?_, fun hout d nd => ?_⟩
        · rw [if_pos hin] at hre
          refine ⟨.int c, rfl, .ref D, rfl, D, _, rfl, .inl (sq hD), rfl, flat_ints _, _, rfl, ite2 (fun e => ?_) (fun e => ?_)⟩
          · have e : c ∈ ns.take i := by
              have e : inV (.int c) ((ns.take i).map V.int) = true := e
              rw [inV_ints] at e
              exact of_decide_eq_true e
            rw [if_pos e] at hre
            refine ⟨.int c, rfl, _, rfl, fun d nd => ?_⟩
            exact qe true c hre.symm _ d (sm.trans (Same.new nd)) (sm.back nd) upd_same
          · have e : ¬ c ∈ ns.take i := fun z => by
              have e : ¬ inV (.int c) ((ns.take i).map V.int) = true := e
              rw [inV_ints, decide_eq_true z] at e
              exact e rfl
            rw [if_neg e] at hre
            refine ⟨.ref D, rfl, .inl ⟨rfl, _, sq hD⟩, .int c, rfl, D, _, _, rfl, rfl, hD, small1000 (by rw [List.length_map, List.length_take]; omega), _, rfl, sm.mut nD, ?_, hre⟩
            rw [upd_same, List.take_add_one, hc, List.map_append]
            rfl
        · rw [if_neg hout] at hre
          exact qe false c hre.symm _ d (sm.trans (Same.new nd)) (sm.back nd) upd_same
      · obtain ⟨y3, rfl, sm, hD, hre⟩ := h
        rw [List.length_map] at hD hre
        rw [rest_end m ns (Nat.le_refl _)] at hre
        rw [List.take_length] at hD
        refine ⟨.ref D, rfl, D, ns, rfl, sq hD, fun es p pm _ np => ?_⟩
        exact q hre.symm _ p es (sm.trans (Same.new np)) (sm.back np) upd_same fun x => pm.mem_iff
    · refine ⟨_, (pss_cons (ps_set (i := 2) checked_lot_sc.nd rfl (Or.inl rfl) (pe_lst pa_nil))
      (pss_cons (ps_for (passes_of rfl) rfl (pi_tup (pv 0)) (pg_name (i := 3) checked_lot_sc.nd rfl (Or.inl rfl))
      (pss_cons (ps_expr (pe_callS D_check_depot.ok (hr.mono (by decide)) rfl D_check_depot.g D_check_depot.kp D_check_depot.b (fun σ => L2N.passAt (L2N.takes_of rfl rfl rfl rfl) σ) (pa_cons (pv 3) (pa_cons (pv 1) pa_nil))))
      (pss_cons (ps_if (pt_cmpR op_in_seq (pv 3) (pv 2) rfl) (pss_one (L2N.ps_raise rfl (L2N.takes_of rfl rfl rfl rfl) (ErrX.pmk_err1 D_Repeated.T D_Repeated.iC D_Repeated.tI D_Repeated.F (hr.mono (by decide)) D_Repeated.b ErrX.passN rfl D_Repeated.g (pa_cons (pv 3) pa_nil)))) pss_nil)
      (pss_one (ps_expr (pe_bm PySem.F.plainAttrs_list PySem.F.slot_list_append PySem.F.type_list_append mt_append (pv 2) (pa_cons (pv 3) pa_nil)))))))
      (pss_one (ps_ret (pe_callB cr_sortedI (by rfl) m_sorted (by decide +kernel) (pa_cons (pv 2) pa_nil)))))), ?_⟩
      refine ⟨len0, fun D nD => ?_⟩
      have s1 := Same.new (o := .lst []) nD
      refine ⟨.ref a, rfl, a, rfl, ⟨_, K03.Same.seqT s1 hs⟩, ?_⟩
      refine for_tup (K := K) (a := a) (xs := ns.map V.int) (fun i σ H' => ∃ y3 : Option V, σ = [some (.ref a), some (nV m), some (.ref D), y3] ∧ Same H H' ∧ H' D = some (.lst ((ns.take i).map V.int)) ∧ rest m ns i = due m ns) ⟨none, rfl, s1, upd_same, rfl⟩ (fun i σ H' _ h => ?_) (fun i x σ H' hx h => ?_) (fun σ H' h => ?_)
      · obtain ⟨y3, _, sm, _⟩ := h
        exact K03.Same.seqT sm hs
      · obtain ⟨y3, rfl, sm, hD, hre⟩ := h
        obtain ⟨c, hc, rfl⟩ := item_int hx
        rw [rest_at hc] at hre
        refine ⟨.int c, rfl, nV m, rfl, c, m, rfl, fun hin => ?_, fun hout d nd => ?_⟩
        · rw [if_pos hin] at hre
          refine ⟨.int c, rfl, .ref D, rfl, D, _, rfl, .inl (sq hD), rfl, flat_ints _, _, rfl, ite2 (fun e => ?_) (fun e => ?_)⟩
          · have e : c ∈ ns.take i := by
              have e : inV (.int c) ((ns.take i).map V.int) = true := e
              rw [inV_ints] at e
              exact of_decide_eq_true e
            rw [if_pos e] at hre
            refine ⟨.int c, rfl, _, rfl, fun d nd => ?_⟩
            exact qe true c hre.symm _ d (sm.trans (Same.new nd)) (sm.back nd) upd_same
          · have e : ¬ c ∈ ns.take i := fun z => by
              have e : ¬ inV (.int c) ((ns.take i).map V.int) = true := e
              rw [inV_ints, decide_eq_true z] at e
              exact e rfl
            rw [if_neg e] at hre
            refine ⟨.ref D, rfl, .inl ⟨rfl, _, sq hD⟩, .int c, rfl, D, _, _, rfl, rfl, hD, small1000 (by rw [List.length_map, List.length_take]; omega), _, rfl, sm.mut nD, ?_, hre⟩
            rw [upd_same, List.take_add_one, hc, List.map_append]
            rfl
        · rw [if_neg hout] at hre
          exact qe false c hre.symm _ d (sm.trans (Same.new nd)) (sm.back nd) upd_same
      · obtain ⟨y3, rfl, sm, hD, hre⟩ := h
        rw [List.length_map] at hD hre
        rw [rest_end m ns (Nat.le_refl _)] at hre
        rw [List.take_length] at hD
        refine ⟨.ref D, rfl, D, ns, rfl, sq hD, fun es p pm _ np => ?_⟩
        exact q hre.symm _ p es (sm.trans (Same.new np)) (sm.back np) upd_same fun x => pm.mem_iff
end
end K03
set_option Elab.async false
set_option linter.all false
set_option maxRecDepth 100000
set_option maxHeartbeats 4000000
namespace K03
open PySem PySem.Spec PyProof.Rows L2
theorem cut_take (xs : List V) (i : Nat) : cutV xs none (some (i : Int)) = xs.take i := by
  unfold cutV
  rw [HT.sIx_none, show HT.sIx xs.length xs.length (some (i : Int)) = min i xs.length from HT.sIx_nat _ _ _, Nat.sub_zero]
  show (xs.drop 0).take _ = _
  rw [List.drop_zero]
  by_cases h : i ≤ xs.length
  · rw [Nat.min_eq_left h]
  · rw [Nat.min_eq_right (by omega), List.take_length, List.take_of_length_le (by omega)]
theorem get_int {ns : List Int} {i : Nat} (h : i < ns.length) : ∃ c, ns[i]? = some c ∧ atI (ns.map V.int) (i : Int) = some (.int c) := by
  refine ⟨ns[i], List.getElem?_eq_getElem h, atI_nat ?_⟩
  rw [List.getElem?_map, List.getElem?_eq_getElem h]
  rfl
/-- an answer told at t: a refusal, or the row r -/
def Told (H H' : Hp) (t : Addr) (o : Option (Bool × Int)) (r : List Nat) : Prop := H t = none ∧ match o with
  | some (b, x) => H' t = some (.tup [.str "refused", .str (wrd b), .int x])
  | none => ∃ u, H u = none ∧ H' t = some (.tup [.str "told", .ref u]) ∧ H' u = some (.lst (r.map nV))
theorem lt_of_le_nodup {xs : List Int} (h : xs.Pairwise (· ≤ ·)) (n : xs.Nodup) : xs.Pairwise (· < ·) := by
  rw [List.nodup_iff_pairwise_ne] at n
  exact (h.and n).imp fun ⟨a, b⟩ => by omega
section
variable {P : Program} {w : World} {K : PySem.W.Frag} {mg : Str → Option Value} {base : Heap} {f : Addr} {fd : FuncData}
/-! ### _law_reach_due -/
abbrev law_reach_due_N : List Str := ["sizes", "rows", "lot", "k", "seen", "row"]
theorem law_reach_due_sc : FnScope ["sizes", "rows", "lot", "k", "seen", "row"] ["sizes", "rows", "lot"] (defScope law_reach_due_st) := ⟨rfl, rfl, rfl, by decide +kernel, rfl, by decide +kernel, by decide +kernel⟩
def spReachDue (K : PySem.W.Frag) : Sp := fun vs H Q _ => ∃ (ts a l : Addr) (m n : Nat) (zs : List Z) (ns : List Int), vs = [.ref ts, .ref a, .ref l] ∧ Sz H ts a m n zs ∧ zs.length ≤ 16 ∧ SqL K H l (ns.map V.int) ∧ ns.length ≤ 10 ∧ ∀ (H' : Hp) (t : Addr), Same H H' → Told H H' t (due m ns) (rch n (zs.map (·.2)) ns) → Q (.ref t) H'
theorem ok_reach_due (F : FnS K "_law_reach_due" law_reach_due_st f fd) (m_len : mg "len" = none) (m_range : mg "range" = none) (m_sorted : mg "sorted" = none) : FnOk P w K mg base (L2N.CX P w) 1 f fd ["sizes", "rows", "lot"] (spReachDue K) := by
  refine F.ok law_reach_due_sc (fun vs H Q E h => ?_) (fun cdv A outer s H vs Q E hr h => ?_)
  · obtain ⟨ts, a, l, m, n, zs, ns, rfl, _⟩ := h
    rfl
  · obtain ⟨ts, a, l, m, n, zs, ns, rfl, h, z16, hl, h10, q⟩ := h
    refine ⟨_, (pss_cons (ps_for (passes_of rfl) rfl (pi_range1 rfl m_range (pa_cons (pe_callB call_len_seq (by rfl) m_len (by decide +kernel) (pa_cons (pv 2) pa_nil)) pa_nil)) (pg_name (i := 3) law_reach_due_sc.nd rfl (Or.inl rfl))
      (pss_cons (ps_if (pt_not (pt_chain op_le op_lt pe_int (pe_ix ix_list (pv 2) (pv 3) (fun _ _ => rfl)) (pe_ix ix_tup (pv 0) pe_int (fun _ _ => rfl)))) (pss_one (ps_ret (pe_tup (pa_cons pe_str (pa_cons pe_str (pa_cons (pe_ix ix_list (pv 2) (pv 3) (fun _ _ => rfl)) pa_nil)))))) pss_nil)
      (pss_one (ps_if (pt_cmpR op_in_seq (pe_ix ix_list (pv 2) (pv 3) (fun _ _ => rfl)) (pe_slice sl_list (pv 2) po_none (po_some (pv 3))) rfl) (pss_one (ps_ret (pe_tup (pa_cons pe_str (pa_cons pe_str (pa_cons (pe_ix ix_list (pv 2) (pv 3) (fun _ _ => rfl)) pa_nil)))))) pss_nil))))
      (pss_cons (ps_set (i := 4) law_reach_due_sc.nd rfl (Or.inl rfl) (pe_lst pa_nil))
      (pss_cons (ps_for (passes_of rfl) rfl (pi_list (pv 1)) (pg_name (i := 5) law_reach_due_sc.nd rfl (Or.inl rfl))
      (pss_one (ps_if (PW.pt (pw_and (pt_cmpR op_in_seq (pe_ix ix_tup (pv 5) pe_int (fun _ _ => rfl)) (pv 2) rfl) (pw_and1 (pt_cmpR op_notIn_seq (pe_ix ix_tup (pv 5) pe_int (fun _ _ => rfl)) (pv 4) rfl)))) (pss_one (ps_expr (pe_bm PySem.F.plainAttrs_list PySem.F.slot_list_append PySem.F.type_list_append mt_append (pv 4) (pa_cons (pe_ix ix_tup (pv 5) pe_int (fun _ _ => rfl)) pa_nil)))) pss_nil)))
      (pss_one (ps_ret (pe_tup (pa_cons pe_str (pa_cons (pe_callB cr_sortedI (by rfl) m_sorted (by decide +kernel) (pa_cons (pv 4) pa_nil)) pa_nil)))))))), ?_⟩
    refine ⟨.ref l, rfl, l, _, rfl, .inl hl, _, rfl, by rw [List.length_map]; omega, by rw [List.length_map]; omega, ?_⟩
    rw [List.length_map, Int.toNat_natCast]
    refine for_range (lo := 0) (n := ns.length) (fun i σ H' => ∃ y3 : Option V, σ = [some (.ref ts), some (.ref a), some (.ref l), y3, none, none] ∧ Same H H' ∧ rest m ns i = due m ns) ⟨none, rfl, Same.refl H, rfl⟩ (fun i σ H' hi g => ?_) (fun σ H' g => ?_)
    · obtain ⟨y3, rfl, sm, hre⟩ := g
      obtain ⟨c, hc, gc⟩ := get_int hi
      rw [rest_at hc] at hre
      have hl' := sm.seq hl
      have hts := sm _ _ h.hs
      rw [int_nV]
      have out : ∀ (b : Bool), some (b, c) = due m ns → ∀ (H2 : Hp) (t : Addr), Same H H2 → H2 t = none → Q (.ref t) (upd H2 t (.tup [.str "refused", .str (wrd b), .int c])) := fun b e H2 t s2 nt => by
        refine q _ t (s2.trans (Same.new nt)) ⟨s2.back nt, ?_⟩
        rw [← e]
        exact upd_same
      refine ⟨.ref l, rfl, nV i, rfl, l, _, (i : Int), .int c, rfl, rfl, hl', gc, 0, c, rfl, rfl, _, rfl, ite2 (fun e0 => ?_) (fun e0 => ?_)⟩
      · have e0 := of_decide_eq_true e0
        refine ⟨.ref ts, rfl, ts, _, 0, nV m, rfl, rfl, sqt hts, rfl, c, m, rfl, rfl, _, rfl, ite2 (fun e => ?_) (fun e => ?_)⟩
        · have hb : ¬ c < (m : Int) := fun z => by
            rw [decide_eq_true z] at e
            cases e
          rw [if_neg (fun z => hb z.2)] at hre
          exact ⟨.ref l, rfl, nV i, rfl, l, _, (i : Int), .int c, rfl, rfl, hl', gc, len3, fun t nt => out false hre _ t sm nt⟩
        · have e : c < (m : Int) := by
            by_cases z : c < (m : Int)
            · exact z
            · rw [decide_eq_false z] at e
              exact absurd rfl e
          rw [if_pos ⟨e0, e⟩] at hre
          refine ⟨.ref l, rfl, nV i, rfl, l, _, (i : Int), .int c, rfl, rfl, hl', gc, .ref l, rfl, nV i, rfl, (i : Int), rfl, l, _, rfl, hl', fun D nD => ?_⟩
          have s2 := sm.trans (Same.new (o := .lst (cutV (ns.map V.int) none (some (i : Int)))) nD)
          have ec : cutV (ns.map V.int) none (some (i : Int)) = (ns.take i).map V.int := by rw [cut_take, List.map_take]
          refine ⟨D, _, rfl, .inl (sq upd_same), rfl, by rw [ec]; exact flat_ints _, _, rfl, ite2 (fun e => ?_) (fun e => ?_)⟩
          · have e : c ∈ ns.take i := by
              have e : inV (.int c) (cutV (ns.map V.int) none (some (i : Int))) = true := e
              rw [ec, inV_ints] at e
              exact of_decide_eq_true e
            rw [if_pos e] at hre
            exact ⟨.ref l, rfl, nV i, rfl, l, _, (i : Int), .int c, rfl, rfl, s2.seq hl, gc, len3, fun t nt => out true hre _ t s2 nt⟩
          · have e : ¬ c ∈ ns.take i := fun z => by
              have e : ¬ inV (.int c) (cutV (ns.map V.int) none (some (i : Int))) = true := e
              rw [ec, inV_ints, decide_eq_true z] at e
              exact e rfl
            rw [if_neg e] at hre
            exact ⟨_, rfl, s2, hre⟩
      · have hb : ¬ 0 ≤ c := fun z => e0 (decide_eq_true z)
        rw [if_neg (fun z => hb z.1)] at hre
        exact ⟨false, rfl, iteT ⟨.ref l, rfl, nV i, rfl, l, _, (i : Int), .int c, rfl, rfl, hl', gc, len3, fun t nt => out false hre _ t sm nt⟩⟩
    · obtain ⟨y3, rfl, sm, hre⟩ := g
      rw [rest_end m ns (Nat.le_refl _)] at hre
      refine ⟨len0, fun D nD => ?_⟩
      have s2 := sm.trans (Same.new (o := .lst []) nD)
      refine ⟨.ref a, rfl, a, rfl, ⟨_, sq (s2 _ _ h.ha)⟩, ?_⟩
      refine for_list (K := K) (a := a) (xs := zs.map zV) (fun i σ H2 => ∃ (y5 : Option V) (ss : List Int), σ = [some (.ref ts), some (.ref a), some (.ref l), y3, some (.ref D), y5] ∧ Same H' H2 ∧ H2 D = some (.lst (ss.map V.int)) ∧ ss.Nodup ∧ ss.length ≤ i ∧ ∀ k, k ∈ ss ↔ ∃ p ∈ (zs.map (·.2)).take i, (p.2 : Int) = k ∧ (p.1 : Int) ∈ ns) ⟨none, [], rfl, Same.new nD, upd_same, List.nodup_nil, Nat.zero_le _, fun k => ⟨fun z => (nomatch z), fun ⟨p, z, _⟩ => (nomatch z)⟩⟩ (fun i σ H2 _ g => ?_) (fun i x σ H2 hx g => ?_) (fun σ H2 g => ?_)
      · obtain ⟨y5, ss, _, s3, _⟩ := g
        exact sq ((sm.trans s3) _ _ h.ha)
      · obtain ⟨y5, ss, rfl, s3, hD, nd, len, mem⟩ := g
        obtain ⟨z, ez, mz, rfl⟩ := item_zV hx
        have si := sm.trans s3
        have hz := si _ _ (h.pr z mz)
        have hi : i < 16 := Nat.lt_of_lt_of_le (List.getElem?_eq_some_iff.mp ez).1 z16
        have et : (zs.map (·.2)).take (i + 1) = (zs.map (·.2)).take i ++ [z.2] := by
          rw [List.take_add_one, zs_at ez]
          rfl
        refine ⟨.ref z.1, rfl, z.1, _, 0, nV z.2.1, rfl, rfl, sqt hz, rfl, .ref l, rfl, l, _, rfl, .inl (si.seq hl), rfl, flat_ints _, _, rfl, ite2 (fun e => ?_) (fun e => ?_)⟩
        · have e : (z.2.1 : Int) ∈ ns := by
            have e : inV (.int (z.2.1 : Int)) (ns.map V.int) = true := e
            rw [inV_ints] at e
            exact of_decide_eq_true e
          refine ⟨.ref z.1, rfl, z.1, _, 1, nV z.2.2, rfl, rfl, sqt hz, rfl, .ref D, rfl, D, _, rfl, .inl (sq hD), rfl, flat_ints _, _, rfl, ite2 (fun e2 => ?_) (fun e2 => ?_)⟩
          · have e2 : ¬ (z.2.2 : Int) ∈ ss := fun c => by
              have e2 : (!inV (.int (z.2.2 : Int)) (ss.map V.int)) = true := e2
              rw [inV_ints, decide_eq_true c] at e2
              cases e2
            refine ⟨.ref D, rfl, .inl ⟨rfl, _, sq hD⟩, .ref z.1, rfl, z.1, _, 1, nV z.2.2, rfl, rfl, sqt hz, rfl, D, _, _, rfl, rfl, hD, small1000 (by rw [List.length_map]; omega), _, ss ++ [(z.2.2 : Int)], rfl, s3.mut nD, ?_, ?_, ?_, fun k => ?_⟩
            · rw [upd_same, List.map_append]
              rfl
            · rw [List.nodup_append]
              exact ⟨nd, List.nodup_cons.mpr ⟨(fun h => nomatch h), List.nodup_nil⟩, fun x hx y hy => by
                rw [List.mem_singleton.mp hy]
                exact fun c => e2 (c ▸ hx)⟩
            · rw [List.length_append]
              exact Nat.succ_le_succ len
            · rw [et, List.mem_append, mem, List.mem_singleton]
              constructor
              · rintro (⟨p, hp, h1, h2⟩ | rfl)
                · exact ⟨p, List.mem_append_left _ hp, h1, h2⟩
                · exact ⟨z.2, List.mem_append_right _ List.mem_cons_self, rfl, e⟩
              · rintro ⟨p, hp, h1, h2⟩
                rcases List.mem_append.mp hp with hp | hp
                · exact .inl ⟨p, hp, h1, h2⟩
                · rw [List.mem_singleton.mp hp] at h1
                  exact .inr h1.symm
          · have e2 : (z.2.2 : Int) ∈ ss := by
              by_cases c : (z.2.2 : Int) ∈ ss
              · exact c
              · have e2 : ¬ (!inV (.int (z.2.2 : Int)) (ss.map V.int)) = true := e2
                rw [inV_ints, decide_eq_false c] at e2
                exact absurd rfl e2
            refine ⟨_, ss, rfl, s3, hD, nd, Nat.le_succ_of_le len, fun k => ?_⟩
            rw [et, mem]
            constructor
            · rintro ⟨p, hp, h1⟩
              exact ⟨p, List.mem_append_left _ hp, h1⟩
            · rintro ⟨p, hp, h1, h2⟩
              rcases List.mem_append.mp hp with hp | hp
              · exact ⟨p, hp, h1, h2⟩
              · rw [List.mem_singleton.mp hp] at h1
                subst h1
                exact (mem _).mp e2
        · have e : ¬ (z.2.1 : Int) ∈ ns := fun c => by
            have e : ¬ inV (.int (z.2.1 : Int)) (ns.map V.int) = true := e
            rw [inV_ints, decide_eq_true c] at e
            exact e rfl
          refine iteF ⟨_, ss, rfl, s3, hD, nd, Nat.le_succ_of_le len, fun k => ?_⟩
          rw [et, mem]
          constructor
          · rintro ⟨p, hp, h1⟩
            exact ⟨p, List.mem_append_left _ hp, h1⟩
          · rintro ⟨p, hp, h1, h2⟩
            rcases List.mem_append.mp hp with hp | hp
            · exact ⟨p, hp, h1, h2⟩
            · rw [List.mem_singleton.mp hp] at h2
              exact absurd h2 e
      · obtain ⟨y5, ss, rfl, s3, hD, nd, len, mem⟩ := g
        rw [List.length_map, List.take_of_length_le (by rw [List.length_map]; exact Nat.le_refl _)] at mem
        refine ⟨.ref D, rfl, D, ss, rfl, sq hD, fun es u pm pw nu => ⟨len2, fun t nt => ?_⟩⟩
        have s4 := Same.new (o := .lst (es.map V.int)) nu
        have s5 := Same.new (o := .tup [.str "told", V.ref u]) nt
        have si := sm.trans s3
        have s6 := (si.trans s4).trans s5
        refine q _ t s6 ⟨(si.trans s4).back nt, ?_⟩
        rw [← hre]
        refine ⟨u, si.back nu, upd_same, s5 _ _ ?_⟩
        rw [upd_same]
        have er := rch_of (n := n) (zs := zs.map (·.2)) (ns := ns) (xs := es) (fun p hp => by
          obtain ⟨z, hz, rfl⟩ := List.mem_map.mp hp
          exact (h.inr z hz).2) (lt_of_le_nodup pw (pm.nodup_iff.mpr nd)) fun k => pm.mem_iff.trans (mem k)
        rw [er, List.map_map]
        rfl
end
end K03
set_option Elab.async false
set_option linter.all false
set_option maxRecDepth 100000
set_option maxHeartbeats 4000000
namespace K03
open PySem PySem.Spec PyProof.Rows L2
theorem u65 {A : Around} {k : Nat} (r : Room k A) : A.units + 65 < cLine := by
  have := r.un
  omega
/-! ### pairs as data -/
def qD (p : Nat × Nat) : PyData := .tuple [.int p.1, .int p.2]
theorem qD_shaped (p : Nat × Nat) : SeqAt.shaped (qD p) = true := by
  show ((qD p).canLay0 && decide ((qD p).depth ≤ 64)) = true
  have h1 : (qD p).canLay0 = true := by simp [qD, PyData.canLay0, PyData.canLayAll0]
  have h2 : (qD p).depth = 1 := by simp [qD, PyData.depth, PyData.depthAll]
  rw [h1, h2]
  rfl
theorem qDs_shaped (ps : List (Nat × Nat)) : SeqAt.shaped (.list (ps.map qD)) = true := by
  have h1 : ∀ qs : List (Nat × Nat), PyData.canLayAll0 (qs.map qD) = true := fun qs => by
    induction qs with
    | nil => simp [PyData.canLayAll0]
    | cons q qs ih => simp [PyData.canLayAll0, ih, qD, PyData.canLay0]
  have h2 : ∀ qs : List (Nat × Nat), PyData.depthAll (qs.map qD) ≤ 1 := fun qs => by
    induction qs with
    | nil => simp [PyData.depthAll]
    | cons q qs ih =>
      have : (qD q).depth = 1 := by simp [qD, PyData.depth, PyData.depthAll]
      simp only [List.map_cons, PyData.depthAll]
      omega
  have h3 : PyData.depth (.list (ps.map qD)) ≤ 64 := by
    have := h2 ps
    simp only [PyData.depth]
    omega
  show (PyData.canLay0 (.list (ps.map qD)) && decide (PyData.depth (.list (ps.map qD)) ≤ 64)) = true
  rw [decide_eq_true h3, Bool.and_true]
  simp only [PyData.canLay0]
  exact h1 ps
theorem qD_ne {p q : Nat × Nat} (h : p ≠ q) : PyData.eqv (qD p) (qD q) = false := by
  have e : PyData.eqv (qD p) (qD q) = (((p.1 : Int) == (q.1 : Int)) && (((p.2 : Int) == (q.2 : Int)) && true)) := by simp only [qD, PyData.eqv, PyData.eqvAll]
  rw [e]
  by_cases h1 : p.1 = q.1
  · have h2 : ¬ p.2 = q.2 := fun z => h (Prod.ext h1 z)
    rw [show ((p.2 : Int) == (q.2 : Int)) = false from beq_eq_false_iff_ne.mpr (by omega), Bool.false_and, Bool.and_false]
  · rw [show ((p.1 : Int) == (q.1 : Int)) = false from beq_eq_false_iff_ne.mpr (by omega), Bool.false_and]
theorem qD_none {ps : List (Nat × Nat)} {p : Nat × Nat} (h : p ∉ ps) : ((ps.map qD).any fun z => PyData.eqv z (qD p)) = false := by
  rw [List.any_eq_false]
  intro d hd
  obtain ⟨q, hq, rfl⟩ := List.mem_map.mp hd
  have hn := qD_ne (p := q) (q := p) (fun e => h (by rw [← e]; exact hq))
  rw [hn]
  exact Bool.false_ne_true
section
variable {K : PySem.W.Frag} {H : Hp}
theorem dp_pair {t : Addr} {p : Nat × Nat} (h : H t = some (.tup [nV p.1, nV p.2])) : Dp K H (.ref t) (qD p) := .tup (sqt h) (.cons (.int _) (.cons (.int _) .nil))
theorem dp_all : ∀ {zs : List Z}, PrZ H zs → DpAll K H (zs.map zV) ((zs.map (·.2)).map qD)
  | [], _ => .nil
  | z :: zs, h => .cons (dp_pair (h z List.mem_cons_self)) (dp_all fun y hy => h y (List.mem_cons_of_mem _ hy))
theorem dp_pairs {a : Addr} {zs : List Z} (ha : H a = some (.lst (zs.map zV))) (h : PrZ H zs) : Dp K H (.ref a) (.list ((zs.map (·.2)).map qD)) := .lst (sq ha) (dp_all h)
end
section
variable {P : Program} {w : World} {K : PySem.W.Frag} {mg : Str → Option Value} {base : Heap} {f : Addr} {fd : FuncData}
/-! ### _checked_pairs -/
abbrev checked_pairs_N : List Str := ["depots", "customers", "routes", "pairs", "depot", "customer"]
theorem checked_pairs_sc : FnScope ["depots", "customers", "routes", "pairs", "depot", "customer"] ["depots", "customers", "routes"] (defScope checked_pairs_st) := ⟨rfl, rfl, rfl, by decide +kernel, rfl, by decide +kernel, by decide +kernel⟩
def spPairs : Sp := fun vs H Q _ => ∃ (a : Addr) (m n : Nat) (zs : List Z), vs = [nV m, nV n, .ref a] ∧ H a = some (.lst (zs.map zV)) ∧ PrZ H zs ∧ Fit m n (zs.map (·.2)) ∧ zs.length ≤ 16 ∧
  ∀ (H' : Hp) (D : Addr) (ws : List Z), Same H H' → H D = none → H' D = some (.lst (ws.map zV)) → PrZ H' ws → ws.map (·.2) = zs.map (·.2) → Q (.ref D) H'
theorem ok_pairs {CN f1 f2 : Addr} {fd1 fd2 : FuncData} (F : FnS K "_checked_pairs" checked_pairs_st f fd) (D_check_depot : Dn P w K mg base 3 "check_depot" ["depot", "depots"] (spDepot CN) f1 fd1) (D_check_customer : Dn P w K mg base 1 "check_customer" ["customer", "customers"] spCustomer f2 fd2) : FnOk P w K mg base (L2N.CX P w) 4 f fd ["depots", "customers", "routes"] spPairs := by
  refine F.ok checked_pairs_sc (fun vs H Q E h => ?_) (fun cdv A outer s H vs Q E hr h => ?_)
  · obtain ⟨a, m, n, zs, rfl, _⟩ := h
    rfl
  · obtain ⟨a, m, n, zs, rfl, ha, pr, fit, z16, q⟩ := h
    have hu65 := u65 hr
    refine ⟨_, (pss_cons (ps_set (i := 3) checked_pairs_sc.nd rfl (Or.inl rfl) (pe_lst pa_nil))
      (pss_cons (ps_for (passes_of rfl) rfl (pi_list (pv 2)) (pg_tup rfl (pgs_cons (pg_name (i := 4) checked_pairs_sc.nd rfl (Or.inl rfl)) (pgs_cons (pg_name (i := 5) checked_pairs_sc.nd rfl (Or.inl rfl)) pgs_nil)))
      (pss_cons (ps_expr (pe_call D_check_depot.ok (hr.mono (by decide)) rfl D_check_depot.g D_check_depot.kp D_check_depot.b .nil ErrX.passN (pa_cons (pv 4) (pa_cons (pv 0) pa_nil))))
      (pss_cons (ps_expr (pe_call D_check_customer.ok (hr.mono (by decide)) rfl D_check_customer.g D_check_customer.kp D_check_customer.b .nil ErrX.passN (pa_cons (pv 5) (pa_cons (pv 1) pa_nil))))
      (pss_cons (ps_if (pt_cmpR (op_inD hu65) (pe_tup (pa_cons (pv 4) (pa_cons (pv 5) pa_nil))) (pv 3) rfl) (pss_one ps_never) pss_nil)
      (pss_one (ps_expr (pe_bm PySem.F.plainAttrs_list PySem.F.slot_list_append PySem.F.type_list_append mt_append (pv 3) (pa_cons (pe_tup (pa_cons (pv 4) (pa_cons (pv 5) pa_nil))) pa_nil))))))))
      (pss_one (ps_ret (pv 3))))), ?_⟩
    refine ⟨len0, fun D nD => ?_⟩
    have s1 := Same.new (o := .lst []) nD
    refine ⟨.ref a, rfl, a, rfl, ⟨_, sq (s1 _ _ ha)⟩, ?_⟩
    refine for_list (K := K) (a := a) (xs := zs.map zV) (fun i σ H' => ∃ (y4 y5 : Option V) (ws : List Z), σ = [some (nV m), some (nV n), some (.ref a), some (.ref D), y4, y5] ∧ Same H H' ∧ H' D = some (.lst (ws.map zV)) ∧ PrZ H' ws ∧ ws.map (·.2) = (zs.map (·.2)).take i) ⟨none, none, [], rfl, s1, upd_same, (fun _ h => nomatch h), rfl⟩ (fun i σ H' _ h => ?_) (fun i x σ H' hx h => ?_) (fun σ H' h => ?_)
    · obtain ⟨y4, y5, ws, _, sm, _⟩ := h
      exact sq (sm _ _ ha)
    · obtain ⟨y4, y5, ws, rfl, sm, hD, pw, ew⟩ := h
      obtain ⟨z, ez, mz, rfl⟩ := item_zV hx
      have hz := sm _ _ (pr z mz)
      obtain ⟨r1, r2⟩ := fit.2 z.2 (List.mem_map_of_mem mz)
      have hi : i < 16 := Nat.lt_of_lt_of_le (List.getElem?_eq_some_iff.mp ez).1 z16
      have wl : ws.length ≤ i := by
        have := congrArg List.length ew
        rw [List.length_map, List.length_take] at this
        omega
      refine ⟨z.1, [nV z.2.1, nV z.2.2], rfl, sqt hz, rfl, nV z.2.1, [nV z.2.2], rfl, nV z.2.2, [], rfl, rfl, ?_⟩
      refine ⟨nV z.2.1, rfl, nV m, rfl, (z.2.1 : Int), m, rfl, fun _ => ?_, fun hb => absurd ⟨Int.natCast_nonneg _, Int.ofNat_lt.mpr r1⟩ hb⟩
      refine ⟨nV z.2.2, rfl, nV n, rfl, (z.2.2 : Int), (n : Int), rfl, Int.natCast_nonneg _, Int.ofNat_lt.mpr r2, ?_⟩
      refine ⟨nV z.2.1, rfl, nV z.2.2, rfl, len2, fun t nt => ?_⟩
      have st := Same.new (o := .tup [nV z.2.1, nV z.2.2]) nt
      have hD2 := st _ _ hD
      have nin : z.2 ∉ ws.map (·.2) := by
        rw [ew]
        have hz' := zs_at ez
        have nd := fit.1
        obtain ⟨hl, e⟩ := List.getElem?_eq_some_iff.mp hz'
        intro hm
        obtain ⟨j, hj, ej⟩ := List.getElem_of_mem hm
        rw [List.getElem_take] at ej
        rw [List.length_take] at hj
        have := (List.getElem_inj (h₀ := by omega) (h₁ := hl) nd).mp (ej.trans e.symm)
        omega
      refine ⟨.ref D, rfl, qD z.2, (ws.map (·.2)).map qD, dp_pair upd_same, dp_pairs hD2 (pw.keep st), qD_shaped _, qDs_shaped _, _, rfl, ite2 (fun e => ?_) (fun e => ?_)⟩
      · have := qD_none nin
        rw [this] at e
        cases e
      · refine ⟨.ref D, rfl, .inl ⟨rfl, _, sq hD2⟩, nV z.2.1, rfl, nV z.2.2, rfl, len2, fun t2 nt2 => ?_⟩
        have st2 := Same.new (o := .tup [nV z.2.1, nV z.2.2]) nt2
        have hD3 := st2 _ _ hD2
        have ntD : t2 ≠ D := (ne_of_none hD2 nt2).symm
        refine ⟨D, _, _, rfl, rfl, hD3, small1000 (by rw [List.length_map]; omega), _, _, ws ++ [(t2, z.2.1, z.2.2)], rfl, ((sm.trans st).trans st2).mut nD, ?_, ?_, ?_⟩
        · rw [upd_same, List.map_append]
          rfl
        · intro y hy
          rcases List.mem_append.mp hy with hy | hy
          · have := st2 _ _ (st _ _ (pw y hy))
            rw [upd_ne (fun e => by rw [e, hD3] at this; cases this)]
            exact this
          · rw [List.mem_singleton.mp hy]
            show upd _ D _ t2 = _
            rw [upd_ne ntD]
            exact upd_same
        · rw [List.map_append, ew, List.take_add_one, zs_at ez]
          rfl
    · obtain ⟨y4, y5, ws, rfl, sm, hD, pw, ew⟩ := h
      rw [List.take_of_length_le (by rw [List.length_map, List.length_map]; exact Nat.le_refl _)] at ew
      exact ⟨.ref D, rfl, q H' D ws sm nD hD pw ew⟩
end
end K03
set_option Elab.async false
set_option linter.all false
set_option maxRecDepth 100000
set_option maxHeartbeats 4000000
namespace K03
open PySem PySem.Spec PyProof.Rows L2
abbrev FnM (K : PySem.W.Frag) (x q : Str) (st : Stmt) (f : Addr) (fd : FuncData) : Prop := FunD K x q (defArgs st) (defBody st) (defScope st) [] [] f fd
theorem putF_len (g : Str) (v : V) : ∀ fs : List (Str × V), (putF g v fs).length ≤ fs.length + 1
  | [] => Nat.le_refl _
  | (h, x) :: r => by
    unfold putF
    by_cases e : h = g
    · rw [if_pos e]
      exact Nat.le_succ _
    · rw [if_neg e]
      exact Nat.succ_le_succ (putF_len g v r)
/-- the class Network as the top has made it -/
structure NetC (K : PySem.W.Frag) (C : Addr) (uP uR : Value) : Prop where
  cl : Cls K C
  nD : NoAttr K C "_depots"
  nC : NoAttr K C "_customers"
  nR : NoAttr K C "_routes"
  nI : NoAttr K C "_indices"
  nP : NoAttr K C "_pieces"
  cP : Con K C "MOST_PLACES" (.int 8) uP
  cR : Con K C "MOST_ROUTES" (.int 16) uR
def nf (m n : Nat) (r di q : Addr) : List (Str × V) := putF "_pieces" (.ref q) (putF "_indices" (.ref di) (putF "_routes" (.ref r) (putF "_customers" (nV n) (putF "_depots" (nV m) []))))
theorem nf_D (m n : Nat) (r di q : Addr) : (nf m n r di q).lookup ("_depots" : Str) = some (nV m) := by
  unfold nf
  rw [lookup_putF, if_neg (by decide), lookup_putF, if_neg (by decide), lookup_putF, if_neg (by decide), lookup_putF, if_neg (by decide), lookup_putF, if_pos rfl]
theorem nf_R (m n : Nat) (r di q : Addr) : (nf m n r di q).lookup ("_routes" : Str) = some (V.ref r) := by
  unfold nf
  rw [lookup_putF, if_neg (by decide), lookup_putF, if_neg (by decide), lookup_putF, if_pos rfl]
theorem nf_P (m n : Nat) (r di q : Addr) : (nf m n r di q).lookup ("_pieces" : Str) = some (V.ref q) := by
  unfold nf
  rw [lookup_putF, if_pos rfl]
theorem nf_no (m n : Nat) (r di q : Addr) {g : Str} (h1 : ¬ g = "_pieces") (h2 : ¬ g = "_indices") (h3 : ¬ g = "_routes") (h4 : ¬ g = "_customers") (h5 : ¬ g = "_depots") : (nf m n r di q).lookup g = none := by
  unfold nf
  rw [lookup_putF, if_neg h1, lookup_putF, if_neg h2, lookup_putF, if_neg h3, lookup_putF, if_neg h4, lookup_putF, if_neg h5]
  rfl
/-- the key of a route; its number among the first i of zs -/
def kz (z : Z) : List Key := [Sum.inl (z.2.1 : Int), Sum.inl (z.2.2 : Int)]
def ixv (zs : List Z) : Nat → List Key → Option V
  | 0, _ => none
  | i + 1, k => match zs[i]? with
    | some z => if k = kz z then some (.int (i : Nat)) else ixv zs i k
    | none => ixv zs i k
/-- the network at p numbers its routes -/
def NetIx (C : Addr) (H : Hp) (p : Addr) (zs : List Z) : Prop := ∃ dx m n r di q kvs, H p = some (.ins C dx (nf m n r di q)) ∧ H di = some (.dT kvs) ∧ ∀ k, valV kvs k = ixv zs zs.length k
theorem NetIx.keep {C : Addr} {H H' : Hp} {p : Addr} {zs : List Z} (h : NetIx C H p zs) (e : Same H H') : NetIx C H' p zs := by
  obtain ⟨dx, m, n, r, di, q, kvs, h1, h2, h3⟩ := h
  exact ⟨dx, m, n, r, di, q, kvs, e _ _ h1, e _ _ h2, h3⟩
/-- a network stands at p -/
structure NetAt (C : Addr) (H : Hp) (p : Addr) (m n : Nat) (zs : List Z) (ws : List P4) : Prop where
  ob : ∃ dx r di q, H p = some (.ins C dx (nf m n r di q)) ∧ H r = some (.lst (zs.map zV)) ∧ H q = some (.lst (ws.map pV))
  pr : PrZ H zs
  pc : PcZ H ws
  inr : InR m n zs
  few : zs.length ≤ 16
  due : ws.map P4.d = pcs m n (labs m n (zs.map (·.2)))
  m8 : m ≤ 8
  n8 : n ≤ 8
theorem NetAt.keep {C : Addr} {H H' : Hp} {p : Addr} {m n : Nat} {zs : List Z} {ws : List P4} (h : NetAt C H p m n zs ws) (e : Same H H') : NetAt C H' p m n zs ws := by
  obtain ⟨dx, r, di, q, h1, h2, h3⟩ := h.ob
  exact ⟨⟨dx, r, di, q, e _ _ h1, e _ _ h2, e _ _ h3⟩, h.pr.keep e, h.pc.keep e, h.inr, h.few, h.due, h.m8, h.n8⟩
theorem ne_ins {H : Hp} {a p C : Addr} {dx : Addr} {fs : List (Str × V)} {xs : List V} (ha : H a = some (.lst xs)) (hp : H p = some (.ins C dx fs)) : a ≠ p := fun e => by
  rw [e, hp] at ha
  cases ha
theorem ne_insT {H : Hp} {a p C : Addr} {dx : Addr} {fs : List (Str × V)} {xs : List V} (ha : H a = some (.tup xs)) (hp : H p = some (.ins C dx fs)) : a ≠ p := fun e => by
  rw [e, hp] at ha
  cases ha
theorem PrZ.upd {H : Hp} {p C : Addr} {dx : Addr} {fs : List (Str × V)} {o : HO} {zs : List Z} (h : PrZ H zs) (hp : H p = some (.ins C dx fs)) : PrZ (L2.upd H p o) zs := fun z m => by
  rw [upd_ne (ne_insT (h z m) hp)]
  exact h z m
section
variable {P : Program} {w : World} {K : PySem.W.Frag} {mg : Str → Option Value} {base : Heap} {f : Addr} {fd : FuncData}
/-! ### Network.__init__ -/
abbrev Network_init_N : List Str := ["self", "depots", "customers", "routes", "pairs", "index", "route"]
theorem Network_init_sc : FnScope ["self", "depots", "customers", "routes", "pairs", "index", "route"] ["self", "depots", "customers", "routes"] (defScope Network_init_st) := ⟨rfl, rfl, rfl, by decide +kernel, rfl, by decide +kernel, by decide +kernel⟩
def spNet (C : Addr) : Sp := fun vs H Q _ => ∃ (p a : Addr) (dx : Addr) (m n : Nat) (zs : List Z), vs = [.ref p, nV m, nV n, .ref a] ∧ H p = some (.ins C dx []) ∧ H a = some (.lst (zs.map zV)) ∧ PrZ H zs ∧ Fit m n (zs.map (·.2)) ∧ zs.length ≤ 16 ∧ 1 ≤ m ∧ m ≤ 8 ∧ 1 ≤ n ∧ n ≤ 8 ∧
  ∀ (H' : Hp) (zs' : List Z) (ws : List P4), But p H H' → NetAt C H' p m n zs' ws → Asc (zs'.map (·.2)) (zs.map (·.2)) → FrZ H ws → (∀ (b0 : Addr) (xs : List V), H b0 = some (.lst xs) → NetAt C (del H' b0) p m n zs' ws) → NetIx C H' p zs' → Q .non H'
theorem ok_net {C f1 f2 f3 f4 : Addr} {fd1 fd2 fd3 fd4 : FuncData} {uP uR : Value} (F : FnM K "__init__" "Network.__init__" Network_init_st f fd) (T : NetC K C uP uR) (m_len : mg "len" = none) (m_sorted : mg "sorted" = none) (m_enumerate : mg "enumerate" = none)
    (D_check_size : Dn P w K mg base 1 "check_size" ["size", "least", "most"] spSize f1 fd1) (D_check_most : Dn P w K mg base 1 "check_most" ["number", "most"] spMost f2 fd2) (D_checked_pairs : Dn P w K mg base 4 "_checked_pairs" ["depots", "customers", "routes"] spPairs f3 fd3) (D_found_pieces : Dn P w K mg base 3 "_found_pieces" ["depots", "customers", "routes"] spFound f4 fd4) :
    FnOk P w K mg base (L2N.CX P w) 5 f fd ["self", "depots", "customers", "routes"] (spNet C) := by
  refine F.ok Network_init_sc (fun vs H Q E h => ?_) (fun cdv A outer s H vs Q E hr h => ?_)
  · obtain ⟨p, a, dx, m, n, zs, rfl, _⟩ := h
    rfl
  · obtain ⟨p, a, dx, m, n, zs, rfl, hp, ha, pr, fit, z16, m1, m8, n1, n8, q⟩ := h
    have hu0 := hr.units0
    refine ⟨_, (pss_cons (ps_expr (pe_call D_check_size.ok (hr.mono (by decide)) rfl D_check_size.g D_check_size.kp D_check_size.b .nil ErrX.passN (pa_cons (pv 1) (pa_cons pe_int (pa_cons (pe_con (pv 0) rfl) pa_nil)))))
      (pss_cons (ps_expr (pe_call D_check_size.ok (hr.mono (by decide)) rfl D_check_size.g D_check_size.kp D_check_size.b .nil ErrX.passN (pa_cons (pv 2) (pa_cons pe_int (pa_cons (pe_con (pv 0) rfl) pa_nil)))))
      (pss_cons (ps_set (i := 4) Network_init_sc.nd rfl (Or.inl rfl) (pe_call D_checked_pairs.ok (hr.mono (by decide)) rfl D_checked_pairs.g D_checked_pairs.kp D_checked_pairs.b .nil ErrX.passN (pa_cons (pv 1) (pa_cons (pv 2) (pa_cons (pv 3) pa_nil)))))
      (pss_cons (ps_expr (pe_call D_check_most.ok (hr.mono (by decide)) rfl D_check_most.g D_check_most.kp D_check_most.b .nil ErrX.passN (pa_cons (pe_callB call_len_seq (by rfl) m_len (by decide +kernel) (pa_cons (pv 4) pa_nil)) (pa_cons (pe_con (pv 0) rfl) pa_nil))))
      (pss_cons (ps_fld (pv 0) (pv 1) rfl)
      (pss_cons (ps_fld (pv 0) (pv 2) rfl)
      (pss_cons (ps_fld (pv 0) (pe_callB cr_sortedPO (by rfl) m_sorted (by decide +kernel) (pa_cons (pv 4) pa_nil)) rfl)
      (pss_cons (ps_fld (pv 0) (CmX.pe_dcT (own := [("index", 5), ("route", 6)]) hu0 rfl Network_init_sc.nd (pi_enum (by rfl) m_enumerate (pa_cons (pe_fld (pv 0) rfl) pa_nil)) (blkOk_by (own := [("index", 5), ("route", 6)]) (N := Network_init_N) (sc := defScope Network_init_st) (by decide +kernel)) (fun _ _ _ _ _ => (pg_tup rfl (pgs_cons (pg_name (i := 5) Network_init_sc.nd rfl (Or.inl rfl)) (pgs_cons (pg_name (i := 6) Network_init_sc.nd rfl (Or.inl rfl)) pgs_nil)) : PG _ _ (gTup K 2 _))) (fun _ _ _ _ _ => pts_nil) (fun _ _ _ _ _ => (pv 6)) (fun _ _ _ _ _ => (pv 5))) rfl)
      (pss_one (ps_fld (pv 0) (pe_call D_found_pieces.ok (hr.mono (by decide)) rfl D_found_pieces.g D_found_pieces.kp D_found_pieces.b .nil ErrX.passN (pa_cons (pv 1) (pa_cons (pv 2) (pa_cons (pe_fld (pv 0) rfl) pa_nil)))) rfl)))))))))), ?_⟩
    refine ⟨nV m, rfl, .ref p, rfl, p, C, dx, [], .int 8, uP, rfl, hp, T.cl, T.cP, rfl, (m : Int), 1, 8, rfl, by omega, by omega, ?_⟩
    refine ⟨nV n, rfl, .ref p, rfl, p, C, dx, [], .int 8, uP, rfl, hp, T.cl, T.cP, rfl, (n : Int), 1, 8, rfl, by omega, by omega, ?_⟩
    refine ⟨nV m, rfl, nV n, rfl, .ref a, rfl, a, m, n, zs, rfl, ha, pr, fit, z16, fun H1 D vs s1 nD hD pv ev => ?_⟩
    have hp1 := s1 _ _ hp
    have vl : vs.length ≤ 16 := by
      have := congrArg List.length ev
      rw [List.length_map, List.length_map] at this
      omega
    refine ⟨.ref D, rfl, D, _, rfl, .inl (sq hD), .ref p, rfl, p, C, dx, [], .int 16, uR, rfl, hp1, T.cl, T.cR, rfl, _, 16, rfl, by rw [List.length_map]; omega, ?_⟩
    refine ⟨nV m, rfl, .ref p, rfl, p, C, dx, [], rfl, hp1, T.cl, T.nD, Nat.zero_lt_succ _, ?_⟩
    refine ⟨nV n, rfl, .ref p, rfl, p, C, dx, _, rfl, upd_same, T.cl, T.nC, Nat.lt_of_le_of_lt (putF_len _ _ _) (by decide), ?_⟩
    rw [upd_upd]
    have hp2 : (upd H1 p (.ins C dx (putF "_customers" (nV n) (putF "_depots" (nV m) [])))) p = some (.ins C dx (putF "_customers" (nV n) (putF "_depots" (nV m) []))) := upd_same
    have hD2 : (upd H1 p (.ins C dx (putF "_customers" (nV n) (putF "_depots" (nV m) [])))) D = some (.lst (vs.map zV)) := by
      rw [upd_ne (ne_ins hD hp1)]
      exact hD
    have pv2 : PrZ (upd H1 p (.ins C dx (putF "_customers" (nV n) (putF "_depots" (nV m) [])))) vs := pv.upd hp1
    have b2 : But p H (upd H1 p (.ins C dx (putF "_customers" (nV n) (putF "_depots" (nV m) [])))) := But.at_ (.of s1)
    generalize upd H1 p (.ins C dx (putF "_customers" (nV n) (putF "_depots" (nV m) []))) = H2 at hp2 hD2 pv2 b2 ⊢
    have nd2 : (vs.map (·.2)).Nodup := by
      rw [ev]
      exact fit.1
    refine ⟨.ref D, rfl, D, vs.map zV, kH H2, rfl, sq hD2, fun x hx => ?_, fun ys r hs hb nr => ?_⟩
    · obtain ⟨z, hz, rfl⟩ := List.mem_map.mp hx
      have hk := kH_at (pv2 z hz)
      refine ⟨z.1, rfl, ?_⟩
      rw [hk]
      exact pv2 z hz
    obtain ⟨zs', rfl, pm, asc⟩ := sorted_pairs pv2 nd2 hs hb
    rw [ev] at asc
    have pr2 : PrZ H2 zs' := fun z hz => pv2 z (pm.mem_iff.mp hz)
    have z'16 : zs'.length ≤ 16 := by
      rw [pm.length_eq]
      exact vl
    have inr : InR m n zs' := fun z hz => fit.2 z.2 (asc.1.mem_iff.mp (List.mem_map_of_mem hz))
    have s3 := Same.new (o := .lst (zs'.map zV)) nr
    have hp3 := s3 _ _ hp2
    have nrp : r ≠ p := (ne_of_none hp2 nr).symm
    refine ⟨.ref p, rfl, p, C, dx, _, rfl, hp3, T.cl, T.nR, Nat.lt_of_le_of_lt (putF_len _ _ _) (Nat.lt_of_le_of_lt (Nat.succ_le_succ (putF_len _ _ _)) (by decide)), ?_⟩
    have hp4 : (upd (upd H2 r (.lst (zs'.map zV))) p (.ins C dx (putF "_routes" (.ref r) (putF "_customers" (nV n) (putF "_depots" (nV m) []))))) p = some (.ins C dx (putF "_routes" (.ref r) (putF "_customers" (nV n) (putF "_depots" (nV m) [])))) := upd_same
    have hr4 : (upd (upd H2 r (.lst (zs'.map zV))) p (.ins C dx (putF "_routes" (.ref r) (putF "_customers" (nV n) (putF "_depots" (nV m) []))))) r = some (.lst (zs'.map zV)) := by
      rw [upd_ne nrp]
      exact upd_same
    have pr4 : PrZ (upd (upd H2 r (.lst (zs'.map zV))) p (.ins C dx (putF "_routes" (.ref r) (putF "_customers" (nV n) (putF "_depots" (nV m) []))))) zs' := (pr2.keep s3).upd hp3
    have b4 : But p H (upd (upd H2 r (.lst (zs'.map zV))) p (.ins C dx (putF "_routes" (.ref r) (putF "_customers" (nV n) (putF "_depots" (nV m) []))))) := But.at_ (b2.trans (.of s3))
    generalize upd (upd H2 r (.lst (zs'.map zV))) p (.ins C dx (putF "_routes" (.ref r) (putF "_customers" (nV n) (putF "_depots" (nV m) [])))) = H4 at hp4 hr4 pr4 b4 ⊢
    have look : (putF "_routes" (.ref r) (putF "_customers" (nV n) (putF "_depots" (nV m) []))).lookup ("_routes" : Str) = some (V.ref r) := by rw [lookup_putF, if_pos rfl]
    refine ⟨.ref p, rfl, p, C, dx, _, .ref r, rfl, hp4, T.cl, T.nR, look, r, zs'.map zV, rfl, sq hr4, fun Di nDi => ?_⟩
    refine ⟨fun i m' H' => m' = zs'.length - i ∧ i ≤ zs'.length ∧ Same H4 H' ∧ ∃ kvs : List (List Key × V), H' Di = some (.dT kvs) ∧ kvs.length ≤ i ∧ ∀ k, valV kvs k = ixv zs' i k, ⟨_, rfl, Nat.zero_le _, Same.new nDi, [], upd_same, Nat.le_refl _, fun _ => rfl⟩, fun i m' H' hW => ?_⟩
    obtain ⟨rfl, hi, sm, kvs, hDi, kl, kx⟩ := hW
    have hr' := sm _ _ hr4
    by_cases hlt : i < zs'.length
    · have g : (zs'.map zV)[i]? = some (zV zs'[i]) := by
        rw [List.getElem?_map, List.getElem?_eq_getElem hlt]
        rfl
      refine .inr ⟨⟨_, _, sq hr', g⟩, fun H'' => Same H4 H'' ∧ ∃ kvs : List (List Key × V), H'' Di = some (.dT kvs) ∧ kvs.length ≤ i + 1 ∧ ∀ k, valV kvs k = ixv zs' (i + 1) k, fun H'' ⟨h1, h2⟩ => ⟨zs'.length - (i + 1), by omega, rfl, hlt, h1, h2⟩, fun x H'' hy => ?_⟩
      obtain ⟨Tt, x1, rfl, nT, rfl, fx⟩ := hy
      have ex : x1 = zV zs'[i] := Option.some.inj ((fx _ (sq hr')).symm.trans g)
      subst ex
      have st := Same.new (o := .tup [.int (i : Nat), zV zs'[i]]) nT
      have hz := st _ _ (sm _ _ (pr4 _ (List.getElem_mem hlt)))
      refine ⟨Tt, [.int (i : Nat), zV zs'[i]], rfl, sqt upd_same, rfl, .int (i : Nat), [zV zs'[i]], rfl, zV zs'[i], [], rfl, rfl, rfl, ?_⟩
      refine ⟨zV zs'[i], rfl, .int (i : Nat), rfl, zs'[i].1, kvs, [Sum.inl (zs'[i].2.1 : Int), Sum.inl (zs'[i].2.2 : Int)], rfl, st _ _ hDi, hz, small1000 (by omega), (sm.trans st).mut nDi, _, upd_same, ?_, fun k => ?_⟩
      · have := length_putK kvs [Sum.inl (zs'[i].2.1 : Int), Sum.inl (zs'[i].2.2 : Int)] (.int (i : Nat))
        omega
      · rw [valV_put, kx]
        show _ = (match zs'[i]? with
          | some z => if k = kz z then some (V.int (i : Nat)) else ixv zs' i k
          | none => ixv zs' i k)
        rw [List.getElem?_eq_getElem hlt]
        rfl
    · refine .inl ⟨⟨_, sq hr', by rw [List.length_map]; omega⟩, ?_⟩
      have hp5 := sm _ _ hp4
      have nDp : Di ≠ p := (ne_of_none hp4 nDi).symm
      refine ⟨.ref p, rfl, p, C, dx, _, rfl, hp5, T.cl, T.nI, Nat.lt_of_le_of_lt (putF_len _ _ _) (Nat.lt_of_le_of_lt (Nat.succ_le_succ (putF_len _ _ _)) (Nat.lt_of_le_of_lt (Nat.succ_le_succ (Nat.succ_le_succ (putF_len _ _ _))) (by decide))), ?_⟩
      have hp6 : (upd H' p (.ins C dx (putF "_indices" (.ref Di) (putF "_routes" (.ref r) (putF "_customers" (nV n) (putF "_depots" (nV m) [])))))) p = some (.ins C dx (putF "_indices" (.ref Di) (putF "_routes" (.ref r) (putF "_customers" (nV n) (putF "_depots" (nV m) []))))) := upd_same
      have hr6 : (upd H' p (.ins C dx (putF "_indices" (.ref Di) (putF "_routes" (.ref r) (putF "_customers" (nV n) (putF "_depots" (nV m) [])))))) r = some (.lst (zs'.map zV)) := by
        rw [upd_ne nrp]
        exact hr'
      have pr6 : PrZ (upd H' p (.ins C dx (putF "_indices" (.ref Di) (putF "_routes" (.ref r) (putF "_customers" (nV n) (putF "_depots" (nV m) [])))))) zs' := (pr4.keep sm).upd hp5
      have b6 : But p H (upd H' p (.ins C dx (putF "_indices" (.ref Di) (putF "_routes" (.ref r) (putF "_customers" (nV n) (putF "_depots" (nV m) [])))))) := But.at_ (b4.trans (.of sm))
      have hDx : (upd H' p (.ins C dx (putF "_indices" (.ref Di) (putF "_routes" (.ref r) (putF "_customers" (nV n) (putF "_depots" (nV m) [])))))) Di = some (.dT kvs) := by
        rw [upd_ne nDp]
        exact hDi
      generalize upd H' p (.ins C dx (putF "_indices" (.ref Di) (putF "_routes" (.ref r) (putF "_customers" (nV n) (putF "_depots" (nV m) []))))) = H6 at hp6 hr6 pr6 b6 hDx ⊢
      have look2 : (putF "_indices" (.ref Di) (putF "_routes" (.ref r) (putF "_customers" (nV n) (putF "_depots" (nV m) [])))).lookup ("_routes" : Str) = some (V.ref r) := by rw [lookup_putF, if_neg (by decide), look]
      refine ⟨nV m, rfl, nV n, rfl, .ref p, rfl, p, C, dx, _, .ref r, rfl, hp6, T.cl, T.nR, look2, r, m, n, zs', rfl, hr6, pr6, inr, m8, n8, fun H7 g wz s7 ng hg pz fz ez nz => ?_⟩
      have hp7 := s7 _ _ hp6
      refine ⟨.ref p, rfl, p, C, dx, _, rfl, hp7, T.cl, T.nP, Nat.lt_of_le_of_lt (putF_len _ _ _) (Nat.lt_of_le_of_lt (Nat.succ_le_succ (putF_len _ _ _)) (Nat.lt_of_le_of_lt (Nat.succ_le_succ (Nat.succ_le_succ (putF_len _ _ _))) (Nat.lt_of_le_of_lt (Nat.succ_le_succ (Nat.succ_le_succ (Nat.succ_le_succ (putF_len _ _ _)))) (by decide)))), ?_⟩
      have ngp : g ≠ p := (ne_of_none hp6 ng).symm
      have hDi6 : H6 Di = some (.dT kvs) := hDx
      have ie : i = zs'.length := by omega
      have fz' : FrZ H wz := fun z hz => ⟨b6.back hp6 (fz z hz).1, b6.back hp6 (fz z hz).2.1, b6.back hp6 (fz z hz).2.2⟩
      have bF : But p H (upd H7 p (.ins C dx (putF "_pieces" (.ref g) (putF "_indices" (.ref Di) (putF "_routes" (.ref r) (putF "_customers" (nV n) (putF "_depots" (nV m) []))))))) := But.at_ (b6.trans (.of s7))
      have Hr0 : H r = none := b2.back hp2 nr
      have Hg0 : H g = none := b6.back hp6 ng
      have pF : PrZ (upd H7 p (.ins C dx (putF "_pieces" (.ref g) (putF "_indices" (.ref Di) (putF "_routes" (.ref r) (putF "_customers" (nV n) (putF "_depots" (nV m) []))))))) zs' := (pr6.keep s7).upd hp7
      have rF : (upd H7 p (.ins C dx (putF "_pieces" (.ref g) (putF "_indices" (.ref Di) (putF "_routes" (.ref r) (putF "_customers" (nV n) (putF "_depots" (nV m) []))))))) r = some (.lst (zs'.map zV)) := by
        rw [upd_ne nrp]
        exact s7 _ _ hr6
      have gF : (upd H7 p (.ins C dx (putF "_pieces" (.ref g) (putF "_indices" (.ref Di) (putF "_routes" (.ref r) (putF "_customers" (nV n) (putF "_depots" (nV m) []))))))) g = some (.lst (wz.map pV)) := by
        rw [upd_ne ngp]
        exact hg
      have cF : PcZ (upd H7 p (.ins C dx (putF "_pieces" (.ref g) (putF "_indices" (.ref Di) (putF "_routes" (.ref r) (putF "_customers" (nV n) (putF "_depots" (nV m) []))))))) wz := fun z hz => by
        have h := pz z hz
        refine ⟨?_, ?_, ?_⟩
        · rw [upd_ne (ne_insT h.ht hp7)]
          exact h.ht
        · rw [upd_ne (ne_ins h.ho hp7)]
          exact h.ho
        · rw [upd_ne (ne_ins h.hu hp7)]
          exact h.hu
      refine q _ zs' wz bF ⟨⟨dx, r, Di, g, upd_same, rF, gF⟩, pF, cF, inr, z'16, ez, m8, n8⟩ asc fz' (fun b0 xs hb0 => ?_) ⟨dx, m, n, r, Di, g, kvs, upd_same, by rw [upd_ne nDp]; exact s7 _ _ hDi6, by rw [← ie]; exact kx⟩
      have nb0 : b0 ≠ p := ne_ins hb0 hp
      have hbF := bF _ _ nb0 hb0
      have tupne : ∀ {c : Addr} {ys : List V}, (upd H7 p (.ins C dx (putF "_pieces" (.ref g) (putF "_indices" (.ref Di) (putF "_routes" (.ref r) (putF "_customers" (nV n) (putF "_depots" (nV m) []))))))) c = some (.tup ys) → c ≠ b0 := fun h e => by
        rw [e, hbF] at h
        cases h
      have frne : ∀ {c : Addr}, H c = none → c ≠ b0 := fun h e => by
        rw [e, hb0] at h
        cases h
      refine ⟨⟨dx, r, Di, g, ?_, ?_, ?_⟩, fun z hz => ?_, fun z hz => ⟨?_, ?_, ?_⟩, inr, z'16, ez, m8, n8⟩
      · rw [del_ne nb0.symm]
        exact upd_same
      · rw [del_ne (frne Hr0)]
        exact rF
      · rw [del_ne (frne Hg0)]
        exact gF
      · rw [del_ne (tupne (pF z hz))]
        exact pF z hz
      · rw [del_ne (tupne (cF z hz).ht)]
        exact (cF z hz).ht
      · rw [del_ne (frne (fz' z hz).2.1)]
        exact (cF z hz).ho
      · rw [del_ne (frne (fz' z hz).2.2)]
        exact (cF z hz).hu
end
end K03
set_option Elab.async false
set_option linter.all false
set_option maxRecDepth 100000
set_option maxHeartbeats 4000000
namespace K03
open PySem PySem.Spec PyProof.Rows L2
def rLstOf (K : PySem.W.Frag) : List V → Hp → VK → Prop := fun xs H Q => ∃ p ys, xs = [V.ref p] ∧ (SqL K H p ys ∨ SqT K H p ys) ∧ ∀ l, H l = none → Q (.ref l) (L2.upd H l (.lst ys))
theorem call_lst {X : Cx} : CallR X (.type "list") (rLstOf X.K) := call_list_of
section
variable {P : Program} {w : World} {K : PySem.W.Frag} {mg : Str → Option Value} {base : Heap} {f : Addr} {fd : FuncData}
/-! ### Network.pieces -/
abbrev Network_pieces_N : List Str := ["self", "depots", "customers"]
theorem Network_pieces_sc : FnScope ["self", "depots", "customers"] ["self"] (defScope Network_pieces_st) := ⟨rfl, rfl, rfl, by decide +kernel, rfl, by decide +kernel, by decide +kernel⟩
def spPieces (C : Addr) : Sp := fun vs H Q _ => ∃ (p : Addr) (m n : Nat) (zs : List Z) (ws : List P4), vs = [.ref p] ∧ NetAt C H p m n zs ws ∧ NewPcs H Q (pcs m n (labs m n (zs.map (·.2))))
theorem ok_pieces {C : Addr} {uP uR : Value} (F : FnM K "pieces" "Network.pieces" Network_pieces_st f fd) (T : NetC K C uP uR) (m_list : mg "list" = none) : FnOk P w K mg base (L2N.CX P w) 1 f fd ["self"] (spPieces C) := by
  refine F.ok Network_pieces_sc (fun vs H Q E h => ?_) (fun cdv A outer s H vs Q E hr h => ?_)
  · obtain ⟨p, m, n, zs, ws, rfl, _⟩ := h
    rfl
  · obtain ⟨p, m, n, zs, ws, rfl, N, q⟩ := h
    obtain ⟨dx, r, di, g, hp, hr', hg⟩ := N.ob
    have wl : ws.length ≤ 16 := by
      have h1 := congrArg List.length N.due
      unfold pcs heads at h1
      rw [List.length_map, List.length_map] at h1
      have h2 := List.length_filter_le (fun k => decide ((labs m n (zs.map (·.2))).getD k 0 = k)) (List.range (labs m n (zs.map (·.2))).length)
      rw [List.length_range, labs_len] at h2
      have := N.m8
      have := N.n8
      rw [labs_len] at h1
      omega
    refine ⟨_, (pss_one (ps_ret (pe_lc (own := [("depots", 1), ("customers", 2)]) rfl Network_pieces_sc.nd (pi_list (pe_fld (pv 0) rfl)) (blkOk_by (own := [("depots", 1), ("customers", 2)]) (N := Network_pieces_N) (sc := defScope Network_pieces_st) (by decide +kernel)) (fun _ _ _ _ _ => (pg_tup rfl (pgs_cons (pg_name (i := 1) Network_pieces_sc.nd rfl (Or.inl rfl)) (pgs_cons (pg_name (i := 2) Network_pieces_sc.nd rfl (Or.inl rfl)) pgs_nil)) : PG _ _ (gTup K 2 _))) (fun _ _ _ _ _ => pts_nil) (fun _ _ _ _ _ => (pe_tup (pa_cons (pe_callTy (call_lst : CallR _ (.type "list") (rLstOf K)) (by rfl) m_list (by decide +kernel) (pa_cons (pv 1) pa_nil)) (pa_cons (pe_callTy (call_lst : CallR _ (.type "list") (rLstOf K)) (by rfl) m_list (by decide +kernel) (pa_cons (pv 2) pa_nil)) pa_nil))))))), ?_⟩
    refine ⟨.ref p, rfl, p, C, dx, _, .ref g, rfl, hp, T.cl, T.nP, nf_P _ _ _ _ _, g, rfl, ⟨_, sq hg⟩, fun D nD => ?_⟩
    refine lc_list (K := K) (a := g) (xs := ws.map pV) (fun i H' => ∃ us : List P4, Same H H' ∧ H' D = some (.lst (us.map pV)) ∧ PcZ H' us ∧ FrZ H us ∧ us.map P4.d = (ws.map P4.d).take i ∧ ∀ z ∈ us, z.o ≠ D ∧ z.u ≠ D) ⟨[], Same.new nD, upd_same, (fun _ h => nomatch h), (fun _ h => nomatch h), rfl, (fun _ h => nomatch h)⟩ (fun i H' _ h => ?_) (fun i x H' hx h => ?_) (fun H' h => ?_)
    · obtain ⟨us, sm, _⟩ := h
      exact sq (sm _ _ hg)
    · obtain ⟨us, sm, hD, pz, fz, ez, nz⟩ := h
      rw [List.getElem?_map] at hx
      cases e : ws[i]? with
      | none => rw [e] at hx; cases hx
      | some z =>
        rw [e] at hx
        have hx := Option.some.inj hx
        subst hx
        have hz := (N.pc z (List.mem_of_getElem? e)).keep sm
        have hi : i < ws.length := (List.getElem?_eq_some_iff.mp e).1
        have ul : us.length = i := by
          have := congrArg List.length ez
          rw [List.length_map, List.length_take, List.length_map] at this
          omega
        refine ⟨z.t, [.ref z.o, .ref z.u], rfl, sqt hz.ht, rfl, .ref z.o, [.ref z.u], rfl, .ref z.u, [], rfl, rfl, rfl, ?_⟩
        refine ⟨.ref z.o, rfl, z.o, _, rfl, .inl (sq hz.ho), fun o no => ?_⟩
        have s1 := Same.new (o := .lst (z.d.1.map nV)) no
        refine ⟨.ref z.u, rfl, z.u, _, rfl, .inl (sq (s1 _ _ hz.hu)), fun u nu => ⟨len2, fun t nt => ?_⟩⟩
        have s2 := Same.new (o := .lst (z.d.2.map nV)) nu
        have s3 := Same.new (o := .tup [V.ref o, V.ref u]) nt
        have s12 := s1.trans s2
        have s123 := s12.trans s3
        have hD4 := s123 _ _ hD
        have noD : o ≠ D := (ne_of_none hD no).symm
        have nuD : u ≠ D := (ne_of_none (s1 _ _ hD) nu).symm
        have hpc : PcAt (L2.upd (L2.upd (L2.upd H' o (.lst (z.d.1.map nV))) u (.lst (z.d.2.map nV))) t (.tup [V.ref o, V.ref u])) t o u z.d.1 z.d.2 := ⟨upd_same, s3 _ _ (s2 _ _ upd_same), s3 _ _ upd_same⟩
        refine ⟨_, hD4, small1000 (by rw [List.length_map]; omega), us ++ [⟨t, o, u, z.d⟩], (sm.trans s123).mut nD, ?_, ?_, ?_, ?_, ?_⟩
        · rw [upd_same, List.map_append]
          rfl
        · intro y hy
          rcases List.mem_append.mp hy with hy | hy
          · exact ((pz y hy).keep s123).upd hD4 (nz y hy).1 (nz y hy).2
          · rw [List.mem_singleton.mp hy]
            exact hpc.upd hD4 noD nuD
        · intro y hy
          rcases List.mem_append.mp hy with hy | hy
          · exact fz y hy
          · rw [List.mem_singleton.mp hy]
            exact ⟨(sm.trans s12).back nt, sm.back no, (sm.trans s1).back nu⟩
        · rw [List.map_append, ez, List.take_add_one, List.getElem?_map, e]
          rfl
        · intro y hy
          rcases List.mem_append.mp hy with hy | hy
          · exact nz y hy
          · rw [List.mem_singleton.mp hy]
            exact ⟨noD, nuD⟩
    · obtain ⟨us, sm, hD, pz, fz, ez, nz⟩ := h
      rw [List.take_of_length_le (by rw [List.length_map, List.length_map]; exact Nat.le_refl _), N.due] at ez
      exact q H' D us sm nD hD pz fz ez nz
/-! ### Network.reach -/
abbrev Network_reach_N : List Str := ["self", "lot", "entries", "depot", "customer"]
theorem Network_reach_sc : FnScope ["self", "lot", "entries", "depot", "customer"] ["self", "lot"] (defScope Network_reach_st) := ⟨rfl, rfl, rfl, by decide +kernel, rfl, by decide +kernel, by decide +kernel⟩
def spReach (K : PySem.W.Frag) (C CN CR : Addr) : Sp := fun vs H Q E => ∃ (p l : Addr) (m n : Nat) (zs : List Z) (ws : List P4) (ns : List Int), vs = [.ref p, .ref l] ∧ NetAt C H p m n zs ws ∧ (SqL K H l (ns.map V.int) ∨ SqT K H l (ns.map V.int)) ∧ ns.length ≤ 10 ∧
  (due m ns = none → New H Q ((rch n (zs.map (·.2)) ns).map nV)) ∧
  (∀ b x, due m ns = some (b, x) → ∀ (H' : Hp) (d : Addr), Same H H' → H d = none → H' d = some (.xd [(fldOf b, .int x)]) → E (.ref (if b then CR else CN)) (some d) H')
theorem ok_reach {C CN CR f1 : Addr} {fd1 : FuncData} {uP uR : Value} (F : FnM K "reach" "Network.reach" Network_reach_st f fd) (T : NetC K C uP uR) (m_sorted : mg "sorted" = none) (D_checked_lot : Dn P w K mg base 4 "checked_lot" ["lot", "depots"] (spChecked K CN CR) f1 fd1) : FnOk P w K mg base (L2N.CX P w) 5 f fd ["self", "lot"] (spReach K C CN CR) := by
  refine F.ok Network_reach_sc (fun vs H Q E h => ?_) (fun cdv A outer s H vs Q E hr h => ?_)
  · obtain ⟨p, l, m, n, zs, ws, ns, rfl, _⟩ := h
    rfl
  · obtain ⟨p, l, m, n, zs, ws, ns, rfl, N, hl, h10, q, qe⟩ := h
    obtain ⟨dx, r, di, g, hp, hr', hg⟩ := N.ob
    refine ⟨_, (pss_cons (ps_set (i := 2) Network_reach_sc.nd rfl (Or.inr rfl) (pe_callS D_checked_lot.ok (hr.mono (by decide)) rfl D_checked_lot.g D_checked_lot.kp D_checked_lot.b (fun σ => L2N.passAt (L2N.takes_of rfl rfl rfl rfl) σ) (pa_cons (pv 1) (pa_cons (pe_fld (pv 0) rfl) pa_nil))))
      (pss_one (ps_ret (pe_callB (cr_sortedSet rfl) (by rfl) m_sorted (by decide +kernel) (pa_cons (CmX.pe_scI (own := [("depot", 3), ("customer", 4)]) rfl Network_reach_sc.nd (pi_list (pe_fld (pv 0) rfl)) (blkOk_by (own := [("depot", 3), ("customer", 4)]) (N := Network_reach_N) (sc := defScope Network_reach_st) (by decide +kernel)) (fun _ _ _ _ _ => (pg_tup rfl (pgs_cons (pg_name (i := 3) Network_reach_sc.nd rfl (Or.inl rfl)) (pgs_cons (pg_name (i := 4) Network_reach_sc.nd rfl (Or.inl rfl)) pgs_nil)) : PG _ _ (gTup K 2 _))) (fun _ _ _ _ _ => (pts_one (pt_cmpR (op_in_seq : OpR _ _ (rIn K false)) (pv 3) (pv 2) rfl))) (fun _ _ _ _ _ => (pv 4))) pa_nil))))), ?_⟩
    refine ⟨.ref l, rfl, .ref p, rfl, p, C, dx, _, nV m, rfl, hp, T.cl, T.nD, nf_D _ _ _ _ _, l, m, ns, rfl, hl, h10, fun hd H1 D es s1 nD hD mem => ?_, qe⟩
    refine ⟨.ref p, rfl, p, C, dx, _, .ref r, rfl, s1 _ _ hp, T.cl, T.nR, nf_R _ _ _ _ _, r, rfl, ⟨_, sq (s1 _ _ hr')⟩, fun S nS => ?_⟩
    refine ⟨fun i m' H' => m' = zs.length - i ∧ i ≤ zs.length ∧ Same H1 H' ∧ ∃ (Sf : Int → Bool) (c : Nat), H' S = some (SetO w S Sf c) ∧ c ≤ i ∧ ∀ k, Sf k = true ↔ ∃ z ∈ (zs.map (·.2)).take i, (z.2 : Int) = k ∧ (z.1 : Int) ∈ es, ⟨_, rfl, Nat.zero_le _, Same.new nS, fun _ => false, 0, upd_same, Nat.le_refl _, fun k => ⟨fun z => (nomatch z), fun ⟨p, z, _⟩ => (nomatch z)⟩⟩, fun i m' H' hW => ?_⟩
    obtain ⟨rfl, hi, sm, Sf, c, hS, hc, hSf⟩ := hW
    have hr2 := sm _ _ (s1 _ _ hr')
    by_cases hlt : i < zs.length
    · have g0 : (zs.map zV)[i]? = some (zV zs[i]) := by
        rw [List.getElem?_map, List.getElem?_eq_getElem hlt]
        rfl
      refine .inr ⟨⟨_, _, sq hr2, g0⟩, fun H'' => Same H1 H'' ∧ ∃ (Sf : Int → Bool) (c : Nat), H'' S = some (SetO w S Sf c) ∧ c ≤ i + 1 ∧ ∀ k, Sf k = true ↔ ∃ z ∈ (zs.map (·.2)).take (i + 1), (z.2 : Int) = k ∧ (z.1 : Int) ∈ es, fun H'' ⟨h1, h2⟩ => ⟨zs.length - (i + 1), by omega, rfl, hlt, h1, h2⟩, fun x H'' hy => ?_⟩
      obtain ⟨rfl, fx⟩ := hy
      have ex : x = zV zs[i] := Option.some.inj ((fx _ (sq hr2)).symm.trans g0)
      subst ex
      have hz := sm _ _ (s1 _ _ (N.pr _ (List.getElem_mem hlt)))
      have et : (zs.map (·.2)).take (i + 1) = (zs.map (·.2)).take i ++ [zs[i].2] := by
        rw [List.take_add_one, List.getElem?_map, List.getElem?_eq_getElem hlt]
        rfl
      refine ⟨zs[i].1, [nV zs[i].2.1, nV zs[i].2.2], rfl, sqt hz, rfl, nV zs[i].2.1, [nV zs[i].2.2], rfl, nV zs[i].2.2, [], rfl, rfl, rfl, ?_⟩
      refine ⟨nV zs[i].2.1, rfl, .ref D, rfl, D, _, rfl, .inl (sq (sm _ _ hD)), rfl, flat_ints _, _, rfl, ite2 (fun e => ?_) (fun e => ?_)⟩
      · have e : (zs[i].2.1 : Int) ∈ es := by
          have e : inV (.int (zs[i].2.1 : Int)) (es.map V.int) = true := e
          rw [inV_ints] at e
          exact of_decide_eq_true e
        refine ⟨nV zs[i].2.2, rfl, (zs[i].2.2 : Int), Sf, c, rfl, hS, by have := N.few; unfold scanBound; omega, sm.mut nS, _, _, upd_same, ?_, fun k => ?_⟩
        · split <;> omega
        · rw [et, Bool.or_eq_true, hSf, decide_eq_true_iff]
          constructor
          · rintro (⟨z, hz, h1, h2⟩ | rfl)
            · exact ⟨z, List.mem_append_left _ hz, h1, h2⟩
            · exact ⟨zs[i].2, List.mem_append_right _ List.mem_cons_self, rfl, e⟩
          · rintro ⟨z, hz, h1, h2⟩
            rcases List.mem_append.mp hz with hz | hz
            · exact .inl ⟨z, hz, h1, h2⟩
            · rw [List.mem_singleton.mp hz] at h1
              exact .inr h1.symm
      · have e : ¬ (zs[i].2.1 : Int) ∈ es := fun z => by
          have e : ¬ inV (.int (zs[i].2.1 : Int)) (es.map V.int) = true := e
          rw [inV_ints, decide_eq_true z] at e
          exact e rfl
        refine ⟨sm, Sf, c, hS, Nat.le_succ_of_le hc, fun k => ?_⟩
        rw [et, hSf]
        constructor
        · rintro ⟨z, hz, h1⟩
          exact ⟨z, List.mem_append_left _ hz, h1⟩
        · rintro ⟨z, hz, h1, h2⟩
          rcases List.mem_append.mp hz with hz | hz
          · exact ⟨z, hz, h1, h2⟩
          · rw [List.mem_singleton.mp hz] at h2
            exact absurd h2 e
    · have ei : i = zs.length := by omega
      subst ei
      refine .inl ⟨⟨_, sq hr2, by rw [List.length_map]; exact Nat.le_refl _⟩, ?_⟩
      refine ⟨S, Sf, c, rfl, hS, by have := N.few; omega, fun xs u hxs hmem _ nu => ?_⟩
      have s3 := Same.new (o := .lst (xs.map V.int)) nu
      rw [List.take_of_length_le (by rw [List.length_map]; exact Nat.le_refl _)] at hSf
      have exs := rch_of (n := n) (zs := zs.map (·.2)) (ns := ns) (xs := xs) (fun p hp => by
        obtain ⟨z, hz, rfl⟩ := List.mem_map.mp hp
        exact (N.inr z hz).2) hxs fun k => by
          rw [hmem, hSf]
          constructor
          · rintro ⟨z, hz, h1, h2⟩
            exact ⟨z, hz, h1, (mem _).mp h2⟩
          · rintro ⟨z, hz, h1, h2⟩
            exact ⟨z, hz, h1, (mem _).mpr h2⟩
      refine q hd _ u ((s1.trans sm).trans s3) ((s1.trans sm).back nu) ?_
      rw [upd_same, exs, List.map_map]
      rfl
end
end K03
set_option Elab.async false
set_option linter.all false
set_option maxRecDepth 100000
set_option maxHeartbeats 4000000
namespace K03
open PySem PySem.Spec PyProof.Rows L2
/-- a network in front of its facts -/
def NetHd (C : Addr) (H : Hp) (p : Addr) (m n : Nat) (zs : List Z) (ws : List P4) : Prop := NetAt C H p m n zs ws
/-- the second places of the routes of depot e, the first ones of customer b -/
def custs (zs : List Z) (e : Int) : List Nat := (zs.filter fun z => decide ((z.2.1 : Int) = e)).map fun z => z.2.2
def deps (zs : List Z) (b : Int) : List Nat := (zs.filter fun z => decide ((z.2.2 : Int) = b)).map fun z => z.2.1
theorem one_z {g : Z → Bool} {z : Z} (h : g z = true) : [z].filter g = [z] := List.filter_cons_of_pos h
theorem none_z {g : Z → Bool} {z : Z} (h : ¬ g z = true) : [z].filter g = [] := List.filter_cons_of_neg h
theorem take_z {zs : List Z} {i : Nat} {z : Z} (h : zs[i]? = some z) : zs.take (i + 1) = zs.take i ++ [z] := by
  rw [List.take_add_one, h]
  rfl
section
variable {P : Program} {w : World} {K : PySem.W.Frag} {mg : Str → Option Value} {base : Heap} {f : Addr} {fd : FuncData}
/-! ### Network.customers_of -/
abbrev Network_customers_of_N : List Str := ["self", "depot", "route"]
theorem Network_customers_of_sc : FnScope ["self", "depot", "route"] ["self", "depot"] (defScope Network_customers_of_st) := ⟨rfl, rfl, rfl, by decide +kernel, rfl, by decide +kernel, by decide +kernel⟩
def spCusts (C CN : Addr) : Sp := fun vs H Q E => ∃ (p : Addr) (x : Int) (m n : Nat) (zs : List Z) (ws : List P4), vs = [.ref p, .int x] ∧ NetAt C H p m n zs ws ∧ (0 ≤ x ∧ x < (m : Int) → New H Q ((custs zs x).map nV)) ∧ (¬ (0 ≤ x ∧ x < (m : Int)) → ∀ d, H d = none → E (.ref CN) (some d) (upd H d (.xd [("depot", .int x)])))
theorem ok_custs {C CN f1 : Addr} {fd1 : FuncData} {uP uR : Value} (F : FnM K "customers_of" "Network.customers_of" Network_customers_of_st f fd) (T : NetC K C uP uR) (D_check_depot : Dn P w K mg base 3 "check_depot" ["depot", "depots"] (spDepot CN) f1 fd1) : FnOk P w K mg base (L2N.CX P w) 4 f fd ["self", "depot"] (spCusts C CN) := by
  refine F.ok Network_customers_of_sc (fun vs H Q E h => ?_) (fun cdv A outer s H vs Q E hr h => ?_)
  · obtain ⟨p, x, m, n, zs, ws, rfl, _⟩ := h
    rfl
  · obtain ⟨p, x, m, n, zs, ws, rfl, N, q, qe⟩ := h
    obtain ⟨dx, r, di, g, hp, hr', hg⟩ := N.ob
    refine ⟨_, (pss_cons (ps_expr (pe_callS D_check_depot.ok (hr.mono (by decide)) rfl D_check_depot.g D_check_depot.kp D_check_depot.b (fun σ => L2N.passAt (L2N.takes_of rfl rfl rfl rfl) σ) (pa_cons (pv 1) (pa_cons (pe_fld (pv 0) rfl) pa_nil))))
      (pss_one (ps_ret (pe_lc (own := [("route", 2)]) rfl Network_customers_of_sc.nd (pi_list (pe_fld (pv 0) rfl)) (blkOk_by (own := [("route", 2)]) (N := Network_customers_of_N) (sc := defScope Network_customers_of_st) (by decide +kernel)) (fun _ _ _ _ _ => (pg_name (i := 2) Network_customers_of_sc.nd rfl (Or.inl rfl))) (fun _ _ _ _ _ => (pts_one (pt_cmpR op_eq (pe_ix (ix_tup : IxR _ (rIxT K)) (pv 2) pe_int (fun _ _ => rfl)) (pv 1) (nomark _)))) (fun _ _ _ _ _ => (pe_ix (ix_tup : IxR _ (rIxT K)) (pv 2) pe_int (fun _ _ => rfl))))))), ?_⟩
    refine ⟨.int x, rfl, .ref p, rfl, p, C, dx, _, nV m, rfl, hp, T.cl, T.nD, nf_D _ _ _ _ _, x, m, rfl, fun hx => ?_, qe⟩
    refine ⟨.ref p, rfl, p, C, dx, _, .ref r, rfl, hp, T.cl, T.nR, nf_R _ _ _ _ _, r, rfl, ⟨_, sq hr'⟩, fun D nD => ?_⟩
    refine lc_list (K := K) (a := r) (xs := zs.map zV) (fun i H' => Same H H' ∧ H' D = some (.lst ((custs (zs.take i) x).map nV))) ⟨Same.new nD, upd_same⟩ (fun i H' _ h => sq (h.1 _ _ hr')) (fun i y H' hy h => ?_) (fun H' h => ?_)
    · obtain ⟨sm, hD⟩ := h
      obtain ⟨z, ez, mz, rfl⟩ := item_zV hy
      have hz := sm _ _ (N.pr z mz)
      have hi : i < 16 := Nat.lt_of_lt_of_le (List.getElem?_eq_some_iff.mp ez).1 N.few
      have hlen : ((custs (zs.take i) x).map nV).length < sizeLine := small1000 (by
        unfold custs
        rw [List.length_map, List.length_map]
        have h1 := List.length_filter_le (fun z : Z => decide ((z.2.1 : Int) = x)) (zs.take i)
        rw [List.length_take] at h1
        omega)
      refine ⟨rfl, ?_⟩
      refine ⟨zV z, rfl, z.1, _, 0, nV z.2.1, rfl, rfl, sqt hz, rfl, .int x, rfl, ⟨rfl, _, rfl, ite2 (fun e => ?_) (fun e => ?_)⟩⟩
      · have e : (z.2.1 : Int) = x := V.int.inj (of_decide_eq_true e)
        refine ⟨zV z, rfl, z.1, _, 1, nV z.2.2, rfl, rfl, sqt hz, rfl, _, hD, hlen, sm.mut nD, ?_⟩
        rw [upd_same, take_z ez]
        unfold custs
        rw [List.filter_append, one_z (g := fun z : Z => decide ((z.2.1 : Int) = x)) (decide_eq_true e), List.map_append, List.map_append]
        rfl
      · have e : ¬ (z.2.1 : Int) = x := fun c => e (decide_eq_true (congrArg V.int c))
        refine ⟨sm, ?_⟩
        rw [take_z ez]
        unfold custs at hD ⊢
        rw [List.filter_append, none_z (g := fun z : Z => decide ((z.2.1 : Int) = x)) (fun c => e (of_decide_eq_true c)), List.append_nil]
        exact hD
    · obtain ⟨sm, hD⟩ := h
      rw [List.take_of_length_le (by rw [List.length_map]; exact Nat.le_refl _)] at hD
      exact q hx H' D sm nD hD
/-! ### Network.loops, joined, and what it tells of itself -/
abbrev Network_depots_N : List Str := ["self"]
theorem Network_depots_sc : FnScope ["self"] ["self"] (defScope Network_depots_st) := ⟨rfl, rfl, rfl, by decide +kernel, rfl, by decide +kernel, by decide +kernel⟩
abbrev Network_customers_N : List Str := ["self"]
theorem Network_customers_sc : FnScope ["self"] ["self"] (defScope Network_customers_st) := ⟨rfl, rfl, rfl, by decide +kernel, rfl, by decide +kernel, by decide +kernel⟩
abbrev Network_routes_N : List Str := ["self"]
theorem Network_routes_sc : FnScope ["self"] ["self"] (defScope Network_routes_st) := ⟨rfl, rfl, rfl, by decide +kernel, rfl, by decide +kernel, by decide +kernel⟩
abbrev Network_loops_N : List Str := ["self"]
theorem Network_loops_sc : FnScope ["self"] ["self"] (defScope Network_loops_st) := ⟨rfl, rfl, rfl, by decide +kernel, rfl, by decide +kernel, by decide +kernel⟩
abbrev Network_joined_N : List Str := ["self"]
theorem Network_joined_sc : FnScope ["self"] ["self"] (defScope Network_joined_st) := ⟨rfl, rfl, rfl, by decide +kernel, rfl, by decide +kernel, by decide +kernel⟩
def spNum (C : Addr) (g : Nat → Nat → List Z → List P4 → V) : Sp := fun vs H Q _ => ∃ (p : Addr) (m n : Nat) (zs : List Z) (ws : List P4), vs = [.ref p] ∧ NetAt C H p m n zs ws ∧ Q (g m n zs ws) H
theorem ok_depots {C : Addr} {uP uR : Value} (F : FnM K "depots" "Network.depots" Network_depots_st f fd) (T : NetC K C uP uR) : FnOk P w K mg base (L2N.CX P w) 1 f fd ["self"] (spNum C fun m _ _ _ => nV m) := by
  refine F.ok Network_depots_sc (fun vs H Q E h => ?_) (fun cdv A outer s H vs Q E hr h => ?_)
  · obtain ⟨p, m, n, zs, ws, rfl, _⟩ := h
    rfl
  · obtain ⟨p, m, n, zs, ws, rfl, N, q⟩ := h
    obtain ⟨dx, r, di, g, hp, hr', hg⟩ := N.ob
    refine ⟨_, (pss_one (ps_ret (pe_fld (pv 0) rfl))), ?_⟩
    exact ⟨.ref p, rfl, p, C, dx, _, nV m, rfl, hp, T.cl, T.nD, nf_D _ _ _ _ _, q⟩
theorem nf_C (m n : Nat) (r di q : Addr) : (nf m n r di q).lookup ("_customers" : Str) = some (nV n) := by
  unfold nf
  rw [lookup_putF, if_neg (by decide), lookup_putF, if_neg (by decide), lookup_putF, if_neg (by decide), lookup_putF, if_pos rfl]
theorem ok_customers {C : Addr} {uP uR : Value} (F : FnM K "customers" "Network.customers" Network_customers_st f fd) (T : NetC K C uP uR) : FnOk P w K mg base (L2N.CX P w) 1 f fd ["self"] (spNum C fun _ n _ _ => nV n) := by
  refine F.ok Network_customers_sc (fun vs H Q E h => ?_) (fun cdv A outer s H vs Q E hr h => ?_)
  · obtain ⟨p, m, n, zs, ws, rfl, _⟩ := h
    rfl
  · obtain ⟨p, m, n, zs, ws, rfl, N, q⟩ := h
    obtain ⟨dx, r, di, g, hp, hr', hg⟩ := N.ob
    refine ⟨_, (pss_one (ps_ret (pe_fld (pv 0) rfl))), ?_⟩
    exact ⟨.ref p, rfl, p, C, dx, _, nV n, rfl, hp, T.cl, T.nC, nf_C _ _ _ _ _, q⟩
theorem ok_loops {C : Addr} {uP uR : Value} (F : FnM K "loops" "Network.loops" Network_loops_st f fd) (T : NetC K C uP uR) (m_len : mg "len" = none) : FnOk P w K mg base (L2N.CX P w) 1 f fd ["self"] (spNum C fun m n zs ws => .int ((((zs.length : Nat) : Int) - (m : Int) - (n : Int)) + (ws.length : Nat))) := by
  refine F.ok Network_loops_sc (fun vs H Q E h => ?_) (fun cdv A outer s H vs Q E hr h => ?_)
  · obtain ⟨p, m, n, zs, ws, rfl, _⟩ := h
    rfl
  · obtain ⟨p, m, n, zs, ws, rfl, N, q⟩ := h
    obtain ⟨dx, r, di, g, hp, hr', hg⟩ := N.ob
    refine ⟨_, (pss_one (ps_ret (pe_op op_add (pe_op op_sub (pe_op op_sub (pe_callB call_len_seq (by rfl) m_len (by decide +kernel) (pa_cons (pe_fld (pv 0) rfl) pa_nil)) (pe_fld (pv 0) rfl)) (pe_fld (pv 0) rfl)) (pe_callB call_len_seq (by rfl) m_len (by decide +kernel) (pa_cons (pe_fld (pv 0) rfl) pa_nil))))), ?_⟩
    refine ⟨.ref p, rfl, p, C, dx, _, .ref r, rfl, hp, T.cl, T.nR, nf_R _ _ _ _ _, r, _, rfl, .inl (sq hr'), .ref p, rfl, p, C, dx, _, nV m, rfl, hp, T.cl, T.nD, nf_D _ _ _ _ _, _, _, rfl, rfl, .ref p, rfl, p, C, dx, _, nV n, rfl, hp, T.cl, T.nC, nf_C _ _ _ _ _, _, _, rfl, rfl, .ref p, rfl, p, C, dx, _, .ref g, rfl, hp, T.cl, T.nP, nf_P _ _ _ _ _, g, _, rfl, .inl (sq hg), _, _, rfl, rfl, ?_⟩
    dsimp only
    rw [List.length_map, List.length_map]
    exact q
end
end K03
set_option Elab.async false
set_option linter.all false
set_option maxRecDepth 100000
set_option maxHeartbeats 4000000
namespace K03
open PySem PySem.Spec PyProof.Rows L2
/-- the class Network: how it is made -/
structure NwT (P : Program) (w : World) (K : PySem.W.Frag) (mg : Str → Option Value) (base : Heap) (C f : Addr) (fd : FuncData) : Prop where
  mkk : Mk K C f
  ok : FnOk P w K mg base (L2N.CX P w) 5 f fd ["self", "depots", "customers", "routes"] (spNet C)
  g : mg "Network" = some (.ref C)
  b : Binds K fd ["self", "depots", "customers", "routes"] []
def swp (p : Nat × Nat) : Nat × Nat := (p.2, p.1)
theorem swp_nodup {ps : List (Nat × Nat)} (h : ps.Nodup) : (ps.map swp).Nodup := by
  rw [List.nodup_iff_pairwise_ne] at h ⊢
  rw [List.pairwise_map]
  refine h.imp fun {a b} n e => n ?_
  have e1 : a.2 = b.2 := congrArg Prod.fst e
  have e2 : a.1 = b.1 := congrArg Prod.snd e
  exact Prod.ext e2 e1
section
variable {P : Program} {w : World} {K : PySem.W.Frag} {mg : Str → Option Value} {base : Heap} {f : Addr} {fd : FuncData}
/-! ### Network.turned -/
abbrev Network_turned_N : List Str := ["self", "routes", "depot", "customer"]
theorem Network_turned_sc : FnScope ["self", "routes", "depot", "customer"] ["self"] (defScope Network_turned_st) := ⟨rfl, rfl, rfl, by decide +kernel, rfl, by decide +kernel, by decide +kernel⟩
def spTurned (C : Addr) : Sp := fun vs H Q _ => ∃ (p : Addr) (m n : Nat) (zs : List Z) (ws : List P4), vs = [.ref p] ∧ NetAt C H p m n zs ws ∧ (zs.map (·.2)).Nodup ∧ 1 ≤ m ∧ 1 ≤ n ∧
  ∀ (H' : Hp) (x : Addr) (zt : List Z) (wt : List P4), Same H H' → H x = none → NetAt C H' x n m zt wt → NetIx C H' x zt → Asc (zt.map (·.2)) ((zs.map (·.2)).map swp) → FrZ H wt → Q (.ref x) H'
theorem ok_turned {C f2 : Addr} {fd2 : FuncData} {uP uR : Value} (F : FnM K "turned" "Network.turned" Network_turned_st f fd) (T : NetC K C uP uR) (D_Network : NwT P w K mg base C f2 fd2) : FnOk P w K mg base (L2N.CX P w) 7 f fd ["self"] (spTurned C) := by
  refine F.ok Network_turned_sc (fun vs H Q E h => ?_) (fun cdv A outer s H vs Q E hr h => ?_)
  · obtain ⟨p, m, n, zs, ws, rfl, _⟩ := h
    rfl
  · obtain ⟨p, m, n, zs, ws, rfl, N, nd, m1, n1, q⟩ := h
    obtain ⟨dx, r, di, g, hp, hr', hg⟩ := N.ob
    refine ⟨_, (pss_cons (ps_setLc (i := 1) (own := [("depot", 2), ("customer", 3)]) rfl Network_turned_sc.nd rfl rfl (sw_true rfl rfl rfl (by decide +kernel)) (pi_list (pe_fld (pv 0) rfl)) (blkOk_by (own := [("depot", 2), ("customer", 3)]) (N := Network_turned_N) (sc := defScope Network_turned_st) (by decide +kernel)) (fun _ _ _ _ _ => (pg_tup rfl (pgs_cons (pg_name (i := 2) Network_turned_sc.nd rfl (Or.inl rfl)) (pgs_cons (pg_name (i := 3) Network_turned_sc.nd rfl (Or.inl rfl)) pgs_nil)) : PG _ _ (gTup K 2 _))) (fun _ _ _ _ _ => pts_nil) (fun _ _ _ _ _ => (pe_tup (pa_cons (pv 3) (pa_cons (pv 2) pa_nil)))))
      (pss_one (ps_ret (pe_make D_Network.mkk D_Network.ok (hr.mono (by decide)) rfl D_Network.g D_Network.b .nil ErrX.passN (pa_cons (pe_fld (pv 0) rfl) (pa_cons (pe_fld (pv 0) rfl) (pa_cons (pv 1) pa_nil))))))), ?_⟩
    refine ⟨.ref p, rfl, p, C, dx, _, .ref r, rfl, hp, T.cl, T.nR, nf_R _ _ _ _ _, r, rfl, ⟨_, sq hr'⟩, fun D nD => ?_⟩
    refine lc_list (K := K) (a := r) (xs := zs.map zV) (fun i H' => ∃ us : List Z, Same H H' ∧ H' D = some (.lst (us.map zV)) ∧ PrZ H' us ∧ us.map (·.2) = ((zs.map (·.2)).take i).map swp) ⟨[], Same.new nD, upd_same, (fun _ h => nomatch h), rfl⟩ (fun i H' _ h => ?_) (fun i y H' hy h => ?_) (fun H1 h => ?_)
    · obtain ⟨us, sm, _⟩ := h
      exact sq (sm _ _ hr')
    · obtain ⟨us, sm, hD, pu, eu⟩ := h
      obtain ⟨z, ez, mz, rfl⟩ := item_zV hy
      have hz := sm _ _ (N.pr z mz)
      have hi : i < 16 := Nat.lt_of_lt_of_le (List.getElem?_eq_some_iff.mp ez).1 N.few
      have ul : us.length ≤ i := by
        have := congrArg List.length eu
        rw [List.length_map, List.length_map, List.length_take] at this
        omega
      refine ⟨z.1, [nV z.2.1, nV z.2.2], rfl, sqt hz, rfl, nV z.2.1, [nV z.2.2], rfl, nV z.2.2, [], rfl, rfl, rfl, ?_⟩
      refine ⟨nV z.2.2, rfl, nV z.2.1, rfl, len2, fun t nt => ?_⟩
      have st := Same.new (o := .tup [nV z.2.2, nV z.2.1]) nt
      have hD2 := st _ _ hD
      have ntD : t ≠ D := (ne_of_none hD nt).symm
      refine ⟨_, hD2, small1000 (by rw [List.length_map]; omega), us ++ [(t, z.2.2, z.2.1)], (sm.trans st).mut nD, ?_, ?_, ?_⟩
      · rw [upd_same, List.map_append]
        rfl
      · intro u hu
        rcases List.mem_append.mp hu with hu | hu
        · have := st _ _ (pu u hu)
          rw [upd_ne (fun e => by rw [e, hD2] at this; cases this)]
          exact this
        · rw [List.mem_singleton.mp hu]
          show upd _ D _ t = _
          rw [upd_ne ntD]
          exact upd_same
      · rw [List.map_append, eu, List.take_add_one, zs_at ez, List.map_append]
        rfl
    · obtain ⟨us, s1, hD, pu, eu⟩ := h
      rw [List.take_of_length_le (by rw [List.length_map, List.length_map]; exact Nat.le_refl _)] at eu
      have hp1 := s1 _ _ hp
      have fit : Fit n m (us.map (·.2)) := by
        rw [eu]
        refine ⟨swp_nodup nd, fun c hc => ?_⟩
        obtain ⟨d, hd, rfl⟩ := List.mem_map.mp hc
        obtain ⟨z, hz, rfl⟩ := List.mem_map.mp hd
        exact ⟨(N.inr z hz).2, (N.inr z hz).1⟩
      have ul : us.length ≤ 16 := by
        have := congrArg List.length eu
        rw [List.length_map, List.length_map, List.length_map] at this
        have := N.few
        omega
      refine ⟨.ref p, rfl, p, C, dx, _, nV n, rfl, hp1, T.cl, T.nC, nf_C _ _ _ _ _, .ref p, rfl, p, C, dx, _, nV m, rfl, hp1, T.cl, T.nD, nf_D _ _ _ _ _, .ref D, rfl, ?_⟩
      intro x dy nx ndy nex
      have sM : Same H1 (upd (upd H1 dy (.own x)) x (.ins C dy [])) := ((Same.refl H1).mut ndy).mut nx
      refine ⟨x, D, dy, n, m, us, rfl, upd_same, sM _ _ hD, pu.keep sM, fit, ul, n1, N.n8, m1, N.m8, fun H3 zt wt bN Nt asc fr _ ix => ⟨rfl, ?_⟩⟩
      have s3 : Same H1 H3 := fun b o e => bN b o (ne_of_none e nx) (sM b o e)
      rw [eu] at asc
      have sH := s1.trans sM
      exact q H3 x zt wt (s1.trans s3) (s1.back nx) Nt ix asc fun z hz => ⟨sH.back (fr z hz).1, sH.back (fr z hz).2.1, sH.back (fr z hz).2.2⟩
end
end K03
set_option Elab.async false
set_option linter.all false
set_option maxRecDepth 100000
set_option maxHeartbeats 4000000
namespace K03
open PySem PySem.Spec PyProof.Rows L2
section
variable {P : Program} {w : World} {K : PySem.W.Frag} {mg : Str → Option Value} {base : Heap} {f : Addr} {fd : FuncData}
def spCustB (C : Addr) : Sp := fun vs H Q E => ∃ (x : Int) (m : Nat), vs = [.int x, nV m] ∧ (0 ≤ x ∧ x < (m : Int) → Q .non H) ∧ (¬ (0 ≤ x ∧ x < (m : Int)) → ∀ d, H d = none → E (.ref C) (some d) (upd H d (.xd [("customer", .int x)])))
theorem ok_custB {C fI : Addr} {fdI : FuncData} {psI : List Str} (F : FnS K "check_customer" check_customer_st f fd) (D_NoCustomer : Er P w K mg base "NoCustomer" "customer" C fI fdI psI) : FnOk P w K mg base (L2N.CX P w) 3 f fd ["customer", "customers"] (spCustB C) := by
  refine F.ok check_customer_sc (fun vs H Q E h => ?_) (fun cdv A outer s H vs Q E hr h => ?_)
  · obtain ⟨x, m, rfl, _⟩ := h
    rfl
  · obtain ⟨x, m, rfl, h1, h2⟩ := h
    refine ⟨_, (pss_one (ps_if (pt_not (pt_chain op_le op_lt pe_int (pv 0) (pv 1))) (pss_one (L2N.ps_raise rfl (L2N.takes_of rfl rfl rfl rfl) (ErrX.pmk_err1 D_NoCustomer.T D_NoCustomer.iC D_NoCustomer.tI D_NoCustomer.F hr D_NoCustomer.b ErrX.passN rfl D_NoCustomer.g (pa_cons (pv 0) pa_nil)))) pss_nil)), ?_⟩
    refine ⟨.int x, rfl, 0, x, rfl, rfl, _, rfl, ite2 (fun e0 => ?_) (fun e0 => ?_)⟩
    · have e0 := of_decide_eq_true e0
      refine ⟨nV m, rfl, x, m, rfl, rfl, _, rfl, ite2 (fun e => ?_) (fun e => ?_)⟩
      · have hb : ¬ x < (m : Int) := fun z => by
          rw [decide_eq_true z] at e
          cases e
        exact ⟨_, rfl, _, rfl, h2 fun z => hb z.2⟩
      · by_cases z : x < (m : Int)
        · exact h1 ⟨e0, z⟩
        · rw [decide_eq_false z] at e
          exact absurd rfl e
    · have hb : ¬ 0 ≤ x := fun z => e0 (decide_eq_true z)
      refine ⟨false, rfl, iteT ⟨_, rfl, _, rfl, h2 fun z => hb z.1⟩⟩
/-! ### Network.depots_of -/
abbrev Network_depots_of_N : List Str := ["self", "customer", "route"]
theorem Network_depots_of_sc : FnScope ["self", "customer", "route"] ["self", "customer"] (defScope Network_depots_of_st) := ⟨rfl, rfl, rfl, by decide +kernel, rfl, by decide +kernel, by decide +kernel⟩
def spDeps (C CN : Addr) : Sp := fun vs H Q E => ∃ (p : Addr) (x : Int) (m n : Nat) (zs : List Z) (ws : List P4), vs = [.ref p, .int x] ∧ NetAt C H p m n zs ws ∧ (0 ≤ x ∧ x < (n : Int) → New H Q ((deps zs x).map nV)) ∧ (¬ (0 ≤ x ∧ x < (n : Int)) → ∀ d, H d = none → E (.ref CN) (some d) (upd H d (.xd [("customer", .int x)])))
theorem ok_deps {C CN f1 : Addr} {fd1 : FuncData} {uP uR : Value} (F : FnM K "depots_of" "Network.depots_of" Network_depots_of_st f fd) (T : NetC K C uP uR) (D_check_customer : Dn P w K mg base 3 "check_customer" ["customer", "customers"] (spCustB CN) f1 fd1) : FnOk P w K mg base (L2N.CX P w) 4 f fd ["self", "customer"] (spDeps C CN) := by
  refine F.ok Network_depots_of_sc (fun vs H Q E h => ?_) (fun cdv A outer s H vs Q E hr h => ?_)
  · obtain ⟨p, x, m, n, zs, ws, rfl, _⟩ := h
    rfl
  · obtain ⟨p, x, m, n, zs, ws, rfl, N, q, qe⟩ := h
    obtain ⟨dx, r, di, g, hp, hr', hg⟩ := N.ob
    refine ⟨_, (pss_cons (ps_expr (pe_callS D_check_customer.ok (hr.mono (by decide)) rfl D_check_customer.g D_check_customer.kp D_check_customer.b (fun σ => L2N.passAt (L2N.takes_of rfl rfl rfl rfl) σ) (pa_cons (pv 1) (pa_cons (pe_fld (pv 0) rfl) pa_nil))))
      (pss_one (ps_ret (pe_lc (own := [("route", 2)]) rfl Network_depots_of_sc.nd (pi_list (pe_fld (pv 0) rfl)) (blkOk_by (own := [("route", 2)]) (N := Network_depots_of_N) (sc := defScope Network_depots_of_st) (by decide +kernel)) (fun _ _ _ _ _ => (pg_name (i := 2) Network_depots_of_sc.nd rfl (Or.inl rfl))) (fun _ _ _ _ _ => (pts_one (pt_cmpR op_eq (pe_ix (ix_tup : IxR _ (rIxT K)) (pv 2) pe_int (fun _ _ => rfl)) (pv 1) (nomark _)))) (fun _ _ _ _ _ => (pe_ix (ix_tup : IxR _ (rIxT K)) (pv 2) pe_int (fun _ _ => rfl))))))), ?_⟩
    refine ⟨.int x, rfl, .ref p, rfl, p, C, dx, _, nV n, rfl, hp, T.cl, T.nC, nf_C _ _ _ _ _, x, n, rfl, fun hx => ?_, qe⟩
    refine ⟨.ref p, rfl, p, C, dx, _, .ref r, rfl, hp, T.cl, T.nR, nf_R _ _ _ _ _, r, rfl, ⟨_, sq hr'⟩, fun D nD => ?_⟩
    refine lc_list (K := K) (a := r) (xs := zs.map zV) (fun i H' => Same H H' ∧ H' D = some (.lst ((deps (zs.take i) x).map nV))) ⟨Same.new nD, upd_same⟩ (fun i H' _ h => sq (h.1 _ _ hr')) (fun i y H' hy h => ?_) (fun H' h => ?_)
    · obtain ⟨sm, hD⟩ := h
      obtain ⟨z, ez, mz, rfl⟩ := item_zV hy
      have hz := sm _ _ (N.pr z mz)
      have hi : i < 16 := Nat.lt_of_lt_of_le (List.getElem?_eq_some_iff.mp ez).1 N.few
      have hlen : ((deps (zs.take i) x).map nV).length < sizeLine := small1000 (by
        unfold deps
        rw [List.length_map, List.length_map]
        have h1 := List.length_filter_le (fun z : Z => decide ((z.2.2 : Int) = x)) (zs.take i)
        rw [List.length_take] at h1
        omega)
      refine ⟨rfl, ?_⟩
      refine ⟨zV z, rfl, z.1, _, 1, nV z.2.2, rfl, rfl, sqt hz, rfl, .int x, rfl, ⟨rfl, _, rfl, ite2 (fun e => ?_) (fun e => ?_)⟩⟩
      · have e : (z.2.2 : Int) = x := V.int.inj (of_decide_eq_true e)
        refine ⟨zV z, rfl, z.1, _, 0, nV z.2.1, rfl, rfl, sqt hz, rfl, _, hD, hlen, sm.mut nD, ?_⟩
        rw [upd_same, take_z ez]
        unfold deps
        rw [List.filter_append, one_z (g := fun z : Z => decide ((z.2.2 : Int) = x)) (decide_eq_true e), List.map_append, List.map_append]
        rfl
      · have e : ¬ (z.2.2 : Int) = x := fun c => e (decide_eq_true (congrArg V.int c))
        refine ⟨sm, ?_⟩
        rw [take_z ez]
        unfold deps at hD ⊢
        rw [List.filter_append, none_z (g := fun z : Z => decide ((z.2.2 : Int) = x)) (fun c => e (of_decide_eq_true c)), List.append_nil]
        exact hD
    · obtain ⟨sm, hD⟩ := h
      rw [List.take_of_length_le (by rw [List.length_map]; exact Nat.le_refl _)] at hD
      exact q hx H' D sm nD hD
/-! ### Network.joined, routes -/
theorem ok_joined {C : Addr} {uP uR : Value} (F : FnM K "joined" "Network.joined" Network_joined_st f fd) (T : NetC K C uP uR) (m_len : mg "len" = none) : FnOk P w K mg base (L2N.CX P w) 1 f fd ["self"] (spNum C fun _ _ _ ws => .bl (decide (ws.length = 1))) := by
  refine F.ok Network_joined_sc (fun vs H Q E h => ?_) (fun cdv A outer s H vs Q E hr h => ?_)
  · obtain ⟨p, m, n, zs, ws, rfl, _⟩ := h
    rfl
  · obtain ⟨p, m, n, zs, ws, rfl, N, q⟩ := h
    obtain ⟨dx, r, di, g, hp, hr', hg⟩ := N.ob
    refine ⟨_, (pss_one (ps_ret (pe_cmpR op_eq (pe_callB call_len_seq (by rfl) m_len (by decide +kernel) (pa_cons (pe_fld (pv 0) rfl) pa_nil)) pe_int (nomark _)))), ?_⟩
    refine ⟨.ref p, rfl, p, C, dx, _, .ref g, rfl, hp, T.cl, T.nP, nf_P _ _ _ _ _, g, _, rfl, .inl (sq hg), rfl, ?_⟩
    have e : decide (V.int (((ws.map pV).length : Nat) : Int) = V.int 1) = decide (ws.length = 1) := by
      rw [List.length_map]
      by_cases c : ws.length = 1
      · rw [decide_eq_true c]
        exact decide_eq_true (by rw [c]; rfl)
      · rw [decide_eq_false c]
        exact decide_eq_false fun z => c (Int.ofNat.inj (V.int.inj z))
    show Q (.bl (decide (V.int (((ws.map pV).length : Nat) : Int) = V.int 1))) H
    rw [e]
    exact q
def spRoutes (C : Addr) : Sp := fun vs H Q _ => ∃ (p : Addr) (m n : Nat) (zs : List Z) (ws : List P4), vs = [.ref p] ∧ NetAt C H p m n zs ws ∧ New H Q (zs.map zV)
theorem ok_routes {C : Addr} {uP uR : Value} (F : FnM K "routes" "Network.routes" Network_routes_st f fd) (T : NetC K C uP uR) (m_list : mg "list" = none) : FnOk P w K mg base (L2N.CX P w) 1 f fd ["self"] (spRoutes C) := by
  refine F.ok Network_routes_sc (fun vs H Q E h => ?_) (fun cdv A outer s H vs Q E hr h => ?_)
  · obtain ⟨p, m, n, zs, ws, rfl, _⟩ := h
    rfl
  · obtain ⟨p, m, n, zs, ws, rfl, N, q⟩ := h
    obtain ⟨dx, r, di, g, hp, hr', hg⟩ := N.ob
    refine ⟨_, (pss_one (ps_ret (pe_callTy call_list_of (by rfl) m_list (by decide +kernel) (pa_cons (pe_fld (pv 0) rfl) pa_nil)))), ?_⟩
    exact ⟨.ref p, rfl, p, C, dx, _, .ref r, rfl, hp, T.cl, T.nR, nf_R _ _ _ _ _, r, _, rfl, .inl (sq hr'), fun D nD => q _ D (Same.new nD) nD upd_same⟩
end
end K03
set_option Elab.async false
set_option linter.all false
set_option maxRecDepth 100000
set_option maxHeartbeats 4000000
namespace K03
open PySem PySem.Spec PyProof.Rows L2
/-- the same data twice, k deep -/
def Sm : Nat → Hp → V → V → Prop
  | 0, _, x, y => (∃ i, x = .int i ∧ y = .int i) ∨ (∃ z, x = .str z ∧ y = .str z) ∨ ∃ c, x = .bl c ∧ y = .bl c
  | k + 1, H, x, y => ((∃ i, x = .int i ∧ y = .int i) ∨ (∃ z, x = .str z ∧ y = .str z) ∨ ∃ c, x = .bl c ∧ y = .bl c) ∨ ∃ (a b : Addr) (xs ys : List V), x = .ref a ∧ y = .ref b ∧ ((H a = some (.lst xs) ∧ H b = some (.lst ys)) ∨ (H a = some (.tup xs) ∧ H b = some (.tup ys))) ∧ xs.length = ys.length ∧ xs.length ≤ 100 ∧ ∀ (i : Nat) (u v : V), xs[i]? = some u → ys[i]? = some v → Sm k H u v
def spSame (k : Nat) : Sp := fun vs H Q _ => ∃ x y, vs = [x, y] ∧ Sm k H x y ∧ Q (.bl true) H
section
variable {P : Program} {w : World} {K : PySem.W.Frag} {mg : Str → Option Value} {base : Heap} {f : Addr} {fd : FuncData}
/-! ### _law_same -/
abbrev law_same_N : List Str := ["told", "due", "k"]
theorem law_same_sc : FnScope ["told", "due", "k"] ["told", "due"] (defScope law_same_st) := ⟨rfl, rfl, rfl, by decide +kernel, rfl, by decide +kernel, by decide +kernel⟩
theorem ok_same0 (F : FnS K "_law_same" law_same_st f fd) (m_bool : mg "bool" = none) (m_len : mg "len" = none) (m_isinstance : mg "isinstance" = none) (m_int : mg "int" = none) (m_tuple : mg "tuple" = none) (m_range : mg "range" = none) (m_list : mg "list" = none) (m_str : mg "str" = none) : FnOk P w K mg base (L2N.CX P w) 1 f fd ["told", "due"] (spSame 0) := by
  refine F.ok law_same_sc (fun vs H Q E h => ?_) (fun cdv A outer s H vs Q E hr h => ?_)
  · obtain ⟨x, y, rfl, _⟩ := h
    rfl
  · obtain ⟨x, y, rfl, hs, q⟩ := h
    refine ⟨_, (pss_cons (ps_if (pt_cmpR op_isN (pv 1) pe_non (nomark _)) (pss_one (ps_ret (pe_cmpR op_isN (pv 0) pe_non (nomark _)))) pss_nil)
      (pss_cons (ps_if (pt_val (pe_callB call_isi (by rfl) m_isinstance (by decide +kernel) (pa_cons (pv 1) (pa_cons (pe_bltn (by rfl) m_bool (by decide +kernel) (v := .ty "bool") rfl) pa_nil)))) (pss_one (ps_ret (pe_and (pe_callB call_isi (by rfl) m_isinstance (by decide +kernel) (pa_cons (pv 0) (pa_cons (pe_bltn (by rfl) m_bool (by decide +kernel) (v := .ty "bool") rfl) pa_nil))) (pe_one (pe_cmpR op_eq (pv 0) (pv 1) (nomark _)))))) pss_nil)
      (pss_cons (ps_if (pt_val (pe_callB call_isi (by rfl) m_isinstance (by decide +kernel) (pa_cons (pv 1) (pa_cons (pe_bltn (by rfl) m_int (by decide +kernel) (v := .ty "int") rfl) pa_nil)))) (pss_one (ps_ret (pe_and (pe_callB call_isi (by rfl) m_isinstance (by decide +kernel) (pa_cons (pv 0) (pa_cons (pe_bltn (by rfl) m_int (by decide +kernel) (v := .ty "int") rfl) pa_nil))) (pe_and (pe_not (pe_callB call_isi (by rfl) m_isinstance (by decide +kernel) (pa_cons (pv 0) (pa_cons (pe_bltn (by rfl) m_bool (by decide +kernel) (v := .ty "bool") rfl) pa_nil)))) (pe_one (pe_cmpR op_eq (pv 0) (pv 1) (nomark _))))))) pss_nil)
      (pss_cons (ps_if (pt_val (pe_callB call_isi (by rfl) m_isinstance (by decide +kernel) (pa_cons (pv 1) (pa_cons (pe_bltn (by rfl) m_str (by decide +kernel) (v := .ty "str") rfl) pa_nil)))) (pss_one (ps_ret (pe_and (pe_callB call_isi (by rfl) m_isinstance (by decide +kernel) (pa_cons (pv 0) (pa_cons (pe_bltn (by rfl) m_str (by decide +kernel) (v := .ty "str") rfl) pa_nil))) (pe_one (pe_cmpR op_eq (pv 0) (pv 1) (nomark _)))))) pss_nil)
      (pss_cons (ps_if (PW.pt (pw_and (pt_val (pe_callB call_isi (by rfl) m_isinstance (by decide +kernel) (pa_cons (pv 1) (pa_cons (pe_bltn (by rfl) m_list (by decide +kernel) (v := .ty "list") rfl) pa_nil)))) (pw_and1 (pt_not (pt_val (pe_callB call_isi (by rfl) m_isinstance (by decide +kernel) (pa_cons (pv 0) (pa_cons (pe_bltn (by rfl) m_list (by decide +kernel) (v := .ty "list") rfl) pa_nil)))))))) (pss_one (ps_ret pe_bl)) pss_nil)
      (pss_cons (ps_if (PW.pt (pw_and (pt_val (pe_callB call_isi (by rfl) m_isinstance (by decide +kernel) (pa_cons (pv 1) (pa_cons (pe_bltn (by rfl) m_tuple (by decide +kernel) (v := .ty "tuple") rfl) pa_nil)))) (pw_and1 (pt_not (pt_val (pe_callB call_isi (by rfl) m_isinstance (by decide +kernel) (pa_cons (pv 0) (pa_cons (pe_bltn (by rfl) m_tuple (by decide +kernel) (v := .ty "tuple") rfl) pa_nil)))))))) (pss_one (ps_ret pe_bl)) pss_nil)
      (pss_cons (ps_if (pt_cmpR op_ne (pe_callB call_len_seq (by rfl) m_len (by decide +kernel) (pa_cons (pv 0) pa_nil)) (pe_callB call_len_seq (by rfl) m_len (by decide +kernel) (pa_cons (pv 1) pa_nil)) (nomark _)) (pss_one (ps_ret pe_bl)) pss_nil)
      (pss_cons ps_never
      (pss_one (ps_ret pe_bl)))))))))), ?_⟩
    rcases hs with ⟨i, rfl, rfl⟩ | ⟨z, rfl, rfl⟩ | ⟨c, rfl, rfl⟩
    · refine ⟨.int i, rfl, rfl, _, rfl, ite2 (fun e => absurd (of_decide_eq_true e) (fun z => nomatch z)) (fun _ => ?_)⟩
      refine ⟨.int i, rfl, .int i, .ty "bool", .type "int", .type "bool", false, rfl, .ty _, .base (.int i), kit_ty (by decide +kernel), _, rfl, iteF ?_⟩
      refine ⟨.int i, rfl, .int i, .ty "int", .type "int", .type "int", true, rfl, .ty _, .base (.int i), kit_ty (by decide +kernel), _, rfl, iteT ?_⟩
      refine ⟨.int i, rfl, .int i, .ty "int", .type "int", .type "int", true, rfl, .ty _, .base (.int i), kit_ty (by decide +kernel), _, rfl, iteT ⟨.int i, rfl, .int i, .ty "bool", .type "int", .type "bool", false, rfl, .ty _, .base (.int i), kit_ty (by decide +kernel), _, rfl, _, rfl, iteT ⟨.int i, rfl, .int i, rfl, rfl, (show Q (.bl (decide (V.int i = V.int i))) _ from by rw [decide_eq_true (rfl : V.int i = V.int i)]; exact q)⟩⟩⟩
    · refine ⟨.str z, rfl, rfl, _, rfl, ite2 (fun e => absurd (of_decide_eq_true e) (fun z => nomatch z)) (fun _ => ?_)⟩
      refine ⟨.str z, rfl, .str z, .ty "bool", .type "str", .type "bool", false, rfl, .ty _, .base (.str z), kit_ty (by decide +kernel), _, rfl, iteF ?_⟩
      refine ⟨.str z, rfl, .str z, .ty "int", .type "str", .type "int", false, rfl, .ty _, .base (.str z), kit_ty (by decide +kernel), _, rfl, iteF ?_⟩
      refine ⟨.str z, rfl, .str z, .ty "str", .type "str", .type "str", true, rfl, .ty _, .base (.str z), kit_ty (by decide +kernel), _, rfl, iteT ?_⟩
      exact ⟨.str z, rfl, .str z, .ty "str", .type "str", .type "str", true, rfl, .ty _, .base (.str z), kit_ty (by decide +kernel), _, rfl, iteT ⟨.str z, rfl, .str z, rfl, rfl, (show Q (.bl (decide (V.str z = V.str z))) _ from by rw [decide_eq_true (rfl : V.str z = V.str z)]; exact q)⟩⟩
    · refine ⟨.bl c, rfl, rfl, _, rfl, ite2 (fun e => absurd (of_decide_eq_true e) (fun z => nomatch z)) (fun _ => ?_)⟩
      exact ⟨.bl c, rfl, .bl c, .ty "bool", .type "bool", .type "bool", true, rfl, .ty _, .base (.bl c), kit_ty (by decide +kernel), _, rfl, iteT ⟨.bl c, rfl, .bl c, .ty "bool", .type "bool", .type "bool", true, rfl, .ty _, .base (.bl c), kit_ty (by decide +kernel), _, rfl, iteT ⟨.bl c, rfl, .bl c, rfl, rfl, (show Q (.bl (decide (V.bl c = V.bl c))) _ from by rw [decide_eq_true (rfl : V.bl c = V.bl c)]; exact q)⟩⟩⟩
theorem ok_sameS {k : Nat} (F : FnS K "_law_same" law_same_st f fd) (m_bool : mg "bool" = none) (m_len : mg "len" = none) (m_isinstance : mg "isinstance" = none) (m_int : mg "int" = none) (m_tuple : mg "tuple" = none) (m_range : mg "range" = none) (m_list : mg "list" = none) (m_str : mg "str" = none) (D_law_same : Dn P w K mg base (k + 1) "_law_same" ["told", "due"] (spSame k) f fd) : FnOk P w K mg base (L2N.CX P w) (k + 2) f fd ["told", "due"] (spSame (k + 1)) := by
  refine F.ok law_same_sc (fun vs H Q E h => ?_) (fun cdv A outer s H vs Q E hr h => ?_)
  · obtain ⟨x, y, rfl, _⟩ := h
    rfl
  · obtain ⟨x, y, rfl, hs | ⟨a, b, xs, ys, rfl, rfl, ⟨ha, hb⟩ | ⟨ha, hb⟩, hl, h100, hd⟩, q⟩ := h
    · refine ⟨_, (pss_cons (ps_if (pt_cmpR op_isN (pv 1) pe_non (nomark _)) (pss_one (ps_ret (pe_cmpR op_isN (pv 0) pe_non (nomark _)))) pss_nil)
      (pss_cons (ps_if (pt_val (pe_callB call_isi (by rfl) m_isinstance (by decide +kernel) (pa_cons (pv 1) (pa_cons (pe_bltn (by rfl) m_bool (by decide +kernel) (v := .ty "bool") rfl) pa_nil)))) (pss_one (ps_ret (pe_and (pe_callB call_isi (by rfl) m_isinstance (by decide +kernel) (pa_cons (pv 0) (pa_cons (pe_bltn (by rfl) m_bool (by decide +kernel) (v := .ty "bool") rfl) pa_nil))) (pe_one (pe_cmpR op_eq (pv 0) (pv 1) (nomark _)))))) pss_nil)
      (pss_cons (ps_if (pt_val (pe_callB call_isi (by rfl) m_isinstance (by decide +kernel) (pa_cons (pv 1) (pa_cons (pe_bltn (by rfl) m_int (by decide +kernel) (v := .ty "int") rfl) pa_nil)))) (pss_one (ps_ret (pe_and (pe_callB call_isi (by rfl) m_isinstance (by decide +kernel) (pa_cons (pv 0) (pa_cons (pe_bltn (by rfl) m_int (by decide +kernel) (v := .ty "int") rfl) pa_nil))) (pe_and (pe_not (pe_callB call_isi (by rfl) m_isinstance (by decide +kernel) (pa_cons (pv 0) (pa_cons (pe_bltn (by rfl) m_bool (by decide +kernel) (v := .ty "bool") rfl) pa_nil)))) (pe_one (pe_cmpR op_eq (pv 0) (pv 1) (nomark _))))))) pss_nil)
      (pss_cons (ps_if (pt_val (pe_callB call_isi (by rfl) m_isinstance (by decide +kernel) (pa_cons (pv 1) (pa_cons (pe_bltn (by rfl) m_str (by decide +kernel) (v := .ty "str") rfl) pa_nil)))) (pss_one (ps_ret (pe_and (pe_callB call_isi (by rfl) m_isinstance (by decide +kernel) (pa_cons (pv 0) (pa_cons (pe_bltn (by rfl) m_str (by decide +kernel) (v := .ty "str") rfl) pa_nil))) (pe_one (pe_cmpR op_eq (pv 0) (pv 1) (nomark _)))))) pss_nil)
      (pss_cons (ps_if (PW.pt (pw_and (pt_val (pe_callB call_isi (by rfl) m_isinstance (by decide +kernel) (pa_cons (pv 1) (pa_cons (pe_bltn (by rfl) m_list (by decide +kernel) (v := .ty "list") rfl) pa_nil)))) (pw_and1 (pt_not (pt_val (pe_callB call_isi (by rfl) m_isinstance (by decide +kernel) (pa_cons (pv 0) (pa_cons (pe_bltn (by rfl) m_list (by decide +kernel) (v := .ty "list") rfl) pa_nil)))))))) (pss_one (ps_ret pe_bl)) pss_nil)
      (pss_cons (ps_if (PW.pt (pw_and (pt_val (pe_callB call_isi (by rfl) m_isinstance (by decide +kernel) (pa_cons (pv 1) (pa_cons (pe_bltn (by rfl) m_tuple (by decide +kernel) (v := .ty "tuple") rfl) pa_nil)))) (pw_and1 (pt_not (pt_val (pe_callB call_isi (by rfl) m_isinstance (by decide +kernel) (pa_cons (pv 0) (pa_cons (pe_bltn (by rfl) m_tuple (by decide +kernel) (v := .ty "tuple") rfl) pa_nil)))))))) (pss_one (ps_ret pe_bl)) pss_nil)
      (pss_cons (ps_if (pt_cmpR op_ne (pe_callB call_len_seq (by rfl) m_len (by decide +kernel) (pa_cons (pv 0) pa_nil)) (pe_callB call_len_seq (by rfl) m_len (by decide +kernel) (pa_cons (pv 1) pa_nil)) (nomark _)) (pss_one (ps_ret pe_bl)) pss_nil)
      (pss_cons ps_never
      (pss_one (ps_ret pe_bl)))))))))), ?_⟩
      rcases hs with ⟨i, rfl, rfl⟩ | ⟨z, rfl, rfl⟩ | ⟨c, rfl, rfl⟩
      · refine ⟨.int i, rfl, rfl, _, rfl, ite2 (fun e => absurd (of_decide_eq_true e) (fun z => nomatch z)) (fun _ => ?_)⟩
        refine ⟨.int i, rfl, .int i, .ty "bool", .type "int", .type "bool", false, rfl, .ty _, .base (.int i), kit_ty (by decide +kernel), _, rfl, iteF ?_⟩
        refine ⟨.int i, rfl, .int i, .ty "int", .type "int", .type "int", true, rfl, .ty _, .base (.int i), kit_ty (by decide +kernel), _, rfl, iteT ?_⟩
        refine ⟨.int i, rfl, .int i, .ty "int", .type "int", .type "int", true, rfl, .ty _, .base (.int i), kit_ty (by decide +kernel), _, rfl, iteT ⟨.int i, rfl, .int i, .ty "bool", .type "int", .type "bool", false, rfl, .ty _, .base (.int i), kit_ty (by decide +kernel), _, rfl, _, rfl, iteT ⟨.int i, rfl, .int i, rfl, rfl, (show Q (.bl (decide (V.int i = V.int i))) _ from by rw [decide_eq_true (rfl : V.int i = V.int i)]; exact q)⟩⟩⟩
      · refine ⟨.str z, rfl, rfl, _, rfl, ite2 (fun e => absurd (of_decide_eq_true e) (fun z => nomatch z)) (fun _ => ?_)⟩
        refine ⟨.str z, rfl, .str z, .ty "bool", .type "str", .type "bool", false, rfl, .ty _, .base (.str z), kit_ty (by decide +kernel), _, rfl, iteF ?_⟩
        refine ⟨.str z, rfl, .str z, .ty "int", .type "str", .type "int", false, rfl, .ty _, .base (.str z), kit_ty (by decide +kernel), _, rfl, iteF ?_⟩
        refine ⟨.str z, rfl, .str z, .ty "str", .type "str", .type "str", true, rfl, .ty _, .base (.str z), kit_ty (by decide +kernel), _, rfl, iteT ?_⟩
        exact ⟨.str z, rfl, .str z, .ty "str", .type "str", .type "str", true, rfl, .ty _, .base (.str z), kit_ty (by decide +kernel), _, rfl, iteT ⟨.str z, rfl, .str z, rfl, rfl, (show Q (.bl (decide (V.str z = V.str z))) _ from by rw [decide_eq_true (rfl : V.str z = V.str z)]; exact q)⟩⟩
      · refine ⟨.bl c, rfl, rfl, _, rfl, ite2 (fun e => absurd (of_decide_eq_true e) (fun z => nomatch z)) (fun _ => ?_)⟩
        exact ⟨.bl c, rfl, .bl c, .ty "bool", .type "bool", .type "bool", true, rfl, .ty _, .base (.bl c), kit_ty (by decide +kernel), _, rfl, iteT ⟨.bl c, rfl, .bl c, .ty "bool", .type "bool", .type "bool", true, rfl, .ty _, .base (.bl c), kit_ty (by decide +kernel), _, rfl, iteT ⟨.bl c, rfl, .bl c, rfl, rfl, (show Q (.bl (decide (V.bl c = V.bl c))) _ from by rw [decide_eq_true (rfl : V.bl c = V.bl c)]; exact q)⟩⟩⟩
    · refine ⟨_, (pss_cons (ps_if (pt_cmpR op_isN (pv 1) pe_non (nomark _)) (pss_one (ps_ret (pe_cmpR op_isN (pv 0) pe_non (nomark _)))) pss_nil)
      (pss_cons (ps_if (pt_val (pe_callB call_isi (by rfl) m_isinstance (by decide +kernel) (pa_cons (pv 1) (pa_cons (pe_bltn (by rfl) m_bool (by decide +kernel) (v := .ty "bool") rfl) pa_nil)))) (pss_one (ps_ret (pe_and (pe_callB call_isi (by rfl) m_isinstance (by decide +kernel) (pa_cons (pv 0) (pa_cons (pe_bltn (by rfl) m_bool (by decide +kernel) (v := .ty "bool") rfl) pa_nil))) (pe_one (pe_cmpR (op_eqD hr.units) (pv 0) (pv 1) (nomark _)))))) pss_nil)
      (pss_cons (ps_if (pt_val (pe_callB call_isi (by rfl) m_isinstance (by decide +kernel) (pa_cons (pv 1) (pa_cons (pe_bltn (by rfl) m_int (by decide +kernel) (v := .ty "int") rfl) pa_nil)))) (pss_one (ps_ret (pe_and (pe_callB call_isi (by rfl) m_isinstance (by decide +kernel) (pa_cons (pv 0) (pa_cons (pe_bltn (by rfl) m_int (by decide +kernel) (v := .ty "int") rfl) pa_nil))) (pe_and (pe_not (pe_callB call_isi (by rfl) m_isinstance (by decide +kernel) (pa_cons (pv 0) (pa_cons (pe_bltn (by rfl) m_bool (by decide +kernel) (v := .ty "bool") rfl) pa_nil)))) (pe_one (pe_cmpR (op_eqD hr.units) (pv 0) (pv 1) (nomark _))))))) pss_nil)
      (pss_cons (ps_if (pt_val (pe_callB call_isi (by rfl) m_isinstance (by decide +kernel) (pa_cons (pv 1) (pa_cons (pe_bltn (by rfl) m_str (by decide +kernel) (v := .ty "str") rfl) pa_nil)))) (pss_one (ps_ret (pe_and (pe_callB call_isi (by rfl) m_isinstance (by decide +kernel) (pa_cons (pv 0) (pa_cons (pe_bltn (by rfl) m_str (by decide +kernel) (v := .ty "str") rfl) pa_nil))) (pe_one (pe_cmpR (op_eqD hr.units) (pv 0) (pv 1) (nomark _)))))) pss_nil)
      (pss_cons (ps_if (PW.pt (pw_and (pt_val (pe_callB call_isi (by rfl) m_isinstance (by decide +kernel) (pa_cons (pv 1) (pa_cons (pe_bltn (by rfl) m_list (by decide +kernel) (v := .ty "list") rfl) pa_nil)))) (pw_and1 (pt_not (pt_val (pe_callB call_isi (by rfl) m_isinstance (by decide +kernel) (pa_cons (pv 0) (pa_cons (pe_bltn (by rfl) m_list (by decide +kernel) (v := .ty "list") rfl) pa_nil)))))))) (pss_one (ps_ret pe_bl)) pss_nil)
      (pss_cons (ps_if (PW.pt (pw_and (pt_val (pe_callB call_isi (by rfl) m_isinstance (by decide +kernel) (pa_cons (pv 1) (pa_cons (pe_bltn (by rfl) m_tuple (by decide +kernel) (v := .ty "tuple") rfl) pa_nil)))) (pw_and1 (pt_not (pt_val (pe_callB call_isi (by rfl) m_isinstance (by decide +kernel) (pa_cons (pv 0) (pa_cons (pe_bltn (by rfl) m_tuple (by decide +kernel) (v := .ty "tuple") rfl) pa_nil)))))))) (pss_one (ps_ret pe_bl)) pss_nil)
      (pss_cons (ps_if (pt_cmpR op_ne (pe_callB call_len_seq (by rfl) m_len (by decide +kernel) (pa_cons (pv 0) pa_nil)) (pe_callB call_len_seq (by rfl) m_len (by decide +kernel) (pa_cons (pv 1) pa_nil)) (nomark _)) (pss_one (ps_ret pe_bl)) pss_nil)
      (pss_cons (ps_for (passes_of rfl) rfl (pi_range1 rfl m_range (pa_cons (pe_callB call_len_seq (by rfl) m_len (by decide +kernel) (pa_cons (pv 1) pa_nil)) pa_nil)) (pg_name (i := 2) law_same_sc.nd rfl (Or.inl rfl))
      (pss_one (ps_if (pt_not (pt_val (pe_call D_law_same.ok hr rfl D_law_same.g D_law_same.kp D_law_same.b .nil ErrX.passN (pa_cons (pe_ix ix_list (pv 0) (pv 2) (fun _ _ => rfl)) (pa_cons (pe_ix ix_list (pv 1) (pv 2) (fun _ _ => rfl)) pa_nil))))) (pss_one (ps_ret pe_bl)) pss_nil)))
      (pss_one (ps_ret pe_bl)))))))))), ?_⟩
      refine ⟨.ref b, rfl, rfl, _, rfl, ite2 (fun e => absurd (of_decide_eq_true e) (fun z => nomatch z)) (fun _ => ?_)⟩
      refine ⟨.ref b, rfl, .ref b, .ty "bool", .type "list", .type "bool", false, rfl, .ty _, .base (.lst hb), kit_ty (by decide +kernel), _, rfl, iteF ?_⟩
      refine ⟨.ref b, rfl, .ref b, .ty "int", .type "list", .type "int", false, rfl, .ty _, .base (.lst hb), kit_ty (by decide +kernel), _, rfl, iteF ?_⟩
      refine ⟨.ref b, rfl, .ref b, .ty "str", .type "list", .type "str", false, rfl, .ty _, .base (.lst hb), kit_ty (by decide +kernel), _, rfl, iteF ?_⟩
      refine ⟨.ref b, rfl, .ref b, .ty "list", .type "list", .type "list", true, rfl, .ty _, .base (.lst hb), kit_ty (by decide +kernel), _, rfl, iteT ⟨.ref a, rfl, .ref a, .ty "list", .type "list", .type "list", true, rfl, .ty _, .base (.lst ha), kit_ty (by decide +kernel), _, rfl, iteF ?_⟩⟩
      refine ⟨.ref b, rfl, .ref b, .ty "tuple", .type "list", .type "tuple", false, rfl, .ty _, .base (.lst hb), kit_ty (by decide +kernel), _, rfl, iteF (iteF ?_)⟩
      refine ⟨.ref a, rfl, a, xs, rfl, .inl (sq ha), .ref b, rfl, b, ys, rfl, .inl (sq hb), rfl, _, rfl, ite2 (fun e => ?_) (fun _ => ?_)⟩
      · rw [hl, decide_eq_true (rfl : V.int (ys.length : Int) = V.int (ys.length : Int))] at e
        cases e
      · refine ⟨.ref b, rfl, b, ys, rfl, .inl (sq hb), _, rfl, by omega, by omega, ?_⟩
        rw [Int.toNat_natCast]
        refine for_range (lo := 0) (n := ys.length) (fun i σ H' => ∃ y2 : Option V, σ = [some (.ref a), some (.ref b), y2] ∧ H' = H) ⟨none, rfl, rfl⟩ (fun i σ H' hi g => ?_) (fun σ H' g => ?_)
        · obtain ⟨y2, rfl, rfl⟩ := g
          rw [int_nV]
          have g1 : xs[i]? = some (xs[i]'(by omega)) := List.getElem?_eq_getElem (by omega)
          have g2 : ys[i]? = some ys[i] := List.getElem?_eq_getElem hi
          refine ⟨.ref a, rfl, nV i, rfl, a, xs, (i : Int), _, rfl, rfl, sq ha, atI_nat g1, .ref b, rfl, nV i, rfl, b, ys, (i : Int), _, rfl, rfl, sq hb, atI_nat g2, _, _, rfl, hd i _ _ g1 g2, _, rfl, iteF ⟨_, rfl, rfl⟩⟩
        · obtain ⟨y2, rfl, rfl⟩ := g
          exact q
    · refine ⟨_, (pss_cons (ps_if (pt_cmpR op_isN (pv 1) pe_non (nomark _)) (pss_one (ps_ret (pe_cmpR op_isN (pv 0) pe_non (nomark _)))) pss_nil)
      (pss_cons (ps_if (pt_val (pe_callB call_isi (by rfl) m_isinstance (by decide +kernel) (pa_cons (pv 1) (pa_cons (pe_bltn (by rfl) m_bool (by decide +kernel) (v := .ty "bool") rfl) pa_nil)))) (pss_one (ps_ret (pe_and (pe_callB call_isi (by rfl) m_isinstance (by decide +kernel) (pa_cons (pv 0) (pa_cons (pe_bltn (by rfl) m_bool (by decide +kernel) (v := .ty "bool") rfl) pa_nil))) (pe_one (pe_cmpR (op_eqD hr.units) (pv 0) (pv 1) (nomark _)))))) pss_nil)
      (pss_cons (ps_if (pt_val (pe_callB call_isi (by rfl) m_isinstance (by decide +kernel) (pa_cons (pv 1) (pa_cons (pe_bltn (by rfl) m_int (by decide +kernel) (v := .ty "int") rfl) pa_nil)))) (pss_one (ps_ret (pe_and (pe_callB call_isi (by rfl) m_isinstance (by decide +kernel) (pa_cons (pv 0) (pa_cons (pe_bltn (by rfl) m_int (by decide +kernel) (v := .ty "int") rfl) pa_nil))) (pe_and (pe_not (pe_callB call_isi (by rfl) m_isinstance (by decide +kernel) (pa_cons (pv 0) (pa_cons (pe_bltn (by rfl) m_bool (by decide +kernel) (v := .ty "bool") rfl) pa_nil)))) (pe_one (pe_cmpR (op_eqD hr.units) (pv 0) (pv 1) (nomark _))))))) pss_nil)
      (pss_cons (ps_if (pt_val (pe_callB call_isi (by rfl) m_isinstance (by decide +kernel) (pa_cons (pv 1) (pa_cons (pe_bltn (by rfl) m_str (by decide +kernel) (v := .ty "str") rfl) pa_nil)))) (pss_one (ps_ret (pe_and (pe_callB call_isi (by rfl) m_isinstance (by decide +kernel) (pa_cons (pv 0) (pa_cons (pe_bltn (by rfl) m_str (by decide +kernel) (v := .ty "str") rfl) pa_nil))) (pe_one (pe_cmpR (op_eqD hr.units) (pv 0) (pv 1) (nomark _)))))) pss_nil)
      (pss_cons (ps_if (PW.pt (pw_and (pt_val (pe_callB call_isi (by rfl) m_isinstance (by decide +kernel) (pa_cons (pv 1) (pa_cons (pe_bltn (by rfl) m_list (by decide +kernel) (v := .ty "list") rfl) pa_nil)))) (pw_and1 (pt_not (pt_val (pe_callB call_isi (by rfl) m_isinstance (by decide +kernel) (pa_cons (pv 0) (pa_cons (pe_bltn (by rfl) m_list (by decide +kernel) (v := .ty "list") rfl) pa_nil)))))))) (pss_one (ps_ret pe_bl)) pss_nil)
      (pss_cons (ps_if (PW.pt (pw_and (pt_val (pe_callB call_isi (by rfl) m_isinstance (by decide +kernel) (pa_cons (pv 1) (pa_cons (pe_bltn (by rfl) m_tuple (by decide +kernel) (v := .ty "tuple") rfl) pa_nil)))) (pw_and1 (pt_not (pt_val (pe_callB call_isi (by rfl) m_isinstance (by decide +kernel) (pa_cons (pv 0) (pa_cons (pe_bltn (by rfl) m_tuple (by decide +kernel) (v := .ty "tuple") rfl) pa_nil)))))))) (pss_one (ps_ret pe_bl)) pss_nil)
      (pss_cons (ps_if (pt_cmpR op_ne (pe_callB call_len_seq (by rfl) m_len (by decide +kernel) (pa_cons (pv 0) pa_nil)) (pe_callB call_len_seq (by rfl) m_len (by decide +kernel) (pa_cons (pv 1) pa_nil)) (nomark _)) (pss_one (ps_ret pe_bl)) pss_nil)
      (pss_cons (ps_for (passes_of rfl) rfl (pi_range1 rfl m_range (pa_cons (pe_callB call_len_seq (by rfl) m_len (by decide +kernel) (pa_cons (pv 1) pa_nil)) pa_nil)) (pg_name (i := 2) law_same_sc.nd rfl (Or.inl rfl))
      (pss_one (ps_if (pt_not (pt_val (pe_call D_law_same.ok hr rfl D_law_same.g D_law_same.kp D_law_same.b .nil ErrX.passN (pa_cons (pe_ix ix_tup (pv 0) (pv 2) (fun _ _ => rfl)) (pa_cons (pe_ix ix_tup (pv 1) (pv 2) (fun _ _ => rfl)) pa_nil))))) (pss_one (ps_ret pe_bl)) pss_nil)))
      (pss_one (ps_ret pe_bl)))))))))), ?_⟩
      refine ⟨.ref b, rfl, rfl, _, rfl, ite2 (fun e => absurd (of_decide_eq_true e) (fun z => nomatch z)) (fun _ => ?_)⟩
      refine ⟨.ref b, rfl, .ref b, .ty "bool", .type "tuple", .type "bool", false, rfl, .ty _, .base (.tup hb), kit_ty (by decide +kernel), _, rfl, iteF ?_⟩
      refine ⟨.ref b, rfl, .ref b, .ty "int", .type "tuple", .type "int", false, rfl, .ty _, .base (.tup hb), kit_ty (by decide +kernel), _, rfl, iteF ?_⟩
      refine ⟨.ref b, rfl, .ref b, .ty "str", .type "tuple", .type "str", false, rfl, .ty _, .base (.tup hb), kit_ty (by decide +kernel), _, rfl, iteF ?_⟩
      refine ⟨.ref b, rfl, .ref b, .ty "list", .type "tuple", .type "list", false, rfl, .ty _, .base (.tup hb), kit_ty (by decide +kernel), _, rfl, iteF (iteF ?_)⟩
      refine ⟨.ref b, rfl, .ref b, .ty "tuple", .type "tuple", .type "tuple", true, rfl, .ty _, .base (.tup hb), kit_ty (by decide +kernel), _, rfl, iteT ⟨.ref a, rfl, .ref a, .ty "tuple", .type "tuple", .type "tuple", true, rfl, .ty _, .base (.tup ha), kit_ty (by decide +kernel), _, rfl, iteF ?_⟩⟩
      refine ⟨.ref a, rfl, a, xs, rfl, .inr (sqt ha), .ref b, rfl, b, ys, rfl, .inr (sqt hb), rfl, _, rfl, ite2 (fun e => ?_) (fun _ => ?_)⟩
      · rw [hl, decide_eq_true (rfl : V.int (ys.length : Int) = V.int (ys.length : Int))] at e
        cases e
      · refine ⟨.ref b, rfl, b, ys, rfl, .inr (sqt hb), _, rfl, by omega, by omega, ?_⟩
        rw [Int.toNat_natCast]
        refine for_range (lo := 0) (n := ys.length) (fun i σ H' => ∃ y2 : Option V, σ = [some (.ref a), some (.ref b), y2] ∧ H' = H) ⟨none, rfl, rfl⟩ (fun i σ H' hi g => ?_) (fun σ H' g => ?_)
        · obtain ⟨y2, rfl, rfl⟩ := g
          rw [int_nV]
          have g1 : xs[i]? = some (xs[i]'(by omega)) := List.getElem?_eq_getElem (by omega)
          have g2 : ys[i]? = some ys[i] := List.getElem?_eq_getElem hi
          refine ⟨.ref a, rfl, nV i, rfl, a, xs, (i : Int), _, rfl, rfl, sqt ha, atI_nat g1, .ref b, rfl, nV i, rfl, b, ys, (i : Int), _, rfl, rfl, sqt hb, atI_nat g2, _, _, rfl, hd i _ _ g1 g2, _, rfl, iteF ⟨_, rfl, rfl⟩⟩
        · obtain ⟨y2, rfl, rfl⟩ := g
          exact q
theorem ok_same (F : FnS K "_law_same" law_same_st f fd) (m_bool : mg "bool" = none) (m_len : mg "len" = none) (m_isinstance : mg "isinstance" = none) (m_int : mg "int" = none) (m_tuple : mg "tuple" = none) (m_range : mg "range" = none) (m_list : mg "list" = none) (m_str : mg "str" = none) (g : mg "_law_same" = some (.ref f)) (kp : PySem.W.keepIn K (.ref f) = true) (b : Binds K fd ["told", "due"] []) : ∀ k, Dn P w K mg base (k + 1) "_law_same" ["told", "due"] (spSame k) f fd
  | 0 => ⟨ok_same0 F m_bool m_len m_isinstance m_int m_tuple m_range m_list m_str, g, kp, b⟩
  | k + 1 => ⟨ok_sameS F m_bool m_len m_isinstance m_int m_tuple m_range m_list m_str (ok_same F m_bool m_len m_isinstance m_int m_tuple m_range m_list m_str g kp b k), g, kp, b⟩
end
end K03
set_option Elab.async false
set_option linter.all false
set_option maxRecDepth 100000
set_option maxHeartbeats 4000000
namespace K03
open PySem PySem.Spec PyProof.Rows L2
/-- a property, a method, a method of a reserved name: where it stands, what it promises -/
structure PrD (P : Program) (w : World) (K : PySem.W.Frag) (mg : Str → Option Value) (base : Heap) (k : Nat) (C : Addr) (f : Str) (sp : Sp) (p g : Addr) (fd : FuncData) : Prop where
  po : PropOf K C f p g
  ok : FnOk P w K mg base (L2N.CX P w) k g fd ["self"] sp
  b : Binds K fd ["self"] []
structure MtD (P : Program) (w : World) (K : PySem.W.Frag) (mg : Str → Option Value) (base : Heap) (k : Nat) (C : Addr) (x : Str) (ps : List Str) (sp : Sp) (f : Addr) (fd : FuncData) : Prop where
  m : Meth K C x f
  ok : FnOk P w K mg base (L2N.CX P w) k f fd ps sp
  b : Binds K fd ps []
structure OwD (P : Program) (w : World) (K : PySem.W.Frag) (mg : Str → Option Value) (base : Heap) (k : Nat) (C : Addr) (x : Str) (ps : List Str) (sp : Sp) (f : Addr) (fd : FuncData) : Prop where
  s : PySem.W.findIn K (.ref C) x = some (some (.ref f))
  fn : PySem.W.isFn K (.ref f) = true
  ok : FnOk P w K mg base (L2N.CX P w) k f fd ps sp
  b : Binds K fd ps []
structure ErT (P : Program) (w : World) (K : PySem.W.Frag) (mg : Str → Option Value) (base : Heap) (x fld : Str) (C fI : Addr) (fd : FuncData) (ps : List Str) : Prop where
  T : OexC K C
  iC : PySem.W.findIn K (.ref C) "__init__" = some (some (.ref fI))
  tI : PySem.W.typeIn K (.ref fI) = some (.type "function")
  F : FnOk P w K mg base (L2N.CX P w) 1 fI fd ps (ErrX.spT C fld)
  b : Binds K fd ps []
  g : mg x = some (.ref C)
/-- the number of a route among the routes -/
def hitP (a b : Int) (p : Nat × Nat) : Bool := decide ((p.1 : Int) = a) && decide ((p.2 : Int) = b)
def fx (ps : List (Nat × Nat)) (a b : Int) : Option Nat := ps.findIdx? (hitP a b)
theorem hitP_iff {a b : Int} {p : Nat × Nat} : hitP a b p = true ↔ (p.1 : Int) = a ∧ (p.2 : Int) = b := by
  unfold hitP
  rw [Bool.and_eq_true, decide_eq_true_iff, decide_eq_true_iff]
theorem hitP_one {a b : Int} {p q : Nat × Nat} (h : hitP a b p = true) (h' : hitP a b q = true) : p = q := by
  have h1 := hitP_iff.mp h
  have h2 := hitP_iff.mp h'
  exact Prod.ext (by omega) (by omega)
theorem kz_iff {a b : Int} {z : Z} : ([Sum.inl a, Sum.inl b] : List Key) = kz z ↔ hitP a b z.2 = true := by
  rw [hitP_iff]
  unfold kz
  constructor
  · intro e
    have e1 := List.cons.inj e
    have e2 := List.cons.inj e1.2
    exact ⟨(Sum.inl.inj e1.1).symm, (Sum.inl.inj e2.1).symm⟩
  · rintro ⟨h1, h2⟩
    rw [h1, h2]
theorem ixv_none {zs : List Z} {a b : Int} (h : ∀ z ∈ zs, hitP a b z.2 = false) : ∀ i, ixv zs i [Sum.inl a, Sum.inl b] = none
  | 0 => rfl
  | i + 1 => by
    show (match zs[i]? with
      | some z => if ([Sum.inl a, Sum.inl b] : List Key) = kz z then some (V.int (i : Nat)) else ixv zs i [Sum.inl a, Sum.inl b]
      | none => ixv zs i [Sum.inl a, Sum.inl b]) = none
    cases e : zs[i]? with
    | none => exact ixv_none h i
    | some z =>
      have hz := h z (List.mem_of_getElem? e)
      have : ¬ ([Sum.inl a, Sum.inl b] : List Key) = kz z := fun q => by
        rw [kz_iff.mp q] at hz
        cases hz
      dsimp only
      rw [if_neg this]
      exact ixv_none h i
theorem ixv_at {zs : List Z} {a b : Int} {j : Nat} {z : Z} (nd : (zs.map (·.2)).Nodup) (hj : zs[j]? = some z) (hh : hitP a b z.2 = true) : ∀ i, j < i → i ≤ zs.length → ixv zs i [Sum.inl a, Sum.inl b] = some (V.int (j : Nat))
  | 0, h, _ => absurd h (Nat.not_lt_zero _)
  | i + 1, h, hl => by
    show (match zs[i]? with
      | some z => if ([Sum.inl a, Sum.inl b] : List Key) = kz z then some (V.int (i : Nat)) else ixv zs i [Sum.inl a, Sum.inl b]
      | none => ixv zs i [Sum.inl a, Sum.inl b]) = _
    rw [List.getElem?_eq_getElem (show i < zs.length by omega)]
    by_cases e : i = j
    · subst e
      have : zs[i]'(by omega) = z := by
        rw [List.getElem?_eq_getElem (show i < zs.length by omega)] at hj
        exact Option.some.inj hj
      rw [this]
      dsimp only
      rw [if_pos (kz_iff.mpr hh)]
    · have : ¬ ([Sum.inl a, Sum.inl b] : List Key) = kz (zs[i]'(by omega)) := fun q => by
        have hq := hitP_one (kz_iff.mp q) hh
        have e1 : (zs.map (·.2))[i]? = some z.2 := by
          rw [List.getElem?_map, List.getElem?_eq_getElem (show i < zs.length by omega)]
          exact congrArg some hq
        have e2 : (zs.map (·.2))[j]? = some z.2 := zs_at hj
        have hl1 : i < (zs.map (·.2)).length := by rw [List.length_map]; omega
        exact e ((List.getElem?_inj hl1 nd).mp (e1.trans e2.symm))
      dsimp only
      rw [if_neg this]
      exact ixv_at nd hj hh i (by omega) (by omega)
theorem ixv_fx {zs : List Z} (nd : (zs.map (·.2)).Nodup) (a b : Int) : ixv zs zs.length [Sum.inl a, Sum.inl b] = (fx (zs.map (·.2)) a b).map fun i => V.int (i : Nat) := by
  cases e : fx (zs.map (·.2)) a b with
  | none =>
    have h := List.findIdx?_eq_none_iff.mp e
    exact ixv_none (fun z hz => h z.2 (List.mem_map_of_mem hz)) _
  | some j =>
    obtain ⟨hl, hp, _⟩ := List.findIdx?_eq_some_iff_getElem.mp e
    have hl' : j < zs.length := by rw [List.length_map] at hl; exact hl
    rw [List.getElem_map] at hp
    exact ixv_at nd (List.getElem?_eq_getElem hl') hp _ hl' (Nat.le_refl _)
section
variable {P : Program} {w : World} {K : PySem.W.Frag} {mg : Str → Option Value} {base : Heap} {f : Addr} {fd : FuncData}
/-! ### Network.__contains__, __len__ -/
abbrev Network_contains_N : List Str := ["self", "route"]
theorem Network_contains_sc : FnScope ["self", "route"] ["self", "route"] (defScope Network_contains_st) := ⟨rfl, rfl, rfl, by decide +kernel, rfl, by decide +kernel, by decide +kernel⟩
def pzV (a b : Int) : HO := .tup [.int a, .int b]
def spHas (C : Addr) : Sp := fun vs H Q _ => ∃ (p t : Addr) (a b : Int) (zs : List Z), vs = [.ref p, .ref t] ∧ NetIx C H p zs ∧ (zs.map (·.2)).Nodup ∧ H t = some (pzV a b) ∧ Q (.bl (fx (zs.map (·.2)) a b).isSome) H
theorem nf_I (m n : Nat) (r di q : Addr) : (nf m n r di q).lookup ("_indices" : Str) = some (V.ref di) := by
  unfold nf
  rw [lookup_putF, if_neg (by decide), lookup_putF, if_pos rfl]
theorem ok_has {C : Addr} {uP uR : Value} (F : FnM K "__contains__" "Network.__contains__" Network_contains_st f fd) (T : NetC K C uP uR) (m_tuple : mg "tuple" = none) : FnOk P w K mg base (L2N.CX P w) 1 f fd ["self", "route"] (spHas C) := by
  refine F.ok Network_contains_sc (fun vs H Q E h => ?_) (fun cdv A outer s H vs Q E hr h => ?_)
  · obtain ⟨p, t, a, b, zs, rfl, _⟩ := h
    rfl
  · obtain ⟨p, t, a, b, zs, rfl, ⟨dx, m, n, r, di, g, kvs, hp, hdi, hk⟩, nd, ht, q⟩ := h
    have hu1 := Nat.lt_of_le_of_lt (Nat.add_le_add_left (by decide : 1 ≤ 65) _) (u65 hr)
    refine ⟨_, (pss_one (ps_ret (pe_cmp (pc_din hu1 (pe_callTy call_tuple_of (by rfl) m_tuple (by decide +kernel) (pa_cons (pv 1) pa_nil)) (pe_fld (pv 0) rfl))))), ?_⟩
    refine ⟨.ref t, rfl, t, _, rfl, .inr ⟨sqt ht, ?_⟩⟩
    refine ⟨.ref p, rfl, p, C, dx, _, .ref di, rfl, hp, T.cl, T.nI, nf_I _ _ _ _ _, di, _, rfl, DGet.t (k := [Sum.inl a, Sum.inl b]) hdi ht, ?_⟩
    rw [hk, ixv_fx nd, Option.isSome_map]
    exact q
abbrev Network_len_N : List Str := ["self"]
theorem Network_len_sc : FnScope ["self"] ["self"] (defScope Network_len_st) := ⟨rfl, rfl, rfl, by decide +kernel, rfl, by decide +kernel, by decide +kernel⟩
theorem ok_nlen {C : Addr} {uP uR : Value} (F : FnM K "__len__" "Network.__len__" Network_len_st f fd) (T : NetC K C uP uR) (m_len : mg "len" = none) : FnOk P w K mg base (L2N.CX P w) 1 f fd ["self"] (spNum C fun _ _ zs _ => .int ((zs.length : Nat) : Int)) := by
  refine F.ok Network_len_sc (fun vs H Q E h => ?_) (fun cdv A outer s H vs Q E hr h => ?_)
  · obtain ⟨p, m, n, zs, ws, rfl, _⟩ := h
    rfl
  · obtain ⟨p, m, n, zs, ws, rfl, N, q⟩ := h
    obtain ⟨dx, r, di, g, hp, hr', hg⟩ := N.ob
    refine ⟨_, (pss_one (ps_ret (pe_callB call_len_seq (by rfl) m_len (by decide +kernel) (pa_cons (pe_fld (pv 0) rfl) pa_nil)))), ?_⟩
    refine ⟨.ref p, rfl, p, C, dx, _, .ref r, rfl, hp, T.cl, T.nR, nf_R _ _ _ _ _, r, _, rfl, .inl (sq hr'), ?_⟩
    rw [List.length_map]
    exact q
end
end K03
set_option Elab.async false
set_option linter.all false
set_option maxRecDepth 100000
set_option maxHeartbeats 4000000
namespace K03
open PySem PySem.Spec PyProof.Rows L2
section
variable {P : Program} {w : World} {K : PySem.W.Frag} {mg : Str → Option Value} {base : Heap} {f : Addr} {fd : FuncData}
/-! ### checked_route, index_of -/
abbrev checked_route_N : List Str := ["network", "route", "depot", "customer"]
theorem checked_route_sc : FnScope ["network", "route", "depot", "customer"] ["network", "route"] (defScope checked_route_st) := ⟨rfl, rfl, rfl, by decide +kernel, rfl, by decide +kernel, by decide +kernel⟩
/-- what asking for a route may raise -/
def RtE (CN CC CR : Addr) (m n : Nat) (ps : List (Nat × Nat)) (a b : Int) (H : Hp) (E : XK) : Prop :=
  (¬ (0 ≤ a ∧ a < (m : Int)) → ∀ d, H d = none → E (.ref CN) (some d) (upd H d (.xd [("depot", .int a)]))) ∧
  ((0 ≤ a ∧ a < (m : Int)) → ¬ (0 ≤ b ∧ b < (n : Int)) → ∀ d, H d = none → E (.ref CC) (some d) (upd H d (.xd [("customer", .int b)]))) ∧
  ((0 ≤ a ∧ a < (m : Int)) → (0 ≤ b ∧ b < (n : Int)) → fx ps a b = none → ∀ (H' : Hp) (d t : Addr), Same H H' → H d = none → H t = none → H' t = some (pzV a b) → H' d = some (.xd [("route", .ref t)]) → E (.ref CR) (some d) H')
def spRoute (C CN CC CR : Addr) : Sp := fun vs H Q E => ∃ (p t : Addr) (a b : Int) (m n : Nat) (zs : List Z) (ws : List P4), vs = [.ref p, .ref t] ∧ NetAt C H p m n zs ws ∧ NetIx C H p zs ∧ (zs.map (·.2)).Nodup ∧ H t = some (pzV a b) ∧ RtE CN CC CR m n (zs.map (·.2)) a b H E ∧
  ∀ i, (0 ≤ a ∧ a < (m : Int)) → (0 ≤ b ∧ b < (n : Int)) → fx (zs.map (·.2)) a b = some i → ∀ (H' : Hp) (t' : Addr), Same H H' → H t' = none → H' t' = some (pzV a b) → Q (.ref t') H'
theorem ok_route {C CN CC CR f1 f2 f3 fI p1 p2 g1 g2 : Addr} {fd1 fd2 fd3 fdI gd1 gd2 : FuncData} {psI : List Str} {uP uR : Value} (F : FnS K "checked_route" checked_route_st f fd) (T : NetC K C uP uR)
    (D_check_depot : Dn P w K mg base 3 "check_depot" ["depot", "depots"] (spDepot CN) f1 fd1) (D_check_customer : Dn P w K mg base 3 "check_customer" ["customer", "customers"] (spCustB CC) f2 fd2)
    (P_depots : PrD P w K mg base 1 C "depots" (spNum C fun m _ _ _ => nV m) p1 g1 gd1) (P_customers : PrD P w K mg base 1 C "customers" (spNum C fun _ n _ _ => nV n) p2 g2 gd2)
    (O_has : OwD P w K mg base 1 C "__contains__" ["self", "route"] (spHas C) f3 fd3) (D_NoRoute : ErT P w K mg base "NoRoute" "route" CR fI fdI psI) : FnOk P w K mg base (L2N.CX P w) 4 f fd ["network", "route"] (spRoute C CN CC CR) := by
  refine F.ok checked_route_sc (fun vs H Q E h => ?_) (fun cdv A outer s H vs Q E hr h => ?_)
  · obtain ⟨p, t, a, b, m, n, zs, ws, rfl, _⟩ := h
    rfl
  · obtain ⟨p, t, a, b, m, n, zs, ws, rfl, N, ix, nd, ht, ⟨e1, e2, e3⟩, q⟩ := h
    obtain ⟨dx, r, di, g, hp, hr', hg⟩ := N.ob
    refine ⟨_, (pss_cons (ps_asg (pv 1) (pg_tup rfl (pgs_cons (pg_name (i := 2) checked_route_sc.nd rfl (Or.inl rfl)) (pgs_cons (pg_name (i := 3) checked_route_sc.nd rfl (Or.inl rfl)) pgs_nil))))
      (pss_cons (ps_expr (pe_callS D_check_depot.ok (hr.mono (by decide)) rfl D_check_depot.g D_check_depot.kp D_check_depot.b (fun σ => L2N.passAt (L2N.takes_of rfl rfl rfl rfl) σ) (pa_cons (pv 2) (pa_cons (pe_prop (pv 0) T.cl P_depots.po P_depots.ok (hr.mono (by decide)) P_depots.b .nil ErrX.passN rfl) pa_nil))))
      (pss_cons (ps_expr (pe_callS D_check_customer.ok (hr.mono (by decide)) rfl D_check_customer.g D_check_customer.kp D_check_customer.b (fun σ => L2N.passAt (L2N.takes_of rfl rfl rfl rfl) σ) (pa_cons (pv 3) (pa_cons (pe_prop (pv 0) T.cl P_customers.po P_customers.ok (hr.mono (by decide)) P_customers.b .nil ErrX.passN rfl) pa_nil))))
      (pss_cons (ps_if (pt_cmpR (OwnM.op_notInO O_has.ok (hr.mono (by decide)) O_has.b ErrX.passN O_has.s O_has.fn) (pe_tup (pa_cons (pv 2) (pa_cons (pv 3) pa_nil))) (pv 0) rfl) (pss_one (L2N.ps_raise rfl (L2N.takes_of rfl rfl rfl rfl) (ErrX.pmk_err1T D_NoRoute.T D_NoRoute.iC D_NoRoute.tI D_NoRoute.F (hr.mono (by decide)) D_NoRoute.b ErrX.passN rfl D_NoRoute.g (pa_cons (pe_tup (pa_cons (pv 2) (pa_cons (pv 3) pa_nil))) pa_nil)))) pss_nil)
      (pss_one (ps_ret (pe_tup (pa_cons (pv 2) (pa_cons (pv 3) pa_nil))))))))), ?_⟩
    refine ⟨.ref t, rfl, t, _, rfl, sqt ht, rfl, .int a, [.int b], rfl, .int b, [], rfl, rfl, ?_⟩
    refine ⟨.int a, rfl, .ref p, rfl, p, dx, _, rfl, hp, p, m, n, zs, ws, rfl, N, a, m, rfl, fun ha => ?_, fun ha => e1 ha⟩
    refine ⟨.int b, rfl, .ref p, rfl, p, dx, _, rfl, hp, p, m, n, zs, ws, rfl, N, b, n, rfl, fun hb => ?_, fun hb => e2 ha hb⟩
    refine ⟨.int a, rfl, .int b, rfl, len2, fun t1 n1 => ⟨.ref p, rfl, ?_⟩⟩
    have s1 := Same.new (o := .tup [.int a, .int b]) n1
    refine ⟨p, dx, _, rfl, s1 _ _ hp, p, t1, a, b, zs, rfl, ix.keep s1, nd, upd_same, _, rfl, _, rfl, ?_⟩
    cases e : fx (zs.map (·.2)) a b with
    | none =>
      refine iteT ⟨.int a, rfl, .int b, rfl, len2, fun t2 n2 => ⟨t2, _, rfl, upd_same, fun d nd' => ?_⟩⟩
      have s2 := Same.new (o := .tup [.int a, .int b]) n2
      have s3 := Same.new (o := .xd [("route", .ref t2)]) nd'
      have hn2 := s1.back n2
      exact e3 ha hb e _ d t2 (s1.trans (s2.trans s3)) (s1.back (s2.back nd')) hn2 (s3 _ _ upd_same) upd_same
    | some i =>
      refine iteF ⟨.int a, rfl, .int b, rfl, len2, fun t2 n2 => ?_⟩
      exact q i ha hb e _ t2 (s1.trans (Same.new n2)) (s1.back n2) upd_same
abbrev Network_index_of_N : List Str := ["self", "route"]
theorem Network_index_of_sc : FnScope ["self", "route"] ["self", "route"] (defScope Network_index_of_st) := ⟨rfl, rfl, rfl, by decide +kernel, rfl, by decide +kernel, by decide +kernel⟩
def spIndex (C CN CC CR : Addr) : Sp := fun vs H Q E => ∃ (p t : Addr) (a b : Int) (m n : Nat) (zs : List Z) (ws : List P4), vs = [.ref p, .ref t] ∧ NetAt C H p m n zs ws ∧ NetIx C H p zs ∧ (zs.map (·.2)).Nodup ∧ H t = some (pzV a b) ∧ RtE CN CC CR m n (zs.map (·.2)) a b H E ∧
  ∀ i, (0 ≤ a ∧ a < (m : Int)) → (0 ≤ b ∧ b < (n : Int)) → fx (zs.map (·.2)) a b = some i → ∀ (H' : Hp), Same H H' → Q (.int (i : Nat)) H'
theorem ok_index {C CN CC CR f1 : Addr} {fd1 : FuncData} {uP uR : Value} (F : FnM K "index_of" "Network.index_of" Network_index_of_st f fd) (T : NetC K C uP uR) (D_checked_route : Dn P w K mg base 4 "checked_route" ["network", "route"] (spRoute C CN CC CR) f1 fd1) :
    FnOk P w K mg base (L2N.CX P w) 5 f fd ["self", "route"] (spIndex C CN CC CR) := by
  refine F.ok Network_index_of_sc (fun vs H Q E h => ?_) (fun cdv A outer s H vs Q E hr h => ?_)
  · obtain ⟨p, t, a, b, m, n, zs, ws, rfl, _⟩ := h
    rfl
  · obtain ⟨p, t, a, b, m, n, zs, ws, rfl, N, ix, nd, ht, re, q⟩ := h
    obtain ⟨dx, r, di, g, hp, hr', hg⟩ := N.ob
    have hu1 := Nat.lt_of_le_of_lt (Nat.add_le_add_left (by decide : 1 ≤ 65) _) (u65 hr)
    refine ⟨_, (pss_one (ps_ret (pe_dget hu1 (pe_fld (pv 0) rfl) (pe_callS D_checked_route.ok (hr.mono (by decide)) rfl D_checked_route.g D_checked_route.kp D_checked_route.b (fun σ => L2N.passAt (L2N.takes_of rfl rfl rfl rfl) σ) (pa_cons (pv 0) (pa_cons (pv 1) pa_nil))) (fun _ _ => rfl)))), ?_⟩
    obtain ⟨dx', m', n', r2, di', g', kvs, hp', hdi, hk⟩ := id ix
    refine ⟨.ref p, rfl, p, C, dx', _, .ref di', rfl, hp', T.cl, T.nI, nf_I _ _ _ _ _, .ref p, rfl, .ref t, rfl, p, t, a, b, m, n, zs, ws, rfl, N, ix, nd, ht, re, fun i ha hb e H' t' s1 nt' ht' => ?_⟩
    refine ⟨di', .int (i : Nat), rfl, ?_, q i ha hb e H' s1⟩
    have := DGet.t (k := [Sum.inl a, Sum.inl b]) (s1 _ _ hdi) ht'
    rw [hk, ixv_fx nd, e] at this
    exact this
end
end K03
set_option Elab.async false
set_option linter.all false
set_option maxRecDepth 100000
set_option maxHeartbeats 4000000
namespace K03
open PySem PySem.Spec PyProof.Rows L2 TL
theorem qD_eqs : ∀ ps qs : List (Nat × Nat), PyData.eqvAll (ps.map qD) (qs.map qD) = decide (ps = qs)
  | [], [] => by simp [PyData.eqvAll]
  | [], q :: qs => by simp [PyData.eqvAll]
  | p :: ps, [] => by simp [PyData.eqvAll]
  | p :: ps, q :: qs => by
    have e : PyData.eqvAll ((p :: ps).map qD) ((q :: qs).map qD) = (PyData.eqv (qD p) (qD q) && PyData.eqvAll (ps.map qD) (qs.map qD)) := by simp only [List.map_cons, PyData.eqvAll]
    rw [e, qD_eqs ps qs]
    by_cases h : p = q
    · subst h
      have : PyData.eqv (qD p) (qD p) = true := by simp [qD, PyData.eqv, PyData.eqvAll]
      rw [this, Bool.true_and]
      by_cases h' : ps = qs
      · subst h'
        rw [decide_eq_true rfl, decide_eq_true rfl]
      · rw [decide_eq_false h', decide_eq_false fun z => h' (List.cons.inj z).2]
    · rw [qD_ne h, Bool.false_and, decide_eq_false fun z => h (List.cons.inj z).1]
/-- an object of the class is one of the class -/
structure IsN (K : PySem.W.Frag) (C : Addr) : Prop where
  ha : PySem.W.findIn K (.ref C) "__class__" = some (some (.builtin "object.__class__"))
  hn : PySem.W.specialIn K (.builtin "object.__class__") "__get__" = some (some (.builtin "getset_descriptor.__get__"))
  ht : PySem.W.takesIn K (.builtin "object.__class__") = some true
  hm : PySem.W.mroIn K C (.type "object") = some true
  k : PySem.W.kitOne K (.ref C) (.ref C) = some true
/-! ### texts -/
def sI (i : Nat) : Str := toString (i : Int)
theorem sI_ok : ∀ i : Nat, i ≤ 8 → (sI i).length = 1 ∧ (i : Int).natAbs.log2 < 1920 := by
  have h : ∀ i : Fin 9, (sI i.val).length = 1 ∧ ((i.val : Nat) : Int).natAbs.log2 < 1920 := by decide +kernel
  intro i hi
  exact h ⟨i, by omega⟩
def hdT (m n : Nat) : Str := ((sI m ++ (" x " : Str)) ++ sI n) ++ (":" : Str)
def rtT (p : Nat × Nat) : Str := (((Str.empty ++ (" " : Str)) ++ sI p.1) ++ ("-" : Str)) ++ sI p.2
def wrT (m n : Nat) (ps : List (Nat × Nat)) : Str := ps.foldl (fun o p => (((o ++ (" " : Str)) ++ sI p.1) ++ ("-" : Str)) ++ sI p.2) (hdT m n)
theorem len_app (a b : Str) : (a ++ b).length = a.length + b.length := by
  show (a ++ b).cps.size = _
  show (a.cps ++ b.cps).size = _
  rw [Array.size_append]
  rfl
theorem empty_app (a : Str) : Str.empty ++ a = a := by
  have : (Str.empty ++ a).cps = a.cps := by
    show Str.empty.cps ++ a.cps = _
    exact Array.empty_append
  exact Str.ext' this
theorem joinL_flat : ∀ ps : List (List Nat), joinL [] ps = ps.flatten
  | [] => rfl
  | [p] => by simp [joinL]
  | p :: q :: r => by
    show p ++ ([] ++ joinL [] (q :: r)) = _
    rw [joinL_flat (q :: r)]
    rfl
theorem tl_inj {a b : Str} (h : tl a = tl b) : a = b := by
  have := map_tl_inj (l := [a]) (m := [b]) (by simp [h])
  exact (List.cons.inj this).1
theorem tl_fold : ∀ (ps : List (Nat × Nat)) (o : Str), tl (ps.foldl (fun o p => (((o ++ (" " : Str)) ++ sI p.1) ++ ("-" : Str)) ++ sI p.2) o) = tl o ++ (ps.map fun p => tl (rtT p)).flatten
  | [], o => by simp
  | p :: ps, o => by
    rw [List.foldl_cons, tl_fold ps]
    simp only [tl_append, rtT, List.map_cons, List.flatten_cons, List.append_assoc]
    rw [show tl Str.empty = [] from rfl, List.nil_append]
theorem wrT_join (m n : Nat) (ps : List (Nat × Nat)) : hdT m n ++ Txt.join ("" : Str) (ps.map rtT) = wrT m n ps := by
  apply tl_inj
  unfold wrT
  rw [tl_append, join_eq, tl_join, tl_fold, show tl ("" : Str) = [] from rfl, joinL_flat, List.map_map]
  rfl
theorem rtT_len {p : Nat × Nat} (h1 : p.1 ≤ 8) (h2 : p.2 ≤ 8) : (rtT p).length = 4 := by
  unfold rtT
  rw [len_app, len_app, len_app, len_app, (sI_ok _ h1).1, (sI_ok _ h2).1]
  rfl
theorem hdT_len {m n : Nat} (h1 : m ≤ 8) (h2 : n ≤ 8) : (hdT m n).length = 6 := by
  unfold hdT
  rw [len_app, len_app, len_app, (sI_ok _ h1).1, (sI_ok _ h2).1]
  rfl
theorem rts_sum : ∀ {ps : List (Nat × Nat)}, (∀ p ∈ ps, p.1 ≤ 8 ∧ p.2 ≤ 8) → ((ps.map rtT).map (·.length)).sum = 4 * ps.length
  | [], _ => rfl
  | p :: ps, h => by
    have hp := h p List.mem_cons_self
    rw [List.map_cons, List.map_cons, List.sum_cons, rtT_len hp.1 hp.2, rts_sum fun q hq => h q (List.mem_cons_of_mem _ hq), List.length_cons]
    omega
theorem wrT_len {m n : Nat} (hm : m ≤ 8) (hn : n ≤ 8) : ∀ {ps : List (Nat × Nat)}, (∀ p ∈ ps, p.1 ≤ 8 ∧ p.2 ≤ 8) → (wrT m n ps).length = 6 + 4 * ps.length := by
  have go : ∀ (ps : List (Nat × Nat)) (o : Str), (∀ p ∈ ps, p.1 ≤ 8 ∧ p.2 ≤ 8) → (ps.foldl (fun o p => (((o ++ (" " : Str)) ++ sI p.1) ++ ("-" : Str)) ++ sI p.2) o).length = o.length + 4 * ps.length := by
    intro ps
    induction ps with
    | nil => intro o _; rfl
    | cons p ps ih =>
      intro o h
      have hp := h p List.mem_cons_self
      rw [List.foldl_cons, ih _ fun q hq => h q (List.mem_cons_of_mem _ hq), len_app, len_app, len_app, len_app, (sI_ok _ hp.1).1, (sI_ok _ hp.2).1, List.length_cons]
      show o.length + 1 + 1 + 1 + 1 + _ = _
      omega
  intro ps h
  unfold wrT
  rw [go ps _ h, hdT_len hm hn]
/-- an f-string, its rule by a name -/
def tJd (ts : List TE) : TE := fun σ H Q => tJs ts Str.empty σ H fun out H1 => Q (.str out) H1
theorem pe_jd {X : Cx} {v1 v2 : Expr} {rest : List Expr} {ts : List TE} {pos : Pos} (h : PJ X (v1 :: v2 :: rest) ts) : PE X (.JoinedStr (v1 :: v2 :: rest) pos) (tJd ts) := pe_joined h
section
variable {P : Program} {w : World} {K : PySem.W.Frag} {mg : Str → Option Value} {base : Heap} {f : Addr} {fd : FuncData}
/-! ### Network.__eq__ -/
abbrev Network_eq_N : List Str := ["self", "other"]
theorem Network_eq_sc : FnScope ["self", "other"] ["self", "other"] (defScope Network_eq_st) := ⟨rfl, rfl, rfl, by decide +kernel, rfl, by decide +kernel, by decide +kernel⟩
def spNEq (C : Addr) : Sp := fun vs H Q _ => ∃ (p p' : Addr) (m n m' n' : Nat) (zs zs' : List Z) (ws ws' : List P4), vs = [.ref p, .ref p'] ∧ NetAt C H p m n zs ws ∧ NetAt C H p' m' n' zs' ws' ∧ Q (.bl (decide (m = m' ∧ n = n' ∧ zs.map (·.2) = zs'.map (·.2)))) H
theorem ok_neq {C : Addr} {uP uR : Value} (F : FnM K "__eq__" "Network.__eq__" Network_eq_st f fd) (T : NetC K C uP uR) (J : IsN K C) (m_isinstance : mg "isinstance" = none) (g_Network : mg "Network" = some (.ref C)) : FnOk P w K mg base (L2N.CX P w) 1 f fd ["self", "other"] (spNEq C) := by
  refine F.ok Network_eq_sc (fun vs H Q E h => ?_) (fun cdv A outer s H vs Q E hr h => ?_)
  · obtain ⟨p, p', m, n, m', n', zs, zs', ws, ws', rfl, _⟩ := h
    rfl
  · obtain ⟨p, p', m, n, m', n', zs, zs', ws, ws', rfl, N, N', q⟩ := h
    obtain ⟨dx, r, di, g, hp, hr', hg⟩ := N.ob
    obtain ⟨dx2, r2, di2, g2, hp2, hr2, hg2⟩ := N'.ob
    refine ⟨_, (pss_one (ps_ret (pe_and (pe_callB call_isi (by rfl) m_isinstance (by decide +kernel) (pa_cons (pv 1) (pa_cons (pe_glob (v := .ref C) rfl g_Network rfl) pa_nil))) (pe_and (pe_cmpR op_eq (pe_fld (pv 0) rfl) (pe_fld (pv 1) rfl) (nomark _)) (pe_and (pe_cmpR op_eq (pe_fld (pv 0) rfl) (pe_fld (pv 1) rfl) (nomark _)) (pe_one (pe_cmpR (op_eqD hr.units) (pe_fld (pv 0) rfl) (pe_fld (pv 1) rfl) (nomark _)))))))), ?_⟩
    refine ⟨.ref p', rfl, .ref p', .ref C, .ref C, .ref C, true, rfl, .own _, .base (.ins hp2 T.cl J.ha J.hn J.ht J.hm), J.k, _, rfl, iteT ?_⟩
    refine ⟨.ref p, rfl, p, C, dx, _, nV m, rfl, hp, T.cl, T.nD, nf_D _ _ _ _ _, .ref p', rfl, p', C, dx2, _, nV m', rfl, hp2, T.cl, T.nD, nf_D _ _ _ _ _, rfl, _, rfl, ite2 (fun e1 => ?_) (fun e1 => ?_)⟩
    · have e1 : m = m' := by have := V.int.inj (of_decide_eq_true e1); omega
      refine ⟨.ref p, rfl, p, C, dx, _, nV n, rfl, hp, T.cl, T.nC, nf_C _ _ _ _ _, .ref p', rfl, p', C, dx2, _, nV n', rfl, hp2, T.cl, T.nC, nf_C _ _ _ _ _, rfl, _, rfl, ite2 (fun e2 => ?_) (fun e2 => ?_)⟩
      · have e2 : n = n' := by have := V.int.inj (of_decide_eq_true e2); omega
        refine ⟨.ref p, rfl, p, C, dx, _, .ref r, rfl, hp, T.cl, T.nR, nf_R _ _ _ _ _, .ref p', rfl, p', C, dx2, _, .ref r2, rfl, hp2, T.cl, T.nR, nf_R _ _ _ _ _, _, _, dp_pairs hr' N.pr, dp_pairs hr2 N'.pr, qDs_shaped _, qDs_shaped _, ?_⟩
        have e : PyData.eqv (.list ((zs.map (·.2)).map qD)) (.list ((zs'.map (·.2)).map qD)) = decide (m = m' ∧ n = n' ∧ zs.map (·.2) = zs'.map (·.2)) := by
          rw [show PyData.eqv (.list ((zs.map (·.2)).map qD)) (.list ((zs'.map (·.2)).map qD)) = PyData.eqvAll ((zs.map (·.2)).map qD) ((zs'.map (·.2)).map qD) by simp only [PyData.eqv], qD_eqs]
          by_cases h : zs.map (·.2) = zs'.map (·.2)
          · rw [decide_eq_true h, decide_eq_true ⟨e1, e2, h⟩]
          · rw [decide_eq_false h, decide_eq_false fun z => h z.2.2]
        rw [e]
        exact q
      · have e2 : ¬ n = n' := fun z => e2 (decide_eq_true (by rw [z]))
        rw [decide_eq_false fun z => e2 z.2.1] at q
        exact q
    · have e1 : ¬ m = m' := fun z => e1 (decide_eq_true (by rw [z]))
      rw [decide_eq_false fun z => e1 z.1] at q
      exact q
/-! ### Network.__str__ -/
abbrev Network_str_N : List Str := ["self", "routes", "depot", "customer"]
theorem Network_str_sc : FnScope ["self", "routes", "depot", "customer"] ["self"] (defScope Network_str_st) := ⟨rfl, rfl, rfl, by decide +kernel, rfl, by decide +kernel, by decide +kernel⟩
def spStr (C : Addr) : Sp := fun vs H Q _ => ∃ (p : Addr) (m n : Nat) (zs : List Z) (ws : List P4), vs = [.ref p] ∧ NetAt C H p m n zs ws ∧ ∀ H', Same H H' → Q (.str (wrT m n (zs.map (·.2)))) H'
theorem ok_nstr {C : Addr} {uP uR : Value} (F : FnM K "__str__" "Network.__str__" Network_str_st f fd) (T : NetC K C uP uR) : FnOk P w K mg base (L2N.CX P w) 1 f fd ["self"] (spStr C) := by
  refine F.ok Network_str_sc (fun vs H Q E h => ?_) (fun cdv A outer s H vs Q E hr h => ?_)
  · obtain ⟨p, m, n, zs, ws, rfl, _⟩ := h
    rfl
  · obtain ⟨p, m, n, zs, ws, rfl, N, q⟩ := h
    obtain ⟨dx, r, di, g, hp, hr', hg⟩ := N.ob
    refine ⟨_, (pss_cons (ps_set (i := 1) Network_str_sc.nd rfl (Or.inl rfl) (pe_join pe_str (pe_lc (own := [("depot", 2), ("customer", 3)]) rfl Network_str_sc.nd (pi_list (pe_fld (pv 0) rfl)) (blkOk_by (own := [("depot", 2), ("customer", 3)]) (N := Network_str_N) (sc := defScope Network_str_st) (by decide +kernel)) (fun _ _ _ _ _ => (pg_tup rfl (pgs_cons (pg_name (i := 2) Network_str_sc.nd rfl (Or.inl rfl)) (pgs_cons (pg_name (i := 3) Network_str_sc.nd rfl (Or.inl rfl)) pgs_nil)) : PG _ _ (gTup K 2 _))) (fun _ _ _ _ _ => pts_nil) (fun _ _ _ _ _ => (pe_jd (.cons pe_str (.cons (pe_fmt (pv 2)) (.cons pe_str (.cons (pe_fmt (pv 3)) .nil)))))))))
      (pss_one (ps_ret (pe_jd (.cons (pe_fmt (pe_fld (pv 0) rfl)) (.cons pe_str (.cons (pe_fmt (pe_fld (pv 0) rfl)) (.cons pe_str (.cons (pe_fmt (pv 1)) .nil))))))))), ?_⟩
    refine ⟨⟨_, rfl⟩, .ref p, rfl, p, C, dx, _, .ref r, rfl, hp, T.cl, T.nR, nf_R _ _ _ _ _, r, rfl, ⟨_, sq hr'⟩, fun D nD => ?_⟩
    refine lc_list (K := K) (a := r) (xs := zs.map zV) (fun i H' => Same H H' ∧ H' D = some (.lst ((((zs.map (·.2)).take i).map rtT).map V.str))) ⟨Same.new nD, upd_same⟩ (fun i H' _ h => sq (h.1 _ _ hr')) (fun i y H' hy h => ?_) (fun H1 h => ?_)
    · obtain ⟨sm, hD⟩ := h
      obtain ⟨z, ez, mz, rfl⟩ := item_zV hy
      have hz := sm _ _ (N.pr z mz)
      have hi : i < 16 := Nat.lt_of_lt_of_le (List.getElem?_eq_some_iff.mp ez).1 N.few
      have i1 := N.inr z mz
      have m8 := N.m8
      have n8 := N.n8
      have k1 := sI_ok z.2.1 (by omega)
      have k2 := sI_ok z.2.2 (by omega)
      refine ⟨z.1, [nV z.2.1, nV z.2.2], rfl, sqt hz, rfl, nV z.2.1, [nV z.2.2], rfl, nV z.2.2, [], rfl, rfl, rfl, ?_⟩
      have q1 : (Str.empty ++ (" " : Str)).length = 1 := by decide +kernel
      have q2 : ((Str.empty ++ (" " : Str)) ++ sI z.2.1).length = 2 := by rw [len_app, q1, k1.1]
      have q3 : (((Str.empty ++ (" " : Str)) ++ sI z.2.1) ++ ("-" : Str)).length = 3 := by rw [len_app, q2]; rfl
      have q4 : ((((Str.empty ++ (" " : Str)) ++ sI z.2.1) ++ ("-" : Str)) ++ sI z.2.2).length = 4 := by rw [len_app, q3, k2.1]
      have small : ∀ {x k : Nat}, x = k → k ≤ 8 → x ≤ sizeLine := fun h hk => by
        have := small1000 (show 8 ≤ 1000 by decide)
        omega
      refine ⟨(" " : Str), rfl, small q1 (by decide), nV z.2.1, rfl, .inr ⟨(z.2.1 : Int), rfl, k1.2, sI z.2.1, rfl, small q2 (by decide), ("-" : Str), rfl, small q3 (by decide), nV z.2.2, rfl, .inr ⟨(z.2.2 : Int), rfl, k2.2, sI z.2.2, rfl, small q4 (by decide), ?_⟩⟩⟩
      refine ⟨_, hD, small1000 (by rw [List.length_map, List.length_map, List.length_take]; omega), sm.mut nD, ?_⟩
      rw [upd_same, List.take_add_one, zs_at ez, List.map_append, List.map_append]
      rfl
    · obtain ⟨sm, hD⟩ := h
      rw [List.take_of_length_le (by rw [List.length_map, List.length_map]; exact Nat.le_refl _)] at hD
      have hp1 := sm _ _ hp
      have m8 := N.m8
      have n8 := N.n8
      have k1 := sI_ok m m8
      have k2 := sI_ok n n8
      have few := N.few
      have in8 : ∀ c ∈ zs.map (·.2), c.1 ≤ 8 ∧ c.2 ≤ 8 := fun c hc => by
        obtain ⟨z, hz, rfl⟩ := List.mem_map.mp hc
        have := N.inr z hz
        omega
      have sum := rts_sum in8
      rw [List.length_map] at sum
      have big := small1000 (show 100 ≤ 1000 by decide)
      refine ⟨("" : Str), D, (zs.map (·.2)).map rtT, rfl, rfl, .inl (sq hD), ?_, ?_⟩
      · rw [sum]
        show 4 * zs.length + _ * 0 ≤ _
        omega
      have e1 : (Str.empty ++ sI m) = sI m := empty_app _
      have l1 : (sI m ++ (" x " : Str)).length = 4 := by rw [len_app, k1.1]; rfl
      have l2 : ((sI m ++ (" x " : Str)) ++ sI n).length = 5 := by rw [len_app, l1, k2.1]
      have l3 : (((sI m ++ (" x " : Str)) ++ sI n) ++ (":" : Str)).length = 6 := by rw [len_app, l2]; rfl
      have l4 := wrT_len m8 n8 in8
      rw [List.length_map] at l4
      have l5 : (Txt.join ("" : Str) ((zs.map (·.2)).map rtT)).length ≤ sizeLine := by
        have := congrArg Str.length (wrT_join m n (zs.map (·.2)))
        rw [len_app] at this
        omega
      refine ⟨.ref p, rfl, p, C, dx, _, nV m, rfl, hp1, T.cl, T.nD, nf_D _ _ _ _ _, .inr ⟨(m : Int), rfl, k1.2, sI m, rfl, ?_, (" x " : Str), rfl, ?_, .ref p, rfl, p, C, dx, _, nV n, rfl, hp1, T.cl, T.nC, nf_C _ _ _ _ _, .inr ⟨(n : Int), rfl, k2.2, sI n, rfl, ?_, (":" : Str), rfl, ?_, .str (Txt.join ("" : Str) ((zs.map (·.2)).map rtT)), rfl, .inl ⟨_, rfl, l5, _, rfl, ?_, ?_⟩⟩⟩⟩
      · rw [e1, k1.1]; omega
      · rw [e1, l1]; omega
      · rw [e1, l2]; omega
      · rw [e1, l3]; omega
      · rw [e1]
        show (hdT m n ++ _).length ≤ _
        rw [wrT_join, l4]
        omega
      · show Q (.str ((((Str.empty ++ sI m) ++ (" x " : Str)) ++ sI n) ++ (":" : Str) ++ Txt.join ("" : Str) ((zs.map (·.2)).map rtT))) H1
        rw [e1]
        show Q (.str (hdT m n ++ _)) H1
        rw [wrT_join]
        exact q _ sm
end
end K03
set_option Elab.async false
set_option linter.all false
set_option maxRecDepth 100000
set_option maxHeartbeats 4000000
namespace K03
open PySem PySem.Spec PyProof.Rows L2
/-- the errors that the law meets -/
inductive Er4 where
  | N | C | T | R
def nmE : Er4 → Str
  | .N => "NoDepot" | .C => "NoCustomer" | .T => "NoRoute" | .R => "Repeated"
def fldE : Er4 → Str
  | .N => "depot" | .C => "customer" | .T => "route" | .R => "entry"
structure ClsF (K : PySem.W.Frag) (mg : Str → Option Value) (D : Addr) (nD : Str) (ga : Str → Addr) : Prop where
  exc : L2.ExcC K D
  g : ∀ x ∈ clsN, mg x = some (.ref (ga x))
  k : ∀ x ∈ clsN, PySem.W.kitOne K (.ref D) (.ref (ga x)) = some (decide (x = nD))
  ve : PySem.W.kitOne K (.ref D) (.type "ValueError") = some true
  cnt : (clsN.map fun x => decide (x = nD)).count true = 1
def Tn (nD : Str) (n : Nat) : List V := (clsN.take n).map fun x => V.bl (decide (x = nD))
theorem Tn_len (nD : Str) (n : Nat) : (Tn nD n).length ≤ n := by
  unfold Tn
  rw [List.length_map, List.length_take]
  exact Nat.min_le_left _ _
theorem row2 {K : PySem.W.Frag} {C a dd r c1 c2 : Addr} {b1 b2 : Bool} {fs : List (Str × V)} {nD : Str} {n : Nat} {rest : TS} {D : Ends} {H : Hp} (hr : H r = some (.lst (Tn nD n))) (hd : H dd = some (.xd fs)) (k1 : PySem.W.kitOne K (.ref C) (.ref c1) = some b1) (k2 : PySem.W.kitOne K (.ref C) (.ref c2) = some b2) (hl : n ≤ 900)
    (et : Tn nD n ++ [.bl b1, .bl b2] = Tn nD (n + 2)) (k : ∀ (r' : Addr) (H' : Hp), Same H H' → H' r' = some (.lst (Tn nD (n + 2))) → rest D [some (.ref a), some (.ref r')] H') :
    tSeq (tAsg (tOp rCat (tVar 1) (tLst (tCons (tCB (ErrX.rIsD K C a dd) (tCons (tVar 0) (tCons (tC (.ref c1)) tNil))) (tCons (tCB (ErrX.rIsD K C a dd) (tCons (tVar 0) (tCons (tC (.ref c2)) tNil))) tNil)))) (gName 1)) rest D [some (.ref a), some (.ref r)] H := by
  refine ⟨.ref r, rfl, .ref a, rfl, .ref c1, .ref c1, b1, fs, rfl, .own _, hd, k1, .ref a, rfl, .ref c2, .ref c2, b2, fs, rfl, .own _, hd, k2, len2, fun l nl => ?_⟩
  have s1 := Same.new (o := .lst [.bl b1, .bl b2]) nl
  refine ⟨r, l, Tn nD n, _, rfl, rfl, s1 _ _ hr, upd_same, Nat.le_of_lt (small1000 (by have := Tn_len nD n; show (Tn nD n).length + 2 ≤ 1000; omega)), fun r' nr' => ?_⟩
  exact k r' _ (s1.trans (Same.new nr')) (upd_same.trans (by rw [et]))
theorem row1 {K : PySem.W.Frag} {C a dd r c1 : Addr} {b1 : Bool} {fs : List (Str × V)} {nD : Str} {n : Nat} {rest : TS} {D : Ends} {H : Hp} (hr : H r = some (.lst (Tn nD n))) (hd : H dd = some (.xd fs)) (k1 : PySem.W.kitOne K (.ref C) (.ref c1) = some b1) (hl : n ≤ 900)
    (et : Tn nD n ++ [.bl b1] = Tn nD (n + 1)) (k : ∀ (r' : Addr) (H' : Hp), Same H H' → H' r' = some (.lst (Tn nD (n + 1))) → rest D [some (.ref a), some (.ref r')] H') :
    tSeq (tAsg (tOp rCat (tVar 1) (tLst (tCons (tCB (ErrX.rIsD K C a dd) (tCons (tVar 0) (tCons (tC (.ref c1)) tNil))) tNil))) (gName 1)) rest D [some (.ref a), some (.ref r)] H := by
  refine ⟨.ref r, rfl, .ref a, rfl, .ref c1, .ref c1, b1, fs, rfl, .own _, hd, k1, len1, fun l nl => ?_⟩
  have s1 := Same.new (o := .lst [.bl b1]) nl
  refine ⟨r, l, Tn nD n, _, rfl, rfl, s1 _ _ hr, upd_same, Nat.le_of_lt (small1000 (by have := Tn_len nD n; show (Tn nD n).length + 1 ≤ 1000; omega)), fun r' nr' => ?_⟩
  exact k r' _ (s1.trans (Same.new nr')) (upd_same.trans (by rw [et]))
section
variable {P : Program} {w : World} {K : PySem.W.Frag} {mg : Str → Option Value} {base : Heap} {f : Addr} {fd : FuncData}
/-! ### _law_classes -/
abbrev law_classes_N : List Str := ["e", "rows"]
theorem law_classes_sc : FnScope ["e", "rows"] ["e"] (defScope law_classes_st) := ⟨rfl, rfl, rfl, by decide +kernel, rfl, by decide +kernel, by decide +kernel⟩
def spClasses (ca : Er4 → Addr) : ErrX.SpE := fun a c d vs H Q _ => ∃ (b : Er4) (dd : Addr) (fs : List (Str × V)), vs = [.ref a] ∧ c = .ref (ca b) ∧ d = some dd ∧ H dd = some (.xd fs) ∧ ∀ H', Same H H' → Q (.int 1) H'
theorem ok_classes {ca : Er4 → Addr} {ga : Str → Addr} (F : FnS K "_law_classes" law_classes_st f fd) (m_isinstance : mg "isinstance" = none) (Fc : ∀ b : Er4, ClsF K mg (ca b) (nmE b) ga) : ErrX.FnE P w K mg base (L2N.CX P w) 1 f fd ["e"] (spClasses ca) := by
  refine ErrX.fn_ofE F law_classes_sc (fun a c d vs H Q E h => ?_) (fun cdv A outer s H vs Q E p c d hz hr h => ?_)
  · obtain ⟨b, dd, fs, rfl, _⟩ := h
    rfl
  · obtain ⟨b, dd, fs, rfl, rfl, rfl, hd, q⟩ := h
    have Fb := Fc b
    have hC := Fb.exc
    have hot : ErrX.HotE (L2H.cxH (L2N.CX P w) P w K mg base law_classes_N "_law_classes" (defScope law_classes_st) f cdv A outer s H E p) p.1 (.ref (ca b)) (some dd) := ⟨p, rfl, ⟨hz.1, hz.2⟩, List.mem_cons_self⟩
    obtain ⟨nD, hn⟩ : ∃ nD, nD = nmE b := ⟨_, rfl⟩
    have g_BadColumn := Fb.g "BadColumn" (by decide +kernel)
    have k_BadColumn := Fb.k "BadColumn" (by decide +kernel)
    have g_BadCount := Fb.g "BadCount" (by decide +kernel)
    have k_BadCount := Fb.k "BadCount" (by decide +kernel)
    have g_BadDeed := Fb.g "BadDeed" (by decide +kernel)
    have k_BadDeed := Fb.k "BadDeed" (by decide +kernel)
    have g_BadLength := Fb.g "BadLength" (by decide +kernel)
    have k_BadLength := Fb.k "BadLength" (by decide +kernel)
    have g_BadLine := Fb.g "BadLine" (by decide +kernel)
    have k_BadLine := Fb.k "BadLine" (by decide +kernel)
    have g_BadSize := Fb.g "BadSize" (by decide +kernel)
    have k_BadSize := Fb.k "BadSize" (by decide +kernel)
    have g_Below := Fb.g "Below" (by decide +kernel)
    have k_Below := Fb.k "Below" (by decide +kernel)
    have g_Closes := Fb.g "Closes" (by decide +kernel)
    have k_Closes := Fb.k "Closes" (by decide +kernel)
    have g_DeedRefused := Fb.g "DeedRefused" (by decide +kernel)
    have k_DeedRefused := Fb.k "DeedRefused" (by decide +kernel)
    have g_NoCustomer := Fb.g "NoCustomer" (by decide +kernel)
    have k_NoCustomer := Fb.k "NoCustomer" (by decide +kernel)
    have g_NoCycle := Fb.g "NoCycle" (by decide +kernel)
    have k_NoCycle := Fb.k "NoCycle" (by decide +kernel)
    have g_NoDemand := Fb.g "NoDemand" (by decide +kernel)
    have k_NoDemand := Fb.k "NoDemand" (by decide +kernel)
    have g_NoDepot := Fb.g "NoDepot" (by decide +kernel)
    have k_NoDepot := Fb.k "NoDepot" (by decide +kernel)
    have g_NoLink := Fb.g "NoLink" (by decide +kernel)
    have k_NoLink := Fb.k "NoLink" (by decide +kernel)
    have g_NoNumber := Fb.g "NoNumber" (by decide +kernel)
    have k_NoNumber := Fb.k "NoNumber" (by decide +kernel)
    have g_NoPlace := Fb.g "NoPlace" (by decide +kernel)
    have k_NoPlace := Fb.k "NoPlace" (by decide +kernel)
    have g_NoRoute := Fb.g "NoRoute" (by decide +kernel)
    have k_NoRoute := Fb.k "NoRoute" (by decide +kernel)
    have g_NoSupply := Fb.g "NoSupply" (by decide +kernel)
    have k_NoSupply := Fb.k "NoSupply" (by decide +kernel)
    have g_NotAcross := Fb.g "NotAcross" (by decide +kernel)
    have k_NotAcross := Fb.k "NotAcross" (by decide +kernel)
    have g_NotFlexible := Fb.g "NotFlexible" (by decide +kernel)
    have k_NotFlexible := Fb.k "NotFlexible" (by decide +kernel)
    have g_NotInTree := Fb.g "NotInTree" (by decide +kernel)
    have k_NotInTree := Fb.k "NotInTree" (by decide +kernel)
    have g_NotInner := Fb.g "NotInner" (by decide +kernel)
    have k_NotInner := Fb.k "NotInner" (by decide +kernel)
    have g_NotJoined := Fb.g "NotJoined" (by decide +kernel)
    have k_NotJoined := Fb.k "NotJoined" (by decide +kernel)
    have g_NotMore := Fb.g "NotMore" (by decide +kernel)
    have k_NotMore := Fb.k "NotMore" (by decide +kernel)
    have g_NotPriced := Fb.g "NotPriced" (by decide +kernel)
    have k_NotPriced := Fb.k "NotPriced" (by decide +kernel)
    have g_NotSpanning := Fb.g "NotSpanning" (by decide +kernel)
    have k_NotSpanning := Fb.k "NotSpanning" (by decide +kernel)
    have g_NotSpanningSet := Fb.g "NotSpanningSet" (by decide +kernel)
    have k_NotSpanningSet := Fb.k "NotSpanningSet" (by decide +kernel)
    have g_NothingLeft := Fb.g "NothingLeft" (by decide +kernel)
    have k_NothingLeft := Fb.k "NothingLeft" (by decide +kernel)
    have g_OtherNetwork := Fb.g "OtherNetwork" (by decide +kernel)
    have k_OtherNetwork := Fb.k "OtherNetwork" (by decide +kernel)
    have g_OtherTotals := Fb.g "OtherTotals" (by decide +kernel)
    have k_OtherTotals := Fb.k "OtherTotals" (by decide +kernel)
    have g_Overflow := Fb.g "Overflow" (by decide +kernel)
    have k_Overflow := Fb.k "Overflow" (by decide +kernel)
    have g_Repeated := Fb.g "Repeated" (by decide +kernel)
    have k_Repeated := Fb.k "Repeated" (by decide +kernel)
    have g_SameEnds := Fb.g "SameEnds" (by decide +kernel)
    have k_SameEnds := Fb.k "SameEnds" (by decide +kernel)
    have g_Short := Fb.g "Short" (by decide +kernel)
    have k_Short := Fb.k "Short" (by decide +kernel)
    have g_Stranded := Fb.g "Stranded" (by decide +kernel)
    have k_Stranded := Fb.k "Stranded" (by decide +kernel)
    have g_TooMany := Fb.g "TooMany" (by decide +kernel)
    have k_TooMany := Fb.k "TooMany" (by decide +kernel)
    have g_Unbalanced := Fb.g "Unbalanced" (by decide +kernel)
    have k_Unbalanced := Fb.k "Unbalanced" (by decide +kernel)
    have g_Unfair := Fb.g "Unfair" (by decide +kernel)
    have k_Unfair := Fb.k "Unfair" (by decide +kernel)
    have g_Unread := Fb.g "Unread" (by decide +kernel)
    have k_Unread := Fb.k "Unread" (by decide +kernel)
    have cnt := Fb.cnt
    rw [← hn] at k_BadColumn k_BadCount k_BadDeed k_BadLength k_BadLine k_BadSize k_Below k_Closes k_DeedRefused k_NoCustomer k_NoCycle k_NoDemand k_NoDepot k_NoLink k_NoNumber k_NoPlace k_NoRoute k_NoSupply k_NotAcross k_NotFlexible k_NotInTree k_NotInner k_NotJoined k_NotMore k_NotPriced k_NotSpanning k_NotSpanningSet k_NothingLeft k_OtherNetwork k_OtherTotals k_Overflow k_Repeated k_SameEnds k_Short k_Stranded k_TooMany k_Unbalanced k_Unfair k_Unread cnt
    refine ⟨_, (pss_cons (ps_set (i := 1) law_classes_sc.nd rfl (Or.inl rfl) (pe_lst (pa_cons (pe_callB (ErrX.call_isD hC hot) (by rfl) m_isinstance (by decide +kernel) (pa_cons (pv 0) (pa_cons (pe_glob (v := .ref (ga "BadColumn")) rfl g_BadColumn rfl) pa_nil))) (pa_cons (pe_callB (ErrX.call_isD hC hot) (by rfl) m_isinstance (by decide +kernel) (pa_cons (pv 0) (pa_cons (pe_glob (v := .ref (ga "BadCount")) rfl g_BadCount rfl) pa_nil))) pa_nil))))
      (pss_cons (ps_set (i := 1) law_classes_sc.nd rfl (Or.inl rfl) (pe_op op_cat (pv 1) (pe_lst (pa_cons (pe_callB (ErrX.call_isD hC hot) (by rfl) m_isinstance (by decide +kernel) (pa_cons (pv 0) (pa_cons (pe_glob (v := .ref (ga "BadDeed")) rfl g_BadDeed rfl) pa_nil))) (pa_cons (pe_callB (ErrX.call_isD hC hot) (by rfl) m_isinstance (by decide +kernel) (pa_cons (pv 0) (pa_cons (pe_glob (v := .ref (ga "BadLength")) rfl g_BadLength rfl) pa_nil))) pa_nil)))))
      (pss_cons (ps_set (i := 1) law_classes_sc.nd rfl (Or.inl rfl) (pe_op op_cat (pv 1) (pe_lst (pa_cons (pe_callB (ErrX.call_isD hC hot) (by rfl) m_isinstance (by decide +kernel) (pa_cons (pv 0) (pa_cons (pe_glob (v := .ref (ga "BadLine")) rfl g_BadLine rfl) pa_nil))) (pa_cons (pe_callB (ErrX.call_isD hC hot) (by rfl) m_isinstance (by decide +kernel) (pa_cons (pv 0) (pa_cons (pe_glob (v := .ref (ga "BadSize")) rfl g_BadSize rfl) pa_nil))) pa_nil)))))
      (pss_cons (ps_set (i := 1) law_classes_sc.nd rfl (Or.inl rfl) (pe_op op_cat (pv 1) (pe_lst (pa_cons (pe_callB (ErrX.call_isD hC hot) (by rfl) m_isinstance (by decide +kernel) (pa_cons (pv 0) (pa_cons (pe_glob (v := .ref (ga "Below")) rfl g_Below rfl) pa_nil))) (pa_cons (pe_callB (ErrX.call_isD hC hot) (by rfl) m_isinstance (by decide +kernel) (pa_cons (pv 0) (pa_cons (pe_glob (v := .ref (ga "Closes")) rfl g_Closes rfl) pa_nil))) pa_nil)))))
      (pss_cons (ps_set (i := 1) law_classes_sc.nd rfl (Or.inl rfl) (pe_op op_cat (pv 1) (pe_lst (pa_cons (pe_callB (ErrX.call_isD hC hot) (by rfl) m_isinstance (by decide +kernel) (pa_cons (pv 0) (pa_cons (pe_glob (v := .ref (ga "DeedRefused")) rfl g_DeedRefused rfl) pa_nil))) (pa_cons (pe_callB (ErrX.call_isD hC hot) (by rfl) m_isinstance (by decide +kernel) (pa_cons (pv 0) (pa_cons (pe_glob (v := .ref (ga "NoCustomer")) rfl g_NoCustomer rfl) pa_nil))) pa_nil)))))
      (pss_cons (ps_set (i := 1) law_classes_sc.nd rfl (Or.inl rfl) (pe_op op_cat (pv 1) (pe_lst (pa_cons (pe_callB (ErrX.call_isD hC hot) (by rfl) m_isinstance (by decide +kernel) (pa_cons (pv 0) (pa_cons (pe_glob (v := .ref (ga "NoCycle")) rfl g_NoCycle rfl) pa_nil))) (pa_cons (pe_callB (ErrX.call_isD hC hot) (by rfl) m_isinstance (by decide +kernel) (pa_cons (pv 0) (pa_cons (pe_glob (v := .ref (ga "NoDemand")) rfl g_NoDemand rfl) pa_nil))) pa_nil)))))
      (pss_cons (ps_set (i := 1) law_classes_sc.nd rfl (Or.inl rfl) (pe_op op_cat (pv 1) (pe_lst (pa_cons (pe_callB (ErrX.call_isD hC hot) (by rfl) m_isinstance (by decide +kernel) (pa_cons (pv 0) (pa_cons (pe_glob (v := .ref (ga "NoDepot")) rfl g_NoDepot rfl) pa_nil))) (pa_cons (pe_callB (ErrX.call_isD hC hot) (by rfl) m_isinstance (by decide +kernel) (pa_cons (pv 0) (pa_cons (pe_glob (v := .ref (ga "NoLink")) rfl g_NoLink rfl) pa_nil))) pa_nil)))))
      (pss_cons (ps_set (i := 1) law_classes_sc.nd rfl (Or.inl rfl) (pe_op op_cat (pv 1) (pe_lst (pa_cons (pe_callB (ErrX.call_isD hC hot) (by rfl) m_isinstance (by decide +kernel) (pa_cons (pv 0) (pa_cons (pe_glob (v := .ref (ga "NoNumber")) rfl g_NoNumber rfl) pa_nil))) (pa_cons (pe_callB (ErrX.call_isD hC hot) (by rfl) m_isinstance (by decide +kernel) (pa_cons (pv 0) (pa_cons (pe_glob (v := .ref (ga "NoPlace")) rfl g_NoPlace rfl) pa_nil))) pa_nil)))))
      (pss_cons (ps_set (i := 1) law_classes_sc.nd rfl (Or.inl rfl) (pe_op op_cat (pv 1) (pe_lst (pa_cons (pe_callB (ErrX.call_isD hC hot) (by rfl) m_isinstance (by decide +kernel) (pa_cons (pv 0) (pa_cons (pe_glob (v := .ref (ga "NoRoute")) rfl g_NoRoute rfl) pa_nil))) (pa_cons (pe_callB (ErrX.call_isD hC hot) (by rfl) m_isinstance (by decide +kernel) (pa_cons (pv 0) (pa_cons (pe_glob (v := .ref (ga "NoSupply")) rfl g_NoSupply rfl) pa_nil))) pa_nil)))))
      (pss_cons (ps_set (i := 1) law_classes_sc.nd rfl (Or.inl rfl) (pe_op op_cat (pv 1) (pe_lst (pa_cons (pe_callB (ErrX.call_isD hC hot) (by rfl) m_isinstance (by decide +kernel) (pa_cons (pv 0) (pa_cons (pe_glob (v := .ref (ga "NotAcross")) rfl g_NotAcross rfl) pa_nil))) (pa_cons (pe_callB (ErrX.call_isD hC hot) (by rfl) m_isinstance (by decide +kernel) (pa_cons (pv 0) (pa_cons (pe_glob (v := .ref (ga "NotFlexible")) rfl g_NotFlexible rfl) pa_nil))) pa_nil)))))
      (pss_cons (ps_set (i := 1) law_classes_sc.nd rfl (Or.inl rfl) (pe_op op_cat (pv 1) (pe_lst (pa_cons (pe_callB (ErrX.call_isD hC hot) (by rfl) m_isinstance (by decide +kernel) (pa_cons (pv 0) (pa_cons (pe_glob (v := .ref (ga "NotInTree")) rfl g_NotInTree rfl) pa_nil))) (pa_cons (pe_callB (ErrX.call_isD hC hot) (by rfl) m_isinstance (by decide +kernel) (pa_cons (pv 0) (pa_cons (pe_glob (v := .ref (ga "NotInner")) rfl g_NotInner rfl) pa_nil))) pa_nil)))))
      (pss_cons (ps_set (i := 1) law_classes_sc.nd rfl (Or.inl rfl) (pe_op op_cat (pv 1) (pe_lst (pa_cons (pe_callB (ErrX.call_isD hC hot) (by rfl) m_isinstance (by decide +kernel) (pa_cons (pv 0) (pa_cons (pe_glob (v := .ref (ga "NotJoined")) rfl g_NotJoined rfl) pa_nil))) (pa_cons (pe_callB (ErrX.call_isD hC hot) (by rfl) m_isinstance (by decide +kernel) (pa_cons (pv 0) (pa_cons (pe_glob (v := .ref (ga "NotMore")) rfl g_NotMore rfl) pa_nil))) pa_nil)))))
      (pss_cons (ps_set (i := 1) law_classes_sc.nd rfl (Or.inl rfl) (pe_op op_cat (pv 1) (pe_lst (pa_cons (pe_callB (ErrX.call_isD hC hot) (by rfl) m_isinstance (by decide +kernel) (pa_cons (pv 0) (pa_cons (pe_glob (v := .ref (ga "NotPriced")) rfl g_NotPriced rfl) pa_nil))) (pa_cons (pe_callB (ErrX.call_isD hC hot) (by rfl) m_isinstance (by decide +kernel) (pa_cons (pv 0) (pa_cons (pe_glob (v := .ref (ga "NotSpanning")) rfl g_NotSpanning rfl) pa_nil))) pa_nil)))))
      (pss_cons (ps_set (i := 1) law_classes_sc.nd rfl (Or.inl rfl) (pe_op op_cat (pv 1) (pe_lst (pa_cons (pe_callB (ErrX.call_isD hC hot) (by rfl) m_isinstance (by decide +kernel) (pa_cons (pv 0) (pa_cons (pe_glob (v := .ref (ga "NotSpanningSet")) rfl g_NotSpanningSet rfl) pa_nil))) (pa_cons (pe_callB (ErrX.call_isD hC hot) (by rfl) m_isinstance (by decide +kernel) (pa_cons (pv 0) (pa_cons (pe_glob (v := .ref (ga "NothingLeft")) rfl g_NothingLeft rfl) pa_nil))) pa_nil)))))
      (pss_cons (ps_set (i := 1) law_classes_sc.nd rfl (Or.inl rfl) (pe_op op_cat (pv 1) (pe_lst (pa_cons (pe_callB (ErrX.call_isD hC hot) (by rfl) m_isinstance (by decide +kernel) (pa_cons (pv 0) (pa_cons (pe_glob (v := .ref (ga "OtherNetwork")) rfl g_OtherNetwork rfl) pa_nil))) (pa_cons (pe_callB (ErrX.call_isD hC hot) (by rfl) m_isinstance (by decide +kernel) (pa_cons (pv 0) (pa_cons (pe_glob (v := .ref (ga "OtherTotals")) rfl g_OtherTotals rfl) pa_nil))) pa_nil)))))
      (pss_cons (ps_set (i := 1) law_classes_sc.nd rfl (Or.inl rfl) (pe_op op_cat (pv 1) (pe_lst (pa_cons (pe_callB (ErrX.call_isD hC hot) (by rfl) m_isinstance (by decide +kernel) (pa_cons (pv 0) (pa_cons (pe_glob (v := .ref (ga "Overflow")) rfl g_Overflow rfl) pa_nil))) (pa_cons (pe_callB (ErrX.call_isD hC hot) (by rfl) m_isinstance (by decide +kernel) (pa_cons (pv 0) (pa_cons (pe_glob (v := .ref (ga "Repeated")) rfl g_Repeated rfl) pa_nil))) pa_nil)))))
      (pss_cons (ps_set (i := 1) law_classes_sc.nd rfl (Or.inl rfl) (pe_op op_cat (pv 1) (pe_lst (pa_cons (pe_callB (ErrX.call_isD hC hot) (by rfl) m_isinstance (by decide +kernel) (pa_cons (pv 0) (pa_cons (pe_glob (v := .ref (ga "SameEnds")) rfl g_SameEnds rfl) pa_nil))) (pa_cons (pe_callB (ErrX.call_isD hC hot) (by rfl) m_isinstance (by decide +kernel) (pa_cons (pv 0) (pa_cons (pe_glob (v := .ref (ga "Short")) rfl g_Short rfl) pa_nil))) pa_nil)))))
      (pss_cons (ps_set (i := 1) law_classes_sc.nd rfl (Or.inl rfl) (pe_op op_cat (pv 1) (pe_lst (pa_cons (pe_callB (ErrX.call_isD hC hot) (by rfl) m_isinstance (by decide +kernel) (pa_cons (pv 0) (pa_cons (pe_glob (v := .ref (ga "Stranded")) rfl g_Stranded rfl) pa_nil))) (pa_cons (pe_callB (ErrX.call_isD hC hot) (by rfl) m_isinstance (by decide +kernel) (pa_cons (pv 0) (pa_cons (pe_glob (v := .ref (ga "TooMany")) rfl g_TooMany rfl) pa_nil))) pa_nil)))))
      (pss_cons (ps_set (i := 1) law_classes_sc.nd rfl (Or.inl rfl) (pe_op op_cat (pv 1) (pe_lst (pa_cons (pe_callB (ErrX.call_isD hC hot) (by rfl) m_isinstance (by decide +kernel) (pa_cons (pv 0) (pa_cons (pe_glob (v := .ref (ga "Unbalanced")) rfl g_Unbalanced rfl) pa_nil))) (pa_cons (pe_callB (ErrX.call_isD hC hot) (by rfl) m_isinstance (by decide +kernel) (pa_cons (pv 0) (pa_cons (pe_glob (v := .ref (ga "Unfair")) rfl g_Unfair rfl) pa_nil))) pa_nil)))))
      (pss_cons (ps_set (i := 1) law_classes_sc.nd rfl (Or.inl rfl) (pe_op op_cat (pv 1) (pe_lst (pa_cons (pe_callB (ErrX.call_isD hC hot) (by rfl) m_isinstance (by decide +kernel) (pa_cons (pv 0) (pa_cons (pe_glob (v := .ref (ga "Unread")) rfl g_Unread rfl) pa_nil))) pa_nil))))
      (pss_one (ps_ret (pe_bm PySem.F.plainAttrs_list PySem.F.slot_list_count PySem.F.type_list_count ErrX.mt_lcountB (pv 1) (pa_cons pe_bl pa_nil)))))))))))))))))))))))), ?_⟩
    refine ⟨.ref p.1, rfl, .ref (ga "BadColumn"), .ref (ga "BadColumn"), _, fs, rfl, .own _, hd, k_BadColumn, .ref p.1, rfl, .ref (ga "BadCount"), .ref (ga "BadCount"), _, fs, rfl, .own _, hd, k_BadCount, len2, fun r1 nr => ?_⟩
    have s1 := Same.new (o := .lst [.bl (decide (("BadColumn" : Str) = nD)), .bl (decide (("BadCount" : Str) = nD))]) nr
    have d1 := s1 _ _ hd
    refine row2 (n := 2) (nD := nD) upd_same d1 k_BadDeed k_BadLength (by decide) rfl fun r2 H2 s2 h2 => ?_
    replace s2 := s1.trans s2
    replace d1 := s2 _ _ hd
    refine row2 (n := 4) h2 d1 k_BadLine k_BadSize (by decide) rfl fun r3 H3 s3 h3 => ?_
    replace s3 := s2.trans s3
    replace d1 := s3 _ _ hd
    refine row2 (n := 6) h3 d1 k_Below k_Closes (by decide) rfl fun r4 H4 s4 h4 => ?_
    replace s4 := s3.trans s4
    replace d1 := s4 _ _ hd
    refine row2 (n := 8) h4 d1 k_DeedRefused k_NoCustomer (by decide) rfl fun r5 H5 s5 h5 => ?_
    replace s5 := s4.trans s5
    replace d1 := s5 _ _ hd
    refine row2 (n := 10) h5 d1 k_NoCycle k_NoDemand (by decide) rfl fun r6 H6 s6 h6 => ?_
    replace s6 := s5.trans s6
    replace d1 := s6 _ _ hd
    refine row2 (n := 12) h6 d1 k_NoDepot k_NoLink (by decide) rfl fun r7 H7 s7 h7 => ?_
    replace s7 := s6.trans s7
    replace d1 := s7 _ _ hd
    refine row2 (n := 14) h7 d1 k_NoNumber k_NoPlace (by decide) rfl fun r8 H8 s8 h8 => ?_
    replace s8 := s7.trans s8
    replace d1 := s8 _ _ hd
    refine row2 (n := 16) h8 d1 k_NoRoute k_NoSupply (by decide) rfl fun r9 H9 s9 h9 => ?_
    replace s9 := s8.trans s9
    replace d1 := s9 _ _ hd
    refine row2 (n := 18) h9 d1 k_NotAcross k_NotFlexible (by decide) rfl fun r10 H10 s10 h10 => ?_
    replace s10 := s9.trans s10
    replace d1 := s10 _ _ hd
    refine row2 (n := 20) h10 d1 k_NotInTree k_NotInner (by decide) rfl fun r11 H11 s11 h11 => ?_
    replace s11 := s10.trans s11
    replace d1 := s11 _ _ hd
    refine row2 (n := 22) h11 d1 k_NotJoined k_NotMore (by decide) rfl fun r12 H12 s12 h12 => ?_
    replace s12 := s11.trans s12
    replace d1 := s12 _ _ hd
    refine row2 (n := 24) h12 d1 k_NotPriced k_NotSpanning (by decide) rfl fun r13 H13 s13 h13 => ?_
    replace s13 := s12.trans s13
    replace d1 := s13 _ _ hd
    refine row2 (n := 26) h13 d1 k_NotSpanningSet k_NothingLeft (by decide) rfl fun r14 H14 s14 h14 => ?_
    replace s14 := s13.trans s14
    replace d1 := s14 _ _ hd
    refine row2 (n := 28) h14 d1 k_OtherNetwork k_OtherTotals (by decide) rfl fun r15 H15 s15 h15 => ?_
    replace s15 := s14.trans s15
    replace d1 := s15 _ _ hd
    refine row2 (n := 30) h15 d1 k_Overflow k_Repeated (by decide) rfl fun r16 H16 s16 h16 => ?_
    replace s16 := s15.trans s16
    replace d1 := s16 _ _ hd
    refine row2 (n := 32) h16 d1 k_SameEnds k_Short (by decide) rfl fun r17 H17 s17 h17 => ?_
    replace s17 := s16.trans s17
    replace d1 := s17 _ _ hd
    refine row2 (n := 34) h17 d1 k_Stranded k_TooMany (by decide) rfl fun r18 H18 s18 h18 => ?_
    replace s18 := s17.trans s18
    replace d1 := s18 _ _ hd
    refine row2 (n := 36) h18 d1 k_Unbalanced k_Unfair (by decide) rfl fun r19 H19 s19 h19 => ?_
    replace s19 := s18.trans s19
    replace d1 := s19 _ _ hd
    refine row1 (n := 38) h19 d1 k_Unread (by decide) rfl fun r20 H20 s20 h20 => ?_
    replace s20 := s19.trans s20
    refine ⟨.ref r20, rfl, .inl ⟨rfl, _, sq h20⟩, r20, clsN.map fun x => decide (x = nD), true, rfl, rfl, sq (h20.trans (congrArg (fun z => some (HO.lst z)) (by unfold Tn; rw [List.map_map]; rfl))), ?_⟩
    rw [cnt]
    exact q _ s20
/-! ### _law_refusal -/
abbrev law_refusal_N : List Str := ["e"]
theorem law_refusal_sc : FnScope ["e"] ["e"] (defScope law_refusal_st) := ⟨rfl, rfl, rfl, by decide +kernel, rfl, by decide +kernel, by decide +kernel⟩
def spRefusal (ca : Er4 → Addr) : ErrX.SpE := fun a c d vs H Q _ => ∃ (b : Er4) (dd : Addr) (x : V), vs = [.ref a] ∧ c = .ref (ca b) ∧ d = some dd ∧ H dd = some (.xd [(fldE b, x)]) ∧ ∀ (H' : Hp) (t : Addr), Same H H' → H t = none → H' t = some (.tup [.str "refused", .str (nmE b), x]) → Q (.ref t) H'
theorem ok_refusal {f1 : Addr} {fd1 : FuncData} {ca : Er4 → Addr} {ga : Str → Addr} (F : FnS K "_law_refusal" law_refusal_st f fd) (m_isinstance : mg "isinstance" = none) (m_ValueError : mg "ValueError" = none) (Fc : ∀ b : Er4, ClsF K mg (ca b) (nmE b) ga) (hno : ∀ b : Er4, PySem.W.findIn K (.ref (ca b)) (fldE b) = some none)
    (E_law_classes : ErrX.FnE P w K mg base (L2N.CX P w) 1 f1 fd1 ["e"] (spClasses ca)) (g1 : mg "_law_classes" = some (.ref f1)) (kp1 : PySem.W.keepIn K (.ref f1) = true) (b1 : Binds K fd1 ["e"] []) : ErrX.FnE P w K mg base (L2N.CX P w) 2 f fd ["e"] (spRefusal ca) := by
  refine ErrX.fn_ofE F law_refusal_sc (fun a c d vs H Q E h => ?_) (fun cdv A outer s H vs Q E p c d hz hr h => ?_)
  · obtain ⟨b, dd, x, rfl, _⟩ := h
    rfl
  · obtain ⟨b, dd, x, rfl, rfl, rfl, hd, q⟩ := h
    have Fb := Fc b
    have hC := Fb.exc
    have hnb := hno b
    have g_NoDepot := Fb.g "NoDepot" (by decide +kernel)
    have k_NoDepot := Fb.k "NoDepot" (by decide +kernel)
    have g_NoCustomer := Fb.g "NoCustomer" (by decide +kernel)
    have k_NoCustomer := Fb.k "NoCustomer" (by decide +kernel)
    have g_NoRoute := Fb.g "NoRoute" (by decide +kernel)
    have k_NoRoute := Fb.k "NoRoute" (by decide +kernel)
    have g_Repeated := Fb.g "Repeated" (by decide +kernel)
    have k_Repeated := Fb.k "Repeated" (by decide +kernel)
    have kv := Fb.ve
    have hot : ErrX.HotE (L2H.cxH (L2N.CX P w) P w K mg base law_refusal_N "_law_refusal" (defScope law_refusal_st) f cdv A outer s H E p) p.1 (.ref (ca b)) (some dd) := ⟨p, rfl, ⟨hz.1, hz.2⟩, List.mem_cons_self⟩
    cases b with
    | N =>
      refine ⟨_, (pss_cons (ps_if (PW.pt (pw_or (pt_not (pt_val (pe_callB (ErrX.call_isD hC hot) (by rfl) m_isinstance (by decide +kernel) (pa_cons (pv 0) (pa_cons (pe_bltn (by rfl) m_ValueError (by decide +kernel) (v := .ty "ValueError") rfl) pa_nil))))) (pw_or1 (pt_cmpR op_ne (ErrX.pe_callE (E := fun _ => E0) E_law_classes hr hot rfl g1 kp1 b1 (fun σ pins => ErrX.passN pins σ) (pa_cons (pv 0) pa_nil)) pe_int (nomark _))))) (pss_one (ps_ret (pe_tup (pa_cons pe_str (pa_cons pe_str (pa_cons pe_int pa_nil)))))) pss_nil)
      (pss_cons (ps_if (pt_val (pe_callB (ErrX.call_isD hC hot) (by rfl) m_isinstance (by decide +kernel) (pa_cons (pv 0) (pa_cons (pe_glob (v := .ref (ga "NoDepot")) rfl g_NoDepot rfl) pa_nil)))) (pss_one (ps_ret (pe_tup (pa_cons pe_str (pa_cons pe_str (pa_cons (ErrX.pe_fldD hC hnb hot (pv 0)) pa_nil)))))) pss_nil)
      (pss_cons (ps_if (pt_val (pe_callB (ErrX.call_isD hC hot) (by rfl) m_isinstance (by decide +kernel) (pa_cons (pv 0) (pa_cons (pe_glob (v := .ref (ga "NoCustomer")) rfl g_NoCustomer rfl) pa_nil)))) (pss_one ps_never) pss_nil)
      (pss_cons (ps_if (pt_val (pe_callB (ErrX.call_isD hC hot) (by rfl) m_isinstance (by decide +kernel) (pa_cons (pv 0) (pa_cons (pe_glob (v := .ref (ga "NoRoute")) rfl g_NoRoute rfl) pa_nil)))) (pss_one ps_never) pss_nil)
      (pss_cons (ps_if (pt_val (pe_callB (ErrX.call_isD hC hot) (by rfl) m_isinstance (by decide +kernel) (pa_cons (pv 0) (pa_cons (pe_glob (v := .ref (ga "Repeated")) rfl g_Repeated rfl) pa_nil)))) (pss_one ps_never) pss_nil)
      (pss_one (ps_ret (pe_tup (pa_cons pe_str (pa_cons pe_str (pa_cons pe_int pa_nil))))))))))), ?_⟩
      refine ⟨.ref p.1, rfl, .ty "ValueError", .type "ValueError", true, _, rfl, .ty _, hd, kv, _, rfl, iteF ⟨.ref p.1, rfl, .N, dd, _, rfl, rfl, rfl, hd, fun H1 s1 => ⟨rfl, _, rfl, ?_⟩⟩⟩
      rw [decide_eq_true (rfl : V.int 1 = V.int 1)]
      refine iteF ?_
      have hd1 := s1 _ _ hd
      refine ⟨.ref p.1, rfl, .ref (ga "NoDepot"), .ref (ga "NoDepot"), _, _, rfl, .own _, hd1, k_NoDepot, _, rfl, ?_⟩
      rw [show decide (("NoDepot" : Str) = nmE .N) = true from by decide +kernel]
      refine iteT ⟨.ref p.1, rfl, rfl, _, x, hd1, ?_, len3, fun t nt => ?_⟩
      · exact (by simp [fldE])
      · exact q _ t (s1.trans (Same.new nt)) (s1.back nt) upd_same
    | C =>
      refine ⟨_, (pss_cons (ps_if (PW.pt (pw_or (pt_not (pt_val (pe_callB (ErrX.call_isD hC hot) (by rfl) m_isinstance (by decide +kernel) (pa_cons (pv 0) (pa_cons (pe_bltn (by rfl) m_ValueError (by decide +kernel) (v := .ty "ValueError") rfl) pa_nil))))) (pw_or1 (pt_cmpR op_ne (ErrX.pe_callE (E := fun _ => E0) E_law_classes hr hot rfl g1 kp1 b1 (fun σ pins => ErrX.passN pins σ) (pa_cons (pv 0) pa_nil)) pe_int (nomark _))))) (pss_one (ps_ret (pe_tup (pa_cons pe_str (pa_cons pe_str (pa_cons pe_int pa_nil)))))) pss_nil)
      (pss_cons (ps_if (pt_val (pe_callB (ErrX.call_isD hC hot) (by rfl) m_isinstance (by decide +kernel) (pa_cons (pv 0) (pa_cons (pe_glob (v := .ref (ga "NoDepot")) rfl g_NoDepot rfl) pa_nil)))) (pss_one ps_never) pss_nil)
      (pss_cons (ps_if (pt_val (pe_callB (ErrX.call_isD hC hot) (by rfl) m_isinstance (by decide +kernel) (pa_cons (pv 0) (pa_cons (pe_glob (v := .ref (ga "NoCustomer")) rfl g_NoCustomer rfl) pa_nil)))) (pss_one (ps_ret (pe_tup (pa_cons pe_str (pa_cons pe_str (pa_cons (ErrX.pe_fldD hC hnb hot (pv 0)) pa_nil)))))) pss_nil)
      (pss_cons (ps_if (pt_val (pe_callB (ErrX.call_isD hC hot) (by rfl) m_isinstance (by decide +kernel) (pa_cons (pv 0) (pa_cons (pe_glob (v := .ref (ga "NoRoute")) rfl g_NoRoute rfl) pa_nil)))) (pss_one ps_never) pss_nil)
      (pss_cons (ps_if (pt_val (pe_callB (ErrX.call_isD hC hot) (by rfl) m_isinstance (by decide +kernel) (pa_cons (pv 0) (pa_cons (pe_glob (v := .ref (ga "Repeated")) rfl g_Repeated rfl) pa_nil)))) (pss_one ps_never) pss_nil)
      (pss_one (ps_ret (pe_tup (pa_cons pe_str (pa_cons pe_str (pa_cons pe_int pa_nil))))))))))), ?_⟩
      refine ⟨.ref p.1, rfl, .ty "ValueError", .type "ValueError", true, _, rfl, .ty _, hd, kv, _, rfl, iteF ⟨.ref p.1, rfl, .C, dd, _, rfl, rfl, rfl, hd, fun H1 s1 => ⟨rfl, _, rfl, ?_⟩⟩⟩
      rw [decide_eq_true (rfl : V.int 1 = V.int 1)]
      refine iteF ?_
      have hd1 := s1 _ _ hd
      refine ⟨.ref p.1, rfl, .ref (ga "NoDepot"), .ref (ga "NoDepot"), _, _, rfl, .own _, hd1, k_NoDepot, _, rfl, ?_⟩
      rw [show decide (("NoDepot" : Str) = nmE .C) = false from by decide +kernel]
      refine iteF ?_
      refine ⟨.ref p.1, rfl, .ref (ga "NoCustomer"), .ref (ga "NoCustomer"), _, _, rfl, .own _, hd1, k_NoCustomer, _, rfl, ?_⟩
      rw [show decide (("NoCustomer" : Str) = nmE .C) = true from by decide +kernel]
      refine iteT ⟨.ref p.1, rfl, rfl, _, x, hd1, ?_, len3, fun t nt => ?_⟩
      · exact (by simp [fldE])
      · exact q _ t (s1.trans (Same.new nt)) (s1.back nt) upd_same
    | T =>
      refine ⟨_, (pss_cons (ps_if (PW.pt (pw_or (pt_not (pt_val (pe_callB (ErrX.call_isD hC hot) (by rfl) m_isinstance (by decide +kernel) (pa_cons (pv 0) (pa_cons (pe_bltn (by rfl) m_ValueError (by decide +kernel) (v := .ty "ValueError") rfl) pa_nil))))) (pw_or1 (pt_cmpR op_ne (ErrX.pe_callE (E := fun _ => E0) E_law_classes hr hot rfl g1 kp1 b1 (fun σ pins => ErrX.passN pins σ) (pa_cons (pv 0) pa_nil)) pe_int (nomark _))))) (pss_one (ps_ret (pe_tup (pa_cons pe_str (pa_cons pe_str (pa_cons pe_int pa_nil)))))) pss_nil)
      (pss_cons (ps_if (pt_val (pe_callB (ErrX.call_isD hC hot) (by rfl) m_isinstance (by decide +kernel) (pa_cons (pv 0) (pa_cons (pe_glob (v := .ref (ga "NoDepot")) rfl g_NoDepot rfl) pa_nil)))) (pss_one ps_never) pss_nil)
      (pss_cons (ps_if (pt_val (pe_callB (ErrX.call_isD hC hot) (by rfl) m_isinstance (by decide +kernel) (pa_cons (pv 0) (pa_cons (pe_glob (v := .ref (ga "NoCustomer")) rfl g_NoCustomer rfl) pa_nil)))) (pss_one ps_never) pss_nil)
      (pss_cons (ps_if (pt_val (pe_callB (ErrX.call_isD hC hot) (by rfl) m_isinstance (by decide +kernel) (pa_cons (pv 0) (pa_cons (pe_glob (v := .ref (ga "NoRoute")) rfl g_NoRoute rfl) pa_nil)))) (pss_one (ps_ret (pe_tup (pa_cons pe_str (pa_cons pe_str (pa_cons (ErrX.pe_fldD hC hnb hot (pv 0)) pa_nil)))))) pss_nil)
      (pss_cons (ps_if (pt_val (pe_callB (ErrX.call_isD hC hot) (by rfl) m_isinstance (by decide +kernel) (pa_cons (pv 0) (pa_cons (pe_glob (v := .ref (ga "Repeated")) rfl g_Repeated rfl) pa_nil)))) (pss_one ps_never) pss_nil)
      (pss_one (ps_ret (pe_tup (pa_cons pe_str (pa_cons pe_str (pa_cons pe_int pa_nil))))))))))), ?_⟩
      refine ⟨.ref p.1, rfl, .ty "ValueError", .type "ValueError", true, _, rfl, .ty _, hd, kv, _, rfl, iteF ⟨.ref p.1, rfl, .T, dd, _, rfl, rfl, rfl, hd, fun H1 s1 => ⟨rfl, _, rfl, ?_⟩⟩⟩
      rw [decide_eq_true (rfl : V.int 1 = V.int 1)]
      refine iteF ?_
      have hd1 := s1 _ _ hd
      refine ⟨.ref p.1, rfl, .ref (ga "NoDepot"), .ref (ga "NoDepot"), _, _, rfl, .own _, hd1, k_NoDepot, _, rfl, ?_⟩
      rw [show decide (("NoDepot" : Str) = nmE .T) = false from by decide +kernel]
      refine iteF ?_
      refine ⟨.ref p.1, rfl, .ref (ga "NoCustomer"), .ref (ga "NoCustomer"), _, _, rfl, .own _, hd1, k_NoCustomer, _, rfl, ?_⟩
      rw [show decide (("NoCustomer" : Str) = nmE .T) = false from by decide +kernel]
      refine iteF ?_
      refine ⟨.ref p.1, rfl, .ref (ga "NoRoute"), .ref (ga "NoRoute"), _, _, rfl, .own _, hd1, k_NoRoute, _, rfl, ?_⟩
      rw [show decide (("NoRoute" : Str) = nmE .T) = true from by decide +kernel]
      refine iteT ⟨.ref p.1, rfl, rfl, _, x, hd1, ?_, len3, fun t nt => ?_⟩
      · exact (by simp [fldE])
      · exact q _ t (s1.trans (Same.new nt)) (s1.back nt) upd_same
    | R =>
      refine ⟨_, (pss_cons (ps_if (PW.pt (pw_or (pt_not (pt_val (pe_callB (ErrX.call_isD hC hot) (by rfl) m_isinstance (by decide +kernel) (pa_cons (pv 0) (pa_cons (pe_bltn (by rfl) m_ValueError (by decide +kernel) (v := .ty "ValueError") rfl) pa_nil))))) (pw_or1 (pt_cmpR op_ne (ErrX.pe_callE (E := fun _ => E0) E_law_classes hr hot rfl g1 kp1 b1 (fun σ pins => ErrX.passN pins σ) (pa_cons (pv 0) pa_nil)) pe_int (nomark _))))) (pss_one (ps_ret (pe_tup (pa_cons pe_str (pa_cons pe_str (pa_cons pe_int pa_nil)))))) pss_nil)
      (pss_cons (ps_if (pt_val (pe_callB (ErrX.call_isD hC hot) (by rfl) m_isinstance (by decide +kernel) (pa_cons (pv 0) (pa_cons (pe_glob (v := .ref (ga "NoDepot")) rfl g_NoDepot rfl) pa_nil)))) (pss_one ps_never) pss_nil)
      (pss_cons (ps_if (pt_val (pe_callB (ErrX.call_isD hC hot) (by rfl) m_isinstance (by decide +kernel) (pa_cons (pv 0) (pa_cons (pe_glob (v := .ref (ga "NoCustomer")) rfl g_NoCustomer rfl) pa_nil)))) (pss_one ps_never) pss_nil)
      (pss_cons (ps_if (pt_val (pe_callB (ErrX.call_isD hC hot) (by rfl) m_isinstance (by decide +kernel) (pa_cons (pv 0) (pa_cons (pe_glob (v := .ref (ga "NoRoute")) rfl g_NoRoute rfl) pa_nil)))) (pss_one ps_never) pss_nil)
      (pss_cons (ps_if (pt_val (pe_callB (ErrX.call_isD hC hot) (by rfl) m_isinstance (by decide +kernel) (pa_cons (pv 0) (pa_cons (pe_glob (v := .ref (ga "Repeated")) rfl g_Repeated rfl) pa_nil)))) (pss_one (ps_ret (pe_tup (pa_cons pe_str (pa_cons pe_str (pa_cons (ErrX.pe_fldD hC hnb hot (pv 0)) pa_nil)))))) pss_nil)
      (pss_one (ps_ret (pe_tup (pa_cons pe_str (pa_cons pe_str (pa_cons pe_int pa_nil))))))))))), ?_⟩
      refine ⟨.ref p.1, rfl, .ty "ValueError", .type "ValueError", true, _, rfl, .ty _, hd, kv, _, rfl, iteF ⟨.ref p.1, rfl, .R, dd, _, rfl, rfl, rfl, hd, fun H1 s1 => ⟨rfl, _, rfl, ?_⟩⟩⟩
      rw [decide_eq_true (rfl : V.int 1 = V.int 1)]
      refine iteF ?_
      have hd1 := s1 _ _ hd
      refine ⟨.ref p.1, rfl, .ref (ga "NoDepot"), .ref (ga "NoDepot"), _, _, rfl, .own _, hd1, k_NoDepot, _, rfl, ?_⟩
      rw [show decide (("NoDepot" : Str) = nmE .R) = false from by decide +kernel]
      refine iteF ?_
      refine ⟨.ref p.1, rfl, .ref (ga "NoCustomer"), .ref (ga "NoCustomer"), _, _, rfl, .own _, hd1, k_NoCustomer, _, rfl, ?_⟩
      rw [show decide (("NoCustomer" : Str) = nmE .R) = false from by decide +kernel]
      refine iteF ?_
      refine ⟨.ref p.1, rfl, .ref (ga "NoRoute"), .ref (ga "NoRoute"), _, _, rfl, .own _, hd1, k_NoRoute, _, rfl, ?_⟩
      rw [show decide (("NoRoute" : Str) = nmE .R) = false from by decide +kernel]
      refine iteF ?_
      refine ⟨.ref p.1, rfl, .ref (ga "Repeated"), .ref (ga "Repeated"), _, _, rfl, .own _, hd1, k_Repeated, _, rfl, ?_⟩
      rw [show decide (("Repeated" : Str) = nmE .R) = true from by decide +kernel]
      refine iteT ⟨.ref p.1, rfl, rfl, _, x, hd1, ?_, len3, fun t nt => ?_⟩
      · exact (by simp [fldE])
      · exact q _ t (s1.trans (Same.new nt)) (s1.back nt) upd_same
end
end K03
set_option Elab.async false
set_option linter.all false
set_option maxRecDepth 100000
set_option maxHeartbeats 4000000
namespace K03
open PySem PySem.Spec PyProof.Rows L2
/-- data: a flat value, a list (false) or tuple (true) -/
inductive Dt where
  | lf (v : V)
  | nd (b : Bool) (ds : List Dt)
def Leaf (v : V) : Prop := (∃ i, v = .int i) ∨ (∃ z, v = .str z) ∨ ∃ c, v = .bl c
def seqO (b : Bool) (xs : List V) : HO := if b then .tup xs else .lst xs
/-- v stands for the data d, k deep -/
inductive Rep (F : Addr → Prop) (H : Hp) : Nat → V → Dt → Prop
  | lf {k : Nat} {v : V} (h : Leaf v) : Rep F H k v (.lf v)
  | nd {k : Nat} {a : Addr} {b : Bool} {xs : List V} {ds : List Dt} (h : H a = some (seqO b xs)) (f : b = false → F a) (l : xs.length = ds.length) (s : xs.length ≤ 100) (r : ∀ (i : Nat) (u : V) (d : Dt), xs[i]? = some u → ds[i]? = some d → Rep F H k u d) : Rep F H (k + 1) (.ref a) (.nd b ds)
theorem Rep.keep {F : Addr → Prop} {H H' : Hp} (e : Same H H') : ∀ {k : Nat} {v : V} {d : Dt}, Rep F H k v d → Rep F H' k v d := by
  intro k v d h
  induction h with
  | lf h => exact .lf h
  | nd h f l s r ih => exact .nd (e _ _ h) f l s ih
theorem sm_of {F G : Addr → Prop} {H : Hp} : ∀ {k : Nat} {x : V} {d : Dt}, Rep F H k x d → ∀ {y : V}, Rep G H k y d → Sm k H x y := by
  intro k x d h
  induction h with
  | @lf k v h =>
    intro y h'
    cases h' with
    | lf h' =>
      have e : (∃ i, v = .int i ∧ v = .int i) ∨ (∃ z, v = .str z ∧ v = .str z) ∨ ∃ c, v = .bl c ∧ v = .bl c := by
        rcases h with ⟨i, h⟩ | ⟨z, h⟩ | ⟨c, h⟩
        · exact .inl ⟨i, h, h⟩
        · exact .inr (.inl ⟨z, h, h⟩)
        · exact .inr (.inr ⟨c, h, h⟩)
      cases k with
      | zero => exact e
      | succ k => exact .inl e
  | @nd k a b xs ds h f l s r ih =>
    intro y h'
    cases h' with
    | @nd _ a' _ ys _ h1 f1 l1 s1 r1 =>
      refine .inr ⟨a, a', xs, ys, rfl, rfl, ?_, by rw [l, l1], s, fun i u v hu hv => ?_⟩
      · cases b with
        | true => exact .inr ⟨h, h1⟩
        | false => exact .inl ⟨h, h1⟩
      · have hi : i < ds.length := by
          have := (List.getElem?_eq_some_iff.mp hu).1
          omega
        have hd := List.getElem?_eq_getElem hi
        exact ih i u _ hu hd (r1 i v _ hv hd)
/-- item by item -/
def Reps (F : Addr → Prop) (H : Hp) (k : Nat) (xs : List V) (ds : List Dt) : Prop := xs.length = ds.length ∧ ∀ (i : Nat) (u : V) (d : Dt), xs[i]? = some u → ds[i]? = some d → Rep F H k u d
theorem Reps.nil {F : Addr → Prop} {H : Hp} {k : Nat} : Reps F H k [] [] := ⟨rfl, fun i u d h => by cases i <;> cases h⟩
theorem Reps.cons {F : Addr → Prop} {H : Hp} {k : Nat} {x : V} {xs : List V} {d : Dt} {ds : List Dt} (h : Rep F H k x d) (r : Reps F H k xs ds) : Reps F H k (x :: xs) (d :: ds) := by
  refine ⟨by rw [List.length_cons, List.length_cons, r.1], fun i u e h1 h2 => ?_⟩
  cases i with
  | zero =>
    cases h1
    cases h2
    exact h
  | succ i => exact r.2 i u e h1 h2
theorem Reps.append {F : Addr → Prop} {H : Hp} {k : Nat} {xs ys : List V} {ds es : List Dt} (h : Reps F H k xs ds) (r : Reps F H k ys es) : Reps F H k (xs ++ ys) (ds ++ es) := by
  refine ⟨by rw [List.length_append, List.length_append, h.1, r.1], fun i u d h1 h2 => ?_⟩
  by_cases c : i < xs.length
  · rw [List.getElem?_append_left c] at h1
    rw [List.getElem?_append_left (by rw [← h.1]; exact c)] at h2
    exact h.2 i u d h1 h2
  · rw [List.getElem?_append_right (by omega)] at h1
    rw [List.getElem?_append_right (by rw [← h.1]; omega), ← h.1] at h2
    exact r.2 _ u d h1 h2
theorem Reps.snoc {F : Addr → Prop} {H : Hp} {k : Nat} {xs : List V} {ds : List Dt} {x : V} {d : Dt} (h : Reps F H k xs ds) (r : Rep F H k x d) : Reps F H k (xs ++ [x]) (ds ++ [d]) := h.append (.cons r .nil)
theorem Reps.keep {F : Addr → Prop} {H H' : Hp} {k : Nat} {xs : List V} {ds : List Dt} (h : Reps F H k xs ds) (e : Same H H') : Reps F H' k xs ds := ⟨h.1, fun i u d h1 h2 => (h.2 i u d h1 h2).keep e⟩
theorem Rep.lst {F : Addr → Prop} {H : Hp} {k : Nat} {a : Addr} {xs : List V} {ds : List Dt} (h : H a = some (.lst xs)) (f : F a) (r : Reps F H k xs ds) (s : xs.length ≤ 100) : Rep F H (k + 1) (.ref a) (.nd false ds) := .nd h (fun _ => f) r.1 s r.2
theorem Rep.tup {F : Addr → Prop} {H : Hp} {k : Nat} {a : Addr} {xs : List V} {ds : List Dt} (h : H a = some (.tup xs)) (r : Reps F H k xs ds) (s : xs.length ≤ 100) : Rep F H (k + 1) (.ref a) (.nd true ds) := .nd h (fun z => nomatch z) r.1 s r.2
theorem Rep.int {F : Addr → Prop} {H : Hp} {k : Nat} {i : Int} : Rep F H k (.int i) (.lf (.int i)) := .lf (.inl ⟨i, rfl⟩)
theorem Rep.str {F : Addr → Prop} {H : Hp} {k : Nat} {z : Str} : Rep F H k (.str z) (.lf (.str z)) := .lf (.inr (.inl ⟨z, rfl⟩))
theorem Rep.bl {F : Addr → Prop} {H : Hp} {k : Nat} {c : Bool} : Rep F H k (.bl c) (.lf (.bl c)) := .lf (.inr (.inr ⟨c, rfl⟩))
theorem Rep.imp {F G : Addr → Prop} {H : Hp} (e : ∀ a, F a → G a) : ∀ {k : Nat} {v : V} {d : Dt}, Rep F H k v d → Rep G H k v d := by
  intro k v d h
  induction h with
  | lf h => exact .lf h
  | nd h f l s r ih => exact .nd h (fun z => e _ (f z)) l s ih
theorem Reps.imp {F G : Addr → Prop} {H : Hp} {k : Nat} {xs : List V} {ds : List Dt} (h : Reps F H k xs ds) (e : ∀ a, F a → G a) : Reps G H k xs ds := ⟨h.1, fun i u d h1 h2 => (h.2 i u d h1 h2).imp e⟩
/-- a list that is none of them changes -/
theorem Rep.set {F : Addr → Prop} {H : Hp} {T : Addr} {us vs : List V} (hT : H T = some (.lst us)) (n : ¬ F T) : ∀ {k : Nat} {v : V} {d : Dt}, Rep F H k v d → Rep F (upd H T (.lst vs)) k v d := by
  intro k v d h
  induction h with
  | lf h => exact .lf h
  | @nd k a b xs ds h f l s r ih =>
    refine .nd ?_ f l s ih
    rw [upd_ne]
    · exact h
    · intro e
      subst e
      cases b with
      | true =>
        rw [hT] at h
        cases h
      | false => exact n (f rfl)
theorem Reps.set {F : Addr → Prop} {H : Hp} {k : Nat} {T : Addr} {us vs : List V} {xs : List V} {ds : List Dt} (h : Reps F H k xs ds) (hT : H T = some (.lst us)) (n : ¬ F T) : Reps F (upd H T (.lst vs)) k xs ds := ⟨h.1, fun i u d h1 h2 => (h.2 i u d h1 h2).set hT n⟩
def dNt (x : Nat) : Dt := .lf (nV x)
theorem reps_nV {F : Addr → Prop} {H : Hp} {k : Nat} : ∀ ns : List Nat, Reps F H k (ns.map nV) (ns.map dNt)
  | [] => .nil
  | n :: ns => .cons Rep.int (reps_nV ns)
def dP (p : Nat × Nat) : Dt := .nd true [dNt p.1, dNt p.2]
theorem rep_z {F : Addr → Prop} {H : Hp} {k : Nat} {z : Z} (h : H z.1 = some (prV z)) : Rep F H (k + 1) (zV z) (dP z.2) := Rep.tup h (.cons Rep.int (.cons Rep.int .nil)) (by show 2 ≤ 100; decide)
theorem reps_z {F : Addr → Prop} {H : Hp} {k : Nat} : ∀ {zs : List Z}, PrZ H zs → Reps F H (k + 1) (zs.map zV) ((zs.map (·.2)).map dP)
  | [], _ => .nil
  | z :: zs, h => .cons (rep_z (h z List.mem_cons_self)) (reps_z fun y hy => h y (List.mem_cons_of_mem _ hy))
def dPc (p : List Nat × List Nat) : Dt := .nd true [.nd false (p.1.map dNt), .nd false (p.2.map dNt)]
theorem rep_pc {F : Addr → Prop} {H : Hp} {k : Nat} {z : P4} (h : PcAt H z.t z.o z.u z.d.1 z.d.2) (f1 : F z.o) (f2 : F z.u) (l1 : z.d.1.length ≤ 100) (l2 : z.d.2.length ≤ 100) : Rep F H (k + 2) (pV z) (dPc z.d) :=
  Rep.tup h.ht (.cons (Rep.lst h.ho f1 (reps_nV _) (by rw [List.length_map]; exact l1)) (.cons (Rep.lst h.hu f2 (reps_nV _) (by rw [List.length_map]; exact l2)) .nil)) (by show 2 ≤ 100; decide)
theorem reps_pc {F : Addr → Prop} {H : Hp} {k : Nat} : ∀ {ws : List P4}, PcZ H ws → (∀ z ∈ ws, (F z.o ∧ F z.u) ∧ z.d.1.length ≤ 100 ∧ z.d.2.length ≤ 100) → Reps F H (k + 2) (ws.map pV) ((ws.map P4.d).map dPc)
  | [], _, _ => .nil
  | z :: zs, h, l => .cons (rep_pc (h z List.mem_cons_self) (l z List.mem_cons_self).1.1 (l z List.mem_cons_self).1.2 (l z List.mem_cons_self).2.1 (l z List.mem_cons_self).2.2) (reps_pc (fun y hy => h y (List.mem_cons_of_mem _ hy)) fun y hy => l y (List.mem_cons_of_mem _ hy))
/-! ### the answers as data -/
def dTold (x : Dt) : Dt := .nd true [.lf (.str "told"), x]
def dRef (w : Str) (x : Dt) : Dt := .nd true [.lf (.str "refused"), .lf (.str w), x]
def dInt (x : Int) : Dt := .lf (.int x)
def custP (ps : List (Nat × Nat)) (e : Int) : List Nat := (ps.filter fun p => decide ((p.1 : Int) = e)).map (·.2)
def depsP (ps : List (Nat × Nat)) (b : Int) : List Nat := (ps.filter fun p => decide ((p.2 : Int) = b)).map (·.1)
theorem custP_eq (zs : List Z) (e : Int) : custs zs e = custP (zs.map (·.2)) e := by
  unfold custs custP
  rw [List.filter_map, List.map_map]
  rfl
theorem depsP_eq (zs : List Z) (e : Int) : deps zs e = depsP (zs.map (·.2)) e := by
  unfold deps depsP
  rw [List.filter_map, List.map_map]
  rfl
def cuD (m : Nat) (ps : List (Nat × Nat)) (e : Int) : Dt := if 0 ≤ e ∧ e < (m : Int) then dTold (.nd false ((custP ps e).map dNt)) else dRef "NoDepot" (dInt e)
def deD (n : Nat) (ps : List (Nat × Nat)) (e : Int) : Dt := if 0 ≤ e ∧ e < (n : Int) then dTold (.nd false ((depsP ps e).map dNt)) else dRef "NoCustomer" (dInt e)
def ixD (m n : Nat) (ps : List (Nat × Nat)) (q : Int × Int) : Dt :=
  if 0 ≤ q.1 ∧ q.1 < (m : Int) then if 0 ≤ q.2 ∧ q.2 < (n : Int) then match fx ps q.1 q.2 with
    | some i => dTold (dNt i)
    | none => dRef "NoRoute" (.nd true [dInt q.1, dInt q.2])
  else dRef "NoCustomer" (dInt q.2) else dRef "NoDepot" (dInt q.1)
def inD (ps : List (Nat × Nat)) (q : Int × Int) : Dt := .lf (.bl (fx ps q.1 q.2).isSome)
def reD (m n : Nat) (ps : List (Nat × Nat)) (ns : List Int) : Dt := match due m ns with
  | some (b, x) => dRef (wrd b) (dInt x)
  | none => dTold (.nd false ((rch n ps ns).map dNt))
/-- an answer, and that the list in it is new -/
def AnsF (H0 H : Hp) (v : V) : Prop := (∃ c, v = .bl c) ∨ ∃ (t : Addr) (w x : V) (rest : List V), v = .ref t ∧ H t = some (.tup (w :: x :: rest)) ∧ ((∃ i, x = .int i) ∨ (∃ z, x = .str z) ∨ ∃ (L : Addr) (xs : List V), x = .ref L ∧ H0 L = none ∧ H L = some (.lst xs) ∧ xs.length ≤ 100)
theorem AnsF.keep {H0 H H' : Hp} {v : V} (h : AnsF H0 H v) (e : Same H H') : AnsF H0 H' v := by
  rcases h with h | ⟨t, w, x, rest, h1, h2, h3⟩
  · exact .inl h
  · refine .inr ⟨t, w, x, rest, h1, e _ _ h2, ?_⟩
    rcases h3 with h3 | h3 | ⟨L, xs, a, b, c, d⟩
    · exact .inl h3
    · exact .inr (.inl h3)
    · exact .inr (.inr ⟨L, xs, a, b, e _ _ c, d⟩)
theorem AnsF.from {H0 H1 H : Hp} {v : V} (h : AnsF H1 H v) (e : Same H0 H1) : AnsF H0 H v := by
  rcases h with h | ⟨t, w, x, rest, h1, h2, h3⟩
  · exact .inl h
  · refine .inr ⟨t, w, x, rest, h1, h2, ?_⟩
    rcases h3 with h3 | h3 | ⟨L, xs, a, b, c, d⟩
    · exact .inl h3
    · exact .inr (.inl h3)
    · exact .inr (.inr ⟨L, xs, a, e.back b, c, d⟩)
theorem AnsF.set {H0 H : Hp} {v : V} {T : Addr} {us vs : List V} (h : AnsF H0 H v) (hT : H T = some (.lst us)) (n : ∀ L, H0 L = none → ∀ xs, H L = some (.lst xs) → xs.length ≤ 100 → L ≠ T) : AnsF H0 (upd H T (.lst vs)) v := by
  rcases h with h | ⟨t, w, x, rest, h1, h2, h3⟩
  · exact .inl h
  · have ne : t ≠ T := fun e => by rw [e, hT] at h2; cases h2
    refine .inr ⟨t, w, x, rest, h1, by rw [upd_ne ne]; exact h2, ?_⟩
    rcases h3 with h3 | h3 | ⟨L, xs, a, b, c, d⟩
    · exact .inl h3
    · exact .inr (.inl h3)
    · exact .inr (.inr ⟨L, xs, a, b, by rw [upd_ne (n L b xs c d)]; exact c, d⟩)
/-- a new answer -/
def AnsQ (H : Hp) (Q : VK) (d : Dt) : Prop := ∀ (H' : Hp) (v : V), Same H H' → Rep (fun a => H a = none) H' 3 v d → AnsF H H' v → Q v H'
theorem ans_told {H H' : Hp} {t L : Addr} {ns : List Nat} (nL : H L = none) (ht : H' t = some (.tup [.str "told", .ref L])) (hL : H' L = some (.lst (ns.map nV))) (hl : ns.length ≤ 100) : Rep (fun a => H a = none) H' 3 (.ref t) (dTold (.nd false (ns.map dNt))) ∧ AnsF H H' (.ref t) :=
  ⟨Rep.tup ht (.cons Rep.str (.cons (Rep.lst hL nL (reps_nV _) (by rw [List.length_map]; exact hl)) .nil)) (by show 2 ≤ 100; decide), .inr ⟨t, _, _, _, rfl, ht, .inr (.inr ⟨L, _, rfl, nL, hL, by rw [List.length_map]; exact hl⟩)⟩⟩
theorem ans_int {H H' : Hp} {t : Addr} {i : Int} (ht : H' t = some (.tup [.str "told", .int i])) : Rep (fun a => H a = none) H' 3 (.ref t) (dTold (dInt i)) ∧ AnsF H H' (.ref t) :=
  ⟨Rep.tup ht (.cons Rep.str (.cons Rep.int .nil)) (by show 2 ≤ 100; decide), .inr ⟨t, _, _, _, rfl, ht, .inl ⟨i, rfl⟩⟩⟩
theorem ans_ref {H H' : Hp} {t : Addr} {w : Str} {x : V} {d : Dt} (ht : H' t = some (.tup [.str "refused", .str w, x])) (r : Rep (fun a => H a = none) H' 2 x d) : Rep (fun a => H a = none) H' 3 (.ref t) (dRef w d) ∧ AnsF H H' (.ref t) :=
  ⟨Rep.tup ht (.cons Rep.str (.cons Rep.str (.cons r .nil))) (by show 3 ≤ 100; decide), .inr ⟨t, _, _, _, rfl, ht, .inr (.inl ⟨w, rfl⟩)⟩⟩
end K03
set_option Elab.async false
set_option linter.all false
set_option maxRecDepth 100000
set_option maxHeartbeats 4000000
namespace K03
open PySem PySem.Spec PyProof.Rows L2
/-- a network with its numbers, its routes -/
def NF (C : Addr) (H : Hp) (p : Addr) (m n : Nat) (ps : List (Nat × Nat)) : Prop := ∃ (zs : List Z) (ws : List P4), NetAt C H p m n zs ws ∧ NetIx C H p zs ∧ (zs.map (·.2)).Nodup ∧ zs.map (·.2) = ps
theorem NF.keep {C : Addr} {H H' : Hp} {p : Addr} {m n : Nat} {ps : List (Nat × Nat)} (h : NF C H p m n ps) (e : Same H H') : NF C H' p m n ps := by
  obtain ⟨zs, ws, a, b, c, d⟩ := h
  exact ⟨zs, ws, a.keep e, b.keep e, c, d⟩
theorem custP_len (ps : List (Nat × Nat)) (e : Int) : (custP ps e).length ≤ ps.length := by
  unfold custP
  rw [List.length_map]
  exact List.length_filter_le _ _
theorem depsP_len (ps : List (Nat × Nat)) (e : Int) : (depsP ps e).length ≤ ps.length := by
  unfold depsP
  rw [List.length_map]
  exact List.length_filter_le _ _
theorem rch_len (n : Nat) (ps : List (Nat × Nat)) (ns : List Int) : (rch n ps ns).length ≤ n := by
  unfold rch
  have := List.length_filter_le (hits ps ns) (List.range n)
  rw [List.length_range] at this
  exact this
theorem ixD_some {m n : Nat} {ps : List (Nat × Nat)} {a b : Int} {i : Nat} (ha : 0 ≤ a ∧ a < (m : Int)) (hb : 0 ≤ b ∧ b < (n : Int)) (hf : fx ps a b = some i) : ixD m n ps (a, b) = dTold (dNt i) := by
  unfold ixD
  rw [if_pos ha, if_pos hb]
  dsimp only
  rw [hf]
theorem ixD_none {m n : Nat} {ps : List (Nat × Nat)} {a b : Int} (ha : 0 ≤ a ∧ a < (m : Int)) (hb : 0 ≤ b ∧ b < (n : Int)) (hf : fx ps a b = none) : ixD m n ps (a, b) = dRef "NoRoute" (.nd true [dInt a, dInt b]) := by
  unfold ixD
  rw [if_pos ha, if_pos hb]
  dsimp only
  rw [hf]
theorem stQ {P : Prop} {x y : V} (e : ¬ decide (x = y) = true) (h : x = y) : P := absurd (decide_eq_true h) e
section
variable {P : Program} {w : World} {K : PySem.W.Frag} {mg : Str → Option Value} {base : Heap} {f : Addr} {fd : FuncData}
/-! ### _law_ask -/
abbrev law_ask_N : List Str := ["network", "word", "thing", "e"]
theorem law_ask_sc : FnScope ["network", "word", "thing", "e"] ["network", "word", "thing"] (defScope law_ask_st) := ⟨rfl, rfl, rfl, by decide +kernel, rfl, by decide +kernel, by decide +kernel⟩
def spAsk (K : PySem.W.Frag) (C : Addr) : Sp := fun vs H Q _ => ∃ (p : Addr) (wd : Str) (x : V) (m n : Nat) (ps : List (Nat × Nat)), vs = [.ref p, .str wd, x] ∧ NF C H p m n ps ∧
  ((wd = "customers_of" ∧ ∃ e, x = .int e ∧ AnsQ H Q (cuD m ps e)) ∨ (wd = "depots_of" ∧ ∃ e, x = .int e ∧ AnsQ H Q (deD n ps e)) ∨
    (wd = "reach" ∧ ∃ (l : Addr) (ns : List Int), x = .ref l ∧ H l = some (.lst (ns.map V.int)) ∧ ns.length ≤ 10 ∧ AnsQ H Q (reD m n ps ns)) ∨
    (wd = "index_of" ∧ ∃ (t : Addr) (a b : Int), x = .ref t ∧ H t = some (pzV a b) ∧ AnsQ H Q (ixD m n ps (a, b))))
theorem ok_ask {C CD f0 f1 f2 f3 f4 : Addr} {fd0 fd1 fd2 fd3 fd4 : FuncData} {ca : Er4 → Addr} {uP uR : Value} (F : FnS K "_law_ask" law_ask_st f fd) (T : NetC K C uP uR)
    (M_c : MtD P w K mg base 4 C "customers_of" ["self", "depot"] (spCusts C (ca .N)) f1 fd1) (M_d : MtD P w K mg base 4 C "depots_of" ["self", "customer"] (spDeps C (ca .C)) f2 fd2)
    (M_r : MtD P w K mg base 5 C "reach" ["self", "lot"] (spReach K C (ca .N) (ca .R)) f3 fd3) (M_i : MtD P w K mg base 5 C "index_of" ["self", "route"] (spIndex C (ca .N) (ca .C) (ca .T)) f4 fd4)
    (FE : ErrX.FnE P w K mg base (L2N.CX P w) 2 f0 fd0 ["e"] (spRefusal ca)) (g0 : mg "_law_refusal" = some (.ref f0)) (kp0 : PySem.W.keepIn K (.ref f0) = true) (b0 : Binds K fd0 ["e"] []) (gD : mg "DepotError" = some (.ref CD)) (hex : ∀ b : Er4, PySem.W.exmOne K (.ref (ca b)) (.ref CD) = some true) :
    FnOk P w K mg base (L2N.CX P w) 6 f fd ["network", "word", "thing"] (spAsk K C) := by
  refine F.ok law_ask_sc (fun vs H Q E h => ?_) (fun cdv A outer s H vs Q E hr h => ?_)
  · obtain ⟨p, wd, x, m, n, ps, rfl, _⟩ := h
    rfl
  · obtain ⟨p, wd, x, m, n, ps, rfl, ⟨zs, ws, N, ix, nd, rfl⟩, h⟩ := h
    obtain ⟨dx, r, di, g, hp, hr', hg⟩ := N.ob
    have hm := N.m8
    have hn := N.n8
    have few : (zs.map (·.2)).length ≤ 16 := by rw [List.length_map]; exact N.few
    have nfl : ∀ {g' : Str}, ¬ g' = "_pieces" → ¬ g' = "_indices" → ¬ g' = "_routes" → ¬ g' = "_customers" → ¬ g' = "_depots" → (nf m n r di g).lookup g' = none := fun h1 h2 h3 h4 h5 => nf_no _ _ _ _ _ h1 h2 h3 h4 h5
    rcases h with ⟨rfl, e, rfl, q⟩ | ⟨rfl, e, rfl, q⟩ | ⟨rfl, l, ns, rfl, hl, h10, q⟩ | ⟨rfl, t0, a, b, rfl, ht0, q⟩
    · refine ⟨_, pss_one (L2N.ps_try_as (i := 3) (c := .ref CD) (tb := fun W => tSeq (tIfS (tTest (tOp rEq (tVar 1) (tC (.str "customers_of")))) (tRet (tTup (tCons (tC (.str "told")) (tCons (ErrX.tMethE C "customers_of" (spCusts C (ca .N)) (L2.WE W) (tVar 0) (tCons (tVar 2) tNil)) tNil)))) tNext) (tSeq (tIfS (tTest (tOp rEq (tVar 1) (tC (.str "depots_of")))) (tNever) tNext) (tSeq (tIfS (tTest (tOp rEq (tVar 1) (tC (.str "reach")))) (tNever) tNext) (tNever))))
        (ts := fun a cls d => tRet (ErrX.tCallE (spRefusal ca) a cls d (fun _ => E0) (tCons (tVar 3) tNil))) rfl rfl law_ask_sc.nd rfl rfl ⟨rfl, by decide, Or.inl gD⟩ (L2N.takes_of rfl rfl rfl rfl)
        (fun W pn xe tk po => (pss_cons (ps_if (pt_cmpR op_eq (pv 1) pe_str (nomark _)) (pss_one (ps_ret (pe_tup (pa_cons pe_str (pa_cons (ErrX.pe_methE (pv 0) T.cl M_c.m M_c.ok (hr.mono (by decide)) M_c.b (fun σ => L2N.passAt tk σ) (pa_cons (pv 2) pa_nil)) pa_nil))))) pss_nil) (pss_cons (ps_if (pt_cmpR op_eq (pv 1) pe_str (nomark _)) (pss_one ps_never) pss_nil) (pss_cons (ps_if (pt_cmpR op_eq (pv 1) pe_str (nomark _)) (pss_one ps_never) pss_nil) (pss_one ps_never)))))
        (fun a oe cls d pn hz hf => pss_one (ps_ret (ErrX.pe_callE FE (L2H.roomH_mark (hr.mono (by decide)) _) (ErrX.hotE_suite hz hf) rfl g0 kp0 b0 (fun σ pins => ErrX.passN pins σ) (pa_cons (pv 3) pa_nil))))), ?_⟩
      refine ⟨.str "customers_of", rfl, rfl, _, rfl, ite2 (fun _ => ?_) (fun e => absurd (decide_eq_true rfl) e)⟩
      refine ⟨.ref p, rfl, p, dx, _, rfl, hp, nfl (by decide) (by decide) (by decide) (by decide) (by decide), .int e, rfl, ?_⟩
      refine ⟨p, e, m, n, zs, ws, rfl, N, fun hx H1 D s1 nD hD => ⟨len2, fun t nt => ?_⟩, fun hx d nd' => ⟨true, hex .N, fun _ a ha => ⟨.ref a, rfl, .N, d, .int e, rfl, rfl, rfl, upd_same, fun H2 t s2 nt ht => ?_⟩, fun z => nomatch z⟩⟩
      · have s2 := Same.new (o := .tup [.str "told", V.ref D]) nt
        rw [custP_eq] at hD
        have hh := ans_told (H := H) (H' := upd H1 t (.tup [.str "told", V.ref D])) nD upd_same (s2 _ _ hD) (Nat.le_trans (custP_len _ _) (by omega))
        have ed : cuD m (zs.map (·.2)) e = dTold (.nd false ((custP (zs.map (·.2)) e).map dNt)) := if_pos hx
        exact q _ _ (s1.trans s2) (ed ▸ hh.1) hh.2
      · have hh := ans_ref (H := H) (d := dInt e) ht Rep.int
        have ed : cuD m (zs.map (·.2)) e = dRef "NoDepot" (dInt e) := if_neg hx
        exact q _ _ ((Same.new nd').trans s2) (ed ▸ hh.1) hh.2
    · refine ⟨_, pss_one (L2N.ps_try_as (i := 3) (c := .ref CD) (tb := fun W => tSeq (tIfS (tTest (tOp rEq (tVar 1) (tC (.str "customers_of")))) (tNever) tNext) (tSeq (tIfS (tTest (tOp rEq (tVar 1) (tC (.str "depots_of")))) (tRet (tTup (tCons (tC (.str "told")) (tCons (ErrX.tMethE C "depots_of" (spDeps C (ca .C)) (L2.WE W) (tVar 0) (tCons (tVar 2) tNil)) tNil)))) tNext) (tSeq (tIfS (tTest (tOp rEq (tVar 1) (tC (.str "reach")))) (tNever) tNext) (tNever))))
        (ts := fun a cls d => tRet (ErrX.tCallE (spRefusal ca) a cls d (fun _ => E0) (tCons (tVar 3) tNil))) rfl rfl law_ask_sc.nd rfl rfl ⟨rfl, by decide, Or.inl gD⟩ (L2N.takes_of rfl rfl rfl rfl)
        (fun W pn xe tk po => (pss_cons (ps_if (pt_cmpR op_eq (pv 1) pe_str (nomark _)) (pss_one ps_never) pss_nil) (pss_cons (ps_if (pt_cmpR op_eq (pv 1) pe_str (nomark _)) (pss_one (ps_ret (pe_tup (pa_cons pe_str (pa_cons (ErrX.pe_methE (pv 0) T.cl M_d.m M_d.ok (hr.mono (by decide)) M_d.b (fun σ => L2N.passAt tk σ) (pa_cons (pv 2) pa_nil)) pa_nil))))) pss_nil) (pss_cons (ps_if (pt_cmpR op_eq (pv 1) pe_str (nomark _)) (pss_one ps_never) pss_nil) (pss_one ps_never)))))
        (fun a oe cls d pn hz hf => pss_one (ps_ret (ErrX.pe_callE FE (L2H.roomH_mark (hr.mono (by decide)) _) (ErrX.hotE_suite hz hf) rfl g0 kp0 b0 (fun σ pins => ErrX.passN pins σ) (pa_cons (pv 3) pa_nil))))), ?_⟩
      refine ⟨.str "depots_of", rfl, rfl, _, rfl, ite2 (fun e => absurd (V.str.inj (of_decide_eq_true e)) (by decide +kernel)) (fun _ => ?_)⟩
      refine ⟨.str "depots_of", rfl, rfl, _, rfl, ite2 (fun _ => ?_) (fun e => absurd (decide_eq_true rfl) e)⟩
      refine ⟨.ref p, rfl, p, dx, _, rfl, hp, nfl (by decide) (by decide) (by decide) (by decide) (by decide), .int e, rfl, ?_⟩
      refine ⟨p, e, m, n, zs, ws, rfl, N, fun hx H1 D s1 nD hD => ⟨len2, fun t nt => ?_⟩, fun hx d nd' => ⟨true, hex .C, fun _ a ha => ⟨.ref a, rfl, .C, d, .int e, rfl, rfl, rfl, upd_same, fun H2 t s2 nt ht => ?_⟩, fun z => nomatch z⟩⟩
      · have s2 := Same.new (o := .tup [.str "told", V.ref D]) nt
        rw [depsP_eq] at hD
        have hh := ans_told (H := H) (H' := upd H1 t (.tup [.str "told", V.ref D])) nD upd_same (s2 _ _ hD) (Nat.le_trans (depsP_len _ _) (by omega))
        have ed : deD n (zs.map (·.2)) e = dTold (.nd false ((depsP (zs.map (·.2)) e).map dNt)) := if_pos hx
        exact q _ _ (s1.trans s2) (ed ▸ hh.1) hh.2
      · have hh := ans_ref (H := H) (d := dInt e) ht Rep.int
        have ed : deD n (zs.map (·.2)) e = dRef "NoCustomer" (dInt e) := if_neg hx
        exact q _ _ ((Same.new nd').trans s2) (ed ▸ hh.1) hh.2
    · refine ⟨_, pss_one (L2N.ps_try_as (i := 3) (c := .ref CD) (tb := fun W => tSeq (tIfS (tTest (tOp rEq (tVar 1) (tC (.str "customers_of")))) (tNever) tNext) (tSeq (tIfS (tTest (tOp rEq (tVar 1) (tC (.str "depots_of")))) (tNever) tNext) (tSeq (tIfS (tTest (tOp rEq (tVar 1) (tC (.str "reach")))) (tRet (tTup (tCons (tC (.str "told")) (tCons (ErrX.tMethE C "reach" (spReach K C (ca .N) (ca .R)) (L2.WE W) (tVar 0) (tCons (tVar 2) tNil)) tNil)))) tNext) (tNever))))
        (ts := fun a cls d => tRet (ErrX.tCallE (spRefusal ca) a cls d (fun _ => E0) (tCons (tVar 3) tNil))) rfl rfl law_ask_sc.nd rfl rfl ⟨rfl, by decide, Or.inl gD⟩ (L2N.takes_of rfl rfl rfl rfl)
        (fun W pn xe tk po => (pss_cons (ps_if (pt_cmpR op_eq (pv 1) pe_str (nomark _)) (pss_one ps_never) pss_nil) (pss_cons (ps_if (pt_cmpR op_eq (pv 1) pe_str (nomark _)) (pss_one ps_never) pss_nil) (pss_cons (ps_if (pt_cmpR op_eq (pv 1) pe_str (nomark _)) (pss_one (ps_ret (pe_tup (pa_cons pe_str (pa_cons (ErrX.pe_methE (pv 0) T.cl M_r.m M_r.ok (hr.mono (by decide)) M_r.b (fun σ => L2N.passAt tk σ) (pa_cons (pv 2) pa_nil)) pa_nil))))) pss_nil) (pss_one ps_never)))))
        (fun a oe cls d pn hz hf => pss_one (ps_ret (ErrX.pe_callE FE (L2H.roomH_mark (hr.mono (by decide)) _) (ErrX.hotE_suite hz hf) rfl g0 kp0 b0 (fun σ pins => ErrX.passN pins σ) (pa_cons (pv 3) pa_nil))))), ?_⟩
      refine ⟨.str "reach", rfl, rfl, _, rfl, ite2 (fun e => absurd (V.str.inj (of_decide_eq_true e)) (by decide +kernel)) (fun _ => ?_)⟩
      refine ⟨.str "reach", rfl, rfl, _, rfl, ite2 (fun e => absurd (V.str.inj (of_decide_eq_true e)) (by decide +kernel)) (fun _ => ?_)⟩
      refine ⟨.str "reach", rfl, rfl, _, rfl, ite2 (fun _ => ?_) (fun e => absurd (decide_eq_true rfl) e)⟩
      refine ⟨.ref p, rfl, p, dx, _, rfl, hp, nfl (by decide) (by decide) (by decide) (by decide) (by decide), .ref l, rfl, ?_⟩
      refine ⟨p, l, m, n, zs, ws, ns, rfl, N, .inl (sq hl), h10, fun hd H1 D s1 nD hD => ⟨len2, fun t nt => ?_⟩, fun b x hd H1 d s1 nd' hxd => ?_⟩
      · have s2 := Same.new (o := .tup [.str "told", V.ref D]) nt
        have hh := ans_told (H := H) (H' := upd H1 t (.tup [.str "told", V.ref D])) nD upd_same (s2 _ _ hD) (Nat.le_trans (rch_len _ _ _) (by omega))
        have ed : reD m n (zs.map (·.2)) ns = dTold (.nd false ((rch n (zs.map (·.2)) ns).map dNt)) := by unfold reD; rw [hd]
        exact q _ _ (s1.trans s2) (ed ▸ hh.1) hh.2
      · have ed : reD m n (zs.map (·.2)) ns = dRef (wrd b) (dInt x) := by unfold reD; rw [hd]
        cases b with
        | false =>
          refine ⟨true, hex .N, fun _ a ha => ⟨.ref a, rfl, .N, d, .int x, rfl, rfl, rfl, hxd, fun H2 t s2 nt ht => ?_⟩, fun z => nomatch z⟩
          have hh := ans_ref (H := H) (d := dInt x) ht Rep.int
          exact q _ _ (s1.trans s2) (ed ▸ hh.1) hh.2
        | true =>
          refine ⟨true, hex .R, fun _ a ha => ⟨.ref a, rfl, .R, d, .int x, rfl, rfl, rfl, hxd, fun H2 t s2 nt ht => ?_⟩, fun z => nomatch z⟩
          have hh := ans_ref (H := H) (d := dInt x) ht Rep.int
          exact q _ _ (s1.trans s2) (ed ▸ hh.1) hh.2
    · refine ⟨_, pss_one (L2N.ps_try_as (i := 3) (c := .ref CD) (tb := fun W => tSeq (tIfS (tTest (tOp rEq (tVar 1) (tC (.str "customers_of")))) (tNever) tNext) (tSeq (tIfS (tTest (tOp rEq (tVar 1) (tC (.str "depots_of")))) (tNever) tNext) (tSeq (tIfS (tTest (tOp rEq (tVar 1) (tC (.str "reach")))) (tNever) tNext) (tRet (tTup (tCons (tC (.str "told")) (tCons (ErrX.tMethE C "index_of" (spIndex C (ca .N) (ca .C) (ca .T)) (L2.WE W) (tVar 0) (tCons (tVar 2) tNil)) tNil)))))))
        (ts := fun a cls d => tRet (ErrX.tCallE (spRefusal ca) a cls d (fun _ => E0) (tCons (tVar 3) tNil))) rfl rfl law_ask_sc.nd rfl rfl ⟨rfl, by decide, Or.inl gD⟩ (L2N.takes_of rfl rfl rfl rfl)
        (fun W pn xe tk po => (pss_cons (ps_if (pt_cmpR op_eq (pv 1) pe_str (nomark _)) (pss_one ps_never) pss_nil) (pss_cons (ps_if (pt_cmpR op_eq (pv 1) pe_str (nomark _)) (pss_one ps_never) pss_nil) (pss_cons (ps_if (pt_cmpR op_eq (pv 1) pe_str (nomark _)) (pss_one ps_never) pss_nil) (pss_one (ps_ret (pe_tup (pa_cons pe_str (pa_cons (ErrX.pe_methE (pv 0) T.cl M_i.m M_i.ok (hr.mono (by decide)) M_i.b (fun σ => L2N.passAt tk σ) (pa_cons (pv 2) pa_nil)) pa_nil)))))))))
        (fun a oe cls d pn hz hf => pss_one (ps_ret (ErrX.pe_callE FE (L2H.roomH_mark (hr.mono (by decide)) _) (ErrX.hotE_suite hz hf) rfl g0 kp0 b0 (fun σ pins => ErrX.passN pins σ) (pa_cons (pv 3) pa_nil))))), ?_⟩
      refine ⟨.str "index_of", rfl, rfl, _, rfl, ite2 (fun e => absurd (V.str.inj (of_decide_eq_true e)) (by decide +kernel)) (fun _ => ?_)⟩
      refine ⟨.str "index_of", rfl, rfl, _, rfl, ite2 (fun e => absurd (V.str.inj (of_decide_eq_true e)) (by decide +kernel)) (fun _ => ?_)⟩
      refine ⟨.str "index_of", rfl, rfl, _, rfl, ite2 (fun e => absurd (V.str.inj (of_decide_eq_true e)) (by decide +kernel)) (fun _ => ?_)⟩
      refine ⟨.ref p, rfl, p, dx, _, rfl, hp, nfl (by decide) (by decide) (by decide) (by decide) (by decide), .ref t0, rfl, ?_⟩
      refine ⟨p, t0, a, b, m, n, zs, ws, rfl, N, ix, nd, ht0, ⟨fun ha d nd' => ⟨true, hex .N, fun _ a' _ => ⟨.ref a', rfl, .N, d, .int a, rfl, rfl, rfl, upd_same, fun H2 t s2 nt ht => ?_⟩, fun z => nomatch z⟩,
        fun ha hb d nd' => ⟨true, hex .C, fun _ a' _ => ⟨.ref a', rfl, .C, d, .int b, rfl, rfl, rfl, upd_same, fun H2 t s2 nt ht => ?_⟩, fun z => nomatch z⟩,
        fun ha hb hf H1 d t1 s1 nd' nt1 ht1 hxd => ⟨true, hex .T, fun _ a' _ => ⟨.ref a', rfl, .T, d, .ref t1, rfl, rfl, rfl, hxd, fun H2 t s2 nt ht => ?_⟩, fun z => nomatch z⟩⟩, fun i ha hb hf H1 s1 => ⟨len2, fun t nt => ?_⟩⟩
      · have hh := ans_ref (H := H) (d := dInt a) ht Rep.int
        have ed : ixD m n (zs.map (·.2)) (a, b) = dRef "NoDepot" (dInt a) := if_neg ha
        exact q _ _ ((Same.new nd').trans s2) (ed ▸ hh.1) hh.2
      · have hh := ans_ref (H := H) (d := dInt b) ht Rep.int
        have ed : ixD m n (zs.map (·.2)) (a, b) = dRef "NoCustomer" (dInt b) := (if_pos ha).trans (if_neg hb)
        exact q _ _ ((Same.new nd').trans s2) (ed ▸ hh.1) hh.2
      · have hh := ans_ref (H := H) (d := .nd true [dInt a, dInt b]) ht (Rep.tup (s2 _ _ ht1) (.cons Rep.int (.cons Rep.int .nil)) (by show 2 ≤ 100; decide))
        have ed : ixD m n (zs.map (·.2)) (a, b) = dRef "NoRoute" (.nd true [dInt a, dInt b]) := ixD_none ha hb hf
        exact q _ _ (s1.trans s2) (ed ▸ hh.1) hh.2
      · have s2 := Same.new (o := .tup [.str "told", V.int (i : Nat)]) nt
        have hh := ans_int (H := H) (H' := upd H1 t (.tup [.str "told", V.int (i : Nat)])) (i := (i : Nat)) upd_same
        have ed : ixD m n (zs.map (·.2)) (a, b) = dTold (dNt i) := ixD_some ha hb hf
        exact q _ _ (s1.trans s2) (ed ▸ hh.1) hh.2
end
end K03
set_option Elab.async false
set_option linter.all false
set_option maxRecDepth 100000
set_option maxHeartbeats 4000000
namespace K03
open PySem PySem.Spec PyProof.Rows L2
def pI (a b : Int) : PyData := .tuple [.int a, .int b]
theorem pI_shaped (a b : Int) : SeqAt.shaped (pI a b) = true := by
  show ((pI a b).canLay0 && decide ((pI a b).depth ≤ 64)) = true
  have h1 : (pI a b).canLay0 = true := by simp [pI, PyData.canLay0, PyData.canLayAll0]
  have h2 : (pI a b).depth = 1 := by simp [pI, PyData.depth, PyData.depthAll]
  rw [h1, h2]
  rfl
theorem eqv_hit (p : Nat × Nat) (a b : Int) : PyData.eqv (qD p) (pI a b) = hitP a b p := by
  have e : PyData.eqv (qD p) (pI a b) = (((p.1 : Int) == a) && (((p.2 : Int) == b) && true)) := by simp only [qD, pI, PyData.eqv, PyData.eqvAll]
  rw [e, Bool.and_true]
  unfold hitP
  rfl
theorem any_fx (ps : List (Nat × Nat)) (a b : Int) : ((ps.map qD).any fun z => PyData.eqv z (pI a b)) = (fx ps a b).isSome := by
  unfold fx
  rw [List.findIdx?_isSome, List.any_map]
  congr 1
  funext p
  exact eqv_hit p a b
theorem fx_at {ps : List (Nat × Nat)} {a b : Int} {i : Nat} (h : fx ps a b = some i) : ∃ z, (ps.map qD)[i]? = some z ∧ PyData.eqv z (pI a b) = true ∧ ∀ (k : Nat) (z' : PyData), k < i → (ps.map qD)[k]? = some z' → PyData.eqv z' (pI a b) = false := by
  obtain ⟨hl, hp, hb⟩ := List.findIdx?_eq_some_iff_getElem.mp h
  refine ⟨qD ps[i], by rw [List.getElem?_map, List.getElem?_eq_getElem hl]; rfl, by rw [eqv_hit]; exact hp, fun k z' hk hz => ?_⟩
  have hkl : k < ps.length := Nat.lt_trans hk hl
  rw [List.getElem?_map, List.getElem?_eq_getElem hkl] at hz
  cases hz
  rw [eqv_hit]
  have := hb k hk
  simpa using this
theorem dp_pz {K : PySem.W.Frag} {H : Hp} {t : Addr} {a b : Int} (h : H t = some (pzV a b)) : Dp K H (.ref t) (pI a b) := .tup (sqt h) (.cons (.int _) (.cons (.int _) .nil))
theorem fx_lt {ps : List (Nat × Nat)} {a b : Int} {i : Nat} (h : fx ps a b = some i) : i < ps.length := (List.findIdx?_eq_some_iff_getElem.mp h).1
section
variable {P : Program} {w : World} {K : PySem.W.Frag} {mg : Str → Option Value} {base : Heap} {f : Addr} {fd : FuncData}
/-! ### _law_index_due -/
abbrev law_index_due_N : List Str := ["sizes", "rows", "pair"]
theorem law_index_due_sc : FnScope ["sizes", "rows", "pair"] ["sizes", "rows", "pair"] (defScope law_index_due_st) := ⟨rfl, rfl, rfl, by decide +kernel, rfl, by decide +kernel, by decide +kernel⟩
def spIxDue : Sp := fun vs H Q _ => ∃ (ts a t : Addr) (m n : Nat) (zs : List Z) (x y : Int), vs = [.ref ts, .ref a, .ref t] ∧ Sz H ts a m n zs ∧ H t = some (pzV x y) ∧ AnsQ H Q (ixD m n (zs.map (·.2)) (x, y))
theorem ok_ixdue (F : FnS K "_law_index_due" law_index_due_st f fd) : FnOk P w K mg base (L2N.CX P w) 1 f fd ["sizes", "rows", "pair"] spIxDue := by
  refine F.ok law_index_due_sc (fun vs H Q E h => ?_) (fun cdv A outer s H vs Q E hr h => ?_)
  · obtain ⟨ts, a, t, m, n, zs, x, y, rfl, _⟩ := h
    rfl
  · obtain ⟨ts, a, t, m, n, zs, x, y, rfl, S, ht, q⟩ := h
    have hu65 := u65 hr
    have hs := S.hs
    refine ⟨_, (pss_cons (ps_if (pt_not (pt_chain op_le op_lt pe_int (pe_ix ix_tup (pv 2) pe_int (fun _ _ => rfl)) (pe_ix ix_tup (pv 0) pe_int (fun _ _ => rfl)))) (pss_one (ps_ret (pe_tup (pa_cons pe_str (pa_cons pe_str (pa_cons (pe_ix ix_tup (pv 2) pe_int (fun _ _ => rfl)) pa_nil)))))) pss_nil)
      (pss_cons (ps_if (pt_not (pt_chain op_le op_lt pe_int (pe_ix ix_tup (pv 2) pe_int (fun _ _ => rfl)) (pe_ix ix_tup (pv 0) pe_int (fun _ _ => rfl)))) (pss_one (ps_ret (pe_tup (pa_cons pe_str (pa_cons pe_str (pa_cons (pe_ix ix_tup (pv 2) pe_int (fun _ _ => rfl)) pa_nil)))))) pss_nil)
      (pss_cons (ps_if (pt_cmpR (op_notInD hu65) (pv 2) (pv 1) rfl) (pss_one (ps_ret (pe_tup (pa_cons pe_str (pa_cons pe_str (pa_cons (pv 2) pa_nil)))))) pss_nil)
      (pss_one (ps_ret (pe_tup (pa_cons pe_str (pa_cons (pe_bm PySem.F.plainAttrs_list PySem.F.slot_list_index PySem.F.type_list_index (mt_indexD hu65) (pv 1) (pa_cons (pv 2) pa_nil)) pa_nil)))))))), ?_⟩
    refine ⟨.ref t, rfl, t, _, 0, .int x, rfl, rfl, sqt ht, rfl, 0, x, rfl, rfl, _, rfl, ite2 (fun e0 => ?_) (fun e0 => ?_)⟩
    rotate_left
    · have hb : ¬ (0 ≤ x ∧ x < (m : Int)) := fun z => e0 (decide_eq_true z.1)
      refine ⟨false, rfl, iteT ⟨.ref t, rfl, t, _, 0, .int x, rfl, rfl, sqt ht, rfl, len3, fun u nu => ?_⟩⟩
      have hh := ans_ref (H := H) (H' := upd H u (.tup [.str "refused", .str "NoDepot", .int x])) (d := dInt x) upd_same Rep.int
      have ed : ixD m n (zs.map (·.2)) (x, y) = dRef "NoDepot" (dInt x) := if_neg hb
      exact q _ _ (Same.new nu) (ed ▸ hh.1) hh.2
    have e0 := of_decide_eq_true e0
    refine ⟨.ref ts, rfl, ts, _, 0, nV m, rfl, rfl, sqt hs, rfl, x, m, rfl, rfl, _, rfl, ite2 (fun e => ?_) (fun e => ?_)⟩
    · have hb : ¬ (0 ≤ x ∧ x < (m : Int)) := fun z => by
        rw [decide_eq_true z.2] at e
        cases e
      refine ⟨.ref t, rfl, t, _, 0, .int x, rfl, rfl, sqt ht, rfl, len3, fun u nu => ?_⟩
      have hh := ans_ref (H := H) (H' := upd H u (.tup [.str "refused", .str "NoDepot", .int x])) (d := dInt x) upd_same Rep.int
      have ed : ixD m n (zs.map (·.2)) (x, y) = dRef "NoDepot" (dInt x) := if_neg hb
      exact q _ _ (Same.new nu) (ed ▸ hh.1) hh.2
    have ha : 0 ≤ x ∧ x < (m : Int) := ⟨e0, by
      by_cases z : x < (m : Int)
      · exact z
      · rw [decide_eq_false z] at e
        exact absurd rfl e⟩
    clear e e0
    refine ⟨.ref t, rfl, t, _, 1, .int y, rfl, rfl, sqt ht, rfl, 0, y, rfl, rfl, _, rfl, ite2 (fun e0 => ?_) (fun e0 => ?_)⟩
    rotate_left
    · have hb : ¬ (0 ≤ y ∧ y < (n : Int)) := fun z => e0 (decide_eq_true z.1)
      refine ⟨false, rfl, iteT ⟨.ref t, rfl, t, _, 1, .int y, rfl, rfl, sqt ht, rfl, len3, fun u nu => ?_⟩⟩
      have hh := ans_ref (H := H) (H' := upd H u (.tup [.str "refused", .str "NoCustomer", .int y])) (d := dInt y) upd_same Rep.int
      have ed : ixD m n (zs.map (·.2)) (x, y) = dRef "NoCustomer" (dInt y) := (if_pos ha).trans (if_neg hb)
      exact q _ _ (Same.new nu) (ed ▸ hh.1) hh.2
    have e0 := of_decide_eq_true e0
    refine ⟨.ref ts, rfl, ts, _, 1, nV n, rfl, rfl, sqt hs, rfl, y, n, rfl, rfl, _, rfl, ite2 (fun e => ?_) (fun e => ?_)⟩
    · have hb : ¬ (0 ≤ y ∧ y < (n : Int)) := fun z => by
        rw [decide_eq_true z.2] at e
        cases e
      refine ⟨.ref t, rfl, t, _, 1, .int y, rfl, rfl, sqt ht, rfl, len3, fun u nu => ?_⟩
      have hh := ans_ref (H := H) (H' := upd H u (.tup [.str "refused", .str "NoCustomer", .int y])) (d := dInt y) upd_same Rep.int
      have ed : ixD m n (zs.map (·.2)) (x, y) = dRef "NoCustomer" (dInt y) := (if_pos ha).trans (if_neg hb)
      exact q _ _ (Same.new nu) (ed ▸ hh.1) hh.2
    have hb : 0 ≤ y ∧ y < (n : Int) := ⟨e0, by
      by_cases z : y < (n : Int)
      · exact z
      · rw [decide_eq_false z] at e
        exact absurd rfl e⟩
    clear e e0
    refine ⟨.ref t, rfl, .ref a, rfl, pI x y, (zs.map (·.2)).map qD, dp_pz ht, dp_pairs S.ha S.pr, pI_shaped _ _, qDs_shaped _, _, rfl, ?_⟩
    rw [any_fx]
    cases e : fx (zs.map (·.2)) x y with
    | none =>
      refine iteT ⟨.ref t, rfl, len3, fun u nu => ?_⟩
      have s2 := Same.new (o := .tup [.str "refused", .str "NoRoute", .ref t]) nu
      have hh := ans_ref (H := H) (H' := upd H u (.tup [.str "refused", .str "NoRoute", .ref t])) (d := .nd true [dInt x, dInt y]) upd_same (Rep.tup (s2 _ _ ht) (.cons Rep.int (.cons Rep.int .nil)) (by show 2 ≤ 100; decide))
      exact q _ _ s2 (ixD_none ha hb e ▸ hh.1) hh.2
    | some i =>
      obtain ⟨z, hz, ez, bz⟩ := fx_at e
      refine iteF ⟨.ref a, rfl, .inl ⟨rfl, _, sq S.ha⟩, .ref t, rfl, a, .ref t, pI x y, (zs.map (·.2)).map qD, i, z, rfl, rfl, dp_pairs S.ha S.pr, dp_pz ht, qDs_shaped _, pI_shaped _ _, hz, ez, bz, len2, fun u nu => ?_⟩
      have hh := ans_int (H := H) (H' := upd H u (.tup [.str "told", V.int (i : Nat)])) (i := (i : Nat)) upd_same
      exact q _ _ (Same.new nu) (ixD_some ha hb e ▸ hh.1) hh.2
end
end K03
set_option Elab.async false
set_option linter.all false
set_option maxRecDepth 100000
set_option maxHeartbeats 4000000
namespace K03
open PySem PySem.Spec PyProof.Rows L2
section
variable {P : Program} {w : World} {K : PySem.W.Frag} {mg : Str → Option Value} {base : Heap} {f : Addr} {fd : FuncData}
/-! ### _law_written -/
abbrev law_written_N : List Str := ["sizes", "rows", "out", "pair"]
theorem law_written_sc : FnScope ["sizes", "rows", "out", "pair"] ["sizes", "rows"] (defScope law_written_st) := ⟨rfl, rfl, rfl, by decide +kernel, rfl, by decide +kernel, by decide +kernel⟩
def spWritten : Sp := fun vs H Q _ => ∃ (ts a : Addr) (m n : Nat) (zs : List Z), vs = [.ref ts, .ref a] ∧ Sz H ts a m n zs ∧ zs.length ≤ 16 ∧ Q (.str (wrT m n (zs.map (·.2)))) H
theorem ok_written (F : FnS K "_law_written" law_written_st f fd) (m_str : mg "str" = none) : FnOk P w K mg base (L2N.CX P w) 1 f fd ["sizes", "rows"] spWritten := by
  refine F.ok law_written_sc (fun vs H Q E h => ?_) (fun cdv A outer s H vs Q E hr h => ?_)
  · obtain ⟨ts, a, m, n, zs, rfl, _⟩ := h
    rfl
  · obtain ⟨ts, a, m, n, zs, rfl, S, few, q⟩ := h
    have hs := S.hs
    have m8 := S.m8
    have n8 := S.n8
    have k1 := sI_ok m m8
    have k2 := sI_ok n n8
    have big := small1000 (show 100 ≤ 1000 by decide)
    have in8 : ∀ c ∈ zs.map (·.2), c.1 ≤ 8 ∧ c.2 ≤ 8 := fun c hc => by
      obtain ⟨z, hz, rfl⟩ := List.mem_map.mp hc
      have := S.inr z hz
      omega
    have l1 : (sI m ++ (" x " : Str)).length = 4 := by rw [len_app, k1.1]; rfl
    have l2 : ((sI m ++ (" x " : Str)) ++ sI n).length = 5 := by rw [len_app, l1, k2.1]
    have c1 : (":" : Str).length = 1 := by decide +kernel
    have c2 : (" x " : Str).length = 3 := by decide +kernel
    have c3 : (" " : Str).length = 1 := by decide +kernel
    have c4 : ("-" : Str).length = 1 := by decide +kernel
    refine ⟨_, (pss_cons (ps_set (i := 2) law_written_sc.nd rfl (Or.inl rfl) (pe_op op_add_str (pe_op op_add_str (pe_op op_add_str (pe_callTy call_str_int (by rfl) m_str (by decide +kernel) (pa_cons (pe_ix ix_tup (pv 0) pe_int (fun _ _ => rfl)) pa_nil)) pe_str) (pe_callTy call_str_int (by rfl) m_str (by decide +kernel) (pa_cons (pe_ix ix_tup (pv 0) pe_int (fun _ _ => rfl)) pa_nil))) pe_str))
      (pss_cons (ps_for (passes_of rfl) rfl (pi_list (pv 1)) (pg_name (i := 3) law_written_sc.nd rfl (Or.inl rfl))
      (pss_one (ps_set (i := 2) law_written_sc.nd rfl (Or.inl rfl) (pe_op op_add_str (pe_op op_add_str (pe_op op_add_str (pe_op op_add_str (pv 2) pe_str) (pe_callTy call_str_int (by rfl) m_str (by decide +kernel) (pa_cons (pe_ix ix_tup (pv 3) pe_int (fun _ _ => rfl)) pa_nil))) pe_str) (pe_callTy call_str_int (by rfl) m_str (by decide +kernel) (pa_cons (pe_ix ix_tup (pv 3) pe_int (fun _ _ => rfl)) pa_nil))))))
      (pss_one (ps_ret (pv 2))))), ?_⟩
    refine ⟨.ref ts, rfl, ts, _, 0, nV m, rfl, rfl, sqt hs, rfl, (m : Int), rfl, k1.2, sI m, (" x " : Str), rfl, rfl, by rw [k1.1, c2]; omega, ?_⟩
    refine ⟨.ref ts, rfl, ts, _, 1, nV n, rfl, rfl, sqt hs, rfl, (n : Int), rfl, k2.2, _, sI n, rfl, rfl, by rw [l1, k2.1]; omega, _, (":" : Str), rfl, rfl, by rw [l2, c1]; omega, ?_⟩
    refine ⟨.ref a, rfl, a, rfl, ⟨_, sq S.ha⟩, ?_⟩
    refine for_list (K := K) (a := a) (xs := zs.map zV) (fun j σ H' => ∃ y : Option V, σ = [some (.ref ts), some (.ref a), some (.str (wrT m n ((zs.map (·.2)).take j))), y] ∧ H' = H) ⟨none, rfl, rfl⟩ (fun j σ H' _ g => ?_) (fun j x σ H' hx g => ?_) (fun σ H' g => ?_)
    · obtain ⟨y, _, rfl⟩ := g
      exact sq S.ha
    · obtain ⟨y, rfl, rfl⟩ := g
      obtain ⟨z, ez, mz, rfl⟩ := item_zV hx
      have hz := S.pr z mz
      have hj : j < 16 := Nat.lt_of_lt_of_le (List.getElem?_eq_some_iff.mp ez).1 few
      have i1 := S.inr z mz
      have d1 := sI_ok z.2.1 (by omega)
      have d2 := sI_ok z.2.2 (by omega)
      obtain ⟨o, ho⟩ : ∃ o, o = wrT m n ((zs.map (·.2)).take j) := ⟨_, rfl⟩
      have lo : o.length ≤ 70 := by
        rw [ho, wrT_len m8 n8 fun c hc => in8 c (List.mem_of_mem_take hc), List.length_take]
        omega
      have e : wrT m n ((zs.map (·.2)).take (j + 1)) = (((o ++ (" " : Str)) ++ sI z.2.1) ++ ("-" : Str)) ++ sI z.2.2 := by
        rw [List.take_add_one, zs_at ez, ho]
        unfold wrT
        rw [List.foldl_append]
        rfl
      rw [← ho, e]
      have q1 : (o ++ (" " : Str)).length = o.length + 1 := by rw [len_app, c3]
      have q2 : ((o ++ (" " : Str)) ++ sI z.2.1).length = o.length + 2 := by rw [len_app, q1, d1.1]
      have q3 : (((o ++ (" " : Str)) ++ sI z.2.1) ++ ("-" : Str)).length = o.length + 3 := by rw [len_app, q2, c4]
      refine ⟨.str o, rfl, o, (" " : Str), rfl, rfl, by omega, .ref z.1, rfl, z.1, _, 0, nV z.2.1, rfl, rfl, sqt hz, rfl, (z.2.1 : Int), rfl, d1.2, _, sI z.2.1, rfl, rfl, by rw [q1, d1.1]; omega, _, ("-" : Str), rfl, rfl, by rw [q2, c4]; omega, .ref z.1, rfl, z.1, _, 1, nV z.2.2, rfl, rfl, sqt hz, rfl, (z.2.2 : Int), rfl, d2.2, _, sI z.2.2, rfl, rfl, by rw [q3, d2.1]; omega, ?_⟩
      exact ⟨_, rfl, rfl⟩
    · obtain ⟨y, rfl, rfl⟩ := g
      rw [List.take_of_length_le (by rw [List.length_map, List.length_map]; exact Nat.le_refl _)]
      exact ⟨_, rfl, q⟩
end
end K03
set_option Elab.async false
set_option linter.all false
set_option maxRecDepth 100000
set_option maxHeartbeats 4000000
namespace K03
open PySem PySem.Spec PyProof.Rows L2
/-- a list at T that grows by new answers behind x8; H1 the heap before T, H2 with T -/
structure TL (H1 H2 H' : Hp) (T : Addr) (x8 ys : List V) (ds : List Dt) : Prop where
  sm : Same H1 H'
  dom : ∀ b, H' b = none → H2 b = none
  hT : H' T = some (.lst (x8 ++ ys))
  rs : Reps (fun a => H2 a = none) H' 3 ys ds
  an : ∀ v ∈ ys, AnsF H2 H' v
theorem AnsF.dom {H0 H1 H : Hp} {v : V} (h : AnsF H1 H v) (e : ∀ b, H1 b = none → H0 b = none) : AnsF H0 H v := by
  rcases h with h | ⟨t, w, x, rest, h1, h2, h3⟩
  · exact .inl h
  · refine .inr ⟨t, w, x, rest, h1, h2, ?_⟩
    rcases h3 with h3 | h3 | ⟨L, xs, a, b, c, d⟩
    · exact .inl h3
    · exact .inr (.inl h3)
    · exact .inr (.inr ⟨L, xs, a, e _ b, c, d⟩)
theorem TL.start {H1 : Hp} {T : Addr} {x8 : List V} (nT : H1 T = none) : TL H1 (upd H1 T (.lst x8)) (upd H1 T (.lst x8)) T x8 [] [] :=
  ⟨Same.new nT, fun _ h => h, by rw [upd_same, List.append_nil], .nil, fun _ h => nomatch h⟩
theorem TL.at_ {H1 H2 H' H'' : Hp} {T : Addr} {x8 ys : List V} {ds : List Dt} (h : TL H1 H2 H' T x8 ys ds) (s : Same H' H'') : H'' T = some (.lst (x8 ++ ys)) := s _ _ h.hT
theorem TL.step {H1 H2 H' H'' : Hp} {T : Addr} {x8 ys : List V} {ds : List Dt} {v : V} {d : Dt} (h : TL H1 H2 H' T x8 ys ds) (nT : H1 T = none) (eT : ¬ H2 T = none) (s : Same H' H'') (r : Rep (fun a => H' a = none) H'' 3 v d) (a : AnsF H' H'' v) :
    TL H1 H2 (upd H'' T (.lst (x8 ++ ys ++ [v]))) T x8 (ys ++ [v]) (ds ++ [d]) := by
  have hT := h.at_ s
  have ne : ∀ L, H2 L = none → L ≠ T := fun L hL e => eT (by rw [← e]; exact hL)
  refine ⟨(h.sm.trans s).mut nT, fun b hb => ?_, by rw [upd_same, List.append_assoc], ?_, fun u hu => ?_⟩
  · have nb : b ≠ T := fun e => by rw [e, upd_same] at hb; cases hb
    rw [upd_ne nb] at hb
    exact h.dom _ (s.back hb)
  · exact ((h.rs.keep s).snoc (r.imp fun b hb => h.dom b hb)).set hT eT
  · rcases List.mem_append.mp hu with hu | hu
    · exact ((h.an u hu).keep s).set hT fun L hL _ _ _ => ne L hL
    · rw [List.mem_singleton.mp hu]
      exact (a.dom h.dom).set hT fun L hL _ _ _ => ne L hL
theorem ans_bl {F : Addr → Prop} {H0 H : Hp} {c : Bool} : Rep F H 3 (.bl c) (.lf (.bl c)) ∧ AnsF H0 H (.bl c) := ⟨Rep.bl, .inl ⟨c, rfl⟩⟩
/-! ### the pairs that are asked for, the lots -/
abbrev AqZ := Addr × Int × Int
def aV (q : AqZ) : V := .ref q.1
def PqZ (H : Hp) (qs : List AqZ) : Prop := ∀ q ∈ qs, H q.1 = some (pzV q.2.1 q.2.2)
theorem PqZ.keep {H H' : Hp} {qs : List AqZ} (h : PqZ H qs) (e : Same H H') : PqZ H' qs := fun q m => e _ _ (h q m)
def LoZ (H : Hp) (los : List (Addr × List Int)) : Prop := ∀ z ∈ los, H z.1 = some (.lst (z.2.map V.int)) ∧ z.2.length ≤ 10
theorem LoZ.keep {H H' : Hp} {los : List (Addr × List Int)} (h : LoZ H los) (e : Same H H') : LoZ H' los := fun q m => ⟨e _ _ (h q m).1, (h q m).2⟩
def lV (z : Addr × List Int) : V := .ref z.1
def segC (m : Nat) (ps : List (Nat × Nat)) (j : Nat) : List Dt := (List.range j).map fun (i : Nat) => cuD m ps (-1 + (i : Int))
def segD (n : Nat) (ps : List (Nat × Nat)) (j : Nat) : List Dt := (List.range j).map fun (i : Nat) => deD n ps (-1 + (i : Int))
def segQ (m n : Nat) (ps : List (Nat × Nat)) (qs : List (Int × Int)) : List Dt := (qs.map fun q => [ixD m n ps q, inD ps q]).flatten
def segL (m n : Nat) (ps : List (Nat × Nat)) (ls : List (List Int)) : List Dt := ls.map (reD m n ps)
theorem segC_s (m : Nat) (ps : List (Nat × Nat)) (j : Nat) : segC m ps (j + 1) = segC m ps j ++ [cuD m ps (-1 + (j : Int))] := by
  unfold segC
  rw [List.range_succ, List.map_append]
  rfl
theorem segD_s (m : Nat) (ps : List (Nat × Nat)) (j : Nat) : segD m ps (j + 1) = segD m ps j ++ [deD m ps (-1 + (j : Int))] := by
  unfold segD
  rw [List.range_succ, List.map_append]
  rfl
theorem segQ_s (m n : Nat) (ps : List (Nat × Nat)) {qs : List AqZ} {j : Nat} {q : AqZ} (h : qs[j]? = some q) : segQ m n ps ((qs.map (·.2)).take (j + 1)) = segQ m n ps ((qs.map (·.2)).take j) ++ [ixD m n ps q.2] ++ [inD ps q.2] := by
  have e : (qs.map (·.2))[j]? = some q.2 := by rw [List.getElem?_map, h]; rfl
  unfold segQ
  rw [List.take_add_one, e, List.map_append, List.flatten_append, List.append_assoc]
  rfl
theorem segL_s (m n : Nat) (ps : List (Nat × Nat)) {los : List (Addr × List Int)} {j : Nat} {z : Addr × List Int} (h : los[j]? = some z) : segL m n ps ((los.map (·.2)).take (j + 1)) = segL m n ps ((los.map (·.2)).take j) ++ [reD m n ps z.2] := by
  have e : (los.map (·.2))[j]? = some z.2 := by rw [List.getElem?_map, h]; rfl
  unfold segL
  rw [List.take_add_one, e, List.map_append]
  rfl
theorem item_aV {qs : List AqZ} {i : Nat} {x : V} (h : (qs.map aV)[i]? = some x) : ∃ q, qs[i]? = some q ∧ q ∈ qs ∧ x = aV q := by
  rw [List.getElem?_map] at h
  cases e : qs[i]? with
  | none => rw [e] at h; cases h
  | some q =>
    rw [e] at h
    cases h
    exact ⟨q, rfl, List.mem_of_getElem? e, rfl⟩
theorem item_lV {qs : List (Addr × List Int)} {i : Nat} {x : V} (h : (qs.map lV)[i]? = some x) : ∃ q, qs[i]? = some q ∧ q ∈ qs ∧ x = lV q := by
  rw [List.getElem?_map] at h
  cases e : qs[i]? with
  | none => rw [e] at h; cases h
  | some q =>
    rw [e] at h
    cases h
    exact ⟨q, rfl, List.mem_of_getElem? e, rfl⟩
def nPc (m n : Nat) (ps : List (Nat × Nat)) : Nat := (pcs m n (labs m n ps)).length
def lpI (m n : Nat) (ps : List (Nat × Nat)) : Int := ((((ps.length : Nat) : Int) - (m : Int) - (n : Int)) + ((nPc m n ps : Nat) : Int))
/-- the first eight answers -/
def x8 (m n : Nat) (ps : List (Nat × Nat)) (r g : Addr) : List V := [nV m, nV n, .ref r, .int (lpI m n ps), .bl (decide (nPc m n ps = 1)), .int ((ps.length : Nat) : Int), .str (wrT m n ps), .ref g]
def d8 (m n : Nat) (ps : List (Nat × Nat)) : List Dt := [dNt m, dNt n, .nd false (ps.map dP), dInt (lpI m n ps), .lf (.bl (decide (nPc m n ps = 1))), dInt ((ps.length : Nat) : Int), .lf (.str (wrT m n ps)), .nd false ((pcs m n (labs m n ps)).map dPc)]
def dRest (m n : Nat) (ps : List (Nat × Nat)) (qs : List (Int × Int)) (ls : List (List Int)) : List Dt := segC m ps (m + 2) ++ segD n ps (n + 2) ++ segQ m n ps qs ++ segL m n ps ls
end K03
set_option Elab.async false
set_option linter.all false
set_option maxRecDepth 100000
set_option maxHeartbeats 4000000
namespace K03
open PySem PySem.Spec PyProof.Rows L2
theorem segC_len (m : Nat) (ps : List (Nat × Nat)) (j : Nat) : (segC m ps j).length = j := by
  unfold segC
  rw [List.length_map, List.length_range]
theorem segD_len (m : Nat) (ps : List (Nat × Nat)) (j : Nat) : (segD m ps j).length = j := by
  unfold segD
  rw [List.length_map, List.length_range]
theorem segQ_len (m n : Nat) (ps : List (Nat × Nat)) : ∀ qs : List (Int × Int), (segQ m n ps qs).length = 2 * qs.length
  | [] => rfl
  | q :: qs => by
    have ih := segQ_len m n ps qs
    unfold segQ at ih ⊢
    rw [List.map_cons, List.flatten_cons, List.length_append, ih]
    simp only [List.length_cons, List.length_nil]
    omega
theorem segL_len (m n : Nat) (ps : List (Nat × Nat)) (ls : List (List Int)) : (segL m n ps ls).length = ls.length := List.length_map _
section
variable {P : Program} {w : World} {K : PySem.W.Frag} {mg : Str → Option Value} {base : Heap} {f : Addr} {fd : FuncData}
/-! ### _law_all_told -/
abbrev law_all_told_N : List Str := ["network", "sizes", "asked", "lists", "out", "depot", "customer", "pair", "row"]
theorem law_all_told_sc : FnScope ["network", "sizes", "asked", "lists", "out", "depot", "customer", "pair", "row"] ["network", "sizes", "asked", "lists"] (defScope law_all_told_st) := ⟨rfl, rfl, rfl, by decide +kernel, rfl, by decide +kernel, by decide +kernel⟩
/-- what has been told, at T -/
structure AT (H H' : Hp) (T : Addr) (m n : Nat) (ps : List (Nat × Nat)) (qs : List (Int × Int)) (ls : List (List Int)) (r g : Addr) (zs : List Z) (us : List P4) (ys : List V) : Prop where
  sm : Same H H'
  nT : H T = none
  hT : H' T = some (.lst (x8 m n ps r g ++ ys))
  nr : H r = none
  hr : H' r = some (.lst (zs.map zV))
  pz : PrZ H' zs
  ez : zs.map (·.2) = ps
  ng : H g = none
  hg : H' g = some (.lst (us.map pV))
  pu : PcZ H' us
  fu : FrZ H us
  eu : us.map P4.d = pcs m n (labs m n ps)
  nu : ∀ z ∈ us, z.o ≠ g ∧ z.u ≠ g
  rg : r ≠ g
  rT : r ≠ T
  gT : g ≠ T
  uT : ∀ z ∈ us, z.o ≠ T ∧ z.u ≠ T
  rs : Reps (fun _ => True) H' 3 ys (dRest m n ps qs ls)
  an : ∀ v ∈ ys, AnsF H H' v
def spAllTold (C : Addr) : Sp := fun vs H Q _ => ∃ (p ts al ll : Addr) (m n : Nat) (ps : List (Nat × Nat)) (qs : List AqZ) (los : List (Addr × List Int)), vs = [.ref p, .ref ts, .ref al, .ref ll] ∧ NF C H p m n ps ∧ H ts = some (.tup [nV m, nV n]) ∧ H al = some (.lst (qs.map aV)) ∧ PqZ H qs ∧ qs.length ≤ 20 ∧ H ll = some (.lst (los.map lV)) ∧ LoZ H los ∧ los.length ≤ 4 ∧
  ∀ H' T r g zs us ys, AT H H' T m n ps (qs.map (·.2)) (los.map (·.2)) r g zs us ys → Q (.ref T) H'
theorem ok_told {C f1 f2 f3 f4 f5 p1 p2 p3 p4 p5 g1 g2 g3 g4 g5 : Addr} {fd1 fd2 fd3 fd4 fd5 gd1 gd2 gd3 gd4 gd5 : FuncData} {uP uR : Value} (F : FnS K "_law_all_told" law_all_told_st f fd) (T0 : NetC K C uP uR) (m_len : mg "len" = none) (m_str : mg "str" = none) (m_range : mg "range" = none) (m_list : mg "list" = none)
    (P_depots : PrD P w K mg base 1 C "depots" (spNum C fun m _ _ _ => nV m) p1 g1 gd1) (P_customers : PrD P w K mg base 1 C "customers" (spNum C fun _ n _ _ => nV n) p2 g2 gd2) (P_routes : PrD P w K mg base 1 C "routes" (spRoutes C) p3 g3 gd3)
    (P_loops : PrD P w K mg base 1 C "loops" (spNum C fun m n zs ws => .int ((((zs.length : Nat) : Int) - (m : Int) - (n : Int)) + (ws.length : Nat))) p4 g4 gd4) (P_joined : PrD P w K mg base 1 C "joined" (spNum C fun _ _ _ ws => .bl (decide (ws.length = 1))) p5 g5 gd5)
    (O_len : OwD P w K mg base 1 C "__len__" ["self"] (spNum C fun _ _ zs _ => .int ((zs.length : Nat) : Int)) f1 fd1) (O_str : OwD P w K mg base 1 C "__str__" ["self"] (spStr C) f2 fd2) (O_has : OwD P w K mg base 1 C "__contains__" ["self", "route"] (spHas C) f3 fd3)
    (M_p : MtD P w K mg base 1 C "pieces" ["self"] (spPieces C) f4 fd4) (D_law_ask : Dn P w K mg base 6 "_law_ask" ["network", "word", "thing"] (spAsk K C) f5 fd5) :
    FnOk P w K mg base (L2N.CX P w) 7 f fd ["network", "sizes", "asked", "lists"] (spAllTold C) := by
  refine F.ok law_all_told_sc (fun vs H Q E h => ?_) (fun cdv A outer s H vs Q E hr h => ?_)
  · obtain ⟨p, ts, al, ll, m, n, ps, qs, los, rfl, _⟩ := h
    rfl
  · obtain ⟨p, ts, al, ll, m, n, ps, qs, los, rfl, ⟨zn, wn, N, ix, nd, rfl⟩, hs, ha, hq, q20, hll, hlo, l4, q⟩ := h
    obtain ⟨dx, r0, di0, g0, hp, _⟩ := N.ob
    have m8 := N.m8
    have n8 := N.n8
    have NFp : NF C H p m n (zn.map (·.2)) := ⟨zn, wn, N, ix, nd, rfl⟩
    have ewn : wn.length = nPc m n (zn.map (·.2)) := by
      have := congrArg List.length N.due
      rw [List.length_map] at this
      exact this
    have few : zn.length ≤ 16 := N.few
    refine ⟨_, (pss_cons (ps_set (i := 4) law_all_told_sc.nd rfl (Or.inl rfl) (pe_lst (pa_cons (pe_prop (pv 0) T0.cl P_depots.po P_depots.ok (hr.mono (by decide)) P_depots.b .nil ErrX.passN rfl) (pa_cons (pe_prop (pv 0) T0.cl P_customers.po P_customers.ok (hr.mono (by decide)) P_customers.b .nil ErrX.passN rfl) (pa_cons (pe_prop (pv 0) T0.cl P_routes.po P_routes.ok (hr.mono (by decide)) P_routes.b .nil ErrX.passN rfl) (pa_cons (pe_prop (pv 0) T0.cl P_loops.po P_loops.ok (hr.mono (by decide)) P_loops.b .nil ErrX.passN rfl) pa_nil))))))
      (pss_cons (ps_set (i := 4) law_all_told_sc.nd rfl (Or.inl rfl) (pe_op op_cat (pv 4) (pe_lst (pa_cons (pe_prop (pv 0) T0.cl P_joined.po P_joined.ok (hr.mono (by decide)) P_joined.b .nil ErrX.passN rfl) (pa_cons (pe_callB (OwnM.call_lenO O_len.ok (hr.mono (by decide)) O_len.b ErrX.passN O_len.s O_len.fn) (by rfl) m_len (by decide +kernel) (pa_cons (pv 0) pa_nil)) (pa_cons (pe_callTy (OwnM.call_strO O_str.ok (hr.mono (by decide)) O_str.b ErrX.passN O_str.s O_str.fn) (by rfl) m_str (by decide +kernel) (pa_cons (pv 0) pa_nil)) (pa_cons (pe_meth0 (pv 0) T0.cl M_p.m M_p.ok (hr.mono (by decide)) M_p.b .nil ErrX.passN) pa_nil)))))))
      (pss_cons (ps_for (passes_of rfl) rfl (pi_range2 rfl m_range (pa_cons (pe_un un_neg pe_int) (pa_cons (pe_op op_add (pe_ix ix_tup (pv 1) pe_int (fun _ _ => rfl)) pe_int) pa_nil))) (pg_name (i := 5) law_all_told_sc.nd rfl (Or.inl rfl))
      (pss_one (ps_expr (pe_bm PySem.F.plainAttrs_list PySem.F.slot_list_append PySem.F.type_list_append mt_append (pv 4) (pa_cons (pe_call D_law_ask.ok (hr.mono (by decide)) rfl D_law_ask.g D_law_ask.kp D_law_ask.b .nil ErrX.passN (pa_cons (pv 0) (pa_cons pe_str (pa_cons (pv 5) pa_nil)))) pa_nil)))))
      (pss_cons (ps_for (passes_of rfl) rfl (pi_range2 rfl m_range (pa_cons (pe_un un_neg pe_int) (pa_cons (pe_op op_add (pe_ix ix_tup (pv 1) pe_int (fun _ _ => rfl)) pe_int) pa_nil))) (pg_name (i := 6) law_all_told_sc.nd rfl (Or.inl rfl))
      (pss_one (ps_expr (pe_bm PySem.F.plainAttrs_list PySem.F.slot_list_append PySem.F.type_list_append mt_append (pv 4) (pa_cons (pe_call D_law_ask.ok (hr.mono (by decide)) rfl D_law_ask.g D_law_ask.kp D_law_ask.b .nil ErrX.passN (pa_cons (pv 0) (pa_cons pe_str (pa_cons (pv 6) pa_nil)))) pa_nil)))))
      (pss_cons (ps_for (passes_of rfl) rfl (pi_list (pv 2)) (pg_name (i := 7) law_all_told_sc.nd rfl (Or.inl rfl))
      (pss_cons (ps_expr (pe_bm PySem.F.plainAttrs_list PySem.F.slot_list_append PySem.F.type_list_append mt_append (pv 4) (pa_cons (pe_call D_law_ask.ok (hr.mono (by decide)) rfl D_law_ask.g D_law_ask.kp D_law_ask.b .nil ErrX.passN (pa_cons (pv 0) (pa_cons pe_str (pa_cons (pv 7) pa_nil)))) pa_nil)))
      (pss_one (ps_expr (pe_bm PySem.F.plainAttrs_list PySem.F.slot_list_append PySem.F.type_list_append mt_append (pv 4) (pa_cons (pe_cmpR (OwnM.op_inO O_has.ok (hr.mono (by decide)) O_has.b ErrX.passN O_has.s O_has.fn) (pv 7) (pv 0) rfl) pa_nil))))))
      (pss_cons (ps_for (passes_of rfl) rfl (pi_list (pv 3)) (pg_name (i := 8) law_all_told_sc.nd rfl (Or.inl rfl))
      (pss_one (ps_expr (pe_bm PySem.F.plainAttrs_list PySem.F.slot_list_append PySem.F.type_list_append mt_append (pv 4) (pa_cons (pe_call D_law_ask.ok (hr.mono (by decide)) rfl D_law_ask.g D_law_ask.kp D_law_ask.b .nil ErrX.passN (pa_cons (pv 0) (pa_cons pe_str (pa_cons (pe_callTy call_list_of (by rfl) m_list (by decide +kernel) (pa_cons (pv 8) pa_nil)) pa_nil)))) pa_nil)))))
      (pss_one (ps_ret (pv 4))))))))), ?_⟩
    have big := small1000 (show 100 ≤ 1000 by decide)
    refine ⟨.ref p, rfl, p, dx, _, rfl, hp, p, m, n, zn, wn, rfl, N, .ref p, rfl, p, dx, _, rfl, hp, p, m, n, zn, wn, rfl, N, .ref p, rfl, p, dx, _, rfl, hp, p, m, n, zn, wn, rfl, N, fun H1 r s1 nr hr1 => ?_⟩
    refine ⟨.ref p, rfl, p, dx, _, rfl, s1 _ _ hp, p, m, n, zn, wn, rfl, N.keep s1, ?_, fun o1 no1 => ?_⟩
    · show 4 ≤ sizeLine
      omega
    have s2 := s1.trans (Same.new (o := .lst [nV m, nV n, .ref r, .int ((((zn.length : Nat) : Int) - (m : Int) - (n : Int)) + (wn.length : Nat))]) no1)
    have ho1 : (upd H1 o1 (.lst [nV m, nV n, .ref r, .int ((((zn.length : Nat) : Int) - (m : Int) - (n : Int)) + (wn.length : Nat))])) o1 = some (.lst [nV m, nV n, .ref r, .int ((((zn.length : Nat) : Int) - (m : Int) - (n : Int)) + (wn.length : Nat))]) := upd_same
    have hr2 : (upd H1 o1 (.lst [nV m, nV n, .ref r, .int ((((zn.length : Nat) : Int) - (m : Int) - (n : Int)) + (wn.length : Nat))])) r = some (.lst (zn.map zV)) := by
      rw [upd_ne (ne_of_none hr1 no1)]
      exact hr1
    generalize upd H1 o1 (.lst [nV m, nV n, .ref r, .int ((((zn.length : Nat) : Int) - (m : Int) - (n : Int)) + (wn.length : Nat))]) = H2 at s2 ho1 hr2 ⊢
    refine ⟨.ref o1, rfl, .ref p, rfl, p, dx, _, rfl, s2 _ _ hp, p, m, n, zn, wn, rfl, N.keep s2, .ref p, rfl, p, dx, _, rfl, s2 _ _ hp, p, m, n, zn, wn, rfl, N.keep s2, zn.length, by omega, rfl, .ref p, rfl, p, dx, _, rfl, s2 _ _ hp, p, m, n, zn, wn, rfl, N.keep s2, fun H3 s3 => ⟨_, rfl, ?_⟩⟩
    have ho3 := s3 _ _ ho1
    have hr3 := s3 _ _ hr2
    replace s3 := s2.trans s3
    refine ⟨.ref p, rfl, p, dx, _, rfl, s3 _ _ hp, nf_no _ _ _ _ _ (by decide) (by decide) (by decide) (by decide) (by decide), p, m, n, zn, wn, rfl, N.keep s3, fun H4 g us s4 ng hg pu fu eu nu => ?_⟩
    have ho4 := s4 _ _ ho3
    have hr4 := s4 _ _ hr3
    have ng0 := s3.back ng
    have fu0 : FrZ H us := fun z hz => ⟨s3.back (fu z hz).1, s3.back (fu z hz).2.1, s3.back (fu z hz).2.2⟩
    replace s4 := s3.trans s4
    have eul : us.length = nPc m n (zn.map (·.2)) := by
      have := congrArg List.length eu
      rw [List.length_map] at this
      exact this
    refine ⟨?_, fun l nl => ?_⟩
    · show 4 ≤ sizeLine
      omega
    have s5 := Same.new (o := .lst [.bl (decide (wn.length = 1)), .int ((zn.length : Nat) : Int), .str (wrT m n (zn.map (·.2))), .ref g]) nl
    refine ⟨o1, l, _, _, rfl, rfl, s5 _ _ ho4, upd_same, by show 4 + 4 ≤ sizeLine; omega, fun T nT => ?_⟩
    have hr5 := s5 _ _ hr4
    have hg5 := s5 _ _ hg
    have pu5 := pu.keep s5
    replace s5 := s4.trans s5
    generalize upd H4 l (.lst [.bl (decide (wn.length = 1)), .int ((zn.length : Nat) : Int), .str (wrT m n (zn.map (·.2))), .ref g]) = H5 at s5 hr5 hg5 pu5 nT ⊢
    have ex : ([nV m, nV n, .ref r, .int ((((zn.length : Nat) : Int) - (m : Int) - (n : Int)) + (wn.length : Nat))] ++ [.bl (decide (wn.length = 1)), .int ((zn.length : Nat) : Int), .str (wrT m n (zn.map (·.2))), .ref g] : List V) = x8 m n (zn.map (·.2)) r g := by
      unfold x8 lpI
      rw [ewn, List.length_map]
      rfl
    rw [ex]
    have st := TL.start (H1 := H5) (x8 := x8 m n (zn.map (·.2)) r g) nT
    have eT : ¬ (upd H5 T (.lst (x8 m n (zn.map (·.2)) r g))) T = none := fun e => by rw [upd_same] at e; cases e
    generalize upd H5 T (.lst (x8 m n (zn.map (·.2)) r g)) = H6 at st eT ⊢
    have nd' := nd
    refine ⟨1, rfl, .ref ts, rfl, ts, _, 0, nV m, rfl, rfl, sqt ((s5.trans st.sm) _ _ hs), rfl, (m : Int), 1, rfl, rfl, -1, (m : Int) + 1, rfl, by omega, ?_⟩
    rw [show ((m : Int) + 1 - -1).toNat = m + 2 by omega]
    refine for_range (lo := -1) (n := m + 2) (fun i σ H' => ∃ (y5 y6 y7 y8 : Option V) (ys : List V), σ = [some (.ref p), some (.ref ts), some (.ref al), some (.ref ll), some (.ref T), y5, y6, y7, y8] ∧ TL H5 H6 H' T (x8 m n (zn.map (·.2)) r g) ys (segC m (zn.map (·.2)) i)) ⟨none, none, none, none, [], rfl, st⟩ (fun i σ H' hi h => ?_) (fun σ H' h => ?_)
    · obtain ⟨y5, y6, y7, y8, ys, rfl, L⟩ := h
      refine ⟨.ref T, rfl, .inl ⟨rfl, _, sq L.hT⟩, .ref p, rfl, .int (-1 + (i : Int)), rfl, p, "customers_of", .int (-1 + (i : Int)), m, n, _, rfl, NFp.keep (s5.trans L.sm), .inl ⟨rfl, _, rfl, fun H'' v sv rv av => ?_⟩⟩
      refine ⟨T, _, v, rfl, rfl, L.at_ sv, small1000 (by have := L.rs.1; rw [segC_len] at this; rw [List.length_append, this]; show 8 + i ≤ 1000; omega), ?_⟩
      refine ⟨_, _, _, _, ys ++ [v], rfl, ?_⟩
      rw [segC_s]
      exact L.step nT eT sv rv av
    obtain ⟨y5, y6, y7, y8, ys, rfl, L⟩ := h
    refine ⟨1, rfl, .ref ts, rfl, ts, _, 1, nV n, rfl, rfl, sqt ((s5.trans L.sm) _ _ hs), rfl, (n : Int), 1, rfl, rfl, -1, (n : Int) + 1, rfl, by omega, ?_⟩
    rw [show ((n : Int) + 1 - -1).toNat = n + 2 by omega]
    have L0 : TL H5 H6 H' T (x8 m n (zn.map (·.2)) r g) ys (segC m (zn.map (·.2)) (m + 2) ++ segD n (zn.map (·.2)) 0) := by
      show TL H5 H6 H' T (x8 m n (zn.map (·.2)) r g) ys (segC m (zn.map (·.2)) (m + 2) ++ [])
      rw [List.append_nil]
      exact L
    refine for_range (lo := -1) (n := n + 2) (fun i σ H' => ∃ (y5 y6 y7 y8 : Option V) (ys : List V), σ = [some (.ref p), some (.ref ts), some (.ref al), some (.ref ll), some (.ref T), y5, y6, y7, y8] ∧ TL H5 H6 H' T (x8 m n (zn.map (·.2)) r g) ys (segC m (zn.map (·.2)) (m + 2) ++ segD n (zn.map (·.2)) i)) ⟨_, _, _, _, ys, rfl, L0⟩ (fun i σ H' hi h => ?_) (fun σ H' h => ?_)
    · obtain ⟨y5, y6, y7, y8, ys, rfl, L⟩ := h
      refine ⟨.ref T, rfl, .inl ⟨rfl, _, sq L.hT⟩, .ref p, rfl, .int (-1 + (i : Int)), rfl, p, "depots_of", .int (-1 + (i : Int)), m, n, _, rfl, NFp.keep (s5.trans L.sm), .inr (.inl ⟨rfl, _, rfl, fun H'' v sv rv av => ?_⟩)⟩
      refine ⟨T, _, v, rfl, rfl, L.at_ sv, small1000 (by have := L.rs.1; rw [List.length_append, segC_len, segD_len] at this; rw [List.length_append, this]; show 8 + (m + 2 + i) ≤ 1000; omega), ?_⟩
      refine ⟨_, _, _, _, ys ++ [v], rfl, ?_⟩
      rw [segD_s, ← List.append_assoc]
      exact L.step nT eT sv rv av
    clear L0 L ys y5 y6 y7 y8
    obtain ⟨y5, y6, y7, y8, ys, rfl, L⟩ := h
    refine ⟨.ref al, rfl, al, rfl, ⟨_, sq ((s5.trans L.sm) _ _ ha)⟩, ?_⟩
    have L0 : TL H5 H6 H' T (x8 m n (zn.map (·.2)) r g) ys (segC m (zn.map (·.2)) (m + 2) ++ segD n (zn.map (·.2)) (n + 2) ++ segQ m n (zn.map (·.2)) ((qs.map (·.2)).take 0)) := by
      show TL H5 H6 H' T (x8 m n (zn.map (·.2)) r g) ys (segC m (zn.map (·.2)) (m + 2) ++ segD n (zn.map (·.2)) (n + 2) ++ [])
      rw [List.append_nil]
      exact L
    refine for_list (K := K) (a := al) (xs := qs.map aV) (fun i σ H' => ∃ (y5 y6 y7 y8 : Option V) (ys : List V), σ = [some (.ref p), some (.ref ts), some (.ref al), some (.ref ll), some (.ref T), y5, y6, y7, y8] ∧ TL H5 H6 H' T (x8 m n (zn.map (·.2)) r g) ys (segC m (zn.map (·.2)) (m + 2) ++ segD n (zn.map (·.2)) (n + 2) ++ segQ m n (zn.map (·.2)) ((qs.map (·.2)).take i))) ⟨_, _, _, _, ys, rfl, L0⟩ (fun i σ H' _ h => ?_) (fun i x σ H' hx h => ?_) (fun σ H' h => ?_)
    · obtain ⟨_, _, _, _, _, _, L⟩ := h
      exact sq ((s5.trans L.sm) _ _ ha)
    · obtain ⟨y5, y6, y7, y8, ys, rfl, L⟩ := h
      obtain ⟨z, ez, mz, rfl⟩ := item_aV hx
      have hi : i < qs.length := (List.getElem?_eq_some_iff.mp ez).1
      have hz := hq z mz
      have len := L.rs.1
      rw [List.length_append, List.length_append, segC_len, segD_len, segQ_len, List.length_take, List.length_map] at len
      refine ⟨.ref T, rfl, .inl ⟨rfl, _, sq L.hT⟩, .ref p, rfl, aV z, rfl, p, "index_of", aV z, m, n, _, rfl, NFp.keep (s5.trans L.sm), .inr (.inr (.inr ⟨rfl, z.1, z.2.1, z.2.2, rfl, (s5.trans L.sm) _ _ hz, fun H'' v sv rv av => ?_⟩))⟩
      refine ⟨T, _, v, rfl, rfl, L.at_ sv, small1000 (by rw [List.length_append, len]; show 8 + _ ≤ 1000; omega), ?_⟩
      have L2 := L.step nT eT sv rv av
      generalize upd H'' T (.lst (x8 m n (zn.map (·.2)) r g ++ ys ++ [v])) = H7 at L2 ⊢
      refine ⟨.ref T, rfl, .inl ⟨rfl, _, sq L2.hT⟩, aV z, rfl, .ref p, rfl, p, dx, _, rfl, (s5.trans L2.sm) _ _ hp, p, z.1, z.2.1, z.2.2, zn, rfl, ix.keep (s5.trans L2.sm), nd, (s5.trans L2.sm) _ _ hz, _, rfl, ?_⟩
      refine ⟨T, _, .bl (fx (zn.map (·.2)) z.2.1 z.2.2).isSome, rfl, rfl, L2.hT, small1000 (by rw [List.length_append, List.length_append, len]; show 8 + (_ + 1) ≤ 1000; omega), ?_⟩
      refine ⟨_, _, _, _, ys ++ [v] ++ [.bl (fx (zn.map (·.2)) z.2.1 z.2.2).isSome], rfl, ?_⟩
      have L3 := L2.step nT eT (Same.refl _) (ans_bl (F := fun a => H7 a = none) (H0 := H7) (c := (fx (zn.map (·.2)) z.2.1 z.2.2).isSome)).1 (ans_bl (F := fun a => H7 a = none)).2
      rw [segQ_s m n (zn.map (·.2)) ez]
      simp only [← List.append_assoc] at L3 ⊢
      exact L3
    clear L0 L ys y5 y6 y7 y8
    obtain ⟨y5, y6, y7, y8, ys, rfl, L⟩ := h
    rw [List.length_map, List.take_of_length_le (by rw [List.length_map]; exact Nat.le_refl _)] at L
    refine ⟨.ref ll, rfl, ll, rfl, ⟨_, sq ((s5.trans L.sm) _ _ hll)⟩, ?_⟩
    have L0 : TL H5 H6 H' T (x8 m n (zn.map (·.2)) r g) ys (segC m (zn.map (·.2)) (m + 2) ++ segD n (zn.map (·.2)) (n + 2) ++ segQ m n (zn.map (·.2)) (qs.map (·.2)) ++ segL m n (zn.map (·.2)) ((los.map (·.2)).take 0)) := by
      show TL H5 H6 H' T (x8 m n (zn.map (·.2)) r g) ys (segC m (zn.map (·.2)) (m + 2) ++ segD n (zn.map (·.2)) (n + 2) ++ segQ m n (zn.map (·.2)) (qs.map (·.2)) ++ [])
      rw [List.append_nil]
      exact L
    refine for_list (K := K) (a := ll) (xs := los.map lV) (fun i σ H' => ∃ (y5 y6 y7 y8 : Option V) (ys : List V), σ = [some (.ref p), some (.ref ts), some (.ref al), some (.ref ll), some (.ref T), y5, y6, y7, y8] ∧ TL H5 H6 H' T (x8 m n (zn.map (·.2)) r g) ys (segC m (zn.map (·.2)) (m + 2) ++ segD n (zn.map (·.2)) (n + 2) ++ segQ m n (zn.map (·.2)) (qs.map (·.2)) ++ segL m n (zn.map (·.2)) ((los.map (·.2)).take i))) ⟨_, _, _, _, ys, rfl, L0⟩ (fun i σ H' _ h => ?_) (fun i x σ H' hx h => ?_) (fun σ H' h => ?_)
    · obtain ⟨_, _, _, _, _, _, L⟩ := h
      exact sq ((s5.trans L.sm) _ _ hll)
    · obtain ⟨y5, y6, y7, y8, ys, rfl, L⟩ := h
      obtain ⟨z, ez, mz, rfl⟩ := item_lV hx
      have hi : i < los.length := (List.getElem?_eq_some_iff.mp ez).1
      have hz := hlo z mz
      have len := L.rs.1
      rw [List.length_append, List.length_append, List.length_append, segC_len, segD_len, segQ_len, segL_len, List.length_take, List.length_map, List.length_map] at len
      refine ⟨.ref T, rfl, .inl ⟨rfl, _, sq L.hT⟩, .ref p, rfl, lV z, rfl, z.1, _, rfl, .inl (sq ((s5.trans L.sm) _ _ hz.1)), fun lc nlc => ?_⟩
      have sc := Same.new (o := .lst (z.2.map V.int)) nlc
      refine ⟨p, "reach", .ref lc, m, n, _, rfl, NFp.keep ((s5.trans L.sm).trans sc), .inr (.inr (.inl ⟨rfl, lc, z.2, rfl, upd_same, hz.2, fun H'' v sv rv av => ?_⟩))⟩
      refine ⟨T, _, v, rfl, rfl, L.at_ (sc.trans sv), small1000 (by rw [List.length_append, len]; show 8 + _ ≤ 1000; omega), ?_⟩
      refine ⟨_, _, _, _, ys ++ [v], rfl, ?_⟩
      rw [segL_s m n (zn.map (·.2)) ez, ← List.append_assoc]
      exact L.step nT eT (sc.trans sv) (rv.imp fun b hb => sc.back hb) (av.from sc)
    clear L0 L ys y5 y6 y7 y8
    obtain ⟨y5, y6, y7, y8, ys, rfl, L⟩ := h
    rw [List.length_map, List.take_of_length_le (by rw [List.length_map]; exact Nat.le_refl _)] at L
    have sF := s5.trans L.sm
    refine ⟨.ref T, rfl, q H' T r g zn us ys ⟨sF, s5.back nT, L.hT, nr, L.sm _ _ hr5, (N.keep sF).pr, rfl, ng0, L.sm _ _ hg5, pu5.keep L.sm, fu0, eu, nu, ne_of_none hr3 ng, ne_of_none hr5 nT, ne_of_none hg5 nT, fun z hz => ⟨ne_of_none (pu5 z hz).ho nT, ne_of_none (pu5 z hz).hu nT⟩, L.rs.imp fun _ _ => trivial, fun v hv => ?_⟩⟩
    exact (L.an v hv).dom fun b hb => s5.back (st.sm.back hb)
end
end K03
set_option Elab.async false
set_option linter.all false
set_option maxRecDepth 100000
set_option maxHeartbeats 4000000
namespace K03
open PySem PySem.Spec PyProof.Rows L2
theorem pcs_short {m n : Nat} {L : List Nat} (m8 : m ≤ 8) (n8 : n ≤ 8) {d : List Nat × List Nat} (h : d ∈ pcs m n L) : d.1.length ≤ 100 ∧ d.2.length ≤ 100 := by
  obtain ⟨k, _, rfl⟩ := List.mem_map.mp h
  have h1 := List.length_filter_le (fun i => decide (L.getD i 0 = k)) (List.range m)
  have h2 := List.length_filter_le (fun c => decide (L.getD (m + c) 0 = k)) (List.range n)
  rw [List.length_range] at h1 h2
  show (ours m L k).length ≤ 100 ∧ (theirs m n L k).length ≤ 100
  unfold ours theirs
  omega
theorem pcs_len {m n : Nat} {L : List Nat} (hl : L.length = m + n) : (pcs m n L).length ≤ m + n := by
  unfold pcs heads
  rw [List.length_map]
  have := List.length_filter_le (fun k => decide (L.getD k 0 = k)) (List.range L.length)
  rw [List.length_range] at this
  omega
theorem told_ans {H H' : Hp} {t : Addr} {m n : Nat} {ps : List (Nat × Nat)} {ns : List Int} (h : Told H H' t (due m ns) (rch n ps ns)) (hl : (rch n ps ns).length ≤ 100) : Rep (fun a => H a = none) H' 3 (.ref t) (reD m n ps ns) ∧ AnsF H H' (.ref t) := by
  obtain ⟨nt, h⟩ := h
  unfold reD
  cases e : due m ns with
  | none =>
    rw [e] at h
    obtain ⟨u, nu, h1, h2⟩ := h
    exact ans_told nu h1 h2 hl
  | some bx =>
    obtain ⟨b, x⟩ := bx
    rw [e] at h
    exact ans_ref h Rep.int
theorem AT.reps {H H' : Hp} {T : Addr} {m n : Nat} {ps : List (Nat × Nat)} {qs : List (Int × Int)} {ls : List (List Int)} {r g : Addr} {zs : List Z} {us : List P4} {ys : List V} (h : AT H H' T m n ps qs ls r g zs us ys) (m8 : m ≤ 8) (n8 : n ≤ 8) (l16 : ps.length ≤ 16) : Reps (fun _ => True) H' 3 (x8 m n ps r g ++ ys) (d8 m n ps ++ dRest m n ps qs ls) := by
  refine Reps.append ?_ h.rs
  have lz : zs.length ≤ 16 := by
    have := congrArg List.length h.ez
    rw [List.length_map] at this
    omega
  have lu : us.length ≤ 16 := by
    have h1 := congrArg List.length h.eu
    rw [List.length_map] at h1
    have := pcs_len (labs_len m n ps)
    omega
  have e1 : Rep (fun _ => True) H' 3 (.ref r) (.nd false (ps.map dP)) := by
    rw [← h.ez]
    exact Rep.lst h.hr trivial (reps_z h.pz) (by rw [List.length_map]; omega)
  have e2 : Rep (fun _ => True) H' 3 (.ref g) (.nd false ((pcs m n (labs m n ps)).map dPc)) := by
    rw [← h.eu]
    refine Rep.lst h.hg trivial (reps_pc h.pu fun z hz => ⟨⟨trivial, trivial⟩, ?_⟩) (by rw [List.length_map]; omega)
    have hm : z.d ∈ pcs m n (labs m n ps) := by
      rw [← h.eu]
      exact List.mem_map_of_mem hz
    exact pcs_short m8 n8 hm
  exact .cons Rep.int (.cons Rep.int (.cons e1 (.cons Rep.int (.cons Rep.bl (.cons Rep.int (.cons Rep.str (.cons e2 .nil)))))))
section
variable {P : Program} {w : World} {K : PySem.W.Frag} {mg : Str → Option Value} {base : Heap} {f : Addr} {fd : FuncData}
/-! ### _law_all_due -/
abbrev law_all_due_N : List Str := ["sizes", "rows", "asked", "lists", "parts", "loops", "out", "depot", "customer", "pair", "row"]
theorem law_all_due_sc : FnScope ["sizes", "rows", "asked", "lists", "parts", "loops", "out", "depot", "customer", "pair", "row"] ["sizes", "rows", "asked", "lists"] (defScope law_all_due_st) := ⟨rfl, rfl, rfl, by decide +kernel, rfl, by decide +kernel, by decide +kernel⟩
def spAllDue : Sp := fun vs H Q _ => ∃ (ts a al ll : Addr) (m n : Nat) (zs : List Z) (qs : List AqZ) (los : List (Addr × List Int)), vs = [.ref ts, .ref a, .ref al, .ref ll] ∧ Sz H ts a m n zs ∧ zs.length ≤ 16 ∧ H al = some (.lst (qs.map aV)) ∧ PqZ H qs ∧ qs.length ≤ 20 ∧ H ll = some (.lst (los.map lV)) ∧ LoZ H los ∧ los.length ≤ 4 ∧
  ∀ H' T r g zs' us ys, AT H H' T m n (zs.map (·.2)) (qs.map (·.2)) (los.map (·.2)) r g zs' us ys → Q (.ref T) H'
theorem ok_due {f1 f2 f3 f4 : Addr} {fd1 fd2 fd3 fd4 : FuncData} (F : FnS K "_law_all_due" law_all_due_st f fd) (m_len : mg "len" = none) (m_range : mg "range" = none) (m_list : mg "list" = none)
    (D_law_pieces_due : Dn P w K mg base 2 "_law_pieces_due" ["sizes", "rows"] spPiecesDue f1 fd1) (D_law_written : Dn P w K mg base 1 "_law_written" ["sizes", "rows"] spWritten f2 fd2) (D_law_index_due : Dn P w K mg base 1 "_law_index_due" ["sizes", "rows", "pair"] spIxDue f3 fd3) (D_law_reach_due : Dn P w K mg base 1 "_law_reach_due" ["sizes", "rows", "lot"] (spReachDue K) f4 fd4) :
    FnOk P w K mg base (L2N.CX P w) 3 f fd ["sizes", "rows", "asked", "lists"] spAllDue := by
  refine F.ok law_all_due_sc (fun vs H Q E h => ?_) (fun cdv A outer s H vs Q E hr h => ?_)
  · obtain ⟨ts, a, al, ll, m, n, zs, qs, los, rfl, _⟩ := h
    rfl
  · obtain ⟨ts, a, al, ll, m, n, zs, qs, los, rfl, S, few, ha, hq, q20, hll, hlo, l4, q⟩ := h
    have hu65 := u65 hr
    have hs := S.hs
    have m8 := S.m8
    have n8 := S.n8
    refine ⟨_, (pss_cons (ps_set (i := 4) law_all_due_sc.nd rfl (Or.inl rfl) (pe_call D_law_pieces_due.ok (hr.mono (by decide)) rfl D_law_pieces_due.g D_law_pieces_due.kp D_law_pieces_due.b .nil ErrX.passN (pa_cons (pv 0) (pa_cons (pv 1) pa_nil))))
      (pss_cons (ps_set (i := 5) law_all_due_sc.nd rfl (Or.inl rfl) (pe_op op_add (pe_op op_sub (pe_op op_sub (pe_callB call_len_seq (by rfl) m_len (by decide +kernel) (pa_cons (pv 1) pa_nil)) (pe_ix ix_tup (pv 0) pe_int (fun _ _ => rfl))) (pe_ix ix_tup (pv 0) pe_int (fun _ _ => rfl))) (pe_callB call_len_seq (by rfl) m_len (by decide +kernel) (pa_cons (pv 4) pa_nil))))
      (pss_cons (ps_set (i := 6) law_all_due_sc.nd rfl (Or.inl rfl) (pe_lst (pa_cons (pe_ix ix_tup (pv 0) pe_int (fun _ _ => rfl)) (pa_cons (pe_ix ix_tup (pv 0) pe_int (fun _ _ => rfl)) (pa_cons (pe_callTy call_list_of (by rfl) m_list (by decide +kernel) (pa_cons (pv 1) pa_nil)) (pa_cons (pv 5) (pa_cons (pe_cmpR op_eq (pe_callB call_len_seq (by rfl) m_len (by decide +kernel) (pa_cons (pv 4) pa_nil)) pe_int (nomark _)) pa_nil)))))))
      (pss_cons (ps_set (i := 6) law_all_due_sc.nd rfl (Or.inl rfl) (pe_op op_cat (pv 6) (pe_lst (pa_cons (pe_callB call_len_seq (by rfl) m_len (by decide +kernel) (pa_cons (pv 1) pa_nil)) (pa_cons (pe_call D_law_written.ok (hr.mono (by decide)) rfl D_law_written.g D_law_written.kp D_law_written.b .nil ErrX.passN (pa_cons (pv 0) (pa_cons (pv 1) pa_nil))) (pa_cons (pv 4) pa_nil))))))
      (pss_cons (ps_expr (pe_bm PySem.F.plainAttrs_list PySem.F.slot_list_append PySem.F.type_list_append mt_append (pv 6) (pa_cons (pe_tup (pa_cons pe_str (pa_cons pe_str (pa_cons (pe_un un_neg pe_int) pa_nil)))) pa_nil)))
      (pss_cons (ps_for (passes_of rfl) rfl (pi_range1 rfl m_range (pa_cons (pe_ix ix_tup (pv 0) pe_int (fun _ _ => rfl)) pa_nil)) (pg_name (i := 7) law_all_due_sc.nd rfl (Or.inr rfl))
      (pss_one (ps_expr (pe_bm PySem.F.plainAttrs_list PySem.F.slot_list_append PySem.F.type_list_append mt_append (pv 6) (pa_cons (pe_tup (pa_cons pe_str (pa_cons (pe_lc (own := [("row", 10)]) rfl law_all_due_sc.nd (pi_list (pv 1)) (blkOk_by (own := [("row", 10)]) (N := law_all_due_N) (sc := defScope law_all_due_st) (by decide +kernel)) (fun _ _ _ _ _ => (pg_name (i := 10) law_all_due_sc.nd rfl (Or.inl rfl))) (fun _ _ _ _ _ => (pts_one (pt_cmpR op_eq (pe_ix (ix_tup : IxR _ (rIxT K)) (pv 10) pe_int (fun _ _ => rfl)) (pv 7) (nomark _)))) (fun _ _ _ _ _ => (pe_ix (ix_tup : IxR _ (rIxT K)) (pv 10) pe_int (fun _ _ => rfl)))) pa_nil))) pa_nil)))))
      (pss_cons (ps_expr (pe_bm PySem.F.plainAttrs_list PySem.F.slot_list_append PySem.F.type_list_append mt_append (pv 6) (pa_cons (pe_tup (pa_cons pe_str (pa_cons pe_str (pa_cons (pe_ix ix_tup (pv 0) pe_int (fun _ _ => rfl)) pa_nil)))) pa_nil)))
      (pss_cons (ps_expr (pe_bm PySem.F.plainAttrs_list PySem.F.slot_list_append PySem.F.type_list_append mt_append (pv 6) (pa_cons (pe_tup (pa_cons pe_str (pa_cons pe_str (pa_cons (pe_un un_neg pe_int) pa_nil)))) pa_nil)))
      (pss_cons (ps_for (passes_of rfl) rfl (pi_range1 rfl m_range (pa_cons (pe_ix ix_tup (pv 0) pe_int (fun _ _ => rfl)) pa_nil)) (pg_name (i := 8) law_all_due_sc.nd rfl (Or.inr rfl))
      (pss_one (ps_expr (pe_bm PySem.F.plainAttrs_list PySem.F.slot_list_append PySem.F.type_list_append mt_append (pv 6) (pa_cons (pe_tup (pa_cons pe_str (pa_cons (pe_lc (own := [("row", 10)]) rfl law_all_due_sc.nd (pi_list (pv 1)) (blkOk_by (own := [("row", 10)]) (N := law_all_due_N) (sc := defScope law_all_due_st) (by decide +kernel)) (fun _ _ _ _ _ => (pg_name (i := 10) law_all_due_sc.nd rfl (Or.inl rfl))) (fun _ _ _ _ _ => (pts_one (pt_cmpR op_eq (pe_ix (ix_tup : IxR _ (rIxT K)) (pv 10) pe_int (fun _ _ => rfl)) (pv 8) (nomark _)))) (fun _ _ _ _ _ => (pe_ix (ix_tup : IxR _ (rIxT K)) (pv 10) pe_int (fun _ _ => rfl)))) pa_nil))) pa_nil)))))
      (pss_cons (ps_expr (pe_bm PySem.F.plainAttrs_list PySem.F.slot_list_append PySem.F.type_list_append mt_append (pv 6) (pa_cons (pe_tup (pa_cons pe_str (pa_cons pe_str (pa_cons (pe_ix ix_tup (pv 0) pe_int (fun _ _ => rfl)) pa_nil)))) pa_nil)))
      (pss_cons (ps_for (passes_of rfl) rfl (pi_list (pv 2)) (pg_name (i := 9) law_all_due_sc.nd rfl (Or.inl rfl))
      (pss_cons (ps_expr (pe_bm PySem.F.plainAttrs_list PySem.F.slot_list_append PySem.F.type_list_append mt_append (pv 6) (pa_cons (pe_call D_law_index_due.ok (hr.mono (by decide)) rfl D_law_index_due.g D_law_index_due.kp D_law_index_due.b .nil ErrX.passN (pa_cons (pv 0) (pa_cons (pv 1) (pa_cons (pv 9) pa_nil)))) pa_nil)))
      (pss_one (ps_expr (pe_bm PySem.F.plainAttrs_list PySem.F.slot_list_append PySem.F.type_list_append mt_append (pv 6) (pa_cons (pe_cmpR (op_inD hu65) (pv 9) (pv 1) rfl) pa_nil))))))
      (pss_cons (ps_for (passes_of rfl) rfl (pi_list (pv 3)) (pg_name (i := 10) law_all_due_sc.nd rfl (Or.inl rfl))
      (pss_one (ps_expr (pe_bm PySem.F.plainAttrs_list PySem.F.slot_list_append PySem.F.type_list_append mt_append (pv 6) (pa_cons (pe_call D_law_reach_due.ok (hr.mono (by decide)) rfl D_law_reach_due.g D_law_reach_due.kp D_law_reach_due.b .nil ErrX.passN (pa_cons (pv 0) (pa_cons (pv 1) (pa_cons (pv 10) pa_nil)))) pa_nil)))))
      (pss_one (ps_ret (pv 6))))))))))))))), ?_⟩
    have big := small1000 (show 100 ≤ 1000 by decide)
    refine ⟨.ref ts, rfl, .ref a, rfl, ts, a, m, n, zs, rfl, S, fun H1 g us s1 ng hg pu fu eu nu => ?_⟩
    have eul : us.length = nPc m n (zs.map (·.2)) := by
      have := congrArg List.length eu
      rw [List.length_map] at this
      exact this
    refine ⟨.ref a, rfl, a, _, rfl, .inl (sq (s1 _ _ S.ha)), .ref ts, rfl, ts, _, 0, nV m, rfl, rfl, sqt (s1 _ _ hs), rfl, _, _, rfl, rfl, .ref ts, rfl, ts, _, 1, nV n, rfl, rfl, sqt (s1 _ _ hs), rfl, _, _, rfl, rfl, .ref g, rfl, g, _, rfl, .inl (sq hg), _, _, rfl, rfl, ?_⟩
    have elp : (((zs.map zV).length : Nat) : Int) - (m : Int) - (n : Int) + (((us.map pV).length : Nat) : Int) = lpI m n (zs.map (·.2)) := by
      unfold lpI
      rw [List.length_map, List.length_map, List.length_map, eul]
    refine ⟨.ref ts, rfl, ts, _, 0, nV m, rfl, rfl, sqt (s1 _ _ hs), rfl, .ref ts, rfl, ts, _, 1, nV n, rfl, rfl, sqt (s1 _ _ hs), rfl, .ref a, rfl, a, _, rfl, .inl (sq (s1 _ _ S.ha)), fun r nr => ?_⟩
    have s2 := Same.new (o := .lst (zs.map zV)) nr
    have hg2 := s2 _ _ hg
    have pu2 := pu.keep s2
    have nr0 := s1.back nr
    have rg : r ≠ g := (ne_of_none hg nr).symm
    have hr2 : (upd H1 r (.lst (zs.map zV))) r = some (.lst (zs.map zV)) := upd_same
    replace s2 := s1.trans s2
    generalize upd H1 r (.lst (zs.map zV)) = H2 at s2 hg2 pu2 hr2 ⊢
    refine ⟨_, rfl, .ref g, rfl, g, _, rfl, .inl (sq hg2), rfl, ?_, fun o1 no1 => ?_⟩
    · show 5 ≤ sizeLine
      omega
    have ej : decide (V.int (((us.map pV).length : Nat) : Int) = V.int 1) = decide (nPc m n (zs.map (·.2)) = 1) := by
      rw [List.length_map, eul]
      by_cases c : nPc m n (zs.map (·.2)) = 1
      · rw [decide_eq_true c]
        exact decide_eq_true (by rw [c]; rfl)
      · rw [decide_eq_false c]
        exact decide_eq_false fun z => c (Int.ofNat.inj (V.int.inj z))
    have s3 := Same.new (o := .lst [nV m, nV n, .ref r, .int ((((zs.map zV).length : Nat) : Int) - (m : Int) - (n : Int) + (((us.map pV).length : Nat) : Int)), .bl (decide (V.int (((us.map pV).length : Nat) : Int) = V.int 1))]) no1
    have ho3 : (upd H2 o1 (.lst [nV m, nV n, .ref r, .int ((((zs.map zV).length : Nat) : Int) - (m : Int) - (n : Int) + (((us.map pV).length : Nat) : Int)), .bl (decide (V.int (((us.map pV).length : Nat) : Int) = V.int 1))])) o1 = some (.lst [nV m, nV n, .ref r, .int ((((zs.map zV).length : Nat) : Int) - (m : Int) - (n : Int) + (((us.map pV).length : Nat) : Int)), .bl (decide (V.int (((us.map pV).length : Nat) : Int) = V.int 1))]) := upd_same
    have hg3 := s3 _ _ hg2
    have pu3 := pu2.keep s3
    have hr3 := s3 _ _ hr2
    replace s3 := s2.trans s3
    generalize upd H2 o1 (.lst [nV m, nV n, .ref r, .int ((((zs.map zV).length : Nat) : Int) - (m : Int) - (n : Int) + (((us.map pV).length : Nat) : Int)), .bl (decide (V.int (((us.map pV).length : Nat) : Int) = V.int 1))]) = H3 at s3 ho3 hg3 pu3 hr3 ⊢
    have S3 := S.keep s3
    refine ⟨.ref o1, rfl, .ref a, rfl, a, _, rfl, .inl (sq S3.ha), .ref ts, rfl, .ref a, rfl, ts, a, m, n, zs, rfl, S3, few, .ref g, rfl, ?_, fun l nl => ?_⟩
    · show 3 ≤ sizeLine
      omega
    have s5 := Same.new (o := .lst [.int (((zs.map zV).length : Nat) : Int), .str (wrT m n (zs.map (·.2))), .ref g]) nl
    refine ⟨o1, l, _, _, rfl, rfl, s5 _ _ ho3, upd_same, by show 5 + 3 ≤ sizeLine; omega, fun T nT => ?_⟩
    have hr5 := s5 _ _ hr3
    have hg5 := s5 _ _ hg3
    have pu5 := pu3.keep s5
    replace s5 := s3.trans s5
    generalize upd H3 l (.lst [.int (((zs.map zV).length : Nat) : Int), .str (wrT m n (zs.map (·.2))), .ref g]) = H5 at s5 hr5 hg5 pu5 nT ⊢
    have ex : ([nV m, nV n, .ref r, .int ((((zs.map zV).length : Nat) : Int) - (m : Int) - (n : Int) + (((us.map pV).length : Nat) : Int)), .bl (decide (V.int (((us.map pV).length : Nat) : Int) = V.int 1))] ++ [.int (((zs.map zV).length : Nat) : Int), .str (wrT m n (zs.map (·.2))), .ref g] : List V) = (x8 m n (zs.map (·.2)) r g) := by
      rw [elp, ej]
      unfold x8
      rw [List.length_map, List.length_map]
      rfl
    rw [ex]
    have st := TL.start (H1 := H5) (x8 := (x8 m n (zs.map (·.2)) r g)) nT
    have eT : ¬ (upd H5 T (.lst (x8 m n (zs.map (·.2)) r g))) T = none := fun e => by rw [upd_same] at e; cases e
    generalize upd H5 T (.lst (x8 m n (zs.map (·.2)) r g)) = H6 at st eT ⊢
    have L : TL H5 H6 H6 T (x8 m n (zs.map (·.2)) r g) [] (segC m (zs.map (·.2)) 0) := st
    have back := st.sm
    clear st
    obtain ⟨ys, eys⟩ : ∃ ys : List V, ys = [] := ⟨_, rfl⟩
    rw [← eys] at L
    clear eys
    refine ⟨.ref T, rfl, .inl ⟨rfl, _, sq L.hT⟩, 1, rfl, len3, fun t nt => ?_⟩
    have s2' := Same.new (o := .tup [.str "refused", .str "NoDepot", .int (-1)]) nt
    have hh := ans_ref (H := H6) (H' := upd H6 t (.tup [.str "refused", .str "NoDepot", .int (-1)])) (d := dInt (-1)) upd_same Rep.int
    have ed : cuD m (zs.map (·.2)) (-1 + ((0 : Nat) : Int)) = dRef "NoDepot" (dInt (-1)) := by
      rw [show (-1 + ((0 : Nat) : Int)) = (-1) by omega]
      exact if_neg (by omega)
    have len := L.rs.1
    rw [segC_len] at len
    refine ⟨T, _, .ref t, rfl, rfl, L.at_ s2', small1000 (by rw [List.length_append, len]; show 8 + _ ≤ 1000; omega), ?_⟩
    have L1 := L.step (d := cuD m (zs.map (·.2)) (-1 + ((0 : Nat) : Int))) nT eT s2' (by rw [ed]; exact hh.1) hh.2
    have e : segC m (zs.map (·.2)) 0 ++ [cuD m (zs.map (·.2)) (-1 + ((0 : Nat) : Int))] = segC m (zs.map (·.2)) 1 := by rw [segC_s]
    rw [e] at L1
    clear e ed hh len
    generalize upd (upd H6 t (.tup [.str "refused", .str "NoDepot", .int (-1)])) T (.lst ((x8 m n (zs.map (·.2)) r g) ++ ys ++ [.ref t])) = H7 at L1 ⊢
    clear L
    generalize ys ++ [.ref t] = ys2 at L1
    clear s2' nt
    clear t
    clear ys
    have L := L1
    clear L1
    obtain ⟨ys, ey⟩ : ∃ ys, ys = ys2 := ⟨_, rfl⟩
    rw [← ey] at L
    clear ey ys2
    refine ⟨.ref ts, rfl, ts, _, 0, nV m, rfl, rfl, sqt ((s5.trans L.sm) _ _ hs), rfl, _, rfl, by omega, by omega, ?_⟩
    rw [Int.toNat_natCast]
    refine for_range (lo := 0) (n := m) (fun i σ H' => ∃ (y7 y8 y9 y10 : Option V) (ys : List V), σ = [some (.ref ts), some (.ref a), some (.ref al), some (.ref ll), some (.ref g), some (.int ((((zs.map zV).length : Nat) : Int) - (m : Int) - (n : Int) + (((us.map pV).length : Nat) : Int))), some (.ref T), y7, y8, y9, y10] ∧ TL H5 H6 H' T (x8 m n (zs.map (·.2)) r g) ys (segC m (zs.map (·.2)) (i + 1))) ⟨none, none, none, none, ys, rfl, L⟩ (fun i σ H' hi h => ?_) (fun σ H' h => ?_)
    · clear L ys
      obtain ⟨y7, y8, y9, y10, ys, rfl, L⟩ := h
      refine ⟨.ref T, rfl, .inl ⟨rfl, _, sq L.hT⟩, .ref a, rfl, a, rfl, ⟨_, sq ((s5.trans L.sm) _ _ S.ha)⟩, fun D nD => ?_⟩
      have len := L.rs.1
      rw [segC_len] at len
      refine lc_list (K := K) (a := a) (xs := zs.map zV) (fun j H'' => Same H' H'' ∧ H'' D = some (.lst ((custs (zs.take j) (i : Int)).map nV))) ⟨Same.new nD, upd_same⟩ (fun j H'' _ h => sq ((s5.trans (L.sm.trans h.1)) _ _ S.ha)) (fun j y H'' hy h => ?_) (fun H'' h => ?_)
      · obtain ⟨sm, hD⟩ := h
        obtain ⟨z, ez, mz, rfl⟩ := item_zV hy
        have hz := (s5.trans (L.sm.trans sm)) _ _ (S.pr z mz)
        have hj : j < zs.length := (List.getElem?_eq_some_iff.mp ez).1
        have hlen : ((custs (zs.take j) (i : Int)).map nV).length < sizeLine := small1000 (by
          unfold custs
          rw [List.length_map, List.length_map]
          have h1 := List.length_filter_le (fun z : Z => decide ((z.2.1 : Int) = (i : Int))) (zs.take j)
          rw [List.length_take] at h1
          omega)
        refine ⟨rfl, ?_⟩
        refine ⟨zV z, rfl, z.1, _, 0, nV z.2.1, rfl, rfl, sqt hz, rfl, .int (0 + (i : Int)), rfl, ⟨rfl, _, rfl, ite2 (fun e => ?_) (fun e => ?_)⟩⟩
        · have e : (z.2.1 : Int) = (i : Int) := by have := V.int.inj (of_decide_eq_true e); omega
          refine ⟨zV z, rfl, z.1, _, 1, nV z.2.2, rfl, rfl, sqt hz, rfl, _, hD, hlen, sm.mut nD, ?_⟩
          rw [upd_same, take_z ez]
          unfold custs
          rw [List.filter_append, one_z (g := fun z : Z => decide ((z.2.1 : Int) = (i : Int))) (decide_eq_true e), List.map_append, List.map_append]
          rfl
        · have e : ¬ (z.2.1 : Int) = (i : Int) := fun c => e (decide_eq_true (by rw [Int.zero_add]; exact congrArg V.int c))
          refine ⟨sm, ?_⟩
          rw [take_z ez]
          unfold custs at hD ⊢
          rw [List.filter_append, none_z (g := fun z : Z => decide ((z.2.1 : Int) = (i : Int))) (fun c => e (of_decide_eq_true c)), List.append_nil]
          exact hD
      · obtain ⟨sm, hD⟩ := h
        rw [List.take_of_length_le (by rw [List.length_map]; exact Nat.le_refl _), custP_eq] at hD
        refine ⟨len2, fun t nt => ?_⟩
        have s2' := Same.new (o := .tup [.str "told", V.ref D]) nt
        have hh := ans_told (H := H') (H' := upd H'' t (.tup [.str "told", V.ref D])) nD upd_same (s2' _ _ hD) (Nat.le_trans (custP_len _ _) (by rw [List.length_map]; omega))
        have ed : cuD m (zs.map (·.2)) (-1 + ((i + 1 : Nat) : Int)) = dTold (.nd false ((custP (zs.map (·.2)) (i : Int)).map dNt)) := by
          rw [show (-1 + ((i + 1 : Nat) : Int)) = (i : Int) by omega]
          exact if_pos (by omega)
        refine ⟨T, _, .ref t, rfl, rfl, L.at_ (sm.trans s2'), small1000 (by rw [List.length_append, len]; show 8 + _ ≤ 1000; omega), ?_⟩
        have LL := L.step (d := cuD m (zs.map (·.2)) (-1 + ((i + 1 : Nat) : Int))) nT eT (sm.trans s2') (by rw [ed]; exact hh.1) hh.2
        have e : segC m (zs.map (·.2)) (i + 1) ++ [cuD m (zs.map (·.2)) (-1 + ((i + 1 : Nat) : Int))] = segC m (zs.map (·.2)) (i + 1 + 1) := by rw [segC_s m _ (i + 1)]
        rw [e] at LL
        exact ⟨_, _, _, _, ys ++ [.ref t], rfl, LL⟩
    clear L ys
    obtain ⟨y7, y8, y9, y10, ys, rfl, L⟩ := h
    refine ⟨.ref T, rfl, .inl ⟨rfl, _, sq L.hT⟩, .ref ts, rfl, ts, _, 0, nV m, rfl, rfl, sqt ((s5.trans L.sm) _ _ hs), rfl, len3, fun t nt => ?_⟩
    have s2' := Same.new (o := .tup [.str "refused", .str "NoDepot", nV m]) nt
    have hh := ans_ref (H := H') (H' := upd H' t (.tup [.str "refused", .str "NoDepot", nV m])) (d := dInt (m : Int)) upd_same Rep.int
    have ed : cuD m (zs.map (·.2)) (-1 + ((m + 1 : Nat) : Int)) = dRef "NoDepot" (dInt (m : Int)) := by
      rw [show (-1 + ((m + 1 : Nat) : Int)) = (m : Int) by omega]
      exact if_neg (by omega)
    have len := L.rs.1
    rw [segC_len] at len
    refine ⟨T, _, .ref t, rfl, rfl, L.at_ s2', small1000 (by rw [List.length_append, len]; show 8 + _ ≤ 1000; omega), ?_⟩
    have L1 := L.step (d := cuD m (zs.map (·.2)) (-1 + ((m + 1 : Nat) : Int))) nT eT s2' (by rw [ed]; exact hh.1) hh.2
    have e : segC m (zs.map (·.2)) (m + 1) ++ [cuD m (zs.map (·.2)) (-1 + ((m + 1 : Nat) : Int))] = segC m (zs.map (·.2)) (m + 2) := by rw [segC_s m _ (m + 1)]
    rw [e] at L1
    clear e ed hh len
    generalize upd (upd H' t (.tup [.str "refused", .str "NoDepot", nV m])) T (.lst ((x8 m n (zs.map (·.2)) r g) ++ ys ++ [.ref t])) = H8 at L1 ⊢
    clear L
    generalize ys ++ [.ref t] = ys2 at L1
    clear s2' nt
    clear t
    clear ys
    have L := L1
    clear L1
    obtain ⟨ys, ey⟩ : ∃ ys, ys = ys2 := ⟨_, rfl⟩
    rw [← ey] at L
    clear ey ys2
    refine ⟨.ref T, rfl, .inl ⟨rfl, _, sq L.hT⟩, 1, rfl, len3, fun t nt => ?_⟩
    have s2' := Same.new (o := .tup [.str "refused", .str "NoCustomer", .int (-1)]) nt
    have hh := ans_ref (H := H8) (H' := upd H8 t (.tup [.str "refused", .str "NoCustomer", .int (-1)])) (d := dInt (-1)) upd_same Rep.int
    have ed : deD n (zs.map (·.2)) (-1 + ((0 : Nat) : Int)) = dRef "NoCustomer" (dInt (-1)) := by
      rw [show (-1 + ((0 : Nat) : Int)) = (-1) by omega]
      exact if_neg (by omega)
    have len := L.rs.1
    rw [segC_len] at len
    refine ⟨T, _, .ref t, rfl, rfl, L.at_ s2', small1000 (by rw [List.length_append, len]; show 8 + _ ≤ 1000; omega), ?_⟩
    have L1 := L.step (d := deD n (zs.map (·.2)) (-1 + ((0 : Nat) : Int))) nT eT s2' (by rw [ed]; exact hh.1) hh.2
    have e : segC m (zs.map (·.2)) (m + 2) ++ [deD n (zs.map (·.2)) (-1 + ((0 : Nat) : Int))] = segC m (zs.map (·.2)) (m + 2) ++ segD n (zs.map (·.2)) 1 := by rfl
    rw [e] at L1
    clear e ed hh len
    generalize upd (upd H8 t (.tup [.str "refused", .str "NoCustomer", .int (-1)])) T (.lst ((x8 m n (zs.map (·.2)) r g) ++ ys ++ [.ref t])) = H9 at L1 ⊢
    clear L
    generalize ys ++ [.ref t] = ys2 at L1
    clear s2' nt
    clear t
    clear ys
    have L := L1
    clear L1
    obtain ⟨ys, ey⟩ : ∃ ys, ys = ys2 := ⟨_, rfl⟩
    rw [← ey] at L
    clear ey ys2
    refine ⟨.ref ts, rfl, ts, _, 1, nV n, rfl, rfl, sqt ((s5.trans L.sm) _ _ hs), rfl, _, rfl, by omega, by omega, ?_⟩
    rw [Int.toNat_natCast]
    clear H'
    refine for_range (lo := 0) (n := n) (fun i σ H' => ∃ (y7 y8 y9 y10 : Option V) (ys : List V), σ = [some (.ref ts), some (.ref a), some (.ref al), some (.ref ll), some (.ref g), some (.int ((((zs.map zV).length : Nat) : Int) - (m : Int) - (n : Int) + (((us.map pV).length : Nat) : Int))), some (.ref T), y7, y8, y9, y10] ∧ TL H5 H6 H' T (x8 m n (zs.map (·.2)) r g) ys (segC m (zs.map (·.2)) (m + 2) ++ segD n (zs.map (·.2)) (i + 1))) ⟨_, _, _, _, ys, rfl, L⟩ (fun i σ H' hi h => ?_) (fun σ H' h => ?_)
    · clear L ys
      clear y7 y8 y9 y10
      obtain ⟨y7, y8, y9, y10, ys, rfl, L⟩ := h
      refine ⟨.ref T, rfl, .inl ⟨rfl, _, sq L.hT⟩, .ref a, rfl, a, rfl, ⟨_, sq ((s5.trans L.sm) _ _ S.ha)⟩, fun D nD => ?_⟩
      have len := L.rs.1
      rw [List.length_append, segC_len, segD_len] at len
      refine lc_list (K := K) (a := a) (xs := zs.map zV) (fun j H'' => Same H' H'' ∧ H'' D = some (.lst ((deps (zs.take j) (i : Int)).map nV))) ⟨Same.new nD, upd_same⟩ (fun j H'' _ h => sq ((s5.trans (L.sm.trans h.1)) _ _ S.ha)) (fun j y H'' hy h => ?_) (fun H'' h => ?_)
      · obtain ⟨sm, hD⟩ := h
        obtain ⟨z, ez, mz, rfl⟩ := item_zV hy
        have hz := (s5.trans (L.sm.trans sm)) _ _ (S.pr z mz)
        have hj : j < zs.length := (List.getElem?_eq_some_iff.mp ez).1
        have hlen : ((deps (zs.take j) (i : Int)).map nV).length < sizeLine := small1000 (by
          unfold deps
          rw [List.length_map, List.length_map]
          have h1 := List.length_filter_le (fun z : Z => decide ((z.2.2 : Int) = (i : Int))) (zs.take j)
          rw [List.length_take] at h1
          omega)
        refine ⟨rfl, ?_⟩
        refine ⟨zV z, rfl, z.1, _, 1, nV z.2.2, rfl, rfl, sqt hz, rfl, .int (0 + (i : Int)), rfl, ⟨rfl, _, rfl, ite2 (fun e => ?_) (fun e => ?_)⟩⟩
        · have e : (z.2.2 : Int) = (i : Int) := by have := V.int.inj (of_decide_eq_true e); omega
          refine ⟨zV z, rfl, z.1, _, 0, nV z.2.1, rfl, rfl, sqt hz, rfl, _, hD, hlen, sm.mut nD, ?_⟩
          rw [upd_same, take_z ez]
          unfold deps
          rw [List.filter_append, one_z (g := fun z : Z => decide ((z.2.2 : Int) = (i : Int))) (decide_eq_true e), List.map_append, List.map_append]
          rfl
        · have e : ¬ (z.2.2 : Int) = (i : Int) := fun c => e (decide_eq_true (by rw [Int.zero_add]; exact congrArg V.int c))
          refine ⟨sm, ?_⟩
          rw [take_z ez]
          unfold deps at hD ⊢
          rw [List.filter_append, none_z (g := fun z : Z => decide ((z.2.2 : Int) = (i : Int))) (fun c => e (of_decide_eq_true c)), List.append_nil]
          exact hD
      · obtain ⟨sm, hD⟩ := h
        rw [List.take_of_length_le (by rw [List.length_map]; exact Nat.le_refl _), depsP_eq] at hD
        refine ⟨len2, fun t nt => ?_⟩
        have s2' := Same.new (o := .tup [.str "told", V.ref D]) nt
        have hh := ans_told (H := H') (H' := upd H'' t (.tup [.str "told", V.ref D])) nD upd_same (s2' _ _ hD) (Nat.le_trans (depsP_len _ _) (by rw [List.length_map]; omega))
        have ed : deD n (zs.map (·.2)) (-1 + ((i + 1 : Nat) : Int)) = dTold (.nd false ((depsP (zs.map (·.2)) (i : Int)).map dNt)) := by
          rw [show (-1 + ((i + 1 : Nat) : Int)) = (i : Int) by omega]
          exact if_pos (by omega)
        refine ⟨T, _, .ref t, rfl, rfl, L.at_ (sm.trans s2'), small1000 (by rw [List.length_append, len]; show 8 + _ ≤ 1000; omega), ?_⟩
        have LL := L.step (d := deD n (zs.map (·.2)) (-1 + ((i + 1 : Nat) : Int))) nT eT (sm.trans s2') (by rw [ed]; exact hh.1) hh.2
        have e : segC m (zs.map (·.2)) (m + 2) ++ segD n (zs.map (·.2)) (i + 1) ++ [deD n (zs.map (·.2)) (-1 + ((i + 1 : Nat) : Int))] = segC m (zs.map (·.2)) (m + 2) ++ segD n (zs.map (·.2)) (i + 1 + 1) := by rw [segD_s n _ (i + 1), List.append_assoc]
        rw [e] at LL
        exact ⟨_, _, _, _, ys ++ [.ref t], rfl, LL⟩
    clear L ys
    clear y7 y8 y9 y10
    obtain ⟨y7, y8, y9, y10, ys, rfl, L⟩ := h
    refine ⟨.ref T, rfl, .inl ⟨rfl, _, sq L.hT⟩, .ref ts, rfl, ts, _, 1, nV n, rfl, rfl, sqt ((s5.trans L.sm) _ _ hs), rfl, len3, fun t nt => ?_⟩
    have s2' := Same.new (o := .tup [.str "refused", .str "NoCustomer", nV n]) nt
    have hh := ans_ref (H := H') (H' := upd H' t (.tup [.str "refused", .str "NoCustomer", nV n])) (d := dInt (n : Int)) upd_same Rep.int
    have ed : deD n (zs.map (·.2)) (-1 + ((n + 1 : Nat) : Int)) = dRef "NoCustomer" (dInt (n : Int)) := by
      rw [show (-1 + ((n + 1 : Nat) : Int)) = (n : Int) by omega]
      exact if_neg (by omega)
    have len := L.rs.1
    rw [List.length_append, segC_len, segD_len] at len
    refine ⟨T, _, .ref t, rfl, rfl, L.at_ s2', small1000 (by rw [List.length_append, len]; show 8 + _ ≤ 1000; omega), ?_⟩
    have L1 := L.step (d := deD n (zs.map (·.2)) (-1 + ((n + 1 : Nat) : Int))) nT eT s2' (by rw [ed]; exact hh.1) hh.2
    have e : segC m (zs.map (·.2)) (m + 2) ++ segD n (zs.map (·.2)) (n + 1) ++ [deD n (zs.map (·.2)) (-1 + ((n + 1 : Nat) : Int))] = segC m (zs.map (·.2)) (m + 2) ++ segD n (zs.map (·.2)) (n + 2) := by rw [segD_s n _ (n + 1), List.append_assoc]
    rw [e] at L1
    clear e ed hh len
    generalize upd (upd H' t (.tup [.str "refused", .str "NoCustomer", nV n])) T (.lst ((x8 m n (zs.map (·.2)) r g) ++ ys ++ [.ref t])) = H10 at L1 ⊢
    clear L
    generalize ys ++ [.ref t] = ys2 at L1
    clear s2' nt
    clear t
    clear ys
    have L := L1
    clear L1
    obtain ⟨ys, ey⟩ : ∃ ys, ys = ys2 := ⟨_, rfl⟩
    rw [← ey] at L
    clear ey ys2
    clear H'
    refine ⟨.ref al, rfl, al, rfl, ⟨_, sq ((s5.trans L.sm) _ _ ha)⟩, ?_⟩
    have L0 : TL H5 H6 H10 T (x8 m n (zs.map (·.2)) r g) ys (segC m (zs.map (·.2)) (m + 2) ++ segD n (zs.map (·.2)) (n + 2) ++ segQ m n (zs.map (·.2)) ((qs.map (·.2)).take 0)) := by
      show TL H5 H6 H10 T (x8 m n (zs.map (·.2)) r g) ys (segC m (zs.map (·.2)) (m + 2) ++ segD n (zs.map (·.2)) (n + 2) ++ [])
      rw [List.append_nil]
      exact L
    refine for_list (K := K) (a := al) (xs := qs.map aV) (fun i σ H' => ∃ (y7 y8 y9 y10 : Option V) (ys : List V), σ = [some (.ref ts), some (.ref a), some (.ref al), some (.ref ll), some (.ref g), some (.int ((((zs.map zV).length : Nat) : Int) - (m : Int) - (n : Int) + (((us.map pV).length : Nat) : Int))), some (.ref T), y7, y8, y9, y10] ∧ TL H5 H6 H' T (x8 m n (zs.map (·.2)) r g) ys (segC m (zs.map (·.2)) (m + 2) ++ segD n (zs.map (·.2)) (n + 2) ++ segQ m n (zs.map (·.2)) ((qs.map (·.2)).take i))) ⟨_, _, _, _, ys, rfl, L0⟩ (fun i σ H' _ h => ?_) (fun i x σ H' hx h => ?_) (fun σ H' h => ?_)
    · obtain ⟨_, _, _, _, _, _, L⟩ := h
      exact sq ((s5.trans L.sm) _ _ ha)
    · clear L0 L ys
      clear y7 y8 y9 y10
      obtain ⟨y7, y8, y9, y10, ys, rfl, L⟩ := h
      obtain ⟨z, ez, mz, rfl⟩ := item_aV hx
      have hi : i < qs.length := (List.getElem?_eq_some_iff.mp ez).1
      have hz := hq z mz
      have len := L.rs.1
      rw [List.length_append, List.length_append, segC_len, segD_len, segQ_len, List.length_take, List.length_map] at len
      refine ⟨.ref T, rfl, .inl ⟨rfl, _, sq L.hT⟩, .ref ts, rfl, .ref a, rfl, aV z, rfl, ts, a, z.1, m, n, zs, z.2.1, z.2.2, rfl, S.keep (s5.trans L.sm), (s5.trans L.sm) _ _ hz, fun H'' v sv rv av => ?_⟩
      refine ⟨T, _, v, rfl, rfl, L.at_ sv, small1000 (by rw [List.length_append, len]; show 8 + _ ≤ 1000; omega), ?_⟩
      have L2 := L.step nT eT sv rv av
      generalize upd H'' T (.lst ((x8 m n (zs.map (·.2)) r g) ++ ys ++ [v])) = H11 at L2 ⊢
      refine ⟨.ref T, rfl, .inl ⟨rfl, _, sq L2.hT⟩, aV z, rfl, .ref a, rfl, pI z.2.1 z.2.2, ((zs.map (·.2))).map qD, dp_pz ((s5.trans L2.sm) _ _ hz), dp_pairs (S.keep (s5.trans L2.sm)).ha (S.keep (s5.trans L2.sm)).pr, pI_shaped _ _, qDs_shaped _, ?_⟩
      rw [any_fx]
      refine ⟨T, _, .bl (fx (zs.map (·.2)) z.2.1 z.2.2).isSome, rfl, rfl, L2.hT, small1000 (by rw [List.length_append, List.length_append, len]; show 8 + (_ + 1) ≤ 1000; omega), ?_⟩
      refine ⟨_, _, _, _, ys ++ [v] ++ [.bl (fx (zs.map (·.2)) z.2.1 z.2.2).isSome], rfl, ?_⟩
      have L3 := L2.step nT eT (Same.refl _) (ans_bl (F := fun a => H11 a = none) (H0 := H11) (c := (fx (zs.map (·.2)) z.2.1 z.2.2).isSome)).1 (ans_bl (F := fun a => H11 a = none)).2
      rw [segQ_s m n (zs.map (·.2)) ez]
      simp only [← List.append_assoc] at L3 ⊢
      exact L3
    clear L0 L ys
    clear y7 y8 y9 y10
    obtain ⟨y7, y8, y9, y10, ys, rfl, L⟩ := h
    rw [List.length_map, List.take_of_length_le (by rw [List.length_map]; exact Nat.le_refl _)] at L
    refine ⟨.ref ll, rfl, ll, rfl, ⟨_, sq ((s5.trans L.sm) _ _ hll)⟩, ?_⟩
    have L0 : TL H5 H6 H' T (x8 m n (zs.map (·.2)) r g) ys (segC m (zs.map (·.2)) (m + 2) ++ segD n (zs.map (·.2)) (n + 2) ++ segQ m n (zs.map (·.2)) (qs.map (·.2)) ++ segL m n (zs.map (·.2)) ((los.map (·.2)).take 0)) := by
      show TL H5 H6 H' T (x8 m n (zs.map (·.2)) r g) ys (segC m (zs.map (·.2)) (m + 2) ++ segD n (zs.map (·.2)) (n + 2) ++ segQ m n (zs.map (·.2)) (qs.map (·.2)) ++ [])
      rw [List.append_nil]
      exact L
    refine for_list (K := K) (a := ll) (xs := los.map lV) (fun i σ H' => ∃ (y7 y8 y9 y10 : Option V) (ys : List V), σ = [some (.ref ts), some (.ref a), some (.ref al), some (.ref ll), some (.ref g), some (.int ((((zs.map zV).length : Nat) : Int) - (m : Int) - (n : Int) + (((us.map pV).length : Nat) : Int))), some (.ref T), y7, y8, y9, y10] ∧ TL H5 H6 H' T (x8 m n (zs.map (·.2)) r g) ys (segC m (zs.map (·.2)) (m + 2) ++ segD n (zs.map (·.2)) (n + 2) ++ segQ m n (zs.map (·.2)) (qs.map (·.2)) ++ segL m n (zs.map (·.2)) ((los.map (·.2)).take i))) ⟨_, _, _, _, ys, rfl, L0⟩ (fun i σ H' _ h => ?_) (fun i x σ H' hx h => ?_) (fun σ H' h => ?_)
    · obtain ⟨_, _, _, _, _, _, L⟩ := h
      exact sq ((s5.trans L.sm) _ _ hll)
    · clear L0 L ys
      clear y7 y8 y9 y10
      obtain ⟨y7, y8, y9, y10, ys, rfl, L⟩ := h
      obtain ⟨z, ez, mz, rfl⟩ := item_lV hx
      have hi : i < los.length := (List.getElem?_eq_some_iff.mp ez).1
      have hz := hlo z mz
      have len := L.rs.1
      rw [List.length_append, List.length_append, List.length_append, segC_len, segD_len, segQ_len, segL_len, List.length_take, List.length_map, List.length_map] at len
      refine ⟨.ref T, rfl, .inl ⟨rfl, _, sq L.hT⟩, .ref ts, rfl, .ref a, rfl, lV z, rfl, ts, a, z.1, m, n, zs, z.2, rfl, S.keep (s5.trans L.sm), few, sq ((s5.trans L.sm) _ _ hz.1), hz.2, fun H'' t sv td => ?_⟩
      have av := told_ans td (Nat.le_trans (rch_len _ _ _) (by omega))
      refine ⟨T, _, .ref t, rfl, rfl, L.at_ sv, small1000 (by rw [List.length_append, len]; show 8 + _ ≤ 1000; omega), ?_⟩
      refine ⟨_, _, _, _, ys ++ [.ref t], rfl, ?_⟩
      rw [segL_s m n (zs.map (·.2)) ez, ← List.append_assoc]
      exact L.step nT eT sv av.1 av.2
    clear L0 L ys
    clear y7 y8 y9 y10
    obtain ⟨y7, y8, y9, y10, ys, rfl, L⟩ := h
    rw [List.length_map, List.take_of_length_le (by rw [List.length_map]; exact Nat.le_refl _)] at L
    have sF := s5.trans L.sm
    refine ⟨.ref T, rfl, q _ T r g zs us ys ⟨sF, s5.back nT, L.hT, nr0, L.sm _ _ hr5, (S.keep sF).pr, rfl, ng, L.sm _ _ hg5, pu5.keep L.sm, fu, eu, nu, rg, ne_of_none hr5 nT, ne_of_none hg5 nT, fun z hz => ⟨ne_of_none (pu5 z hz).ho nT, ne_of_none (pu5 z hz).hu nT⟩, L.rs.imp fun _ _ => trivial, fun v hv => ?_⟩⟩
    exact (L.an v hv).dom fun b hb => s5.back (back.back hb)
end
end K03
set_option Elab.async false
set_option linter.all false
set_option maxRecDepth 100000
set_option maxHeartbeats 4000000
namespace K03
open PySem PySem.Spec PyProof.Rows L2
/-- a list of at most n items stands at a -/
def LsB (H : Hp) (a : Addr) (n : Nat) : Prop := ∃ xs, H a = some (.lst xs) ∧ xs.length ≤ n
theorem LsB.upd {H : Hp} {a o : Addr} {n k : Nat} {xs : List V} (h : LsB H a n) (hx : xs.length ≤ k) (hn : n ≤ k) : LsB (L2.upd H o (.lst xs)) a k := by
  by_cases e : a = o
  · subst e
    exact ⟨xs, upd_same, hx⟩
  · obtain ⟨ys, h1, h2⟩ := h
    exact ⟨ys, by rw [upd_ne e]; exact h1, Nat.le_trans h2 hn⟩
theorem LsB.keep {H H' : Hp} {a : Addr} {n : Nat} (h : LsB H a n) (e : Same H H') : LsB H' a n := by
  obtain ⟨ys, h1, h2⟩ := h
  exact ⟨ys, e _ _ h1, h2⟩
theorem tup_upd {H : Hp} {a o : Addr} {xs ys : List V} {os : List V} (h : H a = some (.tup xs)) (ho : H o = some (.lst os)) : (L2.upd H o (.lst ys)) a = some (.tup xs) := by
  rw [upd_ne (fun e => by rw [e, ho] at h; cases h)]
  exact h
/-- an answer whose list is new, of at most n items -/
def AnB (H0 H : Hp) (n : Nat) (v : V) : Prop := (∃ c, v = .bl c) ∨ ∃ (t : Addr) (w x : V) (rest : List V), v = .ref t ∧ H t = some (.tup (w :: x :: rest)) ∧ ((∃ i, x = .int i) ∨ (∃ z, x = .str z) ∨ ∃ (L : Addr), x = .ref L ∧ H0 L = none ∧ LsB H L n)
theorem AnB.of {H0 H : Hp} {v : V} (h : AnsF H0 H v) : AnB H0 H 100 v := by
  rcases h with h | ⟨t, w, x, rest, h1, h2, h3⟩
  · exact .inl h
  · refine .inr ⟨t, w, x, rest, h1, h2, ?_⟩
    rcases h3 with h3 | h3 | ⟨L, xs, a, b, c, d⟩
    · exact .inl h3
    · exact .inr (.inl h3)
    · exact .inr (.inr ⟨L, a, b, xs, c, d⟩)
theorem AnB.upd {H0 H : Hp} {v : V} {n k : Nat} {o : Addr} {os xs : List V} (h : AnB H0 H n v) (ho : H o = some (.lst os)) (hx : xs.length ≤ k) (hn : n ≤ k) : AnB H0 (L2.upd H o (.lst xs)) k v := by
  rcases h with h | ⟨t, w, x, rest, h1, h2, h3⟩
  · exact .inl h
  · refine .inr ⟨t, w, x, rest, h1, tup_upd h2 ho, ?_⟩
    rcases h3 with h3 | h3 | ⟨L, a, b, c⟩
    · exact .inl h3
    · exact .inr (.inl h3)
    · exact .inr (.inr ⟨L, a, b, c.upd hx hn⟩)
theorem AnB.keep {H0 H H' : Hp} {v : V} {n : Nat} (h : AnB H0 H n v) (e : Same H H') : AnB H0 H' n v := by
  rcases h with h | ⟨t, w, x, rest, h1, h2, h3⟩
  · exact .inl h
  · refine .inr ⟨t, w, x, rest, h1, e _ _ h2, ?_⟩
    rcases h3 with h3 | h3 | ⟨L, a, b, c⟩
    · exact .inl h3
    · exact .inr (.inl h3)
    · exact .inr (.inr ⟨L, a, b, c.keep e⟩)
theorem AnB.le {H0 H : Hp} {v : V} {n k : Nat} (h : AnB H0 H n v) (hn : n ≤ k) : AnB H0 H k v := by
  rcases h with h | ⟨t, w, x, rest, h1, h2, h3⟩
  · exact .inl h
  · refine .inr ⟨t, w, x, rest, h1, h2, ?_⟩
    rcases h3 with h3 | h3 | ⟨L, a, b, xs, c, d⟩
    · exact .inl h3
    · exact .inr (.inl h3)
    · exact .inr (.inr ⟨L, a, b, xs, c, Nat.le_trans d hn⟩)
/-- the pieces of an answer, their lists new -/
def PcB (H0 H : Hp) (n : Nat) (us : List P4) : Prop := ∀ z ∈ us, H z.t = some (.tup [.ref z.o, .ref z.u]) ∧ LsB H z.o n ∧ LsB H z.u n
theorem PcB.upd {H0 H : Hp} {us : List P4} {n k : Nat} {o : Addr} {os xs : List V} (h : PcB H0 H n us) (ho : H o = some (.lst os)) (hx : xs.length ≤ k) (hn : n ≤ k) : PcB H0 (L2.upd H o (.lst xs)) k us := fun z hz => by
  obtain ⟨h1, h2, h3⟩ := h z hz
  exact ⟨tup_upd h1 ho, h2.upd hx hn, h3.upd hx hn⟩
theorem PcB.keep {H0 H H' : Hp} {us : List P4} {n : Nat} (h : PcB H0 H n us) (e : Same H H') : PcB H0 H' n us := fun z hz => by
  obtain ⟨h1, h2, h3⟩ := h z hz
  exact ⟨e _ _ h1, h2.keep e, h3.keep e⟩
structure MS (H Hk : Hp) (T : Addr) (X ys : List V) (g : Addr) (us : List P4) (n : Nat) : Prop where
  sm : Same H Hk
  hT : Hk T = some (.lst (X ++ ys))
  hg : Hk g = some (.lst (us.map pV))
  pcb : PcB H Hk n us
  anb : ∀ v ∈ ys, AnB H Hk n v
theorem MS.upd {H Hk : Hp} {T : Addr} {X ys : List V} {g : Addr} {us : List P4} {n k : Nat} {o : Addr} {os xs : List V} (h : MS H Hk T X ys g us n) (ho : Hk o = some (.lst os)) (nH : H o = none) (oT : o ≠ T) (og : o ≠ g) (hx : xs.length ≤ k) (hn : n ≤ k) : MS H (L2.upd Hk o (.lst xs)) T X ys g us k :=
  ⟨h.sm.mut nH, by rw [upd_ne oT.symm]; exact h.hT, by rw [upd_ne og.symm]; exact h.hg, h.pcb.upd ho hx hn, fun v hv => (h.anb v hv).upd ho hx hn⟩
theorem MS.keep {H Hk Hl : Hp} {T : Addr} {X ys : List V} {g : Addr} {us : List P4} {n : Nat} (h : MS H Hk T X ys g us n) (e : Same Hk Hl) : MS H Hl T X ys g us n :=
  ⟨h.sm.trans e, e _ _ h.hT, e _ _ h.hg, h.pcb.keep e, fun v hv => (h.anb v hv).keep e⟩
theorem AnB.off {H Hk : Hp} {v : V} {n : Nat} {s : Addr} {o : HO} (h : AnB H Hk n v) (ns : Hk s = none) : AnB (L2.upd H s o) Hk n v := by
  rcases h with h | ⟨t, w, x, rest, h1, h2, h3⟩
  · exact .inl h
  · refine .inr ⟨t, w, x, rest, h1, h2, ?_⟩
    rcases h3 with h3 | h3 | ⟨L, a, b, xs, c, d⟩
    · exact .inl h3
    · exact .inr (.inl h3)
    · refine .inr (.inr ⟨L, a, ?_, xs, c, d⟩)
      rw [upd_ne (fun e => by rw [e, ns] at c; cases c)]
      exact b
theorem cut8 (x y : List V) (h : x.length = 8) : cutV (x ++ y) (some 8) none = y := by
  unfold cutV
  rw [HT.sIx_none, show (some (8 : Int)) = some ((8 : Nat) : Int) from rfl, HT.sIx_nat, List.length_append, h, Nat.min_eq_left (by omega), List.drop_append_of_le_length (by omega), List.drop_of_length_le (by omega), List.nil_append, List.take_of_length_le (by omega)]
def zq (z : Z) : AqZ := (z.1, (z.2.1 : Int), (z.2.2 : Int))
section
variable {P : Program} {w : World} {K : PySem.W.Frag} {mg : Str → Option Value} {base : Heap} {f : Addr} {fd : FuncData}
/-! ### _law_right -/
abbrev law_right_N : List Str := ["network", "sizes", "rows", "odd", "asked", "told", "part", "answer"]
theorem law_right_sc : FnScope ["network", "sizes", "rows", "odd", "asked", "told", "part", "answer"] ["network", "sizes", "rows", "odd"] (defScope law_right_st) := ⟨rfl, rfl, rfl, by decide +kernel, rfl, by decide +kernel, by decide +kernel⟩
def OdAt (H : Hp) (od : Addr) (qs : List AqZ) (los : List (Addr × List Int)) : Prop := ∃ oq ol, H od = some (.tup [.ref oq, .ref ol]) ∧ H oq = some (.lst (qs.map aV)) ∧ PqZ H qs ∧ qs.length ≤ 4 ∧ H ol = some (.lst (los.map lV)) ∧ LoZ H los ∧ los.length ≤ 4
theorem OdAt.keep {H H' : Hp} {od : Addr} {qs : List AqZ} {los : List (Addr × List Int)} (h : OdAt H od qs los) (e : Same H H') : OdAt H' od qs los := by
  obtain ⟨oq, ol, a, b, c, d, x, y, z⟩ := h
  exact ⟨oq, ol, e _ _ a, e _ _ b, c.keep e, d, e _ _ x, y.keep e, z⟩
def spRightT (C : Addr) : Sp := fun vs H Q _ => ∃ (p ts a od : Addr) (m n : Nat) (zs : List Z) (qs : List AqZ) (los : List (Addr × List Int)), vs = [.ref p, .ref ts, .ref a, .ref od] ∧ NF C H p m n (zs.map (·.2)) ∧ Sz H ts a m n zs ∧ zs.length ≤ 16 ∧ OdAt H od qs los ∧ ∀ H', Same H H' → Q (.bl true) H'
theorem ok_right {C f1 f2 f3 : Addr} {fd1 fd2 fd3 : FuncData} (F : FnS K "_law_right" law_right_st f fd) (m_isinstance : mg "isinstance" = none) (m_tuple : mg "tuple" = none) (m_list : mg "list" = none)
    (D_law_all_told : Dn P w K mg base 7 "_law_all_told" ["network", "sizes", "asked", "lists"] (spAllTold C) f1 fd1) (D_law_all_due : Dn P w K mg base 3 "_law_all_due" ["sizes", "rows", "asked", "lists"] spAllDue f2 fd2) (D_law_same : Dn P w K mg base 5 "_law_same" ["told", "due"] (spSame 4) f3 fd3) :
    FnOk P w K mg base (L2N.CX P w) 8 f fd ["network", "sizes", "rows", "odd"] (spRightT C) := by
  refine F.ok law_right_sc (fun vs H Q E h => ?_) (fun cdv A outer s H vs Q E hr h => ?_)
  · obtain ⟨p, ts, a, od, m, n, zs, qs, los, rfl, _⟩ := h
    rfl
  · obtain ⟨p, ts, a, od, m, n, zs, qs, los, rfl, N, S, few, OD, q⟩ := h
    have hs := S.hs
    have m8 := S.m8
    have n8 := S.n8
    obtain ⟨oq, ol, hod, hoq, hq, q4, hol, hlo, l4⟩ := OD
    have lz : (zs.map (·.2)).length ≤ 16 := by rw [List.length_map]; exact few
    refine ⟨_, (pss_cons (ps_set (i := 4) law_right_sc.nd rfl (Or.inl rfl) (pe_op op_cat (pv 2) (pe_ix ix_tup (pv 3) pe_int (fun _ _ => rfl))))
      (pss_cons (ps_set (i := 5) law_right_sc.nd rfl (Or.inl rfl) (pe_call D_law_all_told.ok (hr.mono (by decide)) rfl D_law_all_told.g D_law_all_told.kp D_law_all_told.b .nil ErrX.passN (pa_cons (pv 0) (pa_cons (pv 1) (pa_cons (pv 4) (pa_cons (pe_ix ix_tup (pv 3) pe_int (fun _ _ => rfl)) pa_nil))))))
      (pss_cons (ps_if (pt_not (pt_val (pe_call D_law_same.ok (hr.mono (by decide)) rfl D_law_same.g D_law_same.kp D_law_same.b .nil ErrX.passN (pa_cons (pv 5) (pa_cons (pe_call D_law_all_due.ok (hr.mono (by decide)) rfl D_law_all_due.g D_law_all_due.kp D_law_all_due.b .nil ErrX.passN (pa_cons (pv 1) (pa_cons (pv 2) (pa_cons (pv 4) (pa_cons (pe_ix ix_tup (pv 3) pe_int (fun _ _ => rfl)) pa_nil))))) pa_nil))))) (pss_one (ps_ret pe_bl)) pss_nil)
      (pss_cons (ps_expr (pe_bm0 PySem.F.plainAttrs_list PySem.F.slot_list_reverse PySem.F.type_list_reverse mt_reverse (pe_ix ix_list (pv 5) pe_int (fun _ _ => rfl))))
      (pss_cons (ps_expr (pe_bm PySem.F.plainAttrs_list PySem.F.slot_list_append PySem.F.type_list_append mt_append (pe_ix ix_list (pv 5) pe_int (fun _ _ => rfl)) (pa_cons (pe_tup (pa_cons pe_int (pa_cons pe_int pa_nil))) pa_nil)))
      (pss_cons (ps_for (passes_of rfl) rfl (pi_list (pe_ix ix_list (pv 5) pe_int (fun _ _ => rfl))) (pg_name (i := 6) law_right_sc.nd rfl (Or.inl rfl))
      (pss_cons (ps_expr (pe_bm PySem.F.plainAttrs_list PySem.F.slot_list_append PySem.F.type_list_append mt_append (pe_ix ix_tup (pv 6) pe_int (fun _ _ => rfl)) (pa_cons pe_int pa_nil)))
      (pss_one (ps_expr (pe_bm PySem.F.plainAttrs_list PySem.F.slot_list_append PySem.F.type_list_append mt_append (pe_ix ix_tup (pv 6) pe_int (fun _ _ => rfl)) (pa_cons pe_int pa_nil))))))
      (pss_cons (ps_expr (pe_bm0 PySem.F.plainAttrs_list PySem.F.slot_list_reverse PySem.F.type_list_reverse mt_reverse (pe_ix ix_list (pv 5) pe_int (fun _ _ => rfl))))
      (pss_cons (ps_for (passes_of rfl) rfl (pi_list (pe_slice sl_list (pv 5) (po_some pe_int) po_none)) (pg_name (i := 7) law_right_sc.nd rfl (Or.inl rfl))
      (pss_one (ps_if (PW.pt (pw_and (pt_val (pe_callB call_isi (by rfl) m_isinstance (by decide +kernel) (pa_cons (pv 7) (pa_cons (pe_bltn (by rfl) m_tuple (by decide +kernel) (v := .ty "tuple") rfl) pa_nil)))) (pw_and1 (pt_val (pe_callB call_isi (by rfl) m_isinstance (by decide +kernel) (pa_cons (pe_ix ix_tup (pv 7) pe_int (fun _ _ => rfl)) (pa_cons (pe_bltn (by rfl) m_list (by decide +kernel) (v := .ty "list") rfl) pa_nil))))))) (pss_one (ps_expr (pe_bm PySem.F.plainAttrs_list PySem.F.slot_list_append PySem.F.type_list_append mt_append (pe_ix ix_tup (pv 7) pe_int (fun _ _ => rfl)) (pa_cons pe_int pa_nil)))) pss_nil)))
      (pss_one (ps_ret pe_bl)))))))))), ?_⟩
    have big := small1000 (show 500 ≤ 1000 by decide)
    refine ⟨.ref a, rfl, .ref od, rfl, od, _, 0, .ref oq, rfl, rfl, sqt hod, rfl, a, oq, zs.map zV, qs.map aV, rfl, rfl, S.ha, hoq, by rw [List.length_map, List.length_map]; omega, fun al nal => ?_⟩
    have s1 := Same.new (o := .lst (zs.map zV ++ qs.map aV)) nal
    have ha1 : (upd H al (.lst (zs.map zV ++ qs.map aV))) al = some (.lst ((zs.map zq ++ qs).map aV)) := by
      rw [upd_same, List.map_append, List.map_map]
      rfl
    generalize upd H al (.lst (zs.map zV ++ qs.map aV)) = H1 at s1 ha1 ⊢
    have hq1 : PqZ H1 (zs.map zq ++ qs) := fun x hx => by
      rcases List.mem_append.mp hx with hx | hx
      · obtain ⟨z, hz, rfl⟩ := List.mem_map.mp hx
        exact s1 _ _ (S.pr z hz)
      · exact s1 _ _ (hq x hx)
    have q20 : (zs.map zq ++ qs).length ≤ 20 := by rw [List.length_append, List.length_map]; omega
    refine ⟨.ref p, rfl, .ref ts, rfl, .ref al, rfl, .ref od, rfl, od, _, 1, .ref ol, rfl, rfl, sqt (s1 _ _ hod), rfl, p, ts, al, ol, m, n, _, zs.map zq ++ qs, los, rfl, N.keep s1, s1 _ _ hs, ha1, hq1, q20, s1 _ _ hol, hlo.keep s1, l4, fun H2 T r g zt us ys D => ?_⟩
    have s2 := s1.trans D.sm
    refine ⟨.ref T, rfl, .ref ts, rfl, .ref a, rfl, .ref al, rfl, .ref od, rfl, od, _, 1, .ref ol, rfl, rfl, sqt (s2 _ _ hod), rfl, ts, a, al, ol, m, n, zs, zs.map zq ++ qs, los, rfl, S.keep s2, few, D.sm _ _ ha1, hq1.keep D.sm, q20, s2 _ _ hol, hlo.keep s2, l4, fun H3 T' r' g' zt' us' ys' D' => ?_⟩
    have s3 := s2.trans D'.sm
    have R1 := (D.reps m8 n8 lz).keep D'.sm
    have R2 := D'.reps m8 n8 lz
    have hlen : (x8 m n (zs.map (·.2)) r g ++ ys).length ≤ 100 := by
      rw [R1.1, List.length_append]
      unfold dRest
      simp only [List.length_append, segC_len, segD_len, segQ_len, segL_len, List.length_map]
      show 8 + _ ≤ 100
      omega
    have hlen' : (x8 m n (zs.map (·.2)) r' g' ++ ys').length ≤ 100 := by
      rw [R2.1, ← R1.1]
      exact hlen
    have sm4 : Sm 4 H3 (.ref T) (.ref T') := sm_of (Rep.lst (D'.sm _ _ D.hT) trivial R1 hlen) (Rep.lst D'.hT trivial R2 hlen')
    refine ⟨.ref T, .ref T', rfl, sm4, _, rfl, iteF ?_⟩
    have hT := D'.sm _ _ D.hT
    have hr3 := D'.sm _ _ D.hr
    have hg3 := D'.sm _ _ D.hg
    have l16 : zt.length ≤ 16 := by
      have := congrArg List.length D.ez
      rw [List.length_map] at this
      omega
    have u16 : us.length ≤ 16 := by
      have h1 := congrArg List.length D.eu
      rw [List.length_map] at h1
      have := pcs_len (labs_len m n (zs.map (·.2)))
      omega
    have pcb : PcB H H3 100 us := fun z hz => by
      have hm : z.d ∈ pcs m n (labs m n (zs.map (·.2))) := by
        rw [← D.eu]
        exact List.mem_map_of_mem hz
      have h1 := (D.pu.keep D'.sm) z hz
      have h2 := pcs_short m8 n8 hm
      exact ⟨h1.ht, ⟨_, h1.ho, by rw [List.length_map]; exact h2.1⟩, ⟨_, h1.hu, by rw [List.length_map]; exact h2.2⟩⟩
    have anb : ∀ v ∈ ys, AnB H H3 100 v := fun v hv => ((AnB.of (((D.an v hv).from s1))).keep D'.sm)
    have nr0 : H r = none := s1.back D.nr
    have ng0 : H g = none := s1.back D.ng
    have nu0 : ∀ z ∈ us, H z.o = none ∧ H z.u = none := fun z hz => ⟨s1.back (D.fu z hz).2.1, s1.back (D.fu z hz).2.2⟩
    have rT := D.rT
    have gT := D.gT
    have rg := D.rg
    have uT := D.uT
    have nu := D.nu
    clear R1 R2 sm4 D' D s2 s1 ha1 hq1 hlen' q20
    have M : MS H H3 T (x8 m n (zs.map (·.2)) r g) ys g us 100 := ⟨s3, hT, hg3, pcb, anb⟩
    clear hT hg3 pcb anb
    refine ⟨.ref T, rfl, T, _, 2, .ref r, rfl, rfl, sq M.hT, atI_nat (j := 2) rfl, .inl ⟨rfl, _, sq hr3⟩, r, _, rfl, rfl, hr3, ?_⟩
    have M1 := M.upd (xs := (zt.map zV).reverse) (k := 100) hr3 nr0 rT rg (by rw [List.length_reverse, List.length_map]; omega) (Nat.le_refl _)
    have hr4 : (upd H3 r (.lst (zt.map zV).reverse)) r = some (.lst (zt.map zV).reverse) := upd_same
    generalize upd H3 r (.lst (zt.map zV).reverse) = H4 at M1 hr4 ⊢
    refine ⟨.ref T, rfl, T, _, 2, .ref r, rfl, rfl, sq M1.hT, atI_nat (j := 2) rfl, .inl ⟨rfl, _, sq hr4⟩, len2, fun t9 n9 => ?_⟩
    have s9 := Same.new (o := .tup [.int 9, .int 9]) n9
    have M2 := M1.keep s9
    have hr5 := s9 _ _ hr4
    refine ⟨r, _, .ref t9, rfl, rfl, hr5, small1000 (by rw [List.length_reverse, List.length_map]; omega), ?_⟩
    have M3 := M2.upd (xs := (zt.map zV).reverse ++ [.ref t9]) (k := 100) hr5 nr0 rT rg (by rw [List.length_append, List.length_reverse, List.length_map]; show _ + 1 ≤ 100; omega) (Nat.le_refl _)
    generalize upd (upd H4 t9 (.tup [.int 9, .int 9])) r (.lst ((zt.map zV).reverse ++ [.ref t9])) = H5 at M3 ⊢
    clear M M1 M2 hr3 hr4 hr5 s9
    refine ⟨.ref T, rfl, T, _, 7, .ref g, rfl, rfl, sq M3.hT, atI_nat (j := 7) rfl, g, rfl, ⟨_, sq M3.hg⟩, ?_⟩
    refine for_list (K := K) (a := g) (xs := us.map pV) (fun j σ H' => ∃ y6 : Option V, σ = [some (.ref p), some (.ref ts), some (.ref a), some (.ref od), some (.ref al), some (.ref T), y6, none] ∧ MS H H' T (x8 m n (zs.map (·.2)) r g) ys g us (100 + 2 * j)) ⟨none, rfl, M3⟩ (fun j σ H' _ h => ?_) (fun j x σ H' hx h => ?_) (fun σ H' h => ?_)
    · obtain ⟨_, _, M⟩ := h
      exact sq M.hg
    · obtain ⟨y6, rfl, M⟩ := h
      have hx' := hx
      rw [List.getElem?_map] at hx'
      cases e : us[j]? with
      | none => rw [e] at hx'; cases hx'
      | some z =>
        rw [e] at hx'
        cases hx'
        have mz := List.mem_of_getElem? e
        have hj : j < us.length := (List.getElem?_eq_some_iff.mp e).1
        obtain ⟨h1, ⟨xs, h2, h2l⟩, h3⟩ := M.pcb z mz
        refine ⟨.ref z.t, rfl, z.t, _, 0, .ref z.o, rfl, rfl, sqt h1, rfl, .inl ⟨rfl, _, sq h2⟩, z.o, xs, .int 9, rfl, rfl, h2, small1000 (by omega), ?_⟩
        have M' := M.upd (xs := xs ++ [.int 9]) (k := 100 + 2 * j + 1) h2 (nu0 z mz).1 (uT z mz).1 (nu z mz).1 (by rw [List.length_append]; show _ + 1 ≤ _; omega) (by omega)
        generalize upd H' z.o (.lst (xs ++ [.int 9])) = H6 at M' ⊢
        obtain ⟨k1, _, ⟨xs2, k2, k2l⟩⟩ := M'.pcb z mz
        refine ⟨.ref z.t, rfl, z.t, _, 1, .ref z.u, rfl, rfl, sqt k1, rfl, .inl ⟨rfl, _, sq k2⟩, z.u, xs2, .int 9, rfl, rfl, k2, small1000 (by omega), ?_⟩
        exact ⟨_, rfl, M'.upd (xs := xs2 ++ [.int 9]) (k := 100 + 2 * (j + 1)) k2 (nu0 z mz).2 (uT z mz).2 (nu z mz).2 (by rw [List.length_append]; show _ + 1 ≤ _; omega) (by omega)⟩
    obtain ⟨y6, rfl, M⟩ := h
    rw [List.length_map] at M
    clear M3
    refine ⟨.ref T, rfl, T, _, 7, .ref g, rfl, rfl, sq M.hT, atI_nat (j := 7) rfl, .inl ⟨rfl, _, sq M.hg⟩, g, _, rfl, rfl, M.hg, ?_⟩
    have sF : Same H (upd H' g (.lst (us.map pV).reverse)) := M.sm.mut ng0
    have hTF : (upd H' g (.lst (us.map pV).reverse)) T = some (.lst ((x8 m n (zs.map (·.2)) r g) ++ ys)) := by
      rw [upd_ne gT.symm]
      exact M.hT
    have anF : ∀ v ∈ ys, AnB H (upd H' g (.lst (us.map pV).reverse)) 132 v := fun v hv => (((M.anb v hv).le (k := 132) (by omega)).upd (k := 132) M.hg (by rw [List.length_reverse, List.length_map]; omega) (Nat.le_refl _))
    generalize upd H' g (.lst (us.map pV).reverse) = H7 at sF hTF anF ⊢
    refine ⟨.ref T, rfl, 8, rfl, T, _, rfl, sq hTF, fun sl nsl => ?_⟩
    rw [cut8 _ _ rfl]
    have lys : ys.length ≤ 100 := by
      rw [List.length_append] at hlen
      omega
    have anS : ∀ v ∈ ys, AnB (upd H sl (.lst ys)) (upd H7 sl (.lst ys)) 132 v := fun v hv => ((anF v hv).off nsl).keep (Same.new nsl)
    have hsl : (upd H7 sl (.lst ys)) sl = some (.lst ys) := upd_same
    have sS : Same H (upd H7 sl (.lst ys)) := sF.trans (Same.new nsl)
    generalize upd H7 sl (.lst ys) = H8 at anS hsl sS ⊢
    refine ⟨sl, rfl, ⟨_, sq hsl⟩, ?_⟩
    refine for_list (K := K) (a := sl) (xs := ys) (fun j σ H' => ∃ y6 y7 : Option V, σ = [some (.ref p), some (.ref ts), some (.ref a), some (.ref od), some (.ref al), some (.ref T), y6, y7] ∧ Same H H' ∧ H' sl = some (.lst ys) ∧ ∀ v ∈ ys, AnB (upd H sl (.lst ys)) H' (132 + j) v) ⟨_, _, rfl, sS, hsl, anS⟩ (fun j σ H' _ h => ?_) (fun j x σ H' hx h => ?_) (fun σ H' h => ?_)
    · obtain ⟨_, _, _, _, h, _⟩ := h
      exact sq h
    · obtain ⟨y6, y7, rfl, sj, hsj, an⟩ := h
      have hj : j < ys.length := (List.getElem?_eq_some_iff.mp hx).1
      rcases an x (List.mem_of_getElem? hx) with ⟨c, rfl⟩ | ⟨t, w', x', rest, rfl, ht, hx'⟩
      · refine ⟨.bl c, rfl, .bl c, .ty "tuple", .type "bool", .type "tuple", false, rfl, .ty _, .base (.bl c), kit_ty (by decide +kernel), _, rfl, iteF ?_⟩
        exact ⟨_, _, rfl, sj, hsj, fun v hv => (an v hv).le (by omega)⟩
      · refine ⟨.ref t, rfl, .ref t, .ty "tuple", .type "tuple", .type "tuple", true, rfl, .ty _, .base (.tup ht), kit_ty (by decide +kernel), _, rfl, iteT ?_⟩
        refine ⟨.ref t, rfl, t, _, 1, x', rfl, rfl, sqt ht, atI_nat (j := 1) rfl, ?_⟩
        rcases hx' with ⟨i, rfl⟩ | ⟨z, rfl⟩ | ⟨L, rfl, nL, xs, hL, hl⟩
        · refine ⟨.int i, .ty "list", .type "int", .type "list", false, rfl, .ty _, .base (.int i), kit_ty (by decide +kernel), _, rfl, iteF ?_⟩
          exact ⟨_, _, rfl, sj, hsj, fun v hv => (an v hv).le (by omega)⟩
        · refine ⟨.str z, .ty "list", .type "str", .type "list", false, rfl, .ty _, .base (.str z), kit_ty (by decide +kernel), _, rfl, iteF ?_⟩
          exact ⟨_, _, rfl, sj, hsj, fun v hv => (an v hv).le (by omega)⟩
        · refine ⟨.ref L, .ty "list", .type "list", .type "list", true, rfl, .ty _, .base (.lst hL), kit_ty (by decide +kernel), _, rfl, iteT ?_⟩
          have nLs : L ≠ sl := fun e => by rw [e, upd_same] at nL; cases nL
          have nLH : H L = none := by rw [upd_ne nLs] at nL; exact nL
          refine ⟨.ref t, rfl, t, _, 1, .ref L, rfl, rfl, sqt ht, atI_nat (j := 1) rfl, .inl ⟨rfl, _, sq hL⟩, L, xs, .int 9, rfl, rfl, hL, small1000 (by omega), ?_⟩
          exact ⟨_, _, rfl, sj.mut nLH, by rw [upd_ne nLs.symm]; exact hsj, fun v hv => (an v hv).upd hL (by rw [List.length_append]; show _ + 1 ≤ _; omega) (by omega)⟩
    · obtain ⟨y6, y7, rfl, sj, _⟩ := h
      exact q _ sj
end
end K03
set_option Elab.async false
set_option linter.all false
set_option maxRecDepth 100000
set_option maxHeartbeats 4000000
namespace K03
open PySem PySem.Spec PyProof.Rows L2
theorem same_del {H H' : Hp} {b : Addr} (e : Same H H') : Same (del H b) (del H' b) := fun a o h => by
  by_cases c : a = b
  · rw [c, del_same] at h
    cases h
  · rw [del_ne c] at h ⊢
    exact e _ _ h
theorem del_sub {H : Hp} {b : Addr} : Same (del H b) H := fun a o h => by
  by_cases c : a = b
  · rw [c, del_same] at h
    cases h
  · rw [del_ne c] at h
    exact h
theorem but_del {H H' : Hp} {b : Addr} (e : But b H H') : Same (del H b) (del H' b) := fun a o h => by
  by_cases c : a = b
  · rw [c, del_same] at h
    cases h
  · rw [del_ne c] at h ⊢
    exact e _ _ c h
theorem PqZ.but {H H' : Hp} {p : Addr} {xs : List V} {qs : List AqZ} (h : PqZ H qs) (hp : H p = some (.lst xs)) (b : But p H H') : PqZ H' qs := fun q hq => b _ _ (fun e => by have := h q hq; rw [e, hp] at this; cases this) (h q hq)
theorem But.refl {p : Addr} {H : Hp} : But p H H := fun _ _ _ e => e
section
variable {P : Program} {w : World} {K : PySem.W.Frag} {mg : Str → Option Value} {base : Heap} {f : Addr} {fd : FuncData}
/-! ### _law_draw_odd -/
abbrev law_draw_odd_N : List Str := ["pool", "sizes", "pairs", "step", "first", "lists", "lot", "turns"]
theorem law_draw_odd_sc : FnScope ["pool", "sizes", "pairs", "step", "first", "lists", "lot", "turns"] ["pool", "sizes"] (defScope law_draw_odd_st) := ⟨rfl, rfl, rfl, by decide +kernel, rfl, by decide +kernel, by decide +kernel⟩
def spOdd : Sp := fun vs H Q _ => ∃ (p ts : Addr) (x : Int) (m n : Nat), vs = [.ref p, .ref ts] ∧ H p = some (.lst [.int x]) ∧ H ts = some (.tup [nV m, nV n]) ∧ m ≤ 8 ∧ n ≤ 8 ∧ ∀ (H' : Hp) (t : Addr) (y : Int) (qs : List AqZ) (los : List (Addr × List Int)), But p H H' → H' p = some (.lst [.int y]) → OdAt (del H' p) t qs los → Q (.ref t) H'
theorem ok_odd {f1 : Addr} {fd1 : FuncData} (F : FnS K "_law_draw_odd" law_draw_odd_st f fd) (m_range : mg "range" = none) (D_law_take : Dn P w K mg base 1 "_law_take" ["pool", "many"] spTake f1 fd1) : FnOk P w K mg base (L2N.CX P w) 2 f fd ["pool", "sizes"] spOdd := by
  refine F.ok law_draw_odd_sc (fun vs H Q E h => ?_) (fun cdv A outer s H vs Q E hr h => ?_)
  · obtain ⟨p, ts, x, m, n, rfl, _⟩ := h
    rfl
  · obtain ⟨p, ts, x, m, n, rfl, hp, hs, m8, n8, q⟩ := h
    refine ⟨_, (pss_cons (ps_set (i := 2) law_draw_odd_sc.nd rfl (Or.inl rfl) (pe_lst pa_nil))
      (pss_cons (ps_for (passes_of rfl) rfl (pi_range1 rfl m_range (pa_cons pe_int pa_nil)) (pg_name (i := 3) law_draw_odd_sc.nd rfl (Or.inl rfl))
      (pss_cons (ps_set (i := 4) law_draw_odd_sc.nd rfl (Or.inl rfl) (pe_op op_sub (pe_call D_law_take.ok (hr.mono (by decide)) rfl D_law_take.g D_law_take.kp D_law_take.b .nil ErrX.passN (pa_cons (pv 0) (pa_cons (pe_op op_add (pe_ix ix_tup (pv 1) pe_int (fun _ _ => rfl)) pe_int) pa_nil))) pe_int))
      (pss_one (ps_expr (pe_bm PySem.F.plainAttrs_list PySem.F.slot_list_append PySem.F.type_list_append mt_append (pv 2) (pa_cons (pe_tup (pa_cons (pv 4) (pa_cons (pe_op op_sub (pe_call D_law_take.ok (hr.mono (by decide)) rfl D_law_take.g D_law_take.kp D_law_take.b .nil ErrX.passN (pa_cons (pv 0) (pa_cons (pe_op op_add (pe_ix ix_tup (pv 1) pe_int (fun _ _ => rfl)) pe_int) pa_nil))) pe_int) pa_nil))) pa_nil))))))
      (pss_cons (ps_set (i := 5) law_draw_odd_sc.nd rfl (Or.inl rfl) (pe_lst pa_nil))
      (pss_cons (ps_for (passes_of rfl) rfl (pi_range1 rfl m_range (pa_cons pe_int pa_nil)) (pg_name (i := 3) law_draw_odd_sc.nd rfl (Or.inl rfl))
      (pss_cons (ps_set (i := 6) law_draw_odd_sc.nd rfl (Or.inl rfl) (pe_lst pa_nil))
      (pss_cons (ps_for (passes_of rfl) rfl (pi_range1 rfl m_range (pa_cons (pe_call D_law_take.ok (hr.mono (by decide)) rfl D_law_take.g D_law_take.kp D_law_take.b .nil ErrX.passN (pa_cons (pv 0) (pa_cons pe_int pa_nil))) pa_nil)) (pg_name (i := 7) law_draw_odd_sc.nd rfl (Or.inl rfl))
      (pss_one (ps_expr (pe_bm PySem.F.plainAttrs_list PySem.F.slot_list_append PySem.F.type_list_append mt_append (pv 6) (pa_cons (pe_op op_sub (pe_call D_law_take.ok (hr.mono (by decide)) rfl D_law_take.g D_law_take.kp D_law_take.b .nil ErrX.passN (pa_cons (pv 0) (pa_cons (pe_op op_add (pe_ix ix_tup (pv 1) pe_int (fun _ _ => rfl)) pe_int) pa_nil))) pe_int) pa_nil)))))
      (pss_one (ps_expr (pe_bm PySem.F.plainAttrs_list PySem.F.slot_list_append PySem.F.type_list_append mt_append (pv 5) (pa_cons (pv 6) pa_nil)))))))
      (pss_one (ps_ret (pe_tup (pa_cons (pv 2) (pa_cons (pv 5) pa_nil))))))))), ?_⟩
    have ntp : ts ≠ p := fun e => by rw [e, hp] at hs; cases hs
    refine ⟨len0, fun pl npl => ?_⟩
    have nplp : pl ≠ p := (ne_of_none hp npl).symm
    have s0 := Same.new (o := .lst []) npl
    refine ⟨4, rfl, by decide, by decide, ?_⟩
    refine for_range (lo := 0) (n := 4) (fun i σ H' => ∃ (y3 y4 : Option V) (x' : Int) (qs : List AqZ), σ = [some (.ref p), some (.ref ts), some (.ref pl), y3, y4, none, none, none] ∧ But p H H' ∧ H' p = some (.lst [.int x']) ∧ H' pl = some (.lst (qs.map aV)) ∧ PqZ H' qs ∧ qs.length = i) ⟨none, none, x, [], rfl, But.of s0, s0 _ _ hp, upd_same, (fun _ h => nomatch h), rfl⟩ (fun i σ H' hi h => ?_) (fun σ H' h => ?_)
    · obtain ⟨y3, y4, x', qs, rfl, b, hp', hl, hq, ql⟩ := h
      refine ⟨.ref p, rfl, .ref ts, rfl, ts, _, 0, nV m, rfl, rfl, sqt (b _ _ ntp hs), rfl, (m : Int), 2, rfl, rfl, p, x', (m : Int) + 2, rfl, hp', by omega, by omega, fun d y H1 d0 dm b1 hp1 => ?_⟩
      refine ⟨d, 1, rfl, rfl, ?_⟩
      have hl1 := b1 _ _ nplp hl
      have hq1 := hq.but hp' b1
      refine ⟨.ref pl, rfl, .inl ⟨rfl, _, sq hl1⟩, .int (d - 1), rfl, .ref p, rfl, .ref ts, rfl, ts, _, 1, nV n, rfl, rfl, sqt ((b.trans b1) _ _ ntp hs), rfl, (n : Int), 2, rfl, rfl, p, y, (n : Int) + 2, rfl, hp1, by omega, by omega, fun d2 y2 H2 d20 dm2 b2 hp2 => ?_⟩
      have hl2 := b2 _ _ nplp hl1
      have hq2 := hq1.but hp1 b2
      refine ⟨d2, 1, rfl, rfl, len2, fun t nt => ?_⟩
      have st := Same.new (o := .tup [.int (d - 1), .int (d2 - 1)]) nt
      refine ⟨pl, _, .ref t, rfl, rfl, st _ _ hl2, small1000 (by rw [List.length_map]; omega), ?_⟩
      have nplt : pl ≠ t := ne_of_none hl2 nt
      refine ⟨_, _, y2, qs ++ [(t, d - 1, d2 - 1)], rfl, fun c o nc e => ?_, ?_, ?_, ?_, ?_⟩
      · rw [upd_ne (ne_of_none e npl)]
        exact st _ _ ((b.trans (b1.trans b2)) c o nc e)
      · rw [upd_ne nplp.symm]
        exact st _ _ hp2
      · rw [upd_same, List.map_append]
        rfl
      · intro z hz
        rcases List.mem_append.mp hz with hz | hz
        · have := st _ _ (hq2 z hz)
          rw [upd_ne (fun e => by rw [e, st _ _ hl2] at this; cases this)]
          exact this
        · rw [List.mem_singleton.mp hz]
          show upd _ pl _ t = _
          rw [upd_ne nplt.symm]
          exact upd_same
      · rw [List.length_append, ql]
        rfl
    obtain ⟨y3, y4, x', qs, rfl, b, hp', hl, hq, ql⟩ := h
    refine ⟨len0, fun ll nll => ?_⟩
    have nllp : ll ≠ p := (ne_of_none hp' nll).symm
    have nllpl : pl ≠ ll := ne_of_none hl nll
    have s1 := Same.new (o := .lst []) nll
    refine ⟨2, rfl, by decide, by decide, ?_⟩
    refine for_range (lo := 0) (n := 2) (fun i σ H1 => ∃ (y3 y6 y7 : Option V) (x' : Int) (los : List (Addr × List Int)), σ = [some (.ref p), some (.ref ts), some (.ref pl), y3, y4, some (.ref ll), y6, y7] ∧ But p H' H1 ∧ H1 p = some (.lst [.int x']) ∧ H1 ll = some (.lst (los.map lV)) ∧ LoZ H1 los ∧ (∀ z ∈ los, z.1 ≠ p ∧ z.1 ≠ ll) ∧ los.length = i) ⟨_, none, none, x', [], rfl, But.of s1, s1 _ _ hp', upd_same, (fun _ h => nomatch h), (fun _ h => nomatch h), rfl⟩ (fun i σ H1 hi h => ?_) (fun σ H1 h => ?_)
    · obtain ⟨y3, y6, y7, x1, los, rfl, b1, hp1, hl1, hlo, nlo, lol⟩ := h
      refine ⟨len0, fun lo nlo' => ?_⟩
      have nlop : lo ≠ p := (ne_of_none hp1 nlo').symm
      have nlol : lo ≠ ll := (ne_of_none hl1 nlo').symm
      have s2 := Same.new (o := .lst []) nlo'
      refine ⟨.ref p, rfl, p, x1, 5, rfl, s2 _ _ hp1, by omega, by omega, fun d y H2 d0 dm b2 hp2 => ?_⟩
      refine ⟨_, rfl, by omega, by omega, ?_⟩
      have hlo2 : H2 lo = some (.lst []) := b2 _ _ nlop upd_same
      have hll2 := b2 _ _ nllp.symm.symm (s2 _ _ hl1)
      have bA : But p H1 H2 := (But.of s2).trans b2
      refine for_range (lo := 0) (n := d.toNat) (fun j σ H3 => ∃ (y7 : Option V) (x3 : Int) (ns : List Int), σ = [some (.ref p), some (.ref ts), some (.ref pl), some (.int (0 + (i : Int))), y4, some (.ref ll), some (.ref lo), y7] ∧ But p H1 H3 ∧ H3 p = some (.lst [.int x3]) ∧ H3 lo = some (.lst (ns.map V.int)) ∧ ns.length = j) ⟨_, y, [], rfl, bA, hp2, hlo2, rfl⟩ (fun j σ H3 hj h => ?_) (fun σ H3 h => ?_)
      · obtain ⟨y7, x3, ns, rfl, b3, hp3, hlo3, nsl⟩ := h
        refine ⟨.ref lo, rfl, .inl ⟨rfl, _, sq hlo3⟩, .ref p, rfl, .ref ts, rfl, ts, _, 0, nV m, rfl, rfl, sqt ((b.trans (b1.trans b3)) _ _ ntp hs), rfl, (m : Int), 2, rfl, rfl, p, x3, (m : Int) + 2, rfl, hp3, by omega, by omega, fun d4 y4' H4 d40 dm4 b4 hp4 => ?_⟩
        refine ⟨d4, 1, rfl, rfl, lo, _, .int (d4 - 1), rfl, rfl, b4 _ _ nlop hlo3, small1000 (by rw [List.length_map]; omega), ?_⟩
        refine ⟨_, y4', ns ++ [d4 - 1], rfl, fun c o nc e => ?_, ?_, ?_, ?_⟩
        · rw [upd_ne (ne_of_none e nlo')]
          exact (b3.trans b4) c o nc e
        · rw [upd_ne nlop.symm]
          exact hp4
        · rw [upd_same, List.map_append]
          rfl
        · rw [List.length_append, nsl]
          rfl
      · obtain ⟨y7, x3, ns, rfl, b3, hp3, hlo3, nsl⟩ := h
        have hll3 := b3 _ _ nllp hl1
        refine ⟨.ref ll, rfl, .inl ⟨rfl, _, sq hll3⟩, .ref lo, rfl, ll, _, .ref lo, rfl, rfl, hll3, small1000 (by rw [List.length_map]; omega), ?_⟩
        refine ⟨_, _, _, x3, los ++ [(lo, ns)], rfl, fun c o nc e => ?_, ?_, ?_, ?_, ?_, ?_⟩
        · rw [upd_ne (ne_of_none e nll)]
          exact (b1.trans b3) c o nc e
        · rw [upd_ne nllp.symm]
          exact hp3
        · rw [upd_same, List.map_append]
          rfl
        · intro z hz
          rcases List.mem_append.mp hz with hz | hz
          · refine ⟨?_, (hlo z hz).2⟩
            rw [upd_ne (nlo z hz).2]
            exact b3 _ _ (nlo z hz).1 (hlo z hz).1
          · rw [List.mem_singleton.mp hz]
            refine ⟨?_, by show ns.length ≤ 10; omega⟩
            show upd _ ll _ lo = _
            rw [upd_ne nlol]
            exact hlo3
        · intro z hz
          rcases List.mem_append.mp hz with hz | hz
          · exact nlo z hz
          · rw [List.mem_singleton.mp hz]
            exact ⟨nlop, nlol⟩
        · rw [List.length_append, lol]
          rfl
    obtain ⟨y3', y6, y7, x1, los, rfl, b1, hp1, hl1, hlo, nlo, lol⟩ := h
    refine ⟨.ref pl, rfl, .ref ll, rfl, len2, fun t nt => ?_⟩
    have st := Same.new (o := .tup [V.ref pl, V.ref ll]) nt
    have hq1 := hq.but hp' b1
    refine q _ t x1 qs los (b.trans (b1.trans (But.of st))) (st _ _ hp1) ⟨pl, ll, ?_, ?_, ?_, by omega, ?_, ?_, by omega⟩
    · rw [del_ne (ne_of_none hp1 nt).symm]
      exact upd_same
    · rw [del_ne nplp]
      exact st _ _ (b1 _ _ nplp hl)
    · intro z hz
      have := st _ _ (hq1 z hz)
      rw [del_ne (fun e => by rw [e, st _ _ hp1] at this; cases this)]
      exact this
    · rw [del_ne nllp]
      exact st _ _ hl1
    · intro z hz
      refine ⟨?_, (hlo z hz).2⟩
      rw [del_ne (nlo z hz).1]
      exact st _ _ (hlo z hz).1
end
end K03
set_option Elab.async false
set_option linter.all false
set_option maxRecDepth 100000
set_option maxHeartbeats 4000000
namespace K03
open PySem PySem.Spec PyProof.Rows L2
theorem fx_mem (ps : List (Nat × Nat)) (p : Nat × Nat) : (fx ps (p.1 : Int) (p.2 : Int)).isSome = decide (p ∈ ps) := by
  unfold fx
  rw [List.findIdx?_isSome]
  by_cases h : p ∈ ps
  · rw [decide_eq_true h]
    exact List.any_eq_true.mpr ⟨p, h, hitP_iff.mpr ⟨rfl, rfl⟩⟩
  · rw [decide_eq_false h, List.any_eq_false]
    intro r hr e
    exact h (hitP_one e (hitP_iff.mpr ⟨rfl, rfl⟩ : hitP (p.1 : Int) (p.2 : Int) p = true) ▸ hr)
/-- a set of pairs of places below s that is its own mirror image -/
structure Mir (s : Nat) (ps : List (Nat × Nat)) : Prop where
  nd : ps.Nodup
  sw : ∀ p ∈ ps, swp p ∈ ps
  lt : ∀ p ∈ ps, p.1 < s ∧ p.2 < s
  few : ps.length ≤ 16
theorem Mir.one {s : Nat} {ps : List (Nat × Nat)} {p : Nat × Nat} (h : Mir s ps) (hp : p ∉ ps) (e : p.1 = p.2) (l : p.1 < s) (f : ps.length < 15) : Mir s (ps ++ [p]) := by
  have es : swp p = p := Prod.ext e.symm e
  refine ⟨?_, fun q hq => ?_, fun q hq => ?_, by rw [List.length_append]; show _ + 1 ≤ 16; omega⟩
  · rw [List.nodup_append]
    refine ⟨h.nd, List.nodup_cons.mpr ⟨List.not_mem_nil, List.nodup_nil⟩, fun a ha b hb e => ?_⟩
    rw [List.mem_singleton.mp hb] at e
    exact hp (e ▸ ha)
  · rcases List.mem_append.mp hq with hq | hq
    · exact List.mem_append_left _ (h.sw q hq)
    · rw [List.mem_singleton.mp hq, es]
      exact List.mem_append_right _ List.mem_cons_self
  · rcases List.mem_append.mp hq with hq | hq
    · exact h.lt q hq
    · rw [List.mem_singleton.mp hq]
      exact ⟨l, e ▸ l⟩
theorem swp_swp (p : Nat × Nat) : swp (swp p) = p := rfl
theorem Mir.two {s : Nat} {ps : List (Nat × Nat)} {p : Nat × Nat} (h : Mir s ps) (hp : p ∉ ps) (e : ¬ p.1 = p.2) (l : p.1 < s ∧ p.2 < s) (f : ps.length < 15) : Mir s (ps ++ [p] ++ [swp p]) := by
  have hs : swp p ∉ ps := fun z => hp (by have := h.sw _ z; rwa [swp_swp] at this)
  refine ⟨?_, fun q hq => ?_, fun q hq => ?_, by rw [List.length_append, List.length_append]; show _ + 1 + 1 ≤ 16; omega⟩
  · rw [List.append_assoc, List.nodup_append]
    refine ⟨h.nd, List.nodup_cons.mpr ⟨fun z => e ?_, List.nodup_cons.mpr ⟨List.not_mem_nil, List.nodup_nil⟩⟩, fun a ha b hb e => ?_⟩
    · exact congrArg Prod.fst (List.mem_singleton.mp z)
    · rcases List.mem_cons.mp hb with hb | hb
      · rw [hb] at e
        exact hp (e ▸ ha)
      · rw [List.mem_singleton.mp hb] at e
        exact hs (e ▸ ha)
  · rcases List.mem_append.mp hq with hq | hq
    · rcases List.mem_append.mp hq with hq | hq
      · exact List.mem_append_left _ (List.mem_append_left _ (h.sw q hq))
      · rw [List.mem_singleton.mp hq]
        exact List.mem_append_right _ List.mem_cons_self
    · rw [List.mem_singleton.mp hq, swp_swp]
      exact List.mem_append_left _ (List.mem_append_right _ List.mem_cons_self)
  · rcases List.mem_append.mp hq with hq | hq
    · rcases List.mem_append.mp hq with hq | hq
      · exact h.lt q hq
      · rw [List.mem_singleton.mp hq]
        exact l
    · rw [List.mem_singleton.mp hq]
      exact ⟨l.2, l.1⟩
section
variable {P : Program} {w : World} {K : PySem.W.Frag} {mg : Str → Option Value} {base : Heap} {f : Addr} {fd : FuncData}
/-! ### _law_mirrored -/
abbrev law_mirrored_N : List Str := ["sizes", "pairs", "size", "out", "pair", "fits"]
theorem law_mirrored_sc : FnScope ["sizes", "pairs", "size", "out", "pair", "fits"] ["sizes", "pairs"] (defScope law_mirrored_st) := ⟨rfl, rfl, rfl, by decide +kernel, rfl, by decide +kernel, by decide +kernel⟩
def spMir : Sp := fun vs H Q _ => ∃ (t ts a : Addr) (m n : Nat) (zs : List Z), vs = [.ref ts, .ref a] ∧ Drawn H t m n zs ts a ∧ ∀ (H' : Hp) (t' ts' a' : Addr) (s : Nat) (zs' : List Z), Same H H' → Drawn H' t' s s zs' ts' a' → Q (.ref t') H'
theorem ok_mir (F : FnS K "_law_mirrored" law_mirrored_st f fd) (m_min : mg "min" = none) (m_max : mg "max" = none) (m_len : mg "len" = none) : FnOk P w K mg base (L2N.CX P w) 1 f fd ["sizes", "pairs"] spMir := by
  refine F.ok law_mirrored_sc (fun vs H Q E h => ?_) (fun cdv A outer s H vs Q E hr h => ?_)
  · obtain ⟨t, ts, a, m, n, zs, rfl, _⟩ := h
    rfl
  · obtain ⟨t, ts, a, m, n, zs, rfl, D, q⟩ := h
    have hu65 := u65 hr
    have hs := D.hs
    have m8 := D.m8
    have n8 := D.n8
    have m1 := D.m1
    have n1 := D.n1
    refine ⟨_, (pss_cons (ps_set (i := 2) law_mirrored_sc.nd rfl (Or.inl rfl) (pe_callB (call_min2 rfl) (by rfl) m_min (by decide +kernel) (pa_cons (pe_ix ix_tup (pv 0) pe_int (fun _ _ => rfl)) (pa_cons (pe_ix ix_tup (pv 0) pe_int (fun _ _ => rfl)) pa_nil))))
      (pss_cons (ps_set (i := 3) law_mirrored_sc.nd rfl (Or.inl rfl) (pe_lst pa_nil))
      (pss_cons (ps_for (passes_of rfl) rfl (pi_list (pv 1)) (pg_name (i := 4) law_mirrored_sc.nd rfl (Or.inl rfl))
      (pss_cons (ps_set (i := 5) law_mirrored_sc.nd rfl (Or.inl rfl) (pe_and (pe_cmpR op_lt (pe_callB (call_max2 rfl) (by rfl) m_max (by decide +kernel) (pa_cons (pe_ix ix_tup (pv 4) pe_int (fun _ _ => rfl)) (pa_cons (pe_ix ix_tup (pv 4) pe_int (fun _ _ => rfl)) pa_nil))) (pv 2) (nomark _)) (pe_one (pe_cmpR (op_notInD hu65) (pv 4) (pv 3) rfl))))
      (pss_one (ps_if (PW.pt (pw_and (pt_val (pv 5)) (pw_and1 (pt_cmpR op_lt (pe_callB call_len_seq (by rfl) m_len (by decide +kernel) (pa_cons (pv 3) pa_nil)) pe_int (nomark _))))) (pss_cons (ps_expr (pe_bm PySem.F.plainAttrs_list PySem.F.slot_list_append PySem.F.type_list_append mt_append (pv 3) (pa_cons (pv 4) pa_nil)))
      (pss_one (ps_if (pt_cmpR op_ne (pe_ix ix_tup (pv 4) pe_int (fun _ _ => rfl)) (pe_ix ix_tup (pv 4) pe_int (fun _ _ => rfl)) (nomark _)) (pss_one (ps_expr (pe_bm PySem.F.plainAttrs_list PySem.F.slot_list_append PySem.F.type_list_append mt_append (pv 3) (pa_cons (pe_tup (pa_cons (pe_ix ix_tup (pv 4) pe_int (fun _ _ => rfl)) (pa_cons (pe_ix ix_tup (pv 4) pe_int (fun _ _ => rfl)) pa_nil))) pa_nil)))) pss_nil))) pss_nil))))
      (pss_one (ps_ret (pe_tup (pa_cons (pe_tup (pa_cons (pv 2) (pa_cons (pv 2) pa_nil))) (pa_cons (pv 3) pa_nil)))))))), ?_⟩
    refine ⟨.ref ts, rfl, ts, _, 0, nV m, rfl, rfl, sqt hs, rfl, .ref ts, rfl, ts, _, 1, nV n, rfl, rfl, sqt hs, rfl, (m : Int), (n : Int), rfl, ?_⟩
    obtain ⟨s, es⟩ : ∃ s : Nat, (if (n : Int) < (m : Int) then (n : Int) else (m : Int)) = (s : Int) ∧ 1 ≤ s ∧ s ≤ 8 := by
      by_cases c : (n : Int) < (m : Int)
      · exact ⟨n, if_pos c, n1, n8⟩
      · exact ⟨m, if_neg c, m1, m8⟩
    obtain ⟨es, s1, s8⟩ := es
    refine ⟨len0, fun o no => ?_⟩
    refine ⟨.ref a, rfl, a, rfl, ⟨_, sq ((Same.new no) _ _ D.hq)⟩, ?_⟩
    have big := small1000 (show 500 ≤ 1000 by decide)
    refine for_list (K := K) (a := a) (xs := zs.map zV) (fun i σ H' => ∃ (y4 y5 : Option V) (us : List Z), σ = [some (.ref ts), some (.ref a), some (.int (if (n : Int) < (m : Int) then (n : Int) else (m : Int))), some (.ref o), y4, y5] ∧ Same H H' ∧ H' o = some (.lst (us.map zV)) ∧ PrZ H' us ∧ Mir s (us.map (·.2))) ⟨none, none, [], rfl, Same.new no, upd_same, (fun _ h => nomatch h), ⟨List.nodup_nil, (fun _ h => nomatch h), (fun _ h => nomatch h), Nat.zero_le _⟩⟩ (fun i σ H' _ h => ?_) (fun i x σ H' hx h => ?_) (fun σ H' h => ?_)
    · obtain ⟨_, _, _, _, sm, _⟩ := h
      exact sq (sm _ _ D.hq)
    · obtain ⟨y4, y5, us, rfl, sm, ho, pu, M⟩ := h
      obtain ⟨z, ez, mz, rfl⟩ := item_zV hx
      have hz := sm _ _ (D.pr z mz)
      have ul : us.length ≤ 16 := by
        have := M.few
        rw [List.length_map] at this
        exact this
      have mx : (if (z.2.2 : Int) > (z.2.1 : Int) then (z.2.2 : Int) else (z.2.1 : Int)) < (s : Int) ↔ z.2.1 < s ∧ z.2.2 < s := by
        by_cases c : (z.2.2 : Int) > (z.2.1 : Int)
        · rw [if_pos c]
          omega
        · rw [if_neg c]
          omega
      have skip : ∀ y5, (∃ (y4 y5 : Option V) (us : List Z), [some (.ref ts), some (.ref a), some (.int (if (n : Int) < (m : Int) then (n : Int) else (m : Int))), some (.ref o), some (zV z), y5] = [some (.ref ts), some (.ref a), some (.int (if (n : Int) < (m : Int) then (n : Int) else (m : Int))), some (.ref o), y4, y5] ∧ Same H H' ∧ H' o = some (.lst (us.map zV)) ∧ PrZ H' us ∧ Mir s (us.map (·.2))) ∨ y5 = (none : Option V) ∨ True := fun _ => .inr (.inr trivial)
      clear skip
      refine ⟨zV z, rfl, z.1, _, 0, nV z.2.1, rfl, rfl, sqt hz, rfl, zV z, rfl, z.1, _, 1, nV z.2.2, rfl, rfl, sqt hz, rfl, (z.2.1 : Int), (z.2.2 : Int), rfl, .int (if (n : Int) < (m : Int) then (n : Int) else (m : Int)), rfl, _, _, rfl, rfl, _, rfl, ite2 (fun e => ?_) (fun e => ?_)⟩
      rotate_left
      · refine ⟨.bl false, rfl, _, rfl, iteF (iteF ?_)⟩
        exact ⟨_, _, us, rfl, sm, ho, pu, M⟩
      have lt := mx.mp (es ▸ of_decide_eq_true e)
      refine ⟨zV z, rfl, .ref o, rfl, qD z.2, (us.map (·.2)).map qD, dp_pair hz, dp_pairs ho pu, qD_shaped _, qDs_shaped _, ?_⟩
      have ea : (((us.map (·.2)).map qD).any fun y => PyData.eqv y (qD z.2)) = decide (z.2 ∈ us.map (·.2)) := (any_fx (us.map (·.2)) (z.2.1 : Int) (z.2.2 : Int)).trans (fx_mem _ _)
      by_cases hm : z.2 ∈ us.map (·.2)
      · have ev : (!(((us.map (·.2)).map qD).any fun y => PyData.eqv y (qD z.2))) = false := by rw [ea, decide_eq_true hm]; rfl
        rw [ev]
        refine ⟨.bl false, rfl, _, rfl, iteF (iteF ?_)⟩
        exact ⟨_, _, us, rfl, sm, ho, pu, M⟩
      have ev : (!(((us.map (·.2)).map qD).any fun y => PyData.eqv y (qD z.2))) = true := by rw [ea, decide_eq_false hm]; rfl
      rw [ev]
      refine ⟨.bl true, rfl, _, rfl, iteT ⟨.ref o, rfl, o, _, rfl, .inl (sq ho), _, 15, rfl, rfl, _, rfl, ite2 (fun e1 => ?_) (fun e1 => ?_)⟩⟩
      rotate_left
      · exact ⟨_, _, us, rfl, sm, ho, pu, M⟩
      have l15 : us.length < 15 := by
        have := of_decide_eq_true e1
        rw [List.length_map] at this
        omega
      have l15' : (us.map (·.2)).length < 15 := by rw [List.length_map]; exact l15
      refine ⟨.ref o, rfl, .inl ⟨rfl, _, sq ho⟩, zV z, rfl, o, _, zV z, rfl, rfl, ho, small1000 (by rw [List.length_map]; omega), ?_⟩
      have sm1 : Same H (upd H' o (.lst (us.map zV ++ [zV z]))) := sm.mut no
      have ho1 : (upd H' o (.lst (us.map zV ++ [zV z]))) o = some (.lst ((us ++ [z]).map zV)) := by
        rw [upd_same, List.map_append]
        rfl
      have hz1 : (upd H' o (.lst (us.map zV ++ [zV z]))) z.1 = some (prV z) := by
        rw [upd_ne (fun e => by rw [e, ho] at hz; cases hz)]
        exact hz
      have pu1 : PrZ (upd H' o (.lst (us.map zV ++ [zV z]))) (us ++ [z]) := fun y hy => by
        rcases List.mem_append.mp hy with hy | hy
        · have := pu y hy
          rw [upd_ne (fun e => by rw [e, ho] at this; cases this)]
          exact this
        · rw [List.mem_singleton.mp hy]
          exact hz1
      generalize upd H' o (.lst (us.map zV ++ [zV z])) = H1 at sm1 ho1 hz1 pu1 ⊢
      refine ⟨zV z, rfl, z.1, _, 0, nV z.2.1, rfl, rfl, sqt hz1, rfl, zV z, rfl, z.1, _, 1, nV z.2.2, rfl, rfl, sqt hz1, rfl, rfl, _, rfl, ite2 (fun e2 => ?_) (fun e2 => ?_)⟩
      · have ne : ¬ z.2.1 = z.2.2 := fun h => by
          rw [show decide (nV z.2.1 = nV z.2.2) = true from decide_eq_true (by rw [h])] at e2
          cases e2
        refine ⟨.ref o, rfl, .inl ⟨rfl, _, sq ho1⟩, zV z, rfl, z.1, _, 1, nV z.2.2, rfl, rfl, sqt hz1, rfl, zV z, rfl, z.1, _, 0, nV z.2.1, rfl, rfl, sqt hz1, rfl, len2, fun t2 nt2 => ?_⟩
        have st := Same.new (o := .tup [nV z.2.2, nV z.2.1]) nt2
        have ho2 := st _ _ ho1
        have not2 : t2 ≠ o := (ne_of_none ho1 nt2).symm
        refine ⟨o, _, .ref t2, rfl, rfl, ho2, small1000 (by rw [List.length_map, List.length_append]; show _ + 1 ≤ 1000; omega), ?_⟩
        refine ⟨_, _, us ++ [z] ++ [(t2, z.2.2, z.2.1)], rfl, (sm1.trans st).mut no, ?_, fun y hy => ?_, ?_⟩
        · rw [upd_same]
          simp only [List.map_append]
          rfl
        · rcases List.mem_append.mp hy with hy | hy
          · have := st _ _ (pu1 y hy)
            rw [upd_ne (fun e => by rw [e, ho2] at this; cases this)]
            exact this
          · rw [List.mem_singleton.mp hy]
            show upd _ o _ t2 = _
            rw [upd_ne not2]
            exact upd_same
        · rw [List.map_append, List.map_append]
          exact M.two hm ne lt l15'
      · have eq : z.2.1 = z.2.2 := by
          by_cases c : z.2.1 = z.2.2
          · exact c
          · rw [show decide (nV z.2.1 = nV z.2.2) = false from decide_eq_false fun h => c (by have := V.int.inj h; omega)] at e2
            exact absurd rfl e2
        refine ⟨_, _, us ++ [z], rfl, sm1, ho1, pu1, ?_⟩
        rw [List.map_append]
        exact M.one hm eq lt.1 l15'
    obtain ⟨y4, y5, us, rfl, sm, ho, pu, M⟩ := h
    refine ⟨.int (if (n : Int) < (m : Int) then (n : Int) else (m : Int)), rfl, .int (if (n : Int) < (m : Int) then (n : Int) else (m : Int)), rfl, len2, fun t1 nt1 => ⟨.ref o, rfl, len2, fun t2 nt2 => ?_⟩⟩
    have st1 := Same.new (o := .tup [.int (if (n : Int) < (m : Int) then (n : Int) else (m : Int)), .int (if (n : Int) < (m : Int) then (n : Int) else (m : Int))]) nt1
    have ht1 : (upd H' t1 (.tup [.int (if (n : Int) < (m : Int) then (n : Int) else (m : Int)), .int (if (n : Int) < (m : Int) then (n : Int) else (m : Int))])) t1 = some (.tup [nV s, nV s]) := by
      rw [upd_same, es]
      rfl
    generalize upd H' t1 (.tup [.int (if (n : Int) < (m : Int) then (n : Int) else (m : Int)), .int (if (n : Int) < (m : Int) then (n : Int) else (m : Int))]) = H2 at st1 ht1 nt2 ⊢
    have st2 := Same.new (o := .tup [V.ref t1, V.ref o]) nt2
    have ul : us.length ≤ 16 := by
      have := M.few
      rw [List.length_map] at this
      exact this
    exact q _ t2 t1 o s us (sm.trans (st1.trans st2)) ⟨s1, s8, s1, s8, upd_same, st2 _ _ ht1, st2 _ _ (st1 _ _ ho), (pu.keep st1).keep st2, ⟨M.nd, M.lt⟩, ul⟩
end
end K03
set_option Elab.async false
set_option linter.all false
set_option maxRecDepth 100000
set_option maxHeartbeats 4000000
namespace K03
open PySem PySem.Spec PyProof.Rows L2
theorem Drawn.keep {H H' : Hp} {t ts q : Addr} {m n : Nat} {zs : List Z} (h : Drawn H t m n zs ts q) (e : Same H H') : Drawn H' t m n zs ts q :=
  ⟨h.m1, h.m8, h.n1, h.n8, e _ _ h.ht, e _ _ h.hs, e _ _ h.hq, h.pr.keep e, h.fit, h.few⟩
theorem z_ne {zs : List Z} {x : Int} (h : zs.map zV = [V.int x]) : False := by
  cases zs with
  | nil => cases h
  | cons z zs => cases (List.cons.inj h).1
theorem Drawn.off {H : Hp} {t ts q p : Addr} {m n : Nat} {zs : List Z} {x : Int} (h : Drawn H t m n zs ts q) (hp : H p = some (.lst [.int x])) : Drawn (del H p) t m n zs ts q := by
  have nt : ∀ {c : Addr} {ys : List V}, H c = some (.tup ys) → c ≠ p := fun hc e => by rw [e, hp] at hc; cases hc
  have nq : q ≠ p := fun e => by
    have := h.hq
    rw [e, hp] at this
    exact z_ne (HO.lst.inj (Option.some.inj this)).symm
  refine ⟨h.m1, h.m8, h.n1, h.n8, ?_, ?_, ?_, fun z hz => ?_, h.fit, h.few⟩
  · rw [del_ne (nt h.ht)]
    exact h.ht
  · rw [del_ne (nt h.hs)]
    exact h.hs
  · rw [del_ne nq]
    exact h.hq
  · rw [del_ne (nt (h.pr z hz))]
    exact h.pr z hz
theorem Drawn.but {H H' : Hp} {t ts q p : Addr} {m n : Nat} {zs : List Z} {x : Int} (h : Drawn H t m n zs ts q) (hp : H p = some (.lst [.int x])) (b : But p H H') : Drawn H' t m n zs ts q := ((h.off hp).keep (but_del b)).keep del_sub
theorem Sz.but {H H' : Hp} {ts a p : Addr} {m n : Nat} {zs : List Z} (h : Sz (del H p) ts a m n zs) (b : But p H H') : Sz (del H' p) ts a m n zs := h.keep (but_del b)
theorem sz_off {H : Hp} {ts a p : Addr} {m n : Nat} {zs : List Z} {x : Int} (h : Sz H ts a m n zs) (hp : H p = some (.lst [.int x])) : Sz (del H p) ts a m n zs := by
  have nt : ∀ {c : Addr} {ys : List V}, H c = some (.tup ys) → c ≠ p := fun hc e => by rw [e, hp] at hc; cases hc
  have na : a ≠ p := fun e => by
    have := h.ha
    rw [e, hp] at this
    exact z_ne (HO.lst.inj (Option.some.inj this)).symm
  exact ⟨by rw [del_ne (nt h.hs)]; exact h.hs, by rw [del_ne na]; exact h.ha, fun z hz => by rw [del_ne (nt (h.pr z hz))]; exact h.pr z hz, h.inr, h.m8, h.n8⟩
theorem map_swp_swp (ps : List (Nat × Nat)) : (ps.map swp).map swp = ps := by
  rw [List.map_map, show swp ∘ swp = id from rfl, List.map_id]
section
variable {P : Program} {w : World} {K : PySem.W.Frag} {mg : Str → Option Value} {base : Heap} {f : Addr} {fd : FuncData}
/-! ### _law_right_world -/
abbrev law_right_world_N : List Str := ["drawn", "odd_pool", "sizes", "turned_sizes", "rows", "turned_rows", "odd", "turned_odd", "network", "turned_one", "step", "alike", "again", "row"]
theorem law_right_world_sc : FnScope ["drawn", "odd_pool", "sizes", "turned_sizes", "rows", "turned_rows", "odd", "turned_odd", "network", "turned_one", "step", "alike", "again", "row"] ["drawn", "odd_pool"] (defScope law_right_world_st) := ⟨rfl, rfl, rfl, by decide +kernel, rfl, by decide +kernel, by decide +kernel⟩
def spRW : Sp := fun vs H Q _ => ∃ (t p : Addr) (x : Int) (m n : Nat) (zs : List Z) (ts q : Addr), vs = [.ref t, .ref p] ∧ Drawn H t m n zs ts q ∧ H p = some (.lst [.int x]) ∧ ∀ H', But p H H' → Q (.bl true) H'
theorem ok_rw {C f1 f2 f3 f4 f5 : Addr} {fd1 fd2 fd3 fd4 fd5 : FuncData} {uP uR : Value} (F : FnS K "_law_right_world" law_right_world_st f fd) (T0 : NetC K C uP uR) (J : IsN K C) (m_isinstance : mg "isinstance" = none) (m_range : mg "range" = none) (m_sorted : mg "sorted" = none) (m_list : mg "list" = none) (m_bool : mg "bool" = none)
    (D_Network : NwT P w K mg base C f1 fd1) (M_t : MtD P w K mg base 7 C "turned" ["self"] (spTurned C) f2 fd2) (O_eq : OwD P w K mg base 1 C "__eq__" ["self", "other"] (spNEq C) f3 fd3)
    (D_law_draw_odd : Dn P w K mg base 2 "_law_draw_odd" ["pool", "sizes"] spOdd f4 fd4) (D_law_right : Dn P w K mg base 8 "_law_right" ["network", "sizes", "rows", "odd"] (spRightT C) f5 fd5) :
    FnOk P w K mg base (L2N.CX P w) 9 f fd ["drawn", "odd_pool"] spRW := by
  refine F.ok law_right_world_sc (fun vs H Q E h => ?_) (fun cdv A outer s H vs Q E hr h => ?_)
  · obtain ⟨t, p, x, m, n, zs, ts, q0, rfl, _⟩ := h
    rfl
  · obtain ⟨t, p, x, m, n, zs, ts, q0, rfl, D, hp, q⟩ := h
    have m8 := D.m8
    have n8 := D.n8
    refine ⟨_, (pss_cons (ps_set (i := 2) law_right_world_sc.nd rfl (Or.inl rfl) (pe_ix ix_tup (pv 0) pe_int (fun _ _ => rfl)))
      (pss_cons (ps_set (i := 3) law_right_world_sc.nd rfl (Or.inl rfl) (pe_tup (pa_cons (pe_ix ix_tup (pv 2) pe_int (fun _ _ => rfl)) (pa_cons (pe_ix ix_tup (pv 2) pe_int (fun _ _ => rfl)) pa_nil))))
      (pss_cons (ps_set (i := 4) law_right_world_sc.nd rfl (Or.inl rfl) (pe_callB cr_sortedPO (by rfl) m_sorted (by decide +kernel) (pa_cons (pe_ix ix_tup (pv 0) pe_int (fun _ _ => rfl)) pa_nil)))
      (pss_cons (ps_set (i := 5) law_right_world_sc.nd rfl (Or.inl rfl) (pe_callB cr_sortedPO (by rfl) m_sorted (by decide +kernel) (pa_cons (pe_lc (own := [("row", 13)]) rfl law_right_world_sc.nd (pi_list (pv 4)) (blkOk_by (own := [("row", 13)]) (N := law_right_world_N) (sc := defScope law_right_world_st) (by decide +kernel)) (fun _ _ _ _ _ => (pg_name (i := 13) law_right_world_sc.nd rfl (Or.inl rfl))) (fun _ _ _ _ _ => pts_nil) (fun _ _ _ _ _ => (pe_tup (pa_cons (pe_ix (ix_tup : IxR _ (rIxT K)) (pv 13) pe_int (fun _ _ => rfl)) (pa_cons (pe_ix (ix_tup : IxR _ (rIxT K)) (pv 13) pe_int (fun _ _ => rfl)) pa_nil))))) pa_nil)))
      (pss_cons (ps_set (i := 6) law_right_world_sc.nd rfl (Or.inl rfl) (pe_call D_law_draw_odd.ok (hr.mono (by decide)) rfl D_law_draw_odd.g D_law_draw_odd.kp D_law_draw_odd.b .nil ErrX.passN (pa_cons (pv 1) (pa_cons (pv 2) pa_nil))))
      (pss_cons (ps_set (i := 7) law_right_world_sc.nd rfl (Or.inl rfl) (pe_call D_law_draw_odd.ok (hr.mono (by decide)) rfl D_law_draw_odd.g D_law_draw_odd.kp D_law_draw_odd.b .nil ErrX.passN (pa_cons (pv 1) (pa_cons (pv 3) pa_nil))))
      (pss_cons (ps_set (i := 8) law_right_world_sc.nd rfl (Or.inl rfl) (pe_make D_Network.mkk D_Network.ok (hr.mono (by decide)) rfl D_Network.g D_Network.b .nil ErrX.passN (pa_cons (pe_ix ix_tup (pv 2) pe_int (fun _ _ => rfl)) (pa_cons (pe_ix ix_tup (pv 2) pe_int (fun _ _ => rfl)) (pa_cons (pe_callTy call_list_of (by rfl) m_list (by decide +kernel) (pa_cons (pe_ix ix_tup (pv 0) pe_int (fun _ _ => rfl)) pa_nil)) pa_nil)))))
      (pss_cons (ps_set (i := 9) law_right_world_sc.nd rfl (Or.inl rfl) (pe_meth0 (pv 8) T0.cl M_t.m M_t.ok (hr.mono (by decide)) M_t.b .nil ErrX.passN))
      (pss_cons (ps_if (pt_not (pt_val (pe_callB call_isi (by rfl) m_isinstance (by decide +kernel) (pa_cons (pv 9) (pa_cons (pe_glob (v := .ref C) rfl D_Network.g rfl) pa_nil))))) (pss_one (ps_ret pe_bl)) pss_nil)
      (pss_cons (ps_for (passes_of rfl) rfl (pi_range1 rfl m_range (pa_cons pe_int pa_nil)) (pg_name (i := 10) law_right_world_sc.nd rfl (Or.inl rfl))
      (pss_cons (ps_if (pt_not (pt_val (pe_call D_law_right.ok (hr.mono (by decide)) rfl D_law_right.g D_law_right.kp D_law_right.b .nil ErrX.passN (pa_cons (pv 9) (pa_cons (pv 3) (pa_cons (pv 5) (pa_cons (pv 7) pa_nil))))))) (pss_one (ps_ret pe_bl)) pss_nil)
      (pss_one (ps_if (pt_not (pt_val (pe_call D_law_right.ok (hr.mono (by decide)) rfl D_law_right.g D_law_right.kp D_law_right.b .nil ErrX.passN (pa_cons (pv 8) (pa_cons (pv 2) (pa_cons (pv 4) (pa_cons (pv 6) pa_nil))))))) (pss_one (ps_ret pe_bl)) pss_nil))))
      (pss_cons (ps_set (i := 11) law_right_world_sc.nd rfl (Or.inl rfl) (pe_and (pe_cmpR (op_eqD hr.units) (pv 2) (pv 3) (nomark _)) (pe_one (pe_cmpR (op_eqD hr.units) (pv 4) (pv 5) (nomark _)))))
      (pss_cons (ps_if (pt_cmpR op_ne (pe_callTy call_bool1 (by rfl) m_bool (by decide +kernel) (pa_cons (pe_cmpR (OwnM.op_eqO O_eq.ok (hr.mono (by decide)) O_eq.b ErrX.passN O_eq.s O_eq.fn) (pv 8) (pv 9) (nomark _)) pa_nil)) (pv 11) (nomark _)) (pss_one (ps_ret pe_bl)) pss_nil)
      (pss_cons (ps_set (i := 12) law_right_world_sc.nd rfl (Or.inl rfl) (pe_meth0 (pv 9) T0.cl M_t.m M_t.ok (hr.mono (by decide)) M_t.b .nil ErrX.passN))
      (pss_cons (ps_if (pt_not (pt_val (pe_call D_law_right.ok (hr.mono (by decide)) rfl D_law_right.g D_law_right.kp D_law_right.b .nil ErrX.passN (pa_cons (pv 12) (pa_cons (pv 2) (pa_cons (pv 4) (pa_cons (pv 6) pa_nil))))))) (pss_one (ps_ret pe_bl)) pss_nil)
      (pss_one (ps_ret (pe_and (pe_callTy call_bool1 (by rfl) m_bool (by decide +kernel) (pa_cons (pe_cmpR (OwnM.op_eqO O_eq.ok (hr.mono (by decide)) O_eq.b ErrX.passN O_eq.s O_eq.fn) (pv 12) (pv 8) (nomark _)) pa_nil)) (pe_one (pe_callTy call_bool1 (by rfl) m_bool (by decide +kernel) (pa_cons (pe_cmpR (OwnM.op_eqO O_eq.ok (hr.mono (by decide)) O_eq.b ErrX.passN O_eq.s O_eq.fn) (pv 8) (pv 12) (nomark _)) pa_nil)))))))))))))))))))), ?_⟩
    have big := small1000 (show 500 ≤ 1000 by decide)
    have ht := D.ht
    refine ⟨.ref t, rfl, t, _, 0, .ref ts, rfl, rfl, sqt ht, rfl, ?_⟩
    refine ⟨.ref ts, rfl, ts, _, 1, nV n, rfl, rfl, sqt D.hs, rfl, .ref ts, rfl, ts, _, 0, nV m, rfl, rfl, sqt D.hs, rfl, len2, fun tt ntt => ?_⟩
    have s1 := Same.new (o := .tup [nV n, nV m]) ntt
    have htt : (upd H tt (.tup [nV n, nV m])) tt = some (.tup [nV n, nV m]) := upd_same
    generalize upd H tt (.tup [nV n, nV m]) = H1 at s1 htt ⊢
    have D1 := D.keep s1
    refine ⟨.ref t, rfl, t, _, 1, .ref q0, rfl, rfl, sqt D1.ht, rfl, q0, zs.map zV, kH H1, rfl, sq D1.hq, fun y hy => ?_, fun ys r hs hb nr => ?_⟩
    · obtain ⟨z, hz, rfl⟩ := List.mem_map.mp hy
      have hk := kH_at (D1.pr z hz)
      refine ⟨z.1, rfl, ?_⟩
      rw [hk]
      exact D1.pr z hz
    obtain ⟨zr, rfl, pm, asc⟩ := sorted_pairs D1.pr D.fit.1 hs hb
    have s2 := Same.new (o := .lst (zr.map zV)) nr
    have hr2 : (upd H1 r (.lst (zr.map zV))) r = some (.lst (zr.map zV)) := upd_same
    generalize upd H1 r (.lst (zr.map zV)) = H2 at s2 hr2 ⊢
    have D2 := D1.keep s2
    have htt2 := s2 _ _ htt
    have pr2 : PrZ H2 zr := fun z hz => D2.pr z (pm.mem_iff.mp hz)
    have fr : Fit m n (zr.map (·.2)) := ⟨asc.1.nodup_iff.mpr D.fit.1, fun c hc => D.fit.2 c (asc.1.mem_iff.mp hc)⟩
    have zr16 : zr.length ≤ 16 := by
      rw [pm.length_eq]
      exact D.few
    have fs : Fit n m ((zr.map (·.2)).map swp) := by
      refine ⟨swp_nodup fr.1, fun c hc => ?_⟩
      obtain ⟨d, hd, rfl⟩ := List.mem_map.mp hc
      exact ⟨(fr.2 d hd).2, (fr.2 d hd).1⟩
    replace s2 := s1.trans s2
    refine ⟨.ref r, rfl, r, rfl, ⟨_, sq hr2⟩, fun Dc nDc => ?_⟩
    refine lc_list (K := K) (a := r) (xs := zr.map zV) (fun i H' => ∃ us : List Z, Same H2 H' ∧ H' Dc = some (.lst (us.map zV)) ∧ PrZ H' us ∧ us.map (·.2) = ((zr.map (·.2)).take i).map swp) ⟨[], Same.new nDc, upd_same, (fun _ h => nomatch h), rfl⟩ (fun i H' _ h => ?_) (fun i y H' hy h => ?_) (fun H3 h => ?_)
    · obtain ⟨us, sm, _⟩ := h
      exact sq (sm _ _ hr2)
    · obtain ⟨us, sm, hD, pu, eu⟩ := h
      obtain ⟨z, ez, mz, rfl⟩ := item_zV hy
      have hz := sm _ _ (pr2 z mz)
      have hi : i < zr.length := (List.getElem?_eq_some_iff.mp ez).1
      have ul : us.length ≤ i := by
        have := congrArg List.length eu
        rw [List.length_map, List.length_map, List.length_take] at this
        omega
      refine ⟨rfl, ?_⟩
      refine ⟨zV z, rfl, z.1, _, 1, nV z.2.2, rfl, rfl, sqt hz, rfl, zV z, rfl, z.1, _, 0, nV z.2.1, rfl, rfl, sqt hz, rfl, len2, fun t' nt => ?_⟩
      have st := Same.new (o := .tup [nV z.2.2, nV z.2.1]) nt
      have hD2 := st _ _ hD
      have ntD : t' ≠ Dc := (ne_of_none hD nt).symm
      refine ⟨_, hD2, small1000 (by rw [List.length_map]; omega), us ++ [(t', z.2.2, z.2.1)], (sm.trans st).mut nDc, ?_, ?_, ?_⟩
      · rw [upd_same, List.map_append]
        rfl
      · intro u hu
        rcases List.mem_append.mp hu with hu | hu
        · have := st _ _ (pu u hu)
          rw [upd_ne (fun e => by rw [e, hD2] at this; cases this)]
          exact this
        · rw [List.mem_singleton.mp hu]
          show upd _ Dc _ t' = _
          rw [upd_ne ntD]
          exact upd_same
      · rw [List.map_append, eu, List.take_add_one, zs_at ez, List.map_append]
        rfl
    obtain ⟨us, s3, hDc, pu, eu⟩ := h
    rw [List.take_of_length_le (by rw [List.length_map, List.length_map]; exact Nat.le_refl _)] at eu
    have nu : (us.map (·.2)).Nodup := by
      rw [eu]
      exact fs.1
    refine ⟨Dc, us.map zV, kH H3, rfl, sq hDc, fun y hy => ?_, fun ys' tr hs' hb' ntr => ?_⟩
    · obtain ⟨z, hz, rfl⟩ := List.mem_map.mp hy
      have hk := kH_at (pu z hz)
      refine ⟨z.1, rfl, ?_⟩
      rw [hk]
      exact pu z hz
    obtain ⟨zt, rfl, pmt, asct⟩ := sorted_pairs pu nu hs' hb'
    rw [eu] at asct
    have s4 := Same.new (o := .lst (zt.map zV)) ntr
    have htr : (upd H3 tr (.lst (zt.map zV))) tr = some (.lst (zt.map zV)) := upd_same
    generalize upd H3 tr (.lst (zt.map zV)) = H4 at s4 htr ⊢
    have s34 := s3.trans s4
    have D4 := D2.keep s34
    have zt16 : zt.length ≤ 16 := by
      have h1 := congrArg List.length eu
      rw [List.length_map, List.length_map, List.length_map] at h1
      rw [pmt.length_eq]
      omega
    have ft : Fit n m (zt.map (·.2)) := ⟨asct.1.nodup_iff.mpr fs.1, fun c hc => fs.2 c (asct.1.mem_iff.mp hc)⟩
    have S1 : Sz H4 ts r m n zr := ⟨D4.hs, s34 _ _ hr2, pr2.keep s34, fun z hz => fr.2 z.2 (List.mem_map_of_mem hz), m8, n8⟩
    have S2 : Sz H4 tt tr n m zt := ⟨s34 _ _ htt2, htr, fun z hz => s4 _ _ (pu z (pmt.mem_iff.mp hz)), fun z hz => ft.2 z.2 (List.mem_map_of_mem hz), n8, m8⟩
    have sH4 := s2.trans s34
    have hp4 := sH4 _ _ hp
    have S1' := sz_off S1 hp4
    have S2' := sz_off S2 hp4
    refine ⟨.ref p, rfl, .ref ts, rfl, p, ts, x, m, n, rfl, hp4, S1.hs, m8, n8, fun H5 od y qs los b5 hp5 O5 => ?_⟩
    refine ⟨.ref p, rfl, .ref tt, rfl, p, tt, y, n, m, rfl, hp5, b5 _ _ (fun e => by have := S2.hs; rw [e, hp4] at this; cases this) S2.hs, n8, m8, fun H6 od2 y2 qs2 los2 b6 hp6 O6 => ?_⟩
    have b46 := b5.trans b6
    have S16 := (S1'.but b46).keep del_sub
    have S26 := (S2'.but b46).keep del_sub
    have O16 := (O5.keep (but_del b6)).keep del_sub
    have O26 := O6.keep del_sub
    have D6 := D4.but hp4 b46
    have bH : But p H H6 := (But.of sH4).trans b46
    clear S1 S2 S1' S2' O5 O6 b5 b6 b46 D4 D2 D1 hp4 hp5 s34 s4 s3 s2 s1 hs hb hs' hb' htr hr2 htt htt2 pr2 pu hDc sH4
    have ht6 := D6.ht
    refine ⟨.ref ts, rfl, ts, _, 0, nV m, rfl, rfl, sqt S16.hs, rfl, .ref ts, rfl, ts, _, 1, nV n, rfl, rfl, sqt S16.hs, rfl, .ref t, rfl, t, _, 1, .ref q0, rfl, rfl, sqt ht6, rfl, q0, _, rfl, .inl (sq D6.hq), fun lc nlc => ?_⟩
    have s7 := Same.new (o := .lst (zs.map zV)) nlc
    have hlc : (upd H6 lc (.lst (zs.map zV))) lc = some (.lst (zs.map zV)) := upd_same
    generalize upd H6 lc (.lst (zs.map zV)) = H7 at s7 hlc ⊢
    intro xn dy nx ndy nex
    have sM : Same H7 (upd (upd H7 dy (.own xn)) xn (.ins C dy [])) := ((Same.refl H7).mut ndy).mut nx
    refine ⟨xn, lc, dy, m, n, zs, rfl, upd_same, sM _ _ hlc, (D6.pr.keep s7).keep sM, D.fit, D.few, D.m1, m8, D.n1, n8, fun H8 zn wn bN Nn ascn _ _ ixn => ⟨rfl, ?_⟩⟩
    have s8 : Same H7 H8 := fun b o e => bN b o (ne_of_none e nx) (sM b o e)
    have en : zn.map (·.2) = zr.map (·.2) := ascn.uniq asc
    replace s8 := s7.trans s8
    clear sM bN nx ndy nex hlc s7
    have ndn : (zn.map (·.2)).Nodup := by rw [en]; exact fr.1
    obtain ⟨dxn, rn, din, gn, hpn, _⟩ := Nn.ob
    refine ⟨.ref xn, rfl, xn, dxn, _, rfl, hpn, nf_no _ _ _ _ _ (by decide) (by decide) (by decide) (by decide) (by decide), xn, m, n, zn, wn, rfl, Nn, ndn, D.m1, D.n1, fun H9 xt zu wu s9 nxt Nt ixt asctt _ => ?_⟩
    have et : zu.map (·.2) = zt.map (·.2) := by
      rw [en] at asctt
      exact asctt.uniq asct
    have N9 : NF C H9 xn m n (zr.map (·.2)) := ⟨zn, wn, Nn.keep s9, ixn.keep s9, ndn, en⟩
    have T9 : NF C H9 xt n m (zt.map (·.2)) := ⟨zu, wu, Nt, ixt, by rw [et]; exact ft.1, et⟩
    have s9n := s9
    replace s9 := s8.trans s9
    obtain ⟨dxt, rt, dit, gt, hpt, _⟩ := Nt.ob
    refine ⟨.ref xt, rfl, .ref xt, .ref C, .ref C, .ref C, true, rfl, .own _, .base (.ins hpt T0.cl J.ha J.hn J.ht J.hm), J.k, _, rfl, iteF ?_⟩
    refine ⟨2, rfl, by decide, by decide, ?_⟩
    refine for_range (lo := 0) (n := 2) (fun i σ H' => ∃ y10 : Option V, σ = [some (.ref t), some (.ref p), some (.ref ts), some (.ref tt), some (.ref r), some (.ref tr), some (.ref od), some (.ref od2), some (.ref xn), some (.ref xt), y10, none, none, none] ∧ Same H9 H') ⟨none, rfl, Same.refl _⟩ (fun i σ H' hi h => ?_) (fun σ H' h => ?_)
    · obtain ⟨y10, rfl, sm⟩ := h
      have sl := s9.trans sm
      refine ⟨.ref xt, rfl, .ref tt, rfl, .ref tr, rfl, .ref od2, rfl, xt, tt, tr, od2, n, m, zt, qs2, los2, rfl, T9.keep sm, S26.keep sl, zt16, O26.keep sl, fun HA sA => ⟨_, rfl, iteF ?_⟩⟩
      have smA := sm.trans sA
      have slA := s9.trans smA
      refine ⟨.ref xn, rfl, .ref ts, rfl, .ref r, rfl, .ref od, rfl, xn, ts, r, od, m, n, zr, qs, los, rfl, N9.keep smA, S16.keep slA, zr16, O16.keep slA, fun HB sB => ⟨_, rfl, iteF ?_⟩⟩
      exact ⟨_, rfl, smA.trans sB⟩
    obtain ⟨y10, rfl, sm⟩ := h
    have sl := s9.trans sm
    have SA := S16.keep sl
    have SB := S26.keep sl
    refine ⟨.ref ts, rfl, .ref tt, rfl, qD (m, n), qD (n, m), dp_pair SA.hs, dp_pair SB.hs, qD_shaped _, qD_shaped _, ?_⟩
    by_cases hmn : m = n
    · have ev : PyData.eqv (qD (m, n)) (qD (n, m)) = true := by
        subst hmn
        simp [qD, PyData.eqv, PyData.eqvAll]
      rw [ev]
      refine ⟨_, rfl, iteT ⟨.ref r, rfl, .ref tr, rfl, .list ((zr.map (·.2)).map qD), .list ((zt.map (·.2)).map qD), dp_pairs SA.ha SA.pr, dp_pairs SB.ha SB.pr, qDs_shaped _, qDs_shaped _, ?_⟩⟩
      have ev2 : PyData.eqv (.list ((zr.map (·.2)).map qD)) (.list ((zt.map (·.2)).map qD)) = decide (zr.map (·.2) = zt.map (·.2)) := by
        rw [show PyData.eqv (.list ((zr.map (·.2)).map qD)) (.list ((zt.map (·.2)).map qD)) = PyData.eqvAll ((zr.map (·.2)).map qD) ((zt.map (·.2)).map qD) by simp only [PyData.eqv], qD_eqs]
      rw [ev2]
      have hcv : decide (zr.map (·.2) = zt.map (·.2)) = decide (m = n ∧ n = m ∧ zr.map (·.2) = zt.map (·.2)) := by
        by_cases h : zr.map (·.2) = zt.map (·.2)
        · rw [decide_eq_true h, decide_eq_true ⟨hmn, hmn.symm, h⟩]
        · rw [decide_eq_false h, decide_eq_false fun z => h z.2.2]
      have Nn' := Nn.keep (s9n.trans sm)
      have Nt' := Nt.keep sm
      have hpn' := (s9n.trans sm) _ _ hpn
      have hpt' := sm _ _ hpt
      refine ⟨.ref xn, rfl, .ref xt, rfl, xn, xt, dxn, dxt, _, _, rfl, rfl, hpn', hpt', xn, xt, m, n, n, m, zn, zu, wn, wu, rfl, Nn', Nt', _, rfl, .inr ⟨_, rfl, .bl (decide (zr.map (·.2) = zt.map (·.2))), rfl, rfl, ?_⟩⟩
      rw [en, et, ← hcv, show (!decide (V.bl (decide (zr.map (·.2) = zt.map (·.2))) = V.bl (decide (zr.map (·.2) = zt.map (·.2))))) = false from by rw [decide_eq_true rfl]; rfl]
      refine ⟨_, rfl, iteF ?_⟩
      refine ⟨.ref xt, rfl, xt, dxt, _, rfl, hpt', nf_no _ _ _ _ _ (by decide) (by decide) (by decide) (by decide) (by decide), xt, n, m, zu, wu, rfl, Nt', by rw [et]; exact ft.1, D.n1, D.m1, fun HC xa za wa sC nxa Na ixa asca _ => ?_⟩
      have ea : za.map (·.2) = zr.map (·.2) := by
        rw [et] at asca
        refine asca.uniq ⟨?_, asc.2⟩
        have := (asct.1.map swp)
        rw [map_swp_swp] at this
        exact this.symm
      have slC := sl.trans sC
      refine ⟨.ref xa, rfl, .ref ts, rfl, .ref r, rfl, .ref od, rfl, xa, ts, r, od, m, n, zr, qs, los, rfl, ⟨za, wa, Na, ixa, by rw [ea]; exact fr.1, ea⟩, S16.keep slC, zr16, O16.keep slC, fun HD sD => ⟨_, rfl, iteF ?_⟩⟩
      have NaD := Na.keep sD
      have NnD := Nn'.keep (sC.trans sD)
      obtain ⟨dxa, ra, dia, ga', hpa, _⟩ := NaD.ob
      have hpnD := (sC.trans sD) _ _ hpn'
      have e1 : decide (m = m ∧ n = n ∧ za.map (·.2) = zn.map (·.2)) = true := decide_eq_true ⟨rfl, rfl, by rw [ea, en]⟩
      have e2 : decide (m = m ∧ n = n ∧ zn.map (·.2) = za.map (·.2)) = true := decide_eq_true ⟨rfl, rfl, by rw [ea, en]⟩
      refine ⟨.ref xa, rfl, .ref xn, rfl, xa, xn, dxa, dxn, _, _, rfl, rfl, hpa, hpnD, xa, xn, m, n, m, n, za, zn, wa, wn, rfl, NaD, NnD, _, rfl, .inr ⟨_, rfl, ?_⟩⟩
      rw [e1]
      refine ⟨_, rfl, iteT ⟨.ref xn, rfl, .ref xa, rfl, xn, xa, dxn, dxa, _, _, rfl, rfl, hpnD, hpa, xn, xa, m, n, m, n, zn, za, wn, wa, rfl, NnD, NaD, _, rfl, .inr ⟨_, rfl, ?_⟩⟩⟩
      rw [e2]
      exact q _ (bH.trans (But.of (slC.trans sD)))
    · have ev : PyData.eqv (qD (m, n)) (qD (n, m)) = false := qD_ne fun e => hmn (congrArg Prod.fst e)
      rw [ev]
      refine ⟨_, rfl, iteF ?_⟩
      have hcv : false = decide (m = n ∧ n = m ∧ zr.map (·.2) = zt.map (·.2)) := (decide_eq_false fun z => hmn z.1).symm
      have Nn' := Nn.keep (s9n.trans sm)
      have Nt' := Nt.keep sm
      have hpn' := (s9n.trans sm) _ _ hpn
      have hpt' := sm _ _ hpt
      refine ⟨.ref xn, rfl, .ref xt, rfl, xn, xt, dxn, dxt, _, _, rfl, rfl, hpn', hpt', xn, xt, m, n, n, m, zn, zu, wn, wu, rfl, Nn', Nt', _, rfl, .inr ⟨_, rfl, .bl false, rfl, rfl, ?_⟩⟩
      rw [en, et, ← hcv, show (!decide (V.bl false = V.bl false)) = false from by rw [decide_eq_true rfl]; rfl]
      refine ⟨_, rfl, iteF ?_⟩
      refine ⟨.ref xt, rfl, xt, dxt, _, rfl, hpt', nf_no _ _ _ _ _ (by decide) (by decide) (by decide) (by decide) (by decide), xt, n, m, zu, wu, rfl, Nt', by rw [et]; exact ft.1, D.n1, D.m1, fun HC xa za wa sC nxa Na ixa asca _ => ?_⟩
      have ea : za.map (·.2) = zr.map (·.2) := by
        rw [et] at asca
        refine asca.uniq ⟨?_, asc.2⟩
        have := (asct.1.map swp)
        rw [map_swp_swp] at this
        exact this.symm
      have slC := sl.trans sC
      refine ⟨.ref xa, rfl, .ref ts, rfl, .ref r, rfl, .ref od, rfl, xa, ts, r, od, m, n, zr, qs, los, rfl, ⟨za, wa, Na, ixa, by rw [ea]; exact fr.1, ea⟩, S16.keep slC, zr16, O16.keep slC, fun HD sD => ⟨_, rfl, iteF ?_⟩⟩
      have NaD := Na.keep sD
      have NnD := Nn'.keep (sC.trans sD)
      obtain ⟨dxa, ra, dia, ga', hpa, _⟩ := NaD.ob
      have hpnD := (sC.trans sD) _ _ hpn'
      have e1 : decide (m = m ∧ n = n ∧ za.map (·.2) = zn.map (·.2)) = true := decide_eq_true ⟨rfl, rfl, by rw [ea, en]⟩
      have e2 : decide (m = m ∧ n = n ∧ zn.map (·.2) = za.map (·.2)) = true := decide_eq_true ⟨rfl, rfl, by rw [ea, en]⟩
      refine ⟨.ref xa, rfl, .ref xn, rfl, xa, xn, dxa, dxn, _, _, rfl, rfl, hpa, hpnD, xa, xn, m, n, m, n, za, zn, wa, wn, rfl, NaD, NnD, _, rfl, .inr ⟨_, rfl, ?_⟩⟩
      rw [e1]
      refine ⟨_, rfl, iteT ⟨.ref xn, rfl, .ref xa, rfl, xn, xa, dxn, dxa, _, _, rfl, rfl, hpnD, hpa, xn, xa, m, n, m, n, zn, za, wn, wa, rfl, NnD, NaD, _, rfl, .inr ⟨_, rfl, ?_⟩⟩⟩
      rw [e2]
      exact q _ (bH.trans (But.of (slC.trans sD)))
end
end K03
set_option Elab.async false
set_option linter.all false
set_option maxRecDepth 100000
set_option maxHeartbeats 4000000
namespace K03
open PySem PySem.Spec PyProof.Rows L2

section
variable {P : Program} {w : World} {K : PySem.W.Frag} {mg : Str → Option Value} {base : Heap} {f : Addr} {fd : FuncData}
/-! ### law -/
abbrev law_N : List Str := ["script", "cells", "k", "pool", "drawn"]
theorem law_sc : FnScope ["script", "cells", "k", "pool", "drawn"] ["script"] (defScope law_st) := ⟨rfl, rfl, rfl, by decide +kernel, rfl, by decide +kernel, by decide +kernel⟩
def spLaw (K : PySem.W.Frag) : Sp := fun vs H Q _ => ∃ (a : Addr) (ns : List Int), vs = [.ref a] ∧ SqL K H a (ns.map V.int) ∧ ns.length ≤ 63 ∧ ∀ H', Q (.bl true) H'
theorem ok_law {C f1 f2 f3 f4 f5 : Addr} {fd1 fd2 fd3 fd4 fd5 : FuncData} (F : FnS K "law" law_st f fd) (m_range : mg "range" = none) (D_law_source : Dn P w K mg base 2 "_law_source" ["script", "k"] (spSource K) f1 fd1) (D_law_draw : Dn P w K mg base 2 "_law_draw" ["pool"] spDraw f2 fd2)
    (D_law_take : Dn P w K mg base 1 "_law_take" ["pool", "many"] spTake f3 fd3) (D_law_mirrored : Dn P w K mg base 1 "_law_mirrored" ["sizes", "pairs"] spMir f4 fd4) (D_law_right_world : Dn P w K mg base 9 "_law_right_world" ["drawn", "odd_pool"] spRW f5 fd5) : FnOk P w K mg base (L2N.CX P w) 10 f fd ["script"] (spLaw K) := by
  refine F.ok law_sc (fun vs H Q E h => ?_) (fun cdv A outer s H vs Q E hr h => ?_)
  · obtain ⟨a, ns, rfl, _⟩ := h
    rfl
  · obtain ⟨a, ns, rfl, hS, h63, q⟩ := h
    refine ⟨_, (pss_cons (ps_set (i := 1) law_sc.nd rfl (Or.inl rfl) (pe_slice sl_list (pv 0) po_none (po_some pe_int)))
      (pss_cons (ps_for (passes_of rfl) rfl (pi_range1 rfl m_range (pa_cons pe_int pa_nil)) (pg_name (i := 2) law_sc.nd rfl (Or.inl rfl))
      (pss_cons (ps_set (i := 3) law_sc.nd rfl (Or.inl rfl) (pe_call D_law_source.ok (hr.mono (by decide)) rfl D_law_source.g D_law_source.kp D_law_source.b .nil ErrX.passN (pa_cons (pv 1) (pa_cons (pe_op op_mul pe_int (pv 2)) pa_nil))))
      (pss_cons (ps_set (i := 4) law_sc.nd rfl (Or.inl rfl) (pe_call D_law_draw.ok (hr.mono (by decide)) rfl D_law_draw.g D_law_draw.kp D_law_draw.b .nil ErrX.passN (pa_cons (pv 3) pa_nil)))
      (pss_cons (ps_if (pt_cmpR op_eq (pe_call D_law_take.ok (hr.mono (by decide)) rfl D_law_take.g D_law_take.kp D_law_take.b .nil ErrX.passN (pa_cons (pv 3) (pa_cons pe_int pa_nil))) pe_int (nomark _)) (pss_one (ps_set (i := 4) law_sc.nd rfl (Or.inl rfl) (pe_call D_law_mirrored.ok (hr.mono (by decide)) rfl D_law_mirrored.g D_law_mirrored.kp D_law_mirrored.b .nil ErrX.passN (pa_cons (pe_ix ix_tup (pv 4) pe_int (fun _ _ => rfl)) (pa_cons (pe_ix ix_tup (pv 4) pe_int (fun _ _ => rfl)) pa_nil))))) pss_nil)
      (pss_one (ps_if (pt_not (pt_val (pe_call D_law_right_world.ok (hr.mono (by decide)) rfl D_law_right_world.g D_law_right_world.kp D_law_right_world.b .nil ErrX.passN (pa_cons (pv 4) (pa_cons (pe_call D_law_source.ok (hr.mono (by decide)) rfl D_law_source.g D_law_source.kp D_law_source.b .nil ErrX.passN (pa_cons (pv 1) (pa_cons (pe_op op_add (pe_op op_mul pe_int (pv 2)) pe_int) pa_nil))) pa_nil))))) (pss_one (ps_ret pe_bl)) pss_nil))))))
      (pss_one (ps_ret pe_bl)))), ?_⟩
    refine ⟨.ref a, rfl, 63, rfl, a, _, rfl, hS, fun c nc => ?_⟩
    have hc : (upd H c (.lst (cutV (ns.map V.int) none (some 63)))) c = some (.lst ((ns.take 63).map V.int)) := by
      rw [upd_same]
      exact congrArg (fun z => some (HO.lst z)) ((cut_take (ns.map V.int) 63).trans (List.map_take (f := V.int) (l := ns) (i := 63)).symm)
    generalize upd H c (.lst (cutV (ns.map V.int) none (some 63))) = H1 at hc ⊢
    refine ⟨2, rfl, by decide, by decide, ?_⟩
    refine for_range (lo := 0) (n := 2) (fun i σ H' => ∃ (y2 y3 y4 : Option V), σ = [some (.ref a), some (.ref c), y2, y3, y4] ∧ Same H1 H') ⟨none, none, none, rfl, Same.refl _⟩ (fun i σ H' hi g => ?_) (fun σ H' g => ?_)
    · obtain ⟨y2, y3, y4, rfl, sm⟩ := g
      rw [int_nV]
      have hcs := sm _ _ hc
      refine ⟨.ref c, rfl, nV i, rfl, 2, (i : Int), rfl, rfl, .inl (by decide), c, ns.take 63, 2 * (i : Int), rfl, sq hcs, by omega, by omega, fun p x np => ?_⟩
      have s1 := Same.new (o := .lst [.int x]) np
      refine ⟨.ref p, rfl, p, x, rfl, upd_same, fun H2 t ts q0 y m n zs b2 hp2 D => ?_⟩
      have s2 : Same H' H2 := fun b o e => b2 b o (ne_of_none e np) (s1 b o e)
      refine ⟨.ref p, rfl, p, y, 4, rfl, hp2, by decide, by decide, fun d y' H3 d0 dm b3 hp3 => ?_⟩
      have D3 := D.but hp2 b3
      have s3 : Same H' H3 := fun b o e => b3 b o (ne_of_none e np) (s2 b o e)
      have fin : ∀ (H4 : Hp) (t ts q0 : Addr) (m n : Nat) (zs : List Z), Same H' H4 → Drawn H4 t m n zs ts q0 → ∀ (R : Hp → Prop), (∀ H5, Same H1 H5 → R H5) → ∀ (p2 : Addr) (x2 : Int), H4 p2 = none → ∃ (t' p' : Addr) (x' : Int) (m' n' : Nat) (zs' : List Z) (ts' q' : Addr), [V.ref t, V.ref p2] = [.ref t', .ref p'] ∧ Drawn (upd H4 p2 (.lst [.int x2])) t' m' n' zs' ts' q' ∧ (upd H4 p2 (.lst [.int x2])) p' = some (.lst [.int x']) ∧ ∀ H5, But p' (upd H4 p2 (.lst [.int x2])) H5 → R H5 := by
        intro H4 t ts q0 m n zs s4 D4 R hR p2 x2 np2
        have s5 := Same.new (o := .lst [.int x2]) np2
        exact ⟨t, p2, x2, m, n, zs, ts, q0, rfl, D4.keep s5, upd_same, fun H5 b5 => hR H5 (sm.trans fun b o e => b5 b o (ne_of_none (s4 b o e) np2) (s5 b o (s4 b o e)))⟩
      refine ⟨rfl, _, rfl, ite2 (fun e => ?_) (fun e => ?_)⟩
      · refine ⟨.ref t, rfl, t, _, 0, .ref ts, rfl, rfl, sqt D3.ht, rfl, .ref t, rfl, t, _, 1, .ref q0, rfl, rfl, sqt D3.ht, rfl, t, ts, q0, m, n, zs, rfl, D3, fun H4 t' ts' a' s zs' s4 D4 => ?_⟩
        have s34 := s3.trans s4
        refine ⟨.ref t', rfl, .ref c, rfl, nV i, rfl, 2, (i : Int), rfl, rfl, .inl (by decide), _, 1, rfl, rfl, c, ns.take 63, 2 * (i : Int) + 1, rfl, sq (s34 _ _ hcs), by omega, by omega, fun p2 x2 np2 => ?_⟩
        refine fin H4 t' ts' a' s s zs' s34 D4 _ (fun H5 s5 => ⟨_, rfl, iteF ⟨_, _, _, rfl, s5⟩⟩) p2 x2 np2
      · refine ⟨.ref t, rfl, .ref c, rfl, nV i, rfl, 2, (i : Int), rfl, rfl, .inl (by decide), _, 1, rfl, rfl, c, ns.take 63, 2 * (i : Int) + 1, rfl, sq (s3 _ _ hcs), by omega, by omega, fun p2 x2 np2 => ?_⟩
        refine fin H3 t ts q0 m n zs s3 D3 _ (fun H5 s5 => ⟨_, rfl, iteF ⟨_, _, _, rfl, s5⟩⟩) p2 x2 np2
    · exact q _
end
end K03
set_option Elab.async false
set_option linter.all false
set_option maxRecDepth 100000
set_option maxHeartbeats 4000000
namespace K03
open PySem PySem.W PySem.Spec PyProof.Rows L2 Hk
theorem noneB_ok {a b : Value} (h : noneB a b = true) : a = .none ∧ b = .none := by
  cases a <;> cases b <;> first | exact ⟨rfl, rfl⟩ | cases h
theorem dfl_of {d : ErrD} {K : Frag} {oc dV kV doc pm cd ct : Value} {od an : Option Addr} {osl : Array (Option Value)} {n q : Str} {ps : Arguments} {b : List Stmt} {sc : Scope} {cl : List (Str × Addr)} (h : dflB d K = true) (lk : K.lookup (d.at_ K) = some ⟨oc, od, .func (fnX n q ps b sc cl dV kV doc pm an cd ct), osl⟩) : dV = .none ∧ kV = .none := by
  unfold dflB at h
  rw [lk] at h
  exact noneB_ok h
theorem ok_initN {P : Program} {w : World} {K : Frag} {mg : Str → Option Value} {base : Heap} {C : Addr} (EF : ErrF K C (dN.at_ K) "/claim/cut.py" dN) (o : nsIn K cStatics "thirdparty.any" = some none) (ms : mg "super" = none) (hP : P.main.file = "/claim/cut.py") (hsup : (P.main.scope.names.lookup ("super" : Str)).isSome = false) (hd : dflB dN K = true) (hno : findIn K (.ref C) "depot" = some none) :
    ∃ fd, FnOk P w K mg base (L2N.CX P w) 1 (dN.at_ K) fd ["self", "depot"] (ErrX.spI C "depot") ∧ Binds K fd ["self", "depot"] [] := by
  obtain ⟨oc, od, osl, dV, kV, doc, pm, an, ct, cc, cda, cl, cld, csl, ccl, cdd, cvs, ccs, tf, lk, hcd, hcode, hvs, hcell⟩ := EF.fn
  rw [← hP] at hvs
  obtain ⟨rfl, rfl⟩ := dfl_of hd lk
  have S : SupX.ScS ["self", "depot"] ["self", "depot"] (defScope dN.st) := ⟨rfl, rfl, rfl, by decide +kernel, rfl, by decide +kernel, by decide +kernel, by decide +kernel, rfl, rfl⟩
  have T : SupX.SupC P K mg C := ⟨EF.oex, EF.sup, EF.sub, EF.self, o, ms, hsup⟩
  refine ⟨_, SupX.fn_sup (k := 0) (sp := ErrX.spI C "depot") (CX := L2N.CX P w) lk hcd hcode hvs hcell T (fun L => ⟨_, rfl⟩) (fun L => rfl) S rfl rfl (fun vs H Q E h => ?_) (fun A outer s H vs Q E hr h => ?_), .all fun us hl => match us, hl with | [_, _], _ => rfl⟩
  · obtain ⟨a, x, rfl, ha, _⟩ := h
    exact ⟨rfl, a, _, rfl, ha⟩
  · obtain ⟨a, x, rfl, ha, q⟩ := h
    refine ⟨_, pss_one (ps_ost (pv 0) (pv 1) rfl), ?_⟩
    exact ⟨.int x, rfl, .ref a, rfl, a, C, rfl, EF.oex, hno, .inl ⟨ha, q⟩⟩
theorem ok_initC {P : Program} {w : World} {K : Frag} {mg : Str → Option Value} {base : Heap} {C : Addr} (EF : ErrF K C (dC.at_ K) "/claim/cut.py" dC) (o : nsIn K cStatics "thirdparty.any" = some none) (ms : mg "super" = none) (hP : P.main.file = "/claim/cut.py") (hsup : (P.main.scope.names.lookup ("super" : Str)).isSome = false) (hd : dflB dC K = true) (hno : findIn K (.ref C) "customer" = some none) :
    ∃ fd, FnOk P w K mg base (L2N.CX P w) 1 (dC.at_ K) fd ["self", "customer"] (ErrX.spI C "customer") ∧ Binds K fd ["self", "customer"] [] := by
  obtain ⟨oc, od, osl, dV, kV, doc, pm, an, ct, cc, cda, cl, cld, csl, ccl, cdd, cvs, ccs, tf, lk, hcd, hcode, hvs, hcell⟩ := EF.fn
  rw [← hP] at hvs
  obtain ⟨rfl, rfl⟩ := dfl_of hd lk
  have S : SupX.ScS ["self", "customer"] ["self", "customer"] (defScope dC.st) := ⟨rfl, rfl, rfl, by decide +kernel, rfl, by decide +kernel, by decide +kernel, by decide +kernel, rfl, rfl⟩
  have T : SupX.SupC P K mg C := ⟨EF.oex, EF.sup, EF.sub, EF.self, o, ms, hsup⟩
  refine ⟨_, SupX.fn_sup (k := 0) (sp := ErrX.spI C "customer") (CX := L2N.CX P w) lk hcd hcode hvs hcell T (fun L => ⟨_, rfl⟩) (fun L => rfl) S rfl rfl (fun vs H Q E h => ?_) (fun A outer s H vs Q E hr h => ?_), .all fun us hl => match us, hl with | [_, _], _ => rfl⟩
  · obtain ⟨a, x, rfl, ha, _⟩ := h
    exact ⟨rfl, a, _, rfl, ha⟩
  · obtain ⟨a, x, rfl, ha, q⟩ := h
    refine ⟨_, pss_one (ps_ost (pv 0) (pv 1) rfl), ?_⟩
    exact ⟨.int x, rfl, .ref a, rfl, a, C, rfl, EF.oex, hno, .inl ⟨ha, q⟩⟩
theorem ok_initT {P : Program} {w : World} {K : Frag} {mg : Str → Option Value} {base : Heap} {C : Addr} (EF : ErrF K C (dT.at_ K) "/claim/cut.py" dT) (o : nsIn K cStatics "thirdparty.any" = some none) (ms : mg "super" = none) (m_tuple : mg "tuple" = none) (hP : P.main.file = "/claim/cut.py") (hsup : (P.main.scope.names.lookup ("super" : Str)).isSome = false) (hd : dflB dT K = true) (hno : findIn K (.ref C) "route" = some none) :
    ∃ fd, FnOk P w K mg base (L2N.CX P w) 1 (dT.at_ K) fd ["self", "route"] (ErrX.spT C "route") ∧ Binds K fd ["self", "route"] [] := by
  obtain ⟨oc, od, osl, dV, kV, doc, pm, an, ct, cc, cda, cl, cld, csl, ccl, cdd, cvs, ccs, tf, lk, hcd, hcode, hvs, hcell⟩ := EF.fn
  rw [← hP] at hvs
  obtain ⟨rfl, rfl⟩ := dfl_of hd lk
  have S : SupX.ScS ["self", "route"] ["self", "route"] (defScope dT.st) := ⟨rfl, rfl, rfl, by decide +kernel, rfl, by decide +kernel, by decide +kernel, by decide +kernel, rfl, rfl⟩
  have T : SupX.SupC P K mg C := ⟨EF.oex, EF.sup, EF.sub, EF.self, o, ms, hsup⟩
  refine ⟨_, SupX.fn_sup (k := 0) (sp := ErrX.spT C "route") (CX := L2N.CX P w) lk hcd hcode hvs hcell T (fun L => ⟨_, rfl⟩) (fun L => rfl) S rfl rfl (fun vs H Q E h => ?_) (fun A outer s H vs Q E hr h => ?_), .all fun us hl => match us, hl with | [_, _], _ => rfl⟩
  · obtain ⟨a, tq, xs, rfl, ht, ha, _⟩ := h
    exact ⟨rfl, a, _, rfl, ha⟩
  · obtain ⟨a, tq, xs, rfl, ht, ha, q⟩ := h
    refine ⟨_, pss_one (ps_ost (pv 0) (pe_callTy call_tuple_of (by rfl) m_tuple (by decide +kernel) (pa_cons (pv 1) pa_nil)) rfl), ?_⟩
    exact ⟨.ref tq, rfl, tq, xs, rfl, .inr ⟨sqt ht, .ref a, rfl, a, C, rfl, EF.oex, hno, .inl ⟨ha, q⟩⟩⟩
theorem ok_initR {P : Program} {w : World} {K : Frag} {mg : Str → Option Value} {base : Heap} {C : Addr} (EF : ErrF K C (dR.at_ K) "/claim/cut.py" dR) (o : nsIn K cStatics "thirdparty.any" = some none) (ms : mg "super" = none) (m_isinstance : mg "isinstance" = none) (m_int : mg "int" = none) (m_tuple : mg "tuple" = none) (hP : P.main.file = "/claim/cut.py") (hsup : (P.main.scope.names.lookup ("super" : Str)).isSome = false) (hd : dflB dR K = true) (hno : findIn K (.ref C) "entry" = some none) :
    ∃ fd, FnOk P w K mg base (L2N.CX P w) 1 (dR.at_ K) fd ["self", "entry"] (ErrX.spI C "entry") ∧ Binds K fd ["self", "entry"] [] := by
  obtain ⟨oc, od, osl, dV, kV, doc, pm, an, ct, cc, cda, cl, cld, csl, ccl, cdd, cvs, ccs, tf, lk, hcd, hcode, hvs, hcell⟩ := EF.fn
  rw [← hP] at hvs
  obtain ⟨rfl, rfl⟩ := dfl_of hd lk
  have S : SupX.ScS ["self", "entry"] ["self", "entry"] (defScope dR.st) := ⟨rfl, rfl, rfl, by decide +kernel, rfl, by decide +kernel, by decide +kernel, by decide +kernel, rfl, rfl⟩
  have T : SupX.SupC P K mg C := ⟨EF.oex, EF.sup, EF.sub, EF.self, o, ms, hsup⟩
  refine ⟨_, SupX.fn_sup (k := 0) (sp := ErrX.spI C "entry") (CX := L2N.CX P w) lk hcd hcode hvs hcell T (fun L => ⟨_, rfl⟩) (fun L => rfl) S rfl rfl (fun vs H Q E h => ?_) (fun A outer s H vs Q E hr h => ?_), .all fun us hl => match us, hl with | [_, _], _ => rfl⟩
  · obtain ⟨a, x, rfl, ha, _⟩ := h
    exact ⟨rfl, a, _, rfl, ha⟩
  · obtain ⟨a, x, rfl, ha, q⟩ := h
    refine ⟨_, pss_one (ps_ost (pv 0) (pe_ifExp (pt_val (pe_callB call_isi (by rfl) m_isinstance (by decide +kernel) (pa_cons (pv 1) (pa_cons (pe_bltn (by rfl) m_int (by decide +kernel) (v := .ty "int") rfl) pa_nil)))) (pv 1) (pe_callTy call_tuple_of (by rfl) m_tuple (by decide +kernel) (pa_cons (pv 1) pa_nil))) rfl), ?_⟩
    exact ⟨.int x, rfl, .int x, .ty "int", .type "int", .type "int", true, rfl, .ty _, .base (.int x), kit_ty (by decide +kernel), _, rfl, iteT ⟨.int x, rfl, .ref a, rfl, a, C, rfl, EF.oex, hno, .inl ⟨ha, q⟩⟩⟩
end K03
set_option Elab.async false
set_option linter.all false
set_option maxRecDepth 100000
set_option maxHeartbeats 4000000
namespace K03
open PySem PySem.W PySem.Spec PyProof.Rows L2 Hk
theorem conB_ok {C x : Str} {i : Int} {K : Frag} (h : conB C x i K = true) (hc : copiedNames.contains x = false) : ∃ u, Con K (He.ga K C) x (.int i) u := by
  unfold conB at h
  split at h
  · rename_i j t e
    obtain ⟨h1, h2⟩ := Bool.and_eq_true_iff.mp h
    have ej := of_decide_eq_true h1
    subst ej
    exact ⟨.int j t, e, ⟨t, rfl⟩, He.eqO_ok h2, hc⟩
  · cases h
theorem getB_ok {K : Frag} (h : getB K = true) : specialIn K (.builtin "object.__class__") "__get__" = some (some (.builtin "getset_descriptor.__get__")) ∧ takesIn K (.builtin "object.__class__") = some true := by
  obtain ⟨h1, h2⟩ := Bool.and_eq_true_iff.mp h
  exact ⟨He.eqO_ok h1, of_decide_eq_true h2⟩
theorem more_mem {K : Frag} (c : Says ask K) {b : Frag → Bool} (h : b ∈ ask.bs) : b K = true := List.all_eq_true.mp c.all.2.2 b h
theorem fa_mem {K : Frag} (c : Says ask K) {f : He.Fa} (h : f ∈ ask.fa) : f.ok K = true := List.all_eq_true.mp c.all.1.1 f h
theorem propB_ok {C x : Str} {K : Frag} (h : propB C x K = true) : PropOf K (He.ga K C) x (He.ma K (He.ga K C) x) (gaP K C x) := by
  obtain ⟨h1, h2⟩ := Bool.and_eq_true_iff.mp h
  obtain ⟨h2, h3⟩ := Bool.and_eq_true_iff.mp h2
  obtain ⟨h3, h4⟩ := Bool.and_eq_true_iff.mp h3
  refine ⟨He.eqO_ok h1, He.eqO_ok h2, of_decide_eq_true h3, ?_⟩
  unfold gaP
  split at h4
  · rename_i g rest e
    rw [e]
    exact ⟨rest, rfl⟩
  · cases h4
theorem insB_ok {C : Str} {K : Frag} (h : insB C K = true) (g : specialIn K (.builtin "object.__class__") "__get__" = some (some (.builtin "getset_descriptor.__get__")) ∧ takesIn K (.builtin "object.__class__") = some true) : IsN K (He.ga K C) := by
  obtain ⟨h1, h2⟩ := Bool.and_eq_true_iff.mp h
  obtain ⟨h2, h3⟩ := Bool.and_eq_true_iff.mp h2
  exact ⟨He.eqO_ok h1, g.1, g.2, of_decide_eq_true h2, of_decide_eq_true h3⟩
def caK (K : Frag) (b : Er4) : Addr := He.ga K (nmE b)
theorem cls_of {K : Frag} {mg : Str → Option Value} {h : Heap} (X : K.In h) (G : h.Ns mainGlobals mg) (c : Says ask K) : ∀ b : Er4, ClsF K mg (caK K b) (nmE b) (fun x => He.ga K x) := by
  obtain ⟨gt1, gt2⟩ := getB_ok (c.more 3)
  have hg : ∀ x ∈ clsN, mg x = some (.ref (He.ga K x)) := fun x hx => He.glo_ok X G (fa_mem c (List.mem_append_right _ (List.mem_map_of_mem hx)))
  intro b
  cases b with
  | N =>
    have E := c.err 0 (d := dN) rfl
    exact ⟨⟨E.ga, E.gt, E.oex.exC, E.hd, E.cl, gt1, gt2, E.top⟩, hg, fun x hx => of_decide_eq_true (more_mem c (b := isx "NoDepot" x (decide (x = "NoDepot"))) (List.mem_append_right _ (List.mem_append_left _ (List.mem_map_of_mem (f := fun y => isx "NoDepot" y (decide (y = "NoDepot"))) hx)))), of_decide_eq_true (c.more 4), by decide +kernel⟩
  | C =>
    have E := c.err 1 (d := dC) rfl
    exact ⟨⟨E.ga, E.gt, E.oex.exC, E.hd, E.cl, gt1, gt2, E.top⟩, hg, fun x hx => of_decide_eq_true (more_mem c (b := isx "NoCustomer" x (decide (x = "NoCustomer"))) (List.mem_append_right _ (List.mem_append_right _ (List.mem_append_left _ (List.mem_map_of_mem (f := fun y => isx "NoCustomer" y (decide (y = "NoCustomer"))) hx))))), of_decide_eq_true (c.more 5), by decide +kernel⟩
  | T =>
    have E := c.err 2 (d := dT) rfl
    exact ⟨⟨E.ga, E.gt, E.oex.exC, E.hd, E.cl, gt1, gt2, E.top⟩, hg, fun x hx => of_decide_eq_true (more_mem c (b := isx "NoRoute" x (decide (x = "NoRoute"))) (List.mem_append_right _ (List.mem_append_right _ (List.mem_append_right _ (List.mem_append_left _ (List.mem_map_of_mem (f := fun y => isx "NoRoute" y (decide (y = "NoRoute"))) hx)))))), of_decide_eq_true (c.more 6), by decide +kernel⟩
  | R =>
    have E := c.err 3 (d := dR) rfl
    exact ⟨⟨E.ga, E.gt, E.oex.exC, E.hd, E.cl, gt1, gt2, E.top⟩, hg, fun x hx => of_decide_eq_true (more_mem c (b := isx "Repeated" x (decide (x = "Repeated"))) (List.mem_append_right _ (List.mem_append_right _ (List.mem_append_right _ (List.mem_append_right _ (List.mem_map_of_mem (f := fun y => isx "Repeated" y (decide (y = "Repeated"))) hx)))))), of_decide_eq_true (c.more 7), by decide +kernel⟩
theorem facts {P : Program} {w : World} {K : Frag} {h : Heap} {mg : Str → Option Value} {f : Addr} (hP : P.main.file = "/claim/cut.py") (hsup : (P.main.scope.names.lookup ("super" : Str)).isSome = false) (X : K.In h) (G : h.Ns mainGlobals mg) (hfa : mg ("law" : Str) = some (.ref f)) (c : Says ask K) :
    ∃ fd : FuncData, (∀ (s : Shared) (v : Value), BindsTo s fd ⟨[v], []⟩ [("script", v)]) ∧ ∀ base : Heap, K.In base → base.Ns mainGlobals mg → FnOk P w K mg base (L2N.CX P w) 10 f fd ["script"] (spLaw K) := by
  obtain ⟨fd_check_size, F_check_size⟩ := c.def_ 0 (d := gdef "check_size" check_size_st) rfl
  obtain ⟨fd_check_most, F_check_most⟩ := c.def_ 1 (d := gdef "check_most" check_most_st) rfl
  obtain ⟨fd_check_depot, F_check_depot⟩ := c.def_ 2 (d := gdef "check_depot" check_depot_st) rfl
  obtain ⟨fd_check_customer, F_check_customer⟩ := c.def_ 3 (d := gdef "check_customer" check_customer_st) rfl
  obtain ⟨fd_checked_route, F_checked_route⟩ := c.def_ 4 (d := gdef "checked_route" checked_route_st) rfl
  obtain ⟨fd_checked_lot, F_checked_lot⟩ := c.def_ 5 (d := gdef "checked_lot" checked_lot_st) rfl
  obtain ⟨fd_place_labels, F_place_labels⟩ := c.def_ 6 (d := gdef "place_labels" place_labels_st) rfl
  obtain ⟨fd_merged_labels, F_merged_labels⟩ := c.def_ 7 (d := gdef "merged_labels" merged_labels_st) rfl
  obtain ⟨fd_labelled_piece, F_labelled_piece⟩ := c.def_ 8 (d := gdef "labelled_piece" labelled_piece_st) rfl
  obtain ⟨fd_checked_pairs, F_checked_pairs⟩ := c.def_ 9 (d := gdef "_checked_pairs" checked_pairs_st) rfl
  obtain ⟨fd_found_pieces, F_found_pieces⟩ := c.def_ 10 (d := gdef "_found_pieces" found_pieces_st) rfl
  obtain ⟨fd_law_cell_of, F_law_cell_of⟩ := c.def_ 11 (d := gdef "_law_cell_of" law_cell_of_st) rfl
  obtain ⟨fd_law_source, F_law_source⟩ := c.def_ 12 (d := gdef "_law_source" law_source_st) rfl
  obtain ⟨fd_law_take, F_law_take⟩ := c.def_ 13 (d := gdef "_law_take" law_take_st) rfl
  obtain ⟨fd_law_draw, F_law_draw⟩ := c.def_ 14 (d := gdef "_law_draw" law_draw_st) rfl
  obtain ⟨fd_law_mirrored, F_law_mirrored⟩ := c.def_ 15 (d := gdef "_law_mirrored" law_mirrored_st) rfl
  obtain ⟨fd_law_same, F_law_same⟩ := c.def_ 16 (d := gdef "_law_same" law_same_st) rfl
  obtain ⟨fd_law_classes, F_law_classes⟩ := c.def_ 17 (d := gdef "_law_classes" law_classes_st) rfl
  obtain ⟨fd_law_refusal, F_law_refusal⟩ := c.def_ 18 (d := gdef "_law_refusal" law_refusal_st) rfl
  obtain ⟨fd_law_ask, F_law_ask⟩ := c.def_ 19 (d := gdef "_law_ask" law_ask_st) rfl
  obtain ⟨fd_law_all_told, F_law_all_told⟩ := c.def_ 20 (d := gdef "_law_all_told" law_all_told_st) rfl
  obtain ⟨fd_law_linked, F_law_linked⟩ := c.def_ 21 (d := gdef "_law_linked" law_linked_st) rfl
  obtain ⟨fd_law_pieces_due, F_law_pieces_due⟩ := c.def_ 22 (d := gdef "_law_pieces_due" law_pieces_due_st) rfl
  obtain ⟨fd_law_reach_due, F_law_reach_due⟩ := c.def_ 23 (d := gdef "_law_reach_due" law_reach_due_st) rfl
  obtain ⟨fd_law_index_due, F_law_index_due⟩ := c.def_ 24 (d := gdef "_law_index_due" law_index_due_st) rfl
  obtain ⟨fd_law_written, F_law_written⟩ := c.def_ 25 (d := gdef "_law_written" law_written_st) rfl
  obtain ⟨fd_law_all_due, F_law_all_due⟩ := c.def_ 26 (d := gdef "_law_all_due" law_all_due_st) rfl
  obtain ⟨fd_law_right, F_law_right⟩ := c.def_ 27 (d := gdef "_law_right" law_right_st) rfl
  obtain ⟨fd_law_draw_odd, F_law_draw_odd⟩ := c.def_ 28 (d := gdef "_law_draw_odd" law_draw_odd_st) rfl
  obtain ⟨fd_law_right_world, F_law_right_world⟩ := c.def_ 29 (d := gdef "_law_right_world" law_right_world_st) rfl
  obtain ⟨fd_law, F_law⟩ := c.def_ 30 (d := gdef "law" law_st) rfl
  obtain ⟨fd_Network_init, F_Network_init⟩ := c.def_ 31 (d := mdefN "Network" "__init__" "Network.__init__" Network_init_st) rfl
  obtain ⟨fd_Network_customers_of, F_Network_customers_of⟩ := c.def_ 32 (d := mdefN "Network" "customers_of" "Network.customers_of" Network_customers_of_st) rfl
  obtain ⟨fd_Network_depots_of, F_Network_depots_of⟩ := c.def_ 33 (d := mdefN "Network" "depots_of" "Network.depots_of" Network_depots_of_st) rfl
  obtain ⟨fd_Network_reach, F_Network_reach⟩ := c.def_ 34 (d := mdefN "Network" "reach" "Network.reach" Network_reach_st) rfl
  obtain ⟨fd_Network_pieces, F_Network_pieces⟩ := c.def_ 35 (d := mdefN "Network" "pieces" "Network.pieces" Network_pieces_st) rfl
  obtain ⟨fd_Network_index_of, F_Network_index_of⟩ := c.def_ 36 (d := mdefN "Network" "index_of" "Network.index_of" Network_index_of_st) rfl
  obtain ⟨fd_Network_turned, F_Network_turned⟩ := c.def_ 37 (d := mdefN "Network" "turned" "Network.turned" Network_turned_st) rfl
  obtain ⟨fd_Network_contains, F_Network_contains⟩ := c.def_ 38 (d := mdefN "Network" "__contains__" "Network.__contains__" Network_contains_st) rfl
  obtain ⟨fd_Network_len, F_Network_len⟩ := c.def_ 39 (d := mdefN "Network" "__len__" "Network.__len__" Network_len_st) rfl
  obtain ⟨fd_Network_eq, F_Network_eq⟩ := c.def_ 40 (d := mdefN "Network" "__eq__" "Network.__eq__" Network_eq_st) rfl
  obtain ⟨fd_Network_str, F_Network_str⟩ := c.def_ 41 (d := mdefN "Network" "__str__" "Network.__str__" Network_str_st) rfl
  obtain ⟨fd_Network_depots, F_Network_depots⟩ := c.def_ 42 (d := pdefN "Network" "depots" "Network.depots" Network_depots_st) rfl
  obtain ⟨fd_Network_customers, F_Network_customers⟩ := c.def_ 43 (d := pdefN "Network" "customers" "Network.customers" Network_customers_st) rfl
  obtain ⟨fd_Network_routes, F_Network_routes⟩ := c.def_ 44 (d := pdefN "Network" "routes" "Network.routes" Network_routes_st) rfl
  obtain ⟨fd_Network_loops, F_Network_loops⟩ := c.def_ 45 (d := pdefN "Network" "loops" "Network.loops" Network_loops_st) rfl
  obtain ⟨fd_Network_joined, F_Network_joined⟩ := c.def_ 46 (d := pdefN "Network" "joined" "Network.joined" Network_joined_st) rfl
  have g_check_size := He.glo_ok X G (c.fact 15 (f := .glo "check_size") rfl)
  have g_check_most := He.glo_ok X G (c.fact 16 (f := .glo "check_most") rfl)
  have g_check_depot := He.glo_ok X G (c.fact 17 (f := .glo "check_depot") rfl)
  have g_check_customer := He.glo_ok X G (c.fact 18 (f := .glo "check_customer") rfl)
  have g_checked_route := He.glo_ok X G (c.fact 19 (f := .glo "checked_route") rfl)
  have g_checked_lot := He.glo_ok X G (c.fact 20 (f := .glo "checked_lot") rfl)
  have g_place_labels := He.glo_ok X G (c.fact 21 (f := .glo "place_labels") rfl)
  have g_merged_labels := He.glo_ok X G (c.fact 22 (f := .glo "merged_labels") rfl)
  have g_labelled_piece := He.glo_ok X G (c.fact 23 (f := .glo "labelled_piece") rfl)
  have g_checked_pairs := He.glo_ok X G (c.fact 24 (f := .glo "_checked_pairs") rfl)
  have g_found_pieces := He.glo_ok X G (c.fact 25 (f := .glo "_found_pieces") rfl)
  have g_law_cell_of := He.glo_ok X G (c.fact 26 (f := .glo "_law_cell_of") rfl)
  have g_law_source := He.glo_ok X G (c.fact 27 (f := .glo "_law_source") rfl)
  have g_law_take := He.glo_ok X G (c.fact 28 (f := .glo "_law_take") rfl)
  have g_law_draw := He.glo_ok X G (c.fact 29 (f := .glo "_law_draw") rfl)
  have g_law_mirrored := He.glo_ok X G (c.fact 30 (f := .glo "_law_mirrored") rfl)
  have g_law_same := He.glo_ok X G (c.fact 31 (f := .glo "_law_same") rfl)
  have g_law_classes := He.glo_ok X G (c.fact 32 (f := .glo "_law_classes") rfl)
  have g_law_refusal := He.glo_ok X G (c.fact 33 (f := .glo "_law_refusal") rfl)
  have g_law_ask := He.glo_ok X G (c.fact 34 (f := .glo "_law_ask") rfl)
  have g_law_all_told := He.glo_ok X G (c.fact 35 (f := .glo "_law_all_told") rfl)
  have g_law_linked := He.glo_ok X G (c.fact 36 (f := .glo "_law_linked") rfl)
  have g_law_pieces_due := He.glo_ok X G (c.fact 37 (f := .glo "_law_pieces_due") rfl)
  have g_law_reach_due := He.glo_ok X G (c.fact 38 (f := .glo "_law_reach_due") rfl)
  have g_law_index_due := He.glo_ok X G (c.fact 39 (f := .glo "_law_index_due") rfl)
  have g_law_written := He.glo_ok X G (c.fact 40 (f := .glo "_law_written") rfl)
  have g_law_all_due := He.glo_ok X G (c.fact 41 (f := .glo "_law_all_due") rfl)
  have g_law_right := He.glo_ok X G (c.fact 42 (f := .glo "_law_right") rfl)
  have g_law_draw_odd := He.glo_ok X G (c.fact 43 (f := .glo "_law_draw_odd") rfl)
  have g_law_right_world := He.glo_ok X G (c.fact 44 (f := .glo "_law_right_world") rfl)
  have g_law := He.glo_ok X G (c.fact 45 (f := .glo "law") rfl)
  have g_Network := He.glo_ok X G (c.fact 46 (f := .glo "Network") rfl)
  have g_DepotError := He.glo_ok X G (c.fact 47 (f := .glo "DepotError") rfl)
  have g_NoDepot := He.glo_ok X G (fa_mem c (List.mem_append_right _ (List.mem_map_of_mem (f := He.Fa.glo) (show ("NoDepot" : Str) ∈ clsN by decide +kernel))))
  have g_NoCustomer := He.glo_ok X G (fa_mem c (List.mem_append_right _ (List.mem_map_of_mem (f := He.Fa.glo) (show ("NoCustomer" : Str) ∈ clsN by decide +kernel))))
  have g_NoRoute := He.glo_ok X G (fa_mem c (List.mem_append_right _ (List.mem_map_of_mem (f := He.Fa.glo) (show ("NoRoute" : Str) ∈ clsN by decide +kernel))))
  have g_Repeated := He.glo_ok X G (fa_mem c (List.mem_append_right _ (List.mem_map_of_mem (f := He.Fa.glo) (show ("Repeated" : Str) ∈ clsN by decide +kernel))))
  have m_len := He.free_ok X G (c.fact 0 (f := .free "len") rfl)
  have m_range := He.free_ok X G (c.fact 1 (f := .free "range") rfl)
  have m_min := He.free_ok X G (c.fact 2 (f := .free "min") rfl)
  have m_max := He.free_ok X G (c.fact 3 (f := .free "max") rfl)
  have m_int := He.free_ok X G (c.fact 4 (f := .free "int") rfl)
  have m_list := He.free_ok X G (c.fact 5 (f := .free "list") rfl)
  have m_tuple := He.free_ok X G (c.fact 6 (f := .free "tuple") rfl)
  have m_sorted := He.free_ok X G (c.fact 7 (f := .free "sorted") rfl)
  have m_set := He.free_ok X G (c.fact 8 (f := .free "set") rfl)
  have m_enumerate := He.free_ok X G (c.fact 9 (f := .free "enumerate") rfl)
  have m_isinstance := He.free_ok X G (c.fact 10 (f := .free "isinstance") rfl)
  have m_bool := He.free_ok X G (c.fact 11 (f := .free "bool") rfl)
  have m_str := He.free_ok X G (c.fact 12 (f := .free "str") rfl)
  have m_ValueError := He.free_ok X G (c.fact 13 (f := .free "ValueError") rfl)
  have m_super := He.free_ok X G (c.fact 14 (f := .free "super") rfl)
  have b_check_size : Binds K fd_check_size ["size", "least", "most"] [] := FunD.bindsN F_check_size fun _ _ _ _ _ _ us hl => match us, hl with | [_, _, _], _ => rfl
  have b_check_most : Binds K fd_check_most ["number", "most"] [] := FunD.bindsN F_check_most fun _ _ _ _ _ _ us hl => match us, hl with | [_, _], _ => rfl
  have b_check_depot : Binds K fd_check_depot ["depot", "depots"] [] := FunD.bindsN F_check_depot fun _ _ _ _ _ _ us hl => match us, hl with | [_, _], _ => rfl
  have b_check_customer : Binds K fd_check_customer ["customer", "customers"] [] := FunD.bindsN F_check_customer fun _ _ _ _ _ _ us hl => match us, hl with | [_, _], _ => rfl
  have b_checked_route : Binds K fd_checked_route ["network", "route"] [] := FunD.bindsN F_checked_route fun _ _ _ _ _ _ us hl => match us, hl with | [_, _], _ => rfl
  have b_checked_lot : Binds K fd_checked_lot ["lot", "depots"] [] := FunD.bindsN F_checked_lot fun _ _ _ _ _ _ us hl => match us, hl with | [_, _], _ => rfl
  have b_place_labels : Binds K fd_place_labels ["depots", "customers", "routes"] [] := FunD.bindsN F_place_labels fun _ _ _ _ _ _ us hl => match us, hl with | [_, _, _], _ => rfl
  have b_merged_labels : Binds K fd_merged_labels ["labels", "first", "second"] [] := FunD.bindsN F_merged_labels fun _ _ _ _ _ _ us hl => match us, hl with | [_, _, _], _ => rfl
  have b_labelled_piece : Binds K fd_labelled_piece ["labels", "depots", "label"] [] := FunD.bindsN F_labelled_piece fun _ _ _ _ _ _ us hl => match us, hl with | [_, _, _], _ => rfl
  have b_checked_pairs : Binds K fd_checked_pairs ["depots", "customers", "routes"] [] := FunD.bindsN F_checked_pairs fun _ _ _ _ _ _ us hl => match us, hl with | [_, _, _], _ => rfl
  have b_found_pieces : Binds K fd_found_pieces ["depots", "customers", "routes"] [] := FunD.bindsN F_found_pieces fun _ _ _ _ _ _ us hl => match us, hl with | [_, _, _], _ => rfl
  have b_law_cell_of : Binds K fd_law_cell_of ["script", "k"] [] := FunD.bindsN F_law_cell_of fun _ _ _ _ _ _ us hl => match us, hl with | [_, _], _ => rfl
  have b_law_source : Binds K fd_law_source ["script", "k"] [] := FunD.bindsN F_law_source fun _ _ _ _ _ _ us hl => match us, hl with | [_, _], _ => rfl
  have b_law_take : Binds K fd_law_take ["pool", "many"] [] := FunD.bindsN F_law_take fun _ _ _ _ _ _ us hl => match us, hl with | [_, _], _ => rfl
  have b_law_draw : Binds K fd_law_draw ["pool"] [] := FunD.bindsN F_law_draw fun _ _ _ _ _ _ us hl => match us, hl with | [_], _ => rfl
  have b_law_mirrored : Binds K fd_law_mirrored ["sizes", "pairs"] [] := FunD.bindsN F_law_mirrored fun _ _ _ _ _ _ us hl => match us, hl with | [_, _], _ => rfl
  have b_law_same : Binds K fd_law_same ["told", "due"] [] := FunD.bindsN F_law_same fun _ _ _ _ _ _ us hl => match us, hl with | [_, _], _ => rfl
  have b_law_classes : Binds K fd_law_classes ["e"] [] := FunD.bindsN F_law_classes fun _ _ _ _ _ _ us hl => match us, hl with | [_], _ => rfl
  have b_law_refusal : Binds K fd_law_refusal ["e"] [] := FunD.bindsN F_law_refusal fun _ _ _ _ _ _ us hl => match us, hl with | [_], _ => rfl
  have b_law_ask : Binds K fd_law_ask ["network", "word", "thing"] [] := FunD.bindsN F_law_ask fun _ _ _ _ _ _ us hl => match us, hl with | [_, _, _], _ => rfl
  have b_law_all_told : Binds K fd_law_all_told ["network", "sizes", "asked", "lists"] [] := FunD.bindsN F_law_all_told fun _ _ _ _ _ _ us hl => match us, hl with | [_, _, _, _], _ => rfl
  have b_law_linked : Binds K fd_law_linked ["sizes", "pairs"] [] := FunD.bindsN F_law_linked fun _ _ _ _ _ _ us hl => match us, hl with | [_, _], _ => rfl
  have b_law_pieces_due : Binds K fd_law_pieces_due ["sizes", "rows"] [] := FunD.bindsN F_law_pieces_due fun _ _ _ _ _ _ us hl => match us, hl with | [_, _], _ => rfl
  have b_law_reach_due : Binds K fd_law_reach_due ["sizes", "rows", "lot"] [] := FunD.bindsN F_law_reach_due fun _ _ _ _ _ _ us hl => match us, hl with | [_, _, _], _ => rfl
  have b_law_index_due : Binds K fd_law_index_due ["sizes", "rows", "pair"] [] := FunD.bindsN F_law_index_due fun _ _ _ _ _ _ us hl => match us, hl with | [_, _, _], _ => rfl
  have b_law_written : Binds K fd_law_written ["sizes", "rows"] [] := FunD.bindsN F_law_written fun _ _ _ _ _ _ us hl => match us, hl with | [_, _], _ => rfl
  have b_law_all_due : Binds K fd_law_all_due ["sizes", "rows", "asked", "lists"] [] := FunD.bindsN F_law_all_due fun _ _ _ _ _ _ us hl => match us, hl with | [_, _, _, _], _ => rfl
  have b_law_right : Binds K fd_law_right ["network", "sizes", "rows", "odd"] [] := FunD.bindsN F_law_right fun _ _ _ _ _ _ us hl => match us, hl with | [_, _, _, _], _ => rfl
  have b_law_draw_odd : Binds K fd_law_draw_odd ["pool", "sizes"] [] := FunD.bindsN F_law_draw_odd fun _ _ _ _ _ _ us hl => match us, hl with | [_, _], _ => rfl
  have b_law_right_world : Binds K fd_law_right_world ["drawn", "odd_pool"] [] := FunD.bindsN F_law_right_world fun _ _ _ _ _ _ us hl => match us, hl with | [_, _], _ => rfl
  have b_law : Binds K fd_law ["script"] [] := FunD.bindsN F_law fun _ _ _ _ _ _ us hl => match us, hl with | [_], _ => rfl
  have b_Network_init : Binds K fd_Network_init ["self", "depots", "customers", "routes"] [] := FunD.bindsN F_Network_init fun _ _ _ _ _ _ us hl => match us, hl with | [_, _, _, _], _ => rfl
  have b_Network_customers_of : Binds K fd_Network_customers_of ["self", "depot"] [] := FunD.bindsN F_Network_customers_of fun _ _ _ _ _ _ us hl => match us, hl with | [_, _], _ => rfl
  have b_Network_depots_of : Binds K fd_Network_depots_of ["self", "customer"] [] := FunD.bindsN F_Network_depots_of fun _ _ _ _ _ _ us hl => match us, hl with | [_, _], _ => rfl
  have b_Network_reach : Binds K fd_Network_reach ["self", "lot"] [] := FunD.bindsN F_Network_reach fun _ _ _ _ _ _ us hl => match us, hl with | [_, _], _ => rfl
  have b_Network_pieces : Binds K fd_Network_pieces ["self"] [] := FunD.bindsN F_Network_pieces fun _ _ _ _ _ _ us hl => match us, hl with | [_], _ => rfl
  have b_Network_index_of : Binds K fd_Network_index_of ["self", "route"] [] := FunD.bindsN F_Network_index_of fun _ _ _ _ _ _ us hl => match us, hl with | [_, _], _ => rfl
  have b_Network_turned : Binds K fd_Network_turned ["self"] [] := FunD.bindsN F_Network_turned fun _ _ _ _ _ _ us hl => match us, hl with | [_], _ => rfl
  have b_Network_contains : Binds K fd_Network_contains ["self", "route"] [] := FunD.bindsN F_Network_contains fun _ _ _ _ _ _ us hl => match us, hl with | [_, _], _ => rfl
  have b_Network_len : Binds K fd_Network_len ["self"] [] := FunD.bindsN F_Network_len fun _ _ _ _ _ _ us hl => match us, hl with | [_], _ => rfl
  have b_Network_eq : Binds K fd_Network_eq ["self", "other"] [] := FunD.bindsN F_Network_eq fun _ _ _ _ _ _ us hl => match us, hl with | [_, _], _ => rfl
  have b_Network_str : Binds K fd_Network_str ["self"] [] := FunD.bindsN F_Network_str fun _ _ _ _ _ _ us hl => match us, hl with | [_], _ => rfl
  have b_Network_depots : Binds K fd_Network_depots ["self"] [] := FunD.bindsN F_Network_depots fun _ _ _ _ _ _ us hl => match us, hl with | [_], _ => rfl
  have b_Network_customers : Binds K fd_Network_customers ["self"] [] := FunD.bindsN F_Network_customers fun _ _ _ _ _ _ us hl => match us, hl with | [_], _ => rfl
  have b_Network_routes : Binds K fd_Network_routes ["self"] [] := FunD.bindsN F_Network_routes fun _ _ _ _ _ _ us hl => match us, hl with | [_], _ => rfl
  have b_Network_loops : Binds K fd_Network_loops ["self"] [] := FunD.bindsN F_Network_loops fun _ _ _ _ _ _ us hl => match us, hl with | [_], _ => rfl
  have b_Network_joined : Binds K fd_Network_joined ["self"] [] := FunD.bindsN F_Network_joined fun _ _ _ _ _ _ us hl => match us, hl with | [_], _ => rfl
  have e := hfa.symm.trans g_law
  cases e
  have bA := FunD.bindsA (ps := ["script"]) F_law fun _ _ _ _ _ _ us hl => match us, hl with | [_], _ => rfl
  have EdN := c.err 0 (d := dN) rfl
  have ndN : findIn K (.ref (He.ga K "NoDepot")) "depot" = some none := He.noat_ok (c.fact 69 (f := .noat "NoDepot" "depot") rfl)
  have xdN := He.exm_ok (c.fact 65 (f := .exm "NoDepot" "DepotError" true) rfl)
  have fdN := c.more 8
  have EdC := c.err 1 (d := dC) rfl
  have ndC : findIn K (.ref (He.ga K "NoCustomer")) "customer" = some none := He.noat_ok (c.fact 70 (f := .noat "NoCustomer" "customer") rfl)
  have xdC := He.exm_ok (c.fact 66 (f := .exm "NoCustomer" "DepotError" true) rfl)
  have fdC := c.more 9
  have EdT := c.err 2 (d := dT) rfl
  have ndT : findIn K (.ref (He.ga K "NoRoute")) "route" = some none := He.noat_ok (c.fact 71 (f := .noat "NoRoute" "route") rfl)
  have xdT := He.exm_ok (c.fact 67 (f := .exm "NoRoute" "DepotError" true) rfl)
  have fdT := c.more 10
  have EdR := c.err 3 (d := dR) rfl
  have ndR : findIn K (.ref (He.ga K "Repeated")) "entry" = some none := He.noat_ok (c.fact 72 (f := .noat "Repeated" "entry") rfl)
  have xdR := He.exm_ok (c.fact 68 (f := .exm "Repeated" "DepotError" true) rfl)
  have fdR := c.more 11
  have oq : nsIn K cStatics "thirdparty.any" = some none := He.eqO_ok (c.more 0)
  obtain ⟨uP, cP⟩ := conB_ok (c.more 1) (by decide)
  obtain ⟨uR, cR⟩ := conB_ok (c.more 2) (by decide)
  have T : NetC K (He.ga K "Network") uP uR := ⟨He.cls_ok (c.fact 48 (f := .cls "Network") rfl), He.noat_ok (c.fact 50 (f := .noat "Network" "_depots") rfl), He.noat_ok (c.fact 51 (f := .noat "Network" "_customers") rfl), He.noat_ok (c.fact 52 (f := .noat "Network" "_routes") rfl), He.noat_ok (c.fact 53 (f := .noat "Network" "_indices") rfl), He.noat_ok (c.fact 54 (f := .noat "Network" "_pieces") rfl), cP, cR⟩
  have M := He.mkr_ok (c.fact 49 (f := .mkr "Network") rfl)
  have J := insB_ok (c.more 12) (getB_ok (c.more 3))
  have k_Network_customers_of := He.meth_ok (c.fact 55 (f := .meth "Network" "customers_of") rfl)
  have k_Network_depots_of := He.meth_ok (c.fact 56 (f := .meth "Network" "depots_of") rfl)
  have k_Network_reach := He.meth_ok (c.fact 57 (f := .meth "Network" "reach") rfl)
  have k_Network_pieces := He.meth_ok (c.fact 58 (f := .meth "Network" "pieces") rfl)
  have k_Network_index_of := He.meth_ok (c.fact 59 (f := .meth "Network" "index_of") rfl)
  have k_Network_turned := He.meth_ok (c.fact 60 (f := .meth "Network" "turned") rfl)
  have k_Network_contains := He.meth_ok (c.fact 61 (f := .meth "Network" "__contains__") rfl)
  have k_Network_len := He.meth_ok (c.fact 62 (f := .meth "Network" "__len__") rfl)
  have k_Network_eq := He.meth_ok (c.fact 63 (f := .meth "Network" "__eq__") rfl)
  have k_Network_str := He.meth_ok (c.fact 64 (f := .meth "Network" "__str__") rfl)
  have k_Network_depots := propB_ok (c.more 13)
  have k_Network_customers := propB_ok (c.more 14)
  have k_Network_routes := propB_ok (c.more 15)
  have k_Network_loops := propB_ok (c.more 16)
  have k_Network_joined := propB_ok (c.more 17)
  have Fc := cls_of X G c
  refine ⟨fd_law, fun s v => bA s [v] rfl, fun base _ _ => ?_⟩
  obtain ⟨fdN, oN, bN⟩ := ok_initN (P := P) (w := w) (base := base) EdN oq m_super hP hsup fdN ndN
  obtain ⟨fdC, oC, bC⟩ := ok_initC (P := P) (w := w) (base := base) EdC oq m_super hP hsup fdC ndC
  obtain ⟨fdT, oT, bT⟩ := ok_initT (P := P) (w := w) (base := base) EdT oq m_super m_tuple hP hsup fdT ndT
  obtain ⟨fdR, oR, bR⟩ := ok_initR (P := P) (w := w) (base := base) EdR oq m_super m_isinstance m_int m_tuple hP hsup fdR ndR
  have D_NoDepot : Er P w K mg base "NoDepot" "depot" _ _ _ _ := ⟨EdN.oex, EdN.init, EdN.tI, oN, bN, g_NoDepot⟩
  have D_NoCustomer : Er P w K mg base "NoCustomer" "customer" _ _ _ _ := ⟨EdC.oex, EdC.init, EdC.tI, oC, bC, g_NoCustomer⟩
  have D_NoRoute : ErT P w K mg base "NoRoute" "route" _ _ _ _ := ⟨EdT.oex, EdT.init, EdT.tI, oT, bT, g_NoRoute⟩
  have D_Repeated : Er P w K mg base "Repeated" "entry" _ _ _ _ := ⟨EdR.oex, EdR.init, EdR.tI, oR, bR, g_Repeated⟩
  have D_check_size : Dn P w K mg base 1 "check_size" ["size", "least", "most"] spSize _ _ := ⟨ok_size F_check_size, g_check_size, F_check_size.kp, b_check_size⟩
  have D_check_most : Dn P w K mg base 1 "check_most" ["number", "most"] spMost _ _ := ⟨ok_most F_check_most, g_check_most, F_check_most.kp, b_check_most⟩
  have D1_check_customer : Dn P w K mg base 1 "check_customer" ["customer", "customers"] spCustomer _ _ := ⟨ok_customer F_check_customer, g_check_customer, F_check_customer.kp, b_check_customer⟩
  have D_check_customer : Dn P w K mg base 3 "check_customer" ["customer", "customers"] (spCustB _) _ _ := ⟨ok_custB F_check_customer D_NoCustomer, g_check_customer, F_check_customer.kp, b_check_customer⟩
  have D_check_depot : Dn P w K mg base 3 "check_depot" ["depot", "depots"] (spDepot _) _ _ := ⟨ok_depot F_check_depot D_NoDepot, g_check_depot, F_check_depot.kp, b_check_depot⟩
  have D_checked_lot : Dn P w K mg base 4 "checked_lot" ["lot", "depots"] (spChecked K _ _) _ _ := ⟨ok_checked F_checked_lot m_sorted D_NoDepot D_Repeated D_check_depot, g_checked_lot, F_checked_lot.kp, b_checked_lot⟩
  have D_merged_labels : Dn P w K mg base 1 "merged_labels" ["labels", "first", "second"] spMerged _ _ := ⟨ok_merged F_merged_labels m_min, g_merged_labels, F_merged_labels.kp, b_merged_labels⟩
  have D_place_labels : Dn P w K mg base 2 "place_labels" ["depots", "customers", "routes"] spLabels _ _ := ⟨ok_labels F_place_labels m_list m_range D_merged_labels, g_place_labels, F_place_labels.kp, b_place_labels⟩
  have D_labelled_piece : Dn P w K mg base 1 "labelled_piece" ["labels", "depots", "label"] spPiece _ _ := ⟨ok_piece F_labelled_piece m_len m_range, g_labelled_piece, F_labelled_piece.kp, b_labelled_piece⟩
  have D_found_pieces : Dn P w K mg base 3 "_found_pieces" ["depots", "customers", "routes"] spFound _ _ := ⟨ok_found F_found_pieces m_sorted m_set D_place_labels D_labelled_piece, g_found_pieces, F_found_pieces.kp, b_found_pieces⟩
  have D_checked_pairs : Dn P w K mg base 4 "_checked_pairs" ["depots", "customers", "routes"] spPairs _ _ := ⟨ok_pairs F_checked_pairs D_check_depot D1_check_customer, g_checked_pairs, F_checked_pairs.kp, b_checked_pairs⟩
  have D_Network : NwT P w K mg base (He.ga K "Network") _ _ := ⟨M, ok_net F_Network_init T m_len m_sorted m_enumerate D_check_size D_check_most D_checked_pairs D_found_pieces, g_Network, b_Network_init⟩
  have P_depots : PrD P w K mg base 1 (He.ga K "Network") "depots" (spNum _ _) _ _ _ := ⟨k_Network_depots, ok_depots F_Network_depots T, b_Network_depots⟩
  have P_customers : PrD P w K mg base 1 (He.ga K "Network") "customers" (spNum _ _) _ _ _ := ⟨k_Network_customers, ok_customers F_Network_customers T, b_Network_customers⟩
  have P_routes : PrD P w K mg base 1 (He.ga K "Network") "routes" (spRoutes _) _ _ _ := ⟨k_Network_routes, ok_routes F_Network_routes T m_list, b_Network_routes⟩
  have P_loops : PrD P w K mg base 1 (He.ga K "Network") "loops" (spNum _ _) _ _ _ := ⟨k_Network_loops, ok_loops F_Network_loops T m_len, b_Network_loops⟩
  have P_joined : PrD P w K mg base 1 (He.ga K "Network") "joined" (spNum _ _) _ _ _ := ⟨k_Network_joined, ok_joined F_Network_joined T m_len, b_Network_joined⟩
  have O_has : OwD P w K mg base 1 (He.ga K "Network") "__contains__" ["self", "route"] (spHas (He.ga K "Network")) _ _ := ⟨k_Network_contains.at_, k_Network_contains.fn, ok_has F_Network_contains T m_tuple, b_Network_contains⟩
  have O_len : OwD P w K mg base 1 (He.ga K "Network") "__len__" ["self"] (spNum _ _) _ _ := ⟨k_Network_len.at_, k_Network_len.fn, ok_nlen F_Network_len T m_len, b_Network_len⟩
  have O_eq : OwD P w K mg base 1 (He.ga K "Network") "__eq__" ["self", "other"] (spNEq (He.ga K "Network")) _ _ := ⟨k_Network_eq.at_, k_Network_eq.fn, ok_neq F_Network_eq T J m_isinstance g_Network, b_Network_eq⟩
  have O_str : OwD P w K mg base 1 (He.ga K "Network") "__str__" ["self"] (spStr (He.ga K "Network")) _ _ := ⟨k_Network_str.at_, k_Network_str.fn, ok_nstr F_Network_str T, b_Network_str⟩
  have D_checked_route : Dn P w K mg base 4 "checked_route" ["network", "route"] (spRoute (He.ga K "Network") _ _ _) _ _ := ⟨ok_route F_checked_route T D_check_depot D_check_customer P_depots P_customers O_has D_NoRoute, g_checked_route, F_checked_route.kp, b_checked_route⟩
  have M_c : MtD P w K mg base 4 (He.ga K "Network") "customers_of" ["self", "depot"] (spCusts (He.ga K "Network") ((caK K) .N)) _ _ := ⟨k_Network_customers_of, ok_custs F_Network_customers_of T D_check_depot, b_Network_customers_of⟩
  have M_d : MtD P w K mg base 4 (He.ga K "Network") "depots_of" ["self", "customer"] (spDeps (He.ga K "Network") ((caK K) .C)) _ _ := ⟨k_Network_depots_of, ok_deps F_Network_depots_of T D_check_customer, b_Network_depots_of⟩
  have M_r : MtD P w K mg base 5 (He.ga K "Network") "reach" ["self", "lot"] (spReach K (He.ga K "Network") ((caK K) .N) ((caK K) .R)) _ _ := ⟨k_Network_reach, ok_reach F_Network_reach T m_sorted D_checked_lot, b_Network_reach⟩
  have M_i : MtD P w K mg base 5 (He.ga K "Network") "index_of" ["self", "route"] (spIndex (He.ga K "Network") ((caK K) .N) ((caK K) .C) ((caK K) .T)) _ _ := ⟨k_Network_index_of, ok_index F_Network_index_of T D_checked_route, b_Network_index_of⟩
  have M_p : MtD P w K mg base 1 (He.ga K "Network") "pieces" ["self"] (spPieces (He.ga K "Network")) _ _ := ⟨k_Network_pieces, ok_pieces F_Network_pieces T m_list, b_Network_pieces⟩
  have M_t : MtD P w K mg base 7 (He.ga K "Network") "turned" ["self"] (spTurned (He.ga K "Network")) _ _ := ⟨k_Network_turned, ok_turned F_Network_turned T D_Network, b_Network_turned⟩
  have D_law_same := ok_same (P := P) (w := w) (base := base) F_law_same m_bool m_len m_isinstance m_int m_tuple m_range m_list m_str g_law_same F_law_same.kp b_law_same 4
  have hnoB : ∀ b : Er4, findIn K (.ref ((caK K) b)) (fldE b) = some none := fun b => by
    cases b with
    | N => exact ndN
    | C => exact ndC
    | T => exact ndT
    | R => exact ndR
  have hexB : ∀ b : Er4, exmOne K (.ref ((caK K) b)) (.ref (He.ga K "DepotError")) = some true := fun b => by
    cases b with
    | N => exact xdN
    | C => exact xdC
    | T => exact xdT
    | R => exact xdR
  have FEc := ok_classes (P := P) (w := w) (base := base) F_law_classes m_isinstance Fc
  have FEr := ok_refusal (P := P) (w := w) (base := base) F_law_refusal m_isinstance m_ValueError Fc hnoB FEc g_law_classes F_law_classes.kp b_law_classes
  have D_law_ask : Dn P w K mg base 6 "_law_ask" ["network", "word", "thing"] (spAsk K (He.ga K "Network")) _ _ := ⟨ok_ask F_law_ask T M_c M_d M_r M_i FEr g_law_refusal F_law_refusal.kp b_law_refusal g_DepotError hexB, g_law_ask, F_law_ask.kp, b_law_ask⟩
  have D_law_take : Dn P w K mg base 1 "_law_take" ["pool", "many"] spTake _ _ := ⟨ok_take F_law_take m_int, g_law_take, F_law_take.kp, b_law_take⟩
  have D_law_cell_of : Dn P w K mg base 1 "_law_cell_of" ["script", "k"] (spCell K) _ _ := ⟨ok_cell F_law_cell_of m_int m_len, g_law_cell_of, F_law_cell_of.kp, b_law_cell_of⟩
  have D_law_source : Dn P w K mg base 2 "_law_source" ["script", "k"] (spSource K) _ _ := ⟨ok_source F_law_source m_int m_range D_law_cell_of, g_law_source, F_law_source.kp, b_law_source⟩
  have D_law_draw : Dn P w K mg base 2 "_law_draw" ["pool"] spDraw _ _ := ⟨ok_draw F_law_draw m_int m_len m_min m_range D_law_take, g_law_draw, F_law_draw.kp, b_law_draw⟩
  have D_law_mirrored : Dn P w K mg base 1 "_law_mirrored" ["sizes", "pairs"] spMir _ _ := ⟨ok_mir F_law_mirrored m_min m_max m_len, g_law_mirrored, F_law_mirrored.kp, b_law_mirrored⟩
  have D_law_linked : Dn P w K mg base 1 "_law_linked" ["sizes", "pairs"] spLinked _ _ := ⟨ok_linked F_law_linked m_min m_max m_range, g_law_linked, F_law_linked.kp, b_law_linked⟩
  have D_law_pieces_due : Dn P w K mg base 2 "_law_pieces_due" ["sizes", "rows"] spPiecesDue _ _ := ⟨ok_pieces_due F_law_pieces_due m_len m_range D_law_linked, g_law_pieces_due, F_law_pieces_due.kp, b_law_pieces_due⟩
  have D_law_reach_due : Dn P w K mg base 1 "_law_reach_due" ["sizes", "rows", "lot"] (spReachDue K) _ _ := ⟨ok_reach_due F_law_reach_due m_len m_range m_sorted, g_law_reach_due, F_law_reach_due.kp, b_law_reach_due⟩
  have D_law_index_due : Dn P w K mg base 1 "_law_index_due" ["sizes", "rows", "pair"] spIxDue _ _ := ⟨ok_ixdue F_law_index_due, g_law_index_due, F_law_index_due.kp, b_law_index_due⟩
  have D_law_written : Dn P w K mg base 1 "_law_written" ["sizes", "rows"] spWritten _ _ := ⟨ok_written F_law_written m_str, g_law_written, F_law_written.kp, b_law_written⟩
  have D_law_all_told : Dn P w K mg base 7 "_law_all_told" ["network", "sizes", "asked", "lists"] (spAllTold (He.ga K "Network")) _ _ := ⟨ok_told F_law_all_told T m_len m_str m_range m_list P_depots P_customers P_routes P_loops P_joined O_len O_str O_has M_p D_law_ask, g_law_all_told, F_law_all_told.kp, b_law_all_told⟩
  have D_law_all_due : Dn P w K mg base 3 "_law_all_due" ["sizes", "rows", "asked", "lists"] spAllDue _ _ := ⟨ok_due F_law_all_due m_len m_range m_list D_law_pieces_due D_law_written D_law_index_due D_law_reach_due, g_law_all_due, F_law_all_due.kp, b_law_all_due⟩
  have D_law_right : Dn P w K mg base 8 "_law_right" ["network", "sizes", "rows", "odd"] (spRightT (He.ga K "Network")) _ _ := ⟨ok_right F_law_right m_isinstance m_tuple m_list D_law_all_told D_law_all_due D_law_same, g_law_right, F_law_right.kp, b_law_right⟩
  have D_law_draw_odd : Dn P w K mg base 2 "_law_draw_odd" ["pool", "sizes"] spOdd _ _ := ⟨ok_odd F_law_draw_odd m_range D_law_take, g_law_draw_odd, F_law_draw_odd.kp, b_law_draw_odd⟩
  have D_law_right_world : Dn P w K mg base 9 "_law_right_world" ["drawn", "odd_pool"] spRW _ _ := ⟨ok_rw F_law_right_world T J m_isinstance m_range m_sorted m_list m_bool D_Network M_t O_eq D_law_draw_odd D_law_right, g_law_right_world, F_law_right_world.kp, b_law_right_world⟩
  exact ok_law (C := He.ga K "Network") F_law m_range D_law_source D_law_draw D_law_take D_law_mirrored D_law_right_world
/-- nothing leaves the law: seen as a def that lets nothing out -/
theorem out0 {P : Program} {w : World} {K : Frag} {mg : Str → Option Value} {base : Heap} {k : Nat} {f : Addr} {fd : FuncData} (F : FnOk P w K mg base (L2N.CX P w) k f fd ["script"] (spLaw K)) : FnOk P w K mg base CX0 k f fd ["script"] (spLaw K) := by
  refine ⟨F.len, fun A outer s H args us vs Q E hr he hb hv hs => codeAny_mono (F.run A outer s H args us vs Q (fun _ _ _ => False) hr he hb hv hs) fun r s' h => ?_⟩
  cases r with
  | ok fl => cases fl <;> exact h
  | error e =>
    obtain ⟨_, _, _, _, _, _, _, _, _, _, _, _, z⟩ := h
    exact z.elim
end K03
open PySem PySem.W PySem.Calls PyProof.Rows
theorem PySem.Challenge.cw_whichdepot_k03_turned_about_holds : PySem.Challenge.rw_whichdepot_k03_turned_about.Holds := by
  w_on; o_law
  refine HandSHeadRun.head_any (r := K03.R) (q := K03.qv) (H := Hk.hook 6 K03.ask) (ob := Hk.ob 6 K03.ask) (M := 30000) (loose := K03.names) (d := HandSHeadRun.topDef K03.R.prog 78) (kwd := []) Hk.ob_eq
    (by kernel_rfl) (fun s => by kernel_rfl) K03.run (by kernel_rfl) (by kernel_rfl) (by kernel_rfl) (by rfl) (by first | assumption | decide +kernel) (by decide +kernel) ⟨rfl, rfl, rfl, rfl, rfl, by decide +kernel⟩ ?hw ?hc
  case hw => w_witness2
  case hc =>
    refine L2.walk_ofE (l := PySem.Challenge.rw_whichdepot_k03_turned_about) (n := 63) (k := 10) (x := "script") (CX := L2.CX0) rfl (by decide) (by kernel_rfl) ⟨rfl, by decide, by decide⟩ ?F (fun _ _ _ _ z => z)
    intro w mg fa h Y G hmg0
    obtain ⟨K, KX, c⟩ := Y
    have hmg : mg ("law" : PySem.Str) = some (.ref fa) := by
      have e : (HandSHeadRun.topDef K03.R.prog 78).name = ("law" : PySem.Str) := by kernel_rfl
      rw [← e]
      exact hmg0
    obtain ⟨fd, hb, hF⟩ := K03.facts (P := (PySem.Challenge.rw_whichdepot_k03_turned_about).prog) (w := w) (by rfl) (by rfl) KX G hmg c
    exact ⟨K, fd, K03.spLaw K, KX, hb, fun H a ns hl _ hS => ⟨a, ns, rfl, hS, hl, fun _ => rfl⟩, fun base h1 h2 => K03.out0 (hF base h1 h2)⟩
