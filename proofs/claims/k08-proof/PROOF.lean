import PyProof.Rows.All
import Wide.All
import OpenK.AllK
import Wide.FinOn
import HandS.ForMost
import HandS.Deep
import HandS.Evl
import HandS.Conv
import HandS.More
import HandS.Sort
import KE.KExcSuper
import HandS.ForExc
import HandS.ExcInit
import HandS.HotCalls
import HandS.ExcInitHot
import HandS.ExcIs
import HandS.SetFor
import HandS.Defaults
import HandS.IsInst
import HandS.Head0
import HandS.Head1
import HandS.Head2
import HandS.HeadEnd
import HandS.HeadHook1
import HandS.HeadHook2
import HandS.HeadNt
import HandS.DictComp
import HandS.SetBool
import HandS.Strs
import HandS.TupSets
import HandS.OwnEq
import OpenK.KMeth
import OpenK.KOps
import KE.KCallOwn
import HandS.CallLocal
import HandS.ClsMeth
import HandS.Star
import KE.KOpsOwn
import HandS.Property
import HandS.Zip
import KE.GoesEnum
import KE.KTupSum
import HandS.SortRule
import HandS.Wide
import HandS.Style
import HandS.NoneIn
import HandS.Text
import HandS.FStr
import HandS.Codes
import PyProof.ListMulAny
import PyProof.StrOps2
import PyProof.TwoTypes
import PySem.Challenge.RW_whichdepot_k08_totals
import KE.IntTextLaws
import PyProof.Rows.StrSplitJoin
import PyProof.Rows.ReprOcc
import KE.OsScanText
import KE.KStrBytes
set_option Elab.async false
set_option linter.all false
set_option maxRecDepth 100000
set_option maxHeartbeats 4000000
namespace SupX
open PySem PySem.Spec PySem.W PySem.Calls PyProof.Rows L2

/-- names of an __init__ that says super(): no cells, free is the class's cell alone -/
structure ScS (N P : List Str) (sc : Scope) : Prop where
  kind : sc.kind = .function
  co : sc.isCoroutine = false
  gen : sc.isGenerator = false
  nd : N.Nodup
  pre : N.take P.length = P
  par : ∀ x ∈ P, sc.names.lookup x = some .local
  free : ∀ y ∈ sc.names, y.2 = .free → y.1 = "__class__"
  nocell : ∀ y ∈ sc.names, y.2 ≠ .cell
  sup : sc.names.lookup ("super" : Str) = some .globalImplicit
  cls : sc.names.lookup ("__class__" : Str) = some .free
/-- the context of such a body -/
def cxS (CX : CXT) (P : Program) (w : World) (K : PySem.W.Frag) (mg : Str → Option Value) (base : Heap) (N : List Str) (qual : Str) (scope : Scope) (f : Addr) (cd : Value) (cc : Addr) (A : Around) (outer : List Env) (s : Shared) (H : Hp) (E : XK) : Cx where
  prog := P
  w := w
  K := K
  mg := mg
  base := base
  A := A.deeper (envX qual scope s.heap.objs.size f cd [("__class__", cc)])
  N := N
  s_0 := s
  H_0 := H
  env := envX qual scope s.heap.objs.size f cd [("__class__", cc)]
  outer := outer
  stack := envX qual scope s.heap.objs.size f cd [("__class__", cc)] :: outer
  ex := []
  calm := true
  fn := fun _ => false
  pn := []
  xe := fun e s' => wpAny (model P w) (A.deeper (envX qual scope s.heap.objs.size f cd [("__class__", cc)])) (leaving (envX qual scope s.heap.objs.size f cd [("__class__", cc)]) e) (fun _ s'' => CX outer H s E e s'') (fun e' s'' => CX outer H s E e' s'') s'
theorem look1 {x : Str} {cc c : Addr} (h : List.lookup x [(("__class__" : Str), cc)] = some c) : x = "__class__" ∧ c = cc := by
  simp only [List.lookup] at h
  split at h
  · rename_i q
    exact ⟨beq_iff_eq.mp q, (Option.some.inj h).symm⟩
  · cases h
theorem rev_get {x : Str} {v : Value} : ∀ {P : List Str} {vs : List Value} {i : Nat}, P.Nodup → P[i]? = some x → vs[i]? = some v → (P.zip vs).reverse.lookup x = some v := by
  intro P vs i nd h1 h2
  have key : ∀ {l : List (Str × Value)}, (l.map (·.1)).Nodup → (x, v) ∈ l → l.lookup x = some v := by
    intro l
    induction l with
    | nil => intro _ h; cases h
    | cons p l ih =>
      intro nd h
      obtain ⟨y, u⟩ := p
      obtain ⟨n1, n2⟩ := List.nodup_cons.mp (show (y :: l.map (·.1)).Nodup from nd)
      rcases List.mem_cons.mp h with e | h
      · cases e
        simp [List.lookup]
      · have ne : x ≠ y := fun e => n1 (by rw [← e]; exact List.mem_map.mpr ⟨_, h, rfl⟩)
        have q : (x == y) = false := by simpa using ne
        simp only [List.lookup, q]
        exact ih n2 h
  refine key ?_ ?_
  · rw [List.map_reverse]
    refine List.pairwise_reverse.mpr (List.Pairwise.imp (fun hab => Ne.symm hab) ?_)
    have this : ∀ {P : List Str} {vs : List Value}, P.Nodup → ((P.zip vs).map (·.1)).Nodup := by
      intro P
      induction P with
      | nil => intro vs _; simp
      | cons p P ih =>
        intro vs nd
        cases vs with
        | nil => simp
        | cons u vs =>
          obtain ⟨n1, n2⟩ := List.nodup_cons.mp nd
          show (p :: (P.zip vs).map (·.1)).Nodup
          refine List.nodup_cons.mpr ⟨fun m => ?_, ih n2⟩
          obtain ⟨q, hq, e⟩ := List.mem_map.mp m
          have z := (List.of_mem_zip (a := q.1) (b := q.2) hq).1
          rw [e] at z
          exact n1 z
    exact this nd
  · rw [List.mem_reverse]
    refine List.mem_of_getElem? (i := i) ?_
    rw [List.getElem?_zip_eq_some]
    exact ⟨h1, h2⟩
theorem inv_startS {CX : CXT} {P : Program} {w : World} {K : PySem.W.Frag} {mg : Str → Option Value} {base : Heap} {N ps : List Str} {qual : Str} {scope : Scope} {f cc : Addr} {cd : Value} {A : Around} {outer : List Env} {s : Shared} {H : Hp} {E : XK} {us : List Value} {vs : List V} {h0 : Heap} {tk : Nat} {oc : Obj} {D : Addr}
    (S : ScS N ps scope) (hd : A.handled = none) (e0 : Env0 P w K mg base A outer s H) (hl : vs.length = ps.length) (r : Vals vs us) (hcc : K.lookup cc = some oc) (hoc : oc.data = .cell (some (.ref D)))
    (ns : h0.Ns s.heap.objs.size (fun x => (ps.zip us).reverse.lookup x)) (hk : ∀ b o, s.heap.get? b = some o → h0.get? b = some o) :
    Inv (cxS CX P w K mg base N qual scope f cd cc A outer s H E) [] (L2.start N vs) H { s with heap := h0, toks := tk } := by
  have hpl : ps.length ≤ N.length := by have := congrArg List.length S.pre; rw [List.length_take] at this; omega
  have noA : ∀ b : Addr, b ∉ (cxS CX P w K mg base N qual scope f cd cc A outer s H E).ex := fun b z => absurd (show b ∈ ([] : List Addr) from z) (by simp)
  have bcc : base.get? cc = some oc := e0.mod.kin _ _ hcc
  refine ⟨⟨e0.mod, S.kind, rfl, rfl, Nat.le_refl _, fun y z c h1 h2 => ?_, fun y hy => ?_, fun y c h _ => (Bool.false_ne_true h).elim, fun _ => hd, Around.frames_deeper e0.frames, .inr ⟨rfl, rfl⟩, fun b z => absurd z (noA b), e0.bs, e0.bsz, fun b _ _ => noA b, fun b z => absurd z (noA b), e0.funs, e0.frf⟩,
    rfl, e0.bare, Un.kept hk, ⟨_, ns, fun i y v h1 h2 h3 => ?_⟩, fun y c h => ?_, e0.hok.fresh (Nat.le_refl _), fun y c h => ?_, fun p hp => absurd (show p ∈ ([] : List (Addr × Obj)) from hp) (by simp), e0.hok.kept hk, ?_⟩
  · rw [(look1 h1).1, (look1 h2).1]
  · have hy : scope.names.lookup y = some .cell ∨ scope.names.lookup y = some .free := hy
    rcases hy with hy | hy
    · exact absurd rfl (S.nocell _ (PySem.mem_of_lookup hy))
    · have e := S.free _ (PySem.mem_of_lookup hy) rfl
      have e : y = "__class__" := e
      subst e
      exact ⟨cc, List.lookup_cons_self ..⟩
  · have hi : i < vs.length := by
      unfold L2.start at h2
      by_cases hi : i < vs.length
      · exact hi
      · rw [List.getElem?_append_right (by simpa using hi)] at h2
        rw [List.getElem?_replicate] at h2
        split at h2 <;> cases h2
    have ha : vs[i]? = some v := by
      unfold L2.start at h2
      rw [List.getElem?_append_left (by simpa using hi), List.getElem?_map] at h2
      cases e : vs[i]? with
      | none => rw [e] at h2; cases h2
      | some a => rw [e] at h2; cases h2; rfl
    obtain ⟨u, hu, rv⟩ := r.get ha
    have hp : ps[i]? = some y := by
      rw [← S.pre, List.getElem?_take_of_lt (by omega)]; exact h1
    have ndP : ps.Nodup := by rw [← S.pre]; exact S.nd.sublist (List.take_sublist _ _)
    exact ⟨u, rv, .inl ⟨S.par y (List.mem_of_getElem? hp), rev_get ndP hp hu⟩⟩
  · obtain ⟨_, e⟩ := look1 h
    subst e
    exact ⟨some (.ref D), oc, hk _ _ (e0.bs _ _ bcc).1, hoc⟩
  · obtain ⟨_, e⟩ := look1 h
    subst e
    exact (e0.bs _ _ bcc).2
  · unfold L2.start
    show _ = N.length
    rw [List.length_append, List.length_map, List.length_replicate]
    omega
end SupX
set_option Elab.async false
set_option linter.all false
set_option maxRecDepth 100000
set_option maxHeartbeats 4000000
namespace SupX
open PySem PySem.Spec PySem.W PySem.Calls PyProof.Rows L2
/-- what the written part says of an own exception class C whose __init__ says super().__init__(text) -/
structure SupC (P : Program) (K : PySem.W.Frag) (mg : Str → Option Value) (C : Addr) : Prop where
  oex : OexC K C
  init : ks_superIn K C C "__init__" = some (some (.builtin "ValueError.__init__"))
  sub : subIn K (.ref C) (.type "ValueError") = some true
  self : mroIn K C (.ref C) = some true
  opq : nsIn K cStatics "thirdparty.any" = some none
  mgs : mg "super" = none
  nosup : (P.main.scope.names.lookup ("super" : Str)).isSome = false
abbrev supCall (z : Str) (j : Nat) (p0 p1 p2 p3 p4 : Pos) : Expr := .Call (.Attribute (.Call (.Name "super" p0) [] [] p1) "__init__" p2) [.Constant (.str z) j p3] [] p4
abbrev supStmt (z : Str) (j : Nat) (p0 p1 p2 p3 p4 p5 : Pos) : Stmt := .Expr (supCall z j p0 p1 p2 p3 p4) p5
theorem cls_data {h : Heap} {K : PySem.W.Frag} {C : Addr} {cd : ClassData} (X : K.In h) (e : clsIn K C = some cd) : ∃ oD, h.get? C = some oD ∧ oD.data = .cls cd := by
  unfold clsIn at e
  split at e
  · rename_i c d cd' sl ho
    cases e
    exact ⟨_, X _ _ ho, rfl⟩
  · cases e
section
variable {CX : CXT} {P : Program} {w : World} {K : PySem.W.Frag} {mg : Str → Option Value} {base : Heap} {k : Nat} {f cc cda C : Addr} {name qual z : Str} {params : Arguments} {rest : List Stmt} {scope : Scope} {dV kV doc pm ct oc cl ccl : Value} {an od cld cdd : Option Addr}
  {osl csl ccs : Array (Option Value)} {N ps : List Str} {sp : Sp} {j : Nat} {p0 p1 p2 p3 p4 p5 : Pos} {ar : Arg} {cvs : Array Value} {tf : Tok}
theorem fn_sup (lk : K.lookup f = some ⟨oc, od, .func (fnX name qual params (supStmt z j p0 p1 p2 p3 p4 p5 :: rest) scope [("__class__", cc)] dV kV doc pm an (.ref cda) ct), osl⟩) (hcd : codeIn K (.ref cda) qual = true)
    (hcode : K.lookup cda = some ⟨ccl, cdd, .fields cvs, ccs⟩) (hvs : cvs[2]? = some (.str P.main.file tf)) (hcell : K.lookup cc = some ⟨cl, cld, .cell (some (.ref C)), csl⟩) (T : SupC P K mg C)
    (hev : ∀ L : Addr, ∃ pl : Sem Bool, eval (supCall z j p0 p1 p2 p3 p4) (envX qual scope L f (.ref cda) [("__class__", cc)]) = (do
      let ov ← attributeBase (.Call (.Name "super" p0) [] [] p1) "__init__" (envX qual scope L f (.ref cda) [("__class__", cc)]) (eval (.Call (.Name "super" p0) [] [] p1) (envX qual scope L f (.ref cda) [("__class__", cc)]))
      standAt p2.atName
      let (g, first) ← holding [ov] (getMethod ov "__init__" pl)
      callWith p4 g first (backTo p4 (starEach [Expr.Constant (.str z) j p3] (envX qual scope L f (.ref cda) [("__class__", cc)]))) []))
    (hsw : ∀ L : Addr, swapsWith (supCall z j p0 p1 p2 p3 p4) none p5.line (envX qual scope L f (.ref cda) [("__class__", cc)]) = pure false)
    (S : ScS N ps scope) (hp : (params.posonlyargs ++ params.args).head? = some ar) (har : ps[0]? = some ar.arg)
    (len : ∀ vs H Q E, sp vs H Q E → vs.length = ps.length ∧ ∃ a ws, vs = .ref a :: ws ∧ H a = some (exo a C none))
    (hbody : ∀ (A : Around) (outer : List Env) (s : Shared) (H : Hp) (vs : List V) (Q : VK) (E : XK), Room k (A.deeper (envX qual scope s.heap.objs.size f (.ref cda) [("__class__", cc)])) → sp vs H Q E →
      ∃ t, PSs (cxS CX P w K mg base N qual scope f (.ref cda) cc A outer s H E) rest t ∧ t { nx := fun _ H' => Q .non H', rt := Q } (L2.start N vs) H) :
    FnOk P w K mg base CX (k + 1) f (fnX name qual params (supStmt z j p0 p1 p2 p3 p4 p5 :: rest) scope [("__class__", cc)] dV kV doc pm an (.ref cda) ct) ps sp := by
  refine ⟨fun vs H Q E h => (len vs H Q E h).1, fun A outer s H args us vs Q E hr e0 hb r hsp => ?_⟩
  obtain ⟨hl, a, ws, hvs0, ha⟩ := len _ _ _ _ hsp
  have KX : K.In s.heap := e0.mod.kin.keeps fun b o e => (e0.bs b o e).1
  have lim : s.heap.NoLimit := e0.mod.nolimit.keeps fun b o e => (e0.bs b o e).1
  have hloc : ∀ y ∈ ps.zip us, scope.names.lookup y.1 = some .local := fun ⟨n, v⟩ hy => S.par n (List.of_mem_zip hy).1
  refine ks_codeAny_call_defAt hr.depth (KX _ _ lk) rfl lim (codeRec_of KX hcd) rfl hb S.nocell hloc (fun h0 hns hk => ?_) S.co S.gen S.kind
  obtain ⟨t, ht, hq⟩ := hbody A outer s H vs Q E (hr.deeper _) hsp
  have I : Inv (cxS CX P w K mg base N qual scope f (.ref cda) cc A outer s H E) [] (L2.start N vs) H { s with heap := h0, toks := s.toks + (ps.zip us).length } :=
    inv_startS S hr.hd e0 hl r hcell rfl hns hk
  -- the rest
  have fin : ∀ s1, Inv (cxS CX P w K mg base N qual scope f (.ref cda) cc A outer s H E) [] (L2.start N vs) H s1 →
      wpAny (model P w) (A.deeper (envX qual scope s.heap.objs.size f (.ref cda) [("__class__", cc)])) (execs rest (envX qual scope s.heap.objs.size f (.ref cda) [("__class__", cc)]))
        (fun fl s' => CR CX outer P w H s Q E (.ok (.ret (match fl with | .ret v => v | _ => .none))) s')
        (fun e s' => wpAny (model P w) (A.deeper (envX qual scope s.heap.objs.size f (.ref cda) [("__class__", cc)])) (leaving (envX qual scope s.heap.objs.size f (.ref cda) [("__class__", cc)]) e) (fun _ s'' => CX outer H s E e s'') (fun e' s'' => CX outer H s E e' s'') s') s1 := fun s1 I1 => by
    refine wpAny_mono (ht.run [] s1 (L2.start N vs) H _ I1 hq) (fun fl s' hs => ?_) fun e s' hs => hs
    have fin : ∀ {σ' : L2.St} {H' : Hp} {v : V} {u : Value}, Inv (cxS CX P w K mg base N qual scope f (.ref cda) cc A outer s H E) [] σ' H' s' → RelV v u → Q v H' → CE outer P w H s Q u s' :=
      fun {σ' H' v u} J rv q => ⟨v, H', J.os, J.bare, J.base, J.hok, rv, q⟩
    cases fl with
    | ret u =>
      obtain ⟨v, σ', H', J, rv, q⟩ := hs
      exact fin J rv q
    | next =>
      obtain ⟨σ', H', J, q⟩ := hs
      exact fin (v := V.non) (u := Value.none) J rfl q
    | brk =>
      obtain ⟨_, _, _, q⟩ := hs
      exact False.elim q
    | cont =>
      obtain ⟨_, _, _, q⟩ := hs
      exact False.elim q
  -- super().__init__(text)
  have us0 : ∃ ut, us = .ref a :: ut := by
    rw [hvs0] at r
    cases r with
    | cons r0 _ =>
      cases r0
      exact ⟨_, rfl⟩
  obtain ⟨ut, eus⟩ := us0
  have ndP : ps.Nodup := by rw [← S.pre]; exact S.nd.sublist (List.take_sublist _ _)
  have hvar : (ps.zip us).reverse.lookup ar.arg = some (.ref a) := rev_get ndP har (by rw [eus]; rfl)
  have hkar : scope.names.lookup ar.arg = some .local := S.par _ (List.mem_of_getElem? har)
  have X0 : K.In h0 := KX.keeps hk
  obtain ⟨t1, ho⟩ := exo_at I.hok ha
  obtain ⟨nm, q, NN, bs, bm, sn, sub, ab, col, dd, k0, k1, k2, k3, k5, hC, hbm⟩ := T.oex.cls
  have hcl : clsIn K C = some { name := nm, bases := bs, mro := .ref C :: bm, ns := NN, qualname := q, hasDict := true, slotNames := sn, subclasses := sub, abstract := ab, collection := col, hasDel := false } := by unfold clsIn; rw [hC] <;> rfl
  obtain ⟨oD, hD1, hD2⟩ := cls_data X0 hcl
  have IA : InstAt h0 a { cls := .ref C, dict := none, data := .fields #[.ref t1, .none, .none, .none, .bool false, .none] } C none := ⟨ho, rfl, rfl, trivial⟩
  show _root_.PySem.wpAt _ (A.deeper (envX qual scope s.heap.objs.size f (.ref cda) [("__class__", cc)])) (.func _ (envX qual scope s.heap.objs.size f (.ref cda) [("__class__", cc)])) (execs _ (envX qual scope s.heap.objs.size f (.ref cda) [("__class__", cc)])) _ _ _
  obtain ⟨pl, hev1⟩ := hev s.heap.objs.size
  refine ks_wpAt_execs_cons (ks_wpAt_Expr_any (ks_wpAt_MethodCall (pl := pl) ?_ hev1) (by simp [interactive, S.kind]) (hsw _))
  have hks : (envX qual scope s.heap.objs.size f (.ref cda) [("__class__", cc)]).kindOf "super" = some .globalImplicit := S.sup
  have hkc : (envX qual scope s.heap.objs.size f (.ref cda) [("__class__", cc)]).kindOf "__class__" = some .free := S.cls
  refine ks_wpAt_super_base hks hkc rfl rfl (X0 _ _ lk) rfl hp rfl (X0 _ _ hcode) rfl hvs (beq_self_eq_true _) T.nosup ?_
  obtain ⟨mb, b1, b2⟩ := e0.mod.blt
  have kb : ∀ b o, base.get? b = some o → h0.get? b = some o := fun b o e => hk b o (e0.bs b o e).1
  refine ks_loadName_global S.kind hks (loadGlobal_builtin (e0.mod.glob.keeps kb) T.mgs (b1.keeps kb) ((b2 "super" (by decide +kernel)).trans (by decide +kernel : bootBuiltins "super" = some (Value.type "super"))) ⟨rfl, ?_⟩)
  refine wpAny_loadName_free S.kind hkc (c := cc) (v := .ref C) (List.lookup_cons_self ..) ⟨_, X0 _ _ hcell, rfl⟩ ?_
  refine wpAny_loadName_local S.kind hkar hns hvar ?_
  refine ks_wpAny_isType_cls hD1 hD2 ⟨rfl, ?_⟩
  refine ks_wpAny_call_super hD1 hD2 IA.at_ IA.cls (fun c e => by cases e) (looks_mroIn X0 T.self) (fun h1 e1 kk1 => ?_)
  -- the method
  have X1 : K.In h1 := X0.keeps kk1
  have I1 : Inv (cxS CX P w K mg base N qual scope f (.ref cda) cc A outer s H E) [] (L2.start N vs) H { s with heap := h1, toks := s.toks + (ps.zip us).length } := I.kept kk1
  have IA1 : InstAt h1 a { cls := .ref C, dict := none, data := .fields #[.ref t1, .none, .none, .none, .bool false, .none] } C none := ⟨kk1 _ _ ho, rfl, rfl, trivial⟩
  have hI : Looks (model P w) h1 (isInstance (.ref a) (.type "ValueError")) true := IA1.type.andThen (looks_subIn X1 T.sub)
  have hm := T.init
  unfold ks_superIn at hm
  rw [hcl] at hm
  have neC : a ≠ C := fun e => by
    have z := X0 _ _ hC
    rw [← e, ho] at z
    cases z
  refine kxs_getMethod kxs_ValueError (l₀ := .ref C :: bm) e1 (looks_opaque X1 T.opq) ?_ rfl X1 hm hI neC rfl ?_
  · exact fun A Q E s k q => wpAny_bind ((looks_clsIn X1 hcl) A _ E s k (wpAny_pure q))
  have hu : (h1.push (kxs_mw "ValueError.__init__" a)).get? h1.objs.size = some (kxs_mw "ValueError.__init__" a) := Heap.get?_push_at rfl rfl
  have I2 : Inv (cxS CX P w K mg base N qual scope f (.ref cda) cc A outer s H E) [] (L2.start N vs) H { s with heap := h1.push (kxs_mw "ValueError.__init__" a), toks := s.toks + (ps.zip us).length + 1 } :=
    I1.kept fun b o e => Heap.get?_push_of_some _ e
  have f0 := I1.fpOk (Nat.le_refl _) (I1.hok.fresh (Nat.le_refl _))
  have I2' : Inv (cxS CX P w K mg base N qual scope f (.ref cda) cc A outer s H E) [(h1.objs.size, kxs_mw "ValueError.__init__" a)] (L2.start N vs) H { s with heap := h1.push (kxs_mw "ValueError.__init__" a), toks := s.toks + (ps.zip us).length + 1 } :=
    I2.pins_of fun p hp => by
      obtain rfl := List.mem_singleton.mp hp
      exact ⟨hu, f0.1, f0.2.1, f0.2.2.1, fun v e => by cases e⟩
  have he : starEach [Expr.Constant (.str z) j p3] (envX qual scope s.heap.objs.size f (.ref cda) [("__class__", cc)]) = (false, eval (Expr.Constant (.str z) j p3) (envX qual scope s.heap.objs.size f (.ref cda) [("__class__", cc)])) :: starEach [] (envX qual scope s.heap.objs.size f (.ref cda) [("__class__", cc)]) := rfl
  have pa : PA (cxS CX P w K mg base N qual scope f (.ref cda) cc A outer s H E) [Expr.Constant (.str z) j p3] (tCons (tC (.str z)) tNil) := pa_cons pe_str pa_nil
  have go := pa.run p4 _ _ _ _ (fun vs1 H1 => vs1 = [.str z] ∧ H1 = H) I2' ⟨rfl, rfl⟩
  have go' : wpAny (model P w) (A.deeper (envX qual scope s.heap.objs.size f (.ref cda) [("__class__", cc)])) (spliced (backTo p4 (starEach [Expr.Constant (.str z) j p3] (envX qual scope s.heap.objs.size f (.ref cda) [("__class__", cc)])))) _ _ _ := go
  dsimp only
  rw [he] at go' ⊢
  refine kxs_callWith (i := "ValueError.__init__") (u := h1.objs.size) (x := a) rfl (evalArgs_plain (wpAny_mono go' (fun rs s2 hh => ?_) fun e s' x => x))
  obtain ⟨vs1, H1, I3, r1, ev, eH⟩ := hh
  subst ev eH
  have hlen : rs.length ≤ sizeLine := by
    rw [← Paired.length r1, sizeLine_eq]
    exact (by decide : 1 ≤ 16777216)
  obtain ⟨t2, ho2⟩ := exo_at I3.hok ha
  have IU : s2.heap.get? h1.objs.size = some (kxs_mw "ValueError.__init__" a) := (I3.pin (h1.objs.size, kxs_mw "ValueError.__init__" a) (List.mem_append_right _ List.mem_cons_self)).1
  refine ⟨IU, ?_⟩
  obtain ⟨hh, g2, d2, tk2, os2⟩ := s2
  have hCn : hh.get? C = _ := I3.kIn _ _ hC
  show wpAny _ _ (call (.ref h1.objs.size) rs) _ _ _
  refine wpAny_call (codeAny_of_tree ?_)
  show wpAny _ _ (callAny (.ref h1.objs.size) ⟨rs, []⟩) _ _ _
  simp only [callAny]
  refine wpAny_bind (wpAny_load IU ?_)
  simp only [kxs_mw, show (Value.type "method-wrapper" == Value.type "method" || Value.type "method-wrapper" == Value.type "builtin_function_or_method" || Value.type "method-wrapper" == Value.type "method-wrapper") = true by decide, if_true]
  refine KFB.if_so (by decide) ?_
  refine wpAny_bind (check_bound_init F.excBase_ValueError.toExcCallFacts hCn ho2 rfl ?_)
  refine wpAny_bind (wpAny_pure (wpAny_pure ?_))
  refine ⟨plainId_quiet F.excBase_ValueError.init.plain _, codeAny_builtin F.excBase_ValueError.initEntry ?_⟩
  refine exc_init_tree (cls := .ref C) (t0 := t2) (dv := none) (c2 := .none) (c3 := .none) (b4 := .bool false) ho2 hlen fun h3 k3 e3 _ => ?_
  have J := I3.write (t' := tk2) (x := a) (e := a) (o := exo a C none) (h' := h3) (by rw [ha]; exact True.intro) (.inl rfl) k3 ⟨_, e3⟩ (exo_ok e3)
  have eu : upd H1 a (exo a C none) = H1 := by
    funext b
    by_cases hb : b = a
    · rw [hb, upd_same, ha]
    · rw [upd_ne hb]
  rw [eu] at J
  exact wpAt_of_wpAny (fin _ (J.unpinned (pins := [])))
end
end SupX
set_option Elab.async false
set_option linter.all false
set_option maxRecDepth 100000
set_option maxHeartbeats 4000000
namespace ErrX
open PySem PySem.Spec PyProof.Rows L2
/-- nothing is let out, seen from a def that may raise -/
theorem passN {X : Cx} : Passes (L2N.CX X.prog X.w) X E0 := fun _ _ _ _ _ _ _ h => by
  obtain ⟨_, _, _, _, _, _, _, _, _, _, _, _, z⟩ := h
  exact z.elim
theorem takesN {X : Cx} : L2N.Takes X (fun _ _ _ _ => False) := fun _ _ x => by
  obtain ⟨_, _, _, _, _, _, _, _, _, _, _, _, _, _, _, _, z⟩ := x
  exact z.elim
/-- C(e, ..), C's own __init__ keeping sp: the context of the made exception is None -/
theorem pmk_oexN {X : Cx} {CX : CXT} {x : Str} {e : Expr} {es : List Expr} {ta : TA} {p pos : Pos} {C fI : Addr} {k : Nat} {fd : FuncData} {ps : List Str} {sp : Sp} (T : OexC X.K C) (iC : PySem.W.findIn X.K (.ref C) "__init__" = some (some (.ref fI))) (tI : PySem.W.typeIn X.K (.ref fI) = some (.type "function"))
    (F1 : FnOk X.prog X.w X.K X.mg X.base CX k fI fd ps sp) (hr : Room (k + 1) X.A) (hb : Binds X.K fd ps []) (hx : Passes CX X (fun _ _ _ => False)) (hg : Gl X x) (hm : X.mg x = some (.ref C)) (ha : PA X (e :: es) ta)
    (hdb : (x == ("__debug__" : Str)) = false := by decide) (he : starEach (e :: es) X.env = (false, eval e X.env) :: starEach es X.env := by rfl) (hpl : (backTo pos (starEach es X.env)).any (·.1) = false := by rfl) :
    L2N.PMk X (.Call (.Name x p) (e :: es) [] pos) (tMkO C sp [] ta) := by
  intro pins s σ H Q I h
  obtain ⟨nm, q, N, bs, bm, sn, sub, ab, col, dd, k0, k1, k2, k3, k5, hC, hbm⟩ := T.cls
  refine wpAny_Call_Name_kw (ld_glob I hg hm ?_ hdb)
  refine PySem.W.callWith_K (h₀ := X.base) I.ok.mod.kin T.kC (thn (ha.run pos pins s σ H _ I h) fun us s1 ⟨vs, H1, I1, r1, hz, q1⟩ => ⟨I1.kIn, ?_⟩) he hpl
  show wpAny _ _ (call (.ref C) us) _ _ _
  obtain ⟨hp, g, dr, tk, os⟩ := s1
  have hsz : hp.objs.size ≤ hp.objs.size + 1 := Nat.le_succ _
  have hn : H1 (hp.objs.size + 1) = none := I1.hok.fresh hsz
  have hq := q1 (hp.objs.size + 1) hn
  rw [List.append_nil] at hq
  have kk : ∀ b o, hp.get? b = some o → ((hp.push (PySem.W.kdv_tup us)).push (PySem.HandSPX.excO C hp.objs.size)).get? b = some o := fun b o e => Heap.get?_push_of_some _ (Heap.get?_push_of_some _ e)
  have hget : ((hp.push (PySem.W.kdv_tup us)).push (PySem.HandSPX.excO C hp.objs.size)).get? (hp.objs.size + 1) = some (PySem.HandSPX.excO C hp.objs.size) := by heap_get
  have I2 : Inv X pins σ (upd H1 (hp.objs.size + 1) (exo (hp.objs.size + 1) C none)) ⟨(hp.push (PySem.W.kdv_tup us)).push (PySem.HandSPX.excO C hp.objs.size), g, dr, tk, os⟩ :=
    I1.laid (t' := tk) (a := hp.objs.size + 1) (o := exo (hp.objs.size + 1) C none) (h' := (hp.push (PySem.W.kdv_tup us)).push (PySem.HandSPX.excO C hp.objs.size)) kk hsz (exo_ok hget)
  have r2 : Vals (V.ref (hp.objs.size + 1) :: vs) (Value.ref (hp.objs.size + 1) :: us) := .cons rfl r1
  have hl : (Value.ref (hp.objs.size + 1) :: us ++ []).length = ps.length := by
    have e := r2.length
    rw [F1.len _ _ _ _ hq] at e
    rw [List.append_nil]
    exact e.symm
  have hus : us.length ≤ sizeLine := by
    rw [← Paired.length r1, sizeLine_eq]
    omega
  have b2 := hb _ (Value.ref (hp.objs.size + 1) :: us) I2.kIn hl
  rw [List.append_nil] at b2
  refine wpAny_call (PySem.HandSPX.call_own F.excBase_ValueError (fun Y => PySem.HandSPX.refsVE_contains Y bm hbm) (I1.kIn _ _ hC) (PySem.W.looks_findIn I1.kIn iC) (fun self => PySem.W.bind_fn I1.kIn self tI) hus
    (codeAny_mono (F1.run _ X.stack _ _ ⟨Value.ref (hp.objs.size + 1) :: us, []⟩ (Value.ref (hp.objs.size + 1) :: us) _ _ (fun _ _ _ => False) (hr.make C us []) (I2.env0.make C us []) b2 r2 hq) fun r s' hq' => ?_))
  cases r with
  | error er => exact hx pins σ _ _ er s' I2 hq'
  | ok fl =>
    cases fl with
    | ret u =>
      obtain ⟨v, H2, os2, bare2, un2, hok2, rv, ev, d, fs, ea, ed, hd1, q2⟩ := hq'
      subst ev
      obtain ⟨h2, g2, d2, t2, os'⟩ := s'
      obtain ⟨t0, G, J, kG, ge, hoe, na⟩ := mk_end0 (d2 := d2) (t2 := t2) I1 hsz kk un2 hok2 os2 bare2 ea ed hd1
      exact ⟨rv, ⟨hp.objs.size + 1, _, _, ⟨G, g2, d2, t2, os'⟩, _, .ref C, some d, rfl, J, kG, ge, hoe, ⟨rfl, rfl, fun vs hv => by cases hv; rfl⟩, rfl, rfl, na, rfl, bare2, raises_own T.exC T.tyC, q2⟩⟩
    | next => exact False.elim hq'
    | brk => exact False.elim hq'
    | cont => exact False.elim hq'
/-! ### o.m(e, ..), what is raised is wished for at the caller's slots -/
def tMethE (C : Addr) (m : Str) (sp : Sp) (E : L2.St → XK) (ta : TE) (t : TA) : TE := fun σ H Q => ta σ H fun x H1 => ∃ a dx fs, x = .ref a ∧ H1 a = some (.ins C dx fs) ∧ fs.lookup m = none ∧ t σ H1 fun vs H2 => sp (x :: vs) H2 Q (E σ)
section
variable {X : Cx} {CX : CXT} {k : Nat} {f C : Addr} {fd : FuncData} {ps : List Str} {sp : Sp} {E : L2.St → XK} {m : Str} {pos apos : Pos} {e o : Expr} {es : List Expr} {ta : TE} {t : TA}
theorem pe_methE {pl : Sem Bool} (he : PE X o ta) (c : Cls X.K C) (hm : Meth X.K C m f) (F : FnOk X.prog X.w X.K X.mg X.base CX k f fd ps sp) (hr : Room k X.A) (hb : Binds X.K fd ps []) (hx : ∀ σ, PassesAt CX X σ (E σ)) (ha : PA X (e :: es) t)
    (hst : starEach (e :: es) X.env = (false, eval e X.env) :: starEach es X.env := by rfl) (hpl : (backTo pos (starEach es X.env)).any (·.1) = false := by rfl)
    (ht : eval (.Call (.Attribute o m apos) (e :: es) [] pos) X.env = (do
      let ov ← eval o X.env
      standAt apos.atName
      let (f, first) ← holding [ov] (getMethod ov m pl)
      callWith pos f first (backTo pos (starEach (e :: es) X.env)) (backToKw pos (keywordEach [] X.env))) := by rfl) :
    PE X (.Call (.Attribute o m apos) (e :: es) [] pos) (tMethE C m sp E ta t) := by
  refine ⟨fun pins s σ H Q I h => ?_⟩
  refine PySem.W.methodCall_KW (pl := pl) (thn (he.run pins s σ H _ I h) fun u s1 ⟨x, H1, I1, rx, a, dx, fs, ex, ea, l, q⟩ => ?_) ht
  subst ex
  obtain rfl : u = Value.ref a := rx
  refine getmeth_ok I1 ea c hm l ?_
  refine PySem.W.callWith_K (first := [.ref a]) (h₀ := X.base) I.ok.mod.kin hm.kp (thn (ha.run pos pins s1 σ H1 _ I1 q) fun us s2 ⟨vs, H2, I2, r, q2⟩ => ⟨I2.kIn, ?_⟩) hst hpl
  exact run_fnS (us := .ref a :: us) (vs := .ref a :: vs) F hr hb (hx σ) I2 (.cons rfl r) q2
end
/-! ### defs called within an except suite, told which exception is handled -/
/-- the handled exception: its object p.2 at p.1, class, own dict -/
def HotZ (A : Around) (p : Addr × Obj) (cls : Value) (d : Option Addr) : Prop := A.handled = some (.ref p.1) ∧ L2N.Zn cls d p.2 ∧ ∃ vs : Array Value, p.2.data = .fields vs
theorem HotZ.hot {A : Around} {p : Addr × Obj} {cls : Value} {d : Option Addr} (h : HotZ A p cls d) : L2H.Hot1 A p := by
  obtain ⟨h1, ⟨_, _, h2⟩, vs, h3⟩ := h
  exact ⟨h1, vs, h3, h2 vs h3⟩
/-- a promise that may speak of the handled exception -/
abbrev SpE := Addr → Value → Option Addr → Sp
structure FnE (P : Program) (w : World) (K : PySem.W.Frag) (mg : Str → Option Value) (base : Heap) (CX : CXT) (k : Nat) (f : Addr) (fd : FuncData) (ps : List Str) (sp : SpE) : Prop where
  len : ∀ a c d vs H Q E, sp a c d vs H Q E → vs.length = ps.length
  run : ∀ (A : Around) (outer : List Env) (s : Shared) (H : Hp) (args : Args) (us : List Value) (vs : List V) (Q : VK) (E : XK) (p : Addr × Obj) (c : Value) (d : Option Addr), L2H.RoomH k A → HotZ A p c d → L2H.PinOk outer H s p → Env0 P w K mg base A outer s H → BindsTo s fd args (ps.zip us) → Vals vs us → sp p.1 c d vs H Q E →
    codeAny (model P w) A (.call (.ref f) args) (CR CX outer P w H s Q E) s
theorem fn_ofE {CX : CXT} {P : Program} {w : World} {K : PySem.W.Frag} {mg : Str → Option Value} {base : Heap} {k : Nat} {f : Addr} {name qual : Str} {params : Arguments} {body : List Stmt} {scope : Scope} {dvs : List V} {kws : List (Str × V)} {fd : FuncData} {N ps : List Str} {sp : SpE}
    (F : FunD K name qual params body scope dvs kws f fd) (S : FnScope N ps scope)
    (len : ∀ a c d vs H Q E, sp a c d vs H Q E → vs.length = ps.length)
    (hbody : ∀ (cdv : Value) (A : Around) (outer : List Env) (s : Shared) (H : Hp) (vs : List V) (Q : VK) (E : XK) (p : Addr × Obj) (c : Value) (d : Option Addr), HotZ A p c d → L2H.RoomH k (A.deeper (envOfC qual scope s.heap.objs.size f cdv)) → sp p.1 c d vs H Q E →
      ∃ t, PSs (L2H.cxH CX P w K mg base N qual scope f cdv A outer s H E p) body t ∧ t { nx := fun _ H' => Q .non H', rt := Q } (L2.start N vs) H) :
    FnE P w K mg base CX (k + 1) f fd ps sp := by
  obtain ⟨oc, od, dV, kV, doc, pm, an, cdv, ct, osl, rfl, lk, hcd, _, _⟩ := F.ex
  refine ⟨len, fun A outer s H args us vs Q E p c d hr hz hpin e0 hb r hsp => ?_⟩
  have hot := hz.hot
  have hl := len _ _ _ _ _ _ _ hsp
  have KX : K.In s.heap := e0.mod.kin.keeps fun b o e => (e0.bs b o e).1
  have lim : s.heap.NoLimit := e0.mod.nolimit.keeps fun b o e => (e0.bs b o e).1
  have hkind : ∀ y ∈ ps.zip us, scope.names.lookup y.1 = some .local ∨ (scope.names.lookup y.1 = some .cell ∧ ((cellsFrom (s.heap.objs.size + 1) scope.names []).lookup y.1).isSome = true) := fun ⟨n, v⟩ hy => by
    rcases S.par n (List.of_mem_zip hy).1 with q | q
    · exact .inl q
    · exact .inr ⟨q, PySem.W.cellsFrom_some _ _ _ (.inl q)⟩
  refine codeAny_call_function hr.depth (KX _ _ lk) rfl S.co S.gen rfl (PySem.W.codeRec_of KX hcd) (hb _ _ _ _ ?_)
  refine wpAny_newFunctionEnv_cells S.kind hkind fun env he s1 x => ?_
  subst he
  refine ⟨lim.keeps x.toInCall.keep, codeAny_func ?_⟩
  obtain ⟨t, ht, hq⟩ := hbody cdv A outer s H vs Q E p c d hz (hr.deeper _) hsp
  have I : Inv (L2H.cxH CX P w K mg base N qual scope f cdv A outer s H E p) [] (L2.start N vs) H s1 := L2H.inv_startH S hpin e0 hl r x
  refine wpAny_mono (ht.run [] s1 (L2.start N vs) H _ I hq) (fun fl s' hs => ?_) fun e s' hs => hs
  have fin : ∀ {σ' : L2.St} {H' : Hp} {v : V} {u : Value}, Inv (L2H.cxH CX P w K mg base N qual scope f cdv A outer s H E p) [] σ' H' s' → RelV v u → Q v H' → CE outer P w H s Q u s' :=
    fun {σ' H' v u} J rv q => ⟨v, H', J.os, J.bare, J.base, J.hok, rv, q⟩
  cases fl with
  | ret u =>
    obtain ⟨v, σ', H', J, rv, q⟩ := hs
    exact fin J rv q
  | next =>
    obtain ⟨σ', H', J, q⟩ := hs
    exact fin (v := V.non) (u := Value.none) J rfl q
  | brk =>
    obtain ⟨_, _, _, q⟩ := hs
    exact False.elim q
  | cont =>
    obtain ⟨_, _, _, q⟩ := hs
    exact False.elim q
/-- the context bears the handled exception -/
def HotE (X : Cx) (a : Addr) (c : Value) (d : Option Addr) : Prop := ∃ p : Addr × Obj, p.1 = a ∧ HotZ X.A p c d ∧ p ∈ X.pn
theorem hotE_suite {X : Cx} {a : Addr} {oe : Obj} {cls : Value} {d : Option Addr} {pn : List (Addr × Obj)} (hz : L2N.Zn cls d oe) (hf : ∃ vs, oe.data = .fields vs) : HotE (X.suite a ((a, oe) :: pn)) a cls d := ⟨(a, oe), rfl, ⟨rfl, hz, hf⟩, List.mem_cons_self⟩
def tCallE (sp : SpE) (a : Addr) (c : Value) (d : Option Addr) (E : L2.St → XK) (t : TA) : TE := fun σ H Q => t σ H fun vs H1 => sp a c d vs H1 Q (E σ)
section
variable {X : Cx} {CX : CXT} {k : Nat} {f C a : Addr} {c : Value} {d : Option Addr} {fd : FuncData} {ps : List Str} {sp : SpE} {E : L2.St → XK} {x m : Str} {q pos apos : Pos} {e o : Expr} {es : List Expr} {ta : TE} {t : TA}
theorem run_fnE {pins : List (Addr × Obj)} {σ : L2.St} {H : Hp} {s : Shared} {Q : VK} {us : List Value} {vs : List V} (F : FnE X.prog X.w X.K X.mg X.base CX k f fd ps sp) (hr : L2H.RoomH k X.A) (hc : HotE X a c d) (hb : Binds X.K fd ps []) (hx : PassesAt CX X σ (E σ))
    (I : Inv X pins σ H s) (r : Vals vs us) (h : sp a c d vs H Q (E σ)) : wpAny (model X.prog X.w) X.A (call (.ref f) us) (EP X pins σ Q) X.xe s := by
  obtain ⟨p, rfl, hot, hp⟩ := hc
  have hl : us.length = ps.length := by rw [← r.length]; exact F.len _ _ _ _ _ _ _ h
  have b := hb s us I.kIn (by rw [List.append_nil]; exact hl)
  rw [List.append_nil] at b
  have P1 := I.pin p (List.mem_append_left _ hp)
  have hpin : L2H.PinOk X.stack H s p := ⟨P1.1, P1.2.1, fun hm => (List.mem_cons.mp (I.stkSub p.1 hm)).elim P1.2.2.1 P1.2.2.2.1, P1.2.2.2.2⟩
  refine wpAny_call (codeAny_mono (F.run X.A X.stack s H ⟨us, []⟩ us vs Q (E σ) p c d hr hot hpin I.env0 b r h) fun r s' hq => ?_)
  cases r with
  | error e => exact hx pins H s e s' I hq
  | ok fl =>
    cases fl with
    | ret u => exact I.after hq
    | next => exact False.elim hq
    | brk => exact False.elim hq
    | cont => exact False.elim hq
theorem pe_callE (F : FnE X.prog X.w X.K X.mg X.base CX k f fd ps sp) (hr : L2H.RoomH k X.A) (hc : HotE X a c d) (hg : Gl X x) (hm : X.mg x = some (.ref f)) (hk : PySem.W.keepIn X.K (.ref f) = true) (hb : Binds X.K fd ps []) (hx : ∀ σ, PassesAt CX X σ (E σ))
    (ha : PA X (e :: es) t) (hdb : (x == ("__debug__" : Str)) = false := by decide) (he : starEach (e :: es) X.env = (false, eval e X.env) :: starEach es X.env := by rfl) (hpl : (backTo pos (starEach es X.env)).any (·.1) = false := by rfl) :
    PE X (.Call (.Name x q) (e :: es) [] pos) (tCallE sp a c d E t) := by
  refine ⟨fun pins s σ H Q I h => ?_⟩
  refine wpAny_Call_Name_kw (ld_glob I hg hm ?_ hdb)
  refine PySem.W.callWith_K (h₀ := X.base) I.ok.mod.kin hk (thn (ha.run pos pins s σ H _ I h) fun us s1 ⟨vs, H1, I1, r, q⟩ => ⟨I1.kIn, ?_⟩) he hpl
  exact run_fnE F hr hc hb (hx σ) I1 r q
end
/-! ### isinstance of the handled exception, its fields -/
section
open PySem.W PySem.Calls
variable {prog : Program} {w : World} {A : Around} {E : Value → Shared → Prop} {s : Shared} {K : Frag} {x D : Addr} {ox : Obj} {od : Obj}
theorem kin_classD {Q : Option Value → Shared → Prop} (C : ExcC K D) (X : K.In s.heap) (I : InstAt s.heap x ox D (some od)) (h : Q (some (.ref D)) { s with toks := s.toks + 1 }) : wpAny (model prog w) A (getAttr? (.ref x) "__class__") Q E s := by
  have hga := C.hg
  have hgt := C.hk
  have hsub := C.hs
  have hdct := C.hd
  have ha := C.ha
  have hn := C.hn
  have htk := C.ht
  have hm := C.hm
  have hf : findObj K D (some od) "__class__" = some (.bind (.builtin "getset_descriptor.__get__") (.builtin "object.__class__")) := findObj_data (by obtain ⟨cd, hc, _⟩ := any_some hdct; rw [hc]; rfl) ha hn htk
  obtain ⟨hp, g, d, t, os⟩ := s
  have L0 := I.type (M := model prog w)
  have L1 := looks_findIn (M := model prog w) X hga
  have L2 := looks_findIn (M := model prog w) X hgt
  have L3 := looks_find (M := model prog w) X I hf
  have sub : Looks (model prog w) hp (isInstance (.ref x) (.type "BaseException")) true := L0.andThen (looks_subIn X hsub)
  have hx0 : (false && onTheHeap (Value.builtin "BaseException.__getattribute__")) = false := rfl
  have hx2 : (Value.builtin "BaseException.__getattribute__" == Value.builtin "object.__getattribute__") = false := by decide +kernel
  have hx1 : (onTheHeap (Value.ref D) && Value.builtin "BaseException.__getattribute__" == Value.builtin "object.__getattribute__") = false := by rw [hx2]; rfl
  unfold getAttr? getAttrBy? getAttrBy
  refine wpAny_bind (wpAny_mkText (wpAny_bind (wpAny_attempt (wpAny_holding (wpAny_bind (L0.at (wpAny_bind (L1.at ?_))))))))
  show wpAny _ _ (if (onTheHeap (Value.ref D) && Value.builtin "BaseException.__getattribute__" == Value.builtin "object.__getattribute__") = true then _ else _) _ _ _
  rw [hx1, if_neg Bool.false_ne_true]
  unfold getAttrByItsOwn hookBefore
  refine wpAny_bind ?_
  rw [if_pos (show onTheHeap (Value.ref D) = true from rfl)]
  refine L2.at ?_
  refine wpAny_bind (wpAny_attempt (wpAny_holding ?_))
  unfold callGetattribute
  rw [hx0, if_neg Bool.false_ne_true]
  unfold boundAndCalled
  rw [PySem.F.excAttr_ValueError.ga.bind (.ref x)]
  refine wpAny_bind (wpAny_pure ?_)
  show wpAny _ _ (call (.builtin "BaseException.__getattribute__") [.ref x, .str "__class__" t]) _ _ _
  refine wpAny_call (codeAny_call_builtin PySem.F.excAttr_ValueError.ga.plain PySem.F.entry_bexc_ga ?_)
  refine @check_slot (model prog w) _ _ ⟨hp, g, d, t + 1, os⟩ "BaseException.__getattribute__" "BaseException" "__getattribute__" (.ref x) [.str "__class__" t] [] _ (by decide +kernel) (by decide +kernel) sub (PySem.F.args_bexc_ga (.ref x) (.str "__class__" t)) ?_
  unfold Builtin.«object.__getattribute__»
  refine wpAny_bind (wpAny_of_eq (a := ((Value.ref x : Value), [Value.str "__class__" t])) (by first | rfl | (simp only [slotArgs]; rfl)) ?_)
  refine wpAny_bind (wpAny_pure (wpAny_bind (L0.at (wpAny_bind (L3.at ?_)))))
  show wpAny _ _ (holding [Value.builtin "object.__class__"] (call (.builtin "getset_descriptor.__get__") [.builtin "object.__class__", .ref x, .ref D]) >>= ret) _ _ _
  refine wpAny_bind (wpAny_holding (wpAny_call (class_get (s := ⟨hp, g, d, t + 1, os⟩) (ox := ox) (od := some od) X I hm ?_)))
  refine wpAny_pure ?_
  show wpAny _ _ (handedOut (.ref D)) _ _ _
  rw [handedOut_of (v := .ref D) rfl]
  first
    | exact wpAny_pure (wpAny_pure h)
    | exact wpAny_pure h
    | exact wpAny_pure (wpAny_bind (wpAny_pure (wpAny_pure h)))
theorem kitx_excD (C : ExcC K D) : KitX K (.ref x) (.ref D) (fun h => InstAt h x ox D (some od)) where
  ty := fun _ _ _ I => I.type
  it := fun _ _ X _ => by
    obtain ⟨cdD, hcD, _⟩ := any_some C.hd
    unfold clsIn at hcD
    split at hcD
    · rename_i c' d' cd' sl' ho
      intro A' Q' E' s' k q
      unfold isType loadHead
      exact wpAny_bind (wpAny_loadPart (k _ _ (X _ _ ho)) (wpAny_pure q))
    · cases hcD
  ne := fun h tp dd its n sl X htp => by
    obtain ⟨cdD, hcD, _⟩ := any_some C.hd
    refine Bool.eq_false_iff.mpr fun q => ?_
    have e : D = tp := Value.ref.inj (beq_iff_eq.mp q)
    subst e
    unfold clsIn at hcD
    split at hcD
    · rename_i c' d' cd' sl' ho
      have z := (X _ _ ho).symm.trans htp
      cases z
    · cases hcD
  ca := fun X I k => kin_classD C X I k
end
end ErrX
set_option Elab.async false
set_option linter.all false
set_option maxRecDepth 100000
set_option maxHeartbeats 4000000
namespace ErrX
open PySem PySem.Spec PyProof.Rows L2
section
variable {X : Cx} {a D dd : Addr}
theorem inst_hot {pins : List (Addr × Obj)} {σ : L2.St} {H : Hp} {s : Shared} {fs : List (Str × V)} (hc : HotE X a (.ref D) (some dd)) (I : Inv X pins σ H s) (hd : H dd = some (.xd fs)) :
    ∃ (oe od : Obj) (mA : Str → Option Value), PySem.W.InstAt s.heap a oe D (some od) ∧ (∀ name, PySem.W.lookIn name od = some (mA name)) ∧ ∀ f, RelO (fs.lookup f) (mA f) := by
  obtain ⟨p, rfl, ⟨_, ⟨z1, z2, _⟩, vs, hv⟩, hp⟩ := hc
  obtain ⟨hget, _⟩ := I.pin p (List.mem_append_left _ hp)
  have hx : ObjOk X.prog X.w H s.heap dd (.xd fs) := I.hok dd _ hd
  obtain ⟨mA, hns, hr⟩ := hx
  obtain ⟨od, ho, hl⟩ := lookIn_ns hns
  exact ⟨p.2, od, mA, ⟨hget, z1, by unfold PySem.W.notCls; rw [hv] <;> rfl, by rw [z2]; exact ho⟩, hl, hr⟩
/-- isinstance(e, c), e the handled exception, its own dict at dd -/
def rIsD (K : PySem.W.Frag) (D a dd : Addr) : List V → Hp → VK → Prop := fun xs H Q => ∃ (c : V) (cv : Value) (b : Bool) (fs : List (Str × V)), xs = [.ref a, c] ∧ ClsV c cv ∧ H dd = some (.xd fs) ∧ PySem.W.kitOne K (.ref D) cv = some b ∧ Q (.bl b) H
theorem call_isD (C : ExcC X.K D) (hc : HotE X a (.ref D) (some dd)) : CallR X (.builtin "isinstance") (rIsD X.K D a dd) := by
  intro pins s σ H xs us Q I r h
  obtain ⟨c, cv, b, fs, rfl, hcv, hd, e, q⟩ := h
  obtain ⟨u1, u2, rfl, r1, r2⟩ := vals2 r
  have e2 := hcv.eq r2
  subst e2
  obtain rfl : u1 = Value.ref a := r1
  obtain ⟨oe, od, mA, J, _, _⟩ := inst_hot hc I hd
  exact PySem.W.kia_one (kitx_excD C) I.kIn J e (fun z => nomatch z) fun tk => ⟨.bl b, H, I.kept (t' := tk) fun _ _ z => z, rfl, q⟩
/-- e.f, a field of the handled exception -/
def tFldD (a dd : Addr) (f : Str) (te : TE) : TE := fun σ H Q => te σ H fun x H1 => x = .ref a ∧ ∃ (fs : List (Str × V)) (v : V), H1 dd = some (.xd fs) ∧ fs.lookup f = some v ∧ Q v H1
theorem pe_fldD {e : Expr} {te : TE} {f : Str} {pos : Pos} (C : ExcC X.K D) (hno : PySem.W.findIn X.K (.ref D) f = some none) (hc : HotE X a (.ref D) (some dd)) (he : PE X e te)
    (hb : attributeBase e f X.env (eval e X.env) = eval e X.env := by rfl) : PE X (.Attribute e f pos) (tFldD a dd f te) := by
  refine ⟨fun pins s σ H Q I h => ?_⟩
  refine attr_of hb (thn (he.run pins s σ H _ I h) fun u s1 hh => ?_)
  obtain ⟨x, H1, I1, rx, ex, fs, v, hd, hl, q⟩ := hh
  subst ex
  obtain rfl : u = Value.ref a := rx
  obtain ⟨oe, od, mA, J, hlo, hr⟩ := inst_hot hc I1 hd
  obtain ⟨u, hu, ru⟩ := RelO.some_of (v := v) (o := mA f) (by rw [← hl]; exact hr f)
  exact HandSPX.exc_get I1.kIn J C.hg C.hk C.hs (PySem.W.findObj_own C.hd hno rfl (by rw [hlo, hu])) (handed_of ru) ⟨v, H1, I1.tok _, ru, q⟩
end
/-! ### bools counted -/
def eqb (k : Bool) (v : Value) : Bool := match v with
  | .bool n => n == k
  | _ => false
theorem vals_bools : ∀ {bs : List Bool} {us : List Value}, Vals (bs.map V.bl) us → us = bs.map Value.bool
  | [], _, .nil => rfl
  | b :: bs, _, .cons r t => by
    have e1 := vals_bools t
    rw [e1, show _ = Value.bool b from r]
    rfl
theorem eqb_count {k : Bool} : ∀ bs : List Bool, (bs.map Value.bool).countP (eqb k) = bs.count k
  | [] => rfl
  | b :: bs => by
    rw [List.map_cons, List.countP_cons, List.count_cons, eqb_count bs] <;> rfl
def rCntB (K : PySem.W.Frag) : V → List V → Hp → VK → Prop := fun x xs H Q => ∃ (p : Addr) (bs : List Bool) (k : Bool), x = .ref p ∧ xs = [.bl k] ∧ SqL K H p (bs.map V.bl) ∧ Q (.int (bs.count k : Nat)) H
theorem mt_lcountB {X : Cx} : MtR X "list.count" (rCntB X.K) := by
  intro pins s σ H x xs v us Q I rx rxs h
  obtain ⟨p, bs, k, rfl, rfl, hs, q⟩ := h
  cases rx
  obtain ⟨u, rfl, ru⟩ := rxs.one
  obtain rfl : u = Value.bool k := ru
  obtain ⟨its, rv, ⟨⟨cls, dd, data, sl⟩, n, ho, hc, hdn, hd⟩, hlen⟩ := I.list hs
  simp only at hc hd
  subst hc hd
  have hi := vals_bools rv
  refine call_meets PySem.F.slot_list_count ⟨_, ho, rfl⟩ PySem.F.entry_list_count (PySem.F.args_list_count_2 _ _)
    (SeqAt.list_countAt p its.toArray n dd sl (.bool k) (eqb k)) ⟨ho, fun y hy => ?_, ?_⟩
  · have hy' : y ∈ its := by simpa using hy
    rw [hi] at hy'
    obtain ⟨b, _, rfl⟩ := List.mem_map.mp hy'
    exact SeqAt.EqAt.bool_bool b k
  · have ec : its.toArray.toList.countP (eqb k) = bs.count k := by
      show its.countP (eqb k) = _
      rw [hi]
      exact eqb_count bs
    refine ⟨.int (bs.count k : Nat), H, I.tok _, ⟨s.toks, ?_⟩, q⟩
    show Value.int ((its.toArray.toList.countP (eqb k) : Nat) : Int) s.toks = Value.int ((bs.count k : Nat) : Int) s.toks
    rw [ec]
/-! ### the __init__ that keeps its argument in one field -/
/-- __init__(self, v): super().__init__(..); self.f = v -/
def spI (C : Addr) (f : Str) : Sp := fun vs H Q _ => ∃ (a : Addr) (x : Int), vs = [.ref a, .int x] ∧ H a = some (exo a C none) ∧ ∀ dx, H dx = none → dx ≠ a → Q .non (upd (upd H dx (exd dx [(f, .int x)])) a (exo a C (some dx)))
/-- C(e): the exception, its own dict at d the one field -/
def tMk1 (C : Addr) (f : Str) (ta : TA) : L2.St → Hp → XK → Prop := fun σ H Q => ta σ H fun vs H1 => ∃ x : Int, vs = [.int x] ∧ ∀ d, H1 d = none → Q (.ref C) (some d) (upd H1 d (.xd [(f, .int x)]))
theorem mk1_heap {H : Hp} {a C d : Addr} {f : Str} {v : V} {o : HO} (ha : H a = none) (hd : d ≠ a) : upd (del (upd (upd (upd H a (exo a C none)) d (exd d [(f, v)])) a (exo a C (some d))) a) d o = upd H d o := by
  funext b
  by_cases hb : b = d
  · subst hb
    rw [upd_same, upd_same]
  · rw [upd_ne hb, upd_ne hb]
    by_cases hba : b = a
    · subst hba
      rw [del_same, ha]
    · rw [del_ne hba, upd_ne hba, upd_ne hb, upd_ne hba]
/-- arguments, what follows weakened -/
def taW (ta : TA) : TA := fun σ H Q => ∃ Q1 : List V → Hp → Prop, ta σ H Q1 ∧ ∀ vs H1, Q1 vs H1 → Q vs H1
theorem taW_ok {X : Cx} {es : List Expr} {ta : TA} (h : PA X es ta) : PA X es (taW ta) := by
  refine ⟨fun pos pins s σ H Q I hq => ?_⟩
  obtain ⟨Q1, h1, h2⟩ := hq
  refine wpAny_mono (h.run pos pins s σ H Q1 I h1) (fun us s1 hh => ?_) fun _ _ z => z
  obtain ⟨vs, H1, I1, r1, q1⟩ := hh
  exact ⟨vs, H1, I1, r1, h2 _ _ q1⟩
theorem pmk_err1 {X : Cx} {CX : CXT} {x f : Str} {e : Expr} {ta : TA} {p pos : Pos} {C fI : Addr} {k : Nat} {fd : FuncData} {ps : List Str} (T : OexC X.K C) (iC : PySem.W.findIn X.K (.ref C) "__init__" = some (some (.ref fI))) (tI : PySem.W.typeIn X.K (.ref fI) = some (.type "function"))
    (F1 : FnOk X.prog X.w X.K X.mg X.base CX k fI fd ps (spI C f)) (hr : Room (k + 1) X.A) (hb : Binds X.K fd ps []) (hx : Passes CX X (fun _ _ _ => False)) (hg : Gl X x) (hm : X.mg x = some (.ref C)) (ha : PA X [e] ta)
    (hdb : (x == ("__debug__" : Str)) = false := by decide) (he : starEach [e] X.env = (false, eval e X.env) :: starEach [] X.env := by rfl) (hpl : (backTo pos (starEach [] X.env)).any (·.1) = false := by rfl) :
    L2N.PMk X (.Call (.Name x p) [e] [] pos) (tMk1 C f ta) := by
  intro pins s σ H Q I h
  refine pmk_oexN T iC tI F1 hr hb hx hg hm (taW_ok ha) hdb he hpl pins s σ H Q I ⟨_, h, ?_⟩
  rintro vs H1 ⟨x, rfl, q⟩
  refine ⟨(by show 1 ≤ 1000; decide), fun a hn => ⟨a, x, rfl, upd_same, fun dx hdx ne => ⟨rfl, dx, [(f, .int x)], upd_same, ?_, ?_, ?_⟩⟩⟩
  · rw [upd_ne ne, upd_same]
  · rw [upd_ne ne] at hdx
    exact hdx
  · have hd1 : H1 dx = none := by
      rw [upd_ne ne] at hdx
      exact hdx
    have e := mk1_heap (H := H1) (C := C) (f := f) (v := .int x) (o := .xd [(f, .int x)]) hn ne
    rw [e]
    exact q dx hd1
end ErrX
set_option Elab.async false
set_option linter.all false
set_option maxRecDepth 100000
set_option maxHeartbeats 4000000
/-! What the run of the top is asked here: defs, facts of classes, own errors, classes of instances. -/
namespace Hk
open PySem PySem.W L2 SupX ErrX
/-! ### own errors -/
def sixB : List (Option Value) → Bool
  | [_, _, _, _, some (.builtin n), _] => n == "ValueError.__new__"
  | _ => false
theorem sixB_ok {l : List (Option Value)} (h : sixB l = true) : ∃ k0 k1 k2 k3 k5, l = [k0, k1, k2, k3, some (.builtin "ValueError.__new__"), k5] := by
  unfold sixB at h
  split at h
  · rename_i k0 k1 k2 k3 n k5
    have e : n = "ValueError.__new__" := by simpa using h
    subst e
    exact ⟨k0, k1, k2, k3, k5, rfl⟩
  · cases h
def excB (K : Frag) (C : Addr) : Bool := match K.lookup C with
  | some ⟨.type t, _, .cls cd, sl⟩ => (t == "type" && (cd.hasDict && !cd.hasDel)) && ((match cd.mro with
    | .ref C' :: bm => C' == C && HandSPX.refsVE bm
    | _ => false) && sixB sl.toList)
  | _ => false
theorem excB_ok {K : Frag} {C : Addr} (h : excB K C = true) : ∃ nm q N bs bm sn sub ab col dd k0 k1 k2 k3 k5, K.lookup C = some (excClassObj nm q C N bs bm true sn sub ab col dd k0 k1 k2 k3 k5 "ValueError.__new__") ∧ HandSPX.refsVE bm = true := by
  unfold excB at h
  split at h
  · rename_i t dd cd sl e
    obtain ⟨nm, bs, mro, ns, qn, hd, sn, sub, ab, col, del⟩ := cd
    simp only [Bool.and_eq_true, beq_iff_eq, Bool.not_eq_true'] at h
    obtain ⟨⟨h1, h2, h3⟩, h4, h5⟩ := h
    subst h1 h2 h3
    cases mro with
    | nil => cases h4
    | cons v bm =>
      cases v with
      | ref C' =>
        have h4' : (C' == C && HandSPX.refsVE bm) = true := h4
        simp only [Bool.and_eq_true, beq_iff_eq] at h4'
        obtain ⟨h6, h7⟩ := h4'
        subst h6
        obtain ⟨l⟩ := sl
        clear h4
        have hl := sixB_ok h5
        obtain ⟨k0, k1, k2, k3, k5, hl⟩ := hl
        have hl' : l = _ := hl
        subst hl'
        exact ⟨nm, qn, ns, bs, bm, sn, sub, ab, col, dd, k0, k1, k2, k3, k5, e, h7⟩
      | _ => cases h4
  · cases h
def cellB (K : Frag) (c C : Addr) : Bool := match K.lookup c with
  | some ⟨_, _, .cell (some (.ref D)), _⟩ => decide (D = C)
  | _ => false
theorem cellB_ok {K : Frag} {c C : Addr} (h : cellB K c C = true) : ∃ cl cld csl, K.lookup c = some ⟨cl, cld, .cell (some (.ref C)), csl⟩ := by
  unfold cellB at h
  split at h
  · rename_i cl cld D csl e
    have e2 := of_decide_eq_true h
    subst e2
    exact ⟨_, _, _, e⟩
  · cases h
def codeB (K : Frag) (file : Str) (v : Value) : Bool := match v with
  | .ref c => (match K.lookup c with
    | some ⟨_, _, .fields vs, _⟩ => (match (vs[2]? : Option Value) with
      | some (Value.str f _) => decide (f = file)
      | _ => false)
    | _ => false)
  | _ => false
theorem codeB_ok {K : Frag} {file : Str} {v : Value} (h : codeB K file v = true) : ∃ c cl cld vs csl tf, v = .ref c ∧ K.lookup c = some ⟨cl, cld, .fields vs, csl⟩ ∧ vs[2]? = some (.str file tf) := by
  unfold codeB at h
  split at h
  · rename_i c
    split at h
    · rename_i cl cld vs csl e
      split at h
      · rename_i f tf e2
        have e3 := of_decide_eq_true h
        subst e3
        exact ⟨c, _, _, vs, _, tf, rfl, e, e2⟩
      · cases h
    · cases h
  · cases h
/-- an own error: its name and its __init__ as the text has it -/
structure ErrD where
  x : Str
  st : Stmt
abbrev ErW : Type := Option (Str × Str × Arguments × FuncBody × Scope × Addr × List Str × Addr)
def ErrD.qual (d : ErrD) : Str := d.x ++ ".__init__"
def ErrD.at_ (d : ErrD) (K : Frag) : Addr := He.ma K (He.ga K d.x) "__init__"
def ErrD.see (d : ErrD) (K : Frag) : ErW := match K.lookup (d.at_ K) with
  | some ⟨_, _, .func fd, _⟩ => some (fd.name, fd.qualname, fd.params, fd.body, fd.scope, fd.globals, fd.closure.map (·.1), fd.builtins)
  | _ => none
def ErrD.val (d : ErrD) : ErW := some ("__init__", d.qual, defArgs d.st, .stmts (defBody d.st), defScope d.st, mainGlobals, ["__class__"], builtinsNs)
def ErrD.ok (d : ErrD) (file : Str) (K : Frag) : Bool := (match K.lookup (d.at_ K) with
    | some ⟨_, _, .func fd, _⟩ => codeIn K fd.code d.qual && (codeB K file fd.code && fd.closure.all fun q => cellB K q.2 (He.ga K d.x))
    | _ => false) && (excB K (He.ga K d.x) && (He.eqO (findIn K (.ref (He.ga K d.x)) "__setattr__") (some (some (.builtin "object.__setattr__"))) && (decide (subIn K (.ref (He.ga K d.x)) (.type "BaseException") = some true) && (decide (typeIn K (.ref (He.ga K d.x)) = some (.type "type")) &&
    (keepIn K (.ref (He.ga K d.x)) && (He.eqO (findIn K (.ref (He.ga K d.x)) "__init__") (some (some (.ref (d.at_ K)))) && (decide (typeIn K (.ref (d.at_ K)) = some (.type "function")) && (He.eqO (ks_superIn K (He.ga K d.x) (He.ga K d.x) "__init__") (some (some (.builtin "ValueError.__init__"))) &&
    (decide (subIn K (.ref (He.ga K d.x)) (.type "ValueError") = some true) && (decide (mroIn K (He.ga K d.x) (.ref (He.ga K d.x)) = some true) && (He.eqO (nsIn K mainGlobals d.x) (some (some (.ref (He.ga K d.x)))) &&
    (He.eqO (findIn K (.ref (He.ga K d.x)) "__getattribute__") (some (some (.builtin "BaseException.__getattribute__"))) && (He.eqO (findIn K (.ref (He.ga K d.x)) "__getattr__") (some none) && (hasDictIn K (He.ga K d.x) && (He.eqO (findIn K (.ref (He.ga K d.x)) "__class__") (some (some (.builtin "object.__class__"))) && decide (mroIn K (He.ga K d.x) (.type "object") = some true))))))))))))))))
/-- what an own error's class and __init__ are in K -/
structure ErrF (K : Frag) (C f : Addr) (file : Str) (d : ErrD) : Prop where
  fn : ∃ (oc : Value) (od : Option Addr) (osl : Array (Option Value)) (dV kV doc pm : Value) (an : Option Addr) (ct : Value) (cc cda : Addr) (cl : Value) (cld : Option Addr) (csl : Array (Option Value)) (ccl : Value) (cdd : Option Addr) (cvs : Array Value) (ccs : Array (Option Value)) (tf : Tok),
    K.lookup f = some ⟨oc, od, .func (fnX "__init__" d.qual (defArgs d.st) (defBody d.st) (defScope d.st) [("__class__", cc)] dV kV doc pm an (.ref cda) ct), osl⟩ ∧ codeIn K (.ref cda) d.qual = true ∧
    K.lookup cda = some ⟨ccl, cdd, .fields cvs, ccs⟩ ∧ cvs[2]? = some (.str file tf) ∧ K.lookup cc = some ⟨cl, cld, .cell (some (.ref C)), csl⟩
  oex : OexC K C
  init : findIn K (.ref C) "__init__" = some (some (.ref f))
  tI : typeIn K (.ref f) = some (.type "function")
  sup : ks_superIn K C C "__init__" = some (some (.builtin "ValueError.__init__"))
  sub : subIn K (.ref C) (.type "ValueError") = some true
  self : mroIn K C (.ref C) = some true
  ns : nsIn K mainGlobals d.x = some (some (.ref C))
  ga : findIn K (.ref C) "__getattribute__" = some (some (.builtin "BaseException.__getattribute__"))
  gt : findIn K (.ref C) "__getattr__" = some none
  hd : hasDictIn K C = true
  cl : findIn K (.ref C) "__class__" = some (some (.builtin "object.__class__"))
  top : mroIn K C (.type "object") = some true
theorem ErrD.okF {d : ErrD} {file : Str} {K : Frag} (e : d.see K = d.val) (h : d.ok file K = true) : ErrF K (He.ga K d.x) (d.at_ K) file d := by
  unfold ErrD.ok at h
  simp only [Bool.and_eq_true, decide_eq_true_eq] at h
  obtain ⟨h1, h2, h3, h4, h5, h6, h7, h8, h9, h10, h11, h12, h13, h14, h15, h16, h17⟩ := h
  refine ⟨?_, ⟨excB_ok h2, He.eqO_ok h3, h4, h5, h6⟩, He.eqO_ok h7, h8, He.eqO_ok h9, h10, h11, He.eqO_ok h12, He.eqO_ok h13, He.eqO_ok h14, h15, He.eqO_ok h16, h17⟩
  unfold ErrD.see at e
  split at h1
  · rename_i oc od fd osl lk
    rw [lk] at e
    simp only [Bool.and_eq_true] at h1
    obtain ⟨k1, k2, k3⟩ := h1
    obtain ⟨n1, n2, n3, n4, n5, n6, n7, n8, n9, n10, n11, n12, n13, n14, n15⟩ := fd
    obtain ⟨cda, ccl, cdd, cvs, ccs, tf, ec, lc, hv⟩ := codeB_ok k2
    have ec' : n13 = .ref cda := ec
    subst ec'
    have e2 : (some (n1, n2, n3, n4, n5, n6, n7.map (·.1), n15) : ErW) = d.val := e
    unfold ErrD.val at e2
    simp only [Option.some.injEq, Prod.mk.injEq] at e2
    obtain ⟨q1, q2, q3, q4, q5, q6, q7, q8⟩ := e2
    cases n7 with
    | nil => cases q7
    | cons q n7 =>
    cases n7 with
    | cons q2 n7 => exact absurd (congrArg List.length q7) (by simp)
    | nil =>
      obtain ⟨y, cc⟩ := q
      have ey : y = "__class__" := (List.cons.inj q7).1
      have kc : cellB K cc (He.ga K d.x) = true := by
        have z : (cellB K cc (He.ga K d.x) && true) = true := k3
        rw [Bool.and_true] at z
        exact z
      obtain ⟨cl, cld, csl, lcc⟩ := cellB_ok kc
      subst q1 q2 q3 q4 q5 q6 q8 ey
      exact ⟨oc, od, osl, n8, n9, n10, n11, n12, n14, cc, cda, cl, cld, csl, ccl, cdd, cvs, ccs, tf, lk, k1, lc, hv, lcc⟩
  · cases h1
/-! ### the hook -/
structure Ask where
  fa : List He.Fa
  fn : List He5.DefA
  er : List ErrD
  bs : List (Frag → Bool)
  file : Str
  sel : List Str
abbrev Al : Type := Bool × List He.FnW × List ErW
def Ask.see (q : Ask) (K : Frag) : Al := (((q.fa.all fun f => f.ok K) && q.fn.all fun d => d.ok K) && ((q.er.all fun d => d.ok q.file K) && q.bs.all fun b => b K), q.fn.map fun d => He5.fnA K (d.at_ K), q.er.map fun d => d.see K)
def Ask.val (q : Ask) : Al := (true, q.fn.map He5.DefA.val, q.er.map ErrD.val)
def Says (q : Ask) (K : Frag) : Prop := q.see K = q.val
/-- the objects that are looked at: the module's, of the chosen classes what they hold, of each def its code and cells -/
def gv (g : Addr → Option Obj) (a : Addr) : List Addr := match g a with
  | some o => He.refsO o
  | none => []
def picks (sel : List Str) : Option Obj → List Addr
  | some ⟨_, _, .cls cd, _⟩ => (match sel.contains cd.name with
    | true => [cd.ns]
    | false => [])
  | _ => []
def fieldsOf : Option Obj → List Addr
  | some ⟨_, _, .fields vs, _⟩ => vs.toList.flatMap He.refV
  | _ => []
def codeOf : Option Obj → List Addr
  | some ⟨_, _, .func fd, _⟩ => He.refV fd.code ++ fd.closure.map (·.2)
  | _ => []
def addrs (sel : List Str) (g : Addr → Option Obj) : List Addr :=
  let l1 := gv g mainGlobals
  let ns := l1.flatMap fun a => picks sel (g a)
  let ms := ns.flatMap (gv g)
  let fs := ms.flatMap fun a => fieldsOf (g a)
  [mainGlobals, cStatics] ++ (l1 ++ (ns ++ (ms ++ (fs ++ (l1 ++ (ms ++ fs)).flatMap fun a => codeOf (g a)))))
def Ask.off (q : Ask) (n : Nat) (g : Addr → Option Obj) : Al := q.see (He.frG g (addrs q.sel g))
def hook (n : Nat) (q : Ask) : Hook where
  α := Al
  obs := fun s => q.off n s.heap.get?
  val := fun _ => q.val
  says := fun _ h => ∃ K : Frag, K.In h ∧ Says q K
  of := fun _ _ e => ⟨_, He.frG_in, e⟩
  keeps := fun _ _ _ ⟨K, hK, c⟩ k => ⟨K, Frag.In.keeps hK k, c⟩
def ob (n : Nat) (q : Ask) (s : SharedT) : Al := q.off n (HandSHeadRun.getT s)
theorem ob_eq {n : Nat} {q : Ask} (s : SharedT) : ob n q s = (hook n q).obs s.abs := by
  have e : HandSHeadRun.getT s = s.abs.heap.get? := funext (HandSHeadRun.getT_eq s)
  show q.off n _ = q.off n _
  rw [e]
section
variable {q : Ask} {K : Frag}
theorem Says.all (c : Says q K) : ((q.fa.all fun f => f.ok K) = true ∧ (q.fn.all fun d => d.ok K) = true) ∧ (q.er.all fun d => d.ok q.file K) = true ∧ (q.bs.all fun b => b K) = true := by
  have c1 : (((q.fa.all fun f => f.ok K) && q.fn.all fun d => d.ok K) && ((q.er.all fun d => d.ok q.file K) && q.bs.all fun b => b K)) = true := congrArg (fun z : Al => z.1) c
  simp only [Bool.and_eq_true] at c1
  exact c1
theorem Says.fact (c : Says q K) (i : Nat) {f : He.Fa} (h : q.fa[i]? = some f := by rfl) : f.ok K = true := List.all_eq_true.mp c.all.1.1 f (List.mem_of_getElem? h)
theorem Says.more (c : Says q K) (i : Nat) {b : Frag → Bool} (h : q.bs[i]? = some b := by rfl) : b K = true := List.all_eq_true.mp c.all.2.2 b (List.mem_of_getElem? h)
theorem Says.def_ (c : Says q K) (i : Nat) {d : He5.DefA} (h : q.fn[i]? = some d := by rfl) : ∃ fd, FunD K d.name d.qual d.params d.body d.scope (d.dvs K) (d.kws K) (d.at_ K) fd := by
  have e : q.fn.map (fun d => He5.fnA K (d.at_ K)) = q.fn.map He5.DefA.val := congrArg (fun z : Al => z.2.1) c
  have e2 := congrArg (fun l => l[i]?) e
  simp only [List.getElem?_map, h, Option.map_some] at e2
  exact He5.DefA.funD (Option.some.inj e2) (List.all_eq_true.mp c.all.1.2 d (List.mem_of_getElem? h))
theorem Says.err (c : Says q K) (i : Nat) {d : ErrD} (h : q.er[i]? = some d := by rfl) : ErrF K (He.ga K d.x) (d.at_ K) q.file d := by
  have e : q.er.map (fun d => d.see K) = q.er.map ErrD.val := congrArg (fun z : Al => z.2.2) c
  have e2 := congrArg (fun l => l[i]?) e
  simp only [List.getElem?_map, h, Option.map_some] at e2
  exact ErrD.okF (Option.some.inj e2) (List.all_eq_true.mp c.all.2.1 d (List.mem_of_getElem? h))
end
/-! ### short facts -/
def glo (x : Str) (K : Frag) : Bool := (He.Fa.glo x).ok K
def isx (x y : Str) (b : Bool) (K : Frag) : Bool := decide (kitOne K (.ref (He.ga K x)) (.ref (He.ga K y)) = some b)
def ist (x : Str) (t : String) (b : Bool) (K : Frag) : Bool := decide (kitOne K (.ref (He.ga K x)) (.type t) = some b)
def opq (K : Frag) : Bool := He.eqO (nsIn K cStatics "thirdparty.any") (some none)
/-- a def of the module, a method -/
def gdef (x : Str) (st : Stmt) : He5.DefA := ⟨fun K => He.ga K x, x, x, defArgs st, defBody st, defScope st, [], []⟩
def mdef (C x : Str) (st : Stmt) : He5.DefA := ⟨fun K => He.ma K (He.ga K C) x, x, C ++ ("." ++ x), defArgs st, defBody st, defScope st, [], []⟩
end Hk
set_option Elab.async false
set_option linter.all false
set_option maxRecDepth 100000
set_option maxHeartbeats 4000000
/-! Hk2: the run of the top told in parts: what is looked for ahead, what is asked of the end; each part is its own run (memory). -/
namespace Hk
open PySem PySem.W L2 SupX ErrX
def Ask.app (a b : Ask) : Ask := ⟨a.fa ++ b.fa, a.fn ++ b.fn, a.er ++ b.er, a.bs ++ b.bs, a.file, a.sel⟩
noncomputable def endS (r : OpenRow) (M : Nat) (w : World) (os : OsState) : Option SharedT := HandSHeadRun.endF (HandSHeadRun.stepQ (HandSHeadRun.denQ HandSHeadRun.tabQ) r.prog w) M r.prog w os
def RunL (r : OpenRow) (q : Program) (M : Nat) (loose : List PySem.Str) (w : World) : Prop :=
  ∀ os : OsState, (HandSHeadRun.endF (HandSHeadRun.stepQ (HandSHeadRun.denQ HandSHeadRun.tabQ) r.prog w) M r.prog w os).map (fun s => (HandSHeadRun.looksF r.prog (boot_heap w.params) s.abs, HandSHeadRun.seenQ q loose (importedModules r.prog.main.body) (fun s => xlAt q [] s && recOk r.toRowW.records s) s.abs)) = some (true, openGood q loose)
def RunO (r : OpenRow) (M : Nat) (w : World) (n : Nat) (a : Ask) : Prop :=
  ∀ os : OsState, (HandSHeadRun.endF (HandSHeadRun.stepQ (HandSHeadRun.denQ HandSHeadRun.tabQ) r.prog w) M r.prog w os).map (fun s => ob n a s) = some a.val
theorem see_app {a b : Ask} {K : Frag} (hf : b.file = a.file) (h1 : a.see K = a.val) (h2 : b.see K = b.val) : (a.app b).see K = (a.app b).val := by
  have c1 : (((a.fa.all fun f => f.ok K) && a.fn.all fun d => d.ok K) && ((a.er.all fun d => d.ok a.file K) && a.bs.all fun x => x K)) = true := congrArg (fun z : Al => z.1) h1
  have c2 : (((b.fa.all fun f => f.ok K) && b.fn.all fun d => d.ok K) && ((b.er.all fun d => d.ok b.file K) && b.bs.all fun x => x K)) = true := congrArg (fun z : Al => z.1) h2
  have d1 : a.fn.map (fun d => He5.fnA K (d.at_ K)) = a.fn.map He5.DefA.val := congrArg (fun z : Al => z.2.1) h1
  have d2 : b.fn.map (fun d => He5.fnA K (d.at_ K)) = b.fn.map He5.DefA.val := congrArg (fun z : Al => z.2.1) h2
  have e1 : a.er.map (fun d => d.see K) = a.er.map ErrD.val := congrArg (fun z : Al => z.2.2) h1
  have e2 : b.er.map (fun d => d.see K) = b.er.map ErrD.val := congrArg (fun z : Al => z.2.2) h2
  simp only [Bool.and_eq_true] at c1 c2
  obtain ⟨⟨p1, p2⟩, p3, p4⟩ := c1
  obtain ⟨⟨q1, q2⟩, q3, q4⟩ := c2
  rw [hf] at q3
  unfold Ask.see Ask.val Ask.app
  simp only [List.all_append, List.map_append, p1, p2, p3, p4, q1, q2, q3, q4, d1, d2, e1, e2, Bool.and_self]
theorem RunO.app {r : OpenRow} {M : Nat} {w : World} {n : Nat} {a b : Ask} (hf : b.file = a.file) (hs : b.sel = a.sel) (h1 : RunO r M w n a) (h2 : RunO r M w n b) : RunO r M w n (a.app b) := fun os => by
  have e1 := h1 os
  have e2 := h2 os
  cases hh : HandSHeadRun.endF (HandSHeadRun.stepQ (HandSHeadRun.denQ HandSHeadRun.tabQ) r.prog w) M r.prog w os with
  | none => rw [hh] at e1; cases e1
  | some s =>
    rw [hh] at e1 e2
    have e1 : ob n a s = a.val := Option.some.inj e1
    have e2 : ob n b s = b.val := Option.some.inj e2
    refine congrArg some ?_
    unfold ob Ask.off at e1 e2 ⊢
    rw [hs] at e2
    exact see_app hf e1 e2
theorem run_of {r : OpenRow} {q : Program} {M : Nat} {loose : List PySem.Str} {w : World} {n : Nat} {a : Ask} (h1 : RunL r q M loose w) (h2 : RunO r M w n a) : HandSHeadRun.RunEq r q (hook n a) (ob n a) M loose w := fun os => by
  have e1 := h1 os
  have e2 := h2 os
  cases hh : HandSHeadRun.endF (HandSHeadRun.stepQ (HandSHeadRun.denQ HandSHeadRun.tabQ) r.prog w) M r.prog w os with
  | none => rw [hh] at e1; cases e1
  | some s =>
    rw [hh] at e1 e2
    have e1 := Option.some.inj e1
    have e2 : ob n a s = a.val := Option.some.inj e2
    refine congrArg some ?_
    have f1 := congrArg Prod.fst e1
    have f2 := congrArg Prod.snd e1
    simp only at f1 f2
    refine Prod.ext f1 (Prod.ext f2 e2)
end Hk
set_option Elab.async false
set_option linter.all false
set_option maxRecDepth 100000
set_option maxHeartbeats 0
namespace K08
open PySem PySem.W L2 Hk
def top (i : Nat) : Stmt := PySem.Challenge.pw_whichdepot_k08_totals.main.body.getD i (.Pass ⟨0, 0, 0, 0⟩)
def inClass (st : Stmt) (i : Nat) : Stmt := match st with
  | .ClassDef _ _ _ body _ _ _ _ _ _ _ => body.getD i (.Pass ⟨0, 0, 0, 0⟩)
  | _ => .Pass ⟨0, 0, 0, 0⟩
abbrev check_size_st : Stmt := top 44
abbrev check_count_st : Stmt := top 46
abbrev check_most_st : Stmt := top 48
abbrev check_depot_st : Stmt := top 49
abbrev check_balanced_st : Stmt := top 59
abbrev check_length_st : Stmt := top 45
abbrev check_counts_st : Stmt := top 47
abbrev Totals_supplies_st : Stmt := inClass (top 55) 7
abbrev Totals_demands_st : Stmt := inClass (top 55) 8
abbrev Totals_units_st : Stmt := inClass (top 55) 9
abbrev Totals_init_st : Stmt := inClass (top 55) 1
abbrev digits_as_zeros_st : Stmt := top 50
abbrev is_written_number_st : Stmt := top 51
abbrev written_sides_st : Stmt := top 58
abbrev is_written_totals_st : Stmt := top 57
abbrev Totals_read_st : Stmt := inClass (top 55) 2
abbrev sums_st : Stmt := top 60
abbrev Totals_add_st : Stmt := inClass (top 55) 12
abbrev Totals_mul_st : Stmt := inClass (top 55) 13
abbrev Totals_rmul_st : Stmt := inClass (top 55) 14
abbrev Totals_moved_st : Stmt := inClass (top 55) 10
abbrev Totals_turned_st : Stmt := inClass (top 55) 11
abbrev Totals_balance_st : Stmt := inClass (top 55) 6
abbrev Totals_eq_st : Stmt := inClass (top 55) 15
abbrev Totals_str_st : Stmt := inClass (top 55) 16
abbrev add_totals_st : Stmt := top 56
abbrev law_classes_st : Stmt := top 62
abbrev law_cell_st : Stmt := top 63
abbrev law_take_st : Stmt := top 64
abbrev law_alike_st : Stmt := top 65
abbrev law_copied_st : Stmt := top 66
abbrev law_parts_st : Stmt := top 67
abbrev law_units_st : Stmt := top 68
abbrev law_first_st : Stmt := top 69
abbrev law_second_st : Stmt := top 70
abbrev law_level_st : Stmt := top 71
abbrev law_odd_row_st : Stmt := top 72
abbrev law_odd_st : Stmt := top 73
abbrev law_text_st : Stmt := top 74
abbrev law_spoilt_st : Stmt := top 75
abbrev law_sides_st : Stmt := top 76
abbrev law_due_st : Stmt := top 77
abbrev law_plus_st : Stmt := top 78
abbrev law_times_st : Stmt := top 79
abbrev law_moved_st : Stmt := top 80
abbrev law_added_st : Stmt := top 81
abbrev law_done_st : Stmt := top 82
abbrev law_ask_st : Stmt := top 83
abbrev law_is_st : Stmt := top 84
abbrev law_agrees_st : Stmt := top 85
abbrev law_makes_st : Stmt := top 86
abbrev law_balanced_st : Stmt := top 92
abbrev law_reads_st : Stmt := top 87
abbrev law_adds_st : Stmt := top 88
abbrev law_multiplies_st : Stmt := top 89
abbrev law_moves_st : Stmt := top 90
abbrev law_equal_st : Stmt := top 91
abbrev law_st : Stmt := top 93
def cls39 : List Str := [("BadSize" : Str), ("BadLength" : Str), ("BadCount" : Str), ("TooMany" : Str), ("NoDepot" : Str), ("NoCustomer" : Str), ("NoPlace" : Str), ("NoLink" : Str), ("SameEnds" : Str), ("Stranded" : Str), ("NoSupply" : Str), ("NoDemand" : Str), ("NotMore" : Str), ("NoRoute" : Str), ("NotInTree" : Str), ("NotAcross" : Str), ("NotPriced" : Str), ("Closes" : Str), ("Short" : Str), ("Below" : Str), ("Repeated" : Str), ("NotJoined" : Str), ("NotSpanning" : Str), ("Unbalanced" : Str), ("Overflow" : Str), ("Unfair" : Str), ("NoCycle" : Str), ("NotFlexible" : Str), ("NotSpanningSet" : Str), ("NoNumber" : Str), ("Unread" : Str), ("BadColumn" : Str), ("BadDeed" : Str), ("BadLine" : Str), ("DeedRefused" : Str), ("OtherNetwork" : Str), ("OtherTotals" : Str), ("NotInner" : Str), ("NothingLeft" : Str)]
def noneB (a b : Value) : Bool := match a, b with
  | .none, .none => true
  | _, _ => false
def dflB (d : ErrD) (K : Frag) : Bool := match K.lookup (d.at_ K) with
  | some ⟨_, _, .func fd, _⟩ => noneB fd.defaults fd.kwdefaults
  | _ => false
def dS : ErrD := ⟨"BadSize", inClass (top 3) 0⟩
def dL : ErrD := ⟨"BadLength", inClass (top 4) 0⟩
def dB : ErrD := ⟨"BadCount", inClass (top 5) 0⟩
def dM : ErrD := ⟨"TooMany", inClass (top 6) 0⟩
def dD : ErrD := ⟨"NoDepot", inClass (top 7) 0⟩
def dP : ErrD := ⟨"NoSupply", inClass (top 13) 0⟩
def dX : ErrD := ⟨"Unread", inClass (top 33) 0⟩
def dU : ErrD := ⟨"Unbalanced", inClass (top 26) 0⟩
def mdefN (C x q : Str) (st : Stmt) : He5.DefA := ⟨fun K => He.ma K (He.ga K C) x, x, q, defArgs st, defBody st, defScope st, [], []⟩
/-- the getter of a property; the def of a classmethod -/
def gaP (K : Frag) (C x : Str) : Addr := match recIn K (He.ma K (He.ga K C) x) "property" with
  | some (.ref g :: _) => g
  | _ => 0
def gaC (K : Frag) (C x : Str) : Addr := match recIn K (He.ma K (He.ga K C) x) "classmethod" with
  | some (.ref g :: _) => g
  | _ => 0
def gaS (K : Frag) (C x : Str) : Addr := match recIn K (He.ma K (He.ga K C) x) "staticmethod" with
  | some (.ref g :: _) => g
  | _ => 0
def sdefN (C x q : Str) (st : Stmt) : He5.DefA := ⟨fun K => gaS K C x, x, q, defArgs st, defBody st, defScope st, [], []⟩
def pdefN (C x q : Str) (st : Stmt) : He5.DefA := ⟨fun K => gaP K C x, x, q, defArgs st, defBody st, defScope st, [], []⟩
def cdefN (C x q : Str) (st : Stmt) : He5.DefA := ⟨fun K => gaC K C x, x, q, defArgs st, defBody st, defScope st, [], []⟩
def propB (C x : Str) (K : Frag) : Bool := He.eqO (findIn K (.ref (He.ga K C)) x) (some (some (.ref (He.ma K (He.ga K C) x)))) && (He.eqO (specialIn K (.ref (He.ma K (He.ga K C) x)) "__get__") (some (some (.builtin "property.__get__"))) && (decide (takesIn K (.ref (He.ma K (He.ga K C) x)) = some true) && (match recIn K (He.ma K (He.ga K C) x) "property" with
  | some (.ref g :: _) => true
  | _ => false)))
def isCm (C : Addr) (p : Addr) : Option CFound → Bool
  | some (.get (.builtin g) (.ref q) .none (.ref D)) => decide (g = "classmethod.__get__") && (decide (q = p) && decide (D = C))
  | _ => false
def cmB (C x : Str) (K : Frag) : Bool := isCm (He.ga K C) (He.ma K (He.ga K C) x) (findCls K (.ref (He.ga K C)) (.type "type") x) && ((match recIn K (He.ma K (He.ga K C) x) "classmethod" with
  | some (.ref g :: _) => true
  | _ => false) && fnIn K (gaC K C x))
def isSm (C : Addr) (p : Addr) : Option CFound → Bool
  | some (.get (.builtin g) (.ref q) .none (.ref D)) => decide (g = "staticmethod.__get__") && (decide (q = p) && decide (D = C))
  | _ => false
def smB (C x : Str) (K : Frag) : Bool := isSm (He.ga K C) (He.ma K (He.ga K C) x) (findCls K (.ref (He.ga K C)) (.type "type") x) && ((match recIn K (He.ma K (He.ga K C) x) "staticmethod" with
  | some (.ref g :: _) => true
  | _ => false) && keepIn K (.ref (gaS K C x)))
def cvalB (C x : Str) (i : Int) (K : Frag) : Bool := match findCls K (.ref (He.ga K C)) (.type "type") x with
  | some (.val (.int j _)) => decide (j = i)
  | _ => false
def intB (K : Frag) : Bool := He.eqO (findIn K (.type "int") "__mul__") (some (some (.builtin "int.__mul__"))) && He.eqO (findIn K (.type "int") "__rmul__") (some (some (.builtin "int.__rmul__")))
def subB (C : Str) (K : Frag) : Bool := decide (subIn K (.type "int") (.ref (He.ga K C)) = some false) && decide (subIn K (.ref (He.ga K C)) (.type "int") = some false)
def selfB (C : Str) (K : Frag) : Bool := selfFirst K (He.ga K C)
def readB (C : Str) (K : Frag) : Bool := readsIn K (He.ga K C) (.type "type") && He.eqO (specialIn K (.ref (He.ga K C)) "__getattribute__") (some (some (.builtin "type.__getattribute__")))
def insB (C : Str) (K : Frag) : Bool := He.eqO (findIn K (.ref (He.ga K C)) "__class__") (some (some (.builtin "object.__class__"))) && (decide (mroIn K (He.ga K C) (.type "object") = some true) && decide (kitOne K (.ref (He.ga K C)) (.ref (He.ga K C)) = some true))
def conB (C x : Str) (i : Int) (K : Frag) : Bool := match findIn K (.ref (He.ga K C)) x with
  | some (some (.int j t)) => decide (j = i) && He.eqO (specialIn K (.int j t) "__get__") (some none)
  | _ => false
def getB (K : Frag) : Bool := He.eqO (specialIn K (.builtin "object.__class__") "__get__") (some (some (.builtin "getset_descriptor.__get__"))) && decide (takesIn K (.builtin "object.__class__") = some true)
abbrev R : OpenRow := OpenLaw.row PySem.Challenge.rw_whichdepot_k08_totals
abbrev qv : Program := view R.prog [93]
def nmS (s : Stmt) : List Str := match s with
  | .FunctionDef n _ _ _ _ _ _ _ _ _ => [n]
  | .ClassDef n _ _ _ _ _ _ _ _ _ _ => [n]
  | .Assign [.Name x _] _ _ => [x]
  | _ => []
def names : List Str := (PySem.Challenge.pw_whichdepot_k08_totals.main.body.flatMap nmS).eraseDups.filter (fun x => x != "law" && x != "__name__")
def askFa : List He.Fa := ([.free "len", .free "range", .free "min", .free "max", .free "abs", .free "int", .free "list", .free "tuple", .free "isinstance", .free "bool", .free "str", .free "ValueError", .free "super", .free "sum", .free "zip"] : List He.Fa) ++ (([.free "all", .glo "check_size", .glo "check_length", .glo "check_count", .glo "check_counts", .glo "check_most", .glo "check_depot", .glo "digits_as_zeros", .glo "is_written_number", .glo "add_totals", .glo "is_written_totals", .glo "_written_sides", .glo "_check_balanced", .glo "_sums", .glo "_law_classes"] : List He.Fa) ++ (([.glo "_law_cell", .glo "_law_take", .glo "_law_alike", .glo "_law_copied", .glo "_law_parts", .glo "_law_units", .glo "_law_first", .glo "_law_second", .glo "_law_level", .glo "_law_odd_row", .glo "_law_odd", .glo "_law_text", .glo "_law_spoilt", .glo "_law_sides", .glo "_law_due"] : List He.Fa) ++ (([.glo "_law_plus", .glo "_law_times", .glo "_law_moved", .glo "_law_added", .glo "_law_done", .glo "_law_ask", .glo "_law_is", .glo "_law_agrees", .glo "_law_makes", .glo "_law_reads", .glo "_law_adds", .glo "_law_multiplies", .glo "_law_moves", .glo "_law_equal", .glo "_law_balanced"] : List He.Fa) ++ (([.glo "law", .glo "Totals", .glo "DepotError", .int "MOST_NUMBERS" 8, .int "MOST_DIGITS" 3, .str "DIGITS" "0123456789", .cls "Totals", .mkr "Totals", .noat "Totals" "_supplies", .noat "Totals" "_demands", .meth "Totals" "moved", .meth "Totals" "turned", .meth "Totals" "__add__", .meth "Totals" "__mul__", .meth "Totals" "__rmul__"] : List He.Fa) ++ (([.meth "Totals" "__eq__", .meth "Totals" "__str__", .noat "BadSize" "size", .noat "BadLength" "length", .noat "BadCount" "number", .noat "TooMany" "most", .noat "NoDepot" "depot", .noat "NoSupply" "depot", .noat "Unread" "text", .noat "Unbalanced" "supply", .noat "Unbalanced" "demand", .exm "BadSize" "BadSize" true, .exm "BadSize" "BadLength" false, .exm "BadSize" "BadCount" false, .exm "BadSize" "TooMany" false] : List He.Fa) ++ (([.exm "BadSize" "NoDepot" false, .exm "BadSize" "NoSupply" false, .exm "BadSize" "Unread" false, .exm "BadSize" "Unbalanced" false, .exm "BadLength" "BadSize" false, .exm "BadLength" "BadLength" true, .exm "BadLength" "BadCount" false, .exm "BadLength" "TooMany" false, .exm "BadLength" "NoDepot" false, .exm "BadLength" "NoSupply" false, .exm "BadLength" "Unread" false, .exm "BadLength" "Unbalanced" false, .exm "BadCount" "BadSize" false, .exm "BadCount" "BadLength" false, .exm "BadCount" "BadCount" true] : List He.Fa) ++ (([.exm "BadCount" "TooMany" false, .exm "BadCount" "NoDepot" false, .exm "BadCount" "NoSupply" false, .exm "BadCount" "Unread" false, .exm "BadCount" "Unbalanced" false, .exm "TooMany" "BadSize" false, .exm "TooMany" "BadLength" false, .exm "TooMany" "BadCount" false, .exm "TooMany" "TooMany" true, .exm "TooMany" "NoDepot" false, .exm "TooMany" "NoSupply" false, .exm "TooMany" "Unread" false, .exm "TooMany" "Unbalanced" false, .exm "NoDepot" "BadSize" false, .exm "NoDepot" "BadLength" false] : List He.Fa) ++ (([.exm "NoDepot" "BadCount" false, .exm "NoDepot" "TooMany" false, .exm "NoDepot" "NoDepot" true, .exm "NoDepot" "NoSupply" false, .exm "NoDepot" "Unread" false, .exm "NoDepot" "Unbalanced" false, .exm "NoSupply" "BadSize" false, .exm "NoSupply" "BadLength" false, .exm "NoSupply" "BadCount" false, .exm "NoSupply" "TooMany" false, .exm "NoSupply" "NoDepot" false, .exm "NoSupply" "NoSupply" true, .exm "NoSupply" "Unread" false, .exm "NoSupply" "Unbalanced" false, .exm "Unread" "BadSize" false] : List He.Fa) ++ (([.exm "Unread" "BadLength" false, .exm "Unread" "BadCount" false, .exm "Unread" "TooMany" false, .exm "Unread" "NoDepot" false, .exm "Unread" "NoSupply" false, .exm "Unread" "Unread" true, .exm "Unread" "Unbalanced" false, .exm "Unbalanced" "BadSize" false, .exm "Unbalanced" "BadLength" false, .exm "Unbalanced" "BadCount" false, .exm "Unbalanced" "TooMany" false, .exm "Unbalanced" "NoDepot" false, .exm "Unbalanced" "NoSupply" false, .exm "Unbalanced" "Unread" false, .exm "Unbalanced" "Unbalanced" true] : List He.Fa))))))))))
def askFn : List He5.DefA := ([gdef "check_size" check_size_st, gdef "check_length" check_length_st, gdef "check_count" check_count_st, gdef "check_counts" check_counts_st, gdef "check_most" check_most_st, gdef "check_depot" check_depot_st, gdef "digits_as_zeros" digits_as_zeros_st, gdef "is_written_number" is_written_number_st, gdef "add_totals" add_totals_st, gdef "is_written_totals" is_written_totals_st, gdef "_written_sides" written_sides_st, gdef "_check_balanced" check_balanced_st] : List He5.DefA) ++ (([gdef "_sums" sums_st, gdef "_law_classes" law_classes_st, gdef "_law_cell" law_cell_st, gdef "_law_take" law_take_st, gdef "_law_alike" law_alike_st, gdef "_law_copied" law_copied_st, gdef "_law_parts" law_parts_st, gdef "_law_units" law_units_st, gdef "_law_first" law_first_st, gdef "_law_second" law_second_st, gdef "_law_level" law_level_st, gdef "_law_odd_row" law_odd_row_st] : List He5.DefA) ++ (([gdef "_law_odd" law_odd_st, gdef "_law_text" law_text_st, gdef "_law_spoilt" law_spoilt_st, gdef "_law_sides" law_sides_st, gdef "_law_due" law_due_st, gdef "_law_plus" law_plus_st, gdef "_law_times" law_times_st, gdef "_law_moved" law_moved_st, gdef "_law_added" law_added_st, gdef "_law_done" law_done_st, gdef "_law_ask" law_ask_st, gdef "_law_is" law_is_st] : List He5.DefA) ++ (([gdef "_law_agrees" law_agrees_st, gdef "_law_makes" law_makes_st, gdef "_law_reads" law_reads_st, gdef "_law_adds" law_adds_st, gdef "_law_multiplies" law_multiplies_st, gdef "_law_moves" law_moves_st, gdef "_law_equal" law_equal_st, gdef "_law_balanced" law_balanced_st, gdef "law" law_st, mdefN "Totals" "__init__" "Totals.__init__" Totals_init_st, mdefN "Totals" "moved" "Totals.moved" Totals_moved_st, mdefN "Totals" "turned" "Totals.turned" Totals_turned_st] : List He5.DefA) ++ (([mdefN "Totals" "__add__" "Totals.__add__" Totals_add_st, mdefN "Totals" "__mul__" "Totals.__mul__" Totals_mul_st, mdefN "Totals" "__rmul__" "Totals.__rmul__" Totals_rmul_st, mdefN "Totals" "__eq__" "Totals.__eq__" Totals_eq_st, mdefN "Totals" "__str__" "Totals.__str__" Totals_str_st, cdefN "Totals" "read" "Totals.read" Totals_read_st, sdefN "Totals" "balance" "Totals.balance" Totals_balance_st, pdefN "Totals" "supplies" "Totals.supplies" Totals_supplies_st, pdefN "Totals" "demands" "Totals.demands" Totals_demands_st, pdefN "Totals" "units" "Totals.units" Totals_units_st] : List He5.DefA)))))
def sels : List Str := ["DepotError", "BadSize", "BadLength", "BadCount", "TooMany", "NoDepot", "NoSupply", "Unread", "Unbalanced", "Totals"]
def ask1 : Ask where
  fa := askFa
  fn := askFn
  er := [dS, dL, dB, dM, dD, dP, dX, dU]
  bs := ([opq, conB "Totals" "MOST_UNITS" 400, cvalB "Totals" "MOST_UNITS" 400, getB, insB "Totals", selfB "Totals", readB "Totals", intB, subB "Totals", cmB "Totals" "read", smB "Totals" "balance", ist "BadSize" "ValueError" true] : List (Frag → Bool)) ++ (([ist "BadLength" "ValueError" true, ist "BadCount" "ValueError" true, ist "TooMany" "ValueError" true, ist "NoDepot" "ValueError" true, ist "NoSupply" "ValueError" true, ist "Unread" "ValueError" true, ist "Unbalanced" "ValueError" true, isx "BadSize" "DepotError" true, isx "BadLength" "DepotError" true, isx "BadCount" "DepotError" true, isx "TooMany" "DepotError" true, isx "NoDepot" "DepotError" true] : List (Frag → Bool)) ++ (([isx "NoSupply" "DepotError" true, isx "Unread" "DepotError" true, isx "Unbalanced" "DepotError" true, dflB dS, dflB dL, dflB dB, dflB dM, dflB dD, dflB dP, dflB dX, dflB dU, propB "Totals" "supplies"] : List (Frag → Bool)) ++ (([propB "Totals" "demands", propB "Totals" "units"] : List (Frag → Bool)))))
  file := "/claim/cut.py"
  sel := sels
def ask2 : Ask where
  fa := cls39.map He.Fa.glo
  fn := []
  er := []
  bs := (cls39.map fun y => isx "BadSize" y (decide (y = "BadSize"))) ++ ((cls39.map fun y => isx "BadLength" y (decide (y = "BadLength"))) ++ ((cls39.map fun y => isx "BadCount" y (decide (y = "BadCount"))) ++ ((cls39.map fun y => isx "TooMany" y (decide (y = "TooMany"))))))
  file := "/claim/cut.py"
  sel := sels
def ask3 : Ask where
  fa := []
  fn := []
  er := []
  bs := (cls39.map fun y => isx "NoDepot" y (decide (y = "NoDepot"))) ++ ((cls39.map fun y => isx "NoSupply" y (decide (y = "NoSupply"))) ++ ((cls39.map fun y => isx "Unread" y (decide (y = "Unread"))) ++ ((cls39.map fun y => isx "Unbalanced" y (decide (y = "Unbalanced"))))))
  file := "/claim/cut.py"
  sel := sels
def ask : Ask := ask1.app (ask2.app ask3)
theorem runL (w : World) : RunL R qv 30000 names w := by
  intro os
  kernel_rfl
theorem runO1 (w : World) : RunO R 30000 w 6 ask1 := by
  intro os
  kernel_rfl
theorem runO2 (w : World) : RunO R 30000 w 6 ask2 := by
  intro os
  kernel_rfl
theorem runO3 (w : World) : RunO R 30000 w 6 ask3 := by
  intro os
  kernel_rfl
theorem run (w : World) : HandSHeadRun.RunEq R qv (hook 6 ask) (ob 6 ask) 30000 names w := run_of (runL w) (RunO.app rfl rfl (runO1 w) (RunO.app rfl rfl (runO2 w) (runO3 w)))
end K08
set_option Elab.async false
set_option linter.all false
set_option maxRecDepth 100000
set_option maxHeartbeats 4000000
/-! Wl: what a body does, told by the types of its slots: a type says what a value is in a world; a world knows what stays. -/
namespace Wl
open PySem PySem.Spec PyProof.Rows L2

/-! ### worlds -/
/-- B: what is known and stays; C: the cells (lists of one int, whose int may change) -/
structure Wd where
  B : Hp
  C : Addr → Prop
structure Le (W W' : Wd) : Prop where
  b : Same W.B W'.B
  c : ∀ a, W.C a → W'.C a
theorem Le.refl (W : Wd) : Le W W := ⟨Same.refl _, fun _ h => h⟩
theorem Le.trans {W W1 W2 : Wd} (h : Le W W1) (k : Le W1 W2) : Le W W2 := ⟨h.b.trans k.b, fun a c => k.c a (h.c a c)⟩
structure In (W : Wd) (H : Hp) : Prop where
  b : Same W.B H
  c : ∀ p, W.C p → W.B p = none ∧ ∃ x : Int, H p = some (.lst [.int x])
/-- from (W, H) to (W', H') -/
structure Fr (W : Wd) (H : Hp) (W' : Wd) (H' : Hp) : Prop where
  le : Le W W'
  inn : In W' H'
  keep : ∀ a o, H a = some o → ¬ W.C a → H' a = some o
  nb : ∀ a, W'.B a ≠ none → W.B a ≠ none ∨ H a = none
  nc : ∀ a, W'.C a → W.C a ∨ H a = none
theorem Fr.refl {W : Wd} {H : Hp} (h : In W H) : Fr W H W H := ⟨Le.refl W, h, fun _ _ e _ => e, fun _ e => .inl e, fun _ e => .inl e⟩
theorem Fr.was {W W1 : Wd} {H H1 : Hp} (f : Fr W H W1 H1) {a : Addr} (h : H1 a = none) : H a = none := by
  cases e : H a with
  | none => rfl
  | some o =>
    by_cases c : W.C a
    · obtain ⟨_, x, e1⟩ := f.inn.c a (f.le.c a c)
      rw [h] at e1; cases e1
    · have := f.keep a o e c
      rw [h] at this; cases this
theorem Fr.trans {W W1 W2 : Wd} {H H1 H2 : Hp} (f : Fr W H W1 H1) (g : Fr W1 H1 W2 H2) : Fr W H W2 H2 := by
  refine ⟨f.le.trans g.le, g.inn, fun a o e c => ?_, fun a e => ?_, fun a e => ?_⟩
  · have e1 := f.keep a o e c
    refine g.keep a o e1 fun c1 => ?_
    rcases f.nc a c1 with c2 | n
    · exact c c2
    · rw [e] at n; cases n
  · rcases g.nb a e with e | n
    · exact f.nb a e
    · exact .inr (f.was n)
  · rcases g.nc a e with e | n
    · exact f.nc a e
    · exact .inr (f.was n)
theorem In.out {W : Wd} {H : Hp} (h : In W H) {p : Addr} (n : H p = none) : W.B p = none ∧ ¬ W.C p := by
  refine ⟨h.b.free n, fun c => ?_⟩
  obtain ⟨_, x, e⟩ := h.c p c
  rw [n] at e; cases e
/-- a new object that is known from now on -/
def Wd.add (W : Wd) (p : Addr) (o : HO) : Wd := ⟨upd W.B p o, W.C⟩
theorem Wd.add_at {W : Wd} {p : Addr} {o : HO} : (W.add p o).B p = some o := upd_same
theorem Le.add {W : Wd} {p : Addr} {o : HO} (h : W.B p = none) : Le W (W.add p o) := ⟨Evl.Ex.new h, fun _ c => c⟩
/-- an object that stands already (in H', not in H) is known from now on -/
theorem Fr.know {W W' : Wd} {H H' : Hp} {p : Addr} {o : HO} (f : Fr W H W' H') (e : H' p = some o) (n : H p = none) (nb : W'.B p = none) (nc : ¬ W'.C p) : Fr W H (W'.add p o) H' := by
  refine ⟨f.le.trans (Le.add nb), ⟨fun a u h => ?_, fun a c => ?_⟩, f.keep, fun a h => ?_, f.nc⟩
  · by_cases ap : a = p
    · subst ap
      rw [show (W'.add a o).B a = some o from upd_same] at h
      rw [← h]; exact e
    · exact f.inn.b a u (by rw [show (W'.add p o).B a = W'.B a from upd_ne ap] at h; exact h)
  · obtain ⟨h1, h2⟩ := f.inn.c a c
    have ap : a ≠ p := fun z => nc (z ▸ c)
    exact ⟨by rw [show (W'.add p o).B a = W'.B a from upd_ne ap]; exact h1, h2⟩
  · by_cases ap : a = p
    · subst ap; exact .inr n
    · exact f.nb a (by rw [show (W'.add p o).B a = W'.B a from upd_ne ap] at h; exact h)
/-- an object of one's own, new or changed -/
theorem Fr.own {W W' : Wd} {H H' : Hp} {p : Addr} {o : HO} (f : Fr W H W' H') (n : H p = none) (nb : W'.B p = none) (nc : ¬ W'.C p) : Fr W H W' (upd H' p o) := by
  refine ⟨f.le, ⟨fun a u h => ?_, fun a c => ?_⟩, fun a u e c => ?_, f.nb, f.nc⟩
  · rw [upd_ne (fun z => by rw [z, nb] at h; cases h)]
    exact f.inn.b a u h
  · have ap : a ≠ p := fun z => nc (z ▸ c)
    rw [upd_ne ap]
    exact f.inn.c a c
  · rw [upd_ne (ne_of_none e n)]
    exact f.keep a u e c
theorem Fr.new {W : Wd} {H : Hp} {p : Addr} {o : HO} (h : In W H) (n : H p = none) : Fr W H (W.add p o) (upd H p o) := by
  have q := h.out n
  exact (Fr.own (Fr.refl h) n q.1 q.2).know upd_same n q.1 q.2
/-- a cell's int changes -/
theorem Fr.cell {W : Wd} {H H' : Hp} {p : Addr} {x : Int} (h : In W H) (c : W.C p) (k : ∀ a o, a ≠ p → H a = some o → H' a = some o) (e : H' p = some (.lst [.int x])) : Fr W H W H' := by
  refine ⟨Le.refl W, ⟨fun a u e1 => ?_, fun a c1 => ⟨(h.c a c1).1, ?_⟩⟩, fun a o e1 c1 => k a o (fun z => c1 (z ▸ c)) e1, fun _ e => .inl e, fun _ e => .inl e⟩
  · have ap : a ≠ p := fun z => by rw [z, (h.c p c).1] at e1; cases e1
    exact k a u ap (h.b a u e1)
  · by_cases ap : a = p
    · exact ⟨x, ap ▸ e⟩
    · obtain ⟨_, y, e2⟩ := h.c a c1
      exact ⟨y, k a _ ap e2⟩
/-- a new cell -/
def Wd.cell (W : Wd) (p : Addr) : Wd := ⟨W.B, fun a => W.C a ∨ a = p⟩
theorem Fr.newCell {W W' : Wd} {H H' : Hp} {p : Addr} {x : Int} (f : Fr W H W' H') (n : H p = none) (nb : W'.B p = none) (e : H' p = some (.lst [.int x])) : Fr W H (W'.cell p) H' := by
  refine ⟨⟨f.le.b, fun a c => .inl (f.le.c a c)⟩, ⟨f.inn.b, fun a c => ?_⟩, f.keep, f.nb, fun a c => ?_⟩
  · rcases c with c | rfl
    · exact f.inn.c a c
    · exact ⟨nb, x, e⟩
  · rcases c with c | rfl
    · exact f.nc a c
    · exact .inr n

/-! ### types of values, of contents -/
structure Ty where
  is : Wd → V → Prop
  up : ∀ {W W' : Wd} {v : V}, Le W W' → is W v → is W' v
structure Th where
  is : Wd → Addr → HO → Prop
  up : ∀ {W W' : Wd} {a : Addr} {o : HO}, Le W W' → is W a o → is W' a o
def Ty.Sub (φ ψ : Ty) : Prop := ∀ W v, φ.is W v → ψ.is W v
theorem Ty.Sub.rfl {φ : Ty} : φ.Sub φ := fun _ _ h => h
/-- one flat value -/
def TV (v : V) : Ty := ⟨fun _ u => u = v, fun _ h => h⟩
abbrev TI (i : Int) : Ty := TV (.int i)
abbrev TB (b : Bool) : Ty := TV (.bl b)
abbrev TS (s : Str) : Ty := TV (.str s)
abbrev TN : Ty := TV .non
/-- a cell -/
def TC : Ty := ⟨fun W v => ∃ p, v = .ref p ∧ W.C p, fun l ⟨p, e, c⟩ => ⟨p, e, l.c p c⟩⟩
def Are (W : Wd) : List Ty → List V → Prop
  | [], [] => True
  | φ :: φs, v :: vs => φ.is W v ∧ Are W φs vs
  | _, _ => False
theorem Are.up {W W' : Wd} (l : Le W W') : ∀ {φs : List Ty} {vs : List V}, Are W φs vs → Are W' φs vs
  | [], [], h => h
  | φ :: φs, v :: vs, h => ⟨φ.up l h.1, Are.up l h.2⟩
  | [], _ :: _, h => h
  | _ :: _, [], h => h
theorem Are.len {W : Wd} : ∀ {φs : List Ty} {vs : List V}, Are W φs vs → vs.length = φs.length
  | [], [], _ => rfl
  | _ :: _, _ :: _, h => congrArg (· + 1) (Are.len h.2)
  | [], _ :: _, h => h.elim
  | _ :: _, [], h => h.elim
theorem Are.get {W : Wd} : ∀ {φs : List Ty} {vs : List V} {i : Nat} {φ : Ty}, Are W φs vs → φs[i]? = some φ → ∃ v, vs[i]? = some v ∧ φ.is W v
  | [], _, _, _, _, e => by simp at e
  | _ :: _, [], _, _, h, _ => h.elim
  | _ :: _, v :: _, 0, _, h, e => by cases e; exact ⟨v, rfl, h.1⟩
  | _ :: φs, _ :: vs, i + 1, φ, h, e => by
    have := Are.get (i := i) h.2 (by simpa using e)
    simpa using this
theorem Are.get' {W : Wd} : ∀ {φs : List Ty} {vs : List V} {i : Nat} {v : V}, Are W φs vs → vs[i]? = some v → ∃ φ, φs[i]? = some φ ∧ φ.is W v
  | _, [], _, _, _, e => by simp at e
  | [], _ :: _, _, _, h, _ => h.elim
  | φ :: _, _ :: _, 0, _, h, e => by cases e; exact ⟨φ, rfl, h.1⟩
  | _ :: φs, _ :: vs, i + 1, v, h, e => by
    have := Are.get' (i := i) h.2 (by simpa using e)
    simpa using this
theorem Are.app {W : Wd} {ψs : List Ty} {us : List V} (k : Are W ψs us) : ∀ {φs : List Ty} {vs : List V}, Are W φs vs → Are W (φs ++ ψs) (vs ++ us)
  | [], [], _ => k
  | _ :: _, _ :: _, h => ⟨h.1, Are.app k h.2⟩
  | [], _ :: _, h => h.elim
  | _ :: _, [], h => h.elim
theorem Are.drop {W : Wd} : ∀ (n : Nat) {φs : List Ty} {vs : List V}, Are W φs vs → Are W (φs.drop n) (vs.drop n)
  | 0, _, _, h => h
  | _ + 1, [], [], h => h
  | n + 1, _ :: _, _ :: _, h => Are.drop n h.2
  | _ + 1, [], _ :: _, h => h.elim
  | _ + 1, _ :: _, [], h => h.elim
theorem Are.take {W : Wd} : ∀ (n : Nat) {φs : List Ty} {vs : List V}, Are W φs vs → Are W (φs.take n) (vs.take n)
  | 0, [], [], _ => trivial
  | 0, _ :: _, _ :: _, _ => trivial
  | _ + 1, [], [], h => h
  | n + 1, _ :: _, _ :: _, h => ⟨h.1, Are.take n h.2⟩
  | _, [], _ :: _, h => h.elim
  | _, _ :: _, [], h => h.elim
theorem Are.set {W : Wd} {φ : Ty} {v : V} (k : φ.is W v) : ∀ {φs : List Ty} {vs : List V} (i : Nat), Are W φs vs → Are W (φs.set i φ) (vs.set i v)
  | [], [], _, h => h
  | _ :: _, _ :: _, 0, h => ⟨k, h.2⟩
  | _ :: _, _ :: _, i + 1, h => ⟨h.1, Are.set k i h.2⟩
  | [], _ :: _, _, h => h.elim
  | _ :: _, [], _, h => h.elim
theorem Are.vals {W : Wd} {α : Type} {g : α → V} : ∀ {xs : List α} {vs : List V}, Are W (xs.map fun x => TV (g x)) vs → vs = xs.map g
  | [], [], _ => rfl
  | _ :: _, _ :: _, h => by rw [show _ = _ from h.1, Are.vals h.2]; rfl
  | [], _ :: _, h => h.elim
  | _ :: _, [], h => h.elim
theorem Are.ofVals {W : Wd} {α : Type} {g : α → V} : ∀ (xs : List α), Are W (xs.map fun x => TV (g x)) (xs.map g)
  | [] => trivial
  | _ :: xs => ⟨rfl, Are.ofVals xs⟩
theorem Are.un {W : Wd} {φ : Ty} : ∀ {vs : List V}, Are W [φ] vs → ∃ v, vs = [v] ∧ φ.is W v
  | [], h => h.elim
  | [v], h => ⟨v, rfl, h.1⟩
  | _ :: _ :: _, h => h.2.elim
theorem Are.two {W : Wd} {φ ψ : Ty} : ∀ {vs : List V}, Are W [φ, ψ] vs → ∃ v u, vs = [v, u] ∧ φ.is W v ∧ ψ.is W u
  | [], h => h.elim
  | [_], h => h.2.elim
  | [v, u], h => ⟨v, u, rfl, h.1, h.2.1⟩
  | _ :: _ :: _ :: _, h => h.2.2.elim
theorem Are.one {W : Wd} {φ : Ty} {v : V} (h : φ.is W v) : Are W [φ] [v] := ⟨h, trivial⟩
/-- a list, a tuple, of things of these types -/
def TL (φs : List Ty) : Ty := ⟨fun W v => ∃ p vs, v = .ref p ∧ W.B p = some (.lst vs) ∧ Are W φs vs, fun l ⟨p, vs, e, s, a⟩ => ⟨p, vs, e, l.b _ _ s, a.up l⟩⟩
def TU (φs : List Ty) : Ty := ⟨fun W v => ∃ p vs, v = .ref p ∧ W.B p = some (.tup vs) ∧ Are W φs vs, fun l ⟨p, vs, e, s, a⟩ => ⟨p, vs, e, l.b _ _ s, a.up l⟩⟩
/-- the script: it may be locked -/
def TQ (K : PySem.W.Frag) (ns : List Int) : Ty := ⟨fun W v => ∃ p, v = .ref p ∧ SqL K W.B p (ns.map V.int), fun l ⟨p, e, s⟩ => ⟨p, e, l.b.seq s⟩⟩
/-- contents: a list -/
def CL (φs : List Ty) : Th := ⟨fun W _ o => ∃ vs, o = .lst vs ∧ Are W φs vs, fun l ⟨vs, e, a⟩ => ⟨vs, e, a.up l⟩⟩
theorem In.sql {K : PySem.W.Frag} {W : Wd} {H : Hp} {a : Addr} {xs : List V} (h : In W H) (s : SqL K W.B a xs) : SqL K H a xs := Evl.ex_l h.b s
theorem In.sqt {K : PySem.W.Frag} {W : Wd} {H : Hp} {a : Addr} {xs : List V} (h : In W H) (s : SqT K W.B a xs) : SqT K H a xs := Evl.ex_t h.b s
def fld (fs : List (Str × V)) (f : Str) : Option V := fs.lookup f
def Flds (W : Wd) : List (Str × Ty) → List (Str × V) → Prop
  | [], [] => True
  | t :: ts, f :: fs => t.1 = f.1 ∧ t.2.is W f.2 ∧ Flds W ts fs
  | _, _ => False
theorem Flds.up {W W' : Wd} (l : Le W W') : ∀ {ts : List (Str × Ty)} {fs : List (Str × V)}, Flds W ts fs → Flds W' ts fs
  | [], [], h => h
  | t :: ts, v :: vs, h => ⟨h.1, t.2.up l h.2.1, Flds.up l h.2.2⟩
  | [], _ :: _, h => h
  | _ :: _, [], h => h
theorem Flds.get {W : Wd} {n : Str} {φ : Ty} : ∀ {ts : List (Str × Ty)} {fs : List (Str × V)}, Flds W ts fs → ts.lookup n = some φ → ∃ v, fs.lookup n = some v ∧ φ.is W v
  | (m, ψ) :: ts, (m', v) :: fs, h, e => by
    obtain ⟨h1, h2, h3⟩ := h
    cases h1
    by_cases q : n == m
    · rw [List.lookup, q] at e
      rw [List.lookup, q]
      cases e
      exact ⟨v, rfl, h2⟩
    · have q : (n == m) = false := by simpa using q
      rw [List.lookup, q] at e
      rw [List.lookup, q]
      exact Flds.get h3 e
theorem Flds.none {W : Wd} {n : Str} : ∀ {ts : List (Str × Ty)} {fs : List (Str × V)}, Flds W ts fs → ts.lookup n = none → fs.lookup n = none
  | [], [], _, _ => rfl
  | (m, ψ) :: ts, (m', v) :: fs, h, e => by
    obtain ⟨h1, h2, h3⟩ := h
    cases h1
    by_cases q : n == m
    · rw [List.lookup, q] at e; cases e
    · have q : (n == m) = false := by simpa using q
      rw [List.lookup, q] at e
      rw [List.lookup, q]
      exact Flds.none h3 e
  | [], _ :: _, h, _ => h.elim
  | _ :: _, [], h, _ => h.elim
/-- an instance of the class at C that stays -/
def TJ (C : Addr) (ts : List (Str × Ty)) : Ty := ⟨fun W v => ∃ a dx fs, v = .ref a ∧ W.B a = some (.ins C dx fs) ∧ Flds W ts fs, fun l ⟨a, dx, fs, e, s, f⟩ => ⟨a, dx, fs, e, l.b _ _ s, f.up l⟩⟩

/-! ### slots -/
inductive Sl where
  | no
  | im (φ : Ty)
  | ow (θ : Th)
structure En (H0 : Hp) (W : Wd) (H : Hp) (Φ : List Sl) (σ : L2.St) : Prop where
  len : σ.length = Φ.length
  im : ∀ (i : Nat) (φ : Ty), Φ[i]? = some (.im φ) → ∃ v, σ[i]? = some (some v) ∧ φ.is W v
  ow : ∀ (i : Nat) (θ : Th), Φ[i]? = some (.ow θ) → ∃ a o, σ[i]? = some (some (.ref a)) ∧ W.B a = none ∧ ¬ W.C a ∧ H0 a = none ∧ H a = some o ∧ θ.is W a o
  ap : ∀ (i j : Nat) (θ θ' : Th) (a : Addr), Φ[i]? = some (.ow θ) → Φ[j]? = some (.ow θ') → σ[i]? = some (some (.ref a)) → σ[j]? = some (some (.ref a)) → i = j
/-- the state within a body: A is the world and the heap at the entry -/
structure At (A : Wd × Hp) (W : Wd) (H : Hp) (Φ : List Sl) (σ : L2.St) : Prop where
  fr : Fr A.1 A.2 W H
  env : En A.2 W H Φ σ
theorem En.up {H0 : Hp} {W W' : Wd} {H H' : Hp} {Φ : List Sl} {σ : L2.St} (e : En H0 W H Φ σ) (f : Fr W H W' H') : En H0 W' H' Φ σ := by
  refine ⟨e.len, fun i φ h => ?_, fun i θ h => ?_, e.ap⟩
  · obtain ⟨v, s, p⟩ := e.im i φ h
    exact ⟨v, s, φ.up f.le p⟩
  · obtain ⟨a, o, s, b, c, n, ho, t⟩ := e.ow i θ h
    refine ⟨a, o, s, ?_, fun c' => ?_, n, f.keep a o ho c, θ.up f.le t⟩
    · cases q : W'.B a with
      | none => rfl
      | some u =>
        rcases f.nb a (by rw [q]; exact fun z => nomatch z) with z | z
        · exact absurd b z
        · rw [ho] at z; cases z
    · rcases f.nc a c' with z | z
      · exact c z
      · rw [ho] at z; cases z
theorem At.up {A : Wd × Hp} {W W' : Wd} {H H' : Hp} {Φ : List Sl} {σ : L2.St} (e : At A W H Φ σ) (f : Fr W H W' H') : At A W' H' Φ σ := ⟨e.fr.trans f, e.env.up f⟩
theorem At.inn {A : Wd × Hp} {W : Wd} {H : Hp} {Φ : List Sl} {σ : L2.St} (e : At A W H Φ σ) : In W H := e.fr.inn
theorem getset {α : Type} {xs : List α} {i j : Nat} {x y : α} (h : (xs.set i x)[j]? = some y) : (i = j ∧ x = y) ∨ (i ≠ j ∧ xs[j]? = some y) := by
  by_cases e : i = j
  · subst e
    by_cases l : i < xs.length
    · rw [List.getElem?_set_self l] at h
      exact .inl ⟨rfl, Option.some.inj h⟩
    · rw [List.getElem?_eq_none (by rw [List.length_set]; omega)] at h
      cases h
  · rw [List.getElem?_set_ne e] at h
    exact .inr ⟨e, h⟩
theorem lt_of_set {α : Type} {xs : List α} {i : Nat} {x y : α} (h : (xs.set i x)[i]? = some y) : i < xs.length := by
  by_cases l : i < xs.length
  · exact l
  · rw [List.getElem?_eq_none (by rw [List.length_set]; omega)] at h
    cases h
theorem En.set {H0 : Hp} {W : Wd} {H : Hp} {Φ : List Sl} {σ : L2.St} {i : Nat} {φ : Ty} {v : V} (e : En H0 W H Φ σ) (h : φ.is W v) : En H0 W H (Φ.set i (.im φ)) (σ.set i (some v)) := by
  refine ⟨by rw [List.length_set, List.length_set, e.len], fun j ψ q => ?_, fun j θ q => ?_, fun j k θ θ' a q r s t => ?_⟩
  · rcases getset q with ⟨rfl, z⟩ | ⟨n, q1⟩
    · cases z
      have l := lt_of_set q
      exact ⟨v, by rw [List.getElem?_set_self (by rw [e.len]; exact l)], h⟩
    · rw [List.getElem?_set_ne n]
      exact e.im j ψ q1
  · rcases getset q with ⟨rfl, z⟩ | ⟨n, q1⟩
    · cases z
    · rw [List.getElem?_set_ne n]
      exact e.ow j θ q1
  · rcases getset q with ⟨rfl, z⟩ | ⟨n, q1⟩
    · cases z
    rcases getset r with ⟨rfl, z⟩ | ⟨m, r1⟩
    · cases z
    rw [List.getElem?_set_ne n] at s
    rw [List.getElem?_set_ne m] at t
    exact e.ap j k θ θ' a q1 r1 s t
theorem En.no {H0 : Hp} {W : Wd} {H : Hp} {Φ : List Sl} {σ : L2.St} {i : Nat} {x : Option V} (e : En H0 W H Φ σ) : En H0 W H (Φ.set i .no) (σ.set i x) := by
  refine ⟨by rw [List.length_set, List.length_set, e.len], fun j ψ q => ?_, fun j θ q => ?_, fun j k θ θ' a q r s t => ?_⟩
  · rcases getset q with ⟨rfl, z⟩ | ⟨n, q1⟩
    · cases z
    · rw [List.getElem?_set_ne n]
      exact e.im j ψ q1
  · rcases getset q with ⟨rfl, z⟩ | ⟨n, q1⟩
    · cases z
    · rw [List.getElem?_set_ne n]
      exact e.ow j θ q1
  · rcases getset q with ⟨rfl, z⟩ | ⟨n, q1⟩
    · cases z
    rcases getset r with ⟨rfl, z⟩ | ⟨m, r1⟩
    · cases z
    rw [List.getElem?_set_ne n] at s
    rw [List.getElem?_set_ne m] at t
    exact e.ap j k θ θ' a q1 r1 s t
/-- a new object of one's own goes to a slot -/
theorem En.setOw {H0 : Hp} {W : Wd} {H : Hp} {Φ : List Sl} {σ : L2.St} {i : Nat} {θ : Th} {a : Addr} {o : HO} (e : En H0 W H Φ σ) (hb : W.B a = none) (hc : ¬ W.C a) (h0 : H0 a = none) (ho : H a = some o) (h : θ.is W a o)
    (new : ∀ (j : Nat) (θ' : Th), Φ[j]? = some (.ow θ') → σ[j]? ≠ some (some (.ref a))) : En H0 W H (Φ.set i (.ow θ)) (σ.set i (some (.ref a))) := by
  refine ⟨by rw [List.length_set, List.length_set, e.len], fun j ψ q => ?_, fun j θ q => ?_, fun j k θ θ' b q r s t => ?_⟩
  · rcases getset q with ⟨rfl, z⟩ | ⟨n, q1⟩
    · cases z
    · rw [List.getElem?_set_ne n]
      exact e.im j ψ q1
  · rcases getset q with ⟨rfl, z⟩ | ⟨n, q1⟩
    · cases z
      have l := lt_of_set q
      exact ⟨a, o, by rw [List.getElem?_set_self (by rw [e.len]; exact l)], hb, hc, h0, ho, h⟩
    · rw [List.getElem?_set_ne n]
      exact e.ow j θ q1
  · rcases getset q with ⟨rfl, z⟩ | ⟨n, q1⟩
    · rcases getset r with ⟨rfl, z⟩ | ⟨m, r1⟩
      · rfl
      rw [List.getElem?_set_self (by rw [e.len]; exact lt_of_set q)] at s
      rw [List.getElem?_set_ne m] at t
      cases s
      exact absurd t (new _ _ r1)
    · rcases getset r with ⟨rfl, z⟩ | ⟨m, r1⟩
      · rw [List.getElem?_set_self (by rw [e.len]; exact lt_of_set r)] at t
        rw [List.getElem?_set_ne n] at s
        cases t
        exact absurd s (new _ _ q1)
      rw [List.getElem?_set_ne n] at s
      rw [List.getElem?_set_ne m] at t
      exact e.ap j k θ θ' b q1 r1 s t

/-! ### judgements -/
section
variable (A : Wd × Hp)
/-- an expression's value has a type of which k holds -/
def De (te : TE) (Φ : List Sl) (k : Ty → Prop) : Prop := ∀ σ W H, At A W H Φ σ → ∀ Q : VK, (∀ φ v W2 H2, Fr W H W2 H2 → φ.is W2 v → k φ → Q v H2) → te σ H Q
/-- .. is a new object that nobody else has -/
def Dn (te : TE) (Φ : List Sl) (k : Th → Prop) : Prop := ∀ σ W H, At A W H Φ σ → ∀ Q : VK, (∀ θ a o W2 H2, Fr W H W2 H2 → H a = none → W2.B a = none → ¬ W2.C a → H2 a = some o → θ.is W2 a o → k θ → Q (.ref a) H2) → te σ H Q
def Dc (tt : TT) (Φ : List Sl) (k : Bool → Prop) : Prop := ∀ σ W H, At A W H Φ σ → ∀ Q : Bool → Hp → Prop, (∀ b W2 H2, Fr W H W2 H2 → k b → Q b H2) → tt σ H Q
def Da (ta : TA) (Φ : List Sl) (k : List Ty → Prop) : Prop := ∀ σ W H, At A W H Φ σ → ∀ Q : List V → Hp → Prop, (∀ φs vs W2 H2, Fr W H W2 H2 → Are W2 φs vs → k φs → Q vs H2) → ta σ H Q
def Do (to : TO) (Φ : List Sl) (k : Option Int → Prop) : Prop := ∀ σ W H, At A W H Φ σ → ∀ Q : Option Int → Hp → Prop, (∀ o W2 H2, Fr W H W2 H2 → k o → Q o H2) → to σ H Q
structure Out where
  nx : List Sl → Prop
  rt : Ty → Prop
  bk : List Sl → Prop := fun _ => False
  ct : List Sl → Prop := fun _ => False
/-- G: what was known at some time and is still -/
structure Sat (G : Wd) (O : Out) (D : Ends) : Prop where
  nx : ∀ Φ σ W H, O.nx Φ → At A W H Φ σ → Le G W → D.nx σ H
  rt : ∀ φ v W H, O.rt φ → Fr A.1 A.2 W H → φ.is W v → D.rt v H
  bk : ∀ Φ σ W H, O.bk Φ → At A W H Φ σ → Le G W → D.bk σ H
  ct : ∀ Φ σ W H, O.ct Φ → At A W H Φ σ → Le G W → D.ct σ H
def Dt (ts : L2.TS) (Φ : List Sl) (O : Out) : Prop := ∀ G D σ W H, Sat A G O D → At A W H Φ σ → Le G W → ts D σ H
/-- a list's value, to be read now -/
def Dl (te : TE) (Φ : List Sl) (k : List Ty → Prop) : Prop := ∀ σ W H, At A W H Φ σ → ∀ Q : VK, (∀ φs p vs W2 H2, Fr W H W2 H2 → (∀ W3 H3, Fr W2 H2 W3 H3 → H3 p = some (.lst vs)) → Are W2 φs vs → k φs → Q (.ref p) H2) → te σ H Q
/-- a target takes a value of the type ψ; us: the slots that it may change -/
def Agree (us : List Nat) (σ σ' : L2.St) : Prop := σ'.length = σ.length ∧ ∀ j, j ∉ us → σ'[j]? = σ[j]?
def Dg (g : TG) (us : List Nat) (ψ : Ty) (Φ : List Sl) (k : List Sl → Prop) : Prop := ∀ σ W H v, At A W H Φ σ → ψ.is W v → ∀ Q : L2.St → Hp → Prop, (∀ Φ' σ' W2 H2, Fr W H W2 H2 → At A W2 H2 Φ' σ' → Agree us σ σ' → k Φ' → Q σ' H2) → g v σ H Q
def Dgs (g : TGs) (us : List Nat) (ψs : List Ty) (Φ : List Sl) (k : List Sl → Prop) : Prop := ∀ σ W H vs, At A W H Φ σ → Are W ψs vs → ∀ Q : L2.St → Hp → Prop, (∀ Φ' σ' W2 H2, Fr W H W2 H2 → At A W2 H2 Φ' σ' → Agree us σ σ' → k Φ' → Q σ' H2) → g vs σ H Q
end
end Wl
set_option Elab.async false
set_option linter.all false
set_option maxRecDepth 100000
set_option maxHeartbeats 4000000
/-! Wr: one rule a construct, over types. -/
namespace Wl
open PySem PySem.Spec PyProof.Rows L2
theorem sz {n : Nat} (h : n ≤ 1000) : n ≤ sizeLine := Nat.le_of_lt (small1000 h)
def Rr (r : R2) (φ ψ : Ty) (k : Ty → Prop) : Prop := ∀ W H x y, In W H → φ.is W x → ψ.is W y → ∀ Q : VK, (∀ χ v W2 H2, Fr W H W2 H2 → χ.is W2 v → k χ → Q v H2) → r x y H Q
def Ru (r : V → Hp → VK → Prop) (φ : Ty) (k : Ty → Prop) : Prop := ∀ W H x, In W H → φ.is W x → ∀ Q : VK, (∀ χ v W2 H2, Fr W H W2 H2 → χ.is W2 v → k χ → Q v H2) → r x H Q
def Rc (r : List V → Hp → VK → Prop) (φs : List Ty) (k : Ty → Prop) : Prop := ∀ W H vs, In W H → Are W φs vs → ∀ Q : VK, (∀ χ v W2 H2, Fr W H W2 H2 → χ.is W2 v → k χ → Q v H2) → r vs H Q
section
variable {A : Wd × Hp} {K : PySem.W.Frag} {Φ : List Sl} {k : Ty → Prop} {ta tb tc te : TE} {tt tu : TT} {r r' : R2}
/-! ### expressions -/
theorem De.mono {k' : Ty → Prop} (h : De A te Φ k) (i : ∀ φ, k φ → k' φ) : De A te Φ k' := fun σ W H a Q q => h σ W H a Q fun φ v W2 H2 f p kp => q φ v W2 H2 f p (i φ kp)
theorem De_var {i : Nat} {φ : Ty} (e : Φ[i]? = some (.im φ)) (h : k φ) : De A (tVar i) Φ k := fun σ W H a Q q => by
  obtain ⟨v, s, p⟩ := a.env.im i φ e
  exact ⟨v, s, q φ v W H (Fr.refl a.inn) p h⟩
theorem De_c {v : V} (h : k (TV v)) : De A (tC v) Φ k := fun σ W H a Q q => q (TV v) v W H (Fr.refl a.inn) rfl h
theorem De_op (h : De A ta Φ fun φ => De A tb Φ fun ψ => Rr r φ ψ k) : De A (tOp r ta tb) Φ k := fun σ W H a Q q =>
  h σ W H a _ fun φ x W1 H1 f1 p1 h1 => h1 σ W1 H1 (a.up f1) _ fun ψ y W2 H2 f2 p2 h2 => h2 W2 H2 x y f2.inn (φ.up f2.le p1) p2 Q fun χ v W3 H3 f3 p3 k3 => q χ v W3 H3 ((f1.trans f2).trans f3) p3 k3
theorem De_un {r : V → Hp → VK → Prop} (h : De A ta Φ fun φ => Ru r φ k) : De A (tUn r ta) Φ k := fun σ W H a Q q =>
  h σ W H a _ fun φ x W1 H1 f1 p1 h1 => h1 W1 H1 x f1.inn p1 Q fun χ v W3 H3 f3 p3 k3 => q χ v W3 H3 (f1.trans f3) p3 k3
theorem De_cb {r : List V → Hp → VK → Prop} {ta : TA} (h : Da A ta Φ fun φs => Rc r φs k) : De A (tCB r ta) Φ k := fun σ W H a Q q =>
  h σ W H a _ fun φs vs W1 H1 f1 p1 h1 => h1 W1 H1 vs f1.inn p1 Q fun χ v W3 H3 f3 p3 k3 => q χ v W3 H3 (f1.trans f3) p3 k3
theorem Da_nil {k : List Ty → Prop} (h : k []) : Da A tNil Φ k := fun σ W H a Q q => q [] [] W H (Fr.refl a.inn) trivial h
theorem Da_cons {k : List Ty → Prop} {tr : TA} (h : De A te Φ fun φ => Da A tr Φ fun φs => k (φ :: φs)) : Da A (tCons te tr) Φ k := fun σ W H a Q q =>
  h σ W H a _ fun φ x W1 H1 f1 p1 h1 => h1 σ W1 H1 (a.up f1) _ fun φs vs W2 H2 f2 p2 h2 => q (φ :: φs) (x :: vs) W2 H2 (f1.trans f2) ⟨φ.up f2.le p1, p2⟩ h2
theorem De_ifExp {k : Ty → Prop} (h : Dc A tt Φ fun b => (b = true → De A ta Φ k) ∧ (b = false → De A tb Φ k)) : De A (tIf tt ta tb) Φ k := fun σ W H a Q q =>
  h σ W H a _ fun b W1 H1 f1 h1 => by
    cases b with
    | true => exact iteT (h1.1 rfl σ W1 H1 (a.up f1) Q fun χ v W3 H3 f3 p3 k3 => q χ v W3 H3 (f1.trans f3) p3 k3)
    | false => exact iteF (h1.2 rfl σ W1 H1 (a.up f1) Q fun χ v W3 H3 f3 p3 k3 => q χ v W3 H3 (f1.trans f3) p3 k3)
theorem De_chain (h : De A ta Φ fun φ => De A tb Φ fun ψ => Rr r φ ψ fun χ => ∃ b, χ = TB b ∧ (b = true → De A tc Φ fun ω => Rr r' ψ ω k) ∧ (b = false → k (TB false))) : De A (tChain r r' ta tb tc) Φ k := fun σ W H a Q q =>
  h σ W H a _ fun φ x W1 H1 f1 p1 h1 => h1 σ W1 H1 (a.up f1) _ fun ψ y W2 H2 f2 p2 h2 => h2 W2 H2 x y f2.inn (φ.up f2.le p1) p2 _ fun χ v W3 H3 f3 p3 k3 => by
    obtain ⟨b, rfl, kt, kf⟩ := k3
    have f13 := (f1.trans f2).trans f3
    refine ⟨b, p3, ?_⟩
    cases b with
    | true => exact iteT (kt rfl σ W3 H3 (a.up f13) _ fun ω w' W4 H4 f4 p4 h4 => h4 W4 H4 y w' f4.inn (ψ.up (f3.trans f4).le p2) p4 Q fun χ v W5 H5 f5 p5 k5 => q χ v W5 H5 ((f13.trans f4).trans f5) p5 k5)
    | false => exact iteF (q (TB false) (.bl false) W3 H3 f13 rfl (kf rfl))
/-! ### tests -/
theorem Dc.mono {k k' : Bool → Prop} (h : Dc A tt Φ k) (i : ∀ b, k b → k' b) : Dc A tt Φ k' := fun σ W H a Q q => h σ W H a Q fun b W2 H2 f kb => q b W2 H2 f (i b kb)
theorem Dc_test {k : Bool → Prop} (h : De A te Φ fun φ => ∃ b, φ = TB b ∧ k b) : Dc A (tTest te) Φ k := fun σ W H a Q q =>
  h σ W H a _ fun φ x W1 H1 f1 p1 ⟨b, e, kb⟩ => ⟨b, by subst e; exact p1, q b W1 H1 f1 kb⟩
theorem Dc_b {k : Bool → Prop} (h : De A te Φ fun φ => ∃ b, φ = TB b ∧ k b) : Dc A (tB te) Φ k := Dc_test h
theorem Dc_not {k : Bool → Prop} (h : Dc A tt Φ fun b => k (!b)) : Dc A (tNot tt) Φ k := fun σ W H a Q q => h σ W H a _ fun b W1 H1 f1 kb => q _ W1 H1 f1 kb
theorem Dc_and {k : Bool → Prop} (h : Dc A tt Φ fun b => (b = true → Dc A tu Φ k) ∧ (b = false → k false)) : Dc A (tAnd tt tu) Φ k := fun σ W H a Q q =>
  h σ W H a _ fun b W1 H1 f1 kb => by
    cases b with
    | true => exact iteT (kb.1 rfl σ W1 H1 (a.up f1) Q fun c W2 H2 f2 kc => q c W2 H2 (f1.trans f2) kc)
    | false => exact iteF (q false W1 H1 f1 (kb.2 rfl))
theorem Dc_or {k : Bool → Prop} (h : Dc A tt Φ fun b => (b = true → k true) ∧ (b = false → Dc A tu Φ k)) : Dc A (tOr tt tu) Φ k := fun σ W H a Q q =>
  h σ W H a _ fun b W1 H1 f1 kb => by
    cases b with
    | true => exact iteT (q true W1 H1 f1 (kb.1 rfl))
    | false => exact iteF (kb.2 rfl σ W1 H1 (a.up f1) Q fun c W2 H2 f2 kc => q c W2 H2 (f1.trans f2) kc)
theorem De_and (h : De A ta Φ fun φ => ∃ b, φ = TB b ∧ (b = true → De A tb Φ k) ∧ (b = false → k (TB false))) : De A (tAndV ta tb) Φ k := fun σ W H a Q q =>
  h σ W H a _ fun φ x W1 H1 f1 p1 ⟨b, e, kb⟩ => by
    subst e
    refine ⟨b, p1, ?_⟩
    cases b with
    | true => exact iteT (kb.1 rfl σ W1 H1 (a.up f1) Q fun χ v W3 H3 f3 p3 k3 => q χ v W3 H3 (f1.trans f3) p3 k3)
    | false => exact iteF (q _ _ W1 H1 f1 rfl (kb.2 rfl))
theorem De_or (h : De A ta Φ fun φ => ∃ b, φ = TB b ∧ (b = true → k (TB true)) ∧ (b = false → De A tb Φ k)) : De A (tOrV ta tb) Φ k := fun σ W H a Q q =>
  h σ W H a _ fun φ x W1 H1 f1 p1 ⟨b, e, kb⟩ => by
    subst e
    refine ⟨b, p1, ?_⟩
    cases b with
    | true => exact iteT (q _ _ W1 H1 f1 rfl (kb.1 rfl))
    | false => exact iteF (kb.2 rfl σ W1 H1 (a.up f1) Q fun χ v W3 H3 f3 p3 k3 => q χ v W3 H3 (f1.trans f3) p3 k3)
theorem De_not (h : De A ta Φ fun φ => ∃ b, φ = TB b ∧ k (TB (!b))) : De A (tNotV ta) Φ k := fun σ W H a Q q =>
  h σ W H a _ fun φ x W1 H1 f1 p1 ⟨b, e, kb⟩ => by
    subst e
    exact ⟨b, p1, q _ _ W1 H1 f1 rfl kb⟩
/-! ### operators -/
theorem Rr_I0 {g : Int → Int → V} {x y : Int} (h : k (TV (g x y))) : Rr (rI0 g) (TI x) (TI y) k := fun W H u v i p1 p2 Q q => ⟨x, y, p1, p2, q _ _ W H (Fr.refl i) rfl h⟩
theorem Rr_IC {g : Int → Int → V} {C : Int → Int → Prop} {x y : Int} (c : C x y) (h : k (TV (g x y))) : Rr (rI C g) (TI x) (TI y) k := fun W H u v i p1 p2 Q q => ⟨x, y, p1, p2, c, q _ _ W H (Fr.refl i) rfl h⟩
theorem Rr_eq {x y : V} (c : scal x y = true) (h : k (TB (decide (x = y)))) : Rr rEq (TV x) (TV y) k := fun W H u v i p1 p2 Q q => by
  obtain rfl : u = x := p1
  obtain rfl : v = y := p2
  exact ⟨c, q _ _ W H (Fr.refl i) rfl h⟩
theorem Rr_ne {x y : V} (c : scal x y = true) (h : k (TB (!decide (x = y)))) : Rr rNe (TV x) (TV y) k := fun W H u v i p1 p2 Q q => by
  obtain rfl : u = x := p1
  obtain rfl : v = y := p2
  exact ⟨c, q _ _ W H (Fr.refl i) rfl h⟩
theorem atI_are {W : Wd} {φs : List Ty} {vs : List V} {i : Int} {χ : Ty} (a : Are W φs vs) (h : atI φs i = some χ) : ∃ v, atI vs i = some v ∧ χ.is W v := by
  unfold atI at h ⊢
  rw [a.len]
  cases e : ixN φs.length i with
  | none => rw [e] at h; cases h
  | some j =>
    rw [e] at h
    exact a.get h
theorem Rr_ixL {φs : List Ty} {i : Int} {χ : Ty} (h : atI φs i = some χ) (hk : k χ) : Rr (rIxL K) (TL φs) (TI i) k := fun W H u v w p1 p2 Q q => by
  obtain ⟨p, vs, rfl, e, a⟩ := p1
  obtain rfl : v = .int i := p2
  obtain ⟨x, e1, e2⟩ := atI_are a h
  exact ⟨p, vs, i, x, rfl, rfl, .inl (.inl (w.b _ _ e)), e1, q _ _ W H (Fr.refl w) e2 hk⟩
theorem Rr_ixQ {ns : List Int} {i : Int} {x : Int} (h : atI ns i = some x) (hk : k (TI x)) : Rr (rIxL K) (TQ K ns) (TI i) k := fun W H u v w p1 p2 Q q => by
  obtain ⟨p, rfl, e⟩ := p1
  obtain rfl : v = .int i := p2
  have e1 : atI (ns.map V.int) i = some (.int x) := by
    unfold atI at h ⊢
    rw [List.length_map]
    cases e : ixN ns.length i with
    | none => rw [e] at h; cases h
    | some j =>
      rw [e] at h
      show (ns.map V.int)[j]? = _
      rw [List.getElem?_map, show ns[j]? = some x from h]
      rfl
  exact ⟨p, _, i, .int x, rfl, rfl, w.b.seq e, e1, q _ _ W H (Fr.refl w) rfl hk⟩
theorem Rr_ixU {φs : List Ty} {i : Int} {χ : Ty} (h : atI φs i = some χ) (hk : k χ) : Rr (rIxT K) (TU φs) (TI i) k := fun W H u v w p1 p2 Q q => by
  obtain ⟨p, vs, rfl, e, a⟩ := p1
  obtain rfl : v = .int i := p2
  obtain ⟨x, e1, e2⟩ := atI_are a h
  exact ⟨p, vs, i, x, rfl, rfl, .inl (.inl (w.b _ _ e)), e1, q _ _ W H (Fr.refl w) e2 hk⟩
theorem Rr_ixS {z : Str} {i : Int} {c : Nat} (hz : z.length ≤ sizeLine) (h : atI z.cps.toList i = some c) (hk : k (TS ⟨#[c]⟩)) : Rr rIxS (TS z) (TI i) k := fun W H u v w p1 p2 Q q => by
  obtain rfl : u = .str z := p1
  obtain rfl : v = .int i := p2
  exact ⟨z, i, c, rfl, rfl, hz, h, q _ _ W H (Fr.refl w) rfl hk⟩
/-! ### new objects -/
theorem De_tup {ta : TA} (h : Da A ta Φ fun φs => φs.length ≤ 1000 ∧ k (TU φs)) : De A (tTup ta) Φ k := fun σ W H a Q q =>
  h σ W H a _ fun φs vs W1 H1 f1 p1 ⟨l, kh⟩ => ⟨sz (by rw [p1.len]; exact l), fun p n => q (TU φs) (.ref p) _ _ (f1.trans (Fr.new f1.inn n)) ⟨p, vs, rfl, Wd.add_at, p1.up (Le.add (f1.inn.out n).1)⟩ kh⟩
theorem De_lst {ta : TA} (h : Da A ta Φ fun φs => φs.length ≤ 1000 ∧ k (TL φs)) : De A (tLst ta) Φ k := fun σ W H a Q q =>
  h σ W H a _ fun φs vs W1 H1 f1 p1 ⟨l, kh⟩ => ⟨sz (by rw [p1.len]; exact l), fun p n => q (TL φs) (.ref p) _ _ (f1.trans (Fr.new f1.inn n)) ⟨p, vs, rfl, Wd.add_at, p1.up (Le.add (f1.inn.out n).1)⟩ kh⟩
theorem Dn_lst {k : Th → Prop} {ta : TA} (h : Da A ta Φ fun φs => φs.length ≤ 1000 ∧ k (CL φs)) : Dn A (tLst ta) Φ k := fun σ W H a Q q =>
  h σ W H a _ fun φs vs W1 H1 f1 p1 ⟨l, kh⟩ => ⟨sz (by rw [p1.len]; exact l), fun p n => q (CL φs) p (.lst vs) W1 _ (f1.own (f1.was n) (f1.inn.out n).1 (f1.inn.out n).2) (f1.was n) (f1.inn.out n).1 (f1.inn.out n).2 upd_same ⟨vs, rfl, p1⟩ kh⟩
/-- a cell -/
theorem De_cell {ta : TA} (h : Da A ta Φ fun φs => (∃ x, φs = [TI x]) ∧ k TC) : De A (tLst ta) Φ k := fun σ W H a Q q =>
  h σ W H a _ fun φs vs W1 H1 f1 p1 ⟨⟨x, e⟩, kh⟩ => by
    subst e
    obtain ⟨v, rfl, p9⟩ := p1.un
    obtain rfl : v = .int x := p9
    exact ⟨sz (by show 1 ≤ 1000; decide), fun p n => q TC (.ref p) (W1.cell p) _ ((f1.own (f1.was n) (f1.inn.out n).1 (f1.inn.out n).2).newCell (f1.was n) (f1.inn.out n).1 upd_same) ⟨p, rfl, .inr rfl⟩ kh⟩
/-! ### lists to be read -/
theorem Dl_im {k : List Ty → Prop} {i : Nat} {φs : List Ty} (e : Φ[i]? = some (.im (TL φs))) (h : k φs) : Dl A (tVar i) Φ k := fun σ W H a Q q => by
  obtain ⟨v, s, p, vs, rfl, hb, ar⟩ := a.env.im i _ e
  exact ⟨_, s, q φs p vs W H (Fr.refl a.inn) (fun W3 H3 f => f.inn.b _ _ (f.le.b _ _ hb)) ar h⟩
theorem Dl_ow {k : List Ty → Prop} {i : Nat} {φs : List Ty} (e : Φ[i]? = some (.ow (CL φs))) (h : k φs) : Dl A (tVar i) Φ k := fun σ W H a Q q => by
  obtain ⟨p, o, s, nb, nc, _, ho, vs, rfl, ar⟩ := a.env.ow i _ e
  exact ⟨_, s, q φs p vs W H (Fr.refl a.inn) (fun W3 H3 f => f.keep _ _ ho nc) ar h⟩
theorem Dl_de {k : List Ty → Prop} (h : De A te Φ fun φ => ∃ φs, φ = TL φs ∧ k φs) : Dl A te Φ k := fun σ W H a Q q =>
  h σ W H a Q fun φ v W2 H2 f p ⟨φs, e, kh⟩ => by
    subst e
    obtain ⟨b, vs, rfl, hb, ar⟩ := p
    exact q φs b vs W2 H2 f (fun W3 H3 g => g.inn.b _ _ (g.le.b _ _ hb)) ar kh
theorem Dl_dn {k : List Ty → Prop} (h : Dn A te Φ fun θ => ∃ φs, θ = CL φs ∧ k φs) : Dl A te Φ k := fun σ W H a Q q =>
  h σ W H a Q fun θ b o W2 H2 f n nb nc ho p ⟨φs, e, kh⟩ => by
    subst e
    obtain ⟨vs, rfl, ar⟩ := p
    exact q φs b vs W2 H2 f (fun W3 H3 g => g.keep _ _ ho nc) ar kh
/-- a new object, known at once -/
theorem De_dn (h : Dn A te Φ fun θ => ∃ φs, θ = CL φs ∧ k (TL φs)) : De A te Φ k := fun σ W H a Q q =>
  h σ W H a Q fun θ b o W2 H2 f n nb nc ho p ⟨φs, e, kh⟩ => by
    subst e
    obtain ⟨vs, rfl, ar⟩ := p
    exact q (TL φs) (.ref b) (W2.add b (.lst vs)) H2 (f.know ho n nb nc) ⟨b, vs, rfl, Wd.add_at, ar.up (Le.add nb)⟩ kh
abbrev rLenK (K : PySem.W.Frag) : List V → Hp → VK → Prop := fun xs H Q => ∃ p ys, xs = [.ref p] ∧ (SqL K H p ys ∨ SqT K H p ys) ∧ Q (.int ys.length) H
theorem De_len (h : Dl A ta Φ fun φs => k (TI φs.length)) : De A (tCB (rLenK K) (tCons ta tNil)) Φ k := fun σ W H a Q q =>
  h σ W H a _ fun φs p vs W2 H2 f st ar kh => ⟨p, vs, rfl, .inl (.inl (.inl (st W2 H2 (Fr.refl f.inn)))), by rw [ar.len]; exact q _ _ W2 H2 f rfl kh⟩
theorem Rc_lenU {φs : List Ty} (h : k (TI φs.length)) : Rc (rLenK K) [TU φs] k := fun W H vs i a Q q => by
    obtain ⟨v, rfl, p, us, rfl, e, ar⟩ := a.un
    exact ⟨p, us, rfl, .inr (.inl (.inl (i.b _ _ e))), by rw [ar.len]; exact q _ _ W H (Fr.refl i) rfl h⟩
theorem Rc_lenQ {ns : List Int} (h : k (TI ns.length)) : Rc (rLenK K) [TQ K ns] k := fun W H vs i a Q q => by
    obtain ⟨v, rfl, p, rfl, e⟩ := a.un
    have e2 : SqL K H p (ns.map V.int) := i.b.seq e
    refine ⟨p, ns.map V.int, rfl, .inl e2, ?_⟩
    rw [List.length_map]
    exact q _ _ W H (Fr.refl i) rfl h
theorem De_ixOw (h : Dl A ta Φ fun φs => De A tb Φ fun ψ => ∃ i χ, ψ = TI i ∧ atI φs i = some χ ∧ k χ) : De A (tOp (rIxL K) ta tb) Φ k := fun σ W H a Q q =>
  h σ W H a _ fun φs p vs W2 H2 f st ar kh => kh σ W2 H2 (a.up f) _ fun ψ y W3 H3 f3 p3 ⟨i, χ, e, he, hk⟩ => by
    subst e
    obtain ⟨x, e1, e2⟩ := atI_are (ar.up f3.le) he
    exact ⟨p, vs, i, x, rfl, p3, .inl (.inl (st W3 H3 f3)), e1, q _ _ W3 H3 (f.trans f3) e2 hk⟩
theorem Dn_cat {k : Th → Prop} (h : Dl A ta Φ fun φs => Dl A tb Φ fun ψs => φs.length + ψs.length ≤ 1000 ∧ k (CL (φs ++ ψs))) : Dn A (tOp rCat ta tb) Φ k := fun σ W H a Q q =>
  h σ W H a _ fun φs p vs W1 H1 f1 st ar h1 => h1 σ W1 H1 (a.up f1) _ fun ψs p' us W2 H2 f2 st2 ar2 ⟨l, kh⟩ => by
    refine ⟨p, p', vs, us, rfl, rfl, st W2 H2 f2, st2 W2 H2 (Fr.refl f2.inn), sz (by rw [ar.len, ar2.len]; exact l), fun b n => ?_⟩
    have f := f1.trans f2
    exact q (CL (φs ++ ψs)) b (.lst (vs ++ us)) W2 _ (f.own (f.was n) (f.inn.out n).1 (f.inn.out n).2) (f.was n) (f.inn.out n).1 (f.inn.out n).2 upd_same ⟨_, rfl, Are.app ar2 (ar.up f2.le)⟩ kh
theorem Dn_rep {k : Th → Prop} (h : Dl A ta Φ fun φs => De A tb Φ fun ψ => ∃ n : Nat, ψ = TI n ∧ φs.length * n ≤ 1000 ∧ n ≤ 1000 ∧ k (CL ((List.replicate n φs).flatten))) : Dn A (tOp rRep ta tb) Φ k := fun σ W H a Q q =>
  h σ W H a _ fun φs p vs W1 H1 f1 st ar h1 => h1 σ W1 H1 (a.up f1) _ fun ψ y W2 H2 f2 p2 ⟨n, e, l, l2, kh⟩ => by
    subst e
    have f := f1.trans f2
    refine ⟨p, n, vs, rfl, p2, st W2 H2 f2, by omega, by omega, sz (by rw [ar.len, Int.toNat_natCast]; exact l), fun b nb => ?_⟩
    have e2 : ∀ m : Nat, Are W2 ((List.replicate m φs).flatten) ((List.replicate m vs).flatten) := fun m => by
      induction m with
      | zero => exact trivial
      | succ m ih => rw [List.replicate_succ, List.replicate_succ, List.flatten_cons, List.flatten_cons]; exact Are.app ih (ar.up f2.le)
    have := e2 n
    rw [Int.toNat_natCast]
    exact q (CL ((List.replicate n φs).flatten)) b (.lst ((List.replicate n vs).flatten)) W2 _ (f.own (f.was nb) (f.inn.out nb).1 (f.inn.out nb).2) (f.was nb) (f.inn.out nb).1 (f.inn.out nb).2 upd_same ⟨_, rfl, this⟩ kh
end
end Wl
set_option Elab.async false
set_option linter.all false
set_option maxRecDepth 100000
set_option maxHeartbeats 4000000
/-! Ws: statements, loops, calls. -/
namespace Wl
open PySem PySem.Spec PyProof.Rows L2
section
variable {A : Wd × Hp} {K : PySem.W.Frag} {Φ : List Sl} {O : Out} {ta tb tc te : TE} {tt tu : TT} {t u : L2.TS}
/-! ### statements -/
theorem Dt_next (h : O.nx Φ) : Dt A tNext Φ O := fun G D σ W H s a g => s.nx Φ σ W H h a g
theorem Dt_seq (h : Dt A t Φ { O with nx := fun Φ' => Dt A u Φ' O }) : Dt A (tSeq t u) Φ O := fun G D σ W H s a g =>
  h G { D with nx := u D } σ W H ⟨fun Φ' σ' W' H' k a' g' => k G D σ' W' H' s a' g', s.rt, s.bk, s.ct⟩ a g
theorem Dt_brk (h : O.bk Φ) : Dt A tBreak Φ O := fun G D σ W H s a g => s.bk Φ σ W H h a g
theorem Dt_cont (h : O.ct Φ) : Dt A tCont Φ O := fun G D σ W H s a g => s.ct Φ σ W H h a g
theorem Dt_drop (h : De A te Φ fun _ => O.nx Φ) : Dt A (tDrop te) Φ O := fun G D σ W H s a g =>
  h σ W H a _ fun φ v W2 H2 f p k => s.nx Φ σ W2 H2 k (a.up f) (g.trans f.le)
theorem Dt_ret (h : De A te Φ fun φ => O.rt φ) : Dt A (tRet te) Φ O := fun G D σ W H s a g =>
  h σ W H a _ fun φ v W2 H2 f p k => s.rt φ v W2 H2 k (a.fr.trans f) p
theorem Dt_retN (h : O.rt TN) : Dt A tRetN Φ O := fun G D σ W H s a g => s.rt TN .non W H h a.fr rfl
theorem Dt_if (h : Dc A tt Φ fun b => (b = true → Dt A t Φ O) ∧ (b = false → Dt A u Φ O)) : Dt A (tIfS tt t u) Φ O := fun G D σ W H s a g =>
  h σ W H a _ fun b W1 H1 f1 h1 => by
    cases b with
    | true => exact iteT (h1.1 rfl G D σ W1 H1 s (a.up f1) (g.trans f1.le))
    | false => exact iteF (h1.2 rfl G D σ W1 H1 s (a.up f1) (g.trans f1.le))
theorem At.set {W : Wd} {H : Hp} {σ : L2.St} {i : Nat} {φ : Ty} {v : V} (a : At A W H Φ σ) (h : φ.is W v) : At A W H (Φ.set i (.im φ)) (σ.set i (some v)) := ⟨a.fr, a.env.set h⟩
theorem Dt_asg {g : TG} {us : List Nat} (h : De A te Φ fun φ => Dg A g us φ Φ O.nx) : Dt A (tAsg te g) Φ O := fun G D σ W H s a gl =>
  h σ W H a _ fun φ v W2 H2 f p k => k σ W2 H2 v (a.up f) p _ fun Φ' σ' W3 H3 f3 a3 _ kn => s.nx Φ' σ' W3 H3 kn a3 ((gl.trans f.le).trans f3.le)
theorem Dt_set {i : Nat} (h : De A te Φ fun φ => O.nx (Φ.set i (.im φ))) : Dt A (tAsg te (gName i)) Φ O := fun G D σ W H s a g =>
  h σ W H a _ fun φ v W2 H2 f p k => s.nx _ _ W2 H2 k ((a.up f).set p) (g.trans f.le)
theorem At.fresh {W : Wd} {H : Hp} {σ : L2.St} {b : Addr} (a : At A W H Φ σ) (n : H b = none) : ∀ (j : Nat) (θ' : Th), Φ[j]? = some (.ow θ') → σ[j]? ≠ some (some (.ref b)) := fun j θ' e z => by
  obtain ⟨c, o, s, _, _, _, ho, _⟩ := a.env.ow j θ' e
  rw [s] at z
  cases z
  rw [n] at ho
  cases ho
theorem Dt_setOw {i : Nat} (h : Dn A te Φ fun θ => O.nx (Φ.set i (.ow θ))) : Dt A (tAsg te (gName i)) Φ O := fun G D σ W H s a g =>
  h σ W H a _ fun θ b o W2 H2 f n nb nc ho p k => s.nx _ _ W2 H2 k ⟨a.fr.trans f, (a.env.up f).setOw nb nc (a.fr.was n) ho p (fun j θ' e => a.fresh n j θ' e)⟩ (g.trans f.le)
/-- one's own object becomes known -/
theorem At.know {W : Wd} {H : Hp} {σ : L2.St} {i : Nat} {φs : List Ty} (a : At A W H Φ σ) (e : Φ[i]? = some (.ow (CL φs))) : ∃ W2, Le W W2 ∧ (∃ v, σ[i]? = some (some v) ∧ (TL φs).is W2 v) ∧ At A W2 H (Φ.set i (.im (TL φs))) σ := by
  obtain ⟨p, o, s, nb, nc, n0, ho, vs, rfl, ar⟩ := a.env.ow i _ e
  have l : Le W (W.add p (.lst vs)) := Le.add nb
  have ty : (TL φs).is (W.add p (.lst vs)) (.ref p) := ⟨p, vs, rfl, Wd.add_at, ar.up l⟩
  have fr : Fr A.1 A.2 (W.add p (.lst vs)) H := a.fr.know ho n0 nb nc
  have li : i < Φ.length := by
    by_cases z : i < Φ.length
    · exact z
    · rw [List.getElem?_eq_none (by omega)] at e; cases e
  refine ⟨W.add p (.lst vs), l, ⟨_, s, ty⟩, fr, by rw [List.length_set]; exact a.env.len, fun j ψ q => ?_, fun j θ q => ?_, fun j k θ θ' b q r s1 s2 => ?_⟩
  · rcases getset q with ⟨rfl, z⟩ | ⟨n, q1⟩
    · cases z
      exact ⟨_, s, ty⟩
    · obtain ⟨v, s1, p1⟩ := a.env.im j ψ q1
      exact ⟨v, s1, ψ.up l p1⟩
  · rcases getset q with ⟨rfl, z⟩ | ⟨n, q1⟩
    · cases z
    · obtain ⟨b, o, s1, nb1, nc1, n01, ho1, th⟩ := a.env.ow j θ q1
      have bp : b ≠ p := fun z => n (a.env.ap i j _ _ p e q1 s (z ▸ s1))
      exact ⟨b, o, s1, by rw [show (W.add p (.lst vs)).B b = W.B b from upd_ne bp]; exact nb1, nc1, n01, ho1, θ.up l th⟩
  · rcases getset q with ⟨rfl, z⟩ | ⟨n, q1⟩
    · cases z
    rcases getset r with ⟨rfl, z⟩ | ⟨m, r1⟩
    · cases z
    exact a.env.ap j k θ θ' b q1 r1 s1 s2
theorem Dt_know (i : Nat) {φs : List Ty} (e : Φ[i]? = some (.ow (CL φs))) (h : Dt A t (Φ.set i (.im (TL φs))) O) : Dt A t Φ O := fun G D σ W H s a g => by
  obtain ⟨W2, l, _, a2⟩ := a.know e
  exact h G D σ W2 H s a2 (g.trans l)
theorem Dt_retOw {i : Nat} {φs : List Ty} (e : Φ[i]? = some (.ow (CL φs))) (h : O.rt (TL φs)) : Dt A (tRet (tVar i)) Φ O := fun G D σ W H s a g => by
  obtain ⟨W2, l, ⟨v, s1, ty⟩, a2⟩ := a.know e
  exact ⟨v, s1, s.rt _ v W2 H h a2.fr ty⟩
/-- one's own object changes -/
theorem At.mod {W : Wd} {H : Hp} {σ : L2.St} {i : Nat} {θ θ' : Th} {p : Addr} {o' : HO} (a : At A W H Φ σ) (e : Φ[i]? = some (.ow θ)) (s : σ[i]? = some (some (.ref p))) (nb : W.B p = none) (nc : ¬ W.C p) (n0 : A.2 p = none) (h : θ'.is W p o') : At A W (upd H p o') (Φ.set i (.ow θ')) σ := by
  refine ⟨a.fr.own n0 nb nc, by rw [List.length_set]; exact a.env.len, fun j ψ q => ?_, fun j θ1 q => ?_, fun j k θ1 θ2 b q r s1 s2 => ?_⟩
  · rcases getset q with ⟨rfl, z⟩ | ⟨n, q1⟩
    · cases z
    · exact a.env.im j ψ q1
  · rcases getset q with ⟨rfl, z⟩ | ⟨n, q1⟩
    · cases z
      exact ⟨p, o', s, nb, nc, n0, upd_same, h⟩
    · obtain ⟨b, o, s1, nb1, nc1, n01, ho1, th⟩ := a.env.ow j θ1 q1
      have bp : b ≠ p := fun z => n (a.env.ap i j _ _ p e q1 s (z ▸ s1))
      exact ⟨b, o, s1, nb1, nc1, n01, by rw [upd_ne bp]; exact ho1, th⟩
  · have c : ∀ {j : Nat} {θ1 : Th}, (Φ.set i (.ow θ'))[j]? = some (.ow θ1) → ∃ θ3, Φ[j]? = some (.ow θ3) := fun {j θ1} q => by
      rcases getset q with ⟨rfl, z⟩ | ⟨n, q1⟩
      · exact ⟨_, e⟩
      · exact ⟨_, q1⟩
    obtain ⟨_, q1⟩ := c q
    obtain ⟨_, r1⟩ := c r
    exact a.env.ap j k _ _ b q1 r1 s1 s2
theorem Dt_append {i : Nat} {φs : List Ty} (e : Φ[i]? = some (.ow (CL φs))) (l : φs.length < 1000) (h : De A te Φ fun χ => O.nx (Φ.set i (.ow (CL (φs ++ [χ]))))) : Dt A (tDrop (tBM K "list" rAppend (tVar i) (tCons te tNil))) Φ O := fun G D σ W H s a g => by
  obtain ⟨p, o, s1, nb, nc, n0, ho, vs, rfl, ar⟩ := a.env.ow i _ e
  refine ⟨.ref p, s1, .inl ⟨rfl, vs, .inl (.inl ho)⟩, h σ W H a _ fun χ y W2 H2 f p2 k => ?_⟩
  obtain ⟨p', o2, s2, nb2, nc2, n02, ho2, us, rfl, ar2⟩ := (a.up f).env.ow i _ e
  rw [s1] at s2
  cases s2
  exact ⟨p, us, y, rfl, rfl, ho2, Nat.lt_of_lt_of_le (by rw [ar2.len]; exact l) (sz (Nat.le_refl 1000)), s.nx _ _ W2 _ k ((a.up f).mod e s1 nb2 nc2 n02 ⟨_, rfl, Are.app (Are.one p2) ar2⟩) (g.trans f.le)⟩
/-- row[j] = e, the row one's own -/
theorem ixN_lt {n : Nat} {i : Int} {j : Nat} (h : ixN n i = some j) : j < n := by
  unfold ixN at h
  split at h
  · split at h
    · cases h; omega
    · cases h
  · split at h
    · cases h; omega
    · cases h
theorem Dt_put {i : Nat} {φs : List Ty} (e : Φ[i]? = some (.ow (CL φs))) (h : De A te Φ fun χ => De A tb Φ fun ψ => ∃ z j, ψ = TI z ∧ ixN φs.length z = some j ∧ O.nx (Φ.set i (.ow (CL (φs.set j χ))))) : Dt A (tAsg te (gSub (tVar i) tb rSetL)) Φ O := fun G D σ W H s a g =>
  h σ W H a _ fun χ y W2 H2 f p2 k => by
    obtain ⟨p, o, s1, _⟩ := (a.up f).env.ow i _ e
    refine ⟨.ref p, s1, k σ W2 H2 (a.up f) _ fun ψ z W3 H3 f3 p3 ⟨zi, j, ez, hj, kn⟩ => ?_⟩
    subst ez
    obtain ⟨p', o3, s3, nb3, nc3, n03, ho3, us, rfl, ar3⟩ := (a.up (f.trans f3)).env.ow i _ e
    rw [s1] at s3
    cases s3
    refine ⟨p, us, zi, j, rfl, p3, ho3, by rw [ar3.len]; exact hj, s.nx _ _ W3 _ kn ((a.up (f.trans f3)).mod e s1 nb3 nc3 n03 ⟨_, rfl, Are.set (χ.up f3.le p2) j ar3⟩) (g.trans (f.trans f3).le)⟩
/-! ### targets -/
theorem Dg_name {i : Nat} {ψ : Ty} {k : List Sl → Prop} (h : k (Φ.set i (.im ψ))) : Dg A (gName i) [i] ψ Φ k := fun σ W H v a p Q q =>
  q _ _ W H (Fr.refl a.inn) (a.set p) ⟨List.length_set .., fun j hj => List.getElem?_set_ne fun z => hj (by subst z; exact List.mem_singleton.mpr rfl)⟩ h
theorem Agree.trans {us ws : List Nat} {σ1 σ2 σ3 : L2.St} (h : Agree us σ1 σ2) (k : Agree ws σ2 σ3) : Agree (us ++ ws) σ1 σ3 := ⟨k.1.trans h.1, fun j hj => (k.2 j fun z => hj (List.mem_append_right _ z)).trans (h.2 j fun z => hj (List.mem_append_left _ z))⟩
theorem Dgs_nil {k : List Sl → Prop} (h : k Φ) : Dgs A gNil [] [] Φ k := fun σ W H vs a p Q q => by
  match vs, p with
  | [], _ => exact ⟨rfl, q _ _ W H (Fr.refl a.inn) a ⟨rfl, fun _ _ => rfl⟩ h⟩
theorem Are.uncons {W : Wd} {φ : Ty} {φs : List Ty} : ∀ {vs : List V}, Are W (φ :: φs) vs → ∃ v us, vs = v :: us ∧ φ.is W v ∧ Are W φs us
  | [], h => h.elim
  | v :: us, h => ⟨v, us, rfl, h.1, h.2⟩
theorem Dgs_cons {g : TG} {gs : TGs} {us ws : List Nat} {ψ : Ty} {ψs : List Ty} {k : List Sl → Prop} (h : Dg A g us ψ Φ fun Φ' => Dgs A gs ws ψs Φ' k) : Dgs A (gCons g gs) (us ++ ws) (ψ :: ψs) Φ k := fun σ W H vs a p Q q => by
  obtain ⟨v, r, rfl, p1, p2⟩ := p.uncons
  exact ⟨v, r, rfl, h σ W H v a p1 _ fun Φ1 σ1 W1 H1 f1 a1 g1 k1 => k1 σ1 W1 H1 r a1 (p2.up f1.le) Q fun Φ2 σ2 W2 H2 f2 a2 g2 k2 => q Φ2 σ2 W2 H2 (f1.trans f2) a2 (g1.trans g2) k2⟩
theorem Dg_tup {n : Nat} {gs : TGs} {us : List Nat} {ψs : List Ty} {k : List Sl → Prop} (hn : ψs.length = n) (h : Dgs A gs us ψs Φ k) : Dg A (gTup K n gs) us (TU ψs) Φ k := fun σ W H v a ⟨p, vs, e, hb, ar⟩ Q q =>
  ⟨p, vs, e, .inl (.inl (a.inn.b _ _ hb)), by rw [ar.len]; exact hn, h σ W H vs a ar Q q⟩
/-! ### loops -/
theorem Dt_forL {ψs : List Ty} {g : TG} {us : List Nat} (I : Nat → List Sl → Prop) (hl : De A te Φ fun φ => φ = TL ψs) (h0 : I 0 Φ)
    (hs : ∀ j ψ Φ', ψs[j]? = some ψ → I j Φ' → Dg A g us ψ Φ' fun Φ2 => Dt A t Φ2 ⟨I (j + 1), O.rt, O.nx, I (j + 1)⟩) (hd : ∀ Φ', I ψs.length Φ' → O.nx Φ') : Dt A (tFor (iList K te) g t) Φ O := fun G D σ W H s a gl =>
  hl σ W H a _ fun φ v W1 H1 f1 p1 e => by
    subst e
    obtain ⟨p, vs, rfl, hb, ar⟩ := p1
    refine ⟨p, rfl, ⟨vs, .inl (.inl (f1.inn.b _ _ hb))⟩, ?_⟩
    refine for_list (K := K) (a := p) (xs := vs) (fun j σ' H' => ∃ W' Φ', At A W' H' Φ' σ' ∧ Le W1 W' ∧ I j Φ') ⟨W1, Φ, a.up f1, Le.refl _, h0⟩ (fun j σ' H' _ q => ?_) (fun j x σ' H' hx q => ?_) (fun σ' H' q => ?_)
    · obtain ⟨W', Φ', a', l', _⟩ := q
      exact .inl (.inl (a'.inn.b _ _ (l'.b _ _ hb)))
    · obtain ⟨W', Φ', a', l', i'⟩ := q
      obtain ⟨ψ, e2, tx⟩ := ar.get' hx
      refine hs j ψ Φ' e2 i' σ' W' H' x a' (ψ.up l' tx) _ fun Φ2 σ2 W2 H2 f2 a2 _ k2 => ?_
      exact k2 W1 _ σ2 W2 H2 ⟨fun Φ3 σ3 W3 H3 i3 a3 l3 => ⟨W3, Φ3, a3, l3, i3⟩, s.rt, fun Φ3 σ3 W3 H3 i3 a3 l3 => s.nx Φ3 σ3 W3 H3 i3 a3 ((gl.trans f1.le).trans l3), fun Φ3 σ3 W3 H3 i3 a3 l3 => ⟨W3, Φ3, a3, l3, i3⟩⟩ a2 (l'.trans f2.le)
    · obtain ⟨W', Φ', a', l', i'⟩ := q
      rw [ar.len] at i'
      exact s.nx Φ' σ' W' H' (hd Φ' i') a' ((gl.trans f1.le).trans l')
theorem Dt_forU {ψs : List Ty} {g : TG} {us : List Nat} (I : Nat → List Sl → Prop) (hl : De A te Φ fun φ => φ = TU ψs) (h0 : I 0 Φ)
    (hs : ∀ j ψ Φ', ψs[j]? = some ψ → I j Φ' → Dg A g us ψ Φ' fun Φ2 => Dt A t Φ2 ⟨I (j + 1), O.rt, O.nx, I (j + 1)⟩) (hd : ∀ Φ', I ψs.length Φ' → O.nx Φ') : Dt A (tFor (iTup K te) g t) Φ O := fun G D σ W H s a gl =>
  hl σ W H a _ fun φ v W1 H1 f1 p1 e => by
    subst e
    obtain ⟨p, vs, rfl, hb, ar⟩ := p1
    refine ⟨p, rfl, ⟨vs, .inl (.inl (f1.inn.b _ _ hb))⟩, ?_⟩
    refine for_tup (K := K) (a := p) (xs := vs) (fun j σ' H' => ∃ W' Φ', At A W' H' Φ' σ' ∧ Le W1 W' ∧ I j Φ') ⟨W1, Φ, a.up f1, Le.refl _, h0⟩ (fun j σ' H' _ q => ?_) (fun j x σ' H' hx q => ?_) (fun σ' H' q => ?_)
    · obtain ⟨W', Φ', a', l', _⟩ := q
      exact .inl (.inl (a'.inn.b _ _ (l'.b _ _ hb)))
    · obtain ⟨W', Φ', a', l', i'⟩ := q
      obtain ⟨ψ, e2, tx⟩ := ar.get' hx
      refine hs j ψ Φ' e2 i' σ' W' H' x a' (ψ.up l' tx) _ fun Φ2 σ2 W2 H2 f2 a2 _ k2 => ?_
      exact k2 W1 _ σ2 W2 H2 ⟨fun Φ3 σ3 W3 H3 i3 a3 l3 => ⟨W3, Φ3, a3, l3, i3⟩, s.rt, fun Φ3 σ3 W3 H3 i3 a3 l3 => s.nx Φ3 σ3 W3 H3 i3 a3 ((gl.trans f1.le).trans l3), fun Φ3 σ3 W3 H3 i3 a3 l3 => ⟨W3, Φ3, a3, l3, i3⟩⟩ a2 (l'.trans f2.le)
    · obtain ⟨W', Φ', a', l', i'⟩ := q
      rw [ar.len] at i'
      exact s.nx Φ' σ' W' H' (hd Φ' i') a' ((gl.trans f1.le).trans l')
/-- over range(n) -/
theorem Dt_forR {ta : TA} {n : Nat} {g : TG} {us : List Nat} (I : Nat → List Sl → Prop) (hl : Da A ta Φ fun φs => ∃ j : Int, φs = [TI j] ∧ j.toNat = n ∧ -(2 ^ 62) ≤ j ∧ j < 2 ^ 62) (h0 : I 0 Φ)
    (hs : ∀ j Φ', j < n → I j Φ' → Dg A g us (TI j) Φ' fun Φ2 => Dt A t Φ2 ⟨I (j + 1), O.rt, O.nx, I (j + 1)⟩) (hd : ∀ Φ', I n Φ' → O.nx Φ') : Dt A (tFor (iRng1 ta) g t) Φ O := fun G D σ W H s a gl =>
  hl σ W H a _ fun φs vs W1 H1 f1 p1 ⟨z, e, en, b1, b2⟩ => by
    subst e en
    obtain ⟨v, rfl, p9⟩ := p1.un
    obtain rfl : v = .int z := p9
    refine ⟨z, rfl, b1, b2, ?_⟩
    refine for_range (lo := 0) (n := z.toNat) (fun j σ' H' => ∃ W' Φ', At A W' H' Φ' σ' ∧ Le W1 W' ∧ I j Φ') ⟨W1, Φ, a.up f1, Le.refl _, h0⟩ (fun j σ' H' hj q => ?_) (fun σ' H' q => ?_)
    · obtain ⟨W', Φ', a', l', i'⟩ := q
      rw [Int.zero_add]
      refine hs j Φ' hj i' σ' W' H' (.int j) a' rfl _ fun Φ2 σ2 W2 H2 f2 a2 _ k2 => ?_
      exact k2 W1 _ σ2 W2 H2 ⟨fun Φ3 σ3 W3 H3 i3 a3 l3 => ⟨W3, Φ3, a3, l3, i3⟩, s.rt, fun Φ3 σ3 W3 H3 i3 a3 l3 => s.nx Φ3 σ3 W3 H3 i3 a3 ((gl.trans f1.le).trans l3), fun Φ3 σ3 W3 H3 i3 a3 l3 => ⟨W3, Φ3, a3, l3, i3⟩⟩ a2 (l'.trans f2.le)
    · obtain ⟨W', Φ', a', l', i'⟩ := q
      exact s.nx Φ' σ' W' H' (hd Φ' i') a' ((gl.trans f1.le).trans l')
/-! ### calls -/
/-- a promise: S tells of the arguments' types and of what is wanted of the value's type -/
def spW (S : List Ty → (Ty → Prop) → Prop) : Sp := fun vs H Q _ => ∃ φs k W, In W H ∧ Are W φs vs ∧ S φs k ∧ ∀ φ v W2 H2, Fr W H W2 H2 → φ.is W2 v → k φ → Q v H2
theorem De_call {S : List Ty → (Ty → Prop) → Prop} {ta : TA} {E : XK} {k : Ty → Prop} (h : Da A ta Φ fun φs => S φs k) : De A (tCall (spW S) [] E ta) Φ k := fun σ W H a Q q =>
  h σ W H a _ fun φs vs W1 H1 f1 p1 h1 => by
    show spW S (vs ++ []) H1 Q E
    rw [List.append_nil]
    exact ⟨φs, k, W1, f1.inn, p1, h1, fun φ v W2 H2 f2 p2 k2 => q φ v W2 H2 (f1.trans f2) p2 k2⟩
def slots (n : Nat) (φs : List Ty) : List Sl := φs.map .im ++ List.replicate (n - φs.length) .no
theorem en_start {H0 : Hp} {W : Wd} {H : Hp} {N : List Str} {φs : List Ty} {vs : List V} (p : Are W φs vs) : En H0 W H (slots N.length φs) (L2.start N vs) := by
  have hl := p.len
  refine ⟨?_, fun i φ e => ?_, fun i θ e => ?_, fun i j θ θ' b e => ?_⟩
  · unfold L2.start slots
    rw [List.length_append, List.length_append, List.length_map, List.length_map, List.length_replicate, List.length_replicate, hl]
  · unfold slots at e
    by_cases c : i < φs.length
    · rw [List.getElem?_append_left (by rw [List.length_map]; exact c), List.getElem?_map] at e
      cases e1 : φs[i]? with
      | none => rw [e1] at e; cases e
      | some ψ =>
        rw [e1] at e
        cases e
        obtain ⟨v, ev, tv⟩ := p.get e1
        refine ⟨v, ?_, tv⟩
        unfold L2.start
        rw [List.getElem?_append_left (by rw [List.length_map]; omega), List.getElem?_map, ev]
        rfl
    · rw [List.getElem?_append_right (by rw [List.length_map]; omega), List.getElem?_replicate] at e
      split at e <;> cases e
  · exfalso
    unfold slots at e
    by_cases c : i < φs.length
    · rw [List.getElem?_append_left (by rw [List.length_map]; exact c), List.getElem?_map] at e
      cases e1 : φs[i]? with
      | none => rw [e1] at e; cases e
      | some ψ => rw [e1] at e; cases e
    · rw [List.getElem?_append_right (by rw [List.length_map]; omega), List.getElem?_replicate] at e
      split at e <;> cases e
  · exfalso
    unfold slots at e
    by_cases c : i < φs.length
    · rw [List.getElem?_append_left (by rw [List.length_map]; exact c), List.getElem?_map] at e
      cases e1 : φs[i]? with
      | none => rw [e1] at e; cases e
      | some ψ => rw [e1] at e; cases e
    · rw [List.getElem?_append_right (by rw [List.length_map]; omega), List.getElem?_replicate] at e
      split at e <;> cases e
/-- a body keeps its promise -/
theorem enter {S : List Ty → (Ty → Prop) → Prop} {N : List Str} {vs : List V} {H : Hp} {Q : VK} {E : XK} {n : Nat} (hn : N.length = n) (h : spW S vs H Q E) (b : ∀ (A : Wd × Hp) φs k, S φs k → Dt A t (slots n φs) ⟨fun _ => k TN, k, fun _ => False, fun _ => False⟩) :
    t { nx := fun _ H' => Q .non H', rt := Q } (L2.start N vs) H := by
  obtain ⟨φs, k, W, i, p, s, q⟩ := h
  subst hn
  refine b (W, H) φs k s W _ (L2.start N vs) W H ⟨fun Φ σ W2 H2 e a _ => q TN .non W2 H2 a.fr rfl e, fun φ v W2 H2 e f tv => q φ v W2 H2 f tv e, fun _ _ _ _ e _ _ => e.elim, fun _ _ _ _ e _ _ => e.elim⟩ ⟨Fr.refl i, en_start p⟩ (Le.refl W)
end
end Wl
set_option Elab.async false
set_option linter.all false
set_option maxRecDepth 100000
set_option maxHeartbeats 4000000
/-! Wi: what is walked; for, comprehensions. -/
namespace Wl
open PySem PySem.Spec PyProof.Rows L2
structure Iter (W1 : Wd) (J : It) (ψs : List Ty) : Prop where
  stop : ∀ W' H' i, Le W1 W' → In W' H' → ψs.length ≤ i → J.stop i H'
  go : ∀ W' H' i ψ, Le W1 W' → In W' H' → ψs[i]? = some ψ → J.go i H' ∧ ∀ x H'', J.yld i H' x H'' → ∃ W'', Fr W' H' W'' H'' ∧ ψ.is W'' x
def Di (A : Wd × Hp) (wi : L2.TI) (Φ : List Sl) (k : List Ty → Prop) : Prop := ∀ σ W H, At A W H Φ σ → ∀ R : It → Hp → Prop, (∀ J ψs W1 H1, Fr W H W1 H1 → Iter W1 J ψs → k ψs → R J H1) → wi σ H R
section
variable {A : Wd × Hp} {K : PySem.W.Frag} {Φ : List Sl} {O : Out} {ta tb tc te : TE} {tt tu : TT} {t u : L2.TS} {k : List Ty → Prop}
theorem Di_list (h : De A te Φ fun φ => ∃ ψs, φ = TL ψs ∧ k ψs) : Di A (iList K te) Φ k := fun σ W H a R q =>
  h σ W H a _ fun φ v W1 H1 f1 p1 ⟨ψs, e, kh⟩ => by
    subst e
    obtain ⟨p, vs, rfl, hb, ar⟩ := p1
    refine ⟨p, rfl, ⟨vs, .inl (.inl (f1.inn.b _ _ hb))⟩, q _ ψs W1 H1 f1 ⟨fun W' H' i l n hi => ⟨vs, .inl (.inl (n.b _ _ (l.b _ _ hb))), by rw [ar.len]; exact hi⟩, fun W' H' i ψ l n hi => ?_⟩ kh⟩
    obtain ⟨x, ex, tx⟩ := ar.get hi
    refine ⟨⟨vs, x, .inl (.inl (n.b _ _ (l.b _ _ hb))), ex⟩, fun y H'' hy => ?_⟩
    obtain ⟨rfl, hy⟩ := hy
    have := hy vs (.inl (.inl (n.b _ _ (l.b _ _ hb))))
    rw [ex] at this
    cases this
    exact ⟨W', Fr.refl n, ψ.up l tx⟩
theorem Di_tup (h : De A te Φ fun φ => ∃ ψs, φ = TU ψs ∧ k ψs) : Di A (iTup K te) Φ k := fun σ W H a R q =>
  h σ W H a _ fun φ v W1 H1 f1 p1 ⟨ψs, e, kh⟩ => by
    subst e
    obtain ⟨p, vs, rfl, hb, ar⟩ := p1
    refine ⟨p, rfl, ⟨vs, .inl (.inl (f1.inn.b _ _ hb))⟩, q _ ψs W1 H1 f1 ⟨fun W' H' i l n hi => ⟨vs, .inl (.inl (n.b _ _ (l.b _ _ hb))), by rw [ar.len]; exact hi⟩, fun W' H' i ψ l n hi => ?_⟩ kh⟩
    obtain ⟨x, ex, tx⟩ := ar.get hi
    refine ⟨⟨vs, x, .inl (.inl (n.b _ _ (l.b _ _ hb))), ex⟩, fun y H'' hy => ?_⟩
    obtain ⟨rfl, hy⟩ := hy
    have := hy vs (.inl (.inl (n.b _ _ (l.b _ _ hb))))
    rw [ex] at this
    cases this
    exact ⟨W', Fr.refl n, ψ.up l tx⟩
theorem iter_range {W1 : Wd} {lo : Int} {n : Nat} : Iter W1 (Itr lo n) ((List.range n).map fun i => TI (lo + (i : Nat))) := by
  refine ⟨fun W' H' i l m hi => ?_, fun W' H' i ψ l m hi => ?_⟩
  · rw [List.length_map, List.length_range] at hi
    exact hi
  · rw [List.getElem?_map] at hi
    by_cases c : i < n
    · rw [List.getElem?_range c] at hi
      cases hi
      refine ⟨c, fun x H'' hy => ?_⟩
      obtain ⟨rfl, rfl⟩ := hy
      exact ⟨W', Fr.refl m, rfl⟩
    · rw [List.getElem?_eq_none (by rw [List.length_range]; omega)] at hi
      cases hi
theorem Di_range1 {ta : TA} (h : Da A ta Φ fun φs => ∃ n : Nat, φs = [TI n] ∧ n ≤ 1000000 ∧ k ((List.range n).map fun i => TI (i : Nat))) : Di A (iRng1 ta) Φ k := fun σ W H a R q =>
  h σ W H a _ fun φs vs W1 H1 f1 p1 ⟨n, e, b, kh⟩ => by
    subst e
    obtain ⟨v, rfl, p9⟩ := p1.un
    obtain rfl : v = .int n := p9
    have it := iter_range (W1 := W1) (lo := 0) (n := n)
    simp only [Int.zero_add] at it
    exact ⟨(n : Int), rfl, by omega, by omega, q _ _ W1 H1 f1 (by rw [Int.toNat_natCast]; exact it) kh⟩
theorem Di_range2 {ta : TA} (h : Da A ta Φ fun φs => ∃ (i j : Int), φs = [TI i, TI j] ∧ i.natAbs ≤ 1000000 ∧ j.natAbs ≤ 1000000 ∧ k ((List.range (j - i).toNat).map fun n => TI (i + (n : Nat)))) : Di A (iRng2 ta) Φ k := fun σ W H a R q =>
  h σ W H a _ fun φs vs W1 H1 f1 p1 ⟨i, j, e, b, c, kh⟩ => by
    subst e
    obtain ⟨v, u, rfl, p8, p9⟩ := p1.two
    obtain rfl : v = .int i := p8
    obtain rfl : u = .int j := p9
    exact ⟨i, j, rfl, ⟨by omega, by omega, by omega, by omega⟩, q _ _ W1 H1 f1 iter_range kh⟩
theorem Dt_for {g : TG} {wi : L2.TI} {us : List Nat} (h : Di A wi Φ fun ψs => ∃ I : Nat → List Sl → Prop, I 0 Φ ∧ (∀ j ψ Φ', ψs[j]? = some ψ → I j Φ' → Dg A g us ψ Φ' fun Φ2 => Dt A t Φ2 ⟨I (j + 1), O.rt, O.nx, I (j + 1)⟩) ∧ ∀ Φ', I ψs.length Φ' → O.nx Φ') : Dt A (tFor wi g t) Φ O := fun G D σ W H s a gl =>
  h σ W H a _ fun J ψs W1 H1 f1 it ⟨I, h0, hs, hd⟩ => by
    refine ⟨fun i m σ' H' => m = ψs.length - i ∧ i ≤ ψs.length ∧ ∃ W' Φ', At A W' H' Φ' σ' ∧ Le W1 W' ∧ I i Φ', ⟨_, rfl, Nat.zero_le _, W1, Φ, a.up f1, Le.refl _, h0⟩, ?_⟩
    rintro i m σ' H' ⟨rfl, hi, W', Φ', a', l', i'⟩
    by_cases c : i < ψs.length
    · obtain ⟨go, yl⟩ := it.go W' H' i ψs[i] l' a'.inn (List.getElem?_eq_getElem c)
      refine .inr ⟨go, fun σ2 H2 => ∃ W2 Φ2, At A W2 H2 Φ2 σ2 ∧ Le W1 W2 ∧ I (i + 1) Φ2, fun σ2 H2 q => ⟨ψs.length - (i + 1), by omega, rfl, c, q⟩, fun x H2 y => ?_⟩
      obtain ⟨W2, f2, tx⟩ := yl x H2 y
      refine hs i ψs[i] Φ' (List.getElem?_eq_getElem c) i' σ' W2 H2 x (a'.up f2) tx _ fun Φ3 σ3 W3 H3 f3 a3 _ k3 => ?_
      exact k3 W1 _ σ3 W3 H3 ⟨fun Φ4 σ4 W4 H4 i4 a4 l4 => ⟨W4, Φ4, a4, l4, i4⟩, s.rt, fun Φ4 σ4 W4 H4 i4 a4 l4 => s.nx Φ4 σ4 W4 H4 i4 a4 ((gl.trans f1.le).trans l4), fun Φ4 σ4 W4 H4 i4 a4 l4 => ⟨W4, Φ4, a4, l4, i4⟩⟩ a3 ((l'.trans f2.le).trans f3.le)
    · have e : i = ψs.length := by omega
      subst e
      exact .inl ⟨it.stop W' H' _ l' a'.inn (Nat.le_refl _), s.nx Φ' σ' W' H' (hd Φ' i') a' ((gl.trans f1.le).trans l')⟩
/-! ### comprehensions -/
def wipeS (Φ : List Sl) : List Nat → List Sl
  | [] => Φ
  | v :: vs => (wipeS Φ vs).set v .no
theorem At.wipe {W : Wd} {H : Hp} {σ : L2.St} (a : At A W H Φ σ) : ∀ vs : List Nat, At A W H (wipeS Φ vs) (L2.wipe σ vs)
  | [] => a
  | v :: vs => ⟨a.fr, (At.wipe a vs).env.no⟩
theorem wipe_in {σ : L2.St} {i : Nat} : ∀ {vs : List Nat}, i ∈ vs → i < σ.length → (L2.wipe σ vs)[i]? = some none
  | v :: vs, h, l => by
    show ((L2.wipe σ vs).set v none)[i]? = _
    by_cases e : v = i
    · subst e
      rw [List.getElem?_set_self (by rw [wipe_length]; exact l)]
    · rw [List.getElem?_set_ne e]
      rcases List.mem_cons.mp h with z | z
      · exact absurd z.symm e
      · exact wipe_in z l
theorem wipe_agree {σ σ' : L2.St} {us vs : List Nat} (h : Agree us σ σ') (s : ∀ i ∈ us, i ∈ vs) : L2.wipe σ' vs = L2.wipe σ vs := by
  refine List.ext_getElem? fun i => ?_
  by_cases c : i ∈ vs
  · by_cases l : i < σ.length
    · rw [wipe_in c l, wipe_in c (by rw [h.1]; exact l)]
    · rw [List.getElem?_eq_none (by rw [wipe_length, h.1]; omega), List.getElem?_eq_none (by rw [wipe_length]; omega)]
  · rw [wipe_out c, wipe_out c]
    exact h.2 i fun z => c (s i z)
theorem wipe_wipe {σ : L2.St} {vs : List Nat} : L2.wipe (L2.wipe σ vs) vs = L2.wipe σ vs := wipe_agree (us := vs) ⟨wipe_length σ vs, fun j hj => wipe_out hj⟩ fun _ h => h
/-- one's own list D stays one's own -/
theorem Fr.mine {W W2 : Wd} {H H2 : Hp} (f : Fr W H W2 H2) {D : Addr} {o : HO} (e : H D = some o) (nb : W.B D = none) (nc : ¬ W.C D) : H2 D = some o ∧ W2.B D = none ∧ ¬ W2.C D := by
  refine ⟨f.keep D o e nc, ?_, fun c => ?_⟩
  · cases q : W2.B D with
    | none => rfl
    | some u =>
      rcases f.nb D (by rw [q]; exact fun z => nomatch z) with z | z
      · exact absurd nb z
      · rw [e] at z; cases z
  · rcases f.nc D c with z | z
    · exact nc z
    · rw [e] at z; cases z
theorem Dn_lc {kn : Th → Prop} {g : TG} {wi : L2.TI} {us vs : List Nat} (hus : ∀ i ∈ us, i ∈ vs)
    (h : Di A wi Φ fun ψs => ∃ R : Nat → List Ty → Prop, R 0 [] ∧ (∀ j ψ acc, ψs[j]? = some ψ → R j acc → Dg A g us ψ (wipeS Φ vs) fun Φ2 => Dc A tt Φ2 fun b => (b = true → De A te Φ2 fun χ => acc.length < 1000 ∧ R (j + 1) (acc ++ [χ])) ∧ (b = false → R (j + 1) acc)) ∧ ∀ acc, R ψs.length acc → kn (CL acc)) : Dn A (tLc wi g tt te vs) Φ kn := fun σ W H a Q q =>
  h σ W H a _ fun J ψs W1 H1 f1 it ⟨R, h0, hs, hd⟩ => by
    intro D nD
    have nD0 := f1.was nD
    have oD := f1.inn.out nD
    refine ⟨fun i m H' => m = ψs.length - i ∧ i ≤ ψs.length ∧ ∃ W' acc xs, Fr W H W' H' ∧ Le W1 W' ∧ H' D = some (.lst xs) ∧ W'.B D = none ∧ ¬ W'.C D ∧ Are W' acc xs ∧ R i acc, ⟨_, rfl, Nat.zero_le _, W1, [], [], f1.own nD0 oD.1 oD.2, Le.refl _, upd_same, oD.1, oD.2, trivial, h0⟩, ?_⟩
    rintro i m H' ⟨rfl, hi, W', acc, xs, fr, l', hD, nb, nc, ar, r⟩
    by_cases c : i < ψs.length
    · obtain ⟨go, yl⟩ := it.go W' H' i ψs[i] l' fr.inn (List.getElem?_eq_getElem c)
      refine .inr ⟨go, fun H2 => ∃ W' acc xs, Fr W H W' H2 ∧ Le W1 W' ∧ H2 D = some (.lst xs) ∧ W'.B D = none ∧ ¬ W'.C D ∧ Are W' acc xs ∧ R (i + 1) acc, fun H2 q => ⟨ψs.length - (i + 1), by omega, rfl, c, q⟩, fun x H2 y => ?_⟩
      obtain ⟨W2, f2, tx⟩ := yl x H2 y
      obtain ⟨hD2, nb2, nc2⟩ := f2.mine hD nb nc
      have a2 := (a.up (fr.trans f2)).wipe vs
      refine hs i ψs[i] acc (List.getElem?_eq_getElem c) r _ W2 H2 x a2 tx _ fun Φ3 σ3 W3 H3 f3 a3 ag k3 => ?_
      refine ⟨(wipe_agree ag hus).trans wipe_wipe, ?_⟩
      refine k3 σ3 W3 H3 a3 _ fun b W4 H4 f4 k4 => ?_
      have f24 := f2.trans (f3.trans f4)
      cases b with
      | true =>
        refine iteT (k4.1 rfl σ3 W4 H4 (a3.up f4) _ fun χ y W5 H5 f5 p5 ⟨l5, r5⟩ => ?_)
        have f25 := f24.trans f5
        obtain ⟨hD5, nb5, nc5⟩ := f25.mine hD nb nc
        exact ⟨xs, hD5, Nat.lt_of_lt_of_le (by rw [ar.len]; exact l5) (sz (Nat.le_refl 1000)), W5, acc ++ [χ], xs ++ [y], (fr.trans f25).own nD0 nb5 nc5, l'.trans f25.le, upd_same, nb5, nc5, Are.app (Are.one p5) (ar.up f25.le), r5⟩
      | false =>
        obtain ⟨hD4, nb4, nc4⟩ := f24.mine hD nb nc
        exact iteF ⟨W4, acc, xs, fr.trans f24, l'.trans f24.le, hD4, nb4, nc4, ar.up f24.le, k4.2 rfl⟩
    · have e : i = ψs.length := by omega
      subst e
      exact .inl ⟨it.stop W' H' _ l' fr.inn (Nat.le_refl _), q (CL acc) D (.lst xs) W' H' fr nD0 nb nc hD ⟨xs, rfl, ar⟩ (hd acc r)⟩
theorem Dc_yes {k : Bool → Prop} (h : k true) : Dc A tYes Φ k := fun σ W H a Q q => q true W H (Fr.refl a.inn) h
theorem Di.mono {wi : L2.TI} {k' : List Ty → Prop} (h : Di A wi Φ k) (i : ∀ φ, k φ → k' φ) : Di A wi Φ k' := fun σ W H a R q => h σ W H a R fun J ψs W1 H1 f it kp => q J ψs W1 H1 f it (i ψs kp)
theorem Dg.mono {g : TG} {us : List Nat} {ψ : Ty} {k k' : List Sl → Prop} (h : Dg A g us ψ Φ k) (i : ∀ φ, k φ → k' φ) : Dg A g us ψ Φ k' := fun σ W H v a p Q q => h σ W H v a p Q fun Φ' σ' W2 H2 f a2 ag kp => q Φ' σ' W2 H2 f a2 ag (i Φ' kp)
/-- [e for x in ..], no test: the j-th item has the j-th of the types χs -/
theorem Dn_map {kn : Th → Prop} {g : TG} {wi : L2.TI} {us vs : List Nat} (hus : ∀ i ∈ us, i ∈ vs)
    (h : Di A wi Φ fun ψs => ψs.length ≤ 1000 ∧ ∃ χs : List Ty, χs.length = ψs.length ∧ (∀ (j : Nat) (ψ χ : Ty), ψs[j]? = some ψ → χs[j]? = some χ → Dg A g us ψ (wipeS Φ vs) fun Φ2 => De A te Φ2 fun χ' => χ' = χ) ∧ kn (CL χs)) : Dn A (tLc wi g tYes te vs) Φ kn := by
  refine Dn_lc hus (h.mono fun ψs ⟨hl, χs, el, hs, hk⟩ => ⟨fun j acc => acc = χs.take j, rfl, fun j ψ acc e r => ?_, fun acc r => ?_⟩)
  · subst r
    have lj : j < ψs.length := by
      by_cases c : j < ψs.length
      · exact c
      · rw [List.getElem?_eq_none (by omega)] at e; cases e
    have ec : χs[j]? = some χs[j] := List.getElem?_eq_getElem (by omega)
    refine (hs j ψ _ e ec).mono fun Φ2 h2 => Dc_yes ⟨fun _ => h2.mono fun χ' z => ?_, fun z => by cases z⟩
    subst z
    refine ⟨by rw [List.length_take]; omega, ?_⟩
    show χs.take j ++ [χs[j]] = χs.take (j + 1)
    rw [List.take_add_one, ec]
    rfl
  · rw [r, ← el, List.take_length]
    exact hk
/-- [e for x in ..] over a list of the types xs.map g, the results of the types xs.map h -/
theorem Dn_mapL {α : Type} {kn : Th → Prop} {g : TG} {wi : L2.TI} {us vs : List Nat} (xs : List α) (f h : α → Ty) (hus : ∀ i ∈ us, i ∈ vs) (hl : xs.length ≤ 1000) (hi : Di A wi Φ fun ψs => ψs = xs.map f)
    (hs : ∀ x ∈ xs, Dg A g us (f x) (wipeS Φ vs) fun Φ2 => De A te Φ2 fun χ' => χ' = h x) (hk : kn (CL (xs.map h))) : Dn A (tLc wi g tYes te vs) Φ kn := by
  refine Dn_map hus (hi.mono fun ψs e => ?_)
  subst e
  refine ⟨by rw [List.length_map]; exact hl, xs.map h, by rw [List.length_map, List.length_map], fun j ψ χ e1 e2 => ?_, hk⟩
  rw [List.getElem?_map] at e1 e2
  cases e : xs[j]? with
  | none => rw [e] at e1; cases e1
  | some x =>
    rw [e] at e1 e2
    cases e1
    cases e2
    exact hs x (List.mem_of_getElem? e)
/-- [x for x in .. if ..] -/
theorem Dn_filterL {α : Type} {kn : Th → Prop} {g : TG} {wi : L2.TI} {us vs : List Nat} (xs : List α) (f h : α → Ty) (p : α → Bool) (hus : ∀ i ∈ us, i ∈ vs) (hl : xs.length ≤ 1000) (hi : Di A wi Φ fun ψs => ψs = xs.map f)
    (hs : ∀ x ∈ xs, Dg A g us (f x) (wipeS Φ vs) fun Φ2 => Dc A tt Φ2 fun b => b = p x ∧ (b = true → De A te Φ2 fun χ' => χ' = h x)) (hk : kn (CL ((xs.filter p).map h))) : Dn A (tLc wi g tt te vs) Φ kn := by
  refine Dn_lc hus (hi.mono fun ψs e => ?_)
  subst e
  refine ⟨fun j acc => acc = ((xs.take j).filter p).map h, rfl, fun j ψ acc e r => ?_, fun acc r => ?_⟩
  · subst r
    rw [List.getElem?_map] at e
    cases e1 : xs[j]? with
    | none => rw [e1] at e; cases e
    | some x =>
      rw [e1] at e
      cases e
      have lj : j < xs.length := (List.getElem?_eq_some_iff.mp e1).1
      have nx : xs.take (j + 1) = xs.take j ++ [x] := by rw [List.take_add_one, e1]; rfl
      refine (hs x (List.mem_of_getElem? e1)).mono fun Φ2 h2 => h2.mono fun b ⟨eb, h3⟩ => ⟨fun z => (h3 z).mono fun χ' ec => ⟨?_, ?_⟩, fun z => ?_⟩
      · rw [List.length_map]
        have := List.length_filter_le p (xs.take j)
        rw [List.length_take] at this
        omega
      · subst ec
        show _ = ((xs.take (j + 1)).filter p).map h
        rw [nx, List.filter_append, List.map_append]
        have : p x = true := eb ▸ z
        simp [this]
      · show _ = ((xs.take (j + 1)).filter p).map h
        rw [nx, List.filter_append, List.map_append]
        have : p x = false := eb ▸ z
        simp [this]
  · rw [r, List.length_map, List.take_length]
    exact hk
end
end Wl
set_option Elab.async false
set_option linter.all false
set_option maxRecDepth 100000
set_option maxHeartbeats 4000000
namespace ErrX
open PySem PySem.Spec PyProof.Rows L2
/-- __init__(self, v): super().__init__(..); self.f = tuple(v), v a tuple -/
def spT (C : Addr) (f : Str) : Sp := fun vs H Q _ => ∃ (a t : Addr) (xs : List V), vs = [.ref a, .ref t] ∧ H t = some (.tup xs) ∧ H a = some (exo a C none) ∧ ∀ dx, H dx = none → dx ≠ a → Q .non (upd (upd H dx (exd dx [(f, .ref t)])) a (exo a C (some dx)))
def tMk1T (C : Addr) (f : Str) (ta : TA) : L2.St → Hp → XK → Prop := fun σ H Q => ta σ H fun vs H1 => ∃ (t : Addr) (xs : List V), vs = [.ref t] ∧ H1 t = some (.tup xs) ∧ ∀ d, H1 d = none → Q (.ref C) (some d) (upd H1 d (.xd [(f, .ref t)]))
theorem pmk_err1T {X : Cx} {CX : CXT} {x f : Str} {e : Expr} {ta : TA} {p pos : Pos} {C fI : Addr} {k : Nat} {fd : FuncData} {ps : List Str} (T : OexC X.K C) (iC : PySem.W.findIn X.K (.ref C) "__init__" = some (some (.ref fI))) (tI : PySem.W.typeIn X.K (.ref fI) = some (.type "function"))
    (F1 : FnOk X.prog X.w X.K X.mg X.base CX k fI fd ps (spT C f)) (hr : Room (k + 1) X.A) (hb : Binds X.K fd ps []) (hx : Passes CX X (fun _ _ _ => False)) (hg : Gl X x) (hm : X.mg x = some (.ref C)) (ha : PA X [e] ta)
    (hdb : (x == ("__debug__" : Str)) = false := by decide) (he : starEach [e] X.env = (false, eval e X.env) :: starEach [] X.env := by rfl) (hpl : (backTo pos (starEach [] X.env)).any (·.1) = false := by rfl) :
    L2N.PMk X (.Call (.Name x p) [e] [] pos) (tMk1T C f ta) := by
  intro pins s σ H Q I h
  refine pmk_oexN T iC tI F1 hr hb hx hg hm (taW_ok ha) hdb he hpl pins s σ H Q I ⟨_, h, ?_⟩
  rintro vs H1 ⟨t, xs, rfl, ht, q⟩
  refine ⟨(by show 1 ≤ 1000; decide), fun a hn => ⟨a, t, xs, rfl, (upd_ne (ne_of_none ht hn)).trans ht, upd_same, fun dx hdx ne => ⟨rfl, dx, [(f, .ref t)], upd_same, ?_, ?_, ?_⟩⟩⟩
  · rw [upd_ne ne, upd_same]
  · rw [upd_ne ne] at hdx
    exact hdx
  · have hd1 : H1 dx = none := by
      rw [upd_ne ne] at hdx
      exact hdx
    have e := mk1_heap (H := H1) (C := C) (f := f) (v := .ref t) (o := .xd [(f, .ref t)]) hn ne
    rw [e]
    exact q dx hd1
end ErrX
set_option Elab.async false
set_option linter.all false
set_option maxRecDepth 100000
set_option maxHeartbeats 4000000
/-! Comprehensions of one clause that fill a dict keyed by tuples or a set of ints: one core, by what a turn asks. -/
namespace CmX
open PySem PySem.Spec PyProof.Rows L2
abbrev Err (X : Cx) (env : Env) (R : Result → Shared → Prop) : Value → Shared → Prop := notedBy (model X.prog X.w) X.A env fun e s' => R (.error e) s'
abbrev Tests (ifs : List Expr) (env : Env) : Sem Bool := forIn ifs true fun c r => if r = true then do let ok ← isTrue c env (eval c env); pure (ForInStep.yield ok) else pure (ForInStep.yield r)
/-- what a turn of the block's loop asks; B: where the tests have let the item through -/
abbrev Turn1 (X : Cx) (tg : Expr) (ifs : List Expr) (env : Env) (it : Value) (R : Result → Shared → Prop) (B N : Shared → Prop) (s : Shared) : Prop :=
  wpAny (model X.prog X.w) X.A (pyNext it) (fun r s1 => match r with
    | none => R (.ok .next) s1
    | some v => wpAny (model X.prog X.w) X.A (letOwnedTupleGo tg it v) (fun _ s2 => wpAny (model X.prog X.w) X.A (assign tg env v) (fun _ s3 =>
        wpAny (model X.prog X.w) X.A (Tests ifs env) (fun ok s4 => if ok = true then B s4 else N s4) (Err X env R) s3) (Err X env R) s2) (Err X env R) s1) (Err X env R) s
/-- a kind of comprehension: the object that it fills, what a turn asks of it -/
structure Kind (X : Cx) (e tg iter : Expr) (ifs : List Expr) (mk : Sem Value) (ob : Obj) (body : Env → Addr → (Shared → Prop) → (Value → Shared → Prop) → Shared → Prop) : Prop where
  one : ∃ gs, clausesOf e = ⟨tg, iter, ifs, 0⟩ :: gs
  acc : ∀ {E : Value → Shared → Prop} {s : Shared} {Q : Value → Shared → Prop}, Q (.ref s.heap.objs.size) { s with heap := s.heap.push ob } → wpAny (model X.prog X.w) X.A mk Q E s
  loop : ∀ {env : Env} {it : Value} {D : Addr} {R : Result → Shared → Prop} (I : Nat → Shared → Prop),
    (∀ n s, I n s → Turn1 X tg ifs env it R (body env D (fun s' => ∃ m, m < n ∧ I m s') (Err X env R)) (fun s' => ∃ m, m < n ∧ I m s') s) → ∀ n s, I n s → codeAny (model X.prog X.w) X.A (.compLoop e 0 it (.ref D) env) R s
  start : ∀ {env : Env} {it : Value} {D : Addr} {R : Result → Shared → Prop} {s : Shared}, codeAny (model X.prog X.w) X.A (.compLoop e 0 it (.ref D) env) R s →
    wpAny (model X.prog X.w) X.A (pyIter it) (fun it' s' => codeAny (model X.prog X.w) X.A (.compLoop e 0 it' (.ref D) env) R s') (Err X env R) s → codeAny (model X.prog X.w) X.A (.compStart e 0 it (.ref D) env) R s
section
variable {X : Cx}
/-- one turn over the layer: y the slots of the block between two turns -/
theorem turn_ok {Y : Cx} {tg : Expr} {ifs : List Expr} {J : It} {fp : List Addr} {it : Addr} {tn : Nat → Heap → Prop} {i : Nat} {y : L2.St} {vs : List Nat} {H : Hp} {s : Shared} {R : Result → Shared → Prop} {B N : Shared → Prop} {g : TG} {tt : TT}
    (hx : ∀ e s', ¬ Y.xe e s') (T : Turn Y.prog Y.w Y.K tg J fp it tn) (hc : Y.calm = true) (I : Inv Y [] y H s) (st : tn i s.heap) (far : ∀ {σ : L2.St} {H' : Hp} {s' : Shared}, Inv Y [] σ H' s' → (∀ b ∈ fp, H' b = none) → ∀ b ∈ fp, FpOk Y [] H' b) (fr : ∀ b ∈ fp, H b = none) (pg : PG Y tg g) (pt : PTs Y ifs tt)
    (h : (J.stop i H ∧ ∀ s1, Inv Y [] y H s1 → R (.ok .next) s1) ∨ (J.go i H ∧ ∃ G : L2.St → Bool → Hp → Prop, (∀ x H1, J.yld i H x H1 → g x y H1 fun σ H2 => wipe σ vs = y ∧ tt σ H2 (G σ)) ∧
      ∀ σ b H3, G σ b H3 → ∀ (pp : List (Addr × Obj)) (s3 : Shared), Inv Y pp σ H3 s3 → (∀ H' s', Inv Y pp σ H' s' → Inv Y [] y H' s' ∧ tn (i + 1) s'.heap ∧ ∀ b ∈ fp, H' b = none) → if b = true then B s3 else N s3)) :
    Turn1 Y tg ifs Y.env (.ref it) R B N s := by
  rcases h with ⟨stop, hq⟩ | ⟨go, G, hq, hG⟩
  · refine thnF (T.done Y rfl rfl rfl hc i [] s y H (fun _ _ => False) I (far I fr) st stop) fun r s1 hh => ?_
    obtain ⟨er, J1⟩ := hh
    rw [er]
    exact hq s1 J1
  · refine thnF (T.item Y rfl rfl rfl hc i [] s y H (fun _ _ => False) I (far I fr) st go) fun r s1 hh => ?_
    obtain ⟨u, er, h1⟩ := hh
    rw [er]
    refine wpAny_mono h1 (fun _ s2 h2 => ?_) fun _ _ z => z.elim
    obtain ⟨x, H1, J1, rx, yl, st1, fr1⟩ := h2
    have J2 := J1.pinned (far J1 fr1) (T.obj _ _ st1)
    refine wpAny_mono (pg.run _ s2 y H1 x u _ J2 rx (hq x H1 yl)) (fun _ s3 h3 => ?_) fun e s' z => (hx e s' z).elim
    obtain ⟨σ, H2, J3, ew, ht⟩ := h3
    refine wpAny_mono (pt.run _ s3 σ H2 _ J3 ht) (fun b s4 h4 => ?_) fun e s' z => (hx e s' z).elim
    obtain ⟨H3, J4, hb⟩ := h4
    refine hG σ b H3 hb _ s4 J4 fun H' s' J' => ?_
    have kept : ∀ b ∈ fp, ∀ o, s2.heap.get? b = some o → s'.heap.get? b = some o ∧ H' b = none := fun b hb o eo =>
      have z := J'.pin (b, o) (List.mem_append_right _ (List.mem_append_right _ (mem_pinsAt hb eo)))
      ⟨z.1, z.2.1⟩
    refine ⟨(J'.unpinned (pins := [])).weak (by rw [← ew, wipe_length]) fun j v ev => ?_, T.keep _ _ _ st1 fun b hb o eo => (kept b hb o eo).1, fun b hb => ?_⟩
    · rw [← ew] at ev
      exact (wipe_some ev).1
    · obtain ⟨o, eo, _⟩ := T.obj _ _ st1 b hb
      exact (kept b hb o eo).2
/-- the reading: ob at D the new object; St: the store's wish, given the element's place in the block -/
def tCo (o0 : Addr → HO) (wi : TI) (g : TG) (tt : TT) (te : L2.St → Hp → Addr → (Hp → Prop) → Prop) (vs : List Nat) : TE := fun σ H Q => wi σ H fun J H1 => ∀ D, H1 D = none →
  ∃ W : Nat → Nat → Hp → Prop, (∃ m, W 0 m (upd H1 D (o0 D))) ∧ ∀ i m H, W i m H → (J.stop i H ∧ Q (.ref D) H) ∨ (J.go i H ∧ ∃ N : Hp → Prop, (∀ H', N H' → ∃ m', m' < m ∧ W (i + 1) m' H') ∧
    ∀ x H', J.yld i H x H' → g x (wipe σ vs) H' fun σ2 H2 => wipe σ2 vs = wipe σ vs ∧ tt σ2 H2 fun b H3 => if b = true then te σ2 H3 D N else N H3)
theorem comp_core {e tg iter : Expr} {ifs : List Expr} {mk : Sem Value} {ob : Obj} {body : Env → Addr → (Shared → Prop) → (Value → Shared → Prop) → Shared → Prop} {o0 : Addr → HO} {scope : Scope} {own : List (Str × Nat)} {pos : Pos} {wi : TI} {g : TG} {tt : TT}
    {te : L2.St → Hp → Addr → (Hp → Prop) → Prop} {pins : List (Addr × Obj)} {s : Shared} {σ : L2.St} {H : Hp} {Q : VK}
    (k : Kind X e tg iter ifs mk ob body) (hc : X.calm = true) (hN : X.N.Nodup) (I : Inv X pins σ H s) (hi : PI X tg iter wi) (ok : BlkOk X.N X.env.scope scope own)
    (hnew : ∀ (h : Heap) (H1 : Hp), sysModules < h.objs.size → ObjOk X.prog X.w (upd H1 h.objs.size (o0 h.objs.size)) (h.push ob) h.objs.size (o0 h.objs.size))
    (hg : ∀ (s : Shared) (H : Hp) (C : Addr) (cl : List (Str × Addr)) (fp : List Addr), PG (X.blk s H scope (compEnvC scope cl C X.env) fp) tg g) (ht : ∀ (s : Shared) (H : Hp) (C : Addr) (cl : List (Str × Addr)) (fp : List Addr), PTs (X.blk s H scope (compEnvC scope cl C X.env) fp) ifs tt)
    (he : ∀ (s : Shared) (H : Hp) (C : Addr) (cl : List (Str × Addr)) (fp : List Addr) (pp : List (Addr × Obj)) (σ2 : L2.St) (H3 : Hp) (s3 : Shared) (D : Addr) (N : Hp → Prop) (nx : Shared → Prop) (er : Value → Shared → Prop),
      Inv (X.blk s H scope (compEnvC scope cl C X.env) fp) pp σ2 H3 s3 → te σ2 H3 D N → (∀ H' s', Inv (X.blk s H scope (compEnvC scope cl C X.env) fp) pp σ2 H' s' → N H' → nx s') → body (compEnvC scope cl C X.env) D nx er s3)
    (hs : ∀ x, foldedSetIterable iter X.env x = pure x) (h : tCo o0 wi g tt te (own.map (·.2)) σ H Q) :
    wpAny (model X.prog X.w) X.A (comprehension e scope X.env pos mk false (eval iter X.env) none) (EP X pins σ Q) X.xe s := by
  have hfree : ∀ y ∈ scope.names, y.2 = .free → ∃ c, X.env.cells.lookup y.1 = some c := fun y hy ey => (ok.free y hy ey).elim (fun z => I.ok.has _ (.inl z)) fun z => I.ok.has _ (.inr z)
  obtain ⟨gs, hone⟩ := k.one
  refine wpAny_comprehension_free (use := none) hone hs (closure_ok hfree) ok.kind (fun y hy ey => by rw [ok.uniq y hy, ey]) (thn (hi.run pins s σ H _ I h) fun xv s1 hx => thn hx fun itv s2 h2 => ?_)
  obtain ⟨it, fp, tn, J, H2, rfl, I2, T, st2, f2, q⟩ := h2
  refine k.acc (newEnv_comp ?_)
  obtain ⟨W, ⟨m0, w0⟩, turn⟩ := q s2.heap.objs.size (I2.hok.fresh (Nat.le_refl _))
  have I3 := I2.laid (t' := s2.toks) (a := s2.heap.objs.size) (o := o0 s2.heap.objs.size) (h' := s2.heap.push ob) (fun b o eo => Heap.get?_push_of_some _ eo) (Nat.le_refl _) (hnew _ _ I2.big)
  have low : ∀ b ∈ fp, b < s2.heap.objs.size := fun b hb => by
    obtain ⟨o, eo, _⟩ := T.obj _ _ st2 b hb
    exact Heap.lt_size eo
  have f3 : ∀ b ∈ fp, FpOk X pins (upd H2 s2.heap.objs.size (o0 s2.heap.objs.size)) b ∧ b < (s2.heap.push ob).objs.size := fun b hb =>
    ⟨⟨by rw [upd_ne (Nat.ne_of_lt (low b hb))]; exact (f2 b hb).1, (f2 b hb).2⟩, by rw [Heap.size_push]; exact Nat.lt_succ_of_lt (low b hb)⟩
  have st3 : tn 0 (s2.heap.push ob) := T.keep _ _ _ st2 fun b _ o eo => Heap.get?_push_of_some _ eo
  have I4 := block_start I3 ok hN f3
  have st4 : tn 0 (pushCells ((s2.heap.push ob).push { cls := .type "dict", data := .dict #[] }) scope.names) := T.keep _ _ _ st3 fun b _ o eo => pushCells_keeps _ _ _ _ (Heap.get?_push_of_some _ eo)
  show codeAny _ _ (.compStart e 0 (.ref it) (.ref s2.heap.objs.size) (compEnvC scope (cellsFrom ((s2.heap.push ob).objs.size + 1) scope.names (cloFrom X.env.cells scope.names [])) (s2.heap.push ob).objs.size X.env)) (compPost (model X.prog X.w) X.A X.xe none (EP X pins σ Q) (.ref s2.heap.objs.size) (s2.heap.push ob).objs.size)
    { s2 with heap := pushCells ((s2.heap.push ob).push { cls := .type "dict", data := .dict #[] }) scope.names }
  generalize cellsFrom ((s2.heap.push ob).objs.size + 1) scope.names (cloFrom X.env.cells scope.names []) = cs at I4 ⊢
  generalize eH : upd H2 s2.heap.objs.size (o0 s2.heap.objs.size) = H3 at I3 I4 f3 w0
  have nfp : ∀ b ∈ fp, H3 b = none := fun b hb => (f3 b hb).1.1
  have far : ∀ {σ' : L2.St} {H' : Hp} {s' : Shared}, Inv (X.blk { s2 with heap := s2.heap.push ob } H3 scope (compEnvC scope cs (s2.heap.push ob).objs.size X.env) fp) [] σ' H' s' → (∀ b ∈ fp, H' b = none) →
      ∀ b ∈ fp, FpOk (X.blk { s2 with heap := s2.heap.push ob } H3 scope (compEnvC scope cs (s2.heap.push ob).objs.size X.env) fp) [] H' b := fun I' hn b hb =>
    ⟨hn b hb, (I'.ok.exf b hb).1, I'.ok.exfs b hb, .inl hb, fun x c ec => (I'.ok.exf b hb).2 x c ec, fun p hp => absurd hp (by simp)⟩
  have loop := k.loop (env := compEnvC scope cs (s2.heap.push ob).objs.size X.env) (it := .ref it) (D := s2.heap.objs.size)
    (R := compPost (model X.prog X.w) X.A X.xe none (EP X pins σ Q) (.ref s2.heap.objs.size) (s2.heap.push ob).objs.size)
    (fun n s' => ∃ i H', Inv (X.blk { s2 with heap := s2.heap.push ob } H3 scope (compEnvC scope cs (s2.heap.push ob).objs.size X.env) fp) [] (wipe σ (own.map (·.2))) H' s' ∧ tn i s'.heap ∧ (∀ b ∈ fp, H' b = none) ∧ W i n H')
    (fun n s5 hI => by
      obtain ⟨i, H5, I5, st5, n5, w5⟩ := hI
      refine turn_ok (Y := X.blk { s2 with heap := s2.heap.push ob } H3 scope (compEnvC scope cs (s2.heap.push ob).objs.size X.env) fp) (vs := own.map (·.2)) (fun _ _ z => z) T hc I5 st5 far n5 (hg _ _ _ _ _) (ht _ _ _ _ _) ?_
      rcases turn i n H5 w5 with ⟨stop, qq⟩ | ⟨go, N, hN', step⟩
      · refine .inl ⟨stop, fun s6 I6 => ?_⟩
        have I7 : Inv X pins σ H5 s6 := I3.call' (ch := fp) I6.os I6.base I6.hok I6.bare fun b hb => ⟨(f3 b hb).1.2.2.2.1, (f3 b hb).1.2.1, (f3 b hb).1.2.2.2.2.1, (f3 b hb).1.2.2.2.2.2⟩
        have nC : H5 (s2.heap.push ob).objs.size = none := I6.free
        obtain ⟨m, hn, _⟩ := I6.loc
        refine ⟨m, hn, fun h' sb => ?_⟩
        obtain ⟨f0, f1, f4, f5, f6, f7⟩ := I3.fpOk (Nat.le_refl _) nC
        exact ⟨.ref s2.heap.objs.size, H5, I7.turned (t' := s6.toks) (fun b o hb eo => (sb.2 b hb).trans eo) f0 f1 f5 f6 f7, rfl, qq⟩
      · refine .inr ⟨go, fun σ2 b H3 => if b = true then te σ2 H3 s2.heap.objs.size N else N H3, step, fun σ2 b H8 hb pp s8 I8 back => ?_⟩
        cases b with
        | true =>
          refine he _ _ _ _ _ pp σ2 H8 s8 _ N _ _ I8 hb fun H9 s9 I9 n9 => ?_
          obtain ⟨m', hm, w'⟩ := hN' H9 n9
          obtain ⟨b1, b2, b3⟩ := back H9 s9 I9
          exact ⟨m', hm, i + 1, H9, b1, b2, b3, w'⟩
        | false =>
          obtain ⟨m', hm, w'⟩ := hN' H8 hb
          obtain ⟨b1, b2, b3⟩ := back H8 s8 I8
          exact ⟨m', hm, i + 1, H8, b1, b2, b3, w'⟩)
    m0 _ ⟨0, H3, I4, st4, nfp, w0⟩
  exact k.start loop (T.self X.A 0 _ _ _ st4 loop)
/-! ### {k: v for ..}, the keys tuples -/
def teD (tk tv : TE) : L2.St → Hp → Addr → (Hp → Prop) → Prop := fun σ H D N => tk σ H fun y H1 => tv σ H1 fun z H2 => ∃ (b : Addr) (kvs : List (List Key × V)) (ks : List Key), y = .ref b ∧ H2 D = some (.dT kvs) ∧ H2 b = some (.tup (ks.map kV)) ∧ kvs.length < sizeLine ∧ N (upd H2 D (.dT (putK kvs ks z)))
theorem put_tup {Y : Cx} {pins : List (Addr × Obj)} {σ : L2.St} {H : Hp} {s : Shared} {E : Value → Shared → Prop} {D b : Addr} {kvs : List (List Key × V)} {ks : List Key} {v : V} {r : Value} {Q : Unit → Shared → Prop} (hu : Y.A.units < cLine) (I : Inv Y pins σ H s) (hD : H D = some (.dT kvs)) (hb : H b = some (.tup (ks.map kV)))
    (hz : kvs.length < sizeLine) (rv : RelV v r) (h : ∀ s', Inv Y pins σ (upd H D (.dT (putK kvs ks v))) s' → Q () s') : wpAny (model Y.prog Y.w) Y.A (dictSet D (.ref b) r) Q E s := by
  obtain ⟨lk, hd, xs, rel, dd⟩ := dt_of I.hok hD
  have lx : xs.length ≤ sizeLine := by rw [← Paired.length rel]; exact lk
  have lp : (putK kvs ks v).length ≤ sizeLine := by
    have := length_putK kvs ks v
    omega
  refine wpAny_dictSet_heap (hsz := lx) (by exact hu) (key_of I.hok hb) dd fun h1 d1 same => h _ ?_
  obtain ⟨o, es, ep, q1, q2, q3, q4, _, q5⟩ := d1
  refine d_write I (by rw [hD]; exact True.intro) same ⟨o, q1⟩ ⟨lp, hd, _, (rel.put ks hb rv).keeps fun c ys ec => ?_, o, es, ep, q1, q2, q3, q4, q5⟩
  rw [upd_ne (ne_of ec hD (fun z => nomatch z))]
  exact ec
theorem kind_dict {kx vx tg iter : Expr} {ifs : List Expr} {scope : Scope} {pos : Pos} : Kind X (.DictComp kx vx [⟨tg, iter, ifs, 0⟩] scope pos) tg iter ifs newDict { cls := .type "dict", data := .dict #[] }
    (fun env D nx er s => wpAny (model X.prog X.w) X.A (eval kx env) (fun kv s1 => wpAny (model X.prog X.w) X.A (eval vx env) (fun vv s2 => wpAny (model X.prog X.w) X.A (dictSet D kv vv) (fun _ s3 => nx s3) er s2) er s1) er s) where
  one := ⟨[], rfl⟩
  acc := fun q => wpAny_newObj_type q
  loop := fun I turn n s hI => compLoop_anyD I turn n hI
  start := fun l i => codeAny_compStart_dict l i
theorem pe_dcT {kx vx tg iter : Expr} {ifs : List Expr} {scope : Scope} {own : List (Str × Nat)} {pos : Pos} {wi : TI} {g : TG} {tt : TT} {tk tv : TE} (hu : X.A.units < cLine) (hc : X.calm = true) (hN : X.N.Nodup) (hi : PI X tg iter wi) (ok : BlkOk X.N X.env.scope scope own)
    (hg : ∀ (s : Shared) (H : Hp) (C : Addr) (cl : List (Str × Addr)) (fp : List Addr), PG (X.blk s H scope (compEnvC scope cl C X.env) fp) tg g) (ht : ∀ (s : Shared) (H : Hp) (C : Addr) (cl : List (Str × Addr)) (fp : List Addr), PTs (X.blk s H scope (compEnvC scope cl C X.env) fp) ifs tt)
    (hk : ∀ (s : Shared) (H : Hp) (C : Addr) (cl : List (Str × Addr)) (fp : List Addr), PE (X.blk s H scope (compEnvC scope cl C X.env) fp) kx tk) (hv : ∀ (s : Shared) (H : Hp) (C : Addr) (cl : List (Str × Addr)) (fp : List Addr), PE (X.blk s H scope (compEnvC scope cl C X.env) fp) vx tv)
    (hs : ∀ x, foldedSetIterable iter X.env x = pure x := by intro _; rfl) : PE X (.DictComp kx vx [⟨tg, iter, ifs, 0⟩] scope pos) (tCo (fun _ => .dT []) wi g tt (teD tk tv) (own.map (·.2))) := by
  refine ⟨fun pins s σ H Q I h => ?_⟩
  rw [arm_eval_DictComp]
  refine comp_core kind_dict hc hN I hi ok (fun h1 H1 big => dt_empty h1 big) hg ht (fun s1 H1 C cl fp pp σ2 H3 s3 D N nx er I3 hte fin => ?_) hs h
  refine wpAny_mono ((hk s1 H1 C cl fp).run pp s3 σ2 H3 _ I3 hte) (fun kv s4 h4 => ?_) fun _ _ z => False.elim z
  obtain ⟨y, H4, I4, ry, h4⟩ := h4
  refine wpAny_mono ((hv s1 H1 C cl fp).run pp s4 σ2 H4 _ I4 h4) (fun vv s5 h5 => ?_) fun _ _ z => False.elim z
  obtain ⟨z, H5, I5, rz, b, kvs, ks, rfl, hD, hb, hl, n5⟩ := h5
  obtain rfl : kv = Value.ref b := ry
  exact put_tup (Y := X.blk s1 H1 scope (compEnvC scope cl C X.env) fp) hu I5 hD hb hl rz fun s6 I6 => fin _ _ I6 n5
/-! ### {e for ..}, the members ints -/
def teS (w : World) (te : TE) : L2.St → Hp → Addr → (Hp → Prop) → Prop := fun σ H D N => te σ H fun y H1 => ∃ (k : Int) (S : Int → Bool) (n : Nat), y = .int k ∧ H1 D = some (SetO w D S n) ∧ n + 1 < scanBound ∧ N (upd H1 D (SetO w D (fun j => S j || decide (j = k)) (if S k = true then n else n + 1)))
theorem add_int {Y : Cx} {pins : List (Addr × Obj)} {σ : L2.St} {H : Hp} {s : Shared} {E : Value → Shared → Prop} {D : Addr} {S : Int → Bool} {n : Nat} {k : Int} {u : Value} {Q : Value → Shared → Prop} (I : Inv Y pins σ H s) (hD : H D = some (SetO Y.w D S n)) (room : n + 1 < scanBound) (ru : RelV (.int k) u)
    (h : ∀ s', Inv Y pins σ (upd H D (SetO Y.w D (fun j => S j || decide (j = k)) (if S k = true then n else n + 1))) s' → Q .none s') : wpAny (model Y.prog Y.w) Y.A (call (.builtin "set.add") [.ref D, u]) Q E s := by
  obtain ⟨tk, rfl⟩ := ru
  refine setR_add (setO_get I hD) room fun h1 same new => h _ ?_
  have there : ∃ o, h1.get? D = some o := by
    obtain ⟨o, _, _, _, ho, _⟩ := id new
    exact ⟨o, ho⟩
  exact I.write (e := D) (t' := s.toks + 1) (by rw [hD]; exact True.intro) (.inl rfl) (fun b o hb ho => (same.2 b hb).trans ho) there (setO_new new)
theorem kind_set {elt tg iter : Expr} {ifs : List Expr} {scope : Scope} {pos : Pos} : Kind X (.SetComp elt [⟨tg, iter, ifs, 0⟩] scope pos) tg iter ifs (newSet (.type "set")) { cls := .type "set", dict := none, data := .set #[] 0 (.fresh 0 0 (!X.w.params.followText "set-order")) }
    (fun env D nx er s => wpAny (model X.prog X.w) X.A (eval elt env) (fun x s1 => wpAny (model X.prog X.w) X.A (call (.builtin "set.add") [.ref D, x]) (fun _ s2 => nx s2) er s1) er s) where
  one := ⟨[], rfl⟩
  acc := fun q => PpSet.newSet_ok q
  loop := fun I turn n s hI => PpSet.compLoopS_any I turn n hI
  start := fun l i => PpSet.codeAny_compStart_set l i
theorem pe_scI {elt tg iter : Expr} {ifs : List Expr} {scope : Scope} {own : List (Str × Nat)} {pos : Pos} {wi : TI} {g : TG} {tt : TT} {te : TE} (hc : X.calm = true) (hN : X.N.Nodup) (hi : PI X tg iter wi) (ok : BlkOk X.N X.env.scope scope own)
    (hg : ∀ (s : Shared) (H : Hp) (C : Addr) (cl : List (Str × Addr)) (fp : List Addr), PG (X.blk s H scope (compEnvC scope cl C X.env) fp) tg g) (ht : ∀ (s : Shared) (H : Hp) (C : Addr) (cl : List (Str × Addr)) (fp : List Addr), PTs (X.blk s H scope (compEnvC scope cl C X.env) fp) ifs tt)
    (he : ∀ (s : Shared) (H : Hp) (C : Addr) (cl : List (Str × Addr)) (fp : List Addr), PE (X.blk s H scope (compEnvC scope cl C X.env) fp) elt te)
    (hs : ∀ x, foldedSetIterable iter X.env x = pure x := by intro _; rfl) : PE X (.SetComp elt [⟨tg, iter, ifs, 0⟩] scope pos) (tCo (fun D => SetO X.w D (fun _ => false) 0) wi g tt (teS X.w te) (own.map (·.2))) := by
  refine ⟨fun pins s σ H Q I h => ?_⟩
  rw [PpSet.eval_SetComp]
  refine comp_core kind_set hc hN I hi ok (fun h1 H1 _ => setO_new (setR_fresh X.w)) hg ht (fun s1 H1 C cl fp pp σ2 H3 s3 D N nx er I3 hte fin => ?_) hs h
  refine wpAny_mono ((he s1 H1 C cl fp).run pp s3 σ2 H3 _ I3 hte) (fun x s4 h4 => ?_) fun _ _ z => False.elim z
  obtain ⟨y, H4, I4, ry, k, S, n, rfl, hD, room, n4⟩ := h4
  exact add_int (Y := X.blk s1 H1 scope (compEnvC scope cl C X.env) fp) I4 hD room ry fun s5 I5 => fin _ _ I5 n4
end
end CmX
set_option Elab.async false
set_option linter.all false
set_option maxRecDepth 100000
set_option maxHeartbeats 4000000
/-! set(xs), xs a list of ints, as a set that sorted takes. -/
namespace SetL
open PySem PySem.Spec PyProof.Rows L2
abbrev Emp (w : World) : Obj := { cls := .type "set", dict := none, data := .set #[] 0 (.fresh 0 0 (!w.params.followText "set-order")) }
section
variable {P : Program} {w : World} {A : Around} {E : Value → Shared → Prop} {s : Shared}
/-- the loop that fills the set, from a list -/
theorem fill_list {l : Addr} {items : Array Value} (ns : List Int) {R : Result → Shared → Prop} (calm : A.handled = none) (lst : s.heap.IsList l items) (hin : IntsAre items.toList ns) (few : ns.length + 1 < scanBound)
    (fin : ∀ (h1 : Heap) (tk c : Nat), SetR w h1 s.heap.objs.size (fun j => decide (j ∈ ns)) c → c ≤ ns.length → (∀ b o, s.heap.get? b = some o → h1.get? b = some o) → R (.ok (.ret .none)) { s with heap := h1, toks := tk }) :
    wpAny (model P w) A (pyIter (.ref l)) (fun it s1 => codeAny (model P w) A (.builtin "set.update.loop" ⟨[.ref s.heap.objs.size, it], []⟩) R s1) E { s with heap := s.heap.push (Emp w) } := by
  have size : items.size = ns.length := (Array.length_toList (xs := items)).symm.trans (IntsAre.length hin)
  have lst1 : (s.heap.push (Emp w)).IsList l items := lst.push _
  obtain ⟨ol, atl, _⟩ := id lst
  have low : l < s.heap.objs.size := Heap.lt_size atl
  have far : l ≠ (s.heap.push (Emp w)).objs.size := by
    rw [Heap.size_push]
    exact Nat.ne_of_lt (Nat.lt_succ_of_lt low)
  refine wpAny_pyIter_list lst1 ?_
  have apart : s.heap.objs.size ∉ [(s.heap.push (Emp w)).objs.size, l] := by
    rw [Heap.size_push]
    intro m
    rcases List.mem_cons.mp m with e | m
    · exact Nat.ne_of_lt (Nat.lt_succ_self _) e
    · exact Nat.ne_of_gt low (List.mem_singleton.mp m)
  have val : ∀ (i : Nat) (v : Value), items[i]? = some v → ∃ k t, ns[i]? = some k ∧ v = .int k t := fun i v hv => by
    have lt : i < ns.length := size ▸ (Array.getElem?_eq_some_iff.mp hv).1
    obtain ⟨t, e⟩ := PyProof.Rows.IntsAre.int_at hin i v (by rw [Array.getElem?_toList]; exact hv)
    refine ⟨ns[i], t, List.getElem?_eq_getElem lt, ?_⟩
    rw [e, List.getD_eq_getElem?_getD, List.getElem?_eq_getElem lt] <;> rfl
  have calm1 : A.in1.handled = none := calm
  refine set_update_ints ((Walks.list calm1 _ l far items).toS) s.heap.objs.size apart ns size few val (items.size - 0) 0 _ (by omega) (Nat.zero_le _) ⟨⟨_, Heap.get?_push_size _ rfl, rfl, rfl⟩, lst1.push _⟩ ?_ ?_
  · exact ⟨0, Nat.le_refl 0, setR_new_at (Heap.get?_push_of_some _ (Heap.get?_push_size _ rfl))⟩
  · rintro ⟨h1, g1, d1, t1, o1⟩ c mv hc hS
    have e1 : g1 = s.gens := mv.gens
    have e2 : d1 = s.drawn := mv.drawn
    have e3 : o1 = s.os := mv.os
    subst e1 e2 e3
    refine fin h1 t1 c hS (by omega) fun b o eb => mv.heap b o (fun m => ?_) (Heap.get?_push_of_some _ (Heap.get?_push_of_some _ eb))
    have lt := Heap.lt_size eb
    rcases List.mem_cons.mp m with e | m
    · exact Nat.ne_of_lt lt e
    · have e := List.mem_singleton.mp m
      rw [Heap.size_push] at e
      exact Nat.ne_of_lt (Nat.lt_succ_of_lt lt) e
theorem call_set_ints {l : Addr} {items : Array Value} (ns : List Int) {Q : Value → Shared → Prop} (calm : A.handled = none) (lst : s.heap.IsList l items) (hin : IntsAre items.toList ns) (few : ns.length + 1 < scanBound)
    (h : ∀ (h1 : Heap) (tk c : Nat), SetR w h1 s.heap.objs.size (fun j => decide (j ∈ ns)) c → c ≤ ns.length → (∀ b o, s.heap.get? b = some o → h1.get? b = some o) → Q (.ref s.heap.objs.size) { s with heap := h1, toks := tk }) :
    wpAny (model P w) A (call (.type "set") [.ref l]) Q E s := by
  obtain ⟨c, tl, hmro⟩ := F.called_set.mro
  have a1 := F.called_set.made
  have a2 := F.called_set.sub
  have a3 := F.called_set.notType
  have a4 := F.called_set.canCreate
  have a5 := F.typeCall_set_1 (.ref l)
  refine wpAny_call (codeAny_of_tree ?_)
  show wpAny _ _ (callAny (.type "set") _) _ _ _
  refine wpAny_pure ⟨Code.quiet_builtin _ (by decide +kernel), codeAny_builtin F.entry_type_call ?_⟩
  rw [Around.under_plain (weight_type_call_type "set" [.ref l] []) rfl]
  repeat (any_goals (first | assumption | wp_step))
  refine codeAny_mono (code_set_led1 (.ref l) (E := E) (Q₁ := fun v s1 => v = .ref s.heap.objs.size ∧ s1 = { s with heap := s.heap.push (Emp w) }) ⟨rfl, rfl⟩) fun r s1 hr => ?_
  match r, hr with
  | .error _, hr => exact hr
  | .ok .next, hr => exact hr.elim
  | .ok .brk, hr => exact hr.elim
  | .ok .cont, hr => exact hr.elim
  | .ok (.ret v0), hr =>
    obtain ⟨rfl, rfl⟩ := hr
    have atS : (s.heap.push (Emp w)).get? s.heap.objs.size = some (Emp w) := Heap.get?_push_size _ rfl
    have ty : Shared.TypeIs { s with heap := s.heap.push (Emp w) } (.ref s.heap.objs.size) "set" := ⟨_, atS, rfl⟩
    have b1 := F.called_set.init.lookup
    have b2 := F.called_set.init.bind (.ref s.heap.objs.size)
    repeat (any_goals (first | assumption | wp_step))
    refine codeAny_mono (codeAny_call_builtin (R := wants (fun r s2 => r = .none ∧ ∃ h1 tk c, s2 = { s with heap := h1, toks := tk } ∧ SetR w h1 s.heap.objs.size (fun j => decide (j ∈ ns)) c ∧ c ≤ ns.length ∧ (∀ b o, s.heap.get? b = some o → h1.get? b = some o)) E)
      F.called_set.init.plain F.entry_set_init (check_set_init_1 ty ?_)) fun r2 s2 hr2 => ?_
    · obtain ⟨⟨oc, od, odt, osl⟩, atl, cl, nl, dl⟩ := id lst
      simp only at cl dl
      subst cl dl
      have atl1 : (s.heap.push (Emp w)).get? l = some { cls := .type "list", dict := od, data := .seq items nl, slots := osl } := Heap.get?_push_of_some _ atl
      have c1 := F.sub_list_set
      have c2 := F.sub_list_frozenset
      have c3 : (Value.type "list" == Value.type "dict") = false := by decide
      unfold Builtin.«set.__init__» noKeywords Builtin.Frozenset.updateFrom
      generalize hPI : pyIter = PI
      wp_walk
      subst hPI
      refine wpAny_mono (fill_list (s := s) ns (by exact calm) lst hin few ?fin) (fun it s1 h1 => wpAny_bind (wpAny_runValue h1)) fun _ _ z => z
      case fin =>
        intro h1 tk c q1 q2 q3
        show wpAny _ _ _ _ _ _
        refine wpAny_pure ?_
        show wpAny _ _ (ret Value.none) _ _ _
        exact wpAny_pure ⟨rfl, h1, tk, c, rfl, q1, q2, q3⟩
    · match r2, hr2 with
      | .error _, hr2 => exact hr2
      | .ok .next, hr2 => exact hr2.elim
      | .ok .brk, hr2 => exact hr2.elim
      | .ok .cont, hr2 => exact hr2.elim
      | .ok (.ret v1), hr2 =>
        obtain ⟨rfl, h1, tk, c, rfl, q1, q2, q3⟩ := hr2
        repeat (any_goals (first | assumption | wp_step))
        exact h _ _ _ q1 q2 q3
end
end SetL
set_option Elab.async false
set_option linter.all false
set_option maxRecDepth 100000
set_option maxHeartbeats 4000000
namespace SetL
open PySem PySem.Spec PyProof.Rows L2
/-- set(xs), xs a list of ints -/
def rSetI (K : PySem.W.Frag) (w : World) : List V → Hp → VK → Prop := fun xs H Q => ∃ (l : Addr) (ns : List Int), xs = [V.ref l] ∧ SqL K H l (ns.map V.int) ∧ ns.length < 1000 ∧
  ∀ (a : Addr) (c : Nat), H a = none → c ≤ ns.length → Q (.ref a) (upd H a (SetO w a (fun j => decide (j ∈ ns)) c))
theorem cr_setI {X : Cx} (hc : X.calm = true) : CallR X (.type "set") (rSetI X.K X.w) := by
  intro pins s σ H xs us Q I r h
  obtain ⟨l, ns, rfl, hl, hz, q⟩ := h
  rw [Vals.ref1 r]
  obtain ⟨its, rv, pl, _⟩ := I.list hl
  have hin : IntsAre its ns := ints_of_vals rv
  have hn : H s.heap.objs.size = none := I.hok.fresh (Nat.le_refl _)
  refine call_set_ints (P := X.prog) (w := X.w) ns (I.ok.hd hc) pl.isList (by simpa using hin) (by unfold scanBound; omega) fun h1 tk c R1 hcn keep => ?_
  exact ⟨.ref s.heap.objs.size, _, I.laid (t' := tk) (a := s.heap.objs.size) (o := SetO X.w s.heap.objs.size (fun j => decide (j ∈ ns)) c) keep (Nat.le_refl _) (setO_new R1), rfl, q _ c hn hcn⟩
end SetL
set_option Elab.async false
set_option linter.all false
set_option maxRecDepth 100000
set_option maxHeartbeats 4000000
namespace OwnM
open PySem PySem.Spec PyProof.Rows L2
section
variable {X : Cx} {CX : CXT} {k : Nat} {f C : Addr} {fd : FuncData} {ps : List Str} {sp : Sp} {E : XK} {pins : List (Addr × Obj)} {σ : L2.St} {H : Hp} {s : Shared}
/-- a def of the text runs below the running body -/
theorem run_at {A : Around} {Q : VK} {us : List Value} {vs : List V} (F : FnOk X.prog X.w X.K X.mg X.base CX k f fd ps sp) (sb : Sub X k A) (hb : Binds X.K fd ps []) (hx : Passes CX X E) (I : Inv X pins σ H s) (r : Vals vs us) (h : sp vs H Q E) :
    wpAny (model X.prog X.w) A (call (.ref f) us) (EP X pins σ Q) X.xe s := by
  have e0 : Env0 X.prog X.w X.K X.mg X.base A X.stack s H := by
    have e := I.env0
    exact ⟨by rw [sb.fr]; exact e.frames, e.mod, e.bs, e.bsz, e.funs, e.frf, e.hok, e.bare⟩
  have hl : us.length = ps.length := by rw [← r.length]; exact F.len _ _ _ _ h
  refine wpAny_call (codeAny_mono (F.run A X.stack s H ⟨us, []⟩ us vs Q E sb.room e0 (by
    have := hb s us I.kIn (by simpa using hl)
    simpa using this) r h) fun r s' hq => ?_)
  cases r with
  | error e => exact hx pins σ H s e s' I hq
  | ok fl =>
    cases fl with
    | ret u => exact I.after hq
    | next => exact False.elim hq
    | brk => exact False.elim hq
    | cont => exact False.elim hq
theorem Sub.deep1 {A : Around} {n : Nat} (s : Sub X (n + 1) A) : Sub X n A.in1 := s.in1
def rInO (C : Addr) (sp : Sp) (E : XK) (neg : Bool) : R2 := fun x y H Q => ∃ a dx fs, y = .ref a ∧ H a = some (.ins C dx fs) ∧ sp [.ref a, x] H (fun v H' => ∃ b, v = .bl b ∧ Q (.bl (if neg then !b else b)) H') E
theorem op_inO (F : FnOk X.prog X.w X.K X.mg X.base CX k f fd ps sp) (hr : Room k X.A) (hb : Binds X.K fd ps []) (hx : Passes CX X E) (hs : PySem.W.findIn X.K (.ref C) "__contains__" = some (some (.ref f))) (hf : PySem.W.isFn X.K (.ref f) = true) : OpR X (compareOp .In) (rInO C sp E false) := by
  intro pins s σ H x y v u Q I rx ry hq
  obtain ⟨a, dx, fs, rfl, ha, hsp⟩ := hq
  cases ry
  obtain ⟨mA, J, _⟩ := ins_get I.hok ha
  obtain ⟨od, J, _⟩ := J.look
  obtain ⟨m, hF⟩ := I.fr
  refine PySem.W.in_K hF I.ok.mod.kin J hs hf ?_
  refine wpAny_mono (run_at F ⟨hr, rfl⟩ hb hx I (show Vals [V.ref a, x] [Value.ref a, v] from .cons rfl (.cons rx .nil)) hsp) (fun r s' h => ?_) fun _ _ z => z
  obtain ⟨z, H', I', rz, b, rfl, hq⟩ := h
  cases rz
  exact wpAny_truthy_bool ⟨.bl b, H', I', rfl, hq⟩
theorem op_notInO (F : FnOk X.prog X.w X.K X.mg X.base CX k f fd ps sp) (hr : Room k X.A) (hb : Binds X.K fd ps []) (hx : Passes CX X E) (hs : PySem.W.findIn X.K (.ref C) "__contains__" = some (some (.ref f))) (hf : PySem.W.isFn X.K (.ref f) = true) : OpR X (compareOp .NotIn) (rInO C sp E true) := by
  intro pins s σ H x y v u Q I rx ry hq
  obtain ⟨a, dx, fs, rfl, ha, hsp⟩ := hq
  cases ry
  obtain ⟨mA, J, _⟩ := ins_get I.hok ha
  obtain ⟨od, J, _⟩ := J.look
  obtain ⟨m, hF⟩ := I.fr
  refine PySem.W.notIn_K hF I.ok.mod.kin J hs hf ?_
  refine wpAny_mono (run_at F ⟨hr, rfl⟩ hb hx I (show Vals [V.ref a, x] [Value.ref a, v] from .cons rfl (.cons rx .nil)) hsp) (fun r s' h => ?_) fun _ _ z => z
  obtain ⟨z, H', I', rz, b, rfl, hq⟩ := h
  cases rz
  exact wpAny_truthy_bool ⟨.bl (!b), H', I', rfl, hq⟩
def rEqO (C : Addr) (sp : Sp) (E : XK) : R2 := fun x y H Q => ∃ a b dx dy fs gs, x = .ref a ∧ y = .ref b ∧ H a = some (.ins C dx fs) ∧ H b = some (.ins C dy gs) ∧ sp [.ref a, .ref b] H (fun v H' => ∃ c, v = .bl c ∧ Q (.bl c) H') E
theorem op_eqO (F : FnOk X.prog X.w X.K X.mg X.base CX k f fd ps sp) (hr : Room k X.A) (hb : Binds X.K fd ps []) (hx : Passes CX X E) (hs : PySem.W.findIn X.K (.ref C) "__eq__" = some (some (.ref f))) (hf : PySem.W.isFn X.K (.ref f) = true) : OpR X (compareOp .Eq) (rEqO C sp E) := by
  intro pins s σ H x y v u Q I rx ry hq
  obtain ⟨a, b, dx, dy, fs, gs, rfl, rfl, ha, hb', hsp⟩ := hq
  cases rx
  cases ry
  obtain ⟨mA, J, _⟩ := ins_get I.hok ha
  obtain ⟨mB, J', _⟩ := ins_get I.hok hb'
  obtain ⟨od, J, _⟩ := J.look
  obtain ⟨od', J', _⟩ := J'.look
  obtain ⟨m, hF⟩ := I.fr
  show wpAny (model X.prog X.w) X.A (richCompare .Eq (.ref a) (.ref b)) (EP X pins σ Q) X.xe s
  refine PySem.W.cmp_K (op := .Eq) (tb := .ref C) hr.units0 hF I.ok.mod.kin J J'.type (by simp [PySem.W.notFirst]) hs hf ?_
  refine wpAny_mono (run_at F ⟨hr, rfl⟩ hb hx I (show Vals [V.ref a, V.ref b] [Value.ref a, Value.ref b] from .cons rfl (.cons rfl .nil)) hsp) (fun r s' h => ?_) fun _ _ z => z
  obtain ⟨z, H', I', rz, c, rfl, hq⟩ := h
  cases rz
  exact ⟨.bl c, H', I', rfl, hq⟩
theorem call_lenO (F : FnOk X.prog X.w X.K X.mg X.base CX k f fd ps sp) (hr : Room (k + 1) X.A) (hb : Binds X.K fd ps []) (hx : Passes CX X E) (hs : PySem.W.findIn X.K (.ref C) "__len__" = some (some (.ref f))) (hf : PySem.W.isFn X.K (.ref f) = true) :
    CallR X (.builtin "len") (fun xs H Q => ∃ a dx fs, xs = [.ref a] ∧ H a = some (.ins C dx fs) ∧ sp [.ref a] H (fun v H' => ∃ n : Nat, n ≤ 1000 ∧ v = .int (n : Int) ∧ Q (.int (n : Int)) H') E) := by
  intro pins s σ H xs us Q I r h
  obtain ⟨a, dx, fs, rfl, ha, hsp⟩ := h
  obtain ⟨u, rfl, ru⟩ := vals1 r
  cases ru
  obtain ⟨mA, J, _⟩ := ins_get I.hok ha
  obtain ⟨od, J, _⟩ := J.look
  obtain ⟨m, hF⟩ := I.fr
  refine PySem.W.len_K hF I.ok.mod.kin J hs hf ?_
  refine wpAny_mono (run_at F (Sub.deep1 ⟨hr, rfl⟩) hb hx I (show Vals [V.ref a] [Value.ref a] from .cons rfl .nil) hsp) (fun r s' h => ?_) fun _ _ z => z
  obtain ⟨z, H', I', rz, n, hn, rfl, hq⟩ := h
  obtain ⟨t, rfl⟩ := rz
  exact ⟨⟨by omega, by omega⟩, .int n, H', I'.tok _, ⟨_, rfl⟩, hq⟩
theorem call_strO (F : FnOk X.prog X.w X.K X.mg X.base CX k f fd ps sp) (hr : Room (k + 2) X.A) (hb : Binds X.K fd ps []) (hx : Passes CX X E) (hs : PySem.W.findIn X.K (.ref C) "__str__" = some (some (.ref f))) (hf : PySem.W.isFn X.K (.ref f) = true) :
    CallR X (.type "str") (fun xs H Q => ∃ a dx fs, xs = [.ref a] ∧ H a = some (.ins C dx fs) ∧ sp [.ref a] H (fun v H' => ∃ y : Str, v = .str y ∧ Q (.str y) H') E) := by
  intro pins s σ H xs us Q I r h
  obtain ⟨a, dx, fs, rfl, ha, hsp⟩ := h
  obtain ⟨u, rfl, ru⟩ := vals1 r
  cases ru
  obtain ⟨mA, J, _⟩ := ins_get I.hok ha
  obtain ⟨od, J, _⟩ := J.look
  have sb : Sub X k X.A.in1.in1 := Sub.deep1 (Sub.deep1 ⟨hr, rfl⟩)
  refine PySem.W.kso_call sb.room.units0 I.kIn J hs hf ?_
  refine wpAny_mono (run_at F sb hb hx I (show Vals [V.ref a] [Value.ref a] from .cons rfl .nil) hsp) (fun r s' h => ?_) fun _ _ z => z
  obtain ⟨z, H', I', rz, y, rfl, hq⟩ := h
  obtain ⟨t, rfl⟩ := rz
  exact ⟨.str y, H', I', ⟨_, rfl⟩, hq⟩
end
end OwnM
set_option Elab.async false
set_option linter.all false
set_option maxRecDepth 100000
set_option maxHeartbeats 4000000
/-! OwnB: a + b, a * n by own methods; a class that a local name holds, called. -/
namespace OwnB
open PySem PySem.Spec PyProof.Rows L2 OwnM
section
variable {X : Cx} {CX : CXT} {k : Nat} {f C : Addr} {fd : FuncData} {ps : List Str} {sp : Sp} {E : XK} {pins : List (Addr × Obj)} {σ : L2.St} {H : Hp} {s : Shared}
/-- the answer of an own operator is no NotImplemented: a value of the layer never is -/
theorem back_of {v : V} {u : Value} {Q : Value → Shared → Prop} {s' : Shared} (r : RelV v u) (h : Q u s') : PySem.W.CmpBack Q u s' := by
  cases v <;> first
    | (obtain ⟨t, rfl⟩ := r; exact h)
    | (cases r; exact h)
    | (subst r; exact h)
/-- x + y, both instances of the class at C -/
def rOwn2 (C : Addr) (sp : Sp) (E : XK) : R2 := fun x y H Q => ∃ a b dx dy fs gs, x = .ref a ∧ y = .ref b ∧ H a = some (.ins C dx fs) ∧ H b = some (.ins C dy gs) ∧ sp [.ref a, .ref b] H Q E
theorem op_own2 {op : Operator} (F : FnOk X.prog X.w X.K X.mg X.base CX k f fd ps sp) (hr : Room k X.A) (hb : Binds X.K fd ps []) (hx : Passes CX X E) (hc : PySem.W.selfFirst X.K C = true) (hs : PySem.W.findIn X.K (.ref C) (PySem.dunder op.info.2) = some (some (.ref f))) (hf : PySem.W.isFn X.K (.ref f) = true) : OpR X (binaryOp op) (rOwn2 C sp E) := by
  intro pins s σ H x y v u Q I rx ry hq
  obtain ⟨a, b, dx, dy, fs, gs, rfl, rfl, ha, hb', hsp⟩ := hq
  cases rx
  cases ry
  obtain ⟨mA, J, _⟩ := ins_get I.hok ha
  obtain ⟨mB, J', _⟩ := ins_get I.hok hb'
  obtain ⟨od, J, _⟩ := J.look
  obtain ⟨od', J', _⟩ := J'.look
  obtain ⟨m, hF⟩ := I.fr
  refine PySem.W.binop_K hF I.ok.mod.kin J J'.type hc hs hf ?_
  refine wpAny_mono (run_at F ⟨hr, rfl⟩ hb hx I (show Vals [V.ref a, V.ref b] [Value.ref a, Value.ref b] from .cons rfl (.cons rfl .nil)) hsp) (fun r s' h => ?_) fun _ _ z => z
  obtain ⟨z, H', I', rz, hq⟩ := h
  exact back_of rz ⟨z, H', I', rz, hq⟩
/-- C(..), C the class that the i-th slot holds -/
def tMakeL (i : Nat) (C : Addr) (sp : Sp) (E : XK) (t : TA) : TE := fun σ H Q => σ[i]? = some (some (.ref C)) ∧ tMake C sp [] E t σ H Q
theorem pe_makeL {i : Nat} {x : Str} {p pos : Pos} {e : Expr} {es : List Expr} {t : TA} (M : Mk X.K C f) (F : FnOk X.prog X.w X.K X.mg X.base CX k f fd ps sp) (hr : Room (k + 1) X.A) (hN : X.N[i]? = some x) (hv : Vis X.env.scope x) (hb : Binds X.K fd ps []) (hx : Passes CX X E)
    (ha : PA X (e :: es) t) (hdb : (x == ("__debug__" : Str)) = false := by decide) (hcd : (x == ("__classdict__" : Str)) = false := by decide) (he : starEach (e :: es) X.env = (false, eval e X.env) :: starEach es X.env := by rfl) (hpl : (backTo pos (starEach es X.env)).any (·.1) = false := by rfl) :
    PE X (.Call (.Name x p) (e :: es) [] pos) (tMakeL i C sp E t) := by
  refine ⟨fun pins s σ H Q I h => ?_⟩
  obtain ⟨hs, ht⟩ := h
  refine wpAny_Call_Name_kw (thn ((pe_var (pos := p) hN hv hdb hcd).run pins s σ H (fun v H1 => v = .ref C ∧ H1 = H) I ⟨.ref C, hs, rfl, rfl⟩) fun u s1 hh => ?_)
  obtain ⟨v, H1, I1, r1, rfl, rfl⟩ := hh
  cases r1
  refine PySem.W.callWith_K (h₀ := X.base) I.ok.mod.kin M.kp (thn (ha.run pos pins s1 σ _ _ I1 ht) fun us s2 hh2 => ?_) he hpl
  obtain ⟨vs, H2, I2, r, q⟩ := hh2
  exact ⟨I2.kIn, run_make M F hr hb .nil hx I2 r q⟩
end
end OwnB
set_option Elab.async false
set_option linter.all false
set_option maxRecDepth 100000
set_option maxHeartbeats 4000000
/-! Wx: errors, objects, methods. -/
namespace Wl
open PySem PySem.Spec PyProof.Rows L2
/-- what is wanted of an error of the class at C with fields of such types -/
def Xs (A : Wd × Hp) (kx : Addr → List (Str × Ty) → Prop) (E : XK) : Prop := ∀ C ts d fs W2 H2, Fr A.1 A.2 W2 H2 → W2.B d = some (.xd fs) → Flds W2 ts fs → kx C ts → E (.ref C) (some d) H2
theorem Xs.up {W W1 : Wd} {H H1 : Hp} {kx : Addr → List (Str × Ty) → Prop} {E : XK} (h : Xs (W, H) kx E) (f : Fr W H W1 H1) : Xs (W1, H1) kx E := fun C ts d fs W2 H2 g b t k => h C ts d fs W2 H2 (f.trans g) b t k
theorem Xs.mono {A : Wd × Hp} {kx kx' : Addr → List (Str × Ty) → Prop} {E : XK} (h : Xs A kx E) (i : ∀ C ts, kx' C ts → kx C ts) : Xs A kx' E := fun C ts d fs W2 H2 g b t k => h C ts d fs W2 H2 g b t (i C ts k)
abbrev PX := List Ty → (Ty → Prop) → (Addr → List (Str × Ty) → Prop) → Prop
/-- a promise of a def that may raise -/
def spX (S : PX) : Sp := fun vs H Q E => ∃ φs k kx W, In W H ∧ Are W φs vs ∧ S φs k kx ∧ (∀ φ v W2 H2, Fr W H W2 H2 → φ.is W2 v → k φ → Q v H2) ∧ Xs (W, H) kx E
section
variable {A : Wd × Hp} {K : PySem.W.Frag} {Φ : List Sl} {O : Out} {k : Ty → Prop} {kx : Addr → List (Str × Ty) → Prop} {ta tb tc te : TE} {tr : TA} {tt tu : TT} {t u : L2.TS}
theorem De_callS {S : PX} {E : L2.St → XK} (hE : ∀ σ, Xs A kx (E σ)) (h : Da A tr Φ fun φs => S φs k kx) : De A (tCallS (spX S) E tr) Φ k := fun σ W H a Q q =>
  h σ W H a _ fun φs vs W1 H1 f1 p1 h1 => ⟨φs, k, kx, W1, f1.inn, p1, h1, fun φ v W2 H2 f2 p2 k2 => q φ v W2 H2 (f1.trans f2) p2 k2, (hE σ).up (a.fr.trans f1)⟩
/-- .. where it does not -/
theorem De_callN {S : PX} {E : XK} (h : Da A tr Φ fun φs => S φs k fun _ _ => False) : De A (tCall (spX S) [] E tr) Φ k := fun σ W H a Q q =>
  h σ W H a _ fun φs vs W1 H1 f1 p1 h1 => by
    show spX S (vs ++ []) H1 Q E
    rw [List.append_nil]
    exact ⟨φs, k, fun _ _ => False, W1, f1.inn, p1, h1, fun φ v W2 H2 f2 p2 k2 => q φ v W2 H2 (f1.trans f2) p2 k2, fun _ _ _ _ _ _ _ _ _ z => z.elim⟩
theorem enterX {S : PX} {N : List Str} {vs : List V} {H : Hp} {Q : VK} {E : XK} {n : Nat} (hn : N.length = n) (h : spX S vs H Q E) (b : ∀ (A : Wd × Hp) φs k kx, S φs k kx → Xs A kx E → Dt A t (slots n φs) ⟨fun _ => k TN, k, fun _ => False, fun _ => False⟩) :
    t { nx := fun _ H' => Q .non H', rt := Q } (L2.start N vs) H := by
  obtain ⟨φs, k, kx, W, i, p, s, q, x⟩ := h
  subst hn
  refine b (W, H) φs k kx s x W _ (L2.start N vs) W H ⟨fun Φ σ W2 H2 e a _ => q TN .non W2 H2 a.fr rfl e, fun φ v W2 H2 e f tv => q φ v W2 H2 f tv e, fun _ _ _ _ e _ _ => e.elim, fun _ _ _ _ e _ _ => e.elim⟩ ⟨Fr.refl i, en_start p⟩ (Le.refl W)
/-- raise X(n), one whole number -/
theorem Dt_raise1 {C : Addr} {f : Str} {E : XK} (hE : Xs A kx E) (h : Da A tr Φ fun φs => ∃ x, φs = [TI x] ∧ kx C [(f, TI x)]) : Dt A (fun _ σ H => ErrX.tMk1 C f tr σ H fun cls d H' => E cls d H') Φ O := fun G D σ W H s a g =>
  h σ W H a _ fun φs vs W1 H1 f1 p1 ⟨x, e, kh⟩ => by
    subst e
    obtain ⟨v, rfl, p9⟩ := p1.un
    obtain rfl : v = .int x := p9
    refine ⟨x, rfl, fun d nd => ?_⟩
    have o := f1.inn.out nd
    exact hE C [(f, TI x)] d [(f, .int x)] (W1.add d (.xd [(f, .int x)])) _ ((a.fr.trans f1).trans (Fr.new f1.inn nd)) Wd.add_at ⟨rfl, rfl, trivial⟩ kh
/-- raise X(t), a tuple -/
theorem Dt_raiseT {C : Addr} {f : Str} {E : XK} {φs : List Ty} (hE : Xs A kx E) (h : Da A tr Φ fun χs => χs = [TU φs] ∧ kx C [(f, TU φs)]) : Dt A (fun _ σ H => ErrX.tMk1T C f tr σ H fun cls d H' => E cls d H') Φ O := fun G D σ W H s a g =>
  h σ W H a _ fun χs vs W1 H1 f1 p1 ⟨e, kh⟩ => by
    subst e
    obtain ⟨v, rfl, p9⟩ := p1.un
    obtain ⟨b, xs, rfl, hb, ar⟩ := id p9
    refine ⟨b, xs, rfl, f1.inn.b _ _ hb, fun d nd => ?_⟩
    have l : Le W1 (W1.add d (.xd [(f, .ref b)])) := Le.add (f1.inn.out nd).1
    exact hE C [(f, TU φs)] d [(f, .ref b)] (W1.add d (.xd [(f, .ref b)])) _ ((a.fr.trans f1).trans (Fr.new f1.inn nd)) Wd.add_at ⟨rfl, (TU φs).up l p9, trivial⟩ kh
/-! ### objects -/
theorem De_fld {f : Str} (h : De A ta Φ fun φ => ∃ C ts χ, φ = TJ C ts ∧ Cls K C ∧ NoAttr K C f ∧ ts.lookup f = some χ ∧ k χ) : De A (tFld K ta f) Φ k := fun σ W H a Q q =>
  h σ W H a _ fun φ x W1 H1 f1 p1 ⟨C, ts, χ, e, c, no, lk, kh⟩ => by
    subst e
    obtain ⟨b, dx, fs, rfl, hb, fl⟩ := p1
    obtain ⟨v, ev, tv⟩ := fl.get lk
    exact ⟨b, C, dx, fs, v, rfl, f1.inn.b _ _ hb, c, no, ev, q χ v W1 H1 f1 tv kh⟩
theorem De_con {f : Str} {v : V} {u : Value} (h : De A ta Φ fun φ => ∃ C ts, φ = TJ C ts ∧ Cls K C ∧ Con K C f v u ∧ ts.lookup f = none ∧ k (TV v)) : De A (tCon K ta f) Φ k := fun σ W H a Q q =>
  h σ W H a _ fun φ x W1 H1 f1 p1 ⟨C, ts, e, c, co, lk, kh⟩ => by
    subst e
    obtain ⟨b, dx, fs, rfl, hb, fl⟩ := p1
    exact ⟨b, C, dx, fs, v, u, rfl, f1.inn.b _ _ hb, c, co, fl.none lk, q (TV v) v W1 H1 f1 rfl kh⟩
theorem De_prop {C : Addr} {S : PX} {E : XK} (h : De A ta Φ fun φ => (∃ ts, φ = TJ C ts) ∧ S [φ] k fun _ _ => False) : De A (tProp C (spX S) [] E ta) Φ k := fun σ W H a Q q =>
  h σ W H a _ fun φ x W1 H1 f1 p1 ⟨⟨ts, e⟩, sh⟩ => by
    subst e
    obtain ⟨b, dx, fs, rfl, hb, fl⟩ := id p1
    exact ⟨b, dx, fs, rfl, f1.inn.b _ _ hb, [TJ C ts], k, fun _ _ => False, W1, f1.inn, Are.one p1, sh, fun φ v W2 H2 f2 p2 k2 => q φ v W2 H2 (f1.trans f2) p2 k2, fun _ _ _ _ _ _ _ _ _ z => z.elim⟩
theorem De_meth {C : Addr} {m : Str} {S : PX} {E : XK} (h : De A ta Φ fun φ => ∃ ts, φ = TJ C ts ∧ ts.lookup m = none ∧ Da A tr Φ fun φs => S (φ :: φs) k fun _ _ => False) : De A (tMeth C m (spX S) [] E ta tr) Φ k := fun σ W H a Q q =>
  h σ W H a _ fun φ x W1 H1 f1 p1 ⟨ts, e, lk, h2⟩ => by
    subst e
    obtain ⟨b, dx, fs, rfl, hb, fl⟩ := id p1
    refine ⟨b, dx, fs, rfl, f1.inn.b _ _ hb, fl.none lk, h2 σ W1 H1 (a.up f1) _ fun φs vs W2 H2 f2 p2 sh => ?_⟩
    show spX S (.ref b :: (vs ++ [])) H2 Q E
    rw [List.append_nil]
    exact ⟨TJ C ts :: φs, k, fun _ _ => False, W2, f2.inn, ⟨(TJ C ts).up f2.le p1, p2⟩, sh, fun φ v W3 H3 f3 p3 k3 => q φ v W3 H3 ((f1.trans f2).trans f3) p3 k3, fun _ _ _ _ _ _ _ _ _ z => z.elim⟩
theorem De_methE {C : Addr} {m : Str} {S : PX} {E : L2.St → XK} (hE : ∀ σ, Xs A kx (E σ)) (h : De A ta Φ fun φ => ∃ ts, φ = TJ C ts ∧ ts.lookup m = none ∧ Da A tr Φ fun φs => S (φ :: φs) k kx) : De A (ErrX.tMethE C m (spX S) E ta tr) Φ k := fun σ W H a Q q =>
  h σ W H a _ fun φ x W1 H1 f1 p1 ⟨ts, e, lk, h2⟩ => by
    subst e
    obtain ⟨b, dx, fs, rfl, hb, fl⟩ := id p1
    refine ⟨b, dx, fs, rfl, f1.inn.b _ _ hb, fl.none lk, h2 σ W1 H1 (a.up f1) _ fun φs vs W2 H2 f2 p2 sh => ?_⟩
    exact ⟨TJ C ts :: φs, k, kx, W2, f2.inn, ⟨(TJ C ts).up f2.le p1, p2⟩, sh, fun φ v W3 H3 f3 p3 k3 => q φ v W3 H3 ((f1.trans f2).trans f3) p3 k3, (hE σ).up ((a.fr.trans f1).trans f2)⟩
/-- a class's constant, by the class -/
theorem De_cval {f : Str} {C : Addr} {mc : Value} {v : V} {u : Value} (c : ClX.CRead K C mc) (d : ClX.CVal K C mc f v u) (h : De A ta Φ fun φ => φ = TV (.ref C) ∧ k (TV v)) : De A (ClX.tCVal K ta f) Φ k := fun σ W H a Q q =>
  h σ W H a _ fun φ x W1 H1 f1 p1 ⟨e, kh⟩ => by
    subst e
    exact ⟨C, mc, v, u, p1, c, d, q (TV v) v W1 H1 f1 rfl kh⟩
/-- C.m(..), a classmethod -/
theorem De_cmeth {C : Addr} {S : PX} {E : XK} (hE : Xs A kx E) (h : De A ta Φ fun φ => φ = TV (.ref C) ∧ Da A tr Φ fun φs => S (TV (.ref C) :: φs) k kx) : De A (ClX.tCMeth C (spX S) E ta tr) Φ k := fun σ W H a Q q =>
  h σ W H a _ fun φ x W1 H1 f1 p1 ⟨e, h2⟩ => by
    subst e
    refine ⟨p1, h2 σ W1 H1 (a.up f1) _ fun φs vs W2 H2 f2 p2 sh => ?_⟩
    exact ⟨TV (.ref C) :: φs, k, kx, W2, f2.inn, ⟨rfl, p2⟩, sh, fun φ v W3 H3 f3 p3 k3 => q φ v W3 H3 ((f1.trans f2).trans f3) p3 k3, hE.up ((a.fr.trans f1).trans f2)⟩
/-! ### instances that are being made -/
def putT (f : Str) (χ : Ty) : List (Str × Ty) → List (Str × Ty)
  | [] => [(f, χ)]
  | (g, ψ) :: r => if g = f then (f, χ) :: r else (g, ψ) :: putT f χ r
theorem Flds.put {W : Wd} {f : Str} {χ : Ty} {v : V} (h : χ.is W v) : ∀ {ts : List (Str × Ty)} {fs : List (Str × V)}, Flds W ts fs → Flds W (putT f χ ts) (putF f v fs)
  | [], [], _ => ⟨rfl, h, trivial⟩
  | (g, ψ) :: ts, (g', x) :: fs, q => by
    obtain ⟨q1, q2, q3⟩ := q
    cases q1
    unfold putT putF
    by_cases e : g = f
    · rw [if_pos e, if_pos e]
      exact ⟨e.symm, h, q3⟩
    · rw [if_neg e, if_neg e]
      exact ⟨rfl, q2, Flds.put h q3⟩
  | [], _ :: _, q => q.elim
  | _ :: _, [], q => q.elim
theorem Flds.len {W : Wd} : ∀ {ts : List (Str × Ty)} {fs : List (Str × V)}, Flds W ts fs → fs.length = ts.length
  | [], [], _ => rfl
  | _ :: _, _ :: _, h => congrArg (· + 1) (Flds.len h.2.2)
  | [], _ :: _, h => h.elim
  | _ :: _, [], h => h.elim
/-- contents: an instance of the class at C -/
def CI (C x dx : Addr) (ts : List (Str × Ty)) : Th := ⟨fun W a o => a = x ∧ ∃ fs, o = .ins C dx fs ∧ Flds W ts fs, fun l ⟨e0, fs, e, f⟩ => ⟨e0, fs, e, f.up l⟩⟩
theorem Dt_fld {i : Nat} {C x dx : Addr} {f : Str} {ts : List (Str × Ty)} (e : Φ[i]? = some (.ow (CI C x dx ts))) (c : Cls K C) (no : NoAttr K C f) (few : ts.length < 1000) (h : De A te Φ fun χ => O.nx (Φ.set i (.ow (CI C x dx (putT f χ ts))))) : Dt A (sFld K (tVar i) te f) Φ O := fun G D σ W H s a g =>
  h σ W H a _ fun χ y W2 H2 f2 p2 kn => by
    obtain ⟨p, o, s1, nb, nc, n0, ho, ex, fs, rfl, fl⟩ := (a.up f2).env.ow i _ e
    exact ⟨.ref p, s1, p, C, dx, fs, rfl, ho, c, no, by rw [fl.len]; exact few, s.nx _ _ W2 _ kn ((a.up f2).mod e s1 nb nc n0 ⟨ex, _, rfl, fl.put p2⟩) (g.trans f2.le)⟩
theorem De_fldOw {i : Nat} {C x dx : Addr} {f : Str} {ts : List (Str × Ty)} {χ : Ty} (e : Φ[i]? = some (.ow (CI C x dx ts))) (c : Cls K C) (no : NoAttr K C f) (lk : ts.lookup f = some χ) (h : k χ) : De A (tFld K (tVar i) f) Φ k := fun σ W H a Q q => by
  obtain ⟨p, o, s1, nb, nc, n0, ho, ex, fs, rfl, fl⟩ := a.env.ow i _ e
  obtain ⟨v, ev, tv⟩ := fl.get lk
  exact ⟨.ref p, s1, p, C, dx, fs, v, rfl, ho, c, no, ev, q χ v W H (Fr.refl a.inn) tv h⟩
theorem De_conOw {i : Nat} {C x dx : Addr} {f : Str} {ts : List (Str × Ty)} {v : V} {u : Value} (e : Φ[i]? = some (.ow (CI C x dx ts))) (c : Cls K C) (co : Con K C f v u) (lk : ts.lookup f = none) (h : k (TV v)) : De A (tCon K (tVar i) f) Φ k := fun σ W H a Q q => by
  obtain ⟨p, o, s1, nb, nc, n0, ho, ex, fs, rfl, fl⟩ := a.env.ow i _ e
  exact ⟨.ref p, s1, p, C, dx, fs, v, u, rfl, ho, c, co, fl.none lk, q (TV v) v W H (Fr.refl a.inn) rfl h⟩
abbrev PI8 := List Ty → (List (Str × Ty) → Prop) → (Addr → List (Str × Ty) → Prop) → Prop
/-- what an __init__ promises: H1 is the heap ahead of the new instance -/
def spInit (C : Addr) (S : PI8) : Sp := fun vs H Q E => ∃ (x dx : Addr) (us : List V) (H1 : Hp) (φs : List Ty) (k : List (Str × Ty) → Prop) (kx : Addr → List (Str × Ty) → Prop) (W : Wd), vs = .ref x :: us ∧ H = upd (upd H1 dx (.own x)) x (.ins C dx []) ∧ H1 x = none ∧ H1 dx = none ∧ dx ≠ x ∧ In W H1 ∧ Are W φs us ∧ S φs k kx ∧
  (∀ ts fs W2 H2, Fr W H1 W2 H2 → H2 x = some (.ins C dx fs) → W2.B x = none → ¬ W2.C x → Flds W2 ts fs → k ts → Q .non H2) ∧ Xs (W, H1) kx E
theorem make_core {C : Addr} {S : PI8} {E : XK} {k : Ty → Prop} {φs : List Ty} {vs : List V} {W : Wd} {H : Hp} {Q : VK} (i : In W H) (ar : Are W φs vs) (sh : S φs (fun ts => k (TJ C ts)) kx) (hE : Xs (W, H) kx E) (q : ∀ φ v W2 H2, Fr W H W2 H2 → φ.is W2 v → k φ → Q v H2) :
    ∀ x dx, H x = none → H dx = none → dx ≠ x → spInit C S (.ref x :: (vs ++ [])) (upd (upd H dx (.own x)) x (.ins C dx [])) (fun v H2 => v = .non ∧ Q (.ref x) H2) E := fun x dx nx ndx ne => by
  rw [List.append_nil]
  refine ⟨x, dx, vs, H, φs, _, kx, W, rfl, rfl, nx, ndx, ne, i, ar, sh, fun ts fs W2 H2 f hx nb nc fl kt => ⟨rfl, ?_⟩, hE⟩
  exact q (TJ C ts) (.ref x) (W2.add x (.ins C dx fs)) H2 (f.know hx nx nb nc) ⟨x, dx, fs, rfl, Wd.add_at, fl.up (Le.add nb)⟩ kt
theorem De_make {C : Addr} {S : PI8} {E : XK} (h : Da A tr Φ fun φs => S φs (fun ts => k (TJ C ts)) fun _ _ => False) : De A (tMake C (spInit C S) [] E tr) Φ k := fun σ W H a Q q =>
  h σ W H a _ fun φs vs W1 H1 f1 p1 sh => make_core (k := k) f1.inn p1 sh (fun _ _ _ _ _ _ _ _ _ z => z.elim) fun φ v W2 H2 f2 p2 k2 => q φ v W2 H2 (f1.trans f2) p2 k2
theorem De_makeX {C : Addr} {S : PI8} {E : XK} (hE : Xs A kx E) (h : Da A tr Φ fun φs => S φs (fun ts => k (TJ C ts)) kx) : De A (tMake C (spInit C S) [] E tr) Φ k := fun σ W H a Q q =>
  h σ W H a _ fun φs vs W1 H1 f1 p1 sh => make_core (k := k) f1.inn p1 sh (hE.up (a.fr.trans f1)) fun φ v W2 H2 f2 p2 k2 => q φ v W2 H2 (f1.trans f2) p2 k2
theorem De_makeL {i : Nat} {C : Addr} {S : PI8} {E : XK} (e : Φ[i]? = some (.im (TV (.ref C)))) (hE : Xs A kx E) (h : Da A tr Φ fun φs => S φs (fun ts => k (TJ C ts)) kx) : De A (OwnB.tMakeL i C (spInit C S) E tr) Φ k := fun σ W H a Q q => by
  obtain ⟨v, s1, p⟩ := a.env.im i _ e
  obtain rfl : v = .ref C := p
  exact ⟨s1, De_makeX hE h σ W H a Q q⟩
theorem enterI {C : Addr} {S : PI8} {N : List Str} {vs : List V} {H : Hp} {Q : VK} {E : XK} {n : Nat} (hn : N.length = n + 1) (h : spInit C S vs H Q E)
    (b : ∀ (A : Wd × Hp) (x dx : Addr) φs k kx, S φs k kx → Xs A kx E → Dt A t (.ow (CI C x dx []) :: slots n φs) ⟨fun Φ => ∃ ts, Φ[0]? = some (.ow (CI C x dx ts)) ∧ k ts, fun _ => False, fun _ => False, fun _ => False⟩) :
    t { nx := fun _ H' => Q .non H', rt := Q } (L2.start N vs) H := by
  obtain ⟨x, dx, us, H1, φs, k, kx, W, rfl, rfl, nx, ndx, ne, i, p, s, q, xq⟩ := h
  match N, hn with
  | y :: N, hn =>
    have hn : N.length = n := Nat.succ.inj hn
    subst hn
    have o := i.out nx
    have od := i.out ndx
    have fr : Fr W H1 W (upd (upd H1 dx (.own x)) x (.ins C dx [])) := ((Fr.refl i).own ndx od.1 od.2).own nx o.1 o.2
    have st : L2.start (y :: N) (.ref x :: us) = some (.ref x) :: L2.start N us := by
      unfold L2.start
      rw [List.map_cons, List.length_cons, List.length_cons, List.cons_append, Nat.add_sub_add_right]
    have e0 := en_start (H0 := H1) (H := upd (upd H1 dx (.own x)) x (.ins C dx [])) (N := N) p
    have now : ∀ (j : Nat) (θ : Th), (slots N.length φs)[j]? ≠ some (.ow θ) := fun j θ e => by
      unfold slots at e
      by_cases c : j < φs.length
      · rw [List.getElem?_append_left (by rw [List.length_map]; exact c), List.getElem?_map] at e
        cases e1 : φs[j]? with
        | none => rw [e1] at e; cases e
        | some ψ => rw [e1] at e; cases e
      · rw [List.getElem?_append_right (by rw [List.length_map]; omega), List.getElem?_replicate] at e
        split at e <;> cases e
    rw [st]
    refine b (W, H1) x dx φs k kx s xq W _ _ W _ ⟨fun Φ σ W2 H2 e a _ => ?_, fun _ _ _ _ e _ _ => e.elim, fun _ _ _ _ e _ _ => e.elim, fun _ _ _ _ e _ _ => e.elim⟩ ⟨fr, ?_, fun j φ e => ?_, fun j θ e => ?_, fun j l θ θ' b e1 e2 s1 s2 => ?_⟩ (Le.refl W)
    · obtain ⟨ts, e, kt⟩ := e
      obtain ⟨p, o, s1, nb, nc, n0, ho, rfl, fs, rfl, fl⟩ := a.env.ow 0 _ e
      exact q ts fs W2 H2 a.fr ho nb nc fl kt
    · rw [List.length_cons, List.length_cons, e0.len]
    · match j, e with
      | j + 1, e => exact e0.im j φ (by simpa using e)
    · match j, e with
      | 0, e =>
        cases e
        exact ⟨x, _, rfl, o.1, o.2, nx, upd_same, rfl, [], rfl, trivial⟩
      | j + 1, e => exact absurd (by simpa using e) (now j θ)
    · match j, l, e1, e2 with
      | 0, 0, _, _ => rfl
      | _, l + 1, _, e2 => exact absurd (by simpa using e2) (now l θ')
      | j + 1, _, e1, _ => exact absurd (by simpa using e1) (now j θ)
end
end Wl
set_option Elab.async false
set_option linter.all false
set_option maxRecDepth 100000
set_option maxHeartbeats 4000000
namespace ErrX
open PySem PySem.Spec PyProof.Rows L2
/-- __init__(self, x, y): super().__init__(..); self.f = x; self.g = y -/
def spI2 (C : Addr) (f g : Str) : Sp := fun vs H Q _ => ∃ (a : Addr) (x y : Int), vs = [.ref a, .int x, .int y] ∧ H a = some (exo a C none) ∧ ∀ dx, H dx = none → dx ≠ a → Q .non (upd (upd (upd H dx (exd dx [(f, .int x)])) a (exo a C (some dx))) dx (exd dx [(g, .int y), (f, .int x)]))
def tMk2 (C : Addr) (f g : Str) (ta : TA) : L2.St → Hp → XK → Prop := fun σ H Q => ta σ H fun vs H1 => ∃ x y : Int, vs = [.int x, .int y] ∧ ∀ d, H1 d = none → Q (.ref C) (some d) (upd H1 d (.xd [(g, .int y), (f, .int x)]))
theorem mk2_heap {H : Hp} {a C d : Addr} {o1 o2 o : HO} (ha : H a = none) (hd : d ≠ a) : upd (del (upd (upd (upd (upd H a (exo a C none)) d o1) a (exo a C (some d))) d o2) a) d o = upd H d o := by
  funext b
  by_cases hb : b = d
  · subst hb
    rw [upd_same, upd_same]
  · rw [upd_ne hb, upd_ne hb]
    by_cases hba : b = a
    · subst hba
      rw [del_same, ha]
    · rw [del_ne hba, upd_ne hb, upd_ne hba, upd_ne hb, upd_ne hba]
theorem pmk_err2 {X : Cx} {CX : CXT} {x f g : Str} {e e2 : Expr} {ta : TA} {p pos : Pos} {C fI : Addr} {k : Nat} {fd : FuncData} {ps : List Str} (T : OexC X.K C) (iC : PySem.W.findIn X.K (.ref C) "__init__" = some (some (.ref fI))) (tI : PySem.W.typeIn X.K (.ref fI) = some (.type "function"))
    (F1 : FnOk X.prog X.w X.K X.mg X.base CX k fI fd ps (spI2 C f g)) (hr : Room (k + 1) X.A) (hb : Binds X.K fd ps []) (hx : Passes CX X (fun _ _ _ => False)) (hg : Gl X x) (hm : X.mg x = some (.ref C)) (ha : PA X [e, e2] ta)
    (hdb : (x == ("__debug__" : Str)) = false := by decide) (he : starEach [e, e2] X.env = (false, eval e X.env) :: starEach [e2] X.env := by rfl) (hpl : (backTo pos (starEach [e2] X.env)).any (·.1) = false := by rfl) :
    L2N.PMk X (.Call (.Name x p) [e, e2] [] pos) (tMk2 C f g ta) := by
  intro pins s σ H Q I h
  refine pmk_oexN T iC tI F1 hr hb hx hg hm (taW_ok ha) hdb he hpl pins s σ H Q I ⟨_, h, ?_⟩
  rintro vs H1 ⟨x, y, rfl, q⟩
  refine ⟨(by show 2 ≤ 1000; decide), fun a hn => ⟨a, x, y, rfl, upd_same, fun dx hdx ne => ⟨rfl, dx, [(g, .int y), (f, .int x)], ?_, ?_, ?_, ?_⟩⟩⟩
  · rw [upd_ne (Ne.symm ne), upd_same]
  · rw [upd_same]
  · rw [upd_ne ne] at hdx
    exact hdx
  · have hd1 : H1 dx = none := by
      rw [upd_ne ne] at hdx
      exact hdx
    rw [mk2_heap hn ne]
    exact q dx hd1
end ErrX
namespace Wl
open PySem PySem.Spec PyProof.Rows L2
theorem Dt_raise2 {A : Wd × Hp} {Φ : List Sl} {O : Out} {kx : Addr → List (Str × Ty) → Prop} {tr : TA} {C : Addr} {f g : Str} {E : XK} (hE : Xs A kx E) (h : Da A tr Φ fun φs => ∃ x y, φs = [TI x, TI y] ∧ kx C [(g, TI y), (f, TI x)]) : Dt A (fun _ σ H => ErrX.tMk2 C f g tr σ H fun cls d H' => E cls d H') Φ O := fun G D σ W H s a gl =>
  h σ W H a _ fun φs vs W1 H1 f1 p1 ⟨x, y, e, kh⟩ => by
    subst e
    obtain ⟨v, u, rfl, p9, p8⟩ := p1.two
    obtain rfl : v = .int x := p9
    obtain rfl : u = .int y := p8
    refine ⟨x, y, rfl, fun d nd => ?_⟩
    exact hE C [(g, TI y), (f, TI x)] d [(g, .int y), (f, .int x)] (W1.add d (.xd [(g, .int y), (f, .int x)])) _ ((a.fr.trans f1).trans (Fr.new f1.inn nd)) Wd.add_at ⟨rfl, rfl, rfl, rfl, trivial⟩ kh
end Wl
set_option Elab.async false
set_option linter.all false
set_option maxRecDepth 100000
set_option maxHeartbeats 4000000
/-! HotL: within an except suite: a list's iterator ends, a tuple is unpacked, a comprehension over a list. -/
namespace HotL
open PySem PySem.Spec PyProof.Rows L2 HotX
section
variable {prog : Program} {w : World} {A : Around} {E : Value → Shared → Prop} {s : Shared}
abbrev isStop : Value := .type "StopIteration"
/-- the handled exception's record stays where only `it` changes -/
theorem hotBut {x1 it : Addr} {h h' : Heap} (hot : HotAt A x1 h) (n : x1 ≠ it) (e : ∀ b o, b ≠ it → h.get? b = some o → h'.get? b = some o) : HotAt A x1 h' := by
  obtain ⟨q, o, vs, g, d, c⟩ := hot
  exact ⟨q, o, vs, e _ _ n g, d, c⟩
/-- the StopIteration of an iterator, while an exception is handled: T its type -/
theorem list_stop {it l x1 : Addr} {i : Nat} {items : Array Value} {Q : Option Value → Shared → Prop} (hot : HotAt A x1 s.heap) (ap : x1 ≠ it) (hit : s.heap.IsListIter it l i) (hl : s.heap.IsList l items) (hx : items[i]? = none)
    (hQ : ∀ h', Heap.ExtBut it s.heap h' → Q none { s with heap := h' }) : wpAny (model prog w) A (pyNext (.ref it)) Q E s := by
  obtain ⟨oi, gi, ci, di⟩ := id hit
  obtain ⟨ol, gl, _, nl, dl⟩ := hl
  unfold pyNext
  refine wpAny_bind (wpAny_attempt (wpAny_callSpecial?_slot (name := Str.ofString "__next__") hit.typeIs slot_listiter_next (wpAny_call_entry slot_listiter_next hit.typeIs entry_listiter_next ?_ (args_listiter_next _))))
  show wpAny (model prog w) _ (field (.ref it) 0 >>= _) _ _ s
  refine wpAny_bind (wpAny_field gi di (x := Value.ref l) rfl ?_)
  show wpAny (model prog w) _ (if (Value.ref l == Value.none) = true then _ else _) _ _ s
  rw [if_neg (by intro z; exact Bool.false_ne_true z)]
  show wpAny (model prog w) _ (field (.ref it) 1 >>= _) _ _ s
  refine wpAny_bind (wpAny_field gi di (x := Value.int i 0) rfl ?_)
  show wpAny (model prog w) _ (seqItems? (.ref l) >>= _) _ _ s
  refine wpAny_bind (wpAny_seqItems gl dl ?_)
  simp only [hx, Int.toNat_natCast]
  refine wpAny_bind (wpAny_rule (wpAny_bind (wpAny_setField gi di (by simp) ?_)))
  have k1 := (Heap.SameBut.update s.heap it (Obj.mapFields (·.setIfInBounds 0 Value.none))).extBut
  generalize s.heap.update it (Obj.mapFields (·.setIfInBounds 0 Value.none)) = g1 at k1 ⊢
  have hot1 : HotAt A x1 g1 := hotBut hot ap k1
  show wpAny (model prog w) _ (newExc isStop [] >>= _) _ _ _
  refine wpAny_bind ?_
  simp only [newTuple, newExc]
  refine wpAny_bind (wpAny_newObj_type ?_ (by size_fits))
  refine wpAny_bind (m := firstArgMember _ _) (wpAny_of_eq (a := Value.none) (by first | rfl | (simp only [firstArgMember]; rfl)) (wpAny_newObj_type ?_ (by size_fits)))
  obtain ⟨hh, o1, vs1, e1, d1, c1⟩ := hot1
  have e2 := Heap.get?_push_of_some { cls := .type "tuple", data := .seq ([] : List Value).toArray } e1
  refine raiseNew_hot ⟨hh, o1, vs1, Heap.get?_push_of_some _ e2, d1, c1⟩ (Nat.ne_of_lt (Heap.lt_size e2)) (Heap.get?_push_size _ rfl) rfl (by first | (simp; done) | (simp; omega) | (simp only [Array.size_append]; simp; omega)) ?_
  refine wpAny_bind (wpAny_isInstance (T := "StopIteration") (b := true) ⟨_, Heap.get?_update_self _ (Heap.get?_push_size _ rfl) rfl, rfl⟩ isSubtype_stop (wpAny_pure (hQ _ fun b o nb eo => ?_)))
  have e3 := Heap.get?_push_of_some { cls := .type "tuple", data := .seq ([] : List Value).toArray } (k1 b o nb eo)
  rw [Heap.get?_update_other _ _ (Nat.ne_of_gt (Heap.lt_size e3))]
  exact Heap.get?_push_of_some _ e3
theorem tup_stop {it l x1 : Addr} {i : Nat} {items : Array Value} {Q : Option Value → Shared → Prop} (hot : HotAt A x1 s.heap) (ap : x1 ≠ it) (hit : IsTupIter s.heap it l i) (hl : IsTup s.heap l items) (hx : items[i]? = none)
    (hQ : ∀ h', Heap.ExtBut it s.heap h' → Q none { s with heap := h' }) : wpAny (model prog w) A (pyNext (.ref it)) Q E s := by
  obtain ⟨oi, gi, ci, di⟩ := id hit
  obtain ⟨ol, gl, _, nl, dl⟩ := hl
  unfold pyNext
  refine wpAny_bind (wpAny_attempt (wpAny_callSpecial?_slot (name := Str.ofString "__next__") hit.typeIs slot_tupleiter_next (wpAny_call_entry slot_tupleiter_next hit.typeIs entry_tupleiter_next ?_ (args_tupleiter_next _))))
  show wpAny (model prog w) _ (field (.ref it) 0 >>= _) _ _ s
  refine wpAny_bind (wpAny_field gi di (x := Value.ref l) rfl ?_)
  show wpAny (model prog w) _ (if (Value.ref l == Value.none) = true then _ else _) _ _ s
  rw [if_neg (by intro z; exact Bool.false_ne_true z)]
  show wpAny (model prog w) _ (field (.ref it) 1 >>= _) _ _ s
  refine wpAny_bind (wpAny_field gi di (x := Value.int i 0) rfl ?_)
  show wpAny (model prog w) _ (seqItems? (.ref l) >>= _) _ _ s
  refine wpAny_bind (wpAny_seqItems gl dl ?_)
  simp only [hx, Int.toNat_natCast]
  refine wpAny_bind (wpAny_rule (wpAny_bind (wpAny_setField gi di (by simp) ?_)))
  have k1 := (Heap.SameBut.update s.heap it (Obj.mapFields (·.setIfInBounds 0 Value.none))).extBut
  generalize s.heap.update it (Obj.mapFields (·.setIfInBounds 0 Value.none)) = g1 at k1 ⊢
  have hot1 : HotAt A x1 g1 := hotBut hot ap k1
  show wpAny (model prog w) _ (newExc isStop [] >>= _) _ _ _
  refine wpAny_bind ?_
  simp only [newTuple, newExc]
  refine wpAny_bind (wpAny_newObj_type ?_ (by size_fits))
  refine wpAny_bind (m := firstArgMember _ _) (wpAny_of_eq (a := Value.none) (by first | rfl | (simp only [firstArgMember]; rfl)) (wpAny_newObj_type ?_ (by size_fits)))
  obtain ⟨hh, o1, vs1, e1, d1, c1⟩ := hot1
  have e2 := Heap.get?_push_of_some { cls := .type "tuple", data := .seq ([] : List Value).toArray } e1
  refine raiseNew_hot ⟨hh, o1, vs1, Heap.get?_push_of_some _ e2, d1, c1⟩ (Nat.ne_of_lt (Heap.lt_size e2)) (Heap.get?_push_size _ rfl) rfl (by first | (simp; done) | (simp; omega) | (simp only [Array.size_append]; simp; omega)) ?_
  refine wpAny_bind (wpAny_isInstance (T := "StopIteration") (b := true) ⟨_, Heap.get?_update_self _ (Heap.get?_push_size _ rfl) rfl, rfl⟩ isSubtype_stop (wpAny_pure (hQ _ fun b o nb eo => ?_)))
  have e3 := Heap.get?_push_of_some { cls := .type "tuple", data := .seq ([] : List Value).toArray } (k1 b o nb eo)
  rw [Heap.get?_update_other _ _ (Nat.ne_of_gt (Heap.lt_size e3))]
  exact Heap.get?_push_of_some _ e3
/-- a tuple is unpacked -/
theorem unpackH {t x1 : Addr} {items : Array Value} {Q : List Value → Shared → Prop} (hot : HotAt A x1 s.heap) (ht : IsTup s.heap t items) (hQ : ∀ h', Heap.ExtBut s.heap.objs.size s.heap h' → Q items.toList { s with heap := h' }) :
    wpAny (model prog w) A (unpackItems (.ref t) items.size none) Q E s := by
  have ne : ∀ {b : Addr} {o : Obj}, s.heap.get? b = some o → b ≠ s.heap.objs.size := fun e => Nat.ne_of_lt (Heap.lt_size e)
  have tne : t ≠ s.heap.objs.size := by
    obtain ⟨o, e, _⟩ := ht
    exact ne e
  have xne : x1 ≠ s.heap.objs.size := by
    obtain ⟨_, o, _, e, _⟩ := hot
    exact ne e
  unfold unpackItems
  refine wpAny_bind ?_
  unfold notIterableAtAll
  refine wpAny_bind (wpAny_specialOf ht.typeIs slot_tuple_iter.lookup (wpAny_pure ?_))
  simp only [Bool.false_eq_true, if_false]
  refine wpAny_bind (wpAny_holding (iter_tuple ht ?_))
  have ht0 := ht.push { cls := .type "tuple_iterator", data := .fields #[.ref t, .int 0 0] }
  refine wpAny_bind (wpAny_holding (draw_tuple tne items.size 0 _ _ ⟨_, Heap.get?_push_size _ rfl, rfl, rfl⟩ ht0 (Nat.le_of_eq (Nat.zero_add _)) fun h1 it1 sb1 => ?_))
  rw [List.drop_zero, List.take_of_length_le (show items.toList.length ≤ items.size by simp), if_neg (by simp)]
  have k1 : ∀ b o, b ≠ s.heap.objs.size → s.heap.get? b = some o → h1.get? b = some o := fun b o n e => sb1.extBut b o n (Heap.get?_push_of_some _ e)
  refine wpAny_bind (wpAny_holding (tup_stop (s := { s with heap := h1 }) (hotBut hot xne k1) xne it1 (ht0.extBut sb1.extBut tne) (by simp) fun h2 k2 => ?_))
  simp only [Option.isSome_none, Bool.false_eq_true, if_false]
  exact wpAny_pure (hQ h2 fun b o n e => k2 b o n (k1 b o n e))
end
/-- a target within a block while the exception at p.1 is handled: p is among the pins -/
structure PGp (Y : Cx) (p : Addr × Obj) (tg : Expr) (g : TG) : Prop where
  run : ∀ (pins : List (Addr × Obj)) (s : Shared) (σ : L2.St) (H : Hp) (v : V) (u : Value) (Q : L2.St → Hp → Prop), p ∈ pins → Inv Y pins σ H s → RelV v u → g v σ H Q → wpAny (model Y.prog Y.w) Y.A (assign tg Y.env u) (fun _ s' => ∃ σ' H', Inv Y pins σ' H' s' ∧ Q σ' H') Y.xe s
theorem hot_of {Y : Cx} {p : Addr × Obj} {pins : List (Addr × Obj)} {σ : L2.St} {H : Hp} {s : Shared} (h : L2H.Hot1 Y.A p) (hp : p ∈ pins) (I : Inv Y pins σ H s) : HotAt Y.A p.1 s.heap := by
  obtain ⟨hh, vs, e, c⟩ := h
  exact ⟨hh, p.2, vs, (I.pin p (List.mem_append_right _ hp)).1, e, c⟩
theorem pgp_tup {Y : Cx} {p : Addr × Obj} {es : List Expr} {k : Nat} {t : TGs} {n : Nat} {pos : Pos} (h1 : L2H.Hot1 Y.A p) (h : PGs Y es t)
    (hn : (assignEach es Y.env).length = n := by rfl) (hst : (assignEach es Y.env).findIdx? (·.1) = none := by rfl) : PGp Y p (.Tuple es k pos) (gTup Y.K n t) := by
  refine ⟨fun pins s σ H v u Q hp I r hw => ?_⟩
  obtain ⟨a, xs, rfl, hq, hl, hw⟩ := hw
  cases r
  obtain ⟨its, rv, ht, hz⟩ := I.tuple hq
  rw [assign_Tuple]
  refine wpAny_bind (wpAny_standAt ?_)
  unfold unpack
  have hsz : its.toArray.size = n := by rw [List.size_toArray, ← hl, rv.length]
  rw [hn, hst, ← hsz]
  refine wpAny_bind (wpAny_holding (unpackH (hot_of h1 hp I) ht fun h' hx => ?_))
  have I1 : Inv Y pins σ H { s with heap := h' } := I.kept (t' := s.toks) fun b o e => hx b o (Nat.ne_of_lt (Heap.lt_size e)) e
  exact h.run pins _ σ H xs _ Q I1 (by simpa using rv) hw
end HotL
set_option Elab.async false
set_option linter.all false
set_option maxRecDepth 100000
set_option maxHeartbeats 4000000
namespace HotL
open PySem PySem.Spec PyProof.Rows L2 HotX CmX
section
variable {Y : Cx} {p : Addr × Obj} {tg : Expr} {a it : Addr} {i : Nat} {pins : List (Addr × Obj)} {s : Shared} {σ : L2.St} {H : Hp} {E : Value → Shared → Prop}
theorem item_list (I : Inv Y pins σ H s) (f : FpOk Y pins H it) (st : s.heap.IsListIter it a i) (go : (Itl Y.K a).go i H) :
    wpAny (model Y.prog Y.w) Y.A (pyNext (.ref it)) (fun r s1 => ∃ u, r = some u ∧ wpAny (model Y.prog Y.w) Y.A (letOwnedTupleGo tg (.ref it) u) (fun _ s2 => ∃ x, Inv Y pins σ H s2 ∧ RelV x u ∧ (Itl Y.K a).yld i H x H ∧ s2.heap.IsListIter it a (i + 1)) E s1) E s := by
  obtain ⟨xs, x, hq, hx⟩ := go
  obtain ⟨its, rv, pl, _⟩ := I.list hq
  obtain ⟨u, hu, ru⟩ := rv.get hx
  obtain ⟨f0, f1, _, f3, f4, f5⟩ := f
  refine wpAny_pyNext_list_item st pl.isList (x := u) (by simpa using hu) fun h' st' sb => ?_
  have J : Inv Y pins σ H { s with heap := h' } := I.turned (t' := s.toks) (fun b o hb e => (sb.2 b hb).trans e) f0 f1 f3 f4 f5
  obtain ⟨o, e, c, d⟩ := id st'
  exact ⟨u, rfl, go_of (s := { s with heap := h' }) e c d (by decide) ⟨x, J, ru, ⟨rfl, fun ys hy => by rw [I.list_inj hy hq]; exact hx⟩, st'⟩⟩
theorem done_list (h1 : L2H.Hot1 Y.A p) (hp : p ∈ pins) (I : Inv Y pins σ H s) (f : FpOk Y pins H it) (st : s.heap.IsListIter it a i) (stop : (Itl Y.K a).stop i H) :
    wpAny (model Y.prog Y.w) Y.A (pyNext (.ref it)) (fun r s1 => r = none ∧ Inv Y pins σ H s1) E s := by
  obtain ⟨xs, hq, hx⟩ := stop
  obtain ⟨its, rv, pl, _⟩ := I.list hq
  obtain ⟨f0, f1, _, f3, f4, f5⟩ := f
  have hl := rv.length
  exact list_stop (hot_of h1 hp I) (f5 p (List.mem_append_right _ hp)) st pl.isList (by simp; omega) fun h' eb => ⟨rfl, I.turned (t' := s.toks) (fun b o hb e => eb b o hb e) f0 f1 f3 f4 f5⟩
/-- one turn of the block's loop: y its slots between two turns -/
theorem turnH_ok {ifs : List Expr} {y : L2.St} {vs : List Nat} {R : Result → Shared → Prop} {B N : Shared → Prop} {g : TG} {tt : TT}
    (hx : ∀ e s', ¬ Y.xe e s') (h1 : L2H.Hot1 Y.A p) (I : Inv Y [p] y H s) (st : s.heap.IsListIter it a i) (far : ∀ {σ : L2.St} {H' : Hp} {s' : Shared}, Inv Y [p] σ H' s' → H' it = none → FpOk Y [p] H' it) (fr : H it = none) (pg : PGp Y p tg g) (pt : PTs Y ifs tt)
    (h : ((Itl Y.K a).stop i H ∧ ∀ s1, Inv Y [p] y H s1 → R (.ok .next) s1) ∨ ((Itl Y.K a).go i H ∧ ∃ G : L2.St → Bool → Hp → Prop, (∀ x H1, (Itl Y.K a).yld i H x H1 → g x y H1 fun σ H2 => wipe σ vs = y ∧ tt σ H2 (G σ)) ∧
      ∀ σ b H3, G σ b H3 → ∀ (pp : List (Addr × Obj)) (s3 : Shared), Inv Y pp σ H3 s3 → (∀ H' s', Inv Y pp σ H' s' → Inv Y [p] y H' s' ∧ s'.heap.IsListIter it a (i + 1) ∧ H' it = none) → if b = true then B s3 else N s3)) :
    Turn1 Y tg ifs Y.env (.ref it) R B N s := by
  rcases h with ⟨stop, hq⟩ | ⟨go, G, hq, hG⟩
  · refine thnF (done_list (E := fun _ _ => False) h1 List.mem_cons_self I (far I fr) st stop) fun r s1 hh => ?_
    obtain ⟨er, J1⟩ := hh
    rw [er]
    exact hq s1 J1
  · refine thnF (item_list (tg := tg) (E := fun _ _ => False) I (far I fr) st go) fun r s1 hh => ?_
    obtain ⟨u, er, h2⟩ := hh
    rw [er]
    refine wpAny_mono h2 (fun _ s2 h2 => ?_) fun _ _ z => z.elim
    obtain ⟨x, J1, rx, yl, st1⟩ := h2
    obtain ⟨oi, ei, ci, di⟩ := id st1
    have J2 := J1.pinned (fp := [it]) (fun b hb => by rw [List.mem_singleton.mp hb]; exact far J1 fr) (fun b hb => by rw [List.mem_singleton.mp hb]; exact ⟨oi, ei, fun v z => by rw [di] at z; cases z⟩)
    refine wpAny_mono (pg.run _ s2 y H x u _ (List.mem_append_left _ List.mem_cons_self) J2 rx (hq x H yl)) (fun _ s3 h3 => ?_) fun e s' z => (hx e s' z).elim
    obtain ⟨σ, H2, J3, ew, ht⟩ := h3
    refine wpAny_mono (pt.run _ s3 σ H2 _ J3 ht) (fun b s4 h4 => ?_) fun e s' z => (hx e s' z).elim
    obtain ⟨H3, J4, hb⟩ := h4
    refine hG σ b H3 hb _ s4 J4 fun H' s' J' => ?_
    have kept := J'.pin (it, oi) (List.mem_append_right _ (List.mem_append_right _ (mem_pinsAt (fp := [it]) (List.mem_singleton.mpr rfl) ei)))
    refine ⟨(J'.unpinned (pins := [p])).weak (by rw [← ew, wipe_length]) fun j v ev => ?_, ⟨oi, kept.1, ci, di⟩, kept.2.1⟩
    rw [← ew] at ev
    exact (wipe_some ev).1
end
section
variable {X : Cx}
abbrev lstE : Obj := { cls := .type "list", data := .seq ([] : List Value).toArray }
theorem newList_ok {M : Model} {A : Around} {E : Value → Shared → Prop} {s : Shared} {Q : Value → Shared → Prop} (q : Q (.ref s.heap.objs.size) { s with heap := s.heap.push lstE }) : wpAny M A (newList []) Q E s := wpAny_newObj_type q (by show 0 ≤ sizeLine; decide)
theorem kind_list {elt tg iter : Expr} {ifs : List Expr} {scope : Scope} {pos : Pos} : Kind X (.ListComp elt [⟨tg, iter, ifs, 0⟩] scope pos) tg iter ifs (newList []) { cls := .type "list", data := .seq ([] : List Value).toArray }
    (fun env D nx er s => wpAny (model X.prog X.w) X.A (eval elt env) (fun x s1 => wpAny (model X.prog X.w) X.A (call (.builtin "list.append") [.ref D, x]) (fun _ s2 => nx s2) er s1) er s) where
  one := ⟨[], rfl⟩
  acc := fun q => wpAny_newObj_type q (by show 0 ≤ sizeLine; decide)
  loop := fun I turn n s hI => compLoop_any I turn n hI
  start := fun l i => codeAny_compStart_list l i
/-- [elt for tg in iter if ..] over a list, while the exception at p.1 is handled -/
theorem pe_lcH {elt tg iter : Expr} {ifs : List Expr} {scope : Scope} {own : List (Str × Nat)} {pos : Pos} {p : Addr × Obj} {tl : TE} {g : TG} {tt : TT} {te : TE} (h1 : L2H.Hot1 X.A p) (hp : p ∈ X.pn) (hN : X.N.Nodup) (hl : PE X iter tl) (ok : BlkOk X.N X.env.scope scope own)
    (hg : ∀ (s : Shared) (H : Hp) (C : Addr) (cl : List (Str × Addr)) (fp : List Addr), PGp (X.blk s H scope (compEnvC scope cl C X.env) fp) p tg g) (ht : ∀ (s : Shared) (H : Hp) (C : Addr) (cl : List (Str × Addr)) (fp : List Addr), PTs (X.blk s H scope (compEnvC scope cl C X.env) fp) ifs tt)
    (he : ∀ (s : Shared) (H : Hp) (C : Addr) (cl : List (Str × Addr)) (fp : List Addr), PE (X.blk s H scope (compEnvC scope cl C X.env) fp) elt te)
    (hs : ∀ x, foldedSetIterable iter X.env x = pure x := by intro _; rfl) : PE X (.ListComp elt [⟨tg, iter, ifs, 0⟩] scope pos) (tLc (iList X.K tl) g tt te (own.map (·.2))) := by
  refine ⟨fun pins s σ H Q I h => ?_⟩
  rw [eval_ListComp]
  have hfree : ∀ y ∈ scope.names, y.2 = .free → ∃ c, X.env.cells.lookup y.1 = some c := fun y hy ey => (ok.free y hy ey).elim (fun z => I.ok.has _ (.inl z)) fun z => I.ok.has _ (.inr z)
  refine wpAny_comprehension_free (use := none) rfl hs (closure_ok hfree) ok.kind (fun y hy ey => by rw [ok.uniq y hy, ey]) (thn (hl.run pins s σ H _ I h) fun xv s1 hh => ?_)
  obtain ⟨x, H2, I1, rx, a, rfl, ⟨xs0, hq0⟩, q⟩ := hh
  cases rx
  obtain ⟨its0, rv0, pl0, _⟩ := I1.list hq0
  refine wpAny_pyIter_list pl0.isList ?_
  obtain ⟨s2, es⟩ : ∃ s2 : Shared, s2 = { s1 with heap := s1.heap.push { cls := .type "list_iterator", data := .fields #[.ref a, .int 0 0] } } := ⟨_, rfl⟩
  have I2 : Inv X pins σ H2 s2 := by
    rw [es]
    exact I1.kept (t' := s1.toks) fun b o e => Heap.get?_push_of_some _ e
  have st2 : s2.heap.IsListIter s1.heap.objs.size a 0 := by
    rw [es]
    exact ⟨_, Heap.get?_push_size _ rfl, rfl, rfl⟩
  have f2 : FpOk X pins H2 s1.heap.objs.size := I1.fpOk (Nat.le_refl _) (I1.hok.fresh (Nat.le_refl _))
  rw [← es]
  generalize s1.heap.objs.size = it at st2 f2 ⊢
  clear es
  refine newList_ok ?_
  refine newEnv_comp ?_
  obtain ⟨W, ⟨m0, w0⟩, turn⟩ := q s2.heap.objs.size (I2.hok.fresh (Nat.le_refl _))
  have I3 := I2.laid (t' := s2.toks) (a := s2.heap.objs.size) (o := .lst []) (h' := s2.heap.push lstE) (fun b o eo => Heap.get?_push_of_some _ eo) (Nat.le_refl _) ⟨Nat.zero_le _, [], 0, .nil, Heap.get?_push_size _ rfl⟩
  have low : it < s2.heap.objs.size := by
    obtain ⟨o, eo, _⟩ := id st2
    exact Heap.lt_size eo
  have f3 : ∀ b ∈ [it], FpOk X pins (upd H2 s2.heap.objs.size (.lst [])) b ∧ b < (s2.heap.push lstE).objs.size := fun b hb => by
    rw [List.mem_singleton.mp hb]
    exact ⟨⟨by rw [upd_ne (Nat.ne_of_lt low)]; exact f2.1, f2.2⟩, by rw [Heap.size_push]; exact Nat.lt_succ_of_lt low⟩
  have st3 : (s2.heap.push lstE).IsListIter it a 0 := st2.at fun o eo => Heap.get?_push_of_some _ eo
  have I4 := block_start I3 ok hN f3
  have st4 : (pushCells ((s2.heap.push lstE).push { cls := .type "dict", data := .dict #[] }) scope.names).IsListIter it a 0 := st3.at fun o eo => pushCells_keeps _ _ _ _ (Heap.get?_push_of_some _ eo)
  have P3 := I3.pin p (List.mem_append_left _ hp)
  have I4p := I4.pins_of (pins' := [p]) fun r hr => by
    rw [List.mem_singleton.mp hr]
    refine ⟨pushCells_keeps _ _ _ _ (Heap.get?_push_of_some _ P3.1), P3.2.1, Nat.ne_of_lt (Heap.lt_size P3.1), fun hm => ?_, P3.2.2.2.2⟩
    exact (List.mem_cons.mp (I3.stkSub p.1 hm)).elim P3.2.2.1 P3.2.2.2.1
  show codeAny _ _ (.compStart (.ListComp elt [⟨tg, iter, ifs, 0⟩] scope pos) 0 (.ref it) (.ref s2.heap.objs.size) (compEnvC scope (cellsFrom ((s2.heap.push lstE).objs.size + 1) scope.names (cloFrom X.env.cells scope.names [])) (s2.heap.push lstE).objs.size X.env)) (compPost (model X.prog X.w) X.A X.xe none (EP X pins σ Q) (.ref s2.heap.objs.size) (s2.heap.push lstE).objs.size)
    { s2 with heap := pushCells ((s2.heap.push lstE).push { cls := .type "dict", data := .dict #[] }) scope.names }
  clear I4
  generalize cellsFrom ((s2.heap.push lstE).objs.size + 1) scope.names (cloFrom X.env.cells scope.names []) = cs at I4p ⊢
  generalize eH : upd H2 s2.heap.objs.size (.lst []) = H3 at I3 I4p f3 w0
  have nit : H3 it = none := (f3 it (List.mem_singleton.mpr rfl)).1.1
  have pne : p.1 ≠ it := (f3 it (List.mem_singleton.mpr rfl)).1.2.2.2.2.2 p (List.mem_append_left _ hp)
  have far : ∀ {σ' : L2.St} {H' : Hp} {s' : Shared}, Inv (X.blk { s2 with heap := s2.heap.push lstE } H3 scope (compEnvC scope cs (s2.heap.push lstE).objs.size X.env) [it]) [p] σ' H' s' → H' it = none →
      FpOk (X.blk { s2 with heap := s2.heap.push lstE } H3 scope (compEnvC scope cs (s2.heap.push lstE).objs.size X.env) [it]) [p] H' it := fun I' hn => by
    have hb : it ∈ [it] := List.mem_singleton.mpr rfl
    refine ⟨hn, (I'.ok.exf it hb).1, I'.ok.exfs it hb, .inl hb, fun x c ec => (I'.ok.exf it hb).2 x c ec, fun r hr => ?_⟩
    rw [List.mem_singleton.mp (show r ∈ [p] from hr)]
    exact pne
  have loop := (kind_list (X := X) (elt := elt) (tg := tg) (iter := iter) (ifs := ifs) (scope := scope) (pos := pos)).loop (env := compEnvC scope cs (s2.heap.push lstE).objs.size X.env) (it := .ref it) (D := s2.heap.objs.size)
    (R := compPost (model X.prog X.w) X.A X.xe none (EP X pins σ Q) (.ref s2.heap.objs.size) (s2.heap.push lstE).objs.size)
    (fun n s' => ∃ i H', Inv (X.blk { s2 with heap := s2.heap.push lstE } H3 scope (compEnvC scope cs (s2.heap.push lstE).objs.size X.env) [it]) [p] (wipe σ (own.map (·.2))) H' s' ∧ s'.heap.IsListIter it a i ∧ H' it = none ∧ W i n H')
    (fun n s5 hI => by
      obtain ⟨i, H5, I5, st5, n5, w5⟩ := hI
      refine turnH_ok (Y := X.blk { s2 with heap := s2.heap.push lstE } H3 scope (compEnvC scope cs (s2.heap.push lstE).objs.size X.env) [it]) (vs := own.map (·.2)) (fun _ _ z => z) h1 I5 st5 far n5 (hg _ _ _ _ _) (ht _ _ _ _ _) ?_
      rcases turn i n H5 w5 with ⟨stop, qq⟩ | ⟨go, N, hN', step⟩
      · refine .inl ⟨stop, fun s6 I6 => ?_⟩
        have I7 : Inv X pins σ H5 s6 := I3.call' (ch := [it]) I6.os I6.base I6.hok I6.bare fun b hb => ⟨(f3 b hb).1.2.2.2.1, (f3 b hb).1.2.1, (f3 b hb).1.2.2.2.2.1, (f3 b hb).1.2.2.2.2.2⟩
        have nC : H5 (s2.heap.push lstE).objs.size = none := I6.free
        obtain ⟨m, hn, _⟩ := I6.loc
        refine ⟨m, hn, fun h' sb => ?_⟩
        obtain ⟨g0, g1, g4, g5, g6, g7⟩ := I3.fpOk (Nat.le_refl _) nC
        exact ⟨.ref s2.heap.objs.size, H5, I7.turned (t' := s6.toks) (fun b o hb eo => (sb.2 b hb).trans eo) g0 g1 g5 g6 g7, rfl, qq⟩
      · refine .inr ⟨go, fun σ2 b H3 => if b = true then te σ2 H3 fun y H4 => ∃ acc, H4 s2.heap.objs.size = some (.lst acc) ∧ acc.length < sizeLine ∧ N (upd H4 s2.heap.objs.size (.lst (acc ++ [y]))) else N H3, step, fun σ2 b H8 hb pp s8 I8 back => ?_⟩
        cases b with
        | true =>
          have hb := (if_pos rfl : (if true = true then _ else _) = _) ▸ hb
          refine wpAny_mono ((he _ _ _ _ _).run pp s8 σ2 H8 _ I8 hb) (fun z s9 h9 => ?_) fun _ _ z => z.elim
          obtain ⟨yv, H9, I9, r9, acc, hD, hz, n9⟩ := h9
          refine app_ok (X := X.blk { s2 with heap := s2.heap.push lstE } H3 scope (compEnvC scope cs (s2.heap.push lstE).objs.size X.env) [it]) I9 hD hz r9 fun s10 I10 => ?_
          obtain ⟨m', hm, w'⟩ := hN' _ n9
          obtain ⟨b1, b2, b3⟩ := back _ s10 I10
          exact ⟨m', hm, i + 1, _, b1, b2, b3, w'⟩
        | false =>
          obtain ⟨m', hm, w'⟩ := hN' H8 hb
          obtain ⟨b1, b2, b3⟩ := back H8 s8 I8
          exact ⟨m', hm, i + 1, H8, b1, b2, b3, w'⟩)
    m0 _ ⟨0, H3, I4p, st4, nit, w0⟩
  exact codeAny_compStart_list loop (wpAny_pyIter_listiter st4 loop)
end
end HotL
set_option Elab.async false
set_option linter.all false
set_option maxRecDepth 100000
set_option maxHeartbeats 4000000
/-! Wy: branches; built-in functions; texts; slices. -/
namespace Wl
open PySem PySem.Spec PyProof.Rows L2
section
variable {X Y p : Prop}
theorem br_dec {p : Prop} [Decidable p] (h1 : p → X) (h2 : ¬ p → Y) : (decide p = true → X) ∧ (decide p = false → Y) := ⟨fun e => h1 (of_decide_eq_true e), fun e => h2 (of_decide_eq_false e)⟩
theorem br_ndec {p : Prop} [Decidable p] (h1 : ¬ p → X) (h2 : p → Y) : ((!decide p) = true → X) ∧ ((!decide p) = false → Y) := by
  by_cases q : p
  · rw [decide_eq_true q]
    exact ⟨(fun e => nomatch e), fun _ => h2 q⟩
  · rw [decide_eq_false q]
    exact ⟨fun _ => h1 q, (fun e => nomatch e)⟩
theorem br_t (h : X) : (true = true → X) ∧ (true = false → Y) := ⟨fun _ => h, (fun e => nomatch e)⟩
theorem br_f (h : Y) : (false = true → X) ∧ (false = false → Y) := ⟨(fun e => nomatch e), fun _ => h⟩
theorem br_nt (h : Y) : ((!true) = true → X) ∧ ((!true) = false → Y) := ⟨(fun e => nomatch e), fun _ => h⟩
theorem br_nf (h : X) : ((!false) = true → X) ∧ ((!false) = false → Y) := ⟨fun _ => h, (fun e => nomatch e)⟩
theorem br_b {b : Bool} (h1 : b = true → X) (h2 : b = false → Y) : (b = true → X) ∧ (b = false → Y) := ⟨h1, h2⟩
end
section
variable {A : Wd × Hp} {K : PySem.W.Frag} {Φ : List Sl} {O : Out} {k : Ty → Prop} {ta tb tc te : TE} {tr : TA}
theorem Dt_never (h : False) : Dt A tNever Φ O := h.elim
/-! ### built-in functions -/
theorem Rc_min2 {x y : Int} (h : k (TI (if y < x then y else x))) : Rc (fun xs H Q => ∃ i j, xs = [.int i, .int j] ∧ Q (.int (if j < i then j else i)) H) [TI x, TI y] k := fun W H vs i a Q q => by
  obtain ⟨v, u, rfl, p1, p2⟩ := a.two
  obtain rfl : v = .int x := p1
  obtain rfl : u = .int y := p2
  exact ⟨x, y, rfl, q _ _ W H (Fr.refl i) rfl h⟩
theorem Rc_max2 {x y : Int} (h : k (TI (if y > x then y else x))) : Rc (fun xs H Q => ∃ i j, xs = [.int i, .int j] ∧ Q (.int (if j > i then j else i)) H) [TI x, TI y] k := fun W H vs i a Q q => by
  obtain ⟨v, u, rfl, p1, p2⟩ := a.two
  obtain rfl : v = .int x := p1
  obtain rfl : u = .int y := p2
  exact ⟨x, y, rfl, q _ _ W H (Fr.refl i) rfl h⟩
theorem Rc_abs {x : Int} (h : k (TI (if x < 0 then -x else x))) : Rc (fun xs H Q => ∃ i, xs = [.int i] ∧ Q (.int (if i < 0 then -i else i)) H) [TI x] k := fun W H vs i a Q q => by
  obtain ⟨v, rfl, p1⟩ := a.un
  obtain rfl : v = .int x := p1
  exact ⟨x, rfl, q _ _ W H (Fr.refl i) rfl h⟩
theorem Rc_int1 {x : Int} (h : k (TI x)) : Rc (fun xs H Q => (∃ i, xs = [.int i] ∧ Q (.int i) H) ∨ ∃ b, xs = [.bl b] ∧ Q (.int (if b then 1 else 0)) H) [TI x] k := fun W H vs i a Q q => by
  obtain ⟨v, rfl, p1⟩ := a.un
  obtain rfl : v = .int x := p1
  exact .inl ⟨x, rfl, q _ _ W H (Fr.refl i) rfl h⟩
theorem Rc_intB {x : Bool} (h : k (TI (if x then 1 else 0))) : Rc (fun xs H Q => (∃ i, xs = [.int i] ∧ Q (.int i) H) ∨ ∃ b, xs = [.bl b] ∧ Q (.int (if b then 1 else 0)) H) [TB x] k := fun W H vs i a Q q => by
  obtain ⟨v, rfl, p1⟩ := a.un
  obtain rfl : v = .bl x := p1
  exact .inr ⟨x, rfl, q _ _ W H (Fr.refl i) rfl h⟩
theorem De_sum {ns : List Int} (h : Dl A ta Φ fun φs => φs = ns.map TI ∧ k (TI ns.sum)) : De A (tCB (rSum K) (tCons ta tNil)) Φ k := fun σ W H a Q q =>
  h σ W H a _ fun φs p vs W2 H2 f st ar ⟨e, kh⟩ => by
    subst e
    have := ar.vals (g := V.int)
    subst this
    exact ⟨p, ns, rfl, .inl (.inl (st W2 H2 (Fr.refl f.inn))), q _ _ W2 H2 f rfl kh⟩
/-- list(x), x a list | a tuple -/
abbrev rListOf (K : PySem.W.Frag) : List V → Hp → VK → Prop := fun xs H Q => ∃ p ys, xs = [.ref p] ∧ (SqL K H p ys ∨ SqT K H p ys) ∧ ∀ l, H l = none → Q (.ref l) (upd H l (.lst ys))
theorem Dn_listL {k : Th → Prop} (h : Dl A ta Φ fun φs => k (CL φs)) : Dn A (tCB (rListOf K) (tCons ta tNil)) Φ k := fun σ W H a Q q =>
  h σ W H a _ fun φs p vs W2 H2 f st ar kh => ⟨p, vs, rfl, .inl (.inl (.inl (st W2 H2 (Fr.refl f.inn)))), fun l n => q (CL φs) l (.lst vs) W2 _ (f.own (f.was n) (f.inn.out n).1 (f.inn.out n).2) (f.was n) (f.inn.out n).1 (f.inn.out n).2 upd_same ⟨vs, rfl, ar⟩ kh⟩
theorem Dn_listU {k : Th → Prop} (h : De A ta Φ fun φ => ∃ φs, φ = TU φs ∧ k (CL φs)) : Dn A (tCB (rListOf K) (tCons ta tNil)) Φ k := fun σ W H a Q q =>
  h σ W H a _ fun φ v W2 H2 f p ⟨φs, e, kh⟩ => by
    subst e
    obtain ⟨b, vs, rfl, hb, ar⟩ := p
    exact ⟨b, vs, rfl, .inr (.inl (.inl (f.inn.b _ _ hb))), fun l n => q (CL φs) l (.lst vs) W2 _ (f.own (f.was n) (f.inn.out n).1 (f.inn.out n).2) (f.was n) (f.inn.out n).1 (f.inn.out n).2 upd_same ⟨vs, rfl, ar⟩ kh⟩
/-- tuple(x) -/
abbrev rTupOf (K : PySem.W.Frag) : List V → Hp → VK → Prop := fun xs H Q => ∃ p ys, xs = [.ref p] ∧ ((SqL K H p ys ∧ ∀ l, H l = none → Q (.ref l) (upd H l (.tup ys))) ∨ (SqT K H p ys ∧ Q (.ref p) H))
theorem De_tupL (h : Dl A ta Φ fun φs => k (TU φs)) : De A (tCB (rTupOf K) (tCons ta tNil)) Φ k := fun σ W H a Q q =>
  h σ W H a _ fun φs p vs W2 H2 f st ar kh => ⟨p, vs, rfl, .inl ⟨.inl (.inl (st W2 H2 (Fr.refl f.inn))), fun l n => q (TU φs) (.ref l) _ _ (f.trans (Fr.new f.inn n)) ⟨l, vs, rfl, Wd.add_at, ar.up (Le.add (f.inn.out n).1)⟩ kh⟩⟩
theorem De_tupU (h : De A ta Φ fun φ => ∃ φs, φ = TU φs ∧ k (TU φs)) : De A (tCB (rTupOf K) (tCons ta tNil)) Φ k := fun σ W H a Q q =>
  h σ W H a _ fun φ v W2 H2 f p ⟨φs, e, kh⟩ => by
    subst e
    obtain ⟨b, vs, rfl, hb, ar⟩ := id p
    exact ⟨b, vs, rfl, .inr ⟨.inl (.inl (f.inn.b _ _ hb)), q (TU φs) (.ref b) W2 H2 f p kh⟩⟩
/-! ### slices -/
theorem Do_none {k : Option Int → Prop} (h : k none) : Do A tNoPart Φ k := fun σ W H a Q q => q none W H (Fr.refl a.inn) h
theorem Do_part {k : Option Int → Prop} (h : De A te Φ fun φ => ∃ x, φ = TI x ∧ k (some x)) : Do A (tPart te) Φ k := fun σ W H a Q q =>
  h σ W H a _ fun φ v W2 H2 f p ⟨x, e, kh⟩ => by
    subst e
    exact ⟨x, p, q _ W2 H2 f kh⟩
def cutT (xs : List Ty) (lo hi : Option Int) : List Ty := (xs.drop (HT.sIx xs.length 0 lo)).take (HT.sIx xs.length xs.length hi - HT.sIx xs.length 0 lo)
theorem Are.cut {W : Wd} {φs : List Ty} {vs : List V} (a : Are W φs vs) (lo hi : Option Int) : Are W (cutT φs lo hi) (cutV vs lo hi) := by
  unfold cutT cutV
  rw [a.len]
  exact Are.take _ (Are.drop _ a)
theorem Dn_slice {k : Th → Prop} {tl th : TO} (h : Dl A te Φ fun φs => Do A tl Φ fun lo => Do A th Φ fun hi => k (CL (cutT φs lo hi))) : Dn A (tSl (rSlL K) te tl th) Φ k := fun σ W H a Q q =>
  h σ W H a _ fun φs p vs W1 H1 f1 st ar h1 => h1 σ W1 H1 (a.up f1) _ fun lo W2 H2 f2 h2 => h2 σ W2 H2 (a.up (f1.trans f2)) _ fun hi W3 H3 f3 kh => by
    have f := (f1.trans f2).trans f3
    refine ⟨p, vs, rfl, .inl (.inl (st W3 H3 (f2.trans f3))), fun b n => ?_⟩
    exact q (CL (cutT φs lo hi)) b (.lst (cutV vs lo hi)) W3 _ (f.own (f.was n) (f.inn.out n).1 (f.inn.out n).2) (f.was n) (f.inn.out n).1 (f.inn.out n).2 upd_same ⟨_, rfl, (ar.up (f2.trans f3).le).cut lo hi⟩ kh
/-! ### texts -/
theorem Rr_addS {x y : Str} (l : x.length + y.length ≤ 1000) (h : k (TS (x ++ y))) : Rr (fun x y H Q => ∃ i j, x = .str i ∧ y = .str j ∧ i.length + j.length ≤ sizeLine ∧ Q (.str (i ++ j)) H) (TS x) (TS y) k := fun W H u v i p1 p2 Q q => by
  obtain rfl : u = .str x := p1
  obtain rfl : v = .str y := p2
  exact ⟨x, y, rfl, rfl, sz l, q _ _ W H (Fr.refl i) rfl h⟩
end
end Wl
set_option Elab.async false
set_option linter.all false
set_option maxRecDepth 100000
set_option maxHeartbeats 4000000
/-! Wz: types whose values are data; equality, membership. -/
namespace Wl
open PySem PySem.Spec PyProof.Rows L2
/-- data of this depth at most, without dicts -/
def OkD (n : Nat) (d : PyData) : Prop := d.canLay0 = true ∧ d.depth ≤ n
theorem OkD.int (i : Int) (n : Nat) : OkD n (.int i) := ⟨by simp [PyData.canLay0], by simp [PyData.depth]⟩
theorem OkD.bl (i : Bool) (n : Nat) : OkD n (.bool i) := ⟨by simp [PyData.canLay0], by simp [PyData.depth]⟩
theorem OkD.non (n : Nat) : OkD n .none := ⟨by simp [PyData.canLay0], by simp [PyData.depth]⟩
theorem OkD.str {s : Str} (n : Nat) (h : PyData.canLay0 (.str s) = true) : OkD n (.str s) := ⟨h, by simp [PyData.depth]⟩
theorem okAll {n : Nat} : ∀ {ds : List PyData}, (∀ d ∈ ds, OkD n d) → PyData.canLayAll0 ds = true ∧ PyData.depthAll ds ≤ n
  | [], _ => ⟨by simp [PyData.canLayAll0], by simp [PyData.depthAll]⟩
  | d :: ds, h => by
    obtain ⟨h1, h2⟩ := h d List.mem_cons_self
    obtain ⟨h3, h4⟩ := okAll fun e he => h e (List.mem_cons_of_mem _ he)
    exact ⟨by simp [PyData.canLayAll0, h1, h3], by simp only [PyData.depthAll]; omega⟩
theorem OkD.lst {n : Nat} {ds : List PyData} (h : ∀ d ∈ ds, OkD n d) : OkD (n + 1) (.list ds) := ⟨by simpa [PyData.canLay0] using (okAll h).1, by have := (okAll h).2; simp only [PyData.depth]; omega⟩
theorem OkD.tup {n : Nat} {ds : List PyData} (h : ∀ d ∈ ds, OkD n d) : OkD (n + 1) (.tuple ds) := ⟨by simpa [PyData.canLay0] using (okAll h).1, by have := (okAll h).2; simp only [PyData.depth]; omega⟩
theorem OkD.shaped {n : Nat} {d : PyData} (h : OkD n d) (l : n ≤ 64) : SeqAt.shaped d = true := by
  show (d.canLay0 && decide (d.depth ≤ 64)) = true
  rw [h.1, decide_eq_true (Nat.le_trans h.2 l)]
  rfl
/-- values of this type are this data -/
structure Dty (K : PySem.W.Frag) (φ : Ty) (d : PyData) : Prop where
  dp : ∀ W H v, In W H → φ.is W v → Dp K H v d
def DtyAll (K : PySem.W.Frag) : List Ty → List PyData → Prop
  | [], [] => True
  | φ :: φs, d :: ds => Dty K φ d ∧ DtyAll K φs ds
  | _, _ => False
section
variable {K : PySem.W.Frag}
theorem Dty.int (i : Int) : Dty K (TI i) (.int i) := ⟨fun W H v _ h => by cases h; exact .int i⟩
theorem Dty.bl (i : Bool) : Dty K (TB i) (.bool i) := ⟨fun W H v _ h => by cases h; exact .bl i⟩
theorem Dty.str (i : Str) : Dty K (TS i) (.str i) := ⟨fun W H v _ h => by cases h; exact .str i⟩
theorem Dty.non : Dty K TN .none := ⟨fun W H v _ h => by cases h; exact .non⟩
theorem DtyAll.dp {W : Wd} {H : Hp} (i : In W H) : ∀ {φs : List Ty} {ds : List PyData} {vs : List V}, DtyAll K φs ds → Are W φs vs → DpAll K H vs ds
  | [], [], [], _, _ => .nil
  | _ :: _, _ :: _, _ :: _, h, a => .cons (h.1.dp W H _ i a.1) (DtyAll.dp i h.2 a.2)
  | [], _ :: _, _, h, _ => h.elim
  | _ :: _, [], _, h, _ => h.elim
  | [], [], _ :: _, _, a => a.elim
  | _ :: _, _ :: _, [], _, a => a.elim
theorem Dty.lst {φs : List Ty} {ds : List PyData} (h : DtyAll K φs ds) : Dty K (TL φs) (.list ds) := ⟨fun W H v i ⟨p, vs, e, hb, ar⟩ => by subst e; exact .lst (i.sql (.inl (.inl hb))) (h.dp i ar)⟩
theorem Dty.tup {φs : List Ty} {ds : List PyData} (h : DtyAll K φs ds) : Dty K (TU φs) (.tuple ds) := ⟨fun W H v i ⟨p, vs, e, hb, ar⟩ => by subst e; exact .tup (i.sqt (.inl (.inl hb))) (h.dp i ar)⟩
theorem DtyAll.map {α : Type} {f : α → Ty} {g : α → PyData} (h : ∀ x, Dty K (f x) (g x)) : ∀ xs : List α, DtyAll K (xs.map f) (xs.map g)
  | [] => trivial
  | x :: xs => ⟨h x, DtyAll.map h xs⟩
theorem DtyAll.ints (ns : List Int) : DtyAll K (ns.map TI) (ns.map .int) := DtyAll.map (fun x => Dty.int x) ns
theorem okInts {n : Nat} (ns : List Int) : ∀ d ∈ ns.map PyData.int, OkD n d := fun d hd => by
  obtain ⟨x, _, rfl⟩ := List.mem_map.mp hd
  exact .int x n
theorem eqv_ints : ∀ (ss ds : List Int), PyData.eqvAll (ss.map .int) (ds.map .int) = decide (ss = ds)
  | [], [] => by simp [PyData.eqvAll]
  | x :: xs, y :: ys => by
    rw [List.map_cons, List.map_cons, PyData.eqvAll, eqv_ints xs ys]
    by_cases e : x = y
    · by_cases e2 : xs = ys
      · subst e e2; simp [PyData.eqv]
      · simp [PyData.eqv, e2]
    · simp [PyData.eqv, e]
  | [], _ :: _ => by simp [PyData.eqvAll]
  | _ :: _, [] => by simp [PyData.eqvAll]
variable {k : Ty → Prop} {φ ψ : Ty} {d e : PyData}
theorem Rr_eqD (a : Dty K φ d) (b : Dty K ψ e) (sd : OkD 64 d) (se : OkD 64 e) (h : k (TB (PyData.eqv d e))) : Rr (rEqD K) φ ψ k := fun W H x y i p1 p2 Q q => ⟨d, e, a.dp W H x i p1, b.dp W H y i p2, sd.shaped (Nat.le_refl _), se.shaped (Nat.le_refl _), q _ _ W H (Fr.refl i) rfl h⟩
theorem Rr_neD (a : Dty K φ d) (b : Dty K ψ e) (sd : OkD 64 d) (se : OkD 64 e) (h : k (TB (!PyData.eqv d e))) : Rr (rNeD K) φ ψ k := fun W H x y i p1 p2 Q q => ⟨d, e, a.dp W H x i p1, b.dp W H y i p2, sd.shaped (Nat.le_refl _), se.shaped (Nat.le_refl _), q _ _ W H (Fr.refl i) rfl h⟩
theorem Rr_inD {ds : List PyData} (a : Dty K φ d) (b : Dty K ψ (.list ds)) (sd : OkD 64 d) (se : OkD 64 (.list ds)) (h : k (TB (ds.any fun z => PyData.eqv z d))) : Rr (rInD K) φ ψ k := fun W H x y i p1 p2 Q q => ⟨d, ds, a.dp W H x i p1, b.dp W H y i p2, sd.shaped (Nat.le_refl _), se.shaped (Nat.le_refl _), q _ _ W H (Fr.refl i) rfl h⟩
/-- .. in a list that is one's own -/
theorem De_inOw {A : Wd × Hp} {Φ : List Sl} {ta tb : TE} {χs : List Ty} {ds : List PyData} (h : De A ta Φ fun φ => Dl A tb Φ fun φs => Dty K φ d ∧ OkD 64 d ∧ OkD 64 (.list ds) ∧ DtyAll K φs ds ∧ k (TB (ds.any fun z => PyData.eqv z d))) : De A (tOp (rInD K) ta tb) Φ k := fun σ W H a Q q =>
  h σ W H a _ fun φ x W1 H1 f1 p1 h1 => h1 σ W1 H1 (a.up f1) _ fun φs p vs W2 H2 f2 st ar ⟨dd, od, ol, da, kh⟩ =>
    ⟨d, ds, dd.dp W2 H2 x f2.inn (φ.up f2.le p1), .lst (.inl (.inl (st W2 H2 (Fr.refl f2.inn)))) (da.dp f2.inn ar), od.shaped (Nat.le_refl _), ol.shaped (Nat.le_refl _), q _ _ W2 H2 (f1.trans f2) rfl kh⟩
end
/-! ### isinstance -/
/-- values of this type have this class -/
structure Tyo (K : PySem.W.Frag) (φ : Ty) (t : Value) : Prop where
  ty : ∀ W H v, In W H → φ.is W v → TyX K H v t
/-- what makes isinstance of an own object go -/
structure IsC (K : PySem.W.Frag) (C : Addr) : Prop where
  cl : Cls K C
  ha : PySem.W.findIn K (.ref C) "__class__" = some (some (.builtin "object.__class__"))
  hn : PySem.W.specialIn K (.builtin "object.__class__") "__get__" = some (some (.builtin "getset_descriptor.__get__"))
  ht : PySem.W.takesIn K (.builtin "object.__class__") = some true
  hm : PySem.W.mroIn K C (.type "object") = some true
  k : PySem.W.kitOne K (.ref C) (.ref C) = some true
section
variable {K : PySem.W.Frag}
theorem tyo_int (i : Int) : Tyo K (TI i) (.type "int") := ⟨fun W H v _ h => by cases h; exact .base (.int i)⟩
theorem tyo_bl (i : Bool) : Tyo K (TB i) (.type "bool") := ⟨fun W H v _ h => by cases h; exact .base (.bl i)⟩
theorem tyo_str (i : Str) : Tyo K (TS i) (.type "str") := ⟨fun W H v _ h => by cases h; exact .base (.str i)⟩
theorem tyo_non : Tyo K TN (.type "NoneType") := ⟨fun W H v _ h => by cases h; exact .base .non⟩
theorem tyo_lst (φs : List Ty) : Tyo K (TL φs) (.type "list") := ⟨fun W H v i ⟨p, vs, e, hb, _⟩ => by subst e; exact .base (.lst (i.b _ _ hb))⟩
theorem tyo_tup (φs : List Ty) : Tyo K (TU φs) (.type "tuple") := ⟨fun W H v i ⟨p, vs, e, hb, _⟩ => by subst e; exact .base (.tup (i.b _ _ hb))⟩
theorem tyo_ins {C : Addr} (J : IsC K C) (ts : List (Str × Ty)) : Tyo K (TJ C ts) (.ref C) := ⟨fun W H v i ⟨p, dx, fs, e, hb, _⟩ => by subst e; exact .base (.ins (i.b _ _ hb) J.cl J.ha J.hn J.ht J.hm)⟩
theorem Rc_isi {φ : Ty} {c : V} {t u : Value} {k : Ty → Prop} (b : Bool) (y : Tyo K φ t) (hc : ClsV c u) (hk : PySem.W.kitOne K t u = some b) (h : k (TB b)) : Rc (rIsi K) [φ, TV c] k := fun W H vs i a Q q => by
  obtain ⟨v, w, rfl, p1, p2⟩ := a.two
  obtain rfl : w = c := p2
  exact ⟨v, w, t, u, b, rfl, hc, y.ty W H v i p1, hk, q _ _ W H (Fr.refl i) rfl h⟩
theorem kit_no {a b : String} {r : Bool} (h : kitB a b = some r) : PySem.W.kitOne K (.type a) (.type b) = some r := kit_ty h
end
/-! ### operators by own methods -/
section
variable {K : PySem.W.Frag} {k : Ty → Prop}
theorem Rr_own2 {C : Addr} {S : PX} {E : XK} {ts us : List (Str × Ty)} (h : S [TJ C ts, TJ C us] k fun _ _ => False) : Rr (OwnB.rOwn2 C (spX S) E) (TJ C ts) (TJ C us) k := fun W H x y i p1 p2 Q q => by
  obtain ⟨a, dx, fs, rfl, ha, _⟩ := id p1
  obtain ⟨b, dy, gs, rfl, hb, _⟩ := id p2
  exact ⟨a, b, dx, dy, fs, gs, rfl, rfl, i.b _ _ ha, i.b _ _ hb, [TJ C ts, TJ C us], k, fun _ _ => False, W, i, ⟨p1, p2, trivial⟩, h, fun φ v W2 H2 f p kp => q φ v W2 H2 f p kp, fun _ _ _ _ _ _ _ _ _ z => z.elim⟩
theorem Rr_eqO {C : Addr} {S : PX} {E : XK} {ts us : List (Str × Ty)} (h : S [TJ C ts, TJ C us] (fun φ => ∃ b, φ = TB b ∧ k (TB b)) fun _ _ => False) : Rr (OwnM.rEqO C (spX S) E) (TJ C ts) (TJ C us) k := fun W H x y i p1 p2 Q q => by
  obtain ⟨a, dx, fs, rfl, ha, _⟩ := id p1
  obtain ⟨b, dy, gs, rfl, hb, _⟩ := id p2
  refine ⟨a, b, dx, dy, fs, gs, rfl, rfl, i.b _ _ ha, i.b _ _ hb, [TJ C ts, TJ C us], _, fun _ _ => False, W, i, ⟨p1, p2, trivial⟩, h, fun φ v W2 H2 f p kp => ?_, fun _ _ _ _ _ _ _ _ _ z => z.elim⟩
  obtain ⟨c, rfl, kc⟩ := kp
  obtain rfl : v = .bl c := p
  exact ⟨c, rfl, q _ _ W2 H2 f rfl kc⟩
end
end Wl
set_option Elab.async false
set_option linter.all false
set_option maxRecDepth 100000
/-! EnumT: enumerate(t) and sum(t) of a tuple t. -/
namespace PySem
abbrev enObj (L : Addr) : Obj := { cls := .type "enumerate", data := .fields #[.none, .bool false, .ref L, rawInt 0, .none, .none] }
set_option maxHeartbeats 1000000 in
theorem meets_enumB {v : Value} {o : Obj} {Hc : Heap → Prop} (B : Begins v o Hc) :
    Meets (Builtin.«enumerate.__new__» ⟨[.type "enumerate", v], []⟩) (fun _ R s => Hc s.heap ∧ R (.ok (.ret (.ref (s.heap.push o).objs.size))) { s with heap := (s.heap.push o).push (enObj s.heap.objs.size) }) :=
  .of_wp fun prog w A R s hh => by
    obtain ⟨hp, g, d, tk, os⟩ := s
    obtain ⟨h1, h⟩ := hh
    have hsub := sub_enumerate
    have itB : ∀ {A' : Around} {E : Value → Shared → Prop} {Q : Value → Shared → Prop}, Q (.ref hp.objs.size) ⟨hp.push o, g, d, tk, os⟩ → wpAny (model prog w) A' (pyIter v) Q E ⟨hp, g, d, tk, os⟩ := fun {A' E Q} q => B.iter prog w A' E ⟨hp, g, d, tk, os⟩ Q h1 q
    wp_walk using itB
    refine wpAny_stack_any fun st => wpAny_pure ?_
    split
    · rename_i c _ _ _ _ _
      cases (c == Value.type "enumerate") <;> (wp_walk using itB; exact ⟨_, rfl, h⟩)
    · wp_walk using itB
      exact ⟨_, rfl, h⟩
theorem call_enumB {prog : Program} {w : World} {A : Around} {E : Value → Shared → Prop} {s : Shared} {v : Value} {o : Obj} {Hc : Heap → Prop} {Q : Value → Shared → Prop} (B : Begins v o Hc) (h1 : Hc s.heap)
    (h : ∀ h', IsEnum h' (s.heap.objs.size + 1) s.heap.objs.size 0 .none → h'.get? s.heap.objs.size = some o → (∀ b u, s.heap.get? b = some u → h'.get? b = some u) → Q (.ref (s.heap.objs.size + 1)) { s with heap := h' }) :
    wpAny (model prog w) A (call (.type "enumerate") [v]) Q E s := by
  refine callType_new F.called_enumerate (by decide) (F.typeCall_enumerate_1 _) (F.newCall_enumerate_1 _) (fun obj => F.args_object_init_2 obj _) F.entry_enumerate_new (meets_enumB B) ⟨h1, ?_⟩
  have hz : (s.heap.push o).objs.size = s.heap.objs.size + 1 := Heap.size_push ..
  show _ ∧ _
  rw [hz]
  have he : IsEnum ((s.heap.push o).push (enObj s.heap.objs.size)) (s.heap.objs.size + 1) s.heap.objs.size 0 .none := by
    have q := Heap.get?_push_size (s.heap.push o) (o := enObj s.heap.objs.size) rfl
    rw [hz] at q
    exact q
  exact ⟨⟨_, he, rfl⟩, h _ he (Heap.get?_push_of_some _ (Heap.get?_push_size _ B.free)) fun b u x => Heap.get?_push_of_some _ (Heap.get?_push_of_some _ x)⟩
end PySem
namespace EnT
open PySem PySem.Spec PyProof.Rows L2
/-- the tuple at a, each item in a new pair with its number -/
def IteT (K : PySem.W.Frag) (a : Addr) : It where
  go := fun i H => ∃ (xs : List V) (x : V), SqT K H a xs ∧ xs[i]? = some x
  yld := fun i H v H' => ∃ T x, v = .ref T ∧ H T = none ∧ H' = upd H T (.tup [.int (i : Nat), x]) ∧ ∀ xs, SqT K H a xs → xs[i]? = some x
  stop := fun i H => ∃ xs : List V, SqT K H a xs ∧ xs.length ≤ i
theorem tupEnd {prog : Program} {w : World} {A : Around} {E : Value → Shared → Prop} {s : Shared} {e it t : Addr} {i : Nat} {j : Int} {items : Array Value} {old : Value} {Q : Option Value → Shared → Prop} (hh : A.in1.handled = none) (he : IsEnum s.heap e it j old) (hit : s.heap.IsTupleIter it t i) (ht : s.heap.IsTuple t items) (hx : items.size ≤ i)
    (hQ : ∀ h', Heap.ExtBut it s.heap h' → Q none { s with heap := h' }) : wpAny (model prog w) A (pyNext (.ref e)) Q E s := by
  have hT : s.TypeIs (.ref e) "enumerate" := ⟨_, he, rfl⟩
  unfold pyNext
  have go : wpAny (model prog w) A.in1 (Builtin.SmallTypes.nextOf (.ref it)) (fun _ _ => False) (fun x s' => ∃ h', x ≠ x ∨ (s' = { s with heap := h' } ∧ Heap.ExtBut it s.heap h' ∧ ∃ y o, x = .ref y ∧ h'.get? y = some o ∧ o.cls = .type "StopIteration")) s :=
    wpAny_nextOf_tuple_end hh hit ht (by rw [Array.getElem?_eq_none hx]) fun h' x he' ⟨o, ho, hc⟩ => ⟨h', .inr ⟨rfl, he', x, o, rfl, ho, hc⟩⟩
  refine wpAny_bind (wpAny_attempt (wpAny_callSpecial?_slot (name := Str.ofString "__next__") hT F.slot_enumerate_next (wpAny_call_entry F.slot_enumerate_next hT F.entry_enumerate_next ?_ (F.args_enumerate_next_1 _))))
  show wpAny _ _ (field (.ref e) 2 >>= _) _ _ _
  refine wpAny_bind (wpAny_field he rfl (x := .ref it) rfl (wpAny_bind (wpAny_mono go (fun _ _ z => z.elim) fun x s' hq => ?_)))
  obtain ⟨h', hq | ⟨rfl, he', y, o, rfl, ho, hc⟩⟩ := hq
  · exact absurd rfl hq
  · exact wpAny_bind (wpAny_isInstance (T := "StopIteration") (b := true) ⟨o, ho, hc⟩ isSubtype_stop (wpAny_pure (hQ _ he')))
theorem turn_enT {P : Program} {w : World} {K : PySem.W.Frag} {elts : List Expr} {kk : Nat} {tpos : Pos} (a e it : Addr) :
    Turn P w K (.Tuple elts kk tpos) (IteT K a) [e, it] e (fun i h => (∃ old, IsEnum h e it ((i : Nat) : Int) old) ∧ h.IsTupleIter it a i ∧ e ≠ it ∧ a ≠ e ∧ a ≠ it) where
  mem := by simp
  obj := fun i h st b hb => by
    obtain ⟨⟨old, he⟩, ⟨o, ho, hc, hd⟩, _⟩ := st
    rcases List.mem_cons.mp hb with z | z
    · rw [z]; exact ⟨_, he, fun v q => nomatch q⟩
    · rw [List.mem_singleton.mp z]; exact ⟨o, ho, fun v q => by rw [hd] at q; cases q⟩
  keep := fun i h h' ⟨⟨old, he⟩, hi, hne⟩ k => ⟨⟨old, k e List.mem_cons_self _ he⟩, hi.at fun o q => k it (List.mem_cons_of_mem _ List.mem_cons_self) o q, hne⟩
  item := by
    intro X hP hw hK hc i pins s σ H E I hf st hg
    subst hP hw hK
    obtain ⟨⟨old, he⟩, hit, hne, na, na2⟩ := st
    obtain ⟨xs, x, hq, hx⟩ := hg
    obtain ⟨its, rv, p, hz⟩ := I.tuple hq
    obtain ⟨u, hu, ru⟩ := rv.get hx
    have hel : e < s.heap.objs.size := Heap.lt_size he
    have hil : it < s.heap.objs.size := by obtain ⟨_, q, _⟩ := hit; exact Heap.lt_size q
    have hlt : i < its.toArray.size := by
      have := (List.getElem?_eq_some_iff.mp hu).1
      simpa using this
    refine wpAny_pyNext_enum_itemD (Draws.tuple (A := X.A.in1) (I.ok.hd hc) it a na2 its.toArray) he ⟨hit, p⟩ hlt hne (fun q => ?_) fun x' h' tk hx' ho hit' hT hsz hk => ?_
    · rcases List.mem_cons.mp q with z | z
      · exact hne z
      · exact na (List.mem_singleton.mp z).symm
    have eu : x' = u := by
      have q : its.toArray[i]? = some u := by simpa using hu
      exact Option.some.inj (hx'.symm.trans q)
    subst eu
    refine ⟨_, rfl, wpAny_letOwnedTupleGo_enum (s := { s with heap := h', toks := tk + 1 }) ho fun h'' he' sb => ?_⟩
    have hT2 : h''.get? s.heap.objs.size = some { cls := .type "tuple", data := .seq #[.int i tk, x'] } := (sb.2 _ (Nat.ne_of_gt hel)).trans hT
    have new : ObjOk X.prog X.w (upd H s.heap.objs.size (.tup [.int (i : Nat), x])) h'' s.heap.objs.size (.tup [.int (i : Nat), x]) := ⟨by show 2 ≤ sizeLine; decide, [.int i tk, x'], .cons ⟨_, rfl⟩ (.cons ru .nil), ⟨_, hT2, rfl, _, rfl⟩⟩
    have I1 : Inv X pins σ (upd H s.heap.objs.size (.tup [.int (i : Nat), x])) { s with heap := h'', toks := tk + 1 } :=
      I.turnedNew (ch := [e, it]) (fun b ob hb q => (sb.2 b fun z => hb (by simp [z])).trans (hk b ob (fun z => hb (by simp [z])) (fun z => hb (by simp [z])) q)) hf (Nat.le_refl _) new
    refine ⟨.ref s.heap.objs.size, _, I1, rfl, ⟨_, x, rfl, I.hok.fresh (Nat.le_refl _), rfl, fun ys hy => by rw [I.tuple_inj hy hq]; exact hx⟩, ⟨⟨x', ?_⟩, hit'.1.at fun o q => (sb.2 it (Ne.symm hne)).trans q, hne, na, na2⟩, fun b hb => ?_⟩
    · rw [show ((i + 1 : Nat) : Int) = (i : Int) + 1 by omega]
      exact he'
    · have hb' : b < s.heap.objs.size := by
        rcases List.mem_cons.mp hb with z | z
        · rw [z]; exact hel
        · rw [List.mem_singleton.mp z]; exact hil
      rw [upd_ne (Nat.ne_of_lt hb')]
      exact (hf b hb).1
  done := by
    intro X hP hw hK hc i pins s σ H E I hf st hg
    subst hP hw hK
    obtain ⟨⟨old, he⟩, hit, hne, na, na2⟩ := st
    obtain ⟨xs, hq, hx⟩ := hg
    obtain ⟨its, rv, p, hz⟩ := I.tuple hq
    obtain ⟨f0, f1, f2, f3, f4, f5⟩ := hf it (by simp)
    have hl := rv.length
    exact tupEnd (I.ok.hd hc) he hit p (by simp; omega) fun h' eb => ⟨rfl, I.turned (t' := s.toks) (fun b o hb q => eb b o hb q) f0 f1 f3 f4 f5⟩
  self := fun A i s Q E st h => wpAny_pyIter_enum st.1.choose_spec h
def iEnumT (K : PySem.W.Frag) (ta : TA) : TI := fun σ H R => ta σ H fun vs H1 => ∃ a xs, vs = [.ref a] ∧ SqT K H1 a xs ∧ R (IteT K a) H1
theorem pi_enumT {X : Cx} {e : Expr} {ta : TA} {p pos tpos : Pos} {elts : List Expr} {kk : Nat} (hg : Gl X "enumerate") (hm : X.mg "enumerate" = none) (ha : PA X [e] ta) (hs : starEach [e] X.env = [(false, eval e X.env)] := by rfl) : PI X (.Tuple elts kk tpos) (.Call (.Name "enumerate" p) [e] [] pos) (iEnumT X.K ta) := by
  refine ⟨fun pins s σ H R I h => Call_ (ld_blt I hg hm boot_enumerate (PyProof.Rows.callWith_type1 (thn (ha.run pos pins s σ H _ I h) fun us s1 ⟨vs, H1, I1, r1, a, xs, ex, hq, q⟩ => ?_) hs rfl))⟩
  subst ex
  rw [Vals.ref1 r1]
  obtain ⟨its, rv, p', hz⟩ := I1.tuple hq
  obtain ⟨oa, hoa, _⟩ := id p'
  have la : a < s1.heap.objs.size := Heap.lt_size hoa
  refine call_enumB (begins_tuple a its.toArray) p' fun h' he hit hk => wpAny_pyIter_enum he ?_
  have I2 : Inv X pins σ H1 { s1 with heap := h' } := I1.kept (t' := s1.toks) hk
  refine ⟨s1.heap.objs.size + 1, [s1.heap.objs.size + 1, s1.heap.objs.size], _, _, H1, rfl, I2, turn_enT a (s1.heap.objs.size + 1) s1.heap.objs.size, ⟨⟨.none, he⟩, ⟨_, hit, rfl, rfl⟩, Nat.succ_ne_self _, Nat.ne_of_lt (Nat.lt_succ_of_lt la), Nat.ne_of_lt la⟩, fun b hb => ?_, q⟩
  have hle : s1.heap.objs.size ≤ b := by
    rcases List.mem_cons.mp hb with z | z
    · rw [z]; exact Nat.le_add_right _ _
    · rw [List.mem_singleton.mp z]; exact Nat.le_refl _
  exact I1.fpOk hle (I1.hok.fresh hle)
/-- sum(t) -/
def rSumT (K : PySem.W.Frag) : List V → Hp → VK → Prop := fun vs H Q => ∃ (a : Addr) (ns : List Int), vs = [V.ref a] ∧ SqT K H a (ns.map V.int) ∧ Q (.int ns.sum) H
theorem cr_sumT {X : Cx} (hc : X.calm = true) : CallR X (.builtin "sum") (rSumT X.K) := by
  intro pins s σ H vs us Q I r h
  obtain ⟨a, ns, rfl, hs, q⟩ := h
  obtain ⟨its, rv, hl, _⟩ := I.tuple hs
  rw [Vals.ref1 r]
  obtain ⟨xs, e⟩ := rv.ints.allInts.items
  have hn : numsOf (intItems xs).toList = ns := by rw [← e]; exact rv.ints.numsOf
  rw [nums_intItems] at hn
  have hl2 : s.heap.IsTuple a its.toArray := hl
  rw [e] at hl2
  refine PySem.W.ktm_sumG (I.ok.hd hc) hl2 fun h' tk t' hk => ?_
  refine ⟨.int ns.sum, H, I.kept hk, ⟨t', ?_⟩, q⟩
  rw [preSum_eq, List.take_of_length_le (by simp), hn]
/-- .. of a list or of a tuple -/
def rSumE (K : PySem.W.Frag) : List V → Hp → VK → Prop := fun vs H Q => ∃ (a : Addr) (ns : List Int), vs = [V.ref a] ∧ (SqL K H a (ns.map V.int) ∨ SqT K H a (ns.map V.int)) ∧ Q (.int ns.sum) H
theorem cr_sumE {X : Cx} (hc : X.calm = true) : CallR X (.builtin "sum") (rSumE X.K) := by
  intro pins s σ H vs us Q I r h
  obtain ⟨a, ns, rfl, hs | hs, q⟩ := h
  · exact cr_sum hc pins s σ H _ us Q I r ⟨a, ns, rfl, hs, q⟩
  · exact cr_sumT hc pins s σ H _ us Q I r ⟨a, ns, rfl, hs, q⟩
end EnT
namespace Wl
open PySem PySem.Spec PyProof.Rows L2
variable {A : Wd × Hp} {K : PySem.W.Frag} {Φ : List Sl} {k : Ty → Prop} {ta : TE}
theorem De_sumL {ns : List Int} (h : Dl A ta Φ fun φs => φs = ns.map TI ∧ k (TI ns.sum)) : De A (tCB (EnT.rSumE K) (tCons ta tNil)) Φ k := fun σ W H a Q q =>
  h σ W H a _ fun φs p vs W2 H2 f st ar ⟨e, kh⟩ => by
    subst e
    have := ar.vals (g := V.int)
    subst this
    exact ⟨p, ns, rfl, .inl (.inl (.inl (st W2 H2 (Fr.refl f.inn)))), q _ _ W2 H2 f rfl kh⟩
theorem De_sumU {ns : List Int} (h : De A ta Φ fun φ => φ = TU (ns.map TI) ∧ k (TI ns.sum)) : De A (tCB (EnT.rSumE K) (tCons ta tNil)) Φ k := fun σ W H a Q q =>
  h σ W H a _ fun φ v W2 H2 f p1 ⟨e, kh⟩ => by
    subst e
    obtain ⟨p, vs, rfl, hb, ar⟩ := p1
    have := ar.vals (g := V.int)
    subst this
    exact ⟨p, ns, rfl, .inr (f.inn.sqt (.inl (.inl hb))), q _ _ W2 H2 f rfl kh⟩
theorem iter_enT {W1 : Wd} {p : Addr} {vs : List V} {χs : List Ty} (hb : W1.B p = some (.tup vs)) (ar : Are W1 χs vs) : Iter W1 (EnT.IteT K p) (χs.mapIdx fun i χ => TU [TI (i : Nat), χ]) := by
  refine ⟨fun W' H' i l n hi => ⟨vs, n.sqt (.inl (.inl (l.b _ _ hb))), ?_⟩, fun W' H' i ψ l n hi => ?_⟩
  · rw [List.length_mapIdx] at hi
    rw [ar.len]
    exact hi
  · rw [List.getElem?_mapIdx] at hi
    cases e : χs[i]? with
    | none => rw [e] at hi; cases hi
    | some χ =>
      rw [e] at hi
      cases hi
      obtain ⟨x, ex, tx⟩ := ar.get e
      refine ⟨⟨vs, x, n.sqt (.inl (.inl (l.b _ _ hb))), ex⟩, fun y H'' ⟨T, x', ey, nT, eH, hx⟩ => ?_⟩
      subst ey eH
      have := hx vs (n.sqt (.inl (.inl (l.b _ _ hb))))
      rw [ex] at this
      cases this
      have le : Le W' (W'.add T (.tup [.int (i : Nat), x])) := Le.add (n.out nT).1
      exact ⟨_, Fr.new n nT, T, _, rfl, Wd.add_at, rfl, χ.up (l.trans le) tx, trivial⟩
theorem Di_enT {ta : TA} {k : List Ty → Prop} (h : Da A ta Φ fun φs => ∃ χs, φs = [TU χs] ∧ k (χs.mapIdx fun i χ => TU [TI (i : Nat), χ])) : Di A (EnT.iEnumT K ta) Φ k := fun σ W H a R q =>
  h σ W H a _ fun φs vs W1 H1 f1 p1 ⟨χs, e, kh⟩ => by
    subst e
    obtain ⟨v, rfl, p, xs, rfl, hb, ar⟩ := p1.un
    exact ⟨p, xs, rfl, f1.inn.sqt (.inl (.inl hb)), q _ _ W1 H1 f1 (iter_enT hb ar) kh⟩
/-- pairs of the items of two tuples of one length -/
theorem iter_zipT {W1 : Wd} {p p' : Addr} {vs us : List V} {χs ψs : List Ty} (hb : W1.B p = some (.tup vs)) (ar : Are W1 χs vs) (hb' : W1.B p' = some (.tup us)) (ar' : Are W1 ψs us) (hl : χs.length = ψs.length) : Iter W1 (RZ.ItzT K p p') ((χs.zip ψs).map fun q => TU [q.1, q.2]) := by
  refine ⟨fun W' H' i l n hi => ⟨vs, us, n.sqt (.inl (.inl (l.b _ _ hb))), n.sqt (.inl (.inl (l.b _ _ hb'))), .inl ?_⟩, fun W' H' i ψ l n hi => ?_⟩
  · rw [List.length_map, List.length_zip, ← hl, Nat.min_self] at hi
    rw [ar.len]
    exact hi
  · rw [List.getElem?_map] at hi
    cases e : (χs.zip ψs)[i]? with
    | none => rw [e] at hi; cases hi
    | some q0 =>
      rw [e] at hi
      cases hi
      obtain ⟨e1, e2⟩ := List.getElem?_zip_eq_some.mp e
      obtain ⟨x, ex, tx⟩ := ar.get e1
      obtain ⟨y, ey, ty⟩ := ar'.get e2
      refine ⟨⟨vs, us, x, y, n.sqt (.inl (.inl (l.b _ _ hb))), n.sqt (.inl (.inl (l.b _ _ hb'))), ex, ey⟩, fun z H'' ⟨T, x', y', ez, nT, eH, hx, hy⟩ => ?_⟩
      subst ez eH
      have q1 := hx vs (n.sqt (.inl (.inl (l.b _ _ hb))))
      have q2 := hy us (n.sqt (.inl (.inl (l.b _ _ hb'))))
      rw [ex] at q1
      rw [ey] at q2
      cases q1
      cases q2
      have le : Le W' (W'.add T (.tup [x, y])) := Le.add (n.out nT).1
      exact ⟨_, Fr.new n nT, T, _, rfl, Wd.add_at, q0.1.up (l.trans le) tx, q0.2.up (l.trans le) ty, trivial⟩
theorem Di_zipT {ta : TA} {k : List Ty → Prop} (h : Da A ta Φ fun φs => ∃ χs ψs, φs = [TU χs, TU ψs] ∧ χs.length = ψs.length ∧ k ((χs.zip ψs).map fun q => TU [q.1, q.2])) : Di A (RZ.iZipA K ta) Φ k := fun σ W H a R q =>
  h σ W H a _ fun φs vs W1 H1 f1 p1 ⟨χs, ψs, e, hl, kh⟩ => by
    subst e
    obtain ⟨v, u, rfl, ⟨p, xs, rfl, hb, ar⟩, ⟨p', ys, rfl, hb', ar'⟩⟩ := p1.two
    exact ⟨p, p', xs, ys, rfl, .inr ⟨f1.inn.sqt (.inl (.inl hb)), f1.inn.sqt (.inl (.inl hb')), q _ _ W1 H1 f1 (iter_zipT hb ar hb' ar' hl) kh⟩⟩
end Wl
set_option Elab.async false
set_option linter.all false
set_option maxRecDepth 100000
set_option maxHeartbeats 4000000
/-! Wk: ranges as lists, sorted sets and pairs, dicts of which nothing is asked. -/
namespace Wl
open PySem PySem.Spec PyProof.Rows L2
/-- anything -/
def TAny : Ty := ⟨fun _ _ => True, fun _ _ => trivial⟩
abbrev TIs (ns : List Int) : List Ty := ns.map TI
abbrev prT (p : Nat × Nat) : Ty := TU [TI p.1, TI p.2]
def rgI (a b : Int) : List Int := (List.range (b - a).toNat).map fun i => a + (i : Nat)
section
variable {A : Wd × Hp} {K : PySem.W.Frag} {Φ : List Sl} {ta tb tl : TE}
theorem rgV_rgI (a b : Int) : rgV a b = (rgI a b).map V.int := by
  unfold rgV rgI
  rw [List.map_map]
  rfl
theorem Dn_rg1 {k : Th → Prop} (h : De A ta Φ fun φ => ∃ n : Nat, φ = TI n ∧ n ≤ 1000 ∧ k (CL (TIs (rgI 0 n)))) : Dn A (tLstRg (tRg1 ta)) Φ k := fun σ W H a Q q =>
  h σ W H a _ fun φ x W1 H1 f1 p1 ⟨n, e, b, kh⟩ => by
    subst e
    obtain rfl : x = .int n := p1
    refine ⟨(n : Int), rfl, ⟨by omega, by omega, by omega, by omega, by omega⟩, fun p np => ?_⟩
    have o := f1.inn.out np
    exact q (CL (TIs (rgI 0 n))) p _ W1 _ (f1.own (f1.was np) o.1 o.2) (f1.was np) o.1 o.2 upd_same ⟨_, rfl, by rw [rgV_rgI]; exact Are.ofVals _⟩ kh
theorem Dn_rg2 {k : Th → Prop} (h : De A ta Φ fun φ => De A tb Φ fun ψ => ∃ i j : Int, φ = TI i ∧ ψ = TI j ∧ i.natAbs ≤ 1000 ∧ j.natAbs ≤ 1000 ∧ k (CL (TIs (rgI i j)))) : Dn A (tLstRg (tRg2 ta tb)) Φ k := fun σ W H a Q q =>
  h σ W H a _ fun φ x W1 H1 f1 p1 h1 => h1 σ W1 H1 (a.up f1) _ fun ψ y W2 H2 f2 p2 ⟨i, j, e1, e2, b1, b2, kh⟩ => by
    subst e1 e2
    obtain rfl : x = .int i := p1
    obtain rfl : y = .int j := p2
    refine ⟨i, j, rfl, rfl, ⟨by omega, by omega, by omega, by omega, by omega⟩, fun p np => ?_⟩
    have f := f1.trans f2
    have o := f.inn.out np
    exact q (CL (TIs (rgI i j))) p _ W2 _ (f.own (f.was np) o.1 o.2) (f.was np) o.1 o.2 upd_same ⟨_, rfl, by rw [rgV_rgI]; exact Are.ofVals _⟩ kh
/-- sorted(set(xs)) -/
theorem Dn_sortedSet {w : World} {k : Th → Prop} (h : Dl A tl Φ fun φs => ∃ ls : List Int, φs = TIs ls ∧ ls.length < 60 ∧ ∀ ns : List Int, ns.Pairwise (· < ·) → (∀ x, x ∈ ns ↔ x ∈ ls) → ns.length ≤ ls.length → k (CL (TIs ns))) : Dn A (tCB (rSortedSet w) (tCons (tCB (SetL.rSetI K w) (tCons tl tNil)) tNil)) Φ k := fun σ W H a Q q =>
  h σ W H a _ fun φs p vs W1 H1 f1 st ar ⟨ls, e, l60, kh⟩ => by
    subst e
    have := ar.vals (g := V.int)
    subst this
    refine ⟨p, ls, rfl, .inl (.inl (st W1 H1 (Fr.refl f1.inn))), by omega, fun S c nS hc => ?_⟩
    have oS := f1.inn.out nS
    have f2 := f1.own (o := SetO w S (fun j => decide (j ∈ ls)) c) (f1.was nS) oS.1 oS.2
    refine ⟨S, _, c, rfl, upd_same, by omega, fun ns g hns hmem hlen ng => ?_⟩
    have o := f2.inn.out ng
    exact q (CL (TIs ns)) g _ W1 _ (f2.own (f2.was ng) o.1 o.2) (f2.was ng) o.1 o.2 upd_same ⟨_, rfl, Are.ofVals ns⟩ (kh ns hns (fun x => by rw [hmem]; simp) (by omega))
/-! ### sorted pairs -/
theorem permI {α β : Type} {g : α → β} {ys xs : List β} (h : ys.Perm xs) : ∀ zs : List α, xs = zs.map g → ∃ zs' : List α, ys = zs'.map g ∧ zs'.Perm zs := by
  induction h with
  | nil =>
    intro zs e
    cases zs with
    | nil => exact ⟨[], rfl, .refl _⟩
    | cons z zs => cases e
  | cons x _ ih =>
    intro zs e
    cases zs with
    | nil => cases e
    | cons z zs =>
      obtain ⟨e1, e2⟩ := List.cons.inj e
      obtain ⟨zs', h1, h2⟩ := ih zs e2
      exact ⟨z :: zs', by rw [h1, e1]; rfl, h2.cons z⟩
  | swap x y l =>
    intro zs e
    match zs, e with
    | z1 :: z2 :: zs, e =>
      obtain ⟨e1, e2⟩ := List.cons.inj e
      obtain ⟨e3, e4⟩ := List.cons.inj e2
      exact ⟨z2 :: z1 :: zs, by rw [e1, e3, e4]; rfl, .swap z1 z2 zs⟩
  | trans _ _ ih1 ih2 =>
    intro zs e
    obtain ⟨zs1, h1, p1⟩ := ih2 zs e
    obtain ⟨zs2, h2, p2⟩ := ih1 zs1 h1
    exact ⟨zs2, h2, p2.trans p1⟩
theorem Are.zs {α : Type} {f : α → Ty} {W : Wd} : ∀ {xs : List α} {vs : List V}, Are W (xs.map f) vs → ∃ zs : List (V × α), vs = zs.map Prod.fst ∧ xs = zs.map Prod.snd ∧ ∀ z ∈ zs, (f z.2).is W z.1
  | [], [], _ => ⟨[], rfl, rfl, fun _ h => nomatch h⟩
  | x :: xs, v :: vs, h => by
    obtain ⟨zs, e1, e2, h3⟩ := Are.zs (f := f) h.2
    refine ⟨(v, x) :: zs, by rw [e1]; rfl, by rw [e2]; rfl, fun z hz => ?_⟩
    rcases List.mem_cons.mp hz with rfl | hz
    · exact h.1
    · exact h3 z hz
  | [], _ :: _, h => h.elim
  | _ :: _, [], h => h.elim
theorem Are.ofZs {α : Type} {f : α → Ty} {W : Wd} : ∀ {zs : List (V × α)}, (∀ z ∈ zs, (f z.2).is W z.1) → Are W ((zs.map Prod.snd).map f) (zs.map Prod.fst)
  | [], _ => trivial
  | z :: zs, h => ⟨h z List.mem_cons_self, Are.ofZs fun y hy => h y (List.mem_cons_of_mem _ hy)⟩
def leN (a b : Nat × Nat) : Prop := a.1 < b.1 ∨ (a.1 = b.1 ∧ a.2 ≤ b.2)
def kyH (H : Hp) (y : V) : Int × Int := match y with
  | .ref t => match H t with
    | some (.tup [.int a, .int b]) => (a, b)
    | _ => (0, 0)
  | _ => (0, 0)
theorem kyH_at {W : Wd} {H : Hp} {v : V} {p : Nat × Nat} (i : In W H) (h : (prT p).is W v) : ∃ t, v = .ref t ∧ H t = some (.tup [.int p.1, .int p.2]) ∧ kyH H v = ((p.1 : Int), (p.2 : Int)) := by
  obtain ⟨t, us, rfl, hb, ar⟩ := h
  obtain ⟨x, y, rfl, h1, h2⟩ := ar.two
  obtain rfl : x = .int p.1 := h1
  obtain rfl : y = .int p.2 := h2
  have hh := i.b _ _ hb
  refine ⟨t, rfl, hh, ?_⟩
  show (match H t with
    | some (.tup [.int a, .int b]) => (a, b)
    | _ => ((0 : Int), (0 : Int))) = _
  rw [hh]
theorem Dn_sortedP {k : Th → Prop} (h : Dl A tl Φ fun φs => ∃ rs : List (Nat × Nat), φs = rs.map prT ∧ ∀ rs' : List (Nat × Nat), rs'.Perm rs → rs'.Pairwise leN → k (CL (rs'.map prT))) : Dn A (tCB (rSortedPO K) (tCons tl tNil)) Φ k := fun σ W H a Q q =>
  h σ W H a _ fun φs p vs W1 H1 f1 st ar ⟨rs, e, kh⟩ => by
    subst e
    obtain ⟨zs, rfl, rfl, hz⟩ := ar.zs
    refine ⟨p, _, kyH H1, rfl, .inl (.inl (st W1 H1 (Fr.refl f1.inn))), fun x hx => ?_, fun ys g hs hb ng => ?_⟩
    · obtain ⟨z, hm, rfl⟩ := List.mem_map.mp hx
      obtain ⟨t, e1, e2, e3⟩ := kyH_at f1.inn (hz z hm)
      exact ⟨t, e1, by rw [e3]; exact e2⟩
    · obtain ⟨zs', rfl, pm⟩ := permI hb.perm zs rfl
      have o := f1.inn.out ng
      refine q (CL ((zs'.map Prod.snd).map prT)) g _ W1 _ (f1.own (f1.was ng) o.1 o.2) (f1.was ng) o.1 o.2 upd_same ⟨_, rfl, Are.ofZs fun z m => hz z (pm.mem_iff.mp m)⟩ (kh _ (pm.map _) ?_)
      rw [List.pairwise_map]
      have hs' : zs'.Pairwise fun x y => ltP (kyH H1) y.1 x.1 = false := List.pairwise_map.mp hs
      refine List.Pairwise.imp_of_mem ?_ hs'
      intro x y hx hy h1
      obtain ⟨_, _, _, kx⟩ := kyH_at f1.inn (hz x (pm.mem_iff.mp hx))
      obtain ⟨_, _, _, ky⟩ := kyH_at f1.inn (hz y (pm.mem_iff.mp hy))
      unfold ltP at h1
      rw [kx, ky] at h1
      have h1 := SrtO.lexB_no.mp h1
      dsimp only at h1
      unfold leN
      omega
/-! ### enumerate of a list; a dict of pairs, of which nothing is asked -/
theorem iter_enL {W1 : Wd} {p : Addr} {vs : List V} {χs : List Ty} (hb : W1.B p = some (.lst vs)) (ar : Are W1 χs vs) : Iter W1 (Ite K p) (χs.mapIdx fun i χ => TU [TI (i : Nat), χ]) := by
  refine ⟨fun W' H' i l n hi => ⟨vs, n.sql (.inl (.inl (l.b _ _ hb))), ?_⟩, fun W' H' i ψ l n hi => ?_⟩
  · rw [List.length_mapIdx] at hi
    rw [ar.len]
    exact hi
  · rw [List.getElem?_mapIdx] at hi
    cases e : χs[i]? with
    | none => rw [e] at hi; cases hi
    | some χ =>
      rw [e] at hi
      cases hi
      obtain ⟨x, ex, tx⟩ := ar.get e
      refine ⟨⟨vs, x, n.sql (.inl (.inl (l.b _ _ hb))), ex⟩, fun y H'' ⟨T, x', ey, nT, eH, hx⟩ => ?_⟩
      subst ey eH
      have := hx vs (n.sql (.inl (.inl (l.b _ _ hb))))
      rw [ex] at this
      cases this
      have le : Le W' (W'.add T (.tup [.int (i : Nat), x])) := Le.add (n.out nT).1
      exact ⟨_, Fr.new n nT, T, _, rfl, Wd.add_at, rfl, χ.up (l.trans le) tx, trivial⟩
theorem Di_enL {ta : TA} {k : List Ty → Prop} (h : Da A ta Φ fun φs => ∃ χs, φs = [TL χs] ∧ k (χs.mapIdx fun i χ => TU [TI (i : Nat), χ])) : Di A (iEnum K ta) Φ k := fun σ W H a R q =>
  h σ W H a _ fun φs vs W1 H1 f1 p1 ⟨χs, e, kh⟩ => by
    subst e
    obtain ⟨v, rfl, p, xs, rfl, hb, ar⟩ := p1.un
    exact ⟨p, xs, rfl, f1.inn.sql (.inl (.inl hb)), q _ _ W1 H1 f1 (iter_enL hb ar) kh⟩
theorem De_dcAny {k : Ty → Prop} {g : TG} {wi : L2.TI} {us vs : List Nat} {tk tv : TE} (hus : ∀ i ∈ us, i ∈ vs)
    (h : Di A wi Φ fun ψs => ψs.length ≤ 1000 ∧ (∀ (j : Nat) (ψ : Ty), ψs[j]? = some ψ → Dg A g us ψ (wipeS Φ vs) fun Φ2 => De A tk Φ2 fun φ => (∃ p, φ = prT p) ∧ De A tv Φ2 fun _ => True) ∧ k TAny) : De A (CmX.tCo (fun _ => .dT []) wi g tYes (CmX.teD tk tv) vs) Φ k := fun σ W H a Q q =>
  h σ W H a _ fun J ψs W1 H1 f1 it ⟨hl, hs, hk⟩ => by
    intro D nD
    have nD0 := f1.was nD
    have oD := f1.inn.out nD
    refine ⟨fun i m H' => m = ψs.length - i ∧ i ≤ ψs.length ∧ ∃ W' kvs, Fr W H W' H' ∧ Le W1 W' ∧ H' D = some (.dT kvs) ∧ W'.B D = none ∧ ¬ W'.C D ∧ kvs.length ≤ i, ⟨_, rfl, Nat.zero_le _, W1, [], f1.own nD0 oD.1 oD.2, Le.refl _, upd_same, oD.1, oD.2, Nat.le_refl _⟩, ?_⟩
    rintro i m H' ⟨rfl, hi, W', kvs, fr, l', hD, nb, nc, kl⟩
    by_cases c : i < ψs.length
    · obtain ⟨go, yl⟩ := it.go W' H' i ψs[i] l' fr.inn (List.getElem?_eq_getElem c)
      refine .inr ⟨go, fun H2 => ∃ W' kvs, Fr W H W' H2 ∧ Le W1 W' ∧ H2 D = some (.dT kvs) ∧ W'.B D = none ∧ ¬ W'.C D ∧ kvs.length ≤ i + 1, fun H2 q => ⟨ψs.length - (i + 1), by omega, rfl, c, q⟩, fun x H2 y => ?_⟩
      obtain ⟨W2, f2, tx⟩ := yl x H2 y
      have a2 := (a.up (fr.trans f2)).wipe vs
      refine hs i ψs[i] (List.getElem?_eq_getElem c) _ W2 H2 x a2 tx _ fun Φ3 σ3 W3 H3 f3 a3 ag k3 => ?_
      refine ⟨(wipe_agree ag hus).trans wipe_wipe, ?_⟩
      refine iteT (B := ∃ W' kvs, Fr W H W' H3 ∧ Le W1 W' ∧ H3 D = some (.dT kvs) ∧ W'.B D = none ∧ ¬ W'.C D ∧ kvs.length ≤ i + 1) ?_
      refine k3 σ3 W3 H3 a3 _ fun φ v W4 H4 f4 p4 ⟨⟨pp, eφ⟩, k4⟩ => ?_
      subst eφ
      refine k4 σ3 W4 H4 (a3.up f4) _ fun ω z W5 H5 f5 p5 _ => ?_
      have f25 := f2.trans (f3.trans (f4.trans f5))
      obtain ⟨hD5, nb5, nc5⟩ := f25.mine hD nb nc
      obtain ⟨t, us', rfl, hb, ar⟩ := (prT pp).up f5.le p4
      obtain ⟨x1, y1, rfl, h1, h2⟩ := ar.two
      obtain rfl : x1 = .int pp.1 := h1
      obtain rfl : y1 = .int pp.2 := h2
      refine ⟨t, kvs, [Sum.inl (pp.1 : Int), Sum.inl (pp.2 : Int)], rfl, hD5, f5.inn.b _ _ hb, Nat.lt_of_lt_of_le (show kvs.length < 1001 by omega) (by rw [sizeLine_eq]; decide), W5, _, (fr.trans f25).own nD0 nb5 nc5, l'.trans f25.le, upd_same, nb5, nc5, ?_⟩
      have := length_putK kvs [Sum.inl (pp.1 : Int), Sum.inl (pp.2 : Int)] z
      omega
    · have e : i = ψs.length := by omega
      subst e
      exact .inl ⟨it.stop W' H' _ l' fr.inn (Nat.le_refl _), q TAny (.ref D) W' H' fr trivial hk⟩
end
end Wl
set_option Elab.async false
set_option linter.all false
set_option maxRecDepth 100000
set_option maxHeartbeats 4000000
/-! Wm: `is`, cells (pools), tests on types. -/
namespace Wl
open PySem PySem.Spec PyProof.Rows L2
/-- x is b, b a bool -/
def rIsBX : R2 := fun x y H Q => ∃ b, y = .bl b ∧ Q (.bl (decide (x = .bl b))) H
theorem op_isBX {X : Cx} : OpR X (compareOp .Is) (fun x y H Q => (∀ i, ¬ RelV x (.builtin i)) ∧ rIsBX x y H Q) := by
  intro pins s σ H x y v u Q I rx ry h
  obtain ⟨nb, b, rfl, q⟩ := h
  cases (show u = Value.bool b from ry)
  by_cases e : x = .bl b
  · subst e
    cases (show v = Value.bool b from rx)
    exact wpAny_is_self rfl ⟨.bl true, H, I, rfl, by simpa using q⟩
  · have hv : v ≠ .bool b := fun z => by
      subst z
      cases x <;> first
        | exact e (congrArg V.bl (by cases rx; rfl))
        | (cases rx; done)
        | (obtain ⟨t, z⟩ := rx; cases z)
    have hp : plainIs v (.bool b) = true := by
      cases v with
      | builtin i => exact absurd rx (nb i)
      | _ => rfl
    exact wpAny_is_other hp hv ⟨.bl false, H, I, rfl, by simpa [e] using q⟩
/-- no value of this type is a bool, or a built-in name -/
structure NoBl (φ : Ty) : Prop where
  nb : ∀ W v, φ.is W v → (∀ b, v ≠ .bl b) ∧ ∀ i, ¬ RelV v (.builtin i)
structure NoNon (φ : Ty) : Prop where
  nn : ∀ W v, φ.is W v → v ≠ .non
theorem nbl_int (i : Int) : NoBl (TI i) := ⟨fun W v h => by cases h; exact ⟨fun _ => (fun z => nomatch z), fun _ ⟨_, z⟩ => nomatch z⟩⟩
theorem nbl_str (i : Str) : NoBl (TS i) := ⟨fun W v h => by cases h; exact ⟨fun _ => (fun z => nomatch z), fun _ ⟨_, z⟩ => nomatch z⟩⟩
theorem nbl_non : NoBl TN := ⟨fun W v h => by cases h; exact ⟨fun _ => (fun z => nomatch z), fun _ z => nomatch (show Value.builtin _ = Value.none from z)⟩⟩
theorem nbl_ref {φ : Ty} (h : ∀ W v, φ.is W v → ∃ p, v = .ref p) : NoBl φ := ⟨fun W v t => by obtain ⟨p, rfl⟩ := h W v t; exact ⟨fun _ => (fun z => nomatch z), fun _ z => nomatch (show Value.builtin _ = Value.ref p from z)⟩⟩
theorem nbl_lst (φs : List Ty) : NoBl (TL φs) := nbl_ref fun _ _ ⟨p, _, e, _⟩ => ⟨p, e⟩
theorem nbl_tup (φs : List Ty) : NoBl (TU φs) := nbl_ref fun _ _ ⟨p, _, e, _⟩ => ⟨p, e⟩
theorem nn_int (i : Int) : NoNon (TI i) := ⟨fun W v h => by cases h; exact fun z => nomatch z⟩
theorem nn_str (i : Str) : NoNon (TS i) := ⟨fun W v h => by cases h; exact fun z => nomatch z⟩
theorem nn_bl (i : Bool) : NoNon (TB i) := ⟨fun W v h => by cases h; exact fun z => nomatch z⟩
theorem nn_lst (φs : List Ty) : NoNon (TL φs) := ⟨fun W v ⟨p, _, e, _⟩ => by subst e; exact fun z => nomatch z⟩
theorem nn_tup (φs : List Ty) : NoNon (TU φs) := ⟨fun W v ⟨p, _, e, _⟩ => by subst e; exact fun z => nomatch z⟩
section
variable {A : Wd × Hp} {K : PySem.W.Frag} {Φ : List Sl} {O : Out} {k : Ty → Prop} {φ : Ty} {ta tb te : TE}
theorem Rr_isB_no {b : Bool} (n : NoBl φ) (h : k (TB false)) : Rr (fun x y H Q => (∀ i, ¬ RelV x (.builtin i)) ∧ rIsBX x y H Q) φ (TB b) k := fun W H x y i p1 p2 Q q => by
  obtain rfl : y = .bl b := p2
  obtain ⟨n1, n2⟩ := n.nb W x p1
  exact ⟨n2, b, rfl, by rw [decide_eq_false (n1 b)]; exact q (TB false) _ W H (Fr.refl i) rfl h⟩
theorem Rr_isB {a b : Bool} (h : k (TB (decide (a = b)))) : Rr (fun x y H Q => (∀ i, ¬ RelV x (.builtin i)) ∧ rIsBX x y H Q) (TB a) (TB b) k := fun W H x y i p1 p2 Q q => by
  obtain rfl : y = .bl b := p2
  obtain rfl : x = .bl a := p1
  refine ⟨fun _ z => (nomatch (show Value.builtin _ = Value.bool a from z)), b, rfl, ?_⟩
  have : decide (V.bl a = V.bl b) = decide (a = b) := by simp
  rw [this]
  exact q (TB (decide (a = b))) _ W H (Fr.refl i) rfl h
theorem Rr_isN_no (n : NoNon φ) (h : k (TB false)) : Rr (fun x y H Q => y = .non ∧ Q (.bl (decide (x = .non))) H) φ TN k := fun W H x y i p1 p2 Q q => by
  obtain rfl : y = .non := p2
  exact ⟨rfl, by rw [decide_eq_false (n.nn W x p1)]; exact q (TB false) _ W H (Fr.refl i) rfl h⟩
theorem Rr_isN (h : k (TB true)) : Rr (fun x y H Q => y = .non ∧ Q (.bl (decide (x = .non))) H) TN TN k := fun W H x y i p1 p2 Q q => by
  obtain rfl : y = .non := p2
  obtain rfl : x = .non := p1
  exact ⟨rfl, q (TB true) _ W H (Fr.refl i) rfl h⟩
theorem Rr_notN_no (n : NoNon φ) (h : k (TB true)) : Rr (fun x y H Q => y = .non ∧ Q (.bl (!decide (x = .non))) H) φ TN k := fun W H x y i p1 p2 Q q => by
  obtain rfl : y = .non := p2
  exact ⟨rfl, by rw [decide_eq_false (n.nn W x p1)]; exact q (TB true) _ W H (Fr.refl i) rfl h⟩
theorem Rr_notN (h : k (TB false)) : Rr (fun x y H Q => y = .non ∧ Q (.bl (!decide (x = .non))) H) TN TN k := fun W H x y i p1 p2 Q q => by
  obtain rfl : y = .non := p2
  obtain rfl : x = .non := p1
  exact ⟨rfl, q (TB false) _ W H (Fr.refl i) rfl h⟩
/-- pool[0] -/
theorem Rr_ixC (h : ∀ x : Int, k (TI x)) : Rr (rIxL K) TC (TI 0) k := fun W H x y i p1 p2 Q q => by
  obtain rfl : y = .int 0 := p2
  obtain ⟨p, rfl, c⟩ := p1
  obtain ⟨_, n, e⟩ := i.c p c
  exact ⟨p, [.int n], 0, .int n, rfl, rfl, .inl (.inl e), rfl, q (TI n) _ W H (Fr.refl i) rfl (h n)⟩
/-- pool[0] = x -/
theorem Dt_putC {i : Nat} (e : Φ[i]? = some (.im TC)) (h : De A te Φ fun χ => ∃ x, χ = TI x ∧ De A tb Φ fun ψ => ψ = TI 0 ∧ O.nx Φ) : Dt A (tAsg te (gSub (tVar i) tb rSetL)) Φ O := fun G D σ W H s a g =>
  h σ W H a _ fun χ y W2 H2 f p2 ⟨x, ex, k⟩ => by
    subst ex
    obtain rfl : y = .int x := p2
    obtain ⟨v, s1, _⟩ := a.env.im i _ e
    refine ⟨v, s1, k σ W2 H2 (a.up f) _ fun ψ z W3 H3 f3 p3 ⟨ez, kn⟩ => ?_⟩
    subst ez
    obtain rfl : z = .int 0 := p3
    have f23 := f.trans f3
    obtain ⟨v', s2, p, ev, c⟩ := (a.up f23).env.im i _ e
    rw [s1] at s2
    cases s2
    subst ev
    obtain ⟨nb, n, ec⟩ := f23.inn.c p c
    have fc : Fr W3 H3 W3 (upd H3 p (.lst [.int x])) := Fr.cell f23.inn c (fun b o nbp eb => by rw [upd_ne nbp]; exact eb) upd_same
    exact ⟨p, [.int n], 0, 0, rfl, rfl, ec, rfl, s.nx _ _ W3 _ kn (a.up (f23.trans fc)) (g.trans f23.le)⟩
end
end Wl
set_option Elab.async false
set_option linter.all false
set_option maxRecDepth 100000
set_option maxHeartbeats 4000000
/-! TryAs: several except clauses, each with `as`. -/
namespace TryAs
open PySem PySem.Spec PyProof.Rows L2 L2N
abbrev Su := Addr → Value → Option Addr → L2.TS
/-- the ends of a suite of `as`: the name is gone -/
def offE (i : Nat) (D : Ends) : Ends := { nx := fun τ G => D.nx (τ.set i none) G, rt := D.rt, bk := fun τ G => D.bk (τ.set i none) G, ct := fun τ G => D.ct (τ.set i none) G }
/-- what the clauses wish, one after the other -/
def wAll (K : PySem.W.Frag) (i : Nat) (Wo : WX) (D : Ends) : List (Value × Su) → WX
  | [] => Wo
  | q :: r => fun cls d τ G => ∃ hit, PySem.W.exmOne K cls q.1 = some hit ∧ (hit = true → ∀ x, G x = none → q.2 x cls d (offE i D) (τ.set i (some (.ref x))) G) ∧ (hit = false → wAll K i Wo D r cls d τ G)
inductive Cls (X : Cx) (n : Str) : List ExceptHandler → List (Value × Su) → Prop
  | nil : Cls X n [] []
  | cons {x : Str} {q : Value × Su} {b₀ : Stmt} {bs : List Stmt} {p1 p2 : Pos} {hds : List ExceptHandler} {l : List (Value × Su)} (nm : Names X x q.1)
      (su : ∀ (x : Addr) (oe : Obj) (cls : Value) (d : Option Addr) (pn : List (Addr × Obj)), Zn cls d oe → (∃ vs, oe.data = .fields vs) → PSs (X.suite x ((x, oe) :: pn)) (b₀ :: bs) (q.2 x cls d)) (r : Cls X n hds l) :
      Cls X n (.ExceptHandler (some (.Name x p1)) (some n) (b₀ :: bs) p2 :: hds) (q :: l)
variable {X : Cx} {n : Str} {i : Nat} {body : List Stmt} {hd : ExceptHandler} {hds : List ExceptHandler} {l : List (Value × Su)} {pos : Pos} {tb : WX → L2.TS} {Wo : WX}
theorem ps_try_manyAs (stk : X.stack = X.env :: X.outer) (own : X.env.frame = some X.env.locals) (nd : X.N.Nodup) (at_ : X.N[i]? = some n) (kin : X.env.kindOf n = some .local) (tk : L2N.Takes X Wo)
    (run : ∀ (W : WX) (pn : List (Addr × Obj)) (xe : Value → Shared → Prop), L2N.Takes (X.tr pn xe) W → PassesOwn (model X.prog X.w) X.A X.env xe → PSs (X.tr pn xe) body (tb W))
    (cl : Cls X n (hd :: hds) l) : PS X (.Try body (hd :: hds) [] [] pos) (fun D τ G => tb (wAll X.K i Wo D l) D τ G) := by
  refine ⟨fun pins s τ G D I h => ?_⟩
  have ok := I.ok
  have frms : X.A.frames = some (X.env :: X.outer) := ok.frames.trans (by rw [stk])
  have lcl : Loc X.env.scope n := .inl kin
  refine wpAny_Try_except (wpAny_mono ((run (wAll X.K i Wo D l) (X.pn ++ pins) (fun e s₁ => wpAny (model X.prog X.w) X.A (noteFrame e X.env)
    (fun _ s₂ => wpAny (model X.prog X.w) X.A (setFlight e none) (fun _ s₃ => wpAny (model X.prog X.w) X.A (handleBy e X.env (hd :: hds)) (SP X pins D) X.xe s₃) X.xe s₂) X.xe s₁) (fun u s' xx => ?_) PassesOwn.looking).run [] s τ G D (I.toTry _) h) (fun fl s1 hsp => ?_) fun _ _ z => z)
  · obtain ⟨x, B, sI, pins', τ', G', cls, d, rfl, J0, nb, up, sk, na, eos, ag, w⟩ := xx
    have J : Inv X pins τ' G' sI := J0.ofTry ok
    have sk' : Sky B (X.env :: X.outer) x (Zn cls d) X.env.locals s'.heap := stk ▸ sk
    show wpAny (model X.prog X.w) X.A (noteFrame (.ref x) X.env) _ _ _
    refine Sky.land Zn.steady frms own sk' fun h3 land3 up3 => ?_
    have J3 : Inv X pins τ' G' { s' with heap := h3 } := J.landed nb land3.1 (up.trans up3) eos ag
    obtain ⟨oe3, vs3, he3, hz3, hd3⟩ := land3.there
    have nfr : x ∉ frs (X.env :: X.outer) := fun hm => by
      obtain ⟨_, o', e', ne⟩ := land3.2.2.1.mem hm
      rw [he3] at e'
      cases e'
      exact ne _ hd3
    have nL : x ≠ X.env.locals := fun z => nfr (List.mem_filterMap.mpr ⟨X.env, List.mem_cons_self, own.trans (by rw [z])⟩)
    have nF : x ∉ X.fs := fun hm => by
      obtain ⟨e, he, q⟩ := List.mem_filterMap.mp hm
      exact nfr (List.mem_filterMap.mpr ⟨e, List.mem_cons_of_mem _ he, q⟩)
    have S3 := J3.suite he3 hd3 na nL nF
    have go : ∀ {hs2 : List ExceptHandler} {l2 : List (Value × Su)}, Cls X n hs2 l2 → wAll X.K i Wo D l2 cls d τ' G' → wpAny (model X.prog X.w) X.A (handleBy (.ref x) X.env hs2) (SP X pins D) X.xe { s' with heap := h3 } := by
      intro hs2 l2 hk
      induction hk with
      | nil =>
        intro w
        obtain ⟨_, _, _, oe, vs, T, oT, ts', he, hz, hdd, h1, _⟩ := id land3
        have fin : wpAny (model X.prog X.w) X.A (setFlight (.ref x) X.env.frame) (fun _ s4 => wpAny (model X.prog X.w) X.A (throw (.ref x) : Sem Flow) (SP X pins D) X.xe s4) X.xe { s' with heap := h3 } := by
          rw [own]
          exact HandSPX.setFlight_upZ land3 fun h4 hh4 up4 => wpAny_throw (tk _ _ ⟨x, B, sI, pins, τ', G', cls, d, rfl, J, nb, (up.trans up3).trans up4, .inr (.inr (stk ▸ hh4)), na, eos, ag, w⟩)
        refine wpAny_handleBy_nil ?_
        unfold PySem.passOn
        refine wpAny_bind (wpAny_field he hdd h1 ?_)
        rw [if_neg (show ¬ (Value.ref T == Value.none) = true by simp)]
        first
          | exact wpAny_bind (wpAny_pure (wpAny_bind fin))
          | exact wpAny_bind fin
      | @cons y q b₀ bs p1 p2 hds2 r2 nm su r ih =>
        intro w
        obtain ⟨hit, ht, yes, no⟩ := w
        have LT : PySem.W.Looks (model X.prog X.w) h3 (typeOf (.ref x)) cls := fun A Q E s k z => wpAny_typeOf_ref (k _ _ he3) (hz3.1.symm ▸ z)
        have LM := PySem.W.exm_one (M := model X.prog X.w) J3.kIn LT ht
        have test : ∀ {Q E : Value → Shared → Prop}, Q q.1 { s' with heap := h3 } → wpAny (model X.prog X.w) (X.A.mark (some (.ref x))) (eval (.Name y p1) X.env) Q E { s' with heap := h3 } := fun {Q E} z => by
          obtain ⟨hg, hdbg, hm | ⟨hm, hv, hnn⟩⟩ := nm
          · exact ld_glob (X := X.suite x ((x, oe3) :: (X.pn ++ pins))) S3 hg hm z hdbg
          · exact ld_blt (X := X.suite x ((x, oe3) :: (X.pn ++ pins))) S3 hg hm hv z hnn hdbg
        refine wpAny_handleBy_cons (codeAny_handlers_test (test (LM.here ?_))) (by intro z; cases z)
        cases hit with
        | false => exact ih (no rfl)
        | true =>
          refine codeAny_handlers_suite_as (HandSPX.lands_againZ land3 fun h4 land4 up4 => ?_)
          have J4 : Inv X pins τ' G' { s' with heap := h4 } := J.landed nb land4.1 ((up.trans up3).trans up4) eos ag
          obtain ⟨oe4, vs4, he4, hz4, hd4⟩ := land4.there
          refine store_ok (X := X.suite x ((x, oe4) :: (X.pn ++ pins))) (v := .ref x) (J4.suite he4 hd4 na nL nF) nd at_ lcl rfl (fun s5 S5 => ?_) (.inr kin)
          refine wpAny_mono ((su x oe4 cls d (X.pn ++ pins) hz4 ⟨_, hd4⟩).run [] s5 _ G' _ S5 (yes rfl x na)) (fun fl s6 hsp => ?_) (fun _ _ z => False.elim z)
          have fin : ∀ {σ6 : L2.St} {H6 : Hp} {Q : Shared → Prop}, Inv (X.suite x ((x, oe4) :: (X.pn ++ pins))) [] σ6 H6 s6 → (∀ s7, Inv X pins (σ6.set i none) H6 s7 → Q s7) →
              wpAny (model X.prog X.w) X.A (do bindName X.env n .none; unbindBehindTheSuite X.env n p2) (fun _ s7 => Q s7) X.xe s6 := fun {σ6 H6 Q} S6 z => gone_ok (S6.unsuite ok) nd at_ kin z
          cases fl with
          | next => obtain ⟨_, _, S6, q6⟩ := hsp; exact fin S6 fun s7 J7 => ⟨_, _, J7, q6⟩
          | brk => obtain ⟨_, _, S6, q6⟩ := hsp; exact fin S6 fun s7 J7 => ⟨_, _, J7, q6⟩
          | cont => obtain ⟨_, _, S6, q6⟩ := hsp; exact fin S6 fun s7 J7 => ⟨_, _, J7, q6⟩
          | ret u => obtain ⟨_, _, _, S6, r6, q6⟩ := hsp; exact fin S6 fun s7 J7 => ⟨_, _, _, J7, r6, q6⟩
    exact go cl w
  · cases fl with
    | next => obtain ⟨_, _, J1, q⟩ := hsp; exact wpAny_execs_nil ⟨_, _, J1.ofTry ok, q⟩
    | brk => obtain ⟨_, _, J1, q⟩ := hsp; exact ⟨_, _, J1.ofTry ok, q⟩
    | cont => obtain ⟨_, _, J1, q⟩ := hsp; exact ⟨_, _, J1.ofTry ok, q⟩
    | ret u => obtain ⟨_, _, _, J1, r, q⟩ := hsp; exact ⟨_, _, _, J1.ofTry ok, r, q⟩
end TryAs
set_option Elab.async false
set_option linter.all false
set_option maxRecDepth 100000
set_option maxHeartbeats 4000000
/-! Kx: what a def, an error, a property, a class is to those that use it; new lists, handled exceptions, lent lists. -/
namespace Kx
open PySem PySem.Spec PyProof.Rows L2 Wl
/-- a written def with its promise -/
structure Df (P : Program) (w : World) (K : PySem.W.Frag) (mg : Str → Option Value) (base : Heap) (k : Nat) (x : Str) (ps : List Str) (sp : Sp) (f : Addr) (fd : FuncData) : Prop where
  ok : FnOk P w K mg base (L2N.CX P w) k f fd ps sp
  g : mg x = some (.ref f)
  kp : PySem.W.keepIn K (.ref f) = true
  b : Binds K fd ps []
abbrev FnS (K : PySem.W.Frag) (x : Str) (st : Stmt) (f : Addr) (fd : FuncData) : Prop := FunD K x x (defArgs st) (defBody st) (defScope st) [] [] f fd
abbrev FnM (K : PySem.W.Frag) (x q : Str) (st : Stmt) (f : Addr) (fd : FuncData) : Prop := FunD K x q (defArgs st) (defBody st) (defScope st) [] [] f fd
/-- an own error: its class, its __init__ that keeps its argument in one field -/
structure Er (P : Program) (w : World) (K : PySem.W.Frag) (mg : Str → Option Value) (base : Heap) (x fld : Str) (C fI : Addr) (fd : FuncData) (ps : List Str) : Prop where
  T : OexC K C
  iC : PySem.W.findIn K (.ref C) "__init__" = some (some (.ref fI))
  tI : PySem.W.typeIn K (.ref fI) = some (.type "function")
  F : FnOk P w K mg base (L2N.CX P w) 1 fI fd ps (ErrX.spI C fld)
  b : Binds K fd ps []
  g : mg x = some (.ref C)
/-- .. with two fields -/
structure Er2 (P : Program) (w : World) (K : PySem.W.Frag) (mg : Str → Option Value) (base : Heap) (x f1 f2 : Str) (C fI : Addr) (fd : FuncData) (ps : List Str) : Prop where
  T : OexC K C
  iC : PySem.W.findIn K (.ref C) "__init__" = some (some (.ref fI))
  tI : PySem.W.typeIn K (.ref fI) = some (.type "function")
  F : FnOk P w K mg base (L2N.CX P w) 1 fI fd ps (ErrX.spI2 C f1 f2)
  b : Binds K fd ps []
  g : mg x = some (.ref C)
/-- a property -/
structure Pn (P : Program) (w : World) (K : PySem.W.Frag) (mg : Str → Option Value) (base : Heap) (k : Nat) (C : Addr) (x : Str) (sp : Sp) (p f : Addr) (fd : FuncData) : Prop where
  cl : Cls K C
  po : PropOf K C x p f
  ok : FnOk P w K mg base (L2N.CX P w) k f fd ["self"] sp
  b : Binds K fd ["self"] []
/-- a class that is called -/
structure Kn (P : Program) (w : World) (K : PySem.W.Frag) (mg : Str → Option Value) (base : Heap) (k : Nat) (x : Str) (C : Addr) (ps : List Str) (sp : Sp) (f : Addr) (fd : FuncData) : Prop where
  mkk : Mk K C f
  ok : FnOk P w K mg base (L2N.CX P w) k f fd ps sp
  g : mg x = some (.ref C)
  b : Binds K fd ps []
/-- a classmethod -/
structure Cn (P : Program) (w : World) (K : PySem.W.Frag) (mg : Str → Option Value) (base : Heap) (k : Nat) (C : Addr) (mc : Value) (x : Str) (sp : Sp) (p f : Addr) : Prop where
  cr : ClX.CRead K C mc
  cm : ClX.CMet K C mc x p f
  ok : FnR P w K mg base (L2N.CX P w) k f sp
/-- what a raising def lets out -/
theorem passO {X : Cx} {E : XK} (tk : L2N.Takes X fun cls d _ H => E cls d H) : Passes (L2N.CX X.prog X.w) X E := fun pins σ H s e s' I c => L2N.passes_call tk (fun _ _ _ _ h => h) pins σ H s e s' I c
/-- two ways of being called -/
def orX (S1 S2 : PX) : PX := fun φs k kx => S1 φs k kx ∨ S2 φs k kx
theorem spX_or {S1 S2 : PX} {vs : List V} {H : Hp} {Q : VK} {E : XK} (h : spX (orX S1 S2) vs H Q E) : spX S1 vs H Q E ∨ spX S2 vs H Q E := by
  obtain ⟨φs, k, kx, W, i, p, s, q, x⟩ := h
  rcases s with s | s
  · exact .inl ⟨φs, k, kx, W, i, p, s, q, x⟩
  · exact .inr ⟨φs, k, kx, W, i, p, s, q, x⟩
theorem lenX {S : PX} {n : Nat} {vs : List V} {H : Hp} {Q : VK} {E : XK} (i : ∀ φs k kx, S φs k kx → φs.length = n) (h : spX S vs H Q E) : vs.length = n := by
  obtain ⟨φs, k, kx, W, _, p, s, _⟩ := h
  rw [p.len]
  exact i φs k kx s
theorem Dt_forI {A : Wd × Hp} {wi : L2.TI} {g : TG} {t : L2.TS} {Φ : List Sl} {O : Out} (us : List Nat) {ψs : List Ty} (I : Nat → List Sl → Prop) (hi : Di A wi Φ fun x => x = ψs) (h0 : I 0 Φ)
    (st : ∀ j ψ Φ', ψs[j]? = some ψ → I j Φ' → Dg A g us ψ Φ' fun Φ2 => Dt A t Φ2 ⟨I (j + 1), O.rt, O.nx, I (j + 1)⟩) (en : ∀ Φ', I ψs.length Φ' → O.nx Φ') : Dt A (tFor wi g t) Φ O :=
  Dt_for (us := us) (hi.mono fun x e => by subst e; exact ⟨I, h0, st, en⟩)
end Kx
namespace ErrX
open PySem PySem.Spec PyProof.Rows L2
/-- e.f of the handled exception, whichever it is -/
def tFldG (K : PySem.W.Frag) (a : Addr) (cls : Value) (d : Option Addr) (f : Str) (te : TE) : TE := fun σ H Q => te σ H fun x H1 => ∃ (D dd : Addr) (fs : List (Str × V)) (v : V), cls = .ref D ∧ d = some dd ∧ L2.ExcC K D ∧ PySem.W.findIn K (.ref D) f = some none ∧ x = .ref a ∧ H1 dd = some (.xd fs) ∧ fs.lookup f = some v ∧ Q v H1
theorem pe_fldG {X : Cx} {a : Addr} {cls : Value} {d : Option Addr} {e : Expr} {te : TE} {f : Str} {pos : Pos} (hc : HotE X a cls d) (he : PE X e te) (hb : attributeBase e f X.env (eval e X.env) = eval e X.env := by rfl) : PE X (.Attribute e f pos) (tFldG X.K a cls d f te) := by
  refine ⟨fun pins s σ H Q I h => attr_of hb (thn (he.run pins s σ H _ I h) fun u s1 hh => ?_)⟩
  obtain ⟨x, H1, I1, rx, D, dd, fs, v, rfl, rfl, C, no, rfl, hd, hl, q⟩ := hh
  obtain rfl : u = Value.ref a := rx
  obtain ⟨oe, od, mA, J, look, rel⟩ := inst_hot hc I1 hd
  obtain ⟨u, hu, ru⟩ := RelO.some_of (v := v) (o := mA f) (hl ▸ rel f)
  exact HandSPX.exc_get I1.kIn J C.hg C.hk C.hs (PySem.W.findObj_own C.hd no rfl ((look f).trans (congrArg some hu))) (handed_of ru) ⟨v, H1, I1.tok _, ru, q⟩
end ErrX
namespace Wl
open PySem PySem.Spec PyProof.Rows L2
/-- a list that is new where N says so -/
def TLn (N : Addr → Prop) (φs : List Ty) : Ty := ⟨fun W v => ∃ p vs, v = .ref p ∧ N p ∧ W.B p = some (.lst vs) ∧ Are W φs vs, fun l ⟨p, vs, e, n, s, a⟩ => ⟨p, vs, e, n, l.b _ _ s, a.up l⟩⟩
/-- an exception at a, its own dict at dd -/
def TEx (a dd : Addr) (fs : List (Str × V)) : Ty := ⟨fun W v => v = .ref a ∧ W.B dd = some (.xd fs), fun l h => ⟨h.1, l.b _ _ h.2⟩⟩
theorem De_dnN {A : Wd × Hp} {te : TE} {Φ : List Sl} {k : Ty → Prop} (h : Wl.Dn A te Φ fun θ => ∃ φs, θ = CL φs ∧ k (TLn (fun p => A.2 p = none) φs)) : De A te Φ k := fun σ W H a Q q =>
  h σ W H a _ fun θ p o W2 H2 f n nb nc ho t ⟨φs, e, kh⟩ => by
    subst e
    obtain ⟨vs, rfl, ar⟩ := t
    exact q (TLn (fun p => A.2 p = none) φs) (.ref p) (W2.add p (.lst vs)) H2 (f.know ho n nb nc) ⟨p, vs, rfl, a.fr.was n, Wd.add_at, ar.up (Le.add nb)⟩ kh
theorem Rc_isD {K : PySem.W.Frag} {D a dd : Addr} {fs : List (Str × V)} {c : V} {cv : Value} {b : Bool} {k : Ty → Prop} (hc : ClsV c cv) (e : PySem.W.kitOne K (.ref D) cv = some b) (h : k (TB b)) : Rc (ErrX.rIsD K D a dd) [TEx a dd fs, TV c] k := fun W H vs i ar Q q => by
  obtain ⟨v, u, rfl, ⟨rfl, p1⟩, p2⟩ := ar.two
  obtain rfl : u = c := p2
  exact ⟨u, cv, b, fs, rfl, hc, i.b _ _ p1, e, q (TB b) _ W H (Fr.refl i) rfl h⟩
theorem De_fldD {A : Wd × Hp} {Φ : List Sl} {k : Ty → Prop} {a dd : Addr} {fs : List (Str × V)} {i : Nat} {f : Str} {v : V} (e : Φ[i]? = some (.im (TEx a dd fs))) (l : fs.lookup f = some v) (h : k (TV v)) : De A (ErrX.tFldD a dd f (tVar i)) Φ k := fun σ W H at_ Q q => by
  obtain ⟨u, s1, rfl, p1⟩ := at_.env.im i _ e
  exact ⟨.ref a, s1, rfl, fs, v, at_.inn.b _ _ p1, l, q (TV v) v W H (Fr.refl at_.inn) rfl h⟩
theorem De_fldG {A : Wd × Hp} {K : PySem.W.Frag} {Φ : List Sl} {k : Ty → Prop} {a D dd : Addr} {fs : List (Str × V)} {i : Nat} {f : Str} {v : V} (C : L2.ExcC K D) (no : PySem.W.findIn K (.ref D) f = some none) (e : Φ[i]? = some (.im (TEx a dd fs))) (l : fs.lookup f = some v) (h : k (TV v)) : De A (ErrX.tFldG K a (.ref D) (some dd) f (tVar i)) Φ k := fun σ W H at_ Q q => by
  obtain ⟨u, s1, rfl, p1⟩ := at_.env.im i _ e
  exact ⟨.ref a, s1, D, dd, fs, v, rfl, rfl, C, no, rfl, at_.inn.b _ _ p1, l, q (TV v) v W H (Fr.refl at_.inn) rfl h⟩
/-- a call that may raise, what is raised is wished for where the slots are known -/
theorem De_callA {A : Wd × Hp} {Φ : List Sl} {k : Ty → Prop} {kx : Addr → List (Str × Ty) → Prop} {tr : TA} {S : PX} {E : L2.St → XK} (hE : ∀ σ W H, At A W H Φ σ → Xs (W, H) kx (E σ)) (h : Da A tr Φ fun φs => S φs k kx) : De A (tCallS (spX S) E tr) Φ k := fun σ W H a Q q =>
  h σ W H a _ fun φs vs W1 H1 f1 p1 h1 => ⟨φs, k, kx, W1, f1.inn, p1, h1, fun φ v W2 H2 f2 p2 k2 => q φ v W2 H2 (f1.trans f2) p2 k2, hE σ W1 H1 (a.up f1)⟩
/-- a list that is new since the entry -/
theorem De_lstN {A : Wd × Hp} {Φ : List Sl} {k : Ty → Prop} {ta : TA} (h : Da A ta Φ fun φs => φs.length ≤ 1000 ∧ k (TLn (fun p => A.2 p = none) φs)) : De A (tLst ta) Φ k := De_dnN (Dn_lst fun σ W H a Q q => h σ W H a Q fun φs vs W2 H2 f p ⟨l, kh⟩ => q φs vs W2 H2 f p ⟨l, _, rfl, kh⟩)
def Wd.rem (W : Wd) (p : Addr) : Wd := ⟨fun a => if a = p then none else W.B a, W.C⟩
theorem rem_ne {W : Wd} {p a : Addr} (h : a ≠ p) : (W.rem p).B a = W.B a := if_neg h
theorem rem_at {W : Wd} {p : Addr} : (W.rem p).B p = none := if_pos rfl
theorem In.add {W : Wd} {H : Hp} {p : Addr} {o : HO} (i : In W H) (h : H p = some o) (nc : ¬ W.C p) : In (W.add p o) H := by
  refine ⟨fun a u e => ?_, fun a c => ?_⟩
  · by_cases ap : a = p
    · subst ap
      rw [show (W.add a o).B a = some o from upd_same] at e
      rw [← e]; exact h
    · exact i.b a u (by rw [show (W.add p o).B a = W.B a from upd_ne ap] at e; exact e)
  · have ap : a ≠ p := fun z => nc (z ▸ c)
    obtain ⟨h1, h2⟩ := i.c a c
    exact ⟨by rw [show (W.add p o).B a = W.B a from upd_ne ap]; exact h1, h2⟩
theorem Fr.rem {W W2 : Wd} {H H2 : Hp} {p : Addr} {o : HO} (f : Fr (W.add p o) H W2 H2) (nb : W.B p = none) : Fr W H (W2.rem p) H2 := by
  have ne : ∀ {a}, W.B a ≠ none → a ≠ p := fun h z => h (z ▸ nb)
  have back : ∀ {a}, a ≠ p → (W.add p o).B a = W.B a := fun h => upd_ne h
  refine ⟨⟨fun a u e => ?_, f.le.c⟩, ⟨fun a u e => ?_, fun a c => ?_⟩, fun a u e c => f.keep a u e c, fun a h => ?_, f.nc⟩
  · have ap : a ≠ p := ne (by rw [e]; exact fun z => nomatch z)
    rw [rem_ne ap]
    exact f.le.b a u (by rw [back ap]; exact e)
  · by_cases ap : a = p
    · subst ap; rw [rem_at] at e; cases e
    · exact f.inn.b a u (by rw [rem_ne ap] at e; exact e)
  · obtain ⟨h1, h2⟩ := f.inn.c a c
    refine ⟨?_, h2⟩
    by_cases ap : a = p
    · subst ap; exact rem_at
    · rw [rem_ne ap]; exact h1
  · by_cases ap : a = p
    · subst ap; exact absurd rem_at h
    · rw [rem_ne ap] at h
      rcases f.nb a h with z | z
      · rw [back ap] at z; exact .inl z
      · exact .inr z
/-- a type that does not lean on the list at p -/
structure Rm (p : Addr) (φ : Ty) : Prop where
  rm : ∀ W us v, W.B p = some (.lst us) → φ.is W v → φ.is (W.rem p) v
theorem rm_tv {p : Addr} (v : V) : Rm p (TV v) := ⟨fun _ _ _ _ h => h⟩
theorem rm_are {p : Addr} {W : Wd} {us : List V} (b : W.B p = some (.lst us)) : ∀ {φs : List Ty} {vs : List V}, (∀ φ ∈ φs, Rm p φ) → Are W φs vs → Are (W.rem p) φs vs
  | [], [], _, h => h
  | φ :: φs, v :: vs, k, h => ⟨(k φ List.mem_cons_self).rm W us v b h.1, rm_are b (fun ψ hψ => k ψ (List.mem_cons_of_mem _ hψ)) h.2⟩
  | [], _ :: _, _, h => h.elim
  | _ :: _, [], _, h => h.elim
theorem rm_tu {p : Addr} {φs : List Ty} (k : ∀ φ ∈ φs, Rm p φ) : Rm p (TU φs) := ⟨fun W us v b ⟨q, vs, e, hb, ar⟩ => ⟨q, vs, e, by rw [rem_ne (fun z => by subst z; rw [b] at hb; cases hb)]; exact hb, rm_are b k ar⟩⟩
theorem rm_flds {p : Addr} {W : Wd} {us : List V} (b : W.B p = some (.lst us)) : ∀ {ts : List (Str × Ty)} {fs : List (Str × V)}, (∀ t ∈ ts, Rm p t.2) → Flds W ts fs → Flds (W.rem p) ts fs
  | [], [], _, h => h
  | t :: ts, v :: vs, k, h => ⟨h.1, (k t List.mem_cons_self).rm W us v.2 b h.2.1, rm_flds b (fun ψ hψ => k ψ (List.mem_cons_of_mem _ hψ)) h.2.2⟩
  | [], _ :: _, _, h => h.elim
  | _ :: _, [], _, h => h.elim
theorem rm_tj {p C : Addr} {ts : List (Str × Ty)} (k : ∀ t ∈ ts, Rm p t.2) : Rm p (TJ C ts) := ⟨fun W us v b ⟨q, dx, fs, e, hb, fl⟩ => ⟨q, dx, fs, e, by rw [rem_ne (fun z => by subst z; rw [b] at hb; cases hb)]; exact hb, rm_flds b k fl⟩⟩
theorem rm_ints {p : Addr} (ns : List Int) : ∀ φ ∈ TIs ns, Rm p φ := fun φ h => by
  obtain ⟨x, _, rfl⟩ := List.mem_map.mp h
  exact rm_tv _
theorem rm_tln {p : Addr} {N : Addr → Prop} (np : ¬ N p) {φs : List Ty} (k : ∀ φ ∈ φs, Rm p φ) : Rm p (TLn N φs) := ⟨fun W us v b ⟨q, vs, e, n, hb, ar⟩ => ⟨q, vs, e, n, by rw [rem_ne (fun z => by subst z; exact np n)]; exact hb, rm_are b k ar⟩⟩
theorem De_weak {A : Wd × Hp} {Φ : List Sl} {te : TE} {k : Ty → Prop} (h : De A te Φ fun φ => ∃ ψ, φ.Sub ψ ∧ k ψ) : De A te Φ k := fun σ W H a Q q => h σ W H a Q fun φ v W2 H2 f2 p2 ⟨ψ, s, hk⟩ => q ψ v W2 H2 f2 (s W2 v p2) hk
theorem TLn_sub {N : Addr → Prop} {φs : List Ty} : (TLn N φs).Sub (TL φs) := fun W v ⟨p, vs, e, _, b, ar⟩ => ⟨p, vs, e, b, ar⟩
theorem u65 {A : Around} {k : Nat} (r : Room k A) : A.units + 65 < cLine := by
  have := r.un
  omega
theorem Dg_unl {A : Wd × Hp} {K : PySem.W.Frag} {Φ : List Sl} {n : Nat} {gs : TGs} {us : List Nat} {ψs : List Ty} {k : List Sl → Prop} (hn : ψs.length = n) (h : Dgs A gs us ψs Φ k) : Dg A (gUnl K n gs) us (TL ψs) Φ k := fun σ W H v a ⟨p, vs, e, hb, ar⟩ Q q =>
  ⟨p, vs, e, .inl (.inl (a.inn.b _ _ hb)), by rw [ar.len]; exact hn, h σ W H vs a ar Q q⟩
theorem atI_get {ls : List Int} {a : Nat} (h : a < ls.length) : atI (TIs ls) (a : Int) = some (TI (ls.getD a 0)) := by
  refine L2.atI_nat ?_
  rw [List.getElem?_map, List.getD_eq_getElem?_getD, List.getElem?_eq_getElem h]
  rfl
theorem of_map {α : Type} {f : α → Ty} {xs : List α} {j : Nat} {ψ : Ty} (h : (xs.map f)[j]? = some ψ) : ∃ x, xs[j]? = some x ∧ ψ = f x := by
  rw [List.getElem?_map] at h
  cases e : xs[j]? with
  | none => rw [e] at h; cases h
  | some x => rw [e] at h; exact ⟨x, rfl, (Option.some.inj h).symm⟩
theorem atI_last {α : Type} (xs : List α) (x : α) : atI (xs ++ [x]) (-1) = some x := by
  unfold atI ixN
  rw [List.length_append]
  simp only [List.length_singleton]
  rw [if_neg (by omega), if_pos (by omega)]
  show (xs ++ [x])[_]? = _
  rw [show (-1 + ((xs.length + 1 : Nat) : Int)).toNat = xs.length by omega]
  simp
theorem Ru_neg {x : Int} {k : Ty → Prop} (h : k (TI (-x))) : Ru (rU fun i => .int (-i)) (TI x) k := fun W H v i p Q q => by
  obtain rfl : v = .int x := p
  exact ⟨x, rfl, q _ _ W H (Fr.refl i) rfl h⟩
theorem br_yes {p X Y : Prop} [Decidable p] (hp : p) (h : X) : (decide p = true → X) ∧ (decide p = false → Y) := ⟨fun _ => h, fun z => absurd hp (of_decide_eq_false z)⟩
theorem br_no {p X Y : Prop} [Decidable p] (hp : ¬ p) (h : Y) : (decide p = true → X) ∧ (decide p = false → Y) := ⟨fun z => absurd (of_decide_eq_true z) hp, fun _ => h⟩
theorem Rc_sumL {K : PySem.W.Frag} {ns : List Int} {k : Ty → Prop} (h : k (TI ns.sum)) : Rc (EnT.rSumE K) [TL (TIs ns)] k := fun W H vs i a Q q => by
  obtain ⟨v, rfl, p, us, rfl, hb, ar⟩ := a.un
  have := ar.vals (g := V.int)
  subst this
  exact ⟨p, ns, rfl, .inl (.inl (.inl (i.b _ _ hb))), q (TI ns.sum) _ W H (Fr.refl i) rfl h⟩
theorem cutI (ns : List Int) (lo hi : Option Int) : ∃ ns' : List Int, cutT (TIs ns) lo hi = TIs ns' ∧ ns'.length ≤ ns.length := by
  refine ⟨(ns.drop (HT.sIx ns.length 0 lo)).take (HT.sIx ns.length ns.length hi - HT.sIx ns.length 0 lo), ?_, ?_⟩
  · unfold cutT TIs
    rw [List.length_map, ← List.map_drop, ← List.map_take]
  · rw [List.length_take, List.length_drop]
    omega
end Wl
set_option Elab.async false
set_option linter.all false
set_option maxRecDepth 100000
set_option maxHeartbeats 4000000
/-! NumX: an instance times a whole number, a whole number times an instance, a text times a whole number. -/
namespace NumX
open PySem PySem.W PySem.Calls PyProof.Rows
theorem int_mul_ref (a : Int) (t : Tok) (l : Addr) : Meets (Builtin.«int.__mul__» ⟨[.int a t, .ref l], []⟩) (fun _ R s => (∃ o, s.heap.get? l = some o ∧ o.data = .plain) ∧ R (.ok (.ret Value.notImplemented)) s) :=
  .of_wp fun prog w A R s h => by
    obtain ⟨hp, g, d, tk, os⟩ := s
    obtain ⟨⟨o, hl, hd⟩, h⟩ := h
    obtain ⟨c, dd, da, sl⟩ := o
    simp only at hd
    subst hd
    wp_walk
    exact ⟨_, rfl, h⟩
section
variable {prog : Program} {w : World} {A : Around} {E : Value → Shared → Prop} {s : Shared} {K : Frag} {x C L f f0 : Addr} {h₀ : Heap} {m : Str → Option Value} {ox : Obj} {od : Option Obj}
theorem mul_ref {n : Int} {u : Tok} {Q : Value → Shared → Prop} (Fh : Fr h₀ L s.heap m) (X₀ : K.In h₀) (I : InstAt s.heap x ox C od) (hp : ox.data = .plain) (hc : selfFirst K C = true)
    (hs : findIn K (.ref C) (PySem.dunder Operator.Mult.info.2) = some (some (.ref f0))) (hr : findIn K (.ref C) (dunderR Operator.Mult.info.2) = some (some (.ref f))) (hf : isFn K (.ref f) = true) (hsub : subIn K (.ref C) (.type "int") = some false)
    (h : wpAny (model prog w) A (call (.ref f) [.ref x, .int n u]) (PySem.W.CmpBack Q) E s) : wpAny (model prog w) A (binaryOp .Mult (.int n u) (.ref x)) Q E s := by
  have X := X₀.keeps Fh.keep
  obtain ⟨cd, rest, hcd, hm⟩ := ksp_first hc
  have one := ksp_try X I hr hf h
  have hI := I.at_
  obtain ⟨hh, g, d, tt, os⟩ := s
  have L1 : Looks (model prog w) hh (typeOf (.ref x)) (.ref C) := I.type
  have L2 : Looks (model prog w) hh (typeOf (.int n u)) (.type "int") := Looks.of_pure rfl
  have L3 : Looks (model prog w) hh (fillsNumberSlot (.ref C) "mul") true := fills_K X hcd hm hs
  have L4 : Looks (model prog w) hh (fillsNumberSlot (.type "int") "mul") true := Looks.of_pure PySem.F.fills_int_mul
  have L5 : Looks (model prog w) hh (isSubtype (.ref C) (.type "int")) false := looks_subIn X hsub
  have L7 : Looks (model prog w) hh (numberSlotInPython (.type "int") "mul") false := Looks.of_pure rfl
  have hne : (Value.type "int" == Value.ref C) = false := Bool.eq_false_iff.mpr fun q => by cases beq_iff_eq.mp q
  have hi : Operator.Mult.info = ("*", "mul") := rfl
  simp only [binaryOp, hi]
  refine wpAny_holding (wpAny_bind ?_)
  unfold binaryOp1
  refine wpAny_bind (L2.at (wpAny_bind (L1.at (wpAny_bind (L4.at ?_)))))
  simp only [hne, Bool.false_eq_true, if_false]
  ksp_lk
  refine wpAny_tryMethod_declines (T := "int") (name := dunder "mul") (id := "int.__mul__") (typeIs_int _ n u) PySem.F.slot_int_mul ?_
  have m1 := int_mul_ref n u x
  refine call_meets (T := "int") (name := dunder "mul") (id := "int.__mul__") PySem.F.slot_int_mul (typeIs_int _ n u) PySem.F.entry_int_mul (PySem.F.args_int_mul_2 _ _) m1 ?_
  refine ⟨⟨ox, hI, hp⟩, ?_⟩
  refine ⟨rfl, ?_⟩
  ksp_lk
  refine wpAny_mono one (fun r s' hr' => ?_) fun _ _ e => e
  obtain ⟨v, rfl, hq⟩ := hr'
  ksp_lk
  exact hq
end
end NumX
namespace OwnB
open PySem PySem.Spec PyProof.Rows L2 OwnM
section
variable {X : Cx} {CX : CXT} {k : Nat} {f f0 C : Addr} {fd : FuncData} {ps : List Str} {sp : Sp} {E : XK} {pins : List (Addr × Obj)} {σ : L2.St} {H : Hp} {s : Shared}
theorem dmul : PySem.dunder Operator.Mult.info.2 = ("__mul__" : Str) := by decide +kernel
theorem drmul : PySem.dunderR Operator.Mult.info.2 = ("__rmul__" : Str) := by decide +kernel
/-- x * n, x an instance of the class at C -/
def rOwnT (C : Addr) (sp : Sp) (E : XK) : R2 := fun x y H Q => ∃ a n dx fs, x = .ref a ∧ y = .int n ∧ H a = some (.ins C dx fs) ∧ sp [.ref a, .int n] H Q E
/-- n * x -/
def rOwnR (C : Addr) (sp : Sp) (E : XK) : R2 := fun x y H Q => ∃ a n dx fs, y = .ref a ∧ x = .int n ∧ H a = some (.ins C dx fs) ∧ sp [.ref a, .int n] H Q E
theorem op_ownT (F : FnOk X.prog X.w X.K X.mg X.base CX k f fd ps sp) (hr : Room k X.A) (hb : Binds X.K fd ps []) (hx : Passes CX X E) (hc : PySem.W.selfFirst X.K C = true) (hs : PySem.W.findIn X.K (.ref C) "__mul__" = some (some (.ref f))) (hf : PySem.W.isFn X.K (.ref f) = true)
    (hs2 : PySem.W.findIn X.K (.ref C) "__rmul__" = some (some (.ref f0))) (h1 : PySem.W.findIn X.K (.type "int") "__mul__" = some (some (.builtin "int.__mul__"))) (h2 : PySem.W.findIn X.K (.type "int") "__rmul__" = some (some (.builtin "int.__rmul__"))) (hsub : PySem.W.subIn X.K (.type "int") (.ref C) = some false) : OpR X (binaryOp .Mult) (rOwnT C sp E) := by
  intro pins s σ H x y v u Q I rx ry hq
  obtain ⟨a, n, dx, fs, rfl, rfl, ha, hsp⟩ := hq
  cases rx
  obtain ⟨t, rfl⟩ := ry
  obtain ⟨mA, J, _⟩ := ins_get I.hok ha
  obtain ⟨od, J, _⟩ := J.look
  obtain ⟨m, hF⟩ := I.fr
  rw [← dmul] at hs h1
  rw [← drmul] at hs2 h2
  refine PySem.W.ksp_binT (op := .Mult) (T := "int") hF I.ok.mod.kin J rfl hc hs hf hs2 (.inr ⟨_, rfl⟩) h1 h2 hsub ?_
  refine wpAny_mono (run_at F ⟨hr, rfl⟩ hb hx I (show Vals [V.ref a, V.int n] [Value.ref a, Value.int n t] from .cons rfl (.cons ⟨t, rfl⟩ .nil)) hsp) (fun r s' h => ?_) fun _ _ z => z
  obtain ⟨z, H', I', rz, hq⟩ := h
  exact back_of rz ⟨z, H', I', rz, hq⟩
theorem op_ownR (F : FnOk X.prog X.w X.K X.mg X.base CX k f fd ps sp) (hr : Room k X.A) (hb : Binds X.K fd ps []) (hx : Passes CX X E) (hc : PySem.W.selfFirst X.K C = true) (hs : PySem.W.findIn X.K (.ref C) "__rmul__" = some (some (.ref f))) (hf : PySem.W.isFn X.K (.ref f) = true)
    (hs2 : PySem.W.findIn X.K (.ref C) "__mul__" = some (some (.ref f0))) (hsub : PySem.W.subIn X.K (.ref C) (.type "int") = some false) : OpR X (binaryOp .Mult) (rOwnR C sp E) := by
  intro pins s σ H x y v u Q I rx ry hq
  obtain ⟨a, n, dx, fs, rfl, rfl, ha, hsp⟩ := hq
  cases ry
  obtain ⟨t, rfl⟩ := rx
  obtain ⟨ox, od', J2, hp⟩ := StX.insC_at I (.inr ⟨dx, fs, ha⟩)
  obtain ⟨m, hF⟩ := I.fr
  rw [← dmul] at hs2
  rw [← drmul] at hs
  refine NumX.mul_ref hF I.ok.mod.kin J2 hp hc hs2 hs hf hsub ?_
  refine wpAny_mono (run_at F ⟨hr, rfl⟩ hb hx I (show Vals [V.ref a, V.int n] [Value.ref a, Value.int n t] from .cons rfl (.cons ⟨t, rfl⟩ .nil)) hsp) (fun r s' h => ?_) fun _ _ z => z
  obtain ⟨z, H', I', rz, hq⟩ := h
  exact back_of rz ⟨z, H', I', rz, hq⟩
end
end OwnB
set_option Elab.async false
set_option linter.all false
set_option maxRecDepth 100000
set_option maxHeartbeats 4000000
/-! ErrS: an own error whose one field is a text. -/
namespace ErrX
open PySem PySem.Spec PyProof.Rows L2
def spIS (C : Addr) (f : Str) : Sp := fun vs H Q _ => ∃ (a : Addr) (x : Str), vs = [.ref a, .str x] ∧ H a = some (exo a C none) ∧ ∀ dx, H dx = none → dx ≠ a → Q .non (upd (upd H dx (exd dx [(f, .str x)])) a (exo a C (some dx)))
/-- C(e): the exception, its own dict at d the one field -/
def tMk1S (C : Addr) (f : Str) (ta : TA) : L2.St → Hp → XK → Prop := fun σ H Q => ta σ H fun vs H1 => ∃ x : Str, vs = [.str x] ∧ ∀ d, H1 d = none → Q (.ref C) (some d) (upd H1 d (.xd [(f, .str x)]))
theorem pmk_err1S {X : Cx} {CX : CXT} {x f : Str} {e : Expr} {ta : TA} {p pos : Pos} {C fI : Addr} {k : Nat} {fd : FuncData} {ps : List Str} (T : OexC X.K C) (iC : PySem.W.findIn X.K (.ref C) "__init__" = some (some (.ref fI))) (tI : PySem.W.typeIn X.K (.ref fI) = some (.type "function"))
    (F1 : FnOk X.prog X.w X.K X.mg X.base CX k fI fd ps (spIS C f)) (hr : Room (k + 1) X.A) (hb : Binds X.K fd ps []) (hx : Passes CX X (fun _ _ _ => False)) (hg : Gl X x) (hm : X.mg x = some (.ref C)) (ha : PA X [e] ta)
    (hdb : (x == ("__debug__" : Str)) = false := by decide) (he : starEach [e] X.env = (false, eval e X.env) :: starEach [] X.env := by rfl) (hpl : (backTo pos (starEach [] X.env)).any (·.1) = false := by rfl) :
    L2N.PMk X (.Call (.Name x p) [e] [] pos) (tMk1S C f ta) := by
  intro pins s σ H Q I h
  refine pmk_oexN T iC tI F1 hr hb hx hg hm (taW_ok ha) hdb he hpl pins s σ H Q I ⟨_, h, ?_⟩
  rintro vs H1 ⟨x, rfl, q⟩
  refine ⟨(by show 1 ≤ 1000; decide), fun a hn => ⟨a, x, rfl, upd_same, fun dx hdx ne => ⟨rfl, dx, [(f, .str x)], upd_same, ?_, ?_, ?_⟩⟩⟩
  · rw [upd_ne ne, upd_same]
  · rw [upd_ne ne] at hdx
    exact hdx
  · have hd1 : H1 dx = none := by
      rw [upd_ne ne] at hdx
      exact hdx
    have e := mk1_heap (H := H1) (C := C) (f := f) (v := .str x) (o := .xd [(f, .str x)]) hn ne
    rw [e]
    exact q dx hd1
end ErrX
namespace Wl
open PySem PySem.Spec PyProof.Rows L2
section
variable {A : Wd × Hp} {K : PySem.W.Frag} {Φ : List Sl} {O : Out} {k : Ty → Prop} {kx : Addr → List (Str × Ty) → Prop} {ta tb tc te : TE} {tr : TA} {tt tu : TT} {t u : L2.TS}
theorem Dt_raise1S {C : Addr} {f : Str} {E : XK} (hE : Xs A kx E) (h : Da A tr Φ fun φs => ∃ x, φs = [TS x] ∧ kx C [(f, TS x)]) : Dt A (fun _ σ H => ErrX.tMk1S C f tr σ H fun cls d H' => E cls d H') Φ O := fun G D σ W H s a g =>
  h σ W H a _ fun φs vs W1 H1 f1 p1 ⟨x, e, kh⟩ => by
    subst e
    obtain ⟨v, rfl, p9⟩ := p1.un
    obtain rfl : v = .str x := p9
    refine ⟨x, rfl, fun d nd => ?_⟩
    have o := f1.inn.out nd
    exact hE C [(f, TS x)] d [(f, .str x)] (W1.add d (.xd [(f, .str x)])) _ ((a.fr.trans f1).trans (Fr.new f1.inn nd)) Wd.add_at ⟨rfl, rfl, trivial⟩ kh
end
end Wl
set_option Elab.async false
set_option linter.all false
set_option maxRecDepth 100000
set_option maxHeartbeats 4000000
/-! Wt: texts over types: walked, cut, joined, split, read as numbers; f-strings; two-fold comprehensions; all. -/
namespace Wl
open PySem PySem.Spec PyProof.Rows L2
section
variable {A : Wd × Hp} {K : PySem.W.Frag} {Φ : List Sl} {O : Out} {k : Ty → Prop} {kn : Th → Prop} {ta tb te to : TE} {tr : TA} {tt tu : TT}
/-- one sign -/
abbrev T1 (c : Nat) : Ty := TS ⟨#[c]⟩
theorem iter_str {W1 : Wd} (z : Str) : Iter W1 (Its z) (z.cps.toList.map fun c => T1 c) := by
  refine ⟨fun W' H' i _ _ h => ?_, fun W' H' i ψ _ inn e => ?_⟩
  · show z.cps.size ≤ i
    rw [List.length_map, Array.length_toList] at h
    exact h
  · rw [List.getElem?_map] at e
    cases e1 : z.cps.toList[i]? with
    | none => rw [e1] at e; cases e
    | some c =>
      rw [e1] at e
      cases e
      have hi : i < z.cps.size := by have := (List.getElem?_eq_some_iff.mp e1).1; rw [Array.length_toList] at this; exact this
      refine ⟨hi, fun x H'' y => ?_⟩
      obtain ⟨rfl, c', e2, rfl⟩ := y
      refine ⟨W', Fr.refl inn, ?_⟩
      rw [← Array.getElem?_toList, e1] at e2
      cases e2
      rfl
theorem Di_str {k : List Ty → Prop} (h : De A te Φ fun φ => ∃ z, φ = TS z ∧ k (z.cps.toList.map fun c => T1 c)) : Di A (iStr te) Φ k := fun σ W H a R q =>
  h σ W H a _ fun φ v W1 H1 f1 p1 ⟨z, e, kh⟩ => by
    subst e
    obtain rfl : v = .str z := p1
    exact ⟨z, rfl, q _ _ W1 H1 f1 (iter_str z) kh⟩
abbrev rSpl : V → List V → Hp → VK → Prop := fun x xs H Q => ∃ a b, x = .str a ∧ xs = [.str b] ∧ (b.length == 0) = false ∧ a.length + 2 ≤ sizeLine ∧ rNewStrs (Txt.split a b) H Q
theorem are_strs {W : Wd} (ys : List Str) : Are W (ys.map TS) (ys.map V.str) := Are.ofVals (g := V.str) ys
theorem Dn_split (h : De A to Φ fun φ => ∃ a, φ = TS a ∧ De A te Φ fun ψ => ∃ b, ψ = TS b ∧ (b.length == 0) = false ∧ a.length ≤ 100000 ∧ kn (CL ((Txt.split a b).map TS))) : Dn A (tM1 rSpl to te) Φ kn := fun σ W H a Q q =>
  h σ W H a _ fun φ v W1 H1 f1 p1 ⟨z, e, h2⟩ => by
    subst e
    obtain rfl : v = .str z := p1
    refine ⟨⟨z, rfl⟩, h2 σ W1 H1 (a.up f1) _ fun ψ u W2 H2 f2 p2 ⟨b, e, hb, hl, kh⟩ => ?_⟩
    subst e
    obtain rfl : u = .str b := p2
    refine ⟨z, b, rfl, rfl, hb, by show _ ≤ 2 ^ 24; omega, fun p n => ?_⟩
    have f := f1.trans f2
    exact q (CL ((Txt.split z b).map TS)) p (.lst ((Txt.split z b).map V.str)) W2 _ (f.own (f.was n) (f.inn.out n).1 (f.inn.out n).2) (f.was n) (f.inn.out n).1 (f.inn.out n).2 upd_same ⟨_, rfl, are_strs _⟩ kh
abbrev rJn (K : PySem.W.Frag) : V → List V → Hp → VK → Prop := fun x xs H Q => ∃ a p, ∃ ys : List Str, x = .str a ∧ xs = [.ref p] ∧ (SqL K H p (ys.map V.str) ∨ SqT K H p (ys.map V.str)) ∧ (ys.map (·.length)).sum + ys.length * a.length ≤ 16777216 ∧ Q (.str (Txt.join a ys)) H
theorem De_join (h : De A to Φ fun φ => ∃ a, φ = TS a ∧ Dl A te Φ fun φs => ∃ ys : List Str, φs = ys.map TS ∧ (ys.map (·.length)).sum + ys.length * a.length ≤ 16777216 ∧ k (TS (Txt.join a ys))) : De A (tM1 (rJn K) to te) Φ k := fun σ W H a Q q =>
  h σ W H a _ fun φ v W1 H1 f1 p1 ⟨z, e, h2⟩ => by
    subst e
    obtain rfl : v = .str z := p1
    refine ⟨⟨z, rfl⟩, h2 σ W1 H1 (a.up f1) _ fun φs p vs W2 H2 f2 st ar ⟨ys, e, hl, kh⟩ => ?_⟩
    subst e
    have := ar.vals (g := V.str)
    subst this
    exact ⟨z, p, ys, rfl, rfl, .inl (.inl (.inl (st W2 H2 (Fr.refl f2.inn)))), hl, q _ _ W2 H2 (f1.trans f2) rfl kh⟩
theorem De_isdigit (h : De A to Φ fun φ => ∃ a, φ = TS a ∧ k (TB (Txt.isdigit a))) : De A (tM0 (fun x xs H Q => ∃ a, x = .str a ∧ xs = [] ∧ True ∧ Q (.bl (Txt.isdigit a)) H) to) Φ k := fun σ W H a Q q =>
  h σ W H a _ fun φ v W1 H1 f1 p1 ⟨z, e, kh⟩ => by
    subst e
    obtain rfl : v = .str z := p1
    exact ⟨⟨z, rfl⟩, z, rfl, rfl, trivial, q _ _ W1 H1 f1 rfl kh⟩
abbrev rIntS : List V → Hp → VK → Prop := fun xs H Q => ∃ a n, xs = [.str a] ∧ PySem.intText? a = some n ∧ a.length ≤ 640 ∧ Q (.int n) H
theorem Rc_intS {a : Str} {n : Int} (e : PySem.intText? a = some n) (l : a.length ≤ 640) (h : k (TI n)) : Rc rIntS [TS a] k := fun W H vs i ar Q q => by
  obtain ⟨v, rfl, p⟩ := ar.un
  obtain rfl : v = .str a := p
  exact ⟨a, n, rfl, e, l, q _ _ W H (Fr.refl i) rfl h⟩
abbrev rStrI : List V → Hp → VK → Prop := fun xs H Q => ∃ i : Int, xs = [.int i] ∧ i.natAbs.log2 < 1920 ∧ Q (.str (toString i)) H
theorem Rc_strI {n : Int} (l : n.natAbs.log2 < 1920) (h : k (TS (toString n))) : Rc rStrI [TI n] k := fun W H vs i ar Q q => by
  obtain ⟨v, rfl, p⟩ := ar.un
  obtain rfl : v = .int n := p
  exact ⟨n, rfl, l, q _ _ W H (Fr.refl i) rfl h⟩
theorem De_slS {tl th : TO} (h : De A te Φ fun φ => ∃ z, φ = TS z ∧ z.length ≤ 100000 ∧ Do A tl Φ fun lo => Do A th Φ fun hi => k (TS (cutS z lo hi))) : De A (tSl rSlS te tl th) Φ k := fun σ W H a Q q =>
  h σ W H a _ fun φ v W1 H1 f1 p1 ⟨z, e, hz, h2⟩ => by
    subst e
    obtain rfl : v = .str z := p1
    exact h2 σ W1 H1 (a.up f1) _ fun lo W2 H2 f2 h3 => h3 σ W2 H2 (a.up (f1.trans f2)) _ fun hi W3 H3 f3 kh => ⟨z, rfl, by show _ ≤ 2 ^ 24; omega, q _ _ W3 H3 ((f1.trans f2).trans f3) rfl kh⟩
abbrev rInSign : R2 := fun x y H Q => ∃ (c : Nat) (z : Str), x = .str ⟨#[c]⟩ ∧ y = .str z ∧ Q (.bl (decide (c ∈ z.cps.toList))) H
theorem Rr_inSign {c : Nat} {z : Str} (h : k (TB (decide (c ∈ z.cps.toList)))) : Rr rInSign (T1 c) (TS z) k := fun W H u v i p1 p2 Q q => by
  obtain rfl : u = .str ⟨#[c]⟩ := p1
  obtain rfl : v = .str z := p2
  exact ⟨c, z, rfl, rfl, q _ _ W H (Fr.refl i) rfl h⟩
abbrev rAddS : R2 := fun x y H Q => ∃ i j, x = .str i ∧ y = .str j ∧ i.length + j.length ≤ sizeLine ∧ Q (.str (i ++ j)) H
theorem Rr_addSz {x y : Str} (l : x.length + y.length ≤ 100000) (h : k (TS (x ++ y))) : Rr rAddS (TS x) (TS y) k := fun W H u v i p1 p2 Q q => by
  obtain rfl : u = .str x := p1
  obtain rfl : v = .str y := p2
  exact ⟨x, y, rfl, rfl, by show _ ≤ 2 ^ 24; omega, q _ _ W H (Fr.refl i) rfl h⟩
theorem De_all (h : Dl A ta Φ fun φs => ∃ bs : List Bool, φs = bs.map TB ∧ k (TB (bs.all id))) : De A (tCB (rAll K) (tCons ta tNil)) Φ k := fun σ W H a Q q =>
  h σ W H a _ fun φs p vs W2 H2 f st ar ⟨bs, e, kh⟩ => by
    subst e
    have := ar.vals (g := V.bl)
    subst this
    exact ⟨p, bs, rfl, .inl (.inl (st W2 H2 (Fr.refl f.inn))), q _ _ W2 H2 f rfl kh⟩
/-- xs * n, n any whole number -/
theorem Dn_repI (h : Dl A ta Φ fun φs => De A tb Φ fun ψ => ∃ n : Int, ψ = TI n ∧ n.natAbs ≤ 1000 ∧ φs.length * n.toNat ≤ 1000 ∧ kn (CL ((List.replicate n.toNat φs).flatten))) : Dn A (tOp rRep ta tb) Φ kn := fun σ W H a Q q =>
  h σ W H a _ fun φs p vs W1 H1 f1 st ar h1 => h1 σ W1 H1 (a.up f1) _ fun ψ y W2 H2 f2 p2 ⟨n, e, l2, l, kh⟩ => by
    subst e
    have f := f1.trans f2
    refine ⟨p, n, vs, rfl, p2, st W2 H2 f2, by omega, by omega, sz (by rw [ar.len]; exact l), fun b nb => ?_⟩
    have e2 : ∀ m : Nat, Are W2 ((List.replicate m φs).flatten) ((List.replicate m vs).flatten) := fun m => by
      induction m with
      | zero => exact trivial
      | succ m ih => rw [List.replicate_succ, List.replicate_succ, List.flatten_cons, List.flatten_cons]; exact Are.app ih (ar.up f2.le)
    exact q (CL ((List.replicate n.toNat φs).flatten)) b (.lst ((List.replicate n.toNat vs).flatten)) W2 _ (f.own (f.was nb) (f.inn.out nb).1 (f.inn.out nb).2) (f.was nb) (f.inn.out nb).1 (f.inn.out nb).2 upd_same ⟨_, rfl, e2 _⟩ kh
/-! ### f-strings -/
def Dj (A : Wd × Hp) (ts : List TE) (acc : Str) (Φ : List Sl) (k : Str → Prop) : Prop := ∀ σ W H, At A W H Φ σ → ∀ Q : Str → Hp → Prop, (∀ y W2 H2, Fr W H W2 H2 → k y → Q y H2) → tJs ts acc σ H Q
theorem Dj_nil {acc : Str} {k : Str → Prop} (h : k acc) : Dj A [] acc Φ k := fun σ W H a Q q => q acc W H (Fr.refl a.inn) h
theorem Dj_cons {acc : Str} {ts : List TE} {k : Str → Prop} (h : De A te Φ fun φ => ∃ y : Str, φ = TS y ∧ (acc ++ y).length ≤ 100000 ∧ Dj A ts (acc ++ y) Φ k) : Dj A (te :: ts) acc Φ k := fun σ W H a Q q =>
  h σ W H a _ fun φ v W1 H1 f1 p1 ⟨y, e, l, h2⟩ => by
    subst e
    exact ⟨y, p1, by show _ ≤ 2 ^ 24; omega, h2 σ W1 H1 (a.up f1) _ fun z W2 H2 f2 kz => q z W2 H2 (f1.trans f2) kz⟩
theorem De_js {ts : List TE} (h : Dj A ts Str.empty Φ fun y => k (TS y)) : De A (fun σ H Q => tJs ts Str.empty σ H fun out H1 => Q (.str out) H1) Φ k := fun σ W H a Q q => h σ W H a _ fun y W2 H2 f2 kz => q _ _ W2 H2 f2 rfl kz
theorem De_fmtS (h : De A te Φ fun φ => ∃ y : Str, φ = TS y ∧ y.length ≤ 100000 ∧ k (TS y)) : De A (tFmt te) Φ k := fun σ W H a Q q =>
  h σ W H a _ fun φ v W1 H1 f1 p1 ⟨y, e, l, kh⟩ => by
    subst e
    exact .inl ⟨y, p1, by show _ ≤ 2 ^ 24; omega, q _ _ W1 H1 f1 rfl kh⟩
theorem De_fmtI (h : De A te Φ fun φ => ∃ y : Int, φ = TI y ∧ y.natAbs.log2 < 1920 ∧ k (TS (toString y))) : De A (tFmt te) Φ k := fun σ W H a Q q =>
  h σ W H a _ fun φ v W1 H1 f1 p1 ⟨y, e, l, kh⟩ => by
    subst e
    exact .inr ⟨y, p1, l, q _ _ W1 H1 f1 rfl kh⟩
/-! ### [e for x in .. for y in ..] -/
def NoOw (Φ : List Sl) : Prop := ∀ (j : Nat) (θ : Th), Φ[j]? ≠ some (.ow θ)
theorem At.noOw {W W' : Wd} {H H' : Hp} {σ : L2.St} (a : At A W H Φ σ) (n : NoOw Φ) (fr : Fr A.1 A.2 W' H') (l : Le W W') : At A W' H' Φ σ := by
  refine ⟨fr, ⟨a.env.len, fun i φ h => ?_, fun i θ h => absurd h (n i θ), fun i j θ θ' b q _ _ _ => absurd q (n i θ)⟩⟩
  obtain ⟨v, s, p⟩ := a.env.im i φ h
  exact ⟨v, s, φ.up l p⟩
theorem Dn_lc2L {α β : Type} {wi wi1 : L2.TI} {g g1 : TG} {us us1 vs vs1 : List Nat} (xs : List α) (f : α → Ty) (ys : α → List β) (f1 : α → β → Ty) (h1 : α → β → Ty) (hus : ∀ i ∈ us, i ∈ vs) (hus1 : ∀ i ∈ us1, i ∈ vs1) (hl : (xs.flatMap ys).length ≤ 1000)
    (hi : Di A wi Φ fun ψs => ψs = xs.map f) (hg : ∀ x ∈ xs, Dg A g us (f x) (wipeS Φ vs) fun Φ2 => NoOw Φ2 ∧ Di A wi1 Φ2 fun ψs => ψs = (ys x).map (f1 x) ∧ ∀ y ∈ ys x, Dg A g1 us1 (f1 x y) (wipeS Φ2 vs1) fun Φ3 => De A te Φ3 fun χ => χ = h1 x y)
    (hk : kn (CL (xs.flatMap fun x => (ys x).map (h1 x)))) : Dn A (tLc2 wi g tYes wi1 g1 tYes te vs vs1) Φ kn := fun σ W H a Q q =>
  hi σ W H a _ fun J ψs W1 H1 f1' it e => by
    subst e
    intro D nD
    have nD0 := f1'.was nD
    have oD := f1'.inn.out nD
    have lens : ∀ zs : List α, (zs.flatMap fun x => (ys x).map (h1 x)).length = (zs.flatMap ys).length := fun zs => by
      induction zs with
      | nil => rfl
      | cons z zs ih => rw [List.flatMap_cons, List.flatMap_cons, List.length_append, List.length_append, List.length_map, ih]
    refine ⟨fun i m H' => m = xs.length - i ∧ i ≤ xs.length ∧ ∃ W' us', Fr W H W' H' ∧ Le W1 W' ∧ H' D = some (.lst us') ∧ W'.B D = none ∧ ¬ W'.C D ∧ Are W' ((xs.take i).flatMap fun x => (ys x).map (h1 x)) us', ⟨_, rfl, Nat.zero_le _, W1, [], f1'.own nD0 oD.1 oD.2, Le.refl _, upd_same, oD.1, oD.2, trivial⟩, ?_⟩
    rintro i m H' ⟨rfl, hi', W', us', fr, l', hD, nb, nc, ar⟩
    by_cases c : i < xs.length
    · have ex : xs[i]? = some xs[i] := List.getElem?_eq_getElem c
      obtain ⟨go, yl⟩ := it.go W' H' i (f xs[i]) l' fr.inn (by rw [List.getElem?_map, ex]; rfl)
      have tk : xs.take (i + 1) = xs.take i ++ [xs[i]] := by rw [List.take_add_one, ex]; rfl
      have big : ((xs.take i).flatMap ys).length + (ys xs[i]).length ≤ 1000 := by
        have e3 : (xs.take (i + 1) ++ xs.drop (i + 1)).flatMap ys = xs.flatMap ys := by rw [List.take_append_drop]
        rw [tk, List.flatMap_append, List.flatMap_append] at e3
        have e4 := congrArg List.length e3
        rw [List.length_append, List.length_append] at e4
        have e5 : ([xs[i]].flatMap ys).length = (ys xs[i]).length := by rw [List.flatMap_cons, List.flatMap_nil, List.append_nil]
        omega
      refine .inr ⟨go, fun H2 => ∃ W' us', Fr W H W' H2 ∧ Le W1 W' ∧ H2 D = some (.lst us') ∧ W'.B D = none ∧ ¬ W'.C D ∧ Are W' ((xs.take (i + 1)).flatMap fun x => (ys x).map (h1 x)) us', fun H2 ⟨W', us', z⟩ => ⟨xs.length - (i + 1), by omega, rfl, c, W', us', z⟩, fun x H2 y => ?_⟩
      obtain ⟨W2, f2, tx⟩ := yl x H2 y
      have a2 := (a.up (fr.trans f2)).wipe vs
      refine hg xs[i] (List.getElem_mem c) _ W2 H2 x a2 tx _ fun Φ3 σ3 W3 H3 f3 a3 ag ⟨no, k3⟩ => ?_
      refine ⟨(wipe_agree ag hus).trans wipe_wipe, ?_⟩
      simp only [tYes, ↓reduceIte]
      refine k3 σ3 W3 H3 a3 _ fun J1 ψs1 W4 H4 f4 it1 ⟨e1, hs1⟩ => ?_
      subst e1
      have f24 := f2.trans (f3.trans f4)
      obtain ⟨hD4, nb4, nc4⟩ := f24.mine hD nb nc
      refine ⟨fun j m H' => m = (ys xs[i]).length - j ∧ j ≤ (ys xs[i]).length ∧ ∃ W' us', Fr W H W' H' ∧ Le W4 W' ∧ H' D = some (.lst us') ∧ W'.B D = none ∧ ¬ W'.C D ∧ Are W' (((xs.take i).flatMap fun x => (ys x).map (h1 x)) ++ ((ys xs[i]).take j).map (h1 xs[i])) us', ⟨_, rfl, Nat.zero_le _, W4, us', fr.trans f24, Le.refl _, hD4, nb4, nc4, by rw [List.take_zero, List.map_nil, List.append_nil]; exact ar.up f24.le⟩, ?_⟩
      rintro j k' H5 ⟨rfl, hj, W5, us5, fr5, l5, hD5, nb5, nc5, ar5⟩
      by_cases c1 : j < (ys xs[i]).length
      · have ey : (ys xs[i])[j]? = some (ys xs[i])[j] := List.getElem?_eq_getElem c1
        obtain ⟨go1, yl1⟩ := it1.go W5 H5 j (f1 xs[i] (ys xs[i])[j]) l5 fr5.inn (by rw [List.getElem?_map, ey]; rfl)
        refine .inr ⟨go1, fun H' => ∃ W' us', Fr W H W' H' ∧ Le W4 W' ∧ H' D = some (.lst us') ∧ W'.B D = none ∧ ¬ W'.C D ∧ Are W' (((xs.take i).flatMap fun x => (ys x).map (h1 x)) ++ ((ys xs[i]).take (j + 1)).map (h1 xs[i])) us', fun H' ⟨W', us', z⟩ => ⟨(ys xs[i]).length - (j + 1), by omega, rfl, c1, W', us', z⟩, fun y H6 yy => ?_⟩
        obtain ⟨W6, f6, ty⟩ := yl1 y H6 yy
        have fr6 := fr5.trans f6
        have a6 : At A W6 H6 Φ3 σ3 := a3.noOw no (a.fr.trans fr6) ((f4.le.trans l5).trans f6.le)
        refine hs1 _ (List.getElem_mem c1) _ W6 H6 y (a6.wipe vs1) ty _ fun Φ7 σ7 W7 H7 f7 a7 ag7 k7 => ?_
        refine ⟨(wipe_agree ag7 hus1).trans wipe_wipe, ?_⟩
        simp only [tYes, ↓reduceIte]
        refine k7 σ7 W7 H7 a7 _ fun χ v W8 H8 f8 p8 e8 => ?_
        subst e8
        have f58 := f6.trans (f7.trans f8)
        obtain ⟨hD8, nb8, nc8⟩ := f58.mine hD5 nb5 nc5
        have ln := ar5.len
        rw [List.length_append, lens, List.length_map, List.length_take] at ln
        refine ⟨us5, hD8, Nat.lt_of_lt_of_le (show us5.length < 1000 by omega) (sz (Nat.le_refl 1000)), W8, us5 ++ [v], (fr5.trans f58).own nD0 nb8 nc8, l5.trans f58.le, upd_same, nb8, nc8, ?_⟩
        rw [List.take_add_one, ey, List.map_append, ← List.append_assoc]
        exact Are.app (Are.one p8) (ar5.up f58.le)
      · have e : j = (ys xs[i]).length := by omega
        subst e
        refine .inl ⟨it1.stop W5 H5 _ l5 fr5.inn (by rw [List.length_map]; exact Nat.le_refl _), W5, us5, fr5, (l'.trans f24.le).trans l5, hD5, nb5, nc5, ?_⟩
        rw [tk, List.flatMap_append, List.flatMap_cons, List.flatMap_nil, List.append_nil]
        rw [List.take_length] at ar5
        exact ar5
    · have e : i = xs.length := by omega
      subst e
      rw [List.take_length] at ar
      exact .inl ⟨it.stop W' H' _ l' fr.inn (by rw [List.length_map]; exact Nat.le_refl _), q (CL (xs.flatMap fun x => (ys x).map (h1 x))) D (.lst us') W' H' fr nD0 nb nc hD ⟨us', rfl, ar⟩ hk⟩
end
end Wl
set_option Elab.async false
set_option linter.all false
set_option maxRecDepth 100000
set_option maxHeartbeats 4000000
/-! Ku: own * and str, staticmethods, defs with *rest, xs[i] -= e. -/
namespace ClX
open PySem PySem.Spec PyProof.Rows L2
/-- C.m is a staticmethod: its record at p, its def at g -/
structure SMet (K : PySem.W.Frag) (C : Addr) (mc : Value) (m : Str) (p g : Addr) : Prop where
  at_ : PySem.W.findCls K (.ref C) mc m = some (.get (.builtin "staticmethod.__get__") (.ref p) .none (.ref C))
  rc : ∃ rest, PySem.W.recIn K p "staticmethod" = some (.ref g :: rest)
  kp : PySem.W.keepIn K (.ref g) = true
def tSMeth (C : Addr) (sp : Sp) (E : XK) (ta : TE) (t : TA) : TE := fun σ H Q => ta σ H fun x H1 => x = .ref C ∧ t σ H1 fun vs H2 => sp vs H2 Q E
section
variable {X : Cx} {CX : CXT} {k : Nat} {C p g : Addr} {mc : Value} {sp : Sp} {E : XK} {o e : Expr} {es : List Expr} {f m : Str} {pos apos : Pos} {ta : TE} {t : TA} {pl : Sem Bool}
theorem pe_smeth (he : PE X o ta) (r : CRead X.K C mc) (c : SMet X.K C mc m p g) (F : FnR X.prog X.w X.K X.mg X.base CX k g sp) (hr : Room k X.A) (hx : Passes CX X E) (ha : PA X (e :: es) t)
    (hst : starEach (e :: es) X.env = (false, eval e X.env) :: starEach es X.env := by rfl) (hpl : (backTo pos (starEach es X.env)).any (·.1) = false := by rfl)
    (ht : eval (.Call (.Attribute o m apos) (e :: es) [] pos) X.env = (do
      let ov ← eval o X.env
      standAt apos.atName
      let (f, first) ← holding [ov] (getMethod ov m pl)
      callWith pos f first (backTo pos (starEach (e :: es) X.env)) (backToKw pos (keywordEach [] X.env))) := by rfl) :
    PE X (.Call (.Attribute o m apos) (e :: es) [] pos) (tSMeth C sp E ta t) := by
  refine ⟨fun pins s σ H Q I h => ?_⟩
  refine PySem.W.methodCall_KW (pl := pl) (thn (he.run pins s σ H _ I h) fun u s1 ⟨x, H1, I1, rx, ex, q⟩ => ?_) ht
  subst ex
  obtain rfl : u = Value.ref C := rx
  obtain ⟨rest, hp⟩ := c.rc
  refine PySem.W.method_cls I1.kIn r.ga (PySem.W.cls_bind I1.kIn r.rd c.at_ (wpAny_call (PySem.W.sm_get (s := { s1 with toks := s1.toks + 1 }) I1.kIn hp (PySem.W.handed_on rfl ?_))))
  have I2 : Inv X pins σ H1 { s1 with toks := s1.toks + 1 } := I1.tok _
  refine PySem.W.callWith_K (h₀ := X.base) I2.ok.mod.kin c.kp (thn (ha.run pos pins _ σ _ _ I2 q) fun us s3 ⟨vs, H2, I3, rv, q2⟩ => ?_) hst hpl
  exact ⟨I3.kIn, wpAny_call (run_fnR F hr hx I3 rv q2)⟩
end
end ClX
namespace L2
open PySem PySem.Spec PyProof.Rows
/-- xs[i], 0 ≤ i, by values -/
def rGetL (K : PySem.W.Frag) : R2 := fun x y H Q => ∃ p xs i v, x = .ref p ∧ y = .int i ∧ SqL K H p xs ∧ 0 ≤ i ∧ atI xs i = some v ∧ Q v H
theorem get_list {X : Cx} : PGet X (rGetL X.K) := by
  intro pins s σ H x y v u Q I rx ry h
  obtain ⟨p, xs, i, z, rfl, rfl, hq, h0, he, q⟩ := h
  cases rx
  obtain ⟨t, rfl⟩ := ry
  obtain ⟨its, r, pl, hz⟩ := I.list hq
  obtain ⟨j, h1, h2, h3, h4, h5⟩ := atI_get he
  obtain ⟨w, ew, rw'⟩ := r.get h2
  have hl := r.length
  have hn := line63
  have hj : i.toNat = j := by
    rw [seqIndex_of h0 h5] at h1
    exact Option.some.inj h1
  exact PySem.wpAny_getItem_list pl.isList h0 (by omega) (by rw [hj]; simpa using ew) ⟨z, H, I, rw', q⟩
end L2
namespace Wl
open PySem PySem.Spec PyProof.Rows L2
section
variable {A : Wd × Hp} {K : PySem.W.Frag} {Φ : List Sl} {O : Out} {k : Ty → Prop} {kx : Addr → List (Str × Ty) → Prop} {ta tb tc te : TE} {tr : TA} {C : Addr} {S : PX} {E : XK}
theorem De_ownT (hE : Xs A kx E) (h : De A ta Φ fun φ => De A tb Φ fun ψ => ∃ ts n, φ = TJ C ts ∧ ψ = TI n ∧ S [TJ C ts, TI n] k kx) : De A (tOp (OwnB.rOwnT C (spX S) E) ta tb) Φ k := fun σ W H a Q q =>
  h σ W H a _ fun φ x W1 H1 f1 p1 h1 => h1 σ W1 H1 (a.up f1) _ fun ψ y W2 H2 f2 p2 ⟨ts, n, e1, e2, s⟩ => by
    subst e1 e2
    obtain rfl : y = .int n := p2
    have p1' := (TJ C ts).up f2.le p1
    obtain ⟨b, dx, fs, rfl, hb, fl⟩ := id p1'
    have a2 := a.up (f1.trans f2)
    exact ⟨b, n, dx, fs, rfl, rfl, f2.inn.b _ _ hb, [TJ C ts, TI n], k, kx, W2, f2.inn, ⟨p1', rfl, trivial⟩, s, fun φ v W3 H3 f3 p3 k3 => q φ v W3 H3 ((f1.trans f2).trans f3) p3 k3, fun C' ts' d fs' W3 H3 f3 hb3 fl3 kx3 => hE C' ts' d fs' W3 H3 (a2.fr.trans f3) hb3 fl3 kx3⟩
theorem De_ownR (hE : Xs A kx E) (h : De A ta Φ fun φ => De A tb Φ fun ψ => ∃ ts n, ψ = TJ C ts ∧ φ = TI n ∧ S [TJ C ts, TI n] k kx) : De A (tOp (OwnB.rOwnR C (spX S) E) ta tb) Φ k := fun σ W H a Q q =>
  h σ W H a _ fun φ x W1 H1 f1 p1 h1 => h1 σ W1 H1 (a.up f1) _ fun ψ y W2 H2 f2 p2 ⟨ts, n, e1, e2, s⟩ => by
    subst e1 e2
    obtain rfl : x = .int n := p1
    obtain ⟨b, dx, fs, rfl, hb, fl⟩ := id p2
    have a2 := a.up (f1.trans f2)
    exact ⟨b, n, dx, fs, rfl, rfl, f2.inn.b _ _ hb, [TJ C ts, TI n], k, kx, W2, f2.inn, ⟨p2, rfl, trivial⟩, s, fun φ v W3 H3 f3 p3 k3 => q φ v W3 H3 ((f1.trans f2).trans f3) p3 k3, fun C' ts' d fs' W3 H3 f3 hb3 fl3 kx3 => hE C' ts' d fs' W3 H3 (a2.fr.trans f3) hb3 fl3 kx3⟩
theorem De_own2 (hE : Xs A kx E) (h : De A ta Φ fun φ => De A tb Φ fun ψ => ∃ ts us, φ = TJ C ts ∧ ψ = TJ C us ∧ S [TJ C ts, TJ C us] k kx) : De A (tOp (OwnB.rOwn2 C (spX S) E) ta tb) Φ k := fun σ W H a Q q =>
  h σ W H a _ fun φ x W1 H1 f1 p1 h1 => h1 σ W1 H1 (a.up f1) _ fun ψ y W2 H2 f2 p2 ⟨ts, us, e1, e2, s⟩ => by
    subst e1 e2
    have p1' := (TJ C ts).up f2.le p1
    obtain ⟨b, dx, fs, rfl, hb, fl⟩ := id p1'
    obtain ⟨c, dy, gs, rfl, hc, gl⟩ := id p2
    have a2 := a.up (f1.trans f2)
    exact ⟨b, c, dx, dy, fs, gs, rfl, rfl, f2.inn.b _ _ hb, f2.inn.b _ _ hc, [TJ C ts, TJ C us], k, kx, W2, f2.inn, ⟨p1', p2, trivial⟩, s, fun φ v W3 H3 f3 p3 k3 => q φ v W3 H3 ((f1.trans f2).trans f3) p3 k3, fun C' ts' d fs' W3 H3 f3 hb3 fl3 kx3 => hE C' ts' d fs' W3 H3 (a2.fr.trans f3) hb3 fl3 kx3⟩
abbrev rStrO (C : Addr) (sp : Sp) (E : XK) : List V → Hp → VK → Prop := fun xs H Q => ∃ a dx fs, xs = [.ref a] ∧ H a = some (.ins C dx fs) ∧ sp [.ref a] H (fun v H' => ∃ y : Str, v = .str y ∧ Q (.str y) H') E
theorem Rc_strO {ts : List (Str × Ty)} (h : S [TJ C ts] (fun φ => ∃ y, φ = TS y ∧ k (TS y)) fun _ _ => False) : Rc (rStrO C (spX S) E) [TJ C ts] k := fun W H vs i ar Q q => by
  obtain ⟨v, rfl, p⟩ := ar.un
  obtain ⟨b, dx, fs, rfl, hb, fl⟩ := id p
  exact ⟨b, dx, fs, rfl, i.b _ _ hb, _, _, _, W, i, ar, h, fun φ v W3 H3 f3 p3 ⟨y, e, k3⟩ => by subst e; exact ⟨y, p3, q _ _ W3 H3 f3 rfl k3⟩, fun _ _ _ _ _ _ _ _ _ z => z.elim⟩
theorem De_smeth {S : PX} (hE : Xs A kx E) (h : De A ta Φ fun φ => φ = TV (.ref C) ∧ Da A tr Φ fun φs => S φs k kx) : De A (ClX.tSMeth C (spX S) E ta tr) Φ k := fun σ W H a Q q =>
  h σ W H a _ fun φ x W1 H1 f1 p1 ⟨e, h2⟩ => by
    subst e
    refine ⟨p1, h2 σ W1 H1 (a.up f1) _ fun φs vs W2 H2 f2 p2 s => ?_⟩
    have a2 := a.up (f1.trans f2)
    exact ⟨φs, k, kx, W2, f2.inn, p2, s, fun φ v W3 H3 f3 p3 k3 => q φ v W3 H3 ((f1.trans f2).trans f3) p3 k3, fun C' ts' d fs' W3 H3 f3 hb3 fl3 kx3 => hE C' ts' d fs' W3 H3 (a2.fr.trans f3) hb3 fl3 kx3⟩
/-- f(..), f with *rest -/
theorem De_callR {S : PX} (hE : Xs A kx E) (h : Da A tr Φ fun φs => S φs k kx) : De A (fun σ H Q => tr σ H fun vs H1 => spX S vs H1 Q E) Φ k := fun σ W H a Q q =>
  h σ W H a _ fun φs vs W1 H1 f1 p1 h1 => ⟨φs, k, kx, W1, f1.inn, p1, h1, fun φ v W2 H2 f2 p2 k2 => q φ v W2 H2 (f1.trans f2) p2 k2, fun C' ts' d fs' W3 H3 f3 hb3 fl3 kx3 => hE C' ts' d fs' W3 H3 ((a.fr.trans f1).trans f3) hb3 fl3 kx3⟩
/-- a promise of a def with one parameter and *rest, told by the promise of its body, where the rest is a tuple -/
theorem star_of {S0 S : PX} (n : Nat) (hS : ∀ φs k kx, S φs k kx → ∃ φ χs, φs = φ :: χs ∧ χs.length ≤ 1000 ∧ S0 [φ, TU χs] k kx) {vs : List V} {H : Hp} {Q : VK} {E : XK} (h : spX S vs H Q E) :
    ∃ ws rest, vs = ws ++ rest ∧ ws.length = 1 ∧ rest.length ≤ sizeLine ∧ ∀ p, H p = none → spX S0 (ws ++ [V.ref p]) (upd H p (.tup rest)) Q E := by
  obtain ⟨φs, k, kx, W, i, ar, s, q, x⟩ := h
  obtain ⟨φ, χs, rfl, l, s0⟩ := hS φs k kx s
  obtain ⟨v, us, rfl, p1, p2⟩ := ar.uncons
  refine ⟨[v], us, rfl, rfl, sz (by rw [p2.len]; exact l), fun p n => ?_⟩
  have f := Fr.new (o := .tup us) i n
  exact ⟨[φ, TU χs], k, kx, W.add p (.tup us), f.inn, ⟨φ.up f.le p1, ⟨p, us, rfl, Wd.add_at, p2.up f.le⟩, trivial⟩, s0, fun φ v W2 H2 f2 p2 k2 => q φ v W2 H2 (f.trans f2) p2 k2, fun C' ts' d fs' W3 H3 f3 hb3 fl3 kx3 => x C' ts' d fs' W3 H3 (f.trans f3) hb3 fl3 kx3⟩
/-- row[j] op= e, the row one's own -/
theorem Dt_augS {i : Nat} {φs : List Ty} {g : Int → Int → Int} {ti : TE} (e : Φ[i]? = some (.ow (CL φs))) (h : De A ti Φ fun ψ => ∃ j x, ψ = TI ((j : Nat) : Int) ∧ φs[j]? = some (TI x) ∧ De A te Φ fun χ => ∃ y, χ = TI y ∧ O.nx (Φ.set i (.ow (CL (φs.set j (TI (g x y))))))) : Dt A (tAugS (tVar i) ti te (rGetL K) (ipI g) rSetL) Φ O := fun G D σ W H s a gl => by
  obtain ⟨p, o, s1, nb, nc, n0, ho, us, rfl, ar⟩ := a.env.ow i _ e
  refine ⟨.ref p, s1, h σ W H a _ fun ψ z W2 H2 f2 p2 ⟨j, x, ez, ej, h2⟩ => ?_⟩
  subst ez
  obtain rfl : z = .int (j : Int) := p2
  obtain ⟨p', o2, s2, nb2, nc2, n02, ho2, us2, rfl, ar2⟩ := (a.up f2).env.ow i _ e
  rw [s1] at s2
  cases s2
  obtain ⟨v, ev, tv⟩ := ar2.get ej
  obtain rfl : v = .int x := tv
  have hj : j < us2.length := (List.getElem?_eq_some_iff.mp ev).1
  refine ⟨p, us2, (j : Int), .int x, rfl, rfl, .inl (.inl ho2), by omega, atI_nat ev, h2 σ W2 H2 (a.up f2) _ fun χ y W3 H3 f3 p3 ⟨yi, ey, kn⟩ => ?_⟩
  subst ey
  obtain rfl : y = .int yi := p3
  have f := f2.trans f3
  obtain ⟨p', o3, s3, nb3, nc3, n03, ho3, us3, rfl, ar3⟩ := (a.up f).env.ow i _ e
  rw [s1] at s3
  cases s3
  have hj3 : j < us3.length := by rw [ar3.len, ← ar2.len]; exact hj
  refine ⟨x, yi, rfl, rfl, p, us3, (j : Int), j, rfl, rfl, ho3, ?_, s.nx _ _ W3 _ kn ((a.up f).mod e s1 nb3 nc3 n03 ⟨_, rfl, Are.set rfl j ar3⟩) (gl.trans f.le)⟩
  unfold ixN
  rw [if_pos (by omega), if_pos (by omega)]
  rfl
end
end Wl
namespace L2N
open PySem PySem.Spec PyProof.Rows L2
theorem cxUp {P : Program} {w : World} : StX.CXUp (L2N.CX P w) := by
  rintro outer s H s2 H2 E e s' un kp ho ⟨a, B, H', cls, d, ea, fl, hok, ub, na, os, ag, he⟩
  refine ⟨a, B, H', cls, d, ea, fl, hok, ⟨fun b o q n hb => ub.keep b o (kp b o q) (un.free b o q n (by simp)) hb, fun b o q hb => ub.slot b o (kp b o q) hb, fun b o q n => ub.free b o (kp b o q) (un.free b o q n (by simp)),
    fun b o q hb => ub.there b o (kp b o q) hb, fun b xs q => ub.tups b xs (un.tups b xs q), fun b o xs q => ub.frzs b o xs (un.frzs b o xs q), fun b ps q => ?_⟩, na, os.trans ho, ag, he⟩
  obtain ⟨m1, e1⟩ := un.tbls b ps q
  obtain ⟨m2, e2⟩ := ub.tbls b _ e1
  exact ⟨m1 ++ m2, by rw [e2, Array.append_assoc]⟩
/-- def f(first, *others) -/
theorem fn_rest {P : Program} {w : World} {K : PySem.W.Frag} {mg : Str → Option Value} {base : Heap} {x qual : Str} {params : Arguments} {body : List Stmt} {scope : Scope} {f : Addr} {fd : FuncData} {N : List Str} {p1 pv : Str} {k : Nat} {S0 S : Wl.PX} (F : FunD K x qual params body scope [] [] f fd) (Sc : FnScope N [p1, pv] scope)
    (h0 : ∀ (kV doc pm : Value) (an : Option Addr) (cdv ct a : Value), bindArgs (PySem.W.fnOf x qual params body scope .none kV doc pm an cdv ct) ⟨[a], []⟩ = (newTuple [] >>= fun t => pure [(p1, a), (pv, t)]))
    (h1 : ∀ (kV doc pm : Value) (an : Option Addr) (cdv ct a r : Value) (rs : List Value), bindArgs (PySem.W.fnOf x qual params body scope .none kV doc pm an cdv ct) ⟨a :: r :: rs, []⟩ = (newTuple (r :: rs) >>= fun t => pure [(p1, a), (pv, t)]))
    (hS : ∀ φs k kx, S φs k kx → ∃ φ χs, φs = φ :: χs ∧ χs.length ≤ 1000 ∧ S0 [φ, Wl.TU χs] k kx)
    (hbody : ∀ (cdv : Value) (A : Around) (outer : List Env) (s : Shared) (H : Hp) (vs : List V) (Q : VK) (E : XK), Room k (A.deeper (envOfC qual scope s.heap.objs.size f cdv)) → Wl.spX S0 vs H Q E →
      ∃ t, PSs (cxOf (L2N.CX P w) P w K mg base N qual scope f cdv A outer s H E) body t ∧ t { nx := fun _ H' => Q .non H', rt := Q } (start N vs) H) : FnR P w K mg base (L2N.CX P w) (k + 1) f (Wl.spX S) := by
  obtain ⟨oc, od, dV, kV, doc, pm, an, cdv, ct, osl, rfl, lk, hcd, hD, hK⟩ := F.ex
  rcases hD with ⟨_, rfl⟩ | ⟨e, _⟩
  · refine (StX.fn_star (ps := [p1]) (pv := pv) (sp := Wl.spX S0) lk hcd Sc cxUp (fun us rest hl => ?_) fun A outer s H vs Q E hr hs => hbody cdv A outer s H vs Q E hr hs).imp fun vs H Q E h => ?_
    · exact StX.bind_star1 (B := fun l => bindArgs (PySem.W.fnOf x qual params body scope .none kV doc pm an cdv ct) ⟨l, []⟩) (h0 kV doc pm an cdv ct) (h1 kV doc pm an cdv ct) us rest hl
    · exact Wl.star_of 1 hS h
  · exact absurd rfl e
end L2N
set_option Elab.async false
set_option linter.all false
set_option maxRecDepth 100000
set_option maxHeartbeats 4000000
namespace K08
open PySem PySem.Spec PyProof.Rows L2 Wl Kx
/-- .. an error with a text -/
structure ErS (P : Program) (w : World) (K : PySem.W.Frag) (mg : Str → Option Value) (base : Heap) (x fld : Str) (C fI : Addr) (fd : FuncData) (ps : List Str) : Prop where
  T : OexC K C
  iC : PySem.W.findIn K (.ref C) "__init__" = some (some (.ref fI))
  tI : PySem.W.typeIn K (.ref fI) = some (.type "function")
  F : FnOk P w K mg base (L2N.CX P w) 1 fI fd ps (ErrX.spIS C fld)
  b : Binds K fd ps []
  g : mg x = some (.ref C)
/-- a method -/
structure Mn (P : Program) (w : World) (K : PySem.W.Frag) (mg : Str → Option Value) (base : Heap) (k : Nat) (C : Addr) (x : Str) (ps : List Str) (sp : Sp) (f : Addr) (fd : FuncData) : Prop where
  cl : Cls K C
  m : Meth K C x f
  ok : FnOk P w K mg base (L2N.CX P w) k f fd ps sp
  b : Binds K fd ps []
/-- the errors that may come -/
inductive Er8 where
  | siz
  | len
  | cnt
  | unb
  | mos
  | dep
  | sup
  | unr
deriving DecidableEq
def Er8.nm : Er8 → Str
  | .siz => "BadSize"
  | .len => "BadLength"
  | .cnt => "BadCount"
  | .unb => "Unbalanced"
  | .mos => "TooMany"
  | .dep => "NoDepot"
  | .sup => "NoSupply"
  | .unr => "Unread"
def Er8.fl : Er8 → List V → List (Str × Ty)
  | .siz, xs => [("size", TV (xs.getD 0 .non))]
  | .len, xs => [("length", TV (xs.getD 0 .non))]
  | .cnt, xs => [("number", TV (xs.getD 0 .non))]
  | .unb, xs => [("demand", TV (xs.getD 1 .non)), ("supply", TV (xs.getD 0 .non))]
  | .mos, xs => [("most", TV (xs.getD 0 .non))]
  | .dep, xs => [("depot", TV (xs.getD 0 .non))]
  | .sup, xs => [("depot", TV (xs.getD 0 .non))]
  | .unr, xs => [("text", TV (xs.getD 0 .non))]
def Er8.ok : Er8 → List V → Prop
  | .unb, xs => ∃ a b : Int, xs = [.int a, .int b]
  | .unr, xs => ∃ t : Str, xs = [.str t]
  | _, xs => ∃ a : Int, xs = [.int a]
/-- what the law asks: a refusal, or totals -/
inductive Due where
  | ref (e : Er8) (xs : List V)
  | mad (a b : List Int)
abbrev refT (nm : Str) (xs : List V) : Ty := TU [TS "refused", TS nm, TL (xs.map TV)]
abbrev madT (a b : List Int) : Ty := TU [TS "made", TL (TIs a), TL (TIs b)]
def Due.T : Due → Ty
  | .ref e xs => refT e.nm xs
  | .mad a b => madT a b
def Due.ok : Due → Prop
  | .ref e xs => e.ok xs
  | .mad a b => a.length ≤ 8 ∧ b.length ≤ 8
end K08
set_option Elab.async false
set_option linter.all false
set_option maxRecDepth 100000
set_option maxHeartbeats 4000000
namespace K08
open PySem PySem.Spec PyProof.Rows L2 Wl Kx
/-- x is refused by the error of the class at C, its field named fl -/
abbrev refuse (kx : Addr → List (Str × Ty) → Prop) (C : Addr) (fl : Str) (x : Int) : Prop := kx C [(fl, TI x)]
/-- the first number out of bounds -/
def bad (a b : Int) (ns : List Int) : Option Int := ns.find? fun n => !(decide (a ≤ n) && decide (n ≤ b))
theorem bad_take {a b : Int} {ns : List Int} {j : Nat} (h : bad a b (ns.take j) = none) {n : Int} (e : ns[j]? = some n) (g : a ≤ n ∧ n ≤ b) : bad a b (ns.take (j + 1)) = none := by
  unfold bad at *
  rw [List.take_add_one, e, List.find?_append, h]
  simp [g.1, g.2]
theorem bad_at {a b : Int} {ns : List Int} {j : Nat} (h : bad a b (ns.take j) = none) {n : Int} (e : ns[j]? = some n) (g : ¬ (a ≤ n ∧ n ≤ b)) : bad a b ns = some n := by
  unfold bad at *
  have e2 : ns = ns.take j ++ n :: ns.drop (j + 1) := by
    obtain ⟨hl, rfl⟩ := List.getElem?_eq_some_iff.mp e
    rw [← List.drop_eq_getElem_cons hl, List.take_append_drop]
  rw [e2, List.find?_append, h]
  have : (!(decide (a ≤ n) && decide (n ≤ b))) = true := by
    rw [Bool.not_eq_true', Bool.and_eq_false_iff, decide_eq_false_iff_not, decide_eq_false_iff_not]
    omega
  rw [List.find?_cons, this]
  rfl
theorem bad_none {a b : Int} {ns : List Int} : bad a b ns = none ↔ ∀ n ∈ ns, a ≤ n ∧ n ≤ b := by
  unfold bad
  rw [List.find?_eq_none]
  refine forall_congr' fun n => forall_congr' fun _ => ?_
  simp
theorem bad_some {a b : Int} {ns : List Int} {x : Int} (h : bad a b ns = some x) : ¬ (a ≤ x ∧ x ≤ b) := by
  have := List.find?_some h
  simp at this
  omega
theorem tis {ns : List Int} {j : Nat} {ψ : Ty} (h : (ns.map TI)[j]? = some ψ) : ∃ n, ns[j]? = some n ∧ ψ = TI n := by
  rw [List.getElem?_map] at h
  cases e : ns[j]? with
  | none => rw [e] at h; cases h
  | some n => rw [e] at h; cases h; exact ⟨n, rfl, rfl⟩
section
variable {P : Program} {w : World} {K : PySem.W.Frag} {mg : Str → Option Value} {base : Heap} {f : Addr} {fd : FuncData}
/-! ### checks -/
abbrev check_size_N : List Str := ["size", "least", "most"]
theorem check_size_sc : FnScope ["size", "least", "most"] ["size", "least", "most"] (defScope check_size_st) := ⟨rfl, rfl, rfl, by decide +kernel, rfl, by decide +kernel, by decide +kernel⟩
def S_size (C : Addr) : PX := fun φs k kx => ∃ x a b : Int, φs = [TI x, TI a, TI b] ∧ (a ≤ x ∧ x ≤ b → k TN) ∧ (¬ (a ≤ x ∧ x ≤ b) → refuse kx C "size" x)
theorem ok_size {C fI : Addr} {fdI : FuncData} {psI : List Str} (F : FnS K "check_size" check_size_st f fd) (D_BadSize : Er P w K mg base "BadSize" "size" C fI fdI psI) : FnOk P w K mg base (L2N.CX P w) 3 f fd ["size", "least", "most"] (spX (S_size C)) := by
  refine F.ok check_size_sc (fun vs H Q E h => lenX (n := 3) (fun φs k kx ⟨x, a, b, e, _⟩ => by rw [e]; rfl) h) (fun cdv A outer s H vs Q E hr h => ⟨_, (pss_one (ps_if (pt_not (pt_chain op_le op_le (pv 1) (pv 0) (pv 2))) (pss_one (L2N.ps_raise rfl (L2N.takes_of rfl rfl rfl rfl) (ErrX.pmk_err1 D_BadSize.T D_BadSize.iC D_BadSize.tI D_BadSize.F (hr.mono (by first | decide | omega)) D_BadSize.b ErrX.passN rfl D_BadSize.g (pa_cons (pv 0) pa_nil)))) pss_nil)), enterX (n := 3) rfl h fun A φs k kx hS hE => ?_⟩)
  obtain ⟨x, a, b, rfl, h1, h2⟩ := hS
  (repeat' (first  | ((with_reducible apply De_var); exact rfl) | with_reducible refine De_c ?_ | with_reducible refine De_op ?_ | with_reducible refine Rr_I0 ?_ | ((with_reducible refine Rr_eq ?_ ?_); exact rfl) | ((with_reducible refine Rr_ne ?_ ?_); exact rfl) | with_reducible refine De_chain ?_ | with_reducible refine ⟨_, rfl, ?_⟩ | with_reducible refine Dc_test ?_ | with_reducible refine Dc_b ?_ | with_reducible refine Dc_not ?_ | with_reducible refine Dc_and ?_ | with_reducible refine Dc_or ?_ | with_reducible refine De_and ?_ | with_reducible refine De_or ?_ | with_reducible refine De_not ?_ | with_reducible refine Dt_if ?_ | with_reducible refine Da_cons ?_ | with_reducible refine Da_nil ?_ | with_reducible refine Dt_seq ?_ | with_reducible refine Dt_next ?_ | with_reducible refine De_un ?_ | with_reducible refine br_dec (fun _ => ?_) (fun _ => ?_) | with_reducible refine br_ndec (fun _ => ?_) (fun _ => ?_) | with_reducible refine br_t ?_ | with_reducible refine br_f ?_ | with_reducible refine br_nt ?_ | with_reducible refine br_nf ?_ | ((with_reducible refine De_len ?_); first | ((with_reducible apply Dl_im); exact rfl) | ((with_reducible apply Dl_ow); exact rfl)) | ((with_reducible refine De_sumL ?_); first | ((with_reducible apply Dl_im); exact rfl) | ((with_reducible apply Dl_ow); exact rfl)) | with_reducible refine ⟨rfl, ?_⟩ | with_reducible refine De_cb ?_ | with_reducible refine Rc_min2 ?_ | with_reducible refine Rc_max2 ?_ | with_reducible refine Rc_abs ?_ | with_reducible refine Rc_int1 ?_ | with_reducible refine Rc_intB ?_ | with_reducible refine Rc_lenU ?_ | refine Rc_lenQ ?_ | with_reducible refine Rr_IC ?_ ?_ | with_reducible refine Rr_isN ?_ | with_reducible refine Rr_isN_no (nn_tup _) ?_ | with_reducible refine Rr_notN ?_ | with_reducible refine Rr_notN_no (nn_tup _) ?_ | with_reducible refine Dt_ret ?_ | with_reducible refine Dt_set ?_ | with_reducible refine Dt_drop ?_ | with_reducible refine De_call ?_ | with_reducible refine De_callN ?_ | with_reducible refine De_ifExp ?_ | with_reducible refine De_prop ?_ | with_reducible refine De_fld ?_ | with_reducible refine ⟨⟨_, rfl⟩, ?_⟩ | ((with_reducible refine De_tupL ?_); first | ((with_reducible apply Dl_im); exact rfl) | ((with_reducible apply Dl_ow); exact rfl))))
  all_goals first
    | exact h1 (by omega)
    | exact Dt_raise1 hE (by (repeat' (first  | ((with_reducible apply De_var); exact rfl) | with_reducible refine De_c ?_ | with_reducible refine De_op ?_ | with_reducible refine Rr_I0 ?_ | ((with_reducible refine Rr_eq ?_ ?_); exact rfl) | ((with_reducible refine Rr_ne ?_ ?_); exact rfl) | with_reducible refine De_chain ?_ | with_reducible refine ⟨_, rfl, ?_⟩ | with_reducible refine Dc_test ?_ | with_reducible refine Dc_b ?_ | with_reducible refine Dc_not ?_ | with_reducible refine Dc_and ?_ | with_reducible refine Dc_or ?_ | with_reducible refine De_and ?_ | with_reducible refine De_or ?_ | with_reducible refine De_not ?_ | with_reducible refine Dt_if ?_ | with_reducible refine Da_cons ?_ | with_reducible refine Da_nil ?_ | with_reducible refine Dt_seq ?_ | with_reducible refine Dt_next ?_ | with_reducible refine De_un ?_ | with_reducible refine br_dec (fun _ => ?_) (fun _ => ?_) | with_reducible refine br_ndec (fun _ => ?_) (fun _ => ?_) | with_reducible refine br_t ?_ | with_reducible refine br_f ?_ | with_reducible refine br_nt ?_ | with_reducible refine br_nf ?_ | ((with_reducible refine De_len ?_); first | ((with_reducible apply Dl_im); exact rfl) | ((with_reducible apply Dl_ow); exact rfl)) | ((with_reducible refine De_sumL ?_); first | ((with_reducible apply Dl_im); exact rfl) | ((with_reducible apply Dl_ow); exact rfl)) | with_reducible refine ⟨rfl, ?_⟩ | with_reducible refine De_cb ?_ | with_reducible refine Rc_min2 ?_ | with_reducible refine Rc_max2 ?_ | with_reducible refine Rc_abs ?_ | with_reducible refine Rc_int1 ?_ | with_reducible refine Rc_intB ?_ | with_reducible refine Rc_lenU ?_ | refine Rc_lenQ ?_ | with_reducible refine Rr_IC ?_ ?_ | with_reducible refine Rr_isN ?_ | with_reducible refine Rr_isN_no (nn_tup _) ?_ | with_reducible refine Rr_notN ?_ | with_reducible refine Rr_notN_no (nn_tup _) ?_ | with_reducible refine Dt_ret ?_ | with_reducible refine Dt_set ?_ | with_reducible refine Dt_drop ?_ | with_reducible refine De_call ?_ | with_reducible refine De_callN ?_ | with_reducible refine De_ifExp ?_ | with_reducible refine De_prop ?_ | with_reducible refine De_fld ?_ | with_reducible refine ⟨⟨_, rfl⟩, ?_⟩ | ((with_reducible refine De_tupL ?_); first | ((with_reducible apply Dl_im); exact rfl) | ((with_reducible apply Dl_ow); exact rfl)))); exact h2 (by omega))
abbrev check_count_N : List Str := ["number", "least", "most"]
theorem check_count_sc : FnScope ["number", "least", "most"] ["number", "least", "most"] (defScope check_count_st) := ⟨rfl, rfl, rfl, by decide +kernel, rfl, by decide +kernel, by decide +kernel⟩
def S_count (C : Addr) : PX := fun φs k kx => ∃ x a b : Int, φs = [TI x, TI a, TI b] ∧ (a ≤ x ∧ x ≤ b → k TN) ∧ (¬ (a ≤ x ∧ x ≤ b) → refuse kx C "number" x)
theorem ok_count {C fI : Addr} {fdI : FuncData} {psI : List Str} (F : FnS K "check_count" check_count_st f fd) (D_BadCount : Er P w K mg base "BadCount" "number" C fI fdI psI) : FnOk P w K mg base (L2N.CX P w) 3 f fd ["number", "least", "most"] (spX (S_count C)) := by
  refine F.ok check_count_sc (fun vs H Q E h => lenX (n := 3) (fun φs k kx ⟨x, a, b, e, _⟩ => by rw [e]; rfl) h) (fun cdv A outer s H vs Q E hr h => ⟨_, (pss_one (ps_if (pt_not (pt_chain op_le op_le (pv 1) (pv 0) (pv 2))) (pss_one (L2N.ps_raise rfl (L2N.takes_of rfl rfl rfl rfl) (ErrX.pmk_err1 D_BadCount.T D_BadCount.iC D_BadCount.tI D_BadCount.F (hr.mono (by first | decide | omega)) D_BadCount.b ErrX.passN rfl D_BadCount.g (pa_cons (pv 0) pa_nil)))) pss_nil)), enterX (n := 3) rfl h fun A φs k kx hS hE => ?_⟩)
  obtain ⟨x, a, b, rfl, h1, h2⟩ := hS
  (repeat' (first  | ((with_reducible apply De_var); exact rfl) | with_reducible refine De_c ?_ | with_reducible refine De_op ?_ | with_reducible refine Rr_I0 ?_ | ((with_reducible refine Rr_eq ?_ ?_); exact rfl) | ((with_reducible refine Rr_ne ?_ ?_); exact rfl) | with_reducible refine De_chain ?_ | with_reducible refine ⟨_, rfl, ?_⟩ | with_reducible refine Dc_test ?_ | with_reducible refine Dc_b ?_ | with_reducible refine Dc_not ?_ | with_reducible refine Dc_and ?_ | with_reducible refine Dc_or ?_ | with_reducible refine De_and ?_ | with_reducible refine De_or ?_ | with_reducible refine De_not ?_ | with_reducible refine Dt_if ?_ | with_reducible refine Da_cons ?_ | with_reducible refine Da_nil ?_ | with_reducible refine Dt_seq ?_ | with_reducible refine Dt_next ?_ | with_reducible refine De_un ?_ | with_reducible refine br_dec (fun _ => ?_) (fun _ => ?_) | with_reducible refine br_ndec (fun _ => ?_) (fun _ => ?_) | with_reducible refine br_t ?_ | with_reducible refine br_f ?_ | with_reducible refine br_nt ?_ | with_reducible refine br_nf ?_ | ((with_reducible refine De_len ?_); first | ((with_reducible apply Dl_im); exact rfl) | ((with_reducible apply Dl_ow); exact rfl)) | ((with_reducible refine De_sumL ?_); first | ((with_reducible apply Dl_im); exact rfl) | ((with_reducible apply Dl_ow); exact rfl)) | with_reducible refine ⟨rfl, ?_⟩ | with_reducible refine De_cb ?_ | with_reducible refine Rc_min2 ?_ | with_reducible refine Rc_max2 ?_ | with_reducible refine Rc_abs ?_ | with_reducible refine Rc_int1 ?_ | with_reducible refine Rc_intB ?_ | with_reducible refine Rc_lenU ?_ | refine Rc_lenQ ?_ | with_reducible refine Rr_IC ?_ ?_ | with_reducible refine Rr_isN ?_ | with_reducible refine Rr_isN_no (nn_tup _) ?_ | with_reducible refine Rr_notN ?_ | with_reducible refine Rr_notN_no (nn_tup _) ?_ | with_reducible refine Dt_ret ?_ | with_reducible refine Dt_set ?_ | with_reducible refine Dt_drop ?_ | with_reducible refine De_call ?_ | with_reducible refine De_callN ?_ | with_reducible refine De_ifExp ?_ | with_reducible refine De_prop ?_ | with_reducible refine De_fld ?_ | with_reducible refine ⟨⟨_, rfl⟩, ?_⟩ | ((with_reducible refine De_tupL ?_); first | ((with_reducible apply Dl_im); exact rfl) | ((with_reducible apply Dl_ow); exact rfl))))
  all_goals first
    | exact h1 (by omega)
    | exact Dt_raise1 hE (by (repeat' (first  | ((with_reducible apply De_var); exact rfl) | with_reducible refine De_c ?_ | with_reducible refine De_op ?_ | with_reducible refine Rr_I0 ?_ | ((with_reducible refine Rr_eq ?_ ?_); exact rfl) | ((with_reducible refine Rr_ne ?_ ?_); exact rfl) | with_reducible refine De_chain ?_ | with_reducible refine ⟨_, rfl, ?_⟩ | with_reducible refine Dc_test ?_ | with_reducible refine Dc_b ?_ | with_reducible refine Dc_not ?_ | with_reducible refine Dc_and ?_ | with_reducible refine Dc_or ?_ | with_reducible refine De_and ?_ | with_reducible refine De_or ?_ | with_reducible refine De_not ?_ | with_reducible refine Dt_if ?_ | with_reducible refine Da_cons ?_ | with_reducible refine Da_nil ?_ | with_reducible refine Dt_seq ?_ | with_reducible refine Dt_next ?_ | with_reducible refine De_un ?_ | with_reducible refine br_dec (fun _ => ?_) (fun _ => ?_) | with_reducible refine br_ndec (fun _ => ?_) (fun _ => ?_) | with_reducible refine br_t ?_ | with_reducible refine br_f ?_ | with_reducible refine br_nt ?_ | with_reducible refine br_nf ?_ | ((with_reducible refine De_len ?_); first | ((with_reducible apply Dl_im); exact rfl) | ((with_reducible apply Dl_ow); exact rfl)) | ((with_reducible refine De_sumL ?_); first | ((with_reducible apply Dl_im); exact rfl) | ((with_reducible apply Dl_ow); exact rfl)) | with_reducible refine ⟨rfl, ?_⟩ | with_reducible refine De_cb ?_ | with_reducible refine Rc_min2 ?_ | with_reducible refine Rc_max2 ?_ | with_reducible refine Rc_abs ?_ | with_reducible refine Rc_int1 ?_ | with_reducible refine Rc_intB ?_ | with_reducible refine Rc_lenU ?_ | refine Rc_lenQ ?_ | with_reducible refine Rr_IC ?_ ?_ | with_reducible refine Rr_isN ?_ | with_reducible refine Rr_isN_no (nn_tup _) ?_ | with_reducible refine Rr_notN ?_ | with_reducible refine Rr_notN_no (nn_tup _) ?_ | with_reducible refine Dt_ret ?_ | with_reducible refine Dt_set ?_ | with_reducible refine Dt_drop ?_ | with_reducible refine De_call ?_ | with_reducible refine De_callN ?_ | with_reducible refine De_ifExp ?_ | with_reducible refine De_prop ?_ | with_reducible refine De_fld ?_ | with_reducible refine ⟨⟨_, rfl⟩, ?_⟩ | ((with_reducible refine De_tupL ?_); first | ((with_reducible apply Dl_im); exact rfl) | ((with_reducible apply Dl_ow); exact rfl)))); exact h2 (by omega))
abbrev check_most_N : List Str := ["number", "most"]
theorem check_most_sc : FnScope ["number", "most"] ["number", "most"] (defScope check_most_st) := ⟨rfl, rfl, rfl, by decide +kernel, rfl, by decide +kernel, by decide +kernel⟩
def S_most (C : Addr) : PX := fun φs k kx => ∃ x b : Int, φs = [TI x, TI b] ∧ (x ≤ b → k TN) ∧ (b < x → refuse kx C "most" b)
theorem ok_most {C fI : Addr} {fdI : FuncData} {psI : List Str} (F : FnS K "check_most" check_most_st f fd) (D_TooMany : Er P w K mg base "TooMany" "most" C fI fdI psI) : FnOk P w K mg base (L2N.CX P w) 3 f fd ["number", "most"] (spX (S_most C)) := by
  refine F.ok check_most_sc (fun vs H Q E h => lenX (n := 2) (fun φs k kx ⟨x, b, e, _⟩ => by rw [e]; rfl) h) (fun cdv A outer s H vs Q E hr h => ⟨_, (pss_one (ps_if (pt_cmpR op_gt (pv 0) (pv 1) (nomark _)) (pss_one (L2N.ps_raise rfl (L2N.takes_of rfl rfl rfl rfl) (ErrX.pmk_err1 D_TooMany.T D_TooMany.iC D_TooMany.tI D_TooMany.F (hr.mono (by first | decide | omega)) D_TooMany.b ErrX.passN rfl D_TooMany.g (pa_cons (pv 1) pa_nil)))) pss_nil)), enterX (n := 2) rfl h fun A φs k kx hS hE => ?_⟩)
  obtain ⟨x, b, rfl, h1, h2⟩ := hS
  (repeat' (first  | ((with_reducible apply De_var); exact rfl) | with_reducible refine De_c ?_ | with_reducible refine De_op ?_ | with_reducible refine Rr_I0 ?_ | ((with_reducible refine Rr_eq ?_ ?_); exact rfl) | ((with_reducible refine Rr_ne ?_ ?_); exact rfl) | with_reducible refine De_chain ?_ | with_reducible refine ⟨_, rfl, ?_⟩ | with_reducible refine Dc_test ?_ | with_reducible refine Dc_b ?_ | with_reducible refine Dc_not ?_ | with_reducible refine Dc_and ?_ | with_reducible refine Dc_or ?_ | with_reducible refine De_and ?_ | with_reducible refine De_or ?_ | with_reducible refine De_not ?_ | with_reducible refine Dt_if ?_ | with_reducible refine Da_cons ?_ | with_reducible refine Da_nil ?_ | with_reducible refine Dt_seq ?_ | with_reducible refine Dt_next ?_ | with_reducible refine De_un ?_ | with_reducible refine br_dec (fun _ => ?_) (fun _ => ?_) | with_reducible refine br_ndec (fun _ => ?_) (fun _ => ?_) | with_reducible refine br_t ?_ | with_reducible refine br_f ?_ | with_reducible refine br_nt ?_ | with_reducible refine br_nf ?_ | ((with_reducible refine De_len ?_); first | ((with_reducible apply Dl_im); exact rfl) | ((with_reducible apply Dl_ow); exact rfl)) | ((with_reducible refine De_sumL ?_); first | ((with_reducible apply Dl_im); exact rfl) | ((with_reducible apply Dl_ow); exact rfl)) | with_reducible refine ⟨rfl, ?_⟩ | with_reducible refine De_cb ?_ | with_reducible refine Rc_min2 ?_ | with_reducible refine Rc_max2 ?_ | with_reducible refine Rc_abs ?_ | with_reducible refine Rc_int1 ?_ | with_reducible refine Rc_intB ?_ | with_reducible refine Rc_lenU ?_ | refine Rc_lenQ ?_ | with_reducible refine Rr_IC ?_ ?_ | with_reducible refine Rr_isN ?_ | with_reducible refine Rr_isN_no (nn_tup _) ?_ | with_reducible refine Rr_notN ?_ | with_reducible refine Rr_notN_no (nn_tup _) ?_ | with_reducible refine Dt_ret ?_ | with_reducible refine Dt_set ?_ | with_reducible refine Dt_drop ?_ | with_reducible refine De_call ?_ | with_reducible refine De_callN ?_ | with_reducible refine De_ifExp ?_ | with_reducible refine De_prop ?_ | with_reducible refine De_fld ?_ | with_reducible refine ⟨⟨_, rfl⟩, ?_⟩ | ((with_reducible refine De_tupL ?_); first | ((with_reducible apply Dl_im); exact rfl) | ((with_reducible apply Dl_ow); exact rfl))))
  all_goals first
    | exact h1 (by omega)
    | exact Dt_raise1 hE (by (repeat' (first  | ((with_reducible apply De_var); exact rfl) | with_reducible refine De_c ?_ | with_reducible refine De_op ?_ | with_reducible refine Rr_I0 ?_ | ((with_reducible refine Rr_eq ?_ ?_); exact rfl) | ((with_reducible refine Rr_ne ?_ ?_); exact rfl) | with_reducible refine De_chain ?_ | with_reducible refine ⟨_, rfl, ?_⟩ | with_reducible refine Dc_test ?_ | with_reducible refine Dc_b ?_ | with_reducible refine Dc_not ?_ | with_reducible refine Dc_and ?_ | with_reducible refine Dc_or ?_ | with_reducible refine De_and ?_ | with_reducible refine De_or ?_ | with_reducible refine De_not ?_ | with_reducible refine Dt_if ?_ | with_reducible refine Da_cons ?_ | with_reducible refine Da_nil ?_ | with_reducible refine Dt_seq ?_ | with_reducible refine Dt_next ?_ | with_reducible refine De_un ?_ | with_reducible refine br_dec (fun _ => ?_) (fun _ => ?_) | with_reducible refine br_ndec (fun _ => ?_) (fun _ => ?_) | with_reducible refine br_t ?_ | with_reducible refine br_f ?_ | with_reducible refine br_nt ?_ | with_reducible refine br_nf ?_ | ((with_reducible refine De_len ?_); first | ((with_reducible apply Dl_im); exact rfl) | ((with_reducible apply Dl_ow); exact rfl)) | ((with_reducible refine De_sumL ?_); first | ((with_reducible apply Dl_im); exact rfl) | ((with_reducible apply Dl_ow); exact rfl)) | with_reducible refine ⟨rfl, ?_⟩ | with_reducible refine De_cb ?_ | with_reducible refine Rc_min2 ?_ | with_reducible refine Rc_max2 ?_ | with_reducible refine Rc_abs ?_ | with_reducible refine Rc_int1 ?_ | with_reducible refine Rc_intB ?_ | with_reducible refine Rc_lenU ?_ | refine Rc_lenQ ?_ | with_reducible refine Rr_IC ?_ ?_ | with_reducible refine Rr_isN ?_ | with_reducible refine Rr_isN_no (nn_tup _) ?_ | with_reducible refine Rr_notN ?_ | with_reducible refine Rr_notN_no (nn_tup _) ?_ | with_reducible refine Dt_ret ?_ | with_reducible refine Dt_set ?_ | with_reducible refine Dt_drop ?_ | with_reducible refine De_call ?_ | with_reducible refine De_callN ?_ | with_reducible refine De_ifExp ?_ | with_reducible refine De_prop ?_ | with_reducible refine De_fld ?_ | with_reducible refine ⟨⟨_, rfl⟩, ?_⟩ | ((with_reducible refine De_tupL ?_); first | ((with_reducible apply Dl_im); exact rfl) | ((with_reducible apply Dl_ow); exact rfl)))); exact h2 (by omega))
abbrev check_depot_N : List Str := ["depot", "depots"]
theorem check_depot_sc : FnScope ["depot", "depots"] ["depot", "depots"] (defScope check_depot_st) := ⟨rfl, rfl, rfl, by decide +kernel, rfl, by decide +kernel, by decide +kernel⟩
def S_depot (C : Addr) : PX := fun φs k kx => ∃ x b : Int, φs = [TI x, TI b] ∧ (0 ≤ x ∧ x < b → k TN) ∧ (¬ (0 ≤ x ∧ x < b) → refuse kx C "depot" x)
theorem ok_depot {C fI : Addr} {fdI : FuncData} {psI : List Str} (F : FnS K "check_depot" check_depot_st f fd) (D_NoDepot : Er P w K mg base "NoDepot" "depot" C fI fdI psI) : FnOk P w K mg base (L2N.CX P w) 3 f fd ["depot", "depots"] (spX (S_depot C)) := by
  refine F.ok check_depot_sc (fun vs H Q E h => lenX (n := 2) (fun φs k kx ⟨x, b, e, _⟩ => by rw [e]; rfl) h) (fun cdv A outer s H vs Q E hr h => ⟨_, (pss_one (ps_if (pt_not (pt_chain op_le op_lt pe_int (pv 0) (pv 1))) (pss_one (L2N.ps_raise rfl (L2N.takes_of rfl rfl rfl rfl) (ErrX.pmk_err1 D_NoDepot.T D_NoDepot.iC D_NoDepot.tI D_NoDepot.F (hr.mono (by first | decide | omega)) D_NoDepot.b ErrX.passN rfl D_NoDepot.g (pa_cons (pv 0) pa_nil)))) pss_nil)), enterX (n := 2) rfl h fun A φs k kx hS hE => ?_⟩)
  obtain ⟨x, b, rfl, h1, h2⟩ := hS
  (repeat' (first  | ((with_reducible apply De_var); exact rfl) | with_reducible refine De_c ?_ | with_reducible refine De_op ?_ | with_reducible refine Rr_I0 ?_ | ((with_reducible refine Rr_eq ?_ ?_); exact rfl) | ((with_reducible refine Rr_ne ?_ ?_); exact rfl) | with_reducible refine De_chain ?_ | with_reducible refine ⟨_, rfl, ?_⟩ | with_reducible refine Dc_test ?_ | with_reducible refine Dc_b ?_ | with_reducible refine Dc_not ?_ | with_reducible refine Dc_and ?_ | with_reducible refine Dc_or ?_ | with_reducible refine De_and ?_ | with_reducible refine De_or ?_ | with_reducible refine De_not ?_ | with_reducible refine Dt_if ?_ | with_reducible refine Da_cons ?_ | with_reducible refine Da_nil ?_ | with_reducible refine Dt_seq ?_ | with_reducible refine Dt_next ?_ | with_reducible refine De_un ?_ | with_reducible refine br_dec (fun _ => ?_) (fun _ => ?_) | with_reducible refine br_ndec (fun _ => ?_) (fun _ => ?_) | with_reducible refine br_t ?_ | with_reducible refine br_f ?_ | with_reducible refine br_nt ?_ | with_reducible refine br_nf ?_ | ((with_reducible refine De_len ?_); first | ((with_reducible apply Dl_im); exact rfl) | ((with_reducible apply Dl_ow); exact rfl)) | ((with_reducible refine De_sumL ?_); first | ((with_reducible apply Dl_im); exact rfl) | ((with_reducible apply Dl_ow); exact rfl)) | with_reducible refine ⟨rfl, ?_⟩ | with_reducible refine De_cb ?_ | with_reducible refine Rc_min2 ?_ | with_reducible refine Rc_max2 ?_ | with_reducible refine Rc_abs ?_ | with_reducible refine Rc_int1 ?_ | with_reducible refine Rc_intB ?_ | with_reducible refine Rc_lenU ?_ | refine Rc_lenQ ?_ | with_reducible refine Rr_IC ?_ ?_ | with_reducible refine Rr_isN ?_ | with_reducible refine Rr_isN_no (nn_tup _) ?_ | with_reducible refine Rr_notN ?_ | with_reducible refine Rr_notN_no (nn_tup _) ?_ | with_reducible refine Dt_ret ?_ | with_reducible refine Dt_set ?_ | with_reducible refine Dt_drop ?_ | with_reducible refine De_call ?_ | with_reducible refine De_callN ?_ | with_reducible refine De_ifExp ?_ | with_reducible refine De_prop ?_ | with_reducible refine De_fld ?_ | with_reducible refine ⟨⟨_, rfl⟩, ?_⟩ | ((with_reducible refine De_tupL ?_); first | ((with_reducible apply Dl_im); exact rfl) | ((with_reducible apply Dl_ow); exact rfl))))
  all_goals first
    | exact h1 (by omega)
    | exact Dt_raise1 hE (by (repeat' (first  | ((with_reducible apply De_var); exact rfl) | with_reducible refine De_c ?_ | with_reducible refine De_op ?_ | with_reducible refine Rr_I0 ?_ | ((with_reducible refine Rr_eq ?_ ?_); exact rfl) | ((with_reducible refine Rr_ne ?_ ?_); exact rfl) | with_reducible refine De_chain ?_ | with_reducible refine ⟨_, rfl, ?_⟩ | with_reducible refine Dc_test ?_ | with_reducible refine Dc_b ?_ | with_reducible refine Dc_not ?_ | with_reducible refine Dc_and ?_ | with_reducible refine Dc_or ?_ | with_reducible refine De_and ?_ | with_reducible refine De_or ?_ | with_reducible refine De_not ?_ | with_reducible refine Dt_if ?_ | with_reducible refine Da_cons ?_ | with_reducible refine Da_nil ?_ | with_reducible refine Dt_seq ?_ | with_reducible refine Dt_next ?_ | with_reducible refine De_un ?_ | with_reducible refine br_dec (fun _ => ?_) (fun _ => ?_) | with_reducible refine br_ndec (fun _ => ?_) (fun _ => ?_) | with_reducible refine br_t ?_ | with_reducible refine br_f ?_ | with_reducible refine br_nt ?_ | with_reducible refine br_nf ?_ | ((with_reducible refine De_len ?_); first | ((with_reducible apply Dl_im); exact rfl) | ((with_reducible apply Dl_ow); exact rfl)) | ((with_reducible refine De_sumL ?_); first | ((with_reducible apply Dl_im); exact rfl) | ((with_reducible apply Dl_ow); exact rfl)) | with_reducible refine ⟨rfl, ?_⟩ | with_reducible refine De_cb ?_ | with_reducible refine Rc_min2 ?_ | with_reducible refine Rc_max2 ?_ | with_reducible refine Rc_abs ?_ | with_reducible refine Rc_int1 ?_ | with_reducible refine Rc_intB ?_ | with_reducible refine Rc_lenU ?_ | refine Rc_lenQ ?_ | with_reducible refine Rr_IC ?_ ?_ | with_reducible refine Rr_isN ?_ | with_reducible refine Rr_isN_no (nn_tup _) ?_ | with_reducible refine Rr_notN ?_ | with_reducible refine Rr_notN_no (nn_tup _) ?_ | with_reducible refine Dt_ret ?_ | with_reducible refine Dt_set ?_ | with_reducible refine Dt_drop ?_ | with_reducible refine De_call ?_ | with_reducible refine De_callN ?_ | with_reducible refine De_ifExp ?_ | with_reducible refine De_prop ?_ | with_reducible refine De_fld ?_ | with_reducible refine ⟨⟨_, rfl⟩, ?_⟩ | ((with_reducible refine De_tupL ?_); first | ((with_reducible apply Dl_im); exact rfl) | ((with_reducible apply Dl_ow); exact rfl)))); exact h2 (by omega))
abbrev check_balanced_N : List Str := ["supply", "demand"]
theorem check_balanced_sc : FnScope ["supply", "demand"] ["supply", "demand"] (defScope check_balanced_st) := ⟨rfl, rfl, rfl, by decide +kernel, rfl, by decide +kernel, by decide +kernel⟩
def S_balanced (C : Addr) : PX := fun φs k kx => ∃ x y : Int, φs = [TI x, TI y] ∧ (x = y → k TN) ∧ (x ≠ y → kx C [("demand", TI y), ("supply", TI x)])
theorem ok_balanced {C fI : Addr} {fdI : FuncData} {psI : List Str} (F : FnS K "_check_balanced" check_balanced_st f fd) (D_Unbalanced : Er2 P w K mg base "Unbalanced" "supply" "demand" C fI fdI psI) : FnOk P w K mg base (L2N.CX P w) 3 f fd ["supply", "demand"] (spX (S_balanced C)) := by
  refine F.ok check_balanced_sc (fun vs H Q E h => lenX (n := 2) (fun φs k kx ⟨x, b, e, _⟩ => by rw [e]; rfl) h) (fun cdv A outer s H vs Q E hr h => ⟨_, (pss_one (ps_if (pt_cmpR op_ne (pv 0) (pv 1) (nomark _)) (pss_one (L2N.ps_raise rfl (L2N.takes_of rfl rfl rfl rfl) (ErrX.pmk_err2 D_Unbalanced.T D_Unbalanced.iC D_Unbalanced.tI D_Unbalanced.F (hr.mono (by first | decide | omega)) D_Unbalanced.b ErrX.passN rfl D_Unbalanced.g (pa_cons (pv 0) (pa_cons (pv 1) pa_nil))))) pss_nil)), enterX (n := 2) rfl h fun A φs k kx hS hE => ?_⟩)
  obtain ⟨x, y, rfl, h1, h2⟩ := hS
  (repeat' (first  | ((with_reducible apply De_var); exact rfl) | with_reducible refine De_c ?_ | with_reducible refine De_op ?_ | with_reducible refine Rr_I0 ?_ | ((with_reducible refine Rr_eq ?_ ?_); exact rfl) | ((with_reducible refine Rr_ne ?_ ?_); exact rfl) | with_reducible refine De_chain ?_ | with_reducible refine ⟨_, rfl, ?_⟩ | with_reducible refine Dc_test ?_ | with_reducible refine Dc_b ?_ | with_reducible refine Dc_not ?_ | with_reducible refine Dc_and ?_ | with_reducible refine Dc_or ?_ | with_reducible refine De_and ?_ | with_reducible refine De_or ?_ | with_reducible refine De_not ?_ | with_reducible refine Dt_if ?_ | with_reducible refine Da_cons ?_ | with_reducible refine Da_nil ?_ | with_reducible refine Dt_seq ?_ | with_reducible refine Dt_next ?_ | with_reducible refine De_un ?_ | with_reducible refine br_dec (fun _ => ?_) (fun _ => ?_) | with_reducible refine br_ndec (fun _ => ?_) (fun _ => ?_) | with_reducible refine br_t ?_ | with_reducible refine br_f ?_ | with_reducible refine br_nt ?_ | with_reducible refine br_nf ?_ | ((with_reducible refine De_len ?_); first | ((with_reducible apply Dl_im); exact rfl) | ((with_reducible apply Dl_ow); exact rfl)) | ((with_reducible refine De_sumL ?_); first | ((with_reducible apply Dl_im); exact rfl) | ((with_reducible apply Dl_ow); exact rfl)) | with_reducible refine ⟨rfl, ?_⟩ | with_reducible refine De_cb ?_ | with_reducible refine Rc_min2 ?_ | with_reducible refine Rc_max2 ?_ | with_reducible refine Rc_abs ?_ | with_reducible refine Rc_int1 ?_ | with_reducible refine Rc_intB ?_ | with_reducible refine Rc_lenU ?_ | refine Rc_lenQ ?_ | with_reducible refine Rr_IC ?_ ?_ | with_reducible refine Rr_isN ?_ | with_reducible refine Rr_isN_no (nn_tup _) ?_ | with_reducible refine Rr_notN ?_ | with_reducible refine Rr_notN_no (nn_tup _) ?_ | with_reducible refine Dt_ret ?_ | with_reducible refine Dt_set ?_ | with_reducible refine Dt_drop ?_ | with_reducible refine De_call ?_ | with_reducible refine De_callN ?_ | with_reducible refine De_ifExp ?_ | with_reducible refine De_prop ?_ | with_reducible refine De_fld ?_ | with_reducible refine ⟨⟨_, rfl⟩, ?_⟩ | ((with_reducible refine De_tupL ?_); first | ((with_reducible apply Dl_im); exact rfl) | ((with_reducible apply Dl_ow); exact rfl))))
  all_goals first
    | exact h1 (by first | omega | (simp only [V.int.injEq, Decidable.not_not] at *; omega))
    | exact Dt_raise2 hE (by (repeat' (first  | ((with_reducible apply De_var); exact rfl) | with_reducible refine De_c ?_ | with_reducible refine De_op ?_ | with_reducible refine Rr_I0 ?_ | ((with_reducible refine Rr_eq ?_ ?_); exact rfl) | ((with_reducible refine Rr_ne ?_ ?_); exact rfl) | with_reducible refine De_chain ?_ | with_reducible refine ⟨_, rfl, ?_⟩ | with_reducible refine Dc_test ?_ | with_reducible refine Dc_b ?_ | with_reducible refine Dc_not ?_ | with_reducible refine Dc_and ?_ | with_reducible refine Dc_or ?_ | with_reducible refine De_and ?_ | with_reducible refine De_or ?_ | with_reducible refine De_not ?_ | with_reducible refine Dt_if ?_ | with_reducible refine Da_cons ?_ | with_reducible refine Da_nil ?_ | with_reducible refine Dt_seq ?_ | with_reducible refine Dt_next ?_ | with_reducible refine De_un ?_ | with_reducible refine br_dec (fun _ => ?_) (fun _ => ?_) | with_reducible refine br_ndec (fun _ => ?_) (fun _ => ?_) | with_reducible refine br_t ?_ | with_reducible refine br_f ?_ | with_reducible refine br_nt ?_ | with_reducible refine br_nf ?_ | ((with_reducible refine De_len ?_); first | ((with_reducible apply Dl_im); exact rfl) | ((with_reducible apply Dl_ow); exact rfl)) | ((with_reducible refine De_sumL ?_); first | ((with_reducible apply Dl_im); exact rfl) | ((with_reducible apply Dl_ow); exact rfl)) | with_reducible refine ⟨rfl, ?_⟩ | with_reducible refine De_cb ?_ | with_reducible refine Rc_min2 ?_ | with_reducible refine Rc_max2 ?_ | with_reducible refine Rc_abs ?_ | with_reducible refine Rc_int1 ?_ | with_reducible refine Rc_intB ?_ | with_reducible refine Rc_lenU ?_ | refine Rc_lenQ ?_ | with_reducible refine Rr_IC ?_ ?_ | with_reducible refine Rr_isN ?_ | with_reducible refine Rr_isN_no (nn_tup _) ?_ | with_reducible refine Rr_notN ?_ | with_reducible refine Rr_notN_no (nn_tup _) ?_ | with_reducible refine Dt_ret ?_ | with_reducible refine Dt_set ?_ | with_reducible refine Dt_drop ?_ | with_reducible refine De_call ?_ | with_reducible refine De_callN ?_ | with_reducible refine De_ifExp ?_ | with_reducible refine De_prop ?_ | with_reducible refine De_fld ?_ | with_reducible refine ⟨⟨_, rfl⟩, ?_⟩ | ((with_reducible refine De_tupL ?_); first | ((with_reducible apply Dl_im); exact rfl) | ((with_reducible apply Dl_ow); exact rfl)))); exact ⟨_, _, rfl, h2 (by first | omega | (simp only [V.int.injEq, Decidable.not_not] at *; omega))⟩)
abbrev check_length_N : List Str := ["row", "length"]
theorem check_length_sc : FnScope ["row", "length"] ["row", "length"] (defScope check_length_st) := ⟨rfl, rfl, rfl, by decide +kernel, rfl, by decide +kernel, by decide +kernel⟩
def S_length (C : Addr) : PX := fun φs k kx => ∃ (χs : List Ty) (b : Int), (φs = [TL χs, TI b] ∨ φs = [TU χs, TI b]) ∧ ((χs.length : Int) = b → k TN) ∧ ((χs.length : Int) ≠ b → refuse kx C "length" χs.length)
theorem ok_length {C fI : Addr} {fdI : FuncData} {psI : List Str} (F : FnS K "check_length" check_length_st f fd) (m_len : mg "len" = none) (D_BadLength : Er P w K mg base "BadLength" "length" C fI fdI psI) : FnOk P w K mg base (L2N.CX P w) 3 f fd ["row", "length"] (spX (S_length C)) := by
  refine F.ok check_length_sc (fun vs H Q E h => lenX (n := 2) (fun φs k kx ⟨x, b, e, _⟩ => by rcases e with rfl | rfl <;> rfl) h) (fun cdv A outer s H vs Q E hr h => ⟨_, (pss_one (ps_if (pt_cmpR op_ne (pe_callB call_len_seq (by rfl) m_len (by decide +kernel) (pa_cons (pv 0) pa_nil)) (pv 1) (nomark _)) (pss_one (L2N.ps_raise rfl (L2N.takes_of rfl rfl rfl rfl) (ErrX.pmk_err1 D_BadLength.T D_BadLength.iC D_BadLength.tI D_BadLength.F (hr.mono (by first | decide | omega)) D_BadLength.b ErrX.passN rfl D_BadLength.g (pa_cons (pe_callB call_len_seq (by rfl) m_len (by decide +kernel) (pa_cons (pv 0) pa_nil)) pa_nil)))) pss_nil)), enterX (n := 2) rfl h fun A φs k kx hS hE => ?_⟩)
  obtain ⟨χs, b, e, h1, h2⟩ := hS
  rcases e with rfl | rfl
  · (repeat' (first  | ((with_reducible apply De_var); exact rfl) | with_reducible refine De_c ?_ | with_reducible refine De_op ?_ | with_reducible refine Rr_I0 ?_ | ((with_reducible refine Rr_eq ?_ ?_); exact rfl) | ((with_reducible refine Rr_ne ?_ ?_); exact rfl) | with_reducible refine De_chain ?_ | with_reducible refine ⟨_, rfl, ?_⟩ | with_reducible refine Dc_test ?_ | with_reducible refine Dc_b ?_ | with_reducible refine Dc_not ?_ | with_reducible refine Dc_and ?_ | with_reducible refine Dc_or ?_ | with_reducible refine De_and ?_ | with_reducible refine De_or ?_ | with_reducible refine De_not ?_ | with_reducible refine Dt_if ?_ | with_reducible refine Da_cons ?_ | with_reducible refine Da_nil ?_ | with_reducible refine Dt_seq ?_ | with_reducible refine Dt_next ?_ | with_reducible refine De_un ?_ | with_reducible refine br_dec (fun _ => ?_) (fun _ => ?_) | with_reducible refine br_ndec (fun _ => ?_) (fun _ => ?_) | with_reducible refine br_t ?_ | with_reducible refine br_f ?_ | with_reducible refine br_nt ?_ | with_reducible refine br_nf ?_ | ((with_reducible refine De_len ?_); first | ((with_reducible apply Dl_im); exact rfl) | ((with_reducible apply Dl_ow); exact rfl)) | ((with_reducible refine De_sumL ?_); first | ((with_reducible apply Dl_im); exact rfl) | ((with_reducible apply Dl_ow); exact rfl)) | with_reducible refine ⟨rfl, ?_⟩ | with_reducible refine De_cb ?_ | with_reducible refine Rc_min2 ?_ | with_reducible refine Rc_max2 ?_ | with_reducible refine Rc_abs ?_ | with_reducible refine Rc_int1 ?_ | with_reducible refine Rc_intB ?_ | with_reducible refine Rc_lenU ?_ | refine Rc_lenQ ?_ | with_reducible refine Rr_IC ?_ ?_ | with_reducible refine Rr_isN ?_ | with_reducible refine Rr_isN_no (nn_tup _) ?_ | with_reducible refine Rr_notN ?_ | with_reducible refine Rr_notN_no (nn_tup _) ?_ | with_reducible refine Dt_ret ?_ | with_reducible refine Dt_set ?_ | with_reducible refine Dt_drop ?_ | with_reducible refine De_call ?_ | with_reducible refine De_callN ?_ | with_reducible refine De_ifExp ?_ | with_reducible refine De_prop ?_ | with_reducible refine De_fld ?_ | with_reducible refine ⟨⟨_, rfl⟩, ?_⟩ | ((with_reducible refine De_tupL ?_); first | ((with_reducible apply Dl_im); exact rfl) | ((with_reducible apply Dl_ow); exact rfl))))
    all_goals first
      | exact h1 (by first | omega | (simp only [V.int.injEq, Decidable.not_not] at *; omega))
      | exact Dt_raise1 hE (by (repeat' (first  | ((with_reducible apply De_var); exact rfl) | with_reducible refine De_c ?_ | with_reducible refine De_op ?_ | with_reducible refine Rr_I0 ?_ | ((with_reducible refine Rr_eq ?_ ?_); exact rfl) | ((with_reducible refine Rr_ne ?_ ?_); exact rfl) | with_reducible refine De_chain ?_ | with_reducible refine ⟨_, rfl, ?_⟩ | with_reducible refine Dc_test ?_ | with_reducible refine Dc_b ?_ | with_reducible refine Dc_not ?_ | with_reducible refine Dc_and ?_ | with_reducible refine Dc_or ?_ | with_reducible refine De_and ?_ | with_reducible refine De_or ?_ | with_reducible refine De_not ?_ | with_reducible refine Dt_if ?_ | with_reducible refine Da_cons ?_ | with_reducible refine Da_nil ?_ | with_reducible refine Dt_seq ?_ | with_reducible refine Dt_next ?_ | with_reducible refine De_un ?_ | with_reducible refine br_dec (fun _ => ?_) (fun _ => ?_) | with_reducible refine br_ndec (fun _ => ?_) (fun _ => ?_) | with_reducible refine br_t ?_ | with_reducible refine br_f ?_ | with_reducible refine br_nt ?_ | with_reducible refine br_nf ?_ | ((with_reducible refine De_len ?_); first | ((with_reducible apply Dl_im); exact rfl) | ((with_reducible apply Dl_ow); exact rfl)) | ((with_reducible refine De_sumL ?_); first | ((with_reducible apply Dl_im); exact rfl) | ((with_reducible apply Dl_ow); exact rfl)) | with_reducible refine ⟨rfl, ?_⟩ | with_reducible refine De_cb ?_ | with_reducible refine Rc_min2 ?_ | with_reducible refine Rc_max2 ?_ | with_reducible refine Rc_abs ?_ | with_reducible refine Rc_int1 ?_ | with_reducible refine Rc_intB ?_ | with_reducible refine Rc_lenU ?_ | refine Rc_lenQ ?_ | with_reducible refine Rr_IC ?_ ?_ | with_reducible refine Rr_isN ?_ | with_reducible refine Rr_isN_no (nn_tup _) ?_ | with_reducible refine Rr_notN ?_ | with_reducible refine Rr_notN_no (nn_tup _) ?_ | with_reducible refine Dt_ret ?_ | with_reducible refine Dt_set ?_ | with_reducible refine Dt_drop ?_ | with_reducible refine De_call ?_ | with_reducible refine De_callN ?_ | with_reducible refine De_ifExp ?_ | with_reducible refine De_prop ?_ | with_reducible refine De_fld ?_ | with_reducible refine ⟨⟨_, rfl⟩, ?_⟩ | ((with_reducible refine De_tupL ?_); first | ((with_reducible apply Dl_im); exact rfl) | ((with_reducible apply Dl_ow); exact rfl)))); exact h2 (by first | omega | (simp only [V.int.injEq, Decidable.not_not] at *; omega)))
  · (repeat' (first  | ((with_reducible apply De_var); exact rfl) | with_reducible refine De_c ?_ | with_reducible refine De_op ?_ | with_reducible refine Rr_I0 ?_ | ((with_reducible refine Rr_eq ?_ ?_); exact rfl) | ((with_reducible refine Rr_ne ?_ ?_); exact rfl) | with_reducible refine De_chain ?_ | with_reducible refine ⟨_, rfl, ?_⟩ | with_reducible refine Dc_test ?_ | with_reducible refine Dc_b ?_ | with_reducible refine Dc_not ?_ | with_reducible refine Dc_and ?_ | with_reducible refine Dc_or ?_ | with_reducible refine De_and ?_ | with_reducible refine De_or ?_ | with_reducible refine De_not ?_ | with_reducible refine Dt_if ?_ | with_reducible refine Da_cons ?_ | with_reducible refine Da_nil ?_ | with_reducible refine Dt_seq ?_ | with_reducible refine Dt_next ?_ | with_reducible refine De_un ?_ | with_reducible refine br_dec (fun _ => ?_) (fun _ => ?_) | with_reducible refine br_ndec (fun _ => ?_) (fun _ => ?_) | with_reducible refine br_t ?_ | with_reducible refine br_f ?_ | with_reducible refine br_nt ?_ | with_reducible refine br_nf ?_ | ((with_reducible refine De_len ?_); first | ((with_reducible apply Dl_im); exact rfl) | ((with_reducible apply Dl_ow); exact rfl)) | ((with_reducible refine De_sumL ?_); first | ((with_reducible apply Dl_im); exact rfl) | ((with_reducible apply Dl_ow); exact rfl)) | with_reducible refine ⟨rfl, ?_⟩ | with_reducible refine De_cb ?_ | with_reducible refine Rc_min2 ?_ | with_reducible refine Rc_max2 ?_ | with_reducible refine Rc_abs ?_ | with_reducible refine Rc_int1 ?_ | with_reducible refine Rc_intB ?_ | with_reducible refine Rc_lenU ?_ | refine Rc_lenQ ?_ | with_reducible refine Rr_IC ?_ ?_ | with_reducible refine Rr_isN ?_ | with_reducible refine Rr_isN_no (nn_tup _) ?_ | with_reducible refine Rr_notN ?_ | with_reducible refine Rr_notN_no (nn_tup _) ?_ | with_reducible refine Dt_ret ?_ | with_reducible refine Dt_set ?_ | with_reducible refine Dt_drop ?_ | with_reducible refine De_call ?_ | with_reducible refine De_callN ?_ | with_reducible refine De_ifExp ?_ | with_reducible refine De_prop ?_ | with_reducible refine De_fld ?_ | with_reducible refine ⟨⟨_, rfl⟩, ?_⟩ | ((with_reducible refine De_tupL ?_); first | ((with_reducible apply Dl_im); exact rfl) | ((with_reducible apply Dl_ow); exact rfl))))
    all_goals first
      | exact h1 (by first | omega | (simp only [V.int.injEq, Decidable.not_not] at *; omega))
      | exact Dt_raise1 hE (by (repeat' (first  | ((with_reducible apply De_var); exact rfl) | with_reducible refine De_c ?_ | with_reducible refine De_op ?_ | with_reducible refine Rr_I0 ?_ | ((with_reducible refine Rr_eq ?_ ?_); exact rfl) | ((with_reducible refine Rr_ne ?_ ?_); exact rfl) | with_reducible refine De_chain ?_ | with_reducible refine ⟨_, rfl, ?_⟩ | with_reducible refine Dc_test ?_ | with_reducible refine Dc_b ?_ | with_reducible refine Dc_not ?_ | with_reducible refine Dc_and ?_ | with_reducible refine Dc_or ?_ | with_reducible refine De_and ?_ | with_reducible refine De_or ?_ | with_reducible refine De_not ?_ | with_reducible refine Dt_if ?_ | with_reducible refine Da_cons ?_ | with_reducible refine Da_nil ?_ | with_reducible refine Dt_seq ?_ | with_reducible refine Dt_next ?_ | with_reducible refine De_un ?_ | with_reducible refine br_dec (fun _ => ?_) (fun _ => ?_) | with_reducible refine br_ndec (fun _ => ?_) (fun _ => ?_) | with_reducible refine br_t ?_ | with_reducible refine br_f ?_ | with_reducible refine br_nt ?_ | with_reducible refine br_nf ?_ | ((with_reducible refine De_len ?_); first | ((with_reducible apply Dl_im); exact rfl) | ((with_reducible apply Dl_ow); exact rfl)) | ((with_reducible refine De_sumL ?_); first | ((with_reducible apply Dl_im); exact rfl) | ((with_reducible apply Dl_ow); exact rfl)) | with_reducible refine ⟨rfl, ?_⟩ | with_reducible refine De_cb ?_ | with_reducible refine Rc_min2 ?_ | with_reducible refine Rc_max2 ?_ | with_reducible refine Rc_abs ?_ | with_reducible refine Rc_int1 ?_ | with_reducible refine Rc_intB ?_ | with_reducible refine Rc_lenU ?_ | refine Rc_lenQ ?_ | with_reducible refine Rr_IC ?_ ?_ | with_reducible refine Rr_isN ?_ | with_reducible refine Rr_isN_no (nn_tup _) ?_ | with_reducible refine Rr_notN ?_ | with_reducible refine Rr_notN_no (nn_tup _) ?_ | with_reducible refine Dt_ret ?_ | with_reducible refine Dt_set ?_ | with_reducible refine Dt_drop ?_ | with_reducible refine De_call ?_ | with_reducible refine De_callN ?_ | with_reducible refine De_ifExp ?_ | with_reducible refine De_prop ?_ | with_reducible refine De_fld ?_ | with_reducible refine ⟨⟨_, rfl⟩, ?_⟩ | ((with_reducible refine De_tupL ?_); first | ((with_reducible apply Dl_im); exact rfl) | ((with_reducible apply Dl_ow); exact rfl)))); exact h2 (by first | omega | (simp only [V.int.injEq, Decidable.not_not] at *; omega)))
abbrev check_counts_N : List Str := ["numbers", "least", "most", "number"]
theorem check_counts_sc : FnScope ["numbers", "least", "most", "number"] ["numbers", "least", "most"] (defScope check_counts_st) := ⟨rfl, rfl, rfl, by decide +kernel, rfl, by decide +kernel, by decide +kernel⟩
def S_countsT (T : List Ty → Ty) (C : Addr) : PX := fun φs k kx => ∃ (ns : List Int) (a b : Int), φs = [T (ns.map TI), TI a, TI b] ∧ (bad a b ns = none → k TN) ∧ (∀ x, bad a b ns = some x → refuse kx C "number" x)
abbrev S_counts (C : Addr) : PX := orX (S_countsT TL C) (S_countsT TU C)
theorem ok_counts {C fC : Addr} {fdC : FuncData} (F : FnS K "check_counts" check_counts_st f fd) (D_check_count : Df P w K mg base 3 "check_count" ["number", "least", "most"] (spX (S_count C)) fC fdC) : FnOk P w K mg base (L2N.CX P w) 4 f fd ["numbers", "least", "most"] (spX (S_counts C)) := by
  have body : ∀ (T : List Ty → Ty) (A : Wd × Hp) (ns : List Int) (a b : Int) (k : Ty → Prop) (kx : Addr → List (Str × Ty) → Prop) (E : XK) (wi : L2.TI), (bad a b ns = none → k TN) → (∀ x, bad a b ns = some x → refuse kx C "number" x) → Xs A kx E → Di A wi (slots 4 [T (ns.map TI), TI a, TI b]) (fun ψs => ψs = ns.map TI) →
      Dt A (tSeq (tFor wi (gName 3) (tSeq (tDrop (tCallS (spX (S_count C)) (fun _ => E) (tCons (tVar 3) (tCons (tVar 1) (tCons (tVar 2) tNil))))) tNext)) tNext) (slots 4 [T (ns.map TI), TI a, TI b]) ⟨fun _ => k TN, k, fun _ => False, fun _ => False⟩ := fun T A ns a b k kx E wi h1 h2 hE hi => by
    refine Dt_seq (Dt_forI [3] (fun j Φ => (∃ s, Φ = [.im (T (ns.map TI)), .im (TI a), .im (TI b), s]) ∧ bad a b (ns.take j) = none) hi ⟨⟨_, rfl⟩, rfl⟩ (fun j ψ Φ e hI => ?_) fun Φ hI => Dt_next (h1 ?_))
    · obtain ⟨⟨s, rfl⟩, hb⟩ := hI
      obtain ⟨n, en, rfl⟩ := tis e
      refine Dg_name ?_
      (repeat' (first  | ((with_reducible apply De_var); exact rfl) | with_reducible refine De_c ?_ | with_reducible refine De_op ?_ | with_reducible refine Rr_I0 ?_ | ((with_reducible refine Rr_eq ?_ ?_); exact rfl) | ((with_reducible refine Rr_ne ?_ ?_); exact rfl) | with_reducible refine De_chain ?_ | with_reducible refine ⟨_, rfl, ?_⟩ | with_reducible refine Dc_test ?_ | with_reducible refine Dc_b ?_ | with_reducible refine Dc_not ?_ | with_reducible refine Dc_and ?_ | with_reducible refine Dc_or ?_ | with_reducible refine De_and ?_ | with_reducible refine De_or ?_ | with_reducible refine De_not ?_ | with_reducible refine Dt_if ?_ | with_reducible refine Da_cons ?_ | with_reducible refine Da_nil ?_ | with_reducible refine Dt_seq ?_ | with_reducible refine Dt_next ?_ | with_reducible refine De_un ?_ | with_reducible refine br_dec (fun _ => ?_) (fun _ => ?_) | with_reducible refine br_ndec (fun _ => ?_) (fun _ => ?_) | with_reducible refine br_t ?_ | with_reducible refine br_f ?_ | with_reducible refine br_nt ?_ | with_reducible refine br_nf ?_ | ((with_reducible refine De_len ?_); first | ((with_reducible apply Dl_im); exact rfl) | ((with_reducible apply Dl_ow); exact rfl)) | ((with_reducible refine De_sumL ?_); first | ((with_reducible apply Dl_im); exact rfl) | ((with_reducible apply Dl_ow); exact rfl)) | with_reducible refine ⟨rfl, ?_⟩ | with_reducible refine De_cb ?_ | with_reducible refine Rc_min2 ?_ | with_reducible refine Rc_max2 ?_ | with_reducible refine Rc_abs ?_ | with_reducible refine Rc_int1 ?_ | with_reducible refine Rc_intB ?_ | with_reducible refine Rc_lenU ?_ | refine Rc_lenQ ?_ | with_reducible refine Rr_IC ?_ ?_ | with_reducible refine Rr_isN ?_ | with_reducible refine Rr_isN_no (nn_tup _) ?_ | with_reducible refine Rr_notN ?_ | with_reducible refine Rr_notN_no (nn_tup _) ?_ | with_reducible refine Dt_ret ?_ | with_reducible refine Dt_set ?_ | with_reducible refine Dt_drop ?_ | with_reducible refine De_call ?_ | with_reducible refine De_callN ?_ | with_reducible refine De_ifExp ?_ | with_reducible refine De_prop ?_ | with_reducible refine De_fld ?_ | with_reducible refine ⟨⟨_, rfl⟩, ?_⟩ | ((with_reducible refine De_tupL ?_); first | ((with_reducible apply Dl_im); exact rfl) | ((with_reducible apply Dl_ow); exact rfl))))
      refine De_callS (fun _ => hE) ?_
      (repeat' (first  | ((with_reducible apply De_var); exact rfl) | with_reducible refine De_c ?_ | with_reducible refine De_op ?_ | with_reducible refine Rr_I0 ?_ | ((with_reducible refine Rr_eq ?_ ?_); exact rfl) | ((with_reducible refine Rr_ne ?_ ?_); exact rfl) | with_reducible refine De_chain ?_ | with_reducible refine ⟨_, rfl, ?_⟩ | with_reducible refine Dc_test ?_ | with_reducible refine Dc_b ?_ | with_reducible refine Dc_not ?_ | with_reducible refine Dc_and ?_ | with_reducible refine Dc_or ?_ | with_reducible refine De_and ?_ | with_reducible refine De_or ?_ | with_reducible refine De_not ?_ | with_reducible refine Dt_if ?_ | with_reducible refine Da_cons ?_ | with_reducible refine Da_nil ?_ | with_reducible refine Dt_seq ?_ | with_reducible refine Dt_next ?_ | with_reducible refine De_un ?_ | with_reducible refine br_dec (fun _ => ?_) (fun _ => ?_) | with_reducible refine br_ndec (fun _ => ?_) (fun _ => ?_) | with_reducible refine br_t ?_ | with_reducible refine br_f ?_ | with_reducible refine br_nt ?_ | with_reducible refine br_nf ?_ | ((with_reducible refine De_len ?_); first | ((with_reducible apply Dl_im); exact rfl) | ((with_reducible apply Dl_ow); exact rfl)) | ((with_reducible refine De_sumL ?_); first | ((with_reducible apply Dl_im); exact rfl) | ((with_reducible apply Dl_ow); exact rfl)) | with_reducible refine ⟨rfl, ?_⟩ | with_reducible refine De_cb ?_ | with_reducible refine Rc_min2 ?_ | with_reducible refine Rc_max2 ?_ | with_reducible refine Rc_abs ?_ | with_reducible refine Rc_int1 ?_ | with_reducible refine Rc_intB ?_ | with_reducible refine Rc_lenU ?_ | refine Rc_lenQ ?_ | with_reducible refine Rr_IC ?_ ?_ | with_reducible refine Rr_isN ?_ | with_reducible refine Rr_isN_no (nn_tup _) ?_ | with_reducible refine Rr_notN ?_ | with_reducible refine Rr_notN_no (nn_tup _) ?_ | with_reducible refine Dt_ret ?_ | with_reducible refine Dt_set ?_ | with_reducible refine Dt_drop ?_ | with_reducible refine De_call ?_ | with_reducible refine De_callN ?_ | with_reducible refine De_ifExp ?_ | with_reducible refine De_prop ?_ | with_reducible refine De_fld ?_ | with_reducible refine ⟨⟨_, rfl⟩, ?_⟩ | ((with_reducible refine De_tupL ?_); first | ((with_reducible apply Dl_im); exact rfl) | ((with_reducible apply Dl_ow); exact rfl))))
      refine ⟨n, a, b, rfl, fun g => ?_, fun g => h2 n (bad_at hb en g)⟩
      exact Dt_next ⟨⟨_, rfl⟩, bad_take hb en g⟩
    · have := hI.2
      rw [List.length_map, List.take_length] at this
      exact this
  refine F.ok check_counts_sc (fun vs H Q E h => lenX (n := 3) (fun φs k kx e => by rcases e with ⟨_, _, _, rfl, _⟩ | ⟨_, _, _, rfl, _⟩ <;> rfl) h) (fun cdv A outer s H vs Q E hr h => ?_)
  rcases spX_or h with h | h
  · refine ⟨_, (pss_one (ps_for (passes_of rfl) rfl (pi_list (pv 0)) (pg_name (i := 3) check_counts_sc.nd rfl (Or.inl rfl))
      (pss_one (ps_expr (pe_callS D_check_count.ok (hr.mono (by first | decide | omega)) rfl D_check_count.g D_check_count.kp D_check_count.b (fun σ => L2N.passAt (L2N.takes_of rfl rfl rfl rfl) σ) (pa_cons (pv 3) (pa_cons (pv 1) (pa_cons (pv 2) pa_nil)))))))), enterX (n := 4) rfl h fun A φs k kx hS hE => ?_⟩
    obtain ⟨ns, a, b, rfl, h1, h2⟩ := hS
    exact body TL A ns a b k kx _ _ h1 h2 hE (Di_list (De_var rfl ⟨_, rfl, rfl⟩))
  · refine ⟨_, (pss_one (ps_for (passes_of rfl) rfl (pi_tup (pv 0)) (pg_name (i := 3) check_counts_sc.nd rfl (Or.inl rfl))
      (pss_one (ps_expr (pe_callS D_check_count.ok (hr.mono (by first | decide | omega)) rfl D_check_count.g D_check_count.kp D_check_count.b (fun σ => L2N.passAt (L2N.takes_of rfl rfl rfl rfl) σ) (pa_cons (pv 3) (pa_cons (pv 1) (pa_cons (pv 2) pa_nil)))))))), enterX (n := 4) rfl h fun A φs k kx hS hE => ?_⟩
    obtain ⟨ns, a, b, rfl, h1, h2⟩ := hS
    exact body TU A ns a b k kx _ _ h1 h2 hE (Di_tup (De_var rfl ⟨_, rfl, rfl⟩))
end
end K08
set_option Elab.async false
set_option linter.all false
set_option maxRecDepth 100000
set_option maxHeartbeats 4000000
namespace K08
open PySem PySem.Spec PyProof.Rows L2 Wl Kx
/-- totals -/
abbrev totF (ss ds : List Int) : List (Str × Ty) := [("_supplies", TU (TIs ss)), ("_demands", TU (TIs ds))]
abbrev TTot (C : Addr) (ss ds : List Int) : Ty := TJ C (totF ss ds)
/-- fields of the class at C -/
structure TotC (K : PySem.W.Frag) (C : Addr) (uM : Value) : Prop where
  cl : Cls K C
  nS : NoAttr K C "_supplies"
  nD : NoAttr K C "_demands"
  cM : Con K C "MOST_UNITS" (.int 400) uM
structure OkT (ss ds : List Int) : Prop where
  s1 : 1 ≤ ss.length ∧ ss.length ≤ 8
  d1 : 1 ≤ ds.length ∧ ds.length ≤ 8
  sb : bad 0 400 ss = none
  db : bad 0 400 ds = none
  eq : ss.sum = ds.sum
  le : ss.sum ≤ 400

/-- what is due of two rows -/
def lens (ns : List Int) : Prop := 1 ≤ ns.length ∧ ns.length ≤ 8
instance (ns : List Int) : Decidable (lens ns) := inferInstanceAs (Decidable (_ ∧ _))
def rowDue (ns : List Int) : Option Due := if lens ns then (bad 0 400 ns).map fun x => .ref .cnt [.int x] else some (.ref .siz [.int ns.length])
def endDue (a b : List Int) : Due := if a.sum = b.sum then (if a.sum ≤ 400 then .mad a b else .ref .mos [.int 400]) else .ref .unb [.int a.sum, .int b.sum]
def orD (o : Option Due) (d : Due) : Due := match o with
  | some d => d
  | none => d
def makeDue (a b : List Int) : Due := orD (rowDue a) (orD (rowDue b) (endDue a b))
/-- what follows from what is due -/
structure QM (ca : Er8 → Addr) (a b : List Int) (kx : Addr → List (Str × Ty) → Prop) (ok : Prop) : Prop where
  s1 : ¬ lens a → refuse kx (ca .siz) "size" a.length
  c1 : lens a → ∀ x, bad 0 400 a = some x → refuse kx (ca .cnt) "number" x
  s2 : lens a → bad 0 400 a = none → ¬ lens b → refuse kx (ca .siz) "size" b.length
  c2 : lens a → bad 0 400 a = none → lens b → ∀ x, bad 0 400 b = some x → refuse kx (ca .cnt) "number" x
  un : lens a → bad 0 400 a = none → lens b → bad 0 400 b = none → a.sum ≠ b.sum → kx (ca .unb) [("demand", TI b.sum), ("supply", TI a.sum)]
  mo : lens a → bad 0 400 a = none → lens b → bad 0 400 b = none → a.sum = b.sum → 400 < a.sum → refuse kx (ca .mos) "most" 400
  ok : OkT a b → ok
theorem QM.good {ca : Er8 → Addr} {a b : List Int} {kx : Addr → List (Str × Ty) → Prop} {ok : Prop} (g : OkT a b) (h : ok) : QM ca a b kx ok :=
  ⟨fun z => absurd g.s1 z, fun _ x z => (by rw [g.sb] at z; cases z), fun _ _ z => absurd g.d1 z, fun _ _ _ x z => (by rw [g.db] at z; cases z), fun _ _ _ _ z => absurd g.eq z, fun _ _ _ _ _ z => absurd g.le (by omega), fun _ => h⟩
def Got (ca : Er8 → Addr) (kx : Addr → List (Str × Ty) → Prop) (ok : List Int → List Int → Prop) : Due → Prop
  | .mad a b => ok a b
  | .ref e xs => e.ok xs → kx (ca e) (e.fl xs)
theorem makeDue_ok {a b : List Int} (g : OkT a b) : makeDue a b = .mad a b := by
  unfold makeDue rowDue endDue
  rw [if_pos (show lens a from g.s1), g.sb, if_pos (show lens b from g.d1), g.db, if_pos g.eq, if_pos g.le]
  rfl
theorem QM.of {ca : Er8 → Addr} {a b : List Int} {kx : Addr → List (Str × Ty) → Prop} {ok : List Int → List Int → Prop} (h : ∀ d, d = makeDue a b → Got ca kx ok d) : QM ca a b kx (ok a b) := by
  unfold makeDue rowDue endDue at h
  refine ⟨fun z => ?_, fun z x hx => ?_, fun z hz z2 => ?_, fun z hz z2 x hx => ?_, fun z hz z2 hz2 z3 => ?_, fun z hz z2 hz2 z3 z4 => ?_, fun g => h _ (makeDue_ok g).symm⟩
  · rw [if_neg z] at h
    exact h _ rfl ⟨_, rfl⟩
  · rw [if_pos z, hx] at h
    exact h _ rfl ⟨_, rfl⟩
  · rw [if_pos z, hz, if_neg z2] at h
    exact h _ rfl ⟨_, rfl⟩
  · rw [if_pos z, hz, if_pos z2, hx] at h
    exact h _ rfl ⟨_, rfl⟩
  · rw [if_pos z, hz, if_pos z2, hz2, if_neg z3] at h
    exact h _ rfl ⟨_, _, rfl⟩
  · rw [if_pos z, hz, if_pos z2, hz2, if_pos z3, if_neg (by omega)] at h
    exact h _ rfl ⟨_, rfl⟩
section
variable {P : Program} {w : World} {K : PySem.W.Frag} {mg : Str → Option Value} {base : Heap} {f : Addr} {fd : FuncData}
section
variable {A : Wd × Hp} {Φ : List Sl} {k : Ty → Prop} {ta : TE} {C : Addr} {uM : Value}
theorem De_tS (T : TotC K C uM) (h : De A ta Φ fun φ => ∃ ss ds, φ = TTot C ss ds ∧ k (TU (TIs ss))) : De A (tFld K ta "_supplies") Φ k := De_fld (h.mono fun φ ⟨ss, ds, e, hk⟩ => ⟨C, totF ss ds, _, e, T.cl, T.nS, rfl, hk⟩)
theorem De_tD (T : TotC K C uM) (h : De A ta Φ fun φ => ∃ ss ds, φ = TTot C ss ds ∧ k (TU (TIs ds))) : De A (tFld K ta "_demands") Φ k := De_fld (h.mono fun φ ⟨ss, ds, e, hk⟩ => ⟨C, totF ss ds, _, e, T.cl, T.nD, rfl, hk⟩)
abbrev LU (T : List Ty → Ty) : Prop := T = TL ∨ T = TU
theorem De_lenE {T : List Ty → Ty} (t : LU T) {i : Nat} {χs : List Ty} (e : Φ[i]? = some (.im (T χs))) (h : k (TI χs.length)) : De A (tCB (rLenK K) (tCons (tVar i) tNil)) Φ k := by
  rcases t with rfl | rfl
  · exact De_len (Dl_im e h)
  · exact De_cb (Da_cons (De_var e (Da_nil (Rc_lenU h))))
theorem De_tupE {T : List Ty → Ty} (t : LU T) {i : Nat} {χs : List Ty} (e : Φ[i]? = some (.im (T χs))) (h : k (TU χs)) : De A (tCB (rTupOf K) (tCons (tVar i) tNil)) Φ k := by
  rcases t with rfl | rfl
  · exact De_tupL (Dl_im e h)
  · exact De_tupU (De_var e ⟨_, rfl, h⟩)
theorem De_sumE {T : List Ty → Ty} (t : LU T) {i : Nat} {ns : List Int} (e : Φ[i]? = some (.im (T (TIs ns)))) (h : k (TI ns.sum)) : De A (tCB (EnT.rSumE K) (tCons (tVar i) tNil)) Φ k := by
  rcases t with rfl | rfl
  · exact De_sumL (Dl_im e ⟨rfl, h⟩)
  · exact De_sumU (De_var e ⟨rfl, h⟩)
theorem counts_E {T : List Ty → Ty} (t : LU T) {C : Addr} {ns : List Int} {a b : Int} {kx : Addr → List (Str × Ty) → Prop} (h1 : bad a b ns = none → k TN) (h2 : ∀ x, bad a b ns = some x → refuse kx C "number" x) : S_counts C [T (TIs ns), TI a, TI b] k kx := by
  rcases t with rfl | rfl
  · exact .inl ⟨ns, a, b, rfl, h1, h2⟩
  · exact .inr ⟨ns, a, b, rfl, h1, h2⟩
theorem De_tM (T : TotC K C uM) (h : De A ta Φ fun φ => ∃ ss ds, φ = TTot C ss ds ∧ k (TI 400)) : De A (tCon K ta "MOST_UNITS") Φ k := De_con (h.mono fun φ ⟨ss, ds, e, hk⟩ => ⟨C, totF ss ds, e, T.cl, T.cM, rfl, hk⟩)
end
/-! ### what is read off -/
abbrev Totals_supplies_N : List Str := ["self"]
theorem Totals_supplies_sc : FnScope ["self"] ["self"] (defScope Totals_supplies_st) := ⟨rfl, rfl, rfl, by decide +kernel, rfl, by decide +kernel, by decide +kernel⟩
def S_supplies (C : Addr) : PX := fun φs k _ => ∃ ss ds, φs = [TTot C ss ds] ∧ k (TU (TIs ss))
theorem ok_supplies {C : Addr} {uM : Value} (F : FnM K "supplies" "Totals.supplies" Totals_supplies_st f fd) (T : TotC K C uM) : FnOk P w K mg base (L2N.CX P w) 1 f fd ["self"] (spX (S_supplies C)) := by
  refine F.ok Totals_supplies_sc (fun vs H Q E h => lenX (n := 1) (fun φs k kx ⟨ss, ds, e, _⟩ => by rw [e]; rfl) h) (fun cdv A outer s H vs Q E hr h => ⟨_, (pss_one (ps_ret (pe_fld (pv 0) rfl))), enterX (n := 1) rfl h fun A φs k kx hS hE => ?_⟩)
  obtain ⟨ss, ds, rfl, h1⟩ := hS
  exact Dt_ret (De_tS T (De_var rfl ⟨_, _, rfl, h1⟩))
abbrev Totals_demands_N : List Str := ["self"]
theorem Totals_demands_sc : FnScope ["self"] ["self"] (defScope Totals_demands_st) := ⟨rfl, rfl, rfl, by decide +kernel, rfl, by decide +kernel, by decide +kernel⟩
def S_demands (C : Addr) : PX := fun φs k _ => ∃ ss ds, φs = [TTot C ss ds] ∧ k (TU (TIs ds))
theorem ok_demands {C : Addr} {uM : Value} (F : FnM K "demands" "Totals.demands" Totals_demands_st f fd) (T : TotC K C uM) : FnOk P w K mg base (L2N.CX P w) 1 f fd ["self"] (spX (S_demands C)) := by
  refine F.ok Totals_demands_sc (fun vs H Q E h => lenX (n := 1) (fun φs k kx ⟨ss, ds, e, _⟩ => by rw [e]; rfl) h) (fun cdv A outer s H vs Q E hr h => ⟨_, (pss_one (ps_ret (pe_fld (pv 0) rfl))), enterX (n := 1) rfl h fun A φs k kx hS hE => ?_⟩)
  obtain ⟨ss, ds, rfl, h1⟩ := hS
  exact Dt_ret (De_tD T (De_var rfl ⟨_, _, rfl, h1⟩))
abbrev Totals_units_N : List Str := ["self"]
theorem Totals_units_sc : FnScope ["self"] ["self"] (defScope Totals_units_st) := ⟨rfl, rfl, rfl, by decide +kernel, rfl, by decide +kernel, by decide +kernel⟩
def S_units (C : Addr) : PX := fun φs k _ => ∃ ss ds, φs = [TTot C ss ds] ∧ k (TI ss.sum)
theorem ok_units {C : Addr} {uM : Value} (F : FnM K "units" "Totals.units" Totals_units_st f fd) (T : TotC K C uM) (m_sum : mg "sum" = none) : FnOk P w K mg base (L2N.CX P w) 1 f fd ["self"] (spX (S_units C)) := by
  refine F.ok Totals_units_sc (fun vs H Q E h => lenX (n := 1) (fun φs k kx ⟨ss, ds, e, _⟩ => by rw [e]; rfl) h) (fun cdv A outer s H vs Q E hr h => ⟨_, (pss_one (ps_ret (pe_callB (EnT.cr_sumE rfl) (by rfl) m_sum (by decide +kernel) (pa_cons (pe_fld (pv 0) rfl) pa_nil)))), enterX (n := 1) rfl h fun A φs k kx hS hE => ?_⟩)
  obtain ⟨ss, ds, rfl, h1⟩ := hS
  exact Dt_ret (De_sumU (ns := ss) (De_tS T (De_var rfl ⟨_, _, rfl, rfl, h1⟩)))
/-! ### Totals.__init__ -/
abbrev Totals_init_N : List Str := ["self", "supplies", "demands", "row"]
theorem Totals_init_sc : FnScope ["self", "supplies", "demands", "row"] ["self", "supplies", "demands"] (defScope Totals_init_st) := ⟨rfl, rfl, rfl, by decide +kernel, rfl, by decide +kernel, by decide +kernel⟩
def S_tinit (ca : Er8 → Addr) : PI8 := fun φs k kx => ∃ (T1 T2 : List Ty → Ty) (ss ds : List Int), LU T1 ∧ LU T2 ∧ φs = [T1 (TIs ss), T2 (TIs ds)] ∧ QM ca ss ds kx (k (totF ss ds))
theorem ok_tinit {ca : Er8 → Addr} {C f1 f2 f3 f4 : Addr} {fd1 fd2 fd3 fd4 : FuncData} {uM u8 : Value} (F : FnM K "__init__" "Totals.__init__" Totals_init_st f fd) (T : TotC K C uM) (m_len : mg "len" = none) (m_sum : mg "sum" = none) (m_tuple : mg "tuple" = none) (g_MOST_NUMBERS : mg "MOST_NUMBERS" = some u8) (r_MOST_NUMBERS : RelV (.int 8) u8)
    (D_check_size : Df P w K mg base 3 "check_size" ["size", "least", "most"] (spX (S_size (ca .siz))) f1 fd1) (D_check_counts : Df P w K mg base 4 "check_counts" ["numbers", "least", "most"] (spX (S_counts (ca .cnt))) f2 fd2) (D_check_balanced : Df P w K mg base 3 "_check_balanced" ["supply", "demand"] (spX (S_balanced (ca .unb))) f3 fd3) (D_check_most : Df P w K mg base 3 "check_most" ["number", "most"] (spX (S_most (ca .mos))) f4 fd4) :
    FnOk P w K mg base (L2N.CX P w) 5 f fd ["self", "supplies", "demands"] (spInit C (S_tinit ca)) := by
  refine F.ok Totals_init_sc (fun vs H Q E h => ?_) (fun cdv A outer s H vs Q E hr h => ⟨_, (pss_cons (ps_for (passes_of rfl) rfl (pi_tup (pe_tup (pa_cons (pv 1) (pa_cons (pv 2) pa_nil)))) (pg_name (i := 3) Totals_init_sc.nd rfl (Or.inl rfl))
      (pss_cons (ps_expr (pe_callS D_check_size.ok (hr.mono (by first | decide | omega)) rfl D_check_size.g D_check_size.kp D_check_size.b (fun σ => L2N.passAt (L2N.takes_of rfl rfl rfl rfl) σ) (pa_cons (pe_callB call_len_seq (by rfl) m_len (by decide +kernel) (pa_cons (pv 3) pa_nil)) (pa_cons pe_int (pa_cons (pe_glob (v := .int 8) rfl g_MOST_NUMBERS r_MOST_NUMBERS) pa_nil)))))
      (pss_one (ps_expr (pe_callS D_check_counts.ok (hr.mono (by first | decide | omega)) rfl D_check_counts.g D_check_counts.kp D_check_counts.b (fun σ => L2N.passAt (L2N.takes_of rfl rfl rfl rfl) σ) (pa_cons (pv 3) (pa_cons pe_int (pa_cons (pe_con (pv 0) rfl) pa_nil))))))))
      (pss_cons (ps_expr (pe_callS D_check_balanced.ok (hr.mono (by first | decide | omega)) rfl D_check_balanced.g D_check_balanced.kp D_check_balanced.b (fun σ => L2N.passAt (L2N.takes_of rfl rfl rfl rfl) σ) (pa_cons (pe_callB (EnT.cr_sumE rfl) (by rfl) m_sum (by decide +kernel) (pa_cons (pv 1) pa_nil)) (pa_cons (pe_callB (EnT.cr_sumE rfl) (by rfl) m_sum (by decide +kernel) (pa_cons (pv 2) pa_nil)) pa_nil))))
      (pss_cons (ps_expr (pe_callS D_check_most.ok (hr.mono (by first | decide | omega)) rfl D_check_most.g D_check_most.kp D_check_most.b (fun σ => L2N.passAt (L2N.takes_of rfl rfl rfl rfl) σ) (pa_cons (pe_callB (EnT.cr_sumE rfl) (by rfl) m_sum (by decide +kernel) (pa_cons (pv 1) pa_nil)) (pa_cons (pe_con (pv 0) rfl) pa_nil))))
      (pss_cons (ps_fld (pv 0) (pe_callTy call_tuple_of (by rfl) m_tuple (by decide +kernel) (pa_cons (pv 1) pa_nil)) rfl)
      (pss_one (ps_fld (pv 0) (pe_callTy call_tuple_of (by rfl) m_tuple (by decide +kernel) (pa_cons (pv 2) pa_nil)) rfl)))))), enterI (n := 3) rfl h fun A x dx φs k kx hS hE => ?_⟩)
  · obtain ⟨x, dx, us, H1, φs, k, kx, W, rfl, _, _, _, _, _, ar, ⟨T1, T2, ss, ds, _, _, rfl, _⟩, _⟩ := h
    rw [List.length_cons, ar.len]
    rfl
  obtain ⟨T1, T2, ss, ds, t1, t2, rfl, q⟩ := hS
  have row : ∀ (Tr : List Ty → Ty) (ns : List Int) (O : Out), LU Tr → (¬ lens ns → refuse kx (ca .siz) "size" ns.length) → (lens ns → ∀ x, bad 0 400 ns = some x → refuse kx (ca .cnt) "number" x) → (lens ns → bad 0 400 ns = none → O.nx [.ow (CI C x dx []), .im (T1 (TIs ss)), .im (T2 (TIs ds)), .im (Tr (TIs ns))]) →
      Dt A (tSeq (tDrop (tCallS (spX (S_size (ca .siz))) (fun _ => E) (tCons (tCB (rLenK K) (tCons (tVar 3) tNil)) (tCons (tC (.int 1)) (tCons (tC (.int 8)) tNil))))) (tSeq (tDrop (tCallS (spX (S_counts (ca .cnt))) (fun _ => E) (tCons (tVar 3) (tCons (tC (.int 0)) (tCons (tCon K (tVar 0) "MOST_UNITS") tNil))))) tNext)) [.ow (CI C x dx []), .im (T1 (TIs ss)), .im (T2 (TIs ds)), .im (Tr (TIs ns))] O := fun Tr ns O t q1 q2 hO => by
    refine Dt_seq (Dt_drop (De_callS (fun _ => hE) (Da_cons (De_lenE t rfl ?_))))
    (repeat' (first  | ((with_reducible apply De_var); exact rfl) | with_reducible refine De_c ?_ | with_reducible refine De_op ?_ | with_reducible refine Rr_I0 ?_ | ((with_reducible refine Rr_eq ?_ ?_); exact rfl) | ((with_reducible refine Rr_ne ?_ ?_); exact rfl) | with_reducible refine De_chain ?_ | with_reducible refine ⟨_, rfl, ?_⟩ | with_reducible refine Dc_test ?_ | with_reducible refine Dc_b ?_ | with_reducible refine Dc_not ?_ | with_reducible refine Dc_and ?_ | with_reducible refine Dc_or ?_ | with_reducible refine De_and ?_ | with_reducible refine De_or ?_ | with_reducible refine De_not ?_ | with_reducible refine Dt_if ?_ | with_reducible refine Da_cons ?_ | with_reducible refine Da_nil ?_ | with_reducible refine Dt_seq ?_ | with_reducible refine Dt_next ?_ | with_reducible refine De_un ?_ | with_reducible refine br_dec (fun _ => ?_) (fun _ => ?_) | with_reducible refine br_ndec (fun _ => ?_) (fun _ => ?_) | with_reducible refine br_t ?_ | with_reducible refine br_f ?_ | with_reducible refine br_nt ?_ | with_reducible refine br_nf ?_ | ((with_reducible refine De_len ?_); first | ((with_reducible apply Dl_im); exact rfl) | ((with_reducible apply Dl_ow); exact rfl)) | ((with_reducible refine De_sumL ?_); first | ((with_reducible apply Dl_im); exact rfl) | ((with_reducible apply Dl_ow); exact rfl)) | with_reducible refine ⟨rfl, ?_⟩ | with_reducible refine De_cb ?_ | with_reducible refine Rc_min2 ?_ | with_reducible refine Rc_max2 ?_ | with_reducible refine Rc_abs ?_ | with_reducible refine Rc_int1 ?_ | with_reducible refine Rc_intB ?_ | with_reducible refine Rc_lenU ?_ | refine Rc_lenQ ?_ | with_reducible refine Rr_IC ?_ ?_ | with_reducible refine Rr_isN ?_ | with_reducible refine Rr_isN_no (nn_tup _) ?_ | with_reducible refine Rr_notN ?_ | with_reducible refine Rr_notN_no (nn_tup _) ?_ | with_reducible refine Dt_ret ?_ | with_reducible refine Dt_set ?_ | with_reducible refine Dt_drop ?_ | with_reducible refine De_call ?_ | with_reducible refine De_callN ?_ | with_reducible refine De_ifExp ?_ | with_reducible refine De_prop ?_ | with_reducible refine De_fld ?_ | with_reducible refine ⟨⟨_, rfl⟩, ?_⟩ | ((with_reducible refine De_tupL ?_); first | ((with_reducible apply Dl_im); exact rfl) | ((with_reducible apply Dl_ow); exact rfl))))
    rw [List.length_map]
    refine ⟨_, _, _, rfl, fun z => ?_, fun z => q1 (fun y => z (by unfold lens at y; omega))⟩
    have ln : lens ns := by unfold lens; omega
    refine Dt_seq (Dt_drop (De_callS (fun _ => hE) ?_))
    (repeat' (first  | ((with_reducible apply De_var); exact rfl) | with_reducible refine De_c ?_ | with_reducible refine De_op ?_ | with_reducible refine Rr_I0 ?_ | ((with_reducible refine Rr_eq ?_ ?_); exact rfl) | ((with_reducible refine Rr_ne ?_ ?_); exact rfl) | with_reducible refine De_chain ?_ | with_reducible refine ⟨_, rfl, ?_⟩ | with_reducible refine Dc_test ?_ | with_reducible refine Dc_b ?_ | with_reducible refine Dc_not ?_ | with_reducible refine Dc_and ?_ | with_reducible refine Dc_or ?_ | with_reducible refine De_and ?_ | with_reducible refine De_or ?_ | with_reducible refine De_not ?_ | with_reducible refine Dt_if ?_ | with_reducible refine Da_cons ?_ | with_reducible refine Da_nil ?_ | with_reducible refine Dt_seq ?_ | with_reducible refine Dt_next ?_ | with_reducible refine De_un ?_ | with_reducible refine br_dec (fun _ => ?_) (fun _ => ?_) | with_reducible refine br_ndec (fun _ => ?_) (fun _ => ?_) | with_reducible refine br_t ?_ | with_reducible refine br_f ?_ | with_reducible refine br_nt ?_ | with_reducible refine br_nf ?_ | ((with_reducible refine De_len ?_); first | ((with_reducible apply Dl_im); exact rfl) | ((with_reducible apply Dl_ow); exact rfl)) | ((with_reducible refine De_sumL ?_); first | ((with_reducible apply Dl_im); exact rfl) | ((with_reducible apply Dl_ow); exact rfl)) | with_reducible refine ⟨rfl, ?_⟩ | with_reducible refine De_cb ?_ | with_reducible refine Rc_min2 ?_ | with_reducible refine Rc_max2 ?_ | with_reducible refine Rc_abs ?_ | with_reducible refine Rc_int1 ?_ | with_reducible refine Rc_intB ?_ | with_reducible refine Rc_lenU ?_ | refine Rc_lenQ ?_ | with_reducible refine Rr_IC ?_ ?_ | with_reducible refine Rr_isN ?_ | with_reducible refine Rr_isN_no (nn_tup _) ?_ | with_reducible refine Rr_notN ?_ | with_reducible refine Rr_notN_no (nn_tup _) ?_ | with_reducible refine Dt_ret ?_ | with_reducible refine Dt_set ?_ | with_reducible refine Dt_drop ?_ | with_reducible refine De_call ?_ | with_reducible refine De_callN ?_ | with_reducible refine De_ifExp ?_ | with_reducible refine De_prop ?_ | with_reducible refine De_fld ?_ | with_reducible refine ⟨⟨_, rfl⟩, ?_⟩ | ((with_reducible refine De_tupL ?_); first | ((with_reducible apply Dl_im); exact rfl) | ((with_reducible apply Dl_ow); exact rfl))))
    refine De_conOw rfl T.cl T.cM rfl ?_
    (repeat' (first  | ((with_reducible apply De_var); exact rfl) | with_reducible refine De_c ?_ | with_reducible refine De_op ?_ | with_reducible refine Rr_I0 ?_ | ((with_reducible refine Rr_eq ?_ ?_); exact rfl) | ((with_reducible refine Rr_ne ?_ ?_); exact rfl) | with_reducible refine De_chain ?_ | with_reducible refine ⟨_, rfl, ?_⟩ | with_reducible refine Dc_test ?_ | with_reducible refine Dc_b ?_ | with_reducible refine Dc_not ?_ | with_reducible refine Dc_and ?_ | with_reducible refine Dc_or ?_ | with_reducible refine De_and ?_ | with_reducible refine De_or ?_ | with_reducible refine De_not ?_ | with_reducible refine Dt_if ?_ | with_reducible refine Da_cons ?_ | with_reducible refine Da_nil ?_ | with_reducible refine Dt_seq ?_ | with_reducible refine Dt_next ?_ | with_reducible refine De_un ?_ | with_reducible refine br_dec (fun _ => ?_) (fun _ => ?_) | with_reducible refine br_ndec (fun _ => ?_) (fun _ => ?_) | with_reducible refine br_t ?_ | with_reducible refine br_f ?_ | with_reducible refine br_nt ?_ | with_reducible refine br_nf ?_ | ((with_reducible refine De_len ?_); first | ((with_reducible apply Dl_im); exact rfl) | ((with_reducible apply Dl_ow); exact rfl)) | ((with_reducible refine De_sumL ?_); first | ((with_reducible apply Dl_im); exact rfl) | ((with_reducible apply Dl_ow); exact rfl)) | with_reducible refine ⟨rfl, ?_⟩ | with_reducible refine De_cb ?_ | with_reducible refine Rc_min2 ?_ | with_reducible refine Rc_max2 ?_ | with_reducible refine Rc_abs ?_ | with_reducible refine Rc_int1 ?_ | with_reducible refine Rc_intB ?_ | with_reducible refine Rc_lenU ?_ | refine Rc_lenQ ?_ | with_reducible refine Rr_IC ?_ ?_ | with_reducible refine Rr_isN ?_ | with_reducible refine Rr_isN_no (nn_tup _) ?_ | with_reducible refine Rr_notN ?_ | with_reducible refine Rr_notN_no (nn_tup _) ?_ | with_reducible refine Dt_ret ?_ | with_reducible refine Dt_set ?_ | with_reducible refine Dt_drop ?_ | with_reducible refine De_call ?_ | with_reducible refine De_callN ?_ | with_reducible refine De_ifExp ?_ | with_reducible refine De_prop ?_ | with_reducible refine De_fld ?_ | with_reducible refine ⟨⟨_, rfl⟩, ?_⟩ | ((with_reducible refine De_tupL ?_); first | ((with_reducible apply Dl_im); exact rfl) | ((with_reducible apply Dl_ow); exact rfl))))
    exact counts_E t (fun z => Dt_next (hO ln z)) (q2 ln)
  refine Dt_seq (Dt_forI (ψs := [T1 (TIs ss), T2 (TIs ds)]) [3] (fun j Φ => ∃ s, Φ = [.ow (CI C x dx []), .im (T1 (TIs ss)), .im (T2 (TIs ds)), s] ∧ (0 < j → lens ss ∧ bad 0 400 ss = none) ∧ (1 < j → lens ds ∧ bad 0 400 ds = none)) (Di_tup (De_tup (Da_cons (De_var rfl (Da_cons (De_var rfl (Da_nil ⟨Nat.le_of_ble_eq_true rfl, _, rfl, rfl⟩))))))) ⟨_, rfl, fun z => by omega, fun z => by omega⟩ (fun j ψ Φ e hI => ?_) fun Φ hI => ?_)
  · obtain ⟨s, rfl, i1, i2⟩ := hI
    refine Dg_name ?_
    match j, e with
    | 0, e =>
      cases e
      exact row T1 ss _ t1 q.s1 q.c1 fun l b => ⟨_, rfl, fun _ => ⟨l, b⟩, fun z => by omega⟩
    | 1, e =>
      cases e
      obtain ⟨l1, b1⟩ := i1 (by omega)
      exact row T2 ds _ t2 (q.s2 l1 b1) (q.c2 l1 b1) fun l b => ⟨_, rfl, fun _ => ⟨l1, b1⟩, fun _ => ⟨l, b⟩⟩
  · obtain ⟨s, rfl, i1, i2⟩ := hI
    obtain ⟨l1, b1⟩ := i1 (by show 0 < 2; decide)
    obtain ⟨l2, b2⟩ := i2 (by show 1 < 2; decide)
    refine Dt_seq (Dt_drop (De_callS (fun _ => hE) (Da_cons (De_sumE t1 rfl (Da_cons (De_sumE t2 rfl ?_))))))
    (repeat' (first  | ((with_reducible apply De_var); exact rfl) | with_reducible refine De_c ?_ | with_reducible refine De_op ?_ | with_reducible refine Rr_I0 ?_ | ((with_reducible refine Rr_eq ?_ ?_); exact rfl) | ((with_reducible refine Rr_ne ?_ ?_); exact rfl) | with_reducible refine De_chain ?_ | with_reducible refine ⟨_, rfl, ?_⟩ | with_reducible refine Dc_test ?_ | with_reducible refine Dc_b ?_ | with_reducible refine Dc_not ?_ | with_reducible refine Dc_and ?_ | with_reducible refine Dc_or ?_ | with_reducible refine De_and ?_ | with_reducible refine De_or ?_ | with_reducible refine De_not ?_ | with_reducible refine Dt_if ?_ | with_reducible refine Da_cons ?_ | with_reducible refine Da_nil ?_ | with_reducible refine Dt_seq ?_ | with_reducible refine Dt_next ?_ | with_reducible refine De_un ?_ | with_reducible refine br_dec (fun _ => ?_) (fun _ => ?_) | with_reducible refine br_ndec (fun _ => ?_) (fun _ => ?_) | with_reducible refine br_t ?_ | with_reducible refine br_f ?_ | with_reducible refine br_nt ?_ | with_reducible refine br_nf ?_ | ((with_reducible refine De_len ?_); first | ((with_reducible apply Dl_im); exact rfl) | ((with_reducible apply Dl_ow); exact rfl)) | ((with_reducible refine De_sumL ?_); first | ((with_reducible apply Dl_im); exact rfl) | ((with_reducible apply Dl_ow); exact rfl)) | with_reducible refine ⟨rfl, ?_⟩ | with_reducible refine De_cb ?_ | with_reducible refine Rc_min2 ?_ | with_reducible refine Rc_max2 ?_ | with_reducible refine Rc_abs ?_ | with_reducible refine Rc_int1 ?_ | with_reducible refine Rc_intB ?_ | with_reducible refine Rc_lenU ?_ | refine Rc_lenQ ?_ | with_reducible refine Rr_IC ?_ ?_ | with_reducible refine Rr_isN ?_ | with_reducible refine Rr_isN_no (nn_tup _) ?_ | with_reducible refine Rr_notN ?_ | with_reducible refine Rr_notN_no (nn_tup _) ?_ | with_reducible refine Dt_ret ?_ | with_reducible refine Dt_set ?_ | with_reducible refine Dt_drop ?_ | with_reducible refine De_call ?_ | with_reducible refine De_callN ?_ | with_reducible refine De_ifExp ?_ | with_reducible refine De_prop ?_ | with_reducible refine De_fld ?_ | with_reducible refine ⟨⟨_, rfl⟩, ?_⟩ | ((with_reducible refine De_tupL ?_); first | ((with_reducible apply Dl_im); exact rfl) | ((with_reducible apply Dl_ow); exact rfl))))
    refine ⟨_, _, rfl, fun e => ?_, fun z => q.un l1 b1 l2 b2 z⟩
    refine Dt_seq (Dt_drop (De_callS (fun _ => hE) (Da_cons (De_sumE t1 rfl (Da_cons (De_conOw rfl T.cl T.cM rfl ?_))))))
    (repeat' (first  | ((with_reducible apply De_var); exact rfl) | with_reducible refine De_c ?_ | with_reducible refine De_op ?_ | with_reducible refine Rr_I0 ?_ | ((with_reducible refine Rr_eq ?_ ?_); exact rfl) | ((with_reducible refine Rr_ne ?_ ?_); exact rfl) | with_reducible refine De_chain ?_ | with_reducible refine ⟨_, rfl, ?_⟩ | with_reducible refine Dc_test ?_ | with_reducible refine Dc_b ?_ | with_reducible refine Dc_not ?_ | with_reducible refine Dc_and ?_ | with_reducible refine Dc_or ?_ | with_reducible refine De_and ?_ | with_reducible refine De_or ?_ | with_reducible refine De_not ?_ | with_reducible refine Dt_if ?_ | with_reducible refine Da_cons ?_ | with_reducible refine Da_nil ?_ | with_reducible refine Dt_seq ?_ | with_reducible refine Dt_next ?_ | with_reducible refine De_un ?_ | with_reducible refine br_dec (fun _ => ?_) (fun _ => ?_) | with_reducible refine br_ndec (fun _ => ?_) (fun _ => ?_) | with_reducible refine br_t ?_ | with_reducible refine br_f ?_ | with_reducible refine br_nt ?_ | with_reducible refine br_nf ?_ | ((with_reducible refine De_len ?_); first | ((with_reducible apply Dl_im); exact rfl) | ((with_reducible apply Dl_ow); exact rfl)) | ((with_reducible refine De_sumL ?_); first | ((with_reducible apply Dl_im); exact rfl) | ((with_reducible apply Dl_ow); exact rfl)) | with_reducible refine ⟨rfl, ?_⟩ | with_reducible refine De_cb ?_ | with_reducible refine Rc_min2 ?_ | with_reducible refine Rc_max2 ?_ | with_reducible refine Rc_abs ?_ | with_reducible refine Rc_int1 ?_ | with_reducible refine Rc_intB ?_ | with_reducible refine Rc_lenU ?_ | refine Rc_lenQ ?_ | with_reducible refine Rr_IC ?_ ?_ | with_reducible refine Rr_isN ?_ | with_reducible refine Rr_isN_no (nn_tup _) ?_ | with_reducible refine Rr_notN ?_ | with_reducible refine Rr_notN_no (nn_tup _) ?_ | with_reducible refine Dt_ret ?_ | with_reducible refine Dt_set ?_ | with_reducible refine Dt_drop ?_ | with_reducible refine De_call ?_ | with_reducible refine De_callN ?_ | with_reducible refine De_ifExp ?_ | with_reducible refine De_prop ?_ | with_reducible refine De_fld ?_ | with_reducible refine ⟨⟨_, rfl⟩, ?_⟩ | ((with_reducible refine De_tupL ?_); first | ((with_reducible apply Dl_im); exact rfl) | ((with_reducible apply Dl_ow); exact rfl))))
    refine ⟨_, _, rfl, fun e4 => ?_, fun z => q.mo l1 b1 l2 b2 e z⟩
    refine Dt_seq (Dt_fld rfl T.cl T.nS (Nat.le_of_ble_eq_true rfl) (De_tupE t1 rfl ?_))
    refine Dt_seq (Dt_fld rfl T.cl T.nD (Nat.le_of_ble_eq_true rfl) (De_tupE t2 rfl ?_))
    exact Dt_next ⟨_, rfl, q.ok ⟨l1, l2, b1, b2, e, e4⟩⟩
end
end K08
set_option Elab.async false
set_option linter.all false
set_option maxRecDepth 100000
set_option maxHeartbeats 4000000
/-! Wt2: a text times a whole number; facts of texts as lists of signs. -/
namespace L2
open PySem PySem.Spec PyProof.Rows TL
/-- z written n times -/
def repS (n : Nat) (z : Str) : Str := ⟨((List.replicate n (tl z)).flatten).toArray⟩
def rMulS : R2 := fun x y H Q => ∃ (z : Str) (n : Nat), x = .str z ∧ y = .int n ∧ z.length * n ≤ 1000 ∧ n ≤ 1000 ∧ Q (.str (repS n z)) H
theorem fold_rep (a : Array Nat) : ∀ (n : Nat) (b : Array Nat), ((List.replicate n a).foldl (· ++ ·) b).toList = b.toList ++ (List.replicate n a.toList).flatten
  | 0, b => by simp
  | n + 1, b => by
    rw [List.replicate_succ, List.foldl_cons, fold_rep a n, List.replicate_succ, List.flatten_cons, Array.toList_append, List.append_assoc]
theorem op_mulS {X : Cx} : OpR X (binaryOp .Mult) rMulS := by
  intro pins s σ H x y v u Q I rx ry h
  obtain ⟨z, n, rfl, rfl, hzn, hn, q⟩ := h
  obtain ⟨t, rfl⟩ := rx
  obtain ⟨t', rfl⟩ := ry
  have len : (repS n z).length = z.length * n := by
    rw [len_tl, len_tl z]
    show (tl ⟨((List.replicate n (tl z)).flatten).toArray⟩).length = _
    rw [tl_mk, List.length_flatten, List.map_replicate, List.sum_replicate_nat, Nat.mul_comm]
  have fin : ∀ z' : Str, z' = repS n z → EP X pins σ Q (.str z' s.toks) { s with toks := s.toks + 1 } := fun z' e => by subst e; exact ⟨.str (repS n z), H, I.tok _, ⟨_, rfl⟩, q⟩
  refine PySem.P.mul_str ?_ (fun h1 h2 => ?_) (fun h1 h2 => ?_) ?_
  · simp
    omega
  · have n1 : 1 ≤ n := by omega
    intro h3
    have : ((z.length : Nat) : Int) ≤ 1000 := by
      have := Nat.mul_le_mul_left z.length n1
      omega
    have h4 : (9223372036854775807 : Int) / n ≥ 1000 := Int.le_ediv_of_mul_le (by omega) (by omega)
    have h5 : ((2 : Int) ^ 63 - 1) = 9223372036854775807 := by decide
    rw [h5] at h3
    omega
  · unfold Builtin.Str.tooLong
    simp only [gt_iff_lt, decide_eq_false_iff_not, Nat.not_lt, Int.toNat_natCast]
    show _ ≤ 2 ^ 24
    omega
  · split
    · rename_i h1
      have n0 : n = 0 := by omega
      subst n0
      exact ⟨by decide, fin _ (ext_tl rfl)⟩
    · split
      · rename_i h1 h2
        have : repS n z = z := by
          rcases Bool.or_eq_true_iff.mp h2 with e | e
          · have e : ((n : Nat) : Int) = 1 := by simpa using e
            have : n = 1 := by omega
            subst this
            refine ext_tl ?_
            show tl ⟨((List.replicate 1 (tl z)).flatten).toArray⟩ = tl z
            rw [tl_mk]
            simp
          · have e : z.length = 0 := by simpa using e
            refine ext_tl ?_
            have ez : tl z = [] := List.eq_nil_of_length_eq_zero (by rw [← len_tl]; exact e)
            show tl ⟨((List.replicate n (tl z)).flatten).toArray⟩ = tl z
            rw [tl_mk, ez]
            simp
        exact ⟨.str z, H, I, ⟨_, rfl⟩, by rw [this] at q; exact q⟩
      · have e : (⟨(List.replicate ((n : Nat) : Int).toNat z.cps).foldl (· ++ ·) #[]⟩ : Str) = repS n z := ext_tl (by
          show (((List.replicate ((n : Nat) : Int).toNat z.cps).foldl (· ++ ·) #[])).toList = tl ⟨((List.replicate n (tl z)).flatten).toArray⟩
          rw [fold_rep, tl_mk, Int.toNat_natCast]
          rfl)
        exact ⟨by rw [e, len]; show _ ≤ 2 ^ 24; omega, fin _ e⟩
end L2
namespace Wl
open PySem PySem.Spec PyProof.Rows L2
theorem Rr_mulS {z : Str} {n : Nat} {k : Ty → Prop} (l : z.length * n ≤ 1000) (hn : n ≤ 1000) (h : k (TS (repS n z))) : Rr rMulS (TS z) (TI n) k := fun W H u v i p1 p2 Q q => by
  obtain rfl : u = .str z := p1
  obtain rfl : v = .int n := p2
  exact ⟨z, n, rfl, rfl, l, hn, q _ _ W H (Fr.refl i) rfl h⟩
end Wl
namespace Wl
open PySem PySem.Spec PyProof.Rows L2
abbrev rLenS (K : PySem.W.Frag) : List V → Hp → VK → Prop := fun xs H Q => ∃ x n, xs = [x] ∧ LenV K x H n ∧ Q (.int n) H
theorem Rc_lenS {K : PySem.W.Frag} {z : Str} {k : Ty → Prop} (l : z.length ≤ 100000) (h : k (TI z.length)) : Rc (rLenS K) [TS z] k := fun W H vs i ar Q q => by
  obtain ⟨v, rfl, p⟩ := ar.un
  obtain rfl : v = .str z := p
  exact ⟨.str z, z.length, rfl, ⟨by show _ ≤ 2 ^ 24; omega, rfl⟩, q _ _ W H (Fr.refl i) rfl h⟩
end Wl
namespace Wl
open PySem PySem.Spec PyProof.Rows L2
theorem cut_take (xs : List Ty) (k : Nat) : cutT xs none (some (k : Int)) = xs.take k := by
  unfold cutT
  rw [HT.sIx_none, HT.sIx_nat, List.drop_zero, Nat.sub_zero]
  by_cases h : k ≤ xs.length
  · rw [Nat.min_eq_left h]
  · rw [Nat.min_eq_right (by omega), List.take_length, List.take_of_length_le (by omega)]
theorem cut_drop (xs : List Ty) (k : Nat) : cutT xs (some (k : Int)) none = xs.drop k := by
  unfold cutT
  rw [HT.sIx_none, HT.sIx_nat]
  by_cases h : k ≤ xs.length
  · rw [Nat.min_eq_left h, List.take_of_length_le (by rw [List.length_drop]; omega)]
  · rw [Nat.min_eq_right (by omega), List.drop_of_length_le (by omega), List.drop_of_length_le (by omega), List.take_nil]
theorem cutS_take (z : Str) (k : Nat) : TL.tl (cutS z none (some (k : Int))) = (TL.tl z).take k := by
  have e : z.length = (TL.tl z).length := TL.len_tl z
  unfold cutS
  rw [TL.tl_mk, HT.sIx_none, HT.sIx_nat, List.drop_zero, Nat.sub_zero, e]
  show (TL.tl z).take _ = _
  by_cases h : k ≤ (TL.tl z).length
  · rw [Nat.min_eq_left h]
  · rw [Nat.min_eq_right (by omega), List.take_length, List.take_of_length_le (by omega)]
theorem cutS_drop (z : Str) (k : Nat) : TL.tl (cutS z (some (k : Int)) none) = (TL.tl z).drop k := by
  have e : z.length = (TL.tl z).length := TL.len_tl z
  unfold cutS
  rw [TL.tl_mk, HT.sIx_none, HT.sIx_nat, e]
  show ((TL.tl z).drop _).take _ = _
  by_cases h : k ≤ (TL.tl z).length
  · rw [Nat.min_eq_left h, List.take_of_length_le (by rw [List.length_drop]; omega)]
  · rw [Nat.min_eq_right (by omega), List.drop_of_length_le (by omega), List.drop_of_length_le (by omega), List.take_nil]
end Wl
namespace L2
open PySem PySem.Spec PyProof.Rows
theorem pe_callFR {X : Cx} {CX : CXT} {k : Nat} {f : Addr} {sp : Sp} {E : XK} {x : Str} {p pos : Pos} {e : Expr} {es : List Expr} {t : TA} (F : FnR X.prog X.w X.K X.mg X.base CX k f sp) (hr : Room k X.A) (hk : PySem.W.keepIn X.K (.ref f) = true) (hg : Gl X x) (hm : X.mg x = some (.ref f)) (hx : Passes CX X E) (ha : PA X (e :: es) t) (hd : (x == ("__debug__" : Str)) = false := by decide)
    (he : starEach (e :: es) X.env = (false, eval e X.env) :: starEach es X.env := by rfl) (hpl : (backTo pos (starEach es X.env)).any (·.1) = false := by rfl) :
    PE X (.Call (.Name x p) (e :: es) [] pos) (fun σ H Q => t σ H fun vs H1 => sp vs H1 Q E) := by
  refine ⟨fun pins s σ H Q I h => ?_⟩
  refine wpAny_Call_Name_kw (ld_glob I hg hm ?_ hd)
  refine PySem.W.callWith_K (h₀ := X.base) I.ok.mod.kin hk (thn (ha.run pos pins s σ H _ I h) fun us s1 ⟨vs, H1, I1, r, q⟩ => ⟨I1.kIn, ?_⟩) he hpl
  exact wpAny_call (run_fnR F hr hx I1 r q)
end L2
set_option Elab.async false
set_option linter.all false
set_option maxRecDepth 100000
set_option maxHeartbeats 4000000
namespace K08
open PySem PySem.Spec PyProof.Rows L2 TL
/-! ### digits -/
def isD (c : Nat) : Bool := decide (48 ≤ c) && decide (c ≤ 57)
def goodL (l : List Nat) : Bool := decide (1 ≤ l.length) && (decide (l.length ≤ 3) && (l.all isD && (decide (l.length = 1) || !decide (l[0]? = some 48))))
def good (w : Str) : Bool := goodL (tl w)
def zer (t : Str) : Str := ⟨((tl t).map fun c => if c ∈ tl ("0123456789" : Str) then 48 else c).toArray⟩
theorem mem_dig (c : Nat) : c ∈ tl ("0123456789" : Str) ↔ isD c = true := by
  have e : tl ("0123456789" : Str) = [48, 49, 50, 51, 52, 53, 54, 55, 56, 57] := by decide +kernel
  rw [e]
  unfold isD
  simp
  omega
theorem zer_rep (w : Str) : zer w = repS w.length ("0" : Str) ↔ (tl w).all isD = true := by
  have e0 : tl ("0" : Str) = [48] := by decide +kernel
  have e1 : tl (repS w.length ("0" : Str)) = List.replicate (tl w).length 48 := by
    show tl ⟨((List.replicate w.length (tl ("0" : Str))).flatten).toArray⟩ = _
    rw [tl_mk, e0, len_tl]
    generalize (tl w).length = n
    induction n with
    | zero => rfl
    | succ n ih => rw [List.replicate_succ, List.flatten_cons, ih, List.replicate_succ]; rfl
  have key : ∀ l : List Nat, (l.map fun c => if c ∈ tl ("0123456789" : Str) then 48 else c) = List.replicate l.length 48 ↔ l.all isD = true := fun l => by
    induction l with
    | nil => simp
    | cons c l ih =>
      rw [List.map_cons, List.length_cons, List.replicate_succ, List.cons.injEq, ih, List.all_cons, Bool.and_eq_true]
      refine and_congr ?_ Iff.rfl
      by_cases h : c ∈ tl ("0123456789" : Str)
      · rw [if_pos h]
        exact ⟨fun _ => (mem_dig c).mp h, fun _ => rfl⟩
      · rw [if_neg h]
        refine ⟨fun z => absurd ((mem_dig c).mpr (by subst z; decide)) h, fun z => absurd ((mem_dig c).mpr z) h⟩
  rw [← key]
  constructor
  · intro h
    rw [← e1, ← h]
    rfl
  · intro h
    refine ext_tl ?_
    rw [e1, ← h]
    rfl
def wv (w : Str) : Int := ((NumText.digitsVal (tl w) : Nat) : Int)
theorem good_all {w : Str} (h : good w = true) : (tl w).all isD = true ∧ 1 ≤ w.length ∧ w.length ≤ 3 := by
  unfold good goodL at h
  simp only [Bool.and_eq_true, decide_eq_true_eq] at h
  obtain ⟨h1, h2, h3, _⟩ := h
  exact ⟨h3, by rw [len_tl]; exact h1, by rw [len_tl]; exact h2⟩
theorem good_int {w : Str} (h : good w = true) : PySem.intText? w = some (wv w) ∧ w.length ≤ 640 := by
  obtain ⟨h1, h2, h3⟩ := good_all h
  have ad : NumText.AllDigits w.cps.toList := fun c hc => by
    have := List.all_eq_true.mp h1 c hc
    unfold isD at this
    simpa using this
  refine ⟨PySem.intText_digits ad (fun z => ?_) (by omega), by omega⟩
  have : (tl w).length = 0 := by rw [show tl w = w.cps.toList from rfl, z]; rfl
  rw [← len_tl] at this
  omega
theorem isDigit_asc : ∀ c : Nat, c < 128 → Unicode.isDigit c = isD c := by
  have h : ∀ c : Fin 128, Unicode.isDigit c.1 = isD c.1 := by decide +kernel
  exact fun c hc => h ⟨c, hc⟩
def Asc (t : Str) : Prop := ∀ c ∈ tl t, c < 128
theorem isdigit_asc {w : Str} (h : Asc w) : Txt.isdigit w = (decide (1 ≤ w.length) && (tl w).all isD) := by
  unfold Txt.isdigit
  congr 1
  rw [← Array.all_toList]
  show (tl w).all Unicode.isDigit = _
  unfold Asc at h
  revert h
  generalize tl w = l
  intro h
  induction l with
  | nil => rfl
  | cons c l ih => rw [List.all_cons, List.all_cons, isDigit_asc c (h c (by simp)), ih fun c hc => h c (by simp [hc])]
/-! ### splitting -/
theorem spl_mem {S : List Nat} : ∀ (l : List Nat) (k : Nat) (acc p : List Nat), p ∈ spl S k acc l → ∀ c ∈ p, c ∈ acc ∨ c ∈ l
  | [], k, acc, p, h, c, hc => by
    rw [spl_nil, List.mem_singleton] at h
    subst h
    exact .inl hc
  | x :: r, 0, acc, p, h, c, hc => by
    unfold spl at h
    split at h
    · rcases List.mem_cons.mp h with rfl | h
      · exact .inl hc
      · rcases spl_mem r _ _ p h c hc with z | z
        · cases z
        · exact .inr (List.mem_cons_of_mem _ z)
    · rcases spl_mem r _ _ p h c hc with z | z
      · rcases List.mem_append.mp z with z | z
        · exact .inl z
        · exact .inr (by rw [List.mem_singleton.mp z]; exact List.mem_cons_self)
      · exact .inr (List.mem_cons_of_mem _ z)
  | x :: r, k + 1, acc, p, h, c, hc => by
    unfold spl at h
    rcases spl_mem r _ _ p h c hc with z | z
    · exact .inl z
    · exact .inr (List.mem_cons_of_mem _ z)
theorem kind_asc (x : Str) {y : Str} (h : y.cps.all (· < 256) = true) : ¬ Builtin.Str.strKind x < Builtin.Str.strKind y := kind_ok h
def barS : Str := " | "
def spS : Str := " "
theorem tl_bar : tl barS = [32, 124, 32] := by decide +kernel
theorem tl_sp : tl spS = [32] := by decide +kernel
theorem split_bar (x : Str) : (Txt.split x barS).map tl = spl [32, 124, 32] 0 [] (tl x) := by
  rw [split_spl x barS (by rw [tl_bar]; simp) (kind_ok (by decide +kernel)), tl_bar]
theorem split_sp (x : Str) : (Txt.split x spS).map tl = spl [32] 0 [] (tl x) := by
  rw [split_spl x spS (by rw [tl_sp]; simp) (kind_ok (by decide +kernel)), tl_sp]
theorem split_asc {x y : Str} {S : List Nat} (e : (Txt.split x y).map tl = spl S 0 [] (tl x)) (h : Asc x) : ∀ w ∈ Txt.split x y, Asc w := fun w hw c hc => by
  have : tl w ∈ spl S 0 [] (tl x) := by rw [← e]; exact List.mem_map_of_mem hw
  rcases spl_mem _ _ _ _ this c hc with z | z
  · cases z
  · exact h c z
def sidesW (t : Str) : List (List Str) := (Txt.split t barS).map fun s => Txt.split s spS
def sidesOf (t : Str) : Option (List Int × List Int) := match sidesW t with
  | [p, q] => if p.all good && q.all good then some (p.map wv, q.map wv) else none
  | _ => none
theorem weigh_bar (x : Str) : ((Txt.split x barS).map (·.length)).sum + (Txt.split x barS).length ≤ x.length + 1 := split_weight x barS (by decide +kernel)
theorem weigh_sp (x : Str) : ((Txt.split x spS).map (·.length)).sum + (Txt.split x spS).length ≤ x.length + 1 := split_weight x spS (by decide +kernel)
theorem words_few (t : Str) : ((sidesW t).flatMap id).length ≤ t.length + 1 := by
  refine Nat.le_trans ?_ (weigh_bar t)
  unfold sidesW
  generalize Txt.split t barS = ss
  induction ss with
  | nil => simp
  | cons s ss ih =>
    have := weigh_sp s
    rw [List.map_cons, List.flatMap_cons, List.length_append, List.map_cons, List.sum_cons, List.length_cons]
    simp only [id] at *
    omega
theorem sides_few (t : Str) : (sidesW t).length ≤ t.length + 1 := by
  have := weigh_bar t
  unfold sidesW
  rw [List.length_map]
  omega
theorem side_short {t : Str} {s : Str} (h : s ∈ Txt.split t barS) : s.length ≤ t.length := part_short h
theorem word_short {t : Str} {s : Str} (h : s ∈ Txt.split t spS) : s.length ≤ t.length := part_short h
theorem words1 {s : Str} : (Txt.split s spS).length ≤ s.length + 1 := by have := weigh_sp s; omega
/-! ### written totals -/
def numS (n : Int) : Str := ((toString n : String) : Str)
def rowS (ns : List Int) : Str := Txt.join spS (ns.map numS)
def totS (a b : List Int) : Str := rowS a ++ barS ++ rowS b
def Tame (ns : List Int) : Prop := ns.length ≤ 10 ∧ ∀ x ∈ ns, x.natAbs < 10 ^ 32
theorem num_len {x : Int} (h : x.natAbs < 10 ^ 32) : (numS x).length ≤ 33 := by
  have := PySem.int_text_length_le10 (k := 32) (by decide) h
  have e : (numS x).length = (toString x).length := by
    unfold numS
    show (Str.ofString (toString x)).length = _
    rw [len_tl, tl_ofString, List.length_map]
    rfl
  omega
theorem num_log {x : Int} (h : x.natAbs < 10 ^ 32) : x.natAbs.log2 < 1920 := by
  by_cases z : x.natAbs = 0
  · rw [z]; decide
  · refine (Nat.log2_lt z).mpr (Nat.lt_trans h (by decide +kernel))
theorem num_asc (x : Int) : Asc (numS x) := fun c hc => by
  have key : ∀ k : Nat, k ∈ tl (numS x) → k = 45 ∨ (48 ≤ k ∧ k ≤ 57) := fun k hk => by
    by_cases e : k ≠ 45 ∧ (k < 48 ∨ 57 < k)
    · exact absurd hk (PyProof.Rows.int_text_free' k e x)
    · omega
  have := key c hc
  omega
theorem num_free {k : Nat} (h : k ≠ 45 ∧ (k < 48 ∨ 57 < k)) (x : Int) : k ∉ tl (numS x) := PyProof.Rows.int_text_free' k h x
theorem joinL_mem {S : List Nat} : ∀ {ps : List (List Nat)} {c : Nat}, c ∈ joinL S ps → c ∈ S ∨ ∃ p ∈ ps, c ∈ p
  | [], c, h => by cases h
  | [p], c, h => .inr ⟨p, by simp, h⟩
  | p :: q :: r, c, h => by
    have h : c ∈ p ++ (S ++ joinL S (q :: r)) := h
    rcases List.mem_append.mp h with h | h
    · exact .inr ⟨p, by simp, h⟩
    rcases List.mem_append.mp h with h | h
    · exact .inl h
    · rcases joinL_mem h with h | ⟨z, hz, h⟩
      · exact .inl h
      · exact .inr ⟨z, List.mem_cons_of_mem _ hz, h⟩
theorem tl_row (ns : List Int) : tl (rowS ns) = joinL [32] (ns.map fun n => tl (numS n)) := by
  unfold rowS
  rw [join_eq, tl_join, tl_sp, List.map_map]
  rfl
theorem row_mem {ns : List Int} {c : Nat} (h : c ∈ tl (rowS ns)) : c = 32 ∨ ∃ n ∈ ns, c ∈ tl (numS n) := by
  rw [tl_row] at h
  rcases joinL_mem h with h | ⟨p, hp, h⟩
  · exact .inl (List.mem_singleton.mp h)
  · obtain ⟨n, hn, rfl⟩ := List.mem_map.mp hp
    exact .inr ⟨n, hn, h⟩
theorem row_asc (ns : List Int) : Asc (rowS ns) := fun c hc => by
  rcases row_mem hc with h | ⟨n, _, h⟩
  · omega
  · exact num_asc n c h
theorem tl_tot (a b : List Int) : tl (totS a b) = tl (rowS a) ++ ([32, 124, 32] ++ tl (rowS b)) := by
  unfold totS
  rw [tl_append, tl_append, tl_bar, List.append_assoc]
theorem tot_asc (a b : List Int) : Asc (totS a b) := fun c hc => by
  rw [tl_tot] at hc
  rcases List.mem_append.mp hc with h | h
  · exact row_asc a c h
  · rcases List.mem_append.mp h with h | h
    · simp only [List.mem_cons, List.not_mem_nil, or_false] at h
      omega
    · exact row_asc b c h
theorem row_len {ns : List Int} (h : Tame ns) : (rowS ns).length ≤ 340 := by
  have hl := h.1
  have hw : ∀ x ∈ ns, (numS x).length ≤ 33 := fun x hx => num_len (h.2 x hx)
  unfold rowS
  rw [join_eq]
  refine Nat.le_trans (PySem.StrLaws.join_length_le spS (ns.map numS)) ?_
  have e : spS.length = 1 := by decide +kernel
  rw [e, List.map_map, List.length_map, Nat.mul_one]
  have : ∀ l : List Int, (∀ x ∈ l, (numS x).length ≤ 33) → (l.map ((·.length) ∘ numS)).sum ≤ 33 * l.length := fun l hl => by
    induction l with
    | nil => simp
    | cons x l ih =>
      have := ih fun y hy => hl y (by simp [hy])
      have := hl x (by simp)
      rw [List.map_cons, List.sum_cons, List.length_cons]
      simp only [Function.comp_apply]
      omega
  have := this ns hw
  omega
theorem tot_len {a b : List Int} (ha : Tame a) (hb : Tame b) : (totS a b).length ≤ 683 := by
  have := row_len ha
  have := row_len hb
  rw [len_tl, tl_tot, List.length_append, List.length_append, ← len_tl, ← len_tl]
  simp only [List.length_cons, List.length_nil]
  omega
/-- read back -/
theorem bar_clear {p r : List Nat} (h : 124 ∉ p) : ∀ i, i < p.length → pre [32, 124, 32] ((p ++ ([32, 124, 32] ++ r)).drop i) = false := fun i hi => by
  by_cases j : i + 1 < p.length
  · have e1 : (p ++ ([32, 124, 32] ++ r)).drop i = p[i] :: p[i + 1] :: (p ++ ([32, 124, 32] ++ r)).drop (i + 2) := by
      rw [List.drop_eq_getElem_cons (by rw [List.length_append]; omega), List.drop_eq_getElem_cons (by rw [List.length_append]; omega), List.getElem_append_left (by omega), List.getElem_append_left (by omega)]
    rw [e1]
    have ne : p[i + 1] ≠ 124 := fun z => h (by rw [← z]; exact List.getElem_mem j)
    unfold pre
    simp [ne]
  · have e : i = p.length - 1 := by omega
    have e1 : (p ++ ([32, 124, 32] ++ r)).drop i = p[i] :: 32 :: 124 :: 32 :: r := by
      rw [List.drop_eq_getElem_cons (by rw [List.length_append]; omega), List.getElem_append_left hi, List.drop_append_of_le_length (by omega), List.drop_of_length_le (by omega)]
      rfl
    rw [e1]
    unfold pre
    simp
theorem split_tot (a b : List Int) : Txt.split (totS a b) barS = [rowS a, rowS b] := by
  refine map_tl_inj ?_
  have no : ∀ ns : List Int, 124 ∉ tl (rowS ns) := fun ns h => by
    rcases row_mem h with h | ⟨n, _, h⟩
    · cases h
    · exact num_free ⟨by decide, by decide⟩ n h
  rw [split_bar, tl_tot, spl_part (by simp) (bar_clear (no a)), spl_last fun i hi => ?_]
  · rfl
  · have := bar_clear (r := []) (no b) i hi
    by_cases j : i + 1 < (tl (rowS b)).length
    · have e1 : (tl (rowS b)).drop i = (tl (rowS b))[i] :: (tl (rowS b))[i + 1] :: (tl (rowS b)).drop (i + 2) := by
        rw [List.drop_eq_getElem_cons (by omega), List.drop_eq_getElem_cons (by omega)]
      rw [e1]
      have ne : (tl (rowS b))[i + 1] ≠ 124 := fun z => no b (by rw [← z]; exact List.getElem_mem j)
      generalize (tl (rowS b))[i + 1] = y at ne
      unfold pre
      simp [ne]
    · have e1 : (tl (rowS b)).drop i = [(tl (rowS b))[i]] := by
        rw [List.drop_eq_getElem_cons (by omega), List.drop_of_length_le (by omega)]
      rw [e1]
      unfold pre
      simp
theorem split_row {ns : List Int} (h : ns ≠ []) : Txt.split (rowS ns) spS = ns.map numS := by
  unfold rowS
  have := split_join (y := spS) (s := 32) (S := []) tl_sp (by decide +kernel) (parts := ns.map numS) (by simpa using h) (fun p hp => by
    obtain ⟨n, _, rfl⟩ := List.mem_map.mp hp
    exact num_free ⟨by decide, by decide⟩ n)
  first
    | exact this
    | (rw [← join_eq] at this; exact this)
theorem num_good {n : Int} (h0 : 0 ≤ n) (h1 : n ≤ 400) : good (numS n) = true ∧ wv (numS n) = n := by
  obtain ⟨m, rfl⟩ := Int.eq_ofNat_of_zero_le h0
  have e : tl (numS (m : Int)) = numL m := tl_num m
  unfold good wv
  rw [e, numL_val]
  refine ⟨?_, rfl⟩
  have key : ∀ i : Fin 401, goodL (numL i.1) = true := by decide +kernel
  exact key ⟨m, by omega⟩
theorem sides_tot {a b : List Int} (ha : a ≠ []) (hb : b ≠ []) (ga : ∀ x ∈ a, 0 ≤ x ∧ x ≤ 400) (gb : ∀ x ∈ b, 0 ≤ x ∧ x ≤ 400) : sidesOf (totS a b) = some (a, b) := by
  have al : ∀ ns : List Int, (∀ x ∈ ns, 0 ≤ x ∧ x ≤ 400) → (ns.map numS).all good = true := fun ns h => by
    rw [List.all_eq_true]
    intro w hw
    obtain ⟨n, hn, rfl⟩ := List.mem_map.mp hw
    exact (num_good (h n hn).1 (h n hn).2).1
  have bk : ∀ ns : List Int, (∀ x ∈ ns, 0 ≤ x ∧ x ≤ 400) → (ns.map numS).map wv = ns := fun ns h => by
    rw [List.map_map]
    conv => rhs; rw [← List.map_id ns]
    exact List.map_congr_left fun n hn => (num_good (h n hn).1 (h n hn).2).2
  unfold sidesOf sidesW
  rw [split_tot]
  simp only [List.map_cons, List.map_nil]
  rw [split_row ha, split_row hb, al a ga, al b gb, bk a ga, bk b gb]
  rfl
end K08
namespace K08
open PySem PySem.Spec PyProof.Rows L2 TL
theorem joinL_nil : ∀ ps : List (List Nat), joinL [] ps = ps.flatten
  | [] => rfl
  | [p] => by simp [joinL]
  | p :: q :: r => by
    rw [List.flatten_cons, ← joinL_nil (q :: r)]
    rfl
def zOf (c : Nat) : Str := if c ∈ tl ("0123456789" : Str) then ("0" : Str) else ⟨#[c]⟩
theorem zOf_len (c : Nat) : (zOf c).length = 1 := by
  unfold zOf
  split
  · decide +kernel
  · rfl
theorem zflat (l : List Nat) : (l.map (tl ∘ zOf)).flatten = l.map fun c => if c ∈ tl ("0123456789" : Str) then 48 else c := by
  induction l with
  | nil => rfl
  | cons c l ih =>
    rw [List.map_cons, List.flatten_cons, ih, List.map_cons]
    have : (tl ∘ zOf) c = [if c ∈ tl ("0123456789" : Str) then 48 else c] := by
      show tl (zOf c) = _
      unfold zOf
      split
      · decide +kernel
      · rfl
    rw [this]
    rfl
theorem zer_join (t : Str) : Txt.join ("" : Str) ((tl t).map zOf) = zer t := by
  rw [join_eq]
  refine ext_tl ?_
  rw [tl_join, show tl ("" : Str) = [] from by decide +kernel, joinL_nil, List.map_map]
  exact zflat (tl t)
theorem sum_ones (l : List Nat) : ((l.map zOf).map (·.length)).sum = l.length := by
  induction l with
  | nil => rfl
  | cons c l ih => rw [List.map_cons, List.map_cons, List.sum_cons, ih, zOf_len, List.length_cons]; omega
theorem zer_len (t : Str) : (zer t).length = t.length := by
  rw [len_tl, len_tl t]
  show (tl ⟨((tl t).map fun c => if c ∈ tl ("0123456789" : Str) then 48 else c).toArray⟩).length = _
  rw [tl_mk, List.length_map]
end K08
namespace K08
open PySem PySem.Spec PyProof.Rows L2 TL
theorem good_eq (t : Str) : good t = (decide (1 ≤ t.length) && (decide (t.length ≤ 3) && ((tl t).all isD && (decide (t.length = 1) || !decide ((tl t)[0]? = some 48))))) := by
  unfold good goodL
  rw [len_tl]
theorem one_zero {t : Str} : t = ("0" : Str) ↔ tl t = [48] := by
  have e : tl ("0" : Str) = [48] := by decide +kernel
  exact ⟨fun h => by rw [h, e], fun h => ext_tl (by rw [h, e])⟩
theorem sign_zero {c : Nat} : (⟨#[c]⟩ : Str) = ("0" : Str) ↔ c = 48 := by
  rw [one_zero, show tl ⟨#[c]⟩ = [c] from rfl]
  exact ⟨fun h => by simpa using h, fun h => by rw [h]⟩
theorem head_at {t : Str} (h : 1 ≤ t.length) : ∃ c, (tl t)[0]? = some c ∧ atI t.cps.toList (0 : Int) = some c := by
  rw [len_tl] at h
  have e : (tl t)[0]? = some (tl t)[0] := List.getElem?_eq_getElem (by omega)
  exact ⟨(tl t)[0], e, L2.atI_nat e⟩
end K08
namespace K08
open PySem PySem.Spec PyProof.Rows L2 TL
def okT (t : Str) : Bool := decide ((sidesW t).length = 2) && ((sidesW t).flatMap id).all good
theorem okT_yes {t : Str} (h : okT t = true) : ∃ p q, sidesW t = [p, q] ∧ p.all good = true ∧ q.all good = true ∧ sidesOf t = some (p.map wv, q.map wv) := by
  unfold okT at h
  simp only [Bool.and_eq_true, decide_eq_true_eq] at h
  obtain ⟨h1, h2⟩ := h
  obtain ⟨p, q, e⟩ : ∃ p q, sidesW t = [p, q] := by
    match sidesW t, h1 with
    | [p, q], _ => exact ⟨p, q, rfl⟩
  rw [e] at h2
  simp only [List.flatMap_cons, List.flatMap_nil, id, List.append_nil, List.all_append, Bool.and_eq_true] at h2
  refine ⟨p, q, e, h2.1, h2.2, ?_⟩
  unfold sidesOf
  rw [e]
  simp only [h2.1, h2.2, Bool.and_self, if_true]
theorem okT_no {t : Str} (h : okT t = false) : sidesOf t = none := by
  unfold okT at h
  unfold sidesOf
  split
  · rename_i p q e
    rw [e] at h
    simp only [List.length_cons, List.length_nil, decide_true, Bool.true_and, List.flatMap_cons, List.flatMap_nil, id, List.append_nil, List.all_append] at h
    rw [if_neg (by rw [h]; decide)]
  · rfl
end K08
namespace K08
open PySem PySem.Spec PyProof.Rows L2 TL
theorem row_sum {ns : List Int} (h : Tame ns) : ((ns.map numS).map (·.length)).sum + (ns.map numS).length * spS.length ≤ 340 := by
  have hl := h.1
  have hw : ∀ x ∈ ns, (numS x).length ≤ 33 := fun x hx => num_len (h.2 x hx)
  have e : spS.length = 1 := by decide +kernel
  rw [e, List.map_map, List.length_map, Nat.mul_one]
  have : ∀ l : List Int, (∀ x ∈ l, (numS x).length ≤ 33) → (l.map ((·.length) ∘ numS)).sum ≤ 33 * l.length := fun l hl => by
    induction l with
    | nil => simp
    | cons x l ih =>
      have := ih fun y hy => hl y (by simp [hy])
      have := hl x (by simp)
      rw [List.map_cons, List.sum_cons, List.length_cons]
      simp only [Function.comp_apply]
      omega
  have := this ns hw
  omega
theorem emp_app (x : Str) : Str.empty ++ x = x := ext_tl (by rw [tl_append]; rfl)
theorem app_len (x y : Str) : (x ++ y).length = x.length + y.length := by rw [len_tl, tl_append, List.length_append, ← len_tl, ← len_tl]
end K08
set_option Elab.async false
set_option linter.all false
set_option maxRecDepth 100000
set_option maxHeartbeats 4000000
namespace K08
open PySem PySem.Spec PyProof.Rows L2 Wl Kx
section
variable {P : Program} {w : World} {K : PySem.W.Frag} {mg : Str → Option Value} {base : Heap} {f : Addr} {fd : FuncData}
/-! ### texts of digits -/
abbrev digits_as_zeros_N : List Str := ["text", "character"]
theorem digits_as_zeros_sc : FnScope ["text", "character"] ["text"] (defScope digits_as_zeros_st) := ⟨rfl, rfl, rfl, by decide +kernel, rfl, by decide +kernel, by decide +kernel⟩
def S_zer : PX := fun φs k _ => ∃ t : Str, φs = [TS t] ∧ t.length ≤ 1000 ∧ k (TS (zer t))
theorem ok_zer {tD : Value} (F : FnS K "digits_as_zeros" digits_as_zeros_st f fd) (g_DIGITS : mg "DIGITS" = some tD) (r_DIGITS : RelV (.str "0123456789") tD) : FnOk P w K mg base (L2N.CX P w) 1 f fd ["text"] (spX S_zer) := by
  refine F.ok digits_as_zeros_sc (fun vs H Q E h => lenX (n := 1) (fun φs k kx ⟨t, e, _⟩ => by rw [e]; rfl) h) (fun cdv A outer s H vs Q E hr h => ⟨_, (pss_one (ps_ret (pe_join pe_str (pe_lc (own := [("character", 1)]) rfl digits_as_zeros_sc.nd (pi_str (pv 0)) (blkOk_by (own := [("character", 1)]) (N := digits_as_zeros_N) (sc := defScope digits_as_zeros_st) (by decide +kernel)) (fun _ _ _ _ _ => (pg_name (i := 1) digits_as_zeros_sc.nd rfl (Or.inl rfl))) (fun _ _ _ _ _ => pts_nil) (fun _ _ _ _ _ => (pe_ifExp (pt_cmpR op_in_sign (pv 1) (pe_glob (v := .str "0123456789") rfl g_DIGITS r_DIGITS) rfl) pe_str (pv 1))))))), enterX (n := 2) rfl h fun A φs k kx hS hE => ?_⟩)
  obtain ⟨t, rfl, l, h1⟩ := hS
  refine Dt_ret (De_join (De_c ⟨_, rfl, Dl_dn (Dn_mapL (us := [1]) (TL.tl t) (fun c => T1 c) (fun c => TS (zOf c)) (by decide) (by rw [← TL.len_tl]; exact l) (Di_str (De_var rfl ⟨_, rfl, rfl⟩)) (fun c hc => Dg_name ?_) ⟨_, rfl, (TL.tl t).map zOf, by rw [List.map_map]; rfl, ?_, ?_⟩)⟩))
  · refine De_ifExp (Dc_test (De_op (De_var rfl (De_c (Rr_inSign ⟨_, rfl, fun z => De_c ?_, fun z => De_var rfl ?_⟩)))))
    · unfold zOf
      rw [if_pos (of_decide_eq_true z)]
    · unfold zOf
      rw [if_neg (of_decide_eq_false z)]
  · rw [sum_ones, List.length_map, ← TL.len_tl, show (("" : Str)).length = 0 from by decide +kernel]
    omega
  · rw [zer_join]
    exact h1
abbrev is_written_number_N : List Str := ["word", "most_digits"]
theorem is_written_number_sc : FnScope ["word", "most_digits"] ["word", "most_digits"] (defScope is_written_number_st) := ⟨rfl, rfl, rfl, by decide +kernel, rfl, by decide +kernel, by decide +kernel⟩
def S_num : PX := fun φs k _ => ∃ t : Str, φs = [TS t, TI 3] ∧ t.length ≤ 1000 ∧ k (TB (good t))
theorem ok_num {f1 : Addr} {fd1 : FuncData} (F : FnS K "is_written_number" is_written_number_st f fd) (m_len : mg "len" = none) (D_digits_as_zeros : Df P w K mg base 1 "digits_as_zeros" ["text"] (spX S_zer) f1 fd1) : FnOk P w K mg base (L2N.CX P w) 2 f fd ["word", "most_digits"] (spX S_num) := by
  refine F.ok is_written_number_sc (fun vs H Q E h => lenX (n := 2) (fun φs k kx ⟨t, e, _⟩ => by rw [e]; rfl) h) (fun cdv A outer s H vs Q E hr h => ⟨_, (pss_cons (ps_if (PW.pt (pw_or (pt_not (pt_chain op_le op_le pe_int (pe_callB (call_len : CallR _ _ (rLenS K)) (by rfl) m_len (by decide +kernel) (pa_cons (pv 0) pa_nil)) (pv 1))) (pw_or1 (pt_cmpR op_ne (pe_call D_digits_as_zeros.ok (hr.mono (by first | decide | omega)) rfl D_digits_as_zeros.g D_digits_as_zeros.kp D_digits_as_zeros.b .nil ErrX.passN (pa_cons (pv 0) pa_nil)) (pe_op op_mulS pe_str (pe_callB (call_len : CallR _ _ (rLenS K)) (by rfl) m_len (by decide +kernel) (pa_cons (pv 0) pa_nil))) (nomark _))))) (pss_one (ps_ret pe_bl)) pss_nil)
      (pss_one (ps_ret (pe_or (pe_cmpR op_eq (pv 0) pe_str (nomark _)) (pe_one (pe_cmpR op_ne (pe_ix ix_str (pv 0) pe_int (fun _ _ => rfl)) pe_str (nomark _))))))), enterX (n := 2) rfl h fun A φs k kx hS hE => ?_⟩)
  obtain ⟨t, rfl, l, h1⟩ := hS
  (repeat' (first  | ((with_reducible apply De_var); exact rfl) | with_reducible refine De_c ?_ | with_reducible refine De_op ?_ | with_reducible refine Rr_I0 ?_ | ((with_reducible refine Rr_eq ?_ ?_); exact rfl) | ((with_reducible refine Rr_ne ?_ ?_); exact rfl) | with_reducible refine De_chain ?_ | with_reducible refine ⟨_, rfl, ?_⟩ | with_reducible refine Dc_test ?_ | with_reducible refine Dc_b ?_ | with_reducible refine Dc_not ?_ | with_reducible refine Dc_and ?_ | with_reducible refine Dc_or ?_ | with_reducible refine De_and ?_ | with_reducible refine De_or ?_ | with_reducible refine De_not ?_ | with_reducible refine Dt_if ?_ | with_reducible refine Da_cons ?_ | with_reducible refine Da_nil ?_ | with_reducible refine Dt_seq ?_ | with_reducible refine Dt_next ?_ | with_reducible refine De_un ?_ | with_reducible refine br_dec (fun _ => ?_) (fun _ => ?_) | with_reducible refine br_ndec (fun _ => ?_) (fun _ => ?_) | with_reducible refine br_t ?_ | with_reducible refine br_f ?_ | with_reducible refine br_nt ?_ | with_reducible refine br_nf ?_ | ((with_reducible refine De_len ?_); first | ((with_reducible apply Dl_im); exact rfl) | ((with_reducible apply Dl_ow); exact rfl)) | ((with_reducible refine De_sumL ?_); first | ((with_reducible apply Dl_im); exact rfl) | ((with_reducible apply Dl_ow); exact rfl)) | with_reducible refine ⟨rfl, ?_⟩ | with_reducible refine De_cb ?_ | with_reducible refine Rc_min2 ?_ | with_reducible refine Rc_max2 ?_ | with_reducible refine Rc_abs ?_ | with_reducible refine Rc_int1 ?_ | with_reducible refine Rc_intB ?_ | with_reducible refine Rc_lenU ?_ | refine Rc_lenQ ?_ | with_reducible refine Rr_IC ?_ ?_ | with_reducible refine Rr_isN ?_ | with_reducible refine Rr_isN_no (nn_tup _) ?_ | with_reducible refine Rr_notN ?_ | with_reducible refine Rr_notN_no (nn_tup _) ?_ | with_reducible refine Dt_ret ?_ | with_reducible refine Dt_set ?_ | with_reducible refine Dt_drop ?_ | with_reducible refine De_call ?_ | with_reducible refine De_callN ?_ | with_reducible refine De_ifExp ?_ | with_reducible refine De_prop ?_ | with_reducible refine De_fld ?_ | with_reducible refine ⟨⟨_, rfl⟩, ?_⟩ | ((with_reducible refine De_tupL ?_); first | ((with_reducible apply Dl_im); exact rfl) | ((with_reducible apply Dl_ow); exact rfl))))
  refine Rc_lenS (by omega) ?_
  (repeat' (first  | ((with_reducible apply De_var); exact rfl) | with_reducible refine De_c ?_ | with_reducible refine De_op ?_ | with_reducible refine Rr_I0 ?_ | ((with_reducible refine Rr_eq ?_ ?_); exact rfl) | ((with_reducible refine Rr_ne ?_ ?_); exact rfl) | with_reducible refine De_chain ?_ | with_reducible refine ⟨_, rfl, ?_⟩ | with_reducible refine Dc_test ?_ | with_reducible refine Dc_b ?_ | with_reducible refine Dc_not ?_ | with_reducible refine Dc_and ?_ | with_reducible refine Dc_or ?_ | with_reducible refine De_and ?_ | with_reducible refine De_or ?_ | with_reducible refine De_not ?_ | with_reducible refine Dt_if ?_ | with_reducible refine Da_cons ?_ | with_reducible refine Da_nil ?_ | with_reducible refine Dt_seq ?_ | with_reducible refine Dt_next ?_ | with_reducible refine De_un ?_ | with_reducible refine br_dec (fun _ => ?_) (fun _ => ?_) | with_reducible refine br_ndec (fun _ => ?_) (fun _ => ?_) | with_reducible refine br_t ?_ | with_reducible refine br_f ?_ | with_reducible refine br_nt ?_ | with_reducible refine br_nf ?_ | ((with_reducible refine De_len ?_); first | ((with_reducible apply Dl_im); exact rfl) | ((with_reducible apply Dl_ow); exact rfl)) | ((with_reducible refine De_sumL ?_); first | ((with_reducible apply Dl_im); exact rfl) | ((with_reducible apply Dl_ow); exact rfl)) | with_reducible refine ⟨rfl, ?_⟩ | with_reducible refine De_cb ?_ | with_reducible refine Rc_min2 ?_ | with_reducible refine Rc_max2 ?_ | with_reducible refine Rc_abs ?_ | with_reducible refine Rc_int1 ?_ | with_reducible refine Rc_intB ?_ | with_reducible refine Rc_lenU ?_ | refine Rc_lenQ ?_ | with_reducible refine Rr_IC ?_ ?_ | with_reducible refine Rr_isN ?_ | with_reducible refine Rr_isN_no (nn_tup _) ?_ | with_reducible refine Rr_notN ?_ | with_reducible refine Rr_notN_no (nn_tup _) ?_ | with_reducible refine Dt_ret ?_ | with_reducible refine Dt_set ?_ | with_reducible refine Dt_drop ?_ | with_reducible refine De_call ?_ | with_reducible refine De_callN ?_ | with_reducible refine De_ifExp ?_ | with_reducible refine De_prop ?_ | with_reducible refine De_fld ?_ | with_reducible refine ⟨⟨_, rfl⟩, ?_⟩ | ((with_reducible refine De_tupL ?_); first | ((with_reducible apply Dl_im); exact rfl) | ((with_reducible apply Dl_ow); exact rfl))))
  · have : good t = false := by rw [good_eq]; simp [show ¬ t.length ≤ 3 by omega]
    exact this ▸ h1
  · refine ⟨t, rfl, l, ?_⟩
    refine De_op (De_c (De_cb (Da_cons (De_var rfl (Da_nil (Rc_lenS (by omega) (Rr_mulS ?_ (by omega) (Rr_ne rfl ⟨_, rfl, br_ndec (fun z => ?_) fun z => ?_⟩))))))))
    · rw [show (("0" : Str)).length = 1 from by decide +kernel]
      omega
    · have : good t = false := by
        rw [good_eq]
        have : (TL.tl t).all isD = false := by
          cases e : (TL.tl t).all isD with
          | false => rfl
          | true => exact absurd (congrArg V.str ((zer_rep t).mpr e)) z
        simp [this]
      exact Dt_seq (Dt_ret (De_c (this ▸ h1)))
    · have ad := (zer_rep t).mp (V.str.inj z)
      obtain ⟨c, hc, ha⟩ := head_at (t := t) (by omega)
      refine Dt_next (Dt_ret (De_or (De_op (De_var rfl (De_c (Rr_eq rfl ⟨_, rfl, fun z2 => ?_, fun z2 => ?_⟩))))))
      · have e := one_zero.mp (V.str.inj (of_decide_eq_true z2))
        have : good t = true := by
          rw [good_eq, ad, e, TL.len_tl, e]
          rfl
        exact this ▸ h1
      · refine De_op (De_op (De_var rfl (De_c (Rr_ixS (by show _ ≤ 2 ^ 24; omega) ha (De_c (Rr_ne rfl ?_))))))
        have ne : ¬ t = ("0" : Str) := fun q => absurd (congrArg V.str q) (of_decide_eq_false z2)
        have : good t = (!decide (V.str ⟨#[c]⟩ = V.str ("0" : Str))) := by
          rw [good_eq, ad, hc]
          by_cases e1 : c = 48
          · subst e1
            have l1 : ¬ t.length = 1 := fun l1 => ne (one_zero.mpr (by
              rw [TL.len_tl] at l1
              obtain ⟨x, hx⟩ := List.length_eq_one_iff.mp l1
              rw [hx] at hc ⊢
              simpa using hc))
            rw [decide_eq_true (congrArg V.str (sign_zero.mpr rfl))]
            simp [l1]
          · rw [decide_eq_false (fun q => e1 (sign_zero.mp (V.str.inj q)))]
            simp [e1]
            omega
        exact this ▸ h1
  · have : good t = false := by rw [good_eq]; simp [show ¬ 1 ≤ t.length by omega]
    exact this ▸ h1
end
end K08
set_option Elab.async false
set_option linter.all false
set_option maxRecDepth 100000
set_option maxHeartbeats 4000000
namespace K08
open PySem PySem.Spec PyProof.Rows L2 Wl Kx
section
variable {P : Program} {w : World} {K : PySem.W.Frag} {mg : Str → Option Value} {base : Heap} {f : Addr} {fd : FuncData}
/-! ### reading -/
abbrev written_sides_N : List Str := ["text", "side"]
theorem written_sides_sc : FnScope ["text", "side"] ["text"] (defScope written_sides_st) := ⟨rfl, rfl, rfl, by decide +kernel, rfl, by decide +kernel, by decide +kernel⟩
abbrev sidesT (t : Str) : Ty := TL ((sidesW t).map fun ws => TL (ws.map TS))
def S_wsides : PX := fun φs k _ => ∃ t : Str, φs = [TS t] ∧ t.length ≤ 900 ∧ k (sidesT t)
theorem ok_wsides (F : FnS K "_written_sides" written_sides_st f fd) : FnOk P w K mg base (L2N.CX P w) 1 f fd ["text"] (spX S_wsides) := by
  refine F.ok written_sides_sc (fun vs H Q E h => lenX (n := 1) (fun φs k kx ⟨t, e, _⟩ => by rw [e]; rfl) h) (fun cdv A outer s H vs Q E hr h => ⟨_, (pss_one (ps_ret (pe_lc (own := [("side", 1)]) rfl written_sides_sc.nd (pi_list (pe_split (pv 0) pe_str)) (blkOk_by (own := [("side", 1)]) (N := written_sides_N) (sc := defScope written_sides_st) (by decide +kernel)) (fun _ _ _ _ _ => (pg_name (i := 1) written_sides_sc.nd rfl (Or.inl rfl))) (fun _ _ _ _ _ => pts_nil) (fun _ _ _ _ _ => (pe_split (pv 1) pe_str))))), enterX (n := 2) rfl h fun A φs k kx hS hE => ?_⟩)
  obtain ⟨t, rfl, l, h1⟩ := hS
  have few : (Txt.split t barS).length ≤ 1000 := by have := sides_few t; unfold sidesW at this; rw [List.length_map] at this; omega
  refine Dt_ret (De_dn (Dn_mapL (us := [1]) (Txt.split t barS) (fun s => TS s) (fun s => TL ((Txt.split s spS).map TS)) (by decide) few (Di_list (De_dn (Dn_split (De_var rfl ⟨_, rfl, De_c ⟨_, rfl, by decide +kernel, by omega, _, rfl, _, rfl, rfl⟩⟩)))) (fun s hs => Dg_name (De_dn (Dn_split (De_var rfl ⟨_, rfl, De_c ⟨_, rfl, by decide +kernel, ?_, _, rfl, rfl⟩⟩)))) ⟨_, rfl, ?_⟩))
  · have := side_short hs
    omega
  · unfold sidesT sidesW at h1
    rw [List.map_map] at h1
    exact h1
abbrev is_written_totals_N : List Str := ["text", "sides", "side", "word"]
theorem is_written_totals_sc : FnScope ["text", "sides", "side", "word"] ["text"] (defScope is_written_totals_st) := ⟨rfl, rfl, rfl, by decide +kernel, rfl, by decide +kernel, by decide +kernel⟩
theorem noOw4 {a b c : Ty} : NoOw [.im a, .im b, .im c, .no] := fun j θ h => by
  match j, h with
  | 0, h => cases h
  | 1, h => cases h
  | 2, h => cases h
  | 3, h => cases h
  | n + 4, h => cases h
def S_wtot : PX := fun φs k _ => ∃ t : Str, φs = [TS t] ∧ t.length ≤ 900 ∧ k (TB (okT t))
theorem ok_wtot {f1 f2 : Addr} {fd1 fd2 : FuncData} {u3 : Value} (F : FnS K "is_written_totals" is_written_totals_st f fd) (m_len : mg "len" = none) (m_all : mg "all" = none) (g_M3 : mg "MOST_DIGITS" = some u3) (r_M3 : RelV (.int 3) u3)
    (D_written_sides : Df P w K mg base 1 "_written_sides" ["text"] (spX S_wsides) f1 fd1) (D_is_written_number : Df P w K mg base 2 "is_written_number" ["word", "most_digits"] (spX S_num) f2 fd2) : FnOk P w K mg base (L2N.CX P w) 3 f fd ["text"] (spX S_wtot) := by
  refine F.ok is_written_totals_sc (fun vs H Q E h => lenX (n := 1) (fun φs k kx ⟨t, e, _⟩ => by rw [e]; rfl) h) (fun cdv A outer s H vs Q E hr h => ⟨_, (pss_cons (ps_set (i := 1) is_written_totals_sc.nd rfl (Or.inl rfl) (pe_call D_written_sides.ok (hr.mono (by first | decide | omega)) rfl D_written_sides.g D_written_sides.kp D_written_sides.b .nil ErrX.passN (pa_cons (pv 0) pa_nil)))
      (pss_one (ps_ret (pe_and (pe_cmpR op_eq (pe_callB call_len_seq (by rfl) m_len (by decide +kernel) (pa_cons (pv 1) pa_nil)) pe_int (nomark _)) (pe_one (pe_callB (cr_all rfl) (by rfl) m_all (by decide +kernel) (pa_cons (pe_lc2 (own := [("side", 2), ("word", 3)]) (vs1 := [3]) rfl is_written_totals_sc.nd (pi_list (pv 1)) (blkOk_by (own := [("side", 2), ("word", 3)]) (N := is_written_totals_N) (sc := defScope is_written_totals_st) (by decide +kernel)) (by decide) (fun _ _ _ _ _ => (pg_name (i := 2) is_written_totals_sc.nd rfl (Or.inl rfl))) (fun _ _ _ _ _ => pts_nil) (fun _ _ _ _ _ => (pi_list (pv 2) : PI _ _ _ (iList K _))) (fun _ _ _ _ _ => (pg_name (i := 3) is_written_totals_sc.nd rfl (Or.inl rfl))) (fun _ _ _ _ _ => pts_nil) (fun _ _ _ _ _ => (pe_call D_is_written_number.ok (hr.mono (by first | decide | omega)) rfl D_is_written_number.g D_is_written_number.kp D_is_written_number.b .nil ErrX.passN (pa_cons (pv 3) (pa_cons (pe_glob (v := .int 3) rfl g_M3 r_M3) pa_nil))))) pa_nil))))))), enterX (n := 4) rfl h fun A φs k kx hS hE => ?_⟩)
  obtain ⟨t, rfl, l, h1⟩ := hS
  have few := words_few t
  refine Dt_seq (Dt_set (De_callN (Da_cons (De_var rfl (Da_nil ⟨t, rfl, l, ?_⟩)))))
  refine Dt_ret (De_and (De_op (De_len (Dl_im rfl (De_c (Rr_eq rfl ⟨_, rfl, fun z => ?_, fun z => ?_⟩))))))
  · have z : (sidesW t).length = 2 := by
      have z := V.int.inj (of_decide_eq_true z)
      rw [List.length_map] at z
      omega
    refine De_all (Dl_dn (Dn_lc2L (us := [2]) (us1 := [3]) (sidesW t) (fun ws => TL (ws.map TS)) (fun ws => ws) (fun _ w => TS w) (fun _ w => TB (good w)) (by decide) (by decide) (Nat.le_trans (show ((sidesW t).flatMap fun ws => ws).length ≤ t.length + 1 from few) (by omega)) (Di_list (De_var rfl ⟨_, rfl, rfl⟩)) (fun ws hws => Dg_name ⟨noOw4, Di_list (De_var rfl ⟨_, rfl, rfl, fun w hw => Dg_name ?_⟩)⟩) ⟨_, rfl, ((sidesW t).flatMap id).map good, ?_, ?_⟩))
    · refine De_callN (Da_cons (De_var rfl (Da_cons (De_c (Da_nil ⟨w, rfl, ?_, rfl⟩)))))
      unfold sidesW at hws
      obtain ⟨sd, hsd, rfl⟩ := List.mem_map.mp hws
      have := side_short hsd
      have := word_short hw
      omega
    · generalize sidesW t = ss
      induction ss with
      | nil => rfl
      | cons s ss ih => rw [List.flatMap_cons, ih, List.flatMap_cons, List.map_append, List.map_append, List.map_map, List.map_map]; rfl
    · have : okT t = (((sidesW t).flatMap id).map good).all id := by
        unfold okT
        rw [z, List.all_map]
        rfl
      rw [← this]
      exact h1
  · have : okT t = false := by
      unfold okT
      have z : ¬ (sidesW t).length = 2 := fun q => absurd (congrArg (fun n : Nat => V.int n) (by rw [List.length_map]; exact q)) (of_decide_eq_false z)
      simp [z]
    exact this ▸ h1
abbrev Totals_read_N : List Str := ["cls", "text", "supplies", "demands", "word"]
theorem Totals_read_sc : FnScope ["cls", "text", "supplies", "demands", "word"] ["cls", "text"] (defScope Totals_read_st) := ⟨rfl, rfl, rfl, by decide +kernel, rfl, by decide +kernel, by decide +kernel⟩
def S_read (CT : Addr) (ca : Er8 → Addr) : PX := fun φs k kx => ∃ t : Str, φs = [TV (.ref CT), TS t] ∧ t.length ≤ 900 ∧ (sidesOf t = none → kx (ca .unr) [("text", TS t)]) ∧ (∀ a b, sidesOf t = some (a, b) → QM ca a b kx (k (TTot CT a b)))
theorem ok_read {ca : Er8 → Addr} {CT fI f1 f2 fE : Addr} {fdI fd1 fd2 fdE : FuncData} {psE : List Str} (F : FnM K "read" "Totals.read" Totals_read_st f fd) (m_int : mg "int" = none)
    (D_is_written_totals : Df P w K mg base 3 "is_written_totals" ["text"] (spX S_wtot) f1 fd1) (D_written_sides : Df P w K mg base 1 "_written_sides" ["text"] (spX S_wsides) f2 fd2) (D_Unread : ErS P w K mg base "Unread" "text" (ca .unr) fE fdE psE)
    (D_Totals : Kn P w K mg base 5 "Totals" CT ["self", "supplies", "demands"] (spInit CT (S_tinit ca)) fI fdI) : FnOk P w K mg base (L2N.CX P w) 7 f fd ["cls", "text"] (spX (S_read CT ca)) := by
  refine F.ok Totals_read_sc (fun vs H Q E h => lenX (n := 2) (fun φs k kx ⟨t, e, _⟩ => by rw [e]; rfl) h) (fun cdv A outer s H vs Q E hr h => ⟨_, (pss_cons (ps_if (pt_not (pt_val (pe_call D_is_written_totals.ok (hr.mono (by first | decide | omega)) rfl D_is_written_totals.g D_is_written_totals.kp D_is_written_totals.b .nil ErrX.passN (pa_cons (pv 1) pa_nil)))) (pss_one (L2N.ps_raise rfl (L2N.takes_of rfl rfl rfl rfl) (ErrX.pmk_err1S D_Unread.T D_Unread.iC D_Unread.tI D_Unread.F (hr.mono (by first | decide | omega)) D_Unread.b ErrX.passN rfl D_Unread.g (pa_cons (pv 1) pa_nil)))) pss_nil)
      (pss_cons (ps_asg (pe_call D_written_sides.ok (hr.mono (by first | decide | omega)) rfl D_written_sides.g D_written_sides.kp D_written_sides.b .nil ErrX.passN (pa_cons (pv 1) pa_nil)) (pg_unl rfl (pgs_cons (pg_name (i := 2) Totals_read_sc.nd rfl (Or.inl rfl)) (pgs_cons (pg_name (i := 3) Totals_read_sc.nd rfl (Or.inl rfl)) pgs_nil))))
      (pss_one (ps_ret (OwnB.pe_makeL (i := 0) D_Totals.mkk D_Totals.ok (hr.mono (by first | decide | omega)) rfl (Or.inl rfl) D_Totals.b (passO (L2N.takes_of rfl rfl rfl rfl)) (pa_cons (pe_lc (own := [("word", 4)]) rfl Totals_read_sc.nd (pi_list (pv 2)) (blkOk_by (own := [("word", 4)]) (N := Totals_read_N) (sc := defScope Totals_read_st) (by decide +kernel)) (fun _ _ _ _ _ => (pg_name (i := 4) Totals_read_sc.nd rfl (Or.inl rfl))) (fun _ _ _ _ _ => pts_nil) (fun _ _ _ _ _ => (pe_callTy (call_int_str : CallR _ _ rIntS) (by rfl) m_int (by decide +kernel) (pa_cons (pv 4) pa_nil)))) (pa_cons (pe_lc (own := [("word", 4)]) rfl Totals_read_sc.nd (pi_list (pv 3)) (blkOk_by (own := [("word", 4)]) (N := Totals_read_N) (sc := defScope Totals_read_st) (by decide +kernel)) (fun _ _ _ _ _ => (pg_name (i := 4) Totals_read_sc.nd rfl (Or.inl rfl))) (fun _ _ _ _ _ => pts_nil) (fun _ _ _ _ _ => (pe_callTy (call_int_str : CallR _ _ rIntS) (by rfl) m_int (by decide +kernel) (pa_cons (pv 4) pa_nil)))) pa_nil))))))), enterX (n := 5) rfl h fun A φs k kx hS hE => ?_⟩)
  obtain ⟨t, rfl, l, h1, h2⟩ := hS
  refine Dt_seq (Dt_if (Dc_not (Dc_test (De_callN (Da_cons (De_var rfl (Da_nil ⟨t, rfl, l, okT t, rfl, br_b (fun z => ?_) fun z => ?_⟩)))))))
  · have z : okT t = false := by simpa using z
    exact Dt_raise1S hE (Da_cons (De_var rfl (Da_nil ⟨t, rfl, h1 (okT_no z)⟩)))
  · have z : okT t = true := by simpa using z
    obtain ⟨p, q, es, gp, gq, eo⟩ := okT_yes z
    have sm : ∀ ws ∈ sidesW t, ws.length ≤ 1000 := fun ws hws => by
      unfold sidesW at hws
      obtain ⟨sd, hsd, rfl⟩ := List.mem_map.mp hws
      have := side_short hsd
      have := words1 (s := sd)
      omega
    have lp := sm p (by rw [es]; simp)
    have lq := sm q (by rw [es]; simp)
    refine Dt_next (Dt_seq (Dt_asg (us := [2] ++ ([3] ++ [])) (De_callN (Da_cons (De_var rfl (Da_nil ⟨t, rfl, l, ?_⟩))))))
    unfold sidesT
    rw [es]
    refine Dg_unl rfl (Dgs_cons (Dg_name (Dgs_cons (Dg_name (Dgs_nil ?_)))))
    have one : ∀ (ws : List Str) (hw : ws.all good = true), ∀ w ∈ ws, PySem.intText? w = some (wv w) ∧ w.length ≤ 640 := fun ws hw w h => good_int (List.all_eq_true.mp hw w h)
    refine Dt_ret (De_makeL rfl hE (Da_cons (De_dn (Dn_mapL (us := [4]) p (fun w => TS w) (fun w => TI (wv w)) (by decide) lp (Di_list (De_var rfl ⟨_, rfl, rfl⟩)) (fun w hw => Dg_name (De_cb (Da_cons (De_var rfl (Da_nil (Rc_intS (one p gp w hw).1 (one p gp w hw).2 rfl)))))) ⟨_, rfl, ?_⟩))))
    refine Da_cons (De_dn (Dn_mapL (us := [4]) q (fun w => TS w) (fun w => TI (wv w)) (by decide) lq (Di_list (De_var rfl ⟨_, rfl, rfl⟩)) (fun w hw => Dg_name (De_cb (Da_cons (De_var rfl (Da_nil (Rc_intS (one q gq w hw).1 (one q gq w hw).2 rfl)))))) ⟨_, rfl, Da_nil ?_⟩))
    exact ⟨TL, TL, p.map wv, q.map wv, .inl rfl, .inl rfl, by rw [TIs, TIs, List.map_map, List.map_map]; rfl, h2 _ _ eo⟩
end
end K08
set_option Elab.async false
set_option linter.all false
set_option maxRecDepth 100000
set_option maxHeartbeats 4000000
namespace K08
open PySem PySem.Spec PyProof.Rows L2 Wl Kx
structure On (P : Program) (w : World) (K : PySem.W.Frag) (mg : Str → Option Value) (base : Heap) (k : Nat) (C : Addr) (x : Str) (sp : Sp) (f : Addr) (fd : FuncData) : Prop where
  ok : FnOk P w K mg base (L2N.CX P w) k f fd ["self", "other"] sp
  b : Binds K fd ["self", "other"] []
  s : PySem.W.findIn K (.ref C) x = some (some (.ref f))
  fn : PySem.W.isFn K (.ref f) = true
theorem le_sum {ns : List Int} (h : ∀ x ∈ ns, 0 ≤ x) {y : Int} (hy : y ∈ ns) : 0 ≤ ns.sum ∧ y ≤ ns.sum := by
  induction ns with
  | nil => cases hy
  | cons x ns ih =>
    have h0 : 0 ≤ ns.sum := by
      clear ih hy
      induction ns with
      | nil => decide
      | cons z ns ih =>
        have := ih fun x hx => h x (by rcases List.mem_cons.mp hx with q | q <;> simp [q])
        have := h z (by simp)
        rw [List.sum_cons]
        omega
    have hx0 := h x List.mem_cons_self
    rw [List.sum_cons]
    rcases List.mem_cons.mp hy with rfl | hy
    · omega
    · have := ih (fun z hz => h z (List.mem_cons_of_mem _ hz)) hy
      omega
theorem okT_of {a b : List Int} (la : lens a) (lb : lens b) (na : ∀ x ∈ a, 0 ≤ x) (nb : ∀ x ∈ b, 0 ≤ x) (e : a.sum = b.sum) (l : a.sum ≤ 400) : OkT a b :=
  ⟨la, lb, bad_none.mpr fun x hx => ⟨na x hx, by have := le_sum na hx; omega⟩, bad_none.mpr fun x hx => ⟨nb x hx, by have := le_sum nb hx; omega⟩, e, l⟩
theorem OkT.na {a b : List Int} (g : OkT a b) : ∀ x ∈ a, 0 ≤ x ∧ x ≤ 400 := fun x hx => bad_none.mp g.sb x hx
theorem OkT.nb {a b : List Int} (g : OkT a b) : ∀ x ∈ b, 0 ≤ x ∧ x ≤ 400 := fun x hx => bad_none.mp g.db x hx
theorem OkT.turn {a b : List Int} (g : OkT a b) : OkT b a := ⟨g.d1, g.s1, g.db, g.sb, g.eq.symm, by rw [← g.eq]; exact g.le⟩
def adds (ss ds : List Int) : List Int := (ss.zip ds).map fun q => q.1 + q.2
theorem adds_len {ss ds : List Int} (h : ss.length = ds.length) : (adds ss ds).length = ss.length := by
  unfold adds
  rw [List.length_map, List.length_zip]
  omega
theorem sum_adds : ∀ {a b : List Int}, a.length = b.length → (adds a b).sum = a.sum + b.sum
  | [], [], _ => rfl
  | x :: a, y :: b, h => by
    have := sum_adds (a := a) (b := b) (by simpa using h)
    rw [show adds (x :: a) (y :: b) = (x + y) :: adds a b from rfl, List.sum_cons, List.sum_cons, List.sum_cons, this]
    omega
  | [], _ :: _, h => by simp at h
  | _ :: _, [], h => by simp at h
theorem adds_nn {a b : List Int} (ha : ∀ x ∈ a, 0 ≤ x ∧ x ≤ 400) (hb : ∀ x ∈ b, 0 ≤ x ∧ x ≤ 400) : ∀ x ∈ adds a b, 0 ≤ x := fun x hx => by
  unfold adds at hx
  obtain ⟨⟨y, z⟩, hq, rfl⟩ := List.mem_map.mp hx
  have := ha y (List.of_mem_zip hq).1
  have := hb z (List.of_mem_zip hq).2
  show 0 ≤ y + z
  omega
theorem okT_adds {a b c d : List Int} (g : OkT a b) (h : OkT c d) (e1 : a.length = c.length) (e2 : b.length = d.length) (l : a.sum + c.sum ≤ 400) : OkT (adds a c) (adds b d) := by
  refine okT_of ?_ ?_ (adds_nn g.na h.na) (adds_nn g.nb h.nb) ?_ ?_
  · unfold lens; rw [adds_len e1]; exact g.s1
  · unfold lens; rw [adds_len e2]; exact g.d1
  · rw [sum_adds e1, sum_adds e2, g.eq, h.eq]
  · rw [sum_adds e1]; exact l
def plusDue (a b c d : List Int) : Due := if a.length = c.length then (if b.length = d.length then (if a.sum + c.sum ≤ 400 then .mad (adds a c) (adds b d) else .ref .mos [.int 400]) else .ref .len [.int d.length]) else .ref .len [.int c.length]
def muls (n : Int) (a : List Int) : List Int := a.map fun x => n * x
theorem sum_muls (n : Int) (a : List Int) : (muls n a).sum = n * a.sum := by
  induction a with
  | nil => simp [muls]
  | cons x a ih => rw [show muls n (x :: a) = n * x :: muls n a from rfl, List.sum_cons, List.sum_cons, ih, Int.mul_add]
theorem okT_muls {a b : List Int} {n : Int} (g : OkT a b) (h0 : 0 ≤ n) (l : n * a.sum ≤ 400) : OkT (muls n a) (muls n b) := by
  have nn : ∀ c : List Int, (∀ x ∈ c, 0 ≤ x ∧ x ≤ 400) → ∀ x ∈ muls n c, 0 ≤ x := fun c hc x hx => by
    unfold muls at hx
    obtain ⟨y, hy, rfl⟩ := List.mem_map.mp hx
    exact Int.mul_nonneg h0 (hc y hy).1
  refine okT_of ?_ ?_ (nn a g.na) (nn b g.nb) ?_ ?_
  · unfold lens muls; rw [List.length_map]; exact g.s1
  · unfold lens muls; rw [List.length_map]; exact g.d1
  · rw [sum_muls, sum_muls, g.eq]
  · rw [sum_muls]; exact l
def timesDue (n : Int) (a b : List Int) : Due := if 0 ≤ n ∧ n ≤ 400 then (if n * a.sum ≤ 400 then .mad (muls n a) (muls n b) else .ref .mos [.int 400]) else .ref .cnt [.int n]
def movL (a : List Int) (g t : Nat) : List Int := (a.set g (a.getD g 0 - 1)).set t ((a.set g (a.getD g 0 - 1)).getD t 0 + 1)
def movDue (a b : List Int) (g t : Int) : Due := if 0 ≤ g ∧ g < a.length then (if 0 ≤ t ∧ t < a.length then (if a.getD g.toNat 0 = 0 then .ref .sup [.int g] else .mad (movL a g.toNat t.toNat) b) else .ref .dep [.int t]) else .ref .dep [.int g]
theorem sum_set : ∀ {a : List Int} {i : Nat} {x : Int}, i < a.length → (a.set i x).sum = a.sum - a.getD i 0 + x
  | y :: a, 0, x, _ => by
    rw [List.set_cons_zero, List.sum_cons, List.sum_cons, List.getD_cons_zero]
    omega
  | y :: a, i + 1, x, h => by
    rw [List.set_cons_succ, List.sum_cons, List.sum_cons, List.getD_cons_succ, sum_set (by simpa using h)]
    omega
theorem okT_mov {a b : List Int} {i j : Nat} (g : OkT a b) (hi : i < a.length) (hj : j < a.length) (h : a.getD i 0 ≠ 0) : OkT (movL a i j) b := by
  have e1 : (movL a i j).length = a.length := by unfold movL; rw [List.length_set, List.length_set]
  have ai : 1 ≤ a.getD i 0 := by
    have : a.getD i 0 = a[i] := by rw [List.getD_eq_getElem?_getD, List.getElem?_eq_getElem hi]; rfl
    have := g.na a[i] (List.getElem_mem hi)
    omega
  have n1 : ∀ x ∈ a.set i (a.getD i 0 - 1), 0 ≤ x := fun x hx => by
    rcases List.mem_or_eq_of_mem_set hx with z | rfl
    · exact (g.na x z).1
    · omega
  have s1 : (movL a i j).sum = a.sum := by
    unfold movL
    rw [sum_set (by rw [List.length_set]; exact hj), sum_set hi]
    omega
  refine okT_of (by unfold lens; rw [e1]; exact g.s1) g.d1 (fun x hx => ?_) (fun x hx => (g.nb x hx).1) (by rw [s1]; exact g.eq) (by rw [s1]; exact g.le)
  unfold movL at hx
  rcases List.mem_or_eq_of_mem_set hx with z | rfl
  · exact n1 x z
  · have : 0 ≤ (a.set i (a.getD i 0 - 1)).getD j 0 := by
      have hl : j < (a.set i (a.getD i 0 - 1)).length := by rw [List.length_set]; exact hj
      have e : (a.set i (a.getD i 0 - 1)).getD j 0 = (a.set i (a.getD i 0 - 1))[j] := by rw [List.getD_eq_getElem?_getD, List.getElem?_eq_getElem hl]; rfl
      rw [e]
      exact n1 _ (List.getElem_mem hl)
    omega
section
variable {P : Program} {w : World} {K : PySem.W.Frag} {mg : Str → Option Value} {base : Heap} {f : Addr} {fd : FuncData}
/-! ### + -/
abbrev sums_N : List Str := ["first", "second", "one", "two"]
theorem sums_sc : FnScope ["first", "second", "one", "two"] ["first", "second"] (defScope sums_st) := ⟨rfl, rfl, rfl, by decide +kernel, rfl, by decide +kernel, by decide +kernel⟩
def S_sums : PX := fun φs k _ => ∃ (ss ds : List Int), ss.length = ds.length ∧ ss.length ≤ 8 ∧ φs = [TU (TIs ss), TU (TIs ds)] ∧ k (TL (TIs (adds ss ds)))
theorem ok_sums (F : FnS K "_sums" sums_st f fd) (m_zip : mg "zip" = none) : FnOk P w K mg base (L2N.CX P w) 3 f fd ["first", "second"] (spX S_sums) := by
  refine F.ok sums_sc (fun vs H Q E h => lenX (n := 2) (fun φs k kx ⟨ss, ds, _, _, e, _⟩ => by rw [e]; rfl) h) (fun cdv A outer s H vs Q E hr h => ⟨_, (pss_one (ps_ret (pe_lc (own := [("one", 2), ("two", 3)]) rfl sums_sc.nd (RZ.pi_zipA (by rfl) m_zip (pa_cons (pv 0) (pa_cons (pv 1) pa_nil))) (blkOk_by (own := [("one", 2), ("two", 3)]) (N := sums_N) (sc := defScope sums_st) (by decide +kernel)) (fun _ _ _ _ _ => (pg_tup rfl (pgs_cons (pg_name (i := 2) sums_sc.nd rfl (Or.inl rfl)) (pgs_cons (pg_name (i := 3) sums_sc.nd rfl (Or.inl rfl)) pgs_nil)) : PG _ _ (gTup K 2 _))) (fun _ _ _ _ _ => pts_nil) (fun _ _ _ _ _ => (pe_op op_add (pv 2) (pv 3)))))), enterX (n := 4) rfl h fun A φs k kx hS hE => ?_⟩)
  obtain ⟨ss, ds, el, l8, rfl, h1⟩ := hS
  refine Dt_ret (De_dn (Dn_mapL (us := [2] ++ ([3] ++ [])) (ss.zip ds) (fun q => TU [TI q.1, TI q.2]) (fun q => TI (q.1 + q.2)) (by decide) (by rw [List.length_zip]; omega) (Di_zipT (Da_cons (De_var rfl (Da_cons (De_var rfl (Da_nil ⟨_, _, rfl, by rw [List.length_map, List.length_map]; exact el, ?_⟩)))))) (fun q hq => ?_) ⟨_, rfl, ?_⟩))
  · rw [TIs, TIs, List.zip_map, List.map_map]
    rfl
  · refine Dg_tup rfl (Dgs_cons (Dg_name (Dgs_cons (Dg_name (Dgs_nil ?_)))))
    (repeat' (first  | ((with_reducible apply De_var); exact rfl) | with_reducible refine De_c ?_ | with_reducible refine De_op ?_ | with_reducible refine Rr_I0 ?_ | ((with_reducible refine Rr_eq ?_ ?_); exact rfl) | ((with_reducible refine Rr_ne ?_ ?_); exact rfl) | with_reducible refine De_chain ?_ | with_reducible refine ⟨_, rfl, ?_⟩ | with_reducible refine Dc_test ?_ | with_reducible refine Dc_b ?_ | with_reducible refine Dc_not ?_ | with_reducible refine Dc_and ?_ | with_reducible refine Dc_or ?_ | with_reducible refine De_and ?_ | with_reducible refine De_or ?_ | with_reducible refine De_not ?_ | with_reducible refine Dt_if ?_ | with_reducible refine Da_cons ?_ | with_reducible refine Da_nil ?_ | with_reducible refine Dt_seq ?_ | with_reducible refine Dt_next ?_ | with_reducible refine De_un ?_ | with_reducible refine br_dec (fun _ => ?_) (fun _ => ?_) | with_reducible refine br_ndec (fun _ => ?_) (fun _ => ?_) | with_reducible refine br_t ?_ | with_reducible refine br_f ?_ | with_reducible refine br_nt ?_ | with_reducible refine br_nf ?_ | ((with_reducible refine De_len ?_); first | ((with_reducible apply Dl_im); exact rfl) | ((with_reducible apply Dl_ow); exact rfl)) | ((with_reducible refine De_sumL ?_); first | ((with_reducible apply Dl_im); exact rfl) | ((with_reducible apply Dl_ow); exact rfl)) | with_reducible refine ⟨rfl, ?_⟩ | with_reducible refine De_cb ?_ | with_reducible refine Rc_min2 ?_ | with_reducible refine Rc_max2 ?_ | with_reducible refine Rc_abs ?_ | with_reducible refine Rc_int1 ?_ | with_reducible refine Rc_intB ?_ | with_reducible refine Rc_lenU ?_ | refine Rc_lenQ ?_ | with_reducible refine Rr_IC ?_ ?_ | with_reducible refine Rr_isN ?_ | with_reducible refine Rr_isN_no (nn_tup _) ?_ | with_reducible refine Rr_notN ?_ | with_reducible refine Rr_notN_no (nn_tup _) ?_ | with_reducible refine Dt_ret ?_ | with_reducible refine Dt_set ?_ | with_reducible refine Dt_drop ?_ | with_reducible refine De_call ?_ | with_reducible refine De_callN ?_ | with_reducible refine De_ifExp ?_ | with_reducible refine De_prop ?_ | with_reducible refine De_fld ?_ | with_reducible refine ⟨⟨_, rfl⟩, ?_⟩ | ((with_reducible refine De_tupL ?_); first | ((with_reducible apply Dl_im); exact rfl) | ((with_reducible apply Dl_ow); exact rfl))))
    rfl
  · have e : (ss.zip ds).map (fun q => TI (q.1 + q.2)) = TIs (adds ss ds) := by
      unfold adds
      rw [TIs, List.map_map]
      rfl
    rw [e]
    exact h1
abbrev Totals_add_N : List Str := ["self", "other"]
theorem Totals_add_sc : FnScope ["self", "other"] ["self", "other"] (defScope Totals_add_st) := ⟨rfl, rfl, rfl, by decide +kernel, rfl, by decide +kernel, by decide +kernel⟩
def S_add (C : Addr) (ca : Er8 → Addr) : PX := fun φs k kx => ∃ (a b c d : List Int), φs = [TTot C a b, TTot C c d] ∧ OkT a b ∧ OkT c d ∧ (∀ u, u = plusDue a b c d → Got ca kx (fun x y => k (TTot C x y)) u)
theorem ok_add {C f1 f2 f3 fI p1 g1 p2 g2 p3 g3 : Addr} {ca : Er8 → Addr} {fd1 fd2 fd3 fdI fp1 fp2 fp3 : FuncData} {uM : Value} (F : FnM K "__add__" "Totals.__add__" Totals_add_st f fd) (T : TotC K C uM) (m_len : mg "len" = none)
    (D_check_length : Df P w K mg base 3 "check_length" ["row", "length"] (spX (S_length (ca .len))) f1 fd1) (D_check_most : Df P w K mg base 3 "check_most" ["number", "most"] (spX (S_most (ca .mos))) f2 fd2) (D_sums : Df P w K mg base 3 "_sums" ["first", "second"] (spX S_sums) f3 fd3)
    (D_Totals_supplies : Pn P w K mg base 1 C "supplies" (spX (S_supplies C)) p1 g1 fp1) (D_Totals_demands : Pn P w K mg base 1 C "demands" (spX (S_demands C)) p2 g2 fp2) (D_Totals_units : Pn P w K mg base 1 C "units" (spX (S_units C)) p3 g3 fp3)
    (D_Totals : Kn P w K mg base 5 "Totals" C ["self", "supplies", "demands"] (spInit C (S_tinit ca)) fI fdI) :
    FnOk P w K mg base (L2N.CX P w) 7 f fd ["self", "other"] (spX (S_add C ca)) := by
  refine F.ok Totals_add_sc (fun vs H Q E h => lenX (n := 2) (fun φs k kx ⟨_, _, _, _, e, _⟩ => by rw [e]; rfl) h) (fun cdv A outer s H vs Q E hr h => ⟨_, (pss_cons (ps_expr (pe_callS D_check_length.ok (hr.mono (by first | decide | omega)) rfl D_check_length.g D_check_length.kp D_check_length.b (fun σ => L2N.passAt (L2N.takes_of rfl rfl rfl rfl) σ) (pa_cons (pe_prop (pv 1) D_Totals_supplies.cl D_Totals_supplies.po D_Totals_supplies.ok (hr.mono (by first | decide | omega)) D_Totals_supplies.b .nil ErrX.passN rfl) (pa_cons (pe_callB call_len_seq (by rfl) m_len (by decide +kernel) (pa_cons (pe_fld (pv 0) rfl) pa_nil)) pa_nil))))
      (pss_cons (ps_expr (pe_callS D_check_length.ok (hr.mono (by first | decide | omega)) rfl D_check_length.g D_check_length.kp D_check_length.b (fun σ => L2N.passAt (L2N.takes_of rfl rfl rfl rfl) σ) (pa_cons (pe_prop (pv 1) D_Totals_demands.cl D_Totals_demands.po D_Totals_demands.ok (hr.mono (by first | decide | omega)) D_Totals_demands.b .nil ErrX.passN rfl) (pa_cons (pe_callB call_len_seq (by rfl) m_len (by decide +kernel) (pa_cons (pe_fld (pv 0) rfl) pa_nil)) pa_nil))))
      (pss_cons (ps_expr (pe_callS D_check_most.ok (hr.mono (by first | decide | omega)) rfl D_check_most.g D_check_most.kp D_check_most.b (fun σ => L2N.passAt (L2N.takes_of rfl rfl rfl rfl) σ) (pa_cons (pe_op op_add (pe_prop (pv 0) D_Totals_units.cl D_Totals_units.po D_Totals_units.ok (hr.mono (by first | decide | omega)) D_Totals_units.b .nil ErrX.passN rfl) (pe_prop (pv 1) D_Totals_units.cl D_Totals_units.po D_Totals_units.ok (hr.mono (by first | decide | omega)) D_Totals_units.b .nil ErrX.passN rfl)) (pa_cons (pe_con (pv 0) rfl) pa_nil))))
      (pss_one (ps_ret (pe_make D_Totals.mkk D_Totals.ok (hr.mono (by first | decide | omega)) rfl D_Totals.g D_Totals.b .nil (passO (L2N.takes_of rfl rfl rfl rfl)) (pa_cons (pe_call D_sums.ok (hr.mono (by first | decide | omega)) rfl D_sums.g D_sums.kp D_sums.b .nil ErrX.passN (pa_cons (pe_fld (pv 0) rfl) (pa_cons (pe_prop (pv 1) D_Totals_supplies.cl D_Totals_supplies.po D_Totals_supplies.ok (hr.mono (by first | decide | omega)) D_Totals_supplies.b .nil ErrX.passN rfl) pa_nil))) (pa_cons (pe_call D_sums.ok (hr.mono (by first | decide | omega)) rfl D_sums.g D_sums.kp D_sums.b .nil ErrX.passN (pa_cons (pe_fld (pv 0) rfl) (pa_cons (pe_prop (pv 1) D_Totals_demands.cl D_Totals_demands.po D_Totals_demands.ok (hr.mono (by first | decide | omega)) D_Totals_demands.b .nil ErrX.passN rfl) pa_nil))) pa_nil)))))))), enterX (n := 2) rfl h fun A φs k kx hS hE => ?_⟩)
  obtain ⟨a, b, c, d, rfl, g, h, q⟩ := hS
  have l1 := g.s1
  have l2 := g.d1
  refine Dt_seq (Dt_drop (De_callS (fun _ => hE) (Da_cons (De_prop (De_var rfl ⟨⟨_, rfl⟩, _, _, rfl, Da_cons (De_cb (Da_cons (De_tS T (De_var rfl ⟨_, _, rfl, Da_nil (Rc_lenU (Da_nil ?_))⟩))))⟩)))))
  refine ⟨TIs c, _, .inr rfl, fun e1 => ?_, fun z => ?_⟩
  · rw [List.length_map, List.length_map] at e1
    have e1 : a.length = c.length := by omega
    refine Dt_seq (Dt_drop (De_callS (fun _ => hE) (Da_cons (De_prop (De_var rfl ⟨⟨_, rfl⟩, _, _, rfl, Da_cons (De_cb (Da_cons (De_tD T (De_var rfl ⟨_, _, rfl, Da_nil (Rc_lenU (Da_nil ?_))⟩))))⟩)))))
    refine ⟨TIs d, _, .inr rfl, fun e2 => ?_, fun z => ?_⟩
    · rw [List.length_map, List.length_map] at e2
      have e2 : b.length = d.length := by omega
      refine Dt_seq (Dt_drop (De_callS (fun _ => hE) (Da_cons (De_op (De_prop (De_var rfl ⟨⟨_, rfl⟩, _, _, rfl, De_prop (De_var rfl ⟨⟨_, rfl⟩, _, _, rfl, Rr_I0 (Da_cons (De_tM T (De_var rfl ⟨_, _, rfl, Da_nil ?_⟩)))⟩)⟩))))))
      refine ⟨_, _, rfl, fun l => ?_, fun z => ?_⟩
      · have q := q _ rfl
        unfold plusDue at q
        rw [if_pos e1, if_pos e2, if_pos l] at q
        refine Dt_seq (Dt_ret (De_makeX hE (Da_cons (De_callN (Da_cons (De_tS T (De_var rfl ⟨_, _, rfl, Da_cons (De_prop (De_var rfl ⟨⟨_, rfl⟩, _, _, rfl, Da_nil ?_⟩))⟩)))))))
        refine ⟨a, c, e1, by omega, rfl, ?_⟩
        refine Da_cons (De_callN (Da_cons (De_tD T (De_var rfl ⟨_, _, rfl, Da_cons (De_prop (De_var rfl ⟨⟨_, rfl⟩, _, _, rfl, Da_nil ?_⟩))⟩))))
        refine ⟨b, d, e2, by omega, rfl, Da_nil ?_⟩
        exact ⟨TL, TL, _, _, .inl rfl, .inl rfl, rfl, QM.good (okT_adds g h e1 e2 l) q⟩
      · have q := q _ rfl
        unfold plusDue at q
        rw [if_pos e1, if_pos e2, if_neg (by omega)] at q
        exact q ⟨_, rfl⟩
    · have q := q _ rfl
      unfold plusDue at q
      rw [List.length_map, List.length_map] at z
      rw [if_pos e1, if_neg (by omega)] at q
      rw [List.length_map]
      exact q ⟨_, rfl⟩
  · have q := q _ rfl
    unfold plusDue at q
    rw [List.length_map, List.length_map] at z
    rw [if_neg (by omega)] at q
    rw [List.length_map]
    exact q ⟨_, rfl⟩
/-! ### * -/
abbrev Totals_mul_N : List Str := ["self", "other", "number"]
theorem Totals_mul_sc : FnScope ["self", "other", "number"] ["self", "other"] (defScope Totals_mul_st) := ⟨rfl, rfl, rfl, by decide +kernel, rfl, by decide +kernel, by decide +kernel⟩
def S_mul (C : Addr) (ca : Er8 → Addr) : PX := fun φs k kx => ∃ (a b : List Int) (n : Int), φs = [TTot C a b, TI n] ∧ OkT a b ∧ (∀ u, u = timesDue n a b → Got ca kx (fun x y => k (TTot C x y)) u)
theorem ok_mul {C f1 f2 fI p3 g3 : Addr} {ca : Er8 → Addr} {fd1 fd2 fdI fp3 : FuncData} {uM : Value} (F : FnM K "__mul__" "Totals.__mul__" Totals_mul_st f fd) (T : TotC K C uM)
    (D_check_count : Df P w K mg base 3 "check_count" ["number", "least", "most"] (spX (S_count (ca .cnt))) f1 fd1) (D_check_most : Df P w K mg base 3 "check_most" ["number", "most"] (spX (S_most (ca .mos))) f2 fd2) (D_Totals_units : Pn P w K mg base 1 C "units" (spX (S_units C)) p3 g3 fp3)
    (D_Totals : Kn P w K mg base 5 "Totals" C ["self", "supplies", "demands"] (spInit C (S_tinit ca)) fI fdI) :
    FnOk P w K mg base (L2N.CX P w) 7 f fd ["self", "other"] (spX (S_mul C ca)) := by
  refine F.ok Totals_mul_sc (fun vs H Q E h => lenX (n := 2) (fun φs k kx ⟨_, _, _, e, _⟩ => by rw [e]; rfl) h) (fun cdv A outer s H vs Q E hr h => ⟨_, (pss_cons (ps_expr (pe_callS D_check_count.ok (hr.mono (by first | decide | omega)) rfl D_check_count.g D_check_count.kp D_check_count.b (fun σ => L2N.passAt (L2N.takes_of rfl rfl rfl rfl) σ) (pa_cons (pv 1) (pa_cons pe_int (pa_cons (pe_con (pv 0) rfl) pa_nil)))))
      (pss_cons (ps_expr (pe_callS D_check_most.ok (hr.mono (by first | decide | omega)) rfl D_check_most.g D_check_most.kp D_check_most.b (fun σ => L2N.passAt (L2N.takes_of rfl rfl rfl rfl) σ) (pa_cons (pe_op op_mul (pv 1) (pe_prop (pv 0) D_Totals_units.cl D_Totals_units.po D_Totals_units.ok (hr.mono (by first | decide | omega)) D_Totals_units.b .nil ErrX.passN rfl)) (pa_cons (pe_con (pv 0) rfl) pa_nil))))
      (pss_one (ps_ret (pe_make D_Totals.mkk D_Totals.ok (hr.mono (by first | decide | omega)) rfl D_Totals.g D_Totals.b .nil (passO (L2N.takes_of rfl rfl rfl rfl)) (pa_cons (pe_lc (own := [("number", 2)]) rfl Totals_mul_sc.nd (pi_tup (pe_fld (pv 0) rfl)) (blkOk_by (own := [("number", 2)]) (N := Totals_mul_N) (sc := defScope Totals_mul_st) (by decide +kernel)) (fun _ _ _ _ _ => (pg_name (i := 2) Totals_mul_sc.nd rfl (Or.inl rfl))) (fun _ _ _ _ _ => pts_nil) (fun _ _ _ _ _ => (pe_op op_mul (pv 1) (pv 2)))) (pa_cons (pe_lc (own := [("number", 2)]) rfl Totals_mul_sc.nd (pi_tup (pe_fld (pv 0) rfl)) (blkOk_by (own := [("number", 2)]) (N := Totals_mul_N) (sc := defScope Totals_mul_st) (by decide +kernel)) (fun _ _ _ _ _ => (pg_name (i := 2) Totals_mul_sc.nd rfl (Or.inl rfl))) (fun _ _ _ _ _ => pts_nil) (fun _ _ _ _ _ => (pe_op op_mul (pv 1) (pv 2)))) pa_nil))))))), enterX (n := 3) rfl h fun A φs k kx hS hE => ?_⟩)
  obtain ⟨a, b, n, rfl, g, q⟩ := hS
  have l1 := g.s1
  have l2 := g.d1
  have q := q _ rfl
  unfold timesDue at q
  refine Dt_seq (Dt_drop (De_callS (fun _ => hE) (Da_cons (De_var rfl (Da_cons (De_c (Da_cons (De_tM T (De_var rfl ⟨_, _, rfl, Da_nil ?_⟩)))))))))
  refine ⟨_, _, _, rfl, fun h => ?_, fun z => ?_⟩
  · rw [if_pos h] at q
    refine Dt_seq (Dt_drop (De_callS (fun _ => hE) (Da_cons (De_op (De_var rfl (De_prop (De_var rfl ⟨⟨_, rfl⟩, _, _, rfl, Rr_IC (.inl ⟨by omega, by omega⟩) (Da_cons (De_tM T (De_var rfl ⟨_, _, rfl, Da_nil ?_⟩)))⟩)))))))
    refine ⟨_, _, rfl, fun l => ?_, fun z => ?_⟩
    · rw [if_pos l] at q
      refine Dt_ret (De_makeX hE (Da_cons (De_dn (Dn_mapL (us := [2]) a (fun x => TI x) (fun x => TI (n * x)) (by decide) (by omega) (Di_tup (De_tS T (De_var rfl ⟨_, _, rfl, _, rfl, rfl⟩))) (fun x hx => Dg_name (De_op (De_var rfl (De_var rfl (Rr_IC (.inl ⟨by omega, by omega⟩) rfl))))) ⟨_, rfl, ?_⟩))))
      refine Da_cons (De_dn (Dn_mapL (us := [2]) b (fun x => TI x) (fun x => TI (n * x)) (by decide) (by omega) (Di_tup (De_tD T (De_var rfl ⟨_, _, rfl, _, rfl, rfl⟩))) (fun x hx => Dg_name (De_op (De_var rfl (De_var rfl (Rr_IC (.inl ⟨by omega, by omega⟩) rfl))))) ⟨_, rfl, Da_nil ?_⟩))
      refine ⟨TL, TL, muls n a, muls n b, .inl rfl, .inl rfl, by unfold muls; rw [TIs, TIs, List.map_map, List.map_map]; rfl, QM.good (okT_muls g h.1 l) q⟩
    · rw [if_neg (by omega)] at q
      exact q ⟨_, rfl⟩
  · rw [if_neg z] at q
    exact q ⟨_, rfl⟩
abbrev Totals_rmul_N : List Str := ["self", "other"]
theorem Totals_rmul_sc : FnScope ["self", "other"] ["self", "other"] (defScope Totals_rmul_st) := ⟨rfl, rfl, rfl, by decide +kernel, rfl, by decide +kernel, by decide +kernel⟩
theorem ok_rmul {C f1 fR : Addr} {ca : Er8 → Addr} {fd1 : FuncData} (F : FnM K "__rmul__" "Totals.__rmul__" Totals_rmul_st f fd) (self1 : PySem.W.selfFirst K C = true)
    (D_mul : On P w K mg base 7 C "__mul__" (spX (S_mul C ca)) f1 fd1) (s2 : PySem.W.findIn K (.ref C) "__rmul__" = some (some (.ref fR))) (i1 : PySem.W.findIn K (.type "int") "__mul__" = some (some (.builtin "int.__mul__"))) (i2 : PySem.W.findIn K (.type "int") "__rmul__" = some (some (.builtin "int.__rmul__"))) (sb : PySem.W.subIn K (.type "int") (.ref C) = some false) :
    FnOk P w K mg base (L2N.CX P w) 8 f fd ["self", "other"] (spX (S_mul C ca)) := by
  refine F.ok Totals_rmul_sc (fun vs H Q E h => lenX (n := 2) (fun φs k kx ⟨_, _, _, e, _⟩ => by rw [e]; rfl) h) (fun cdv A outer s H vs Q E hr h => ⟨_, (pss_one (ps_ret (pe_op (OwnB.op_ownT D_mul.ok (hr.mono (by first | decide | omega)) D_mul.b (passO (L2N.takes_of rfl rfl rfl rfl)) self1 D_mul.s D_mul.fn s2 i1 i2 sb) (pv 0) (pv 1)))), enterX (n := 2) rfl h fun A φs k kx hS hE => ?_⟩)
  obtain ⟨a, b, n, rfl, g, q⟩ := hS
  exact Dt_ret (De_ownT hE (De_var rfl (De_var rfl ⟨_, _, rfl, rfl, a, b, n, rfl, g, q⟩)))
end
end K08
set_option Elab.async false
set_option linter.all false
set_option maxRecDepth 100000
set_option maxHeartbeats 4000000
namespace K08
open PySem PySem.Spec PyProof.Rows L2 Wl Kx
def foldDue (d : Due) (rows : List (List Int × List Int)) : Due := rows.foldl (fun d r => match d with
  | .mad a b => plusDue a b r.1 r.2
  | d => d) d
theorem foldDue_ref (e : Er8) (xs : List V) : ∀ rows, foldDue (.ref e xs) rows = .ref e xs
  | [] => rfl
  | r :: rows => foldDue_ref e xs rows
theorem foldDue_cons (a b : List Int) (r : List Int × List Int) (rows : List (List Int × List Int)) : foldDue (.mad a b) (r :: rows) = foldDue (plusDue a b r.1 r.2) rows := rfl
theorem foldDue_app (d : Due) (r s : List (List Int × List Int)) : foldDue d (r ++ s) = foldDue (foldDue d r) s := List.foldl_append ..
theorem plus_ok {a b c d x y : List Int} (g : OkT a b) (h : OkT c d) (e : plusDue a b c d = .mad x y) : OkT x y := by
  unfold plusDue at e
  split at e
  · split at e
    · split at e
      · cases e
        exact okT_adds g h ‹_› ‹_› ‹_›
      · cases e
    · cases e
  · cases e
theorem due_ok {a b c d : List Int} (g : OkT a b) (h : OkT c d) : (plusDue a b c d).ok := by
  cases e : plusDue a b c d with
  | mad x y =>
    have := plus_ok g h e
    have h1 := this.s1
    have h2 := this.d1
    exact ⟨h1.2, h2.2⟩
  | ref e2 xs =>
    unfold plusDue at e
    split at e
    · split at e
      · split at e
        · cases e
        · cases e; exact ⟨_, rfl⟩
      · cases e; exact ⟨_, rfl⟩
    · cases e; exact ⟨_, rfl⟩
section
variable {P : Program} {w : World} {K : PySem.W.Frag} {mg : Str → Option Value} {base : Heap} {f : Addr} {fd : FuncData}
/-! ### moved, turned, balance -/
abbrev Totals_moved_N : List Str := ["self", "giver", "taker", "supplies"]
theorem Totals_moved_sc : FnScope ["self", "giver", "taker", "supplies"] ["self", "giver", "taker"] (defScope Totals_moved_st) := ⟨rfl, rfl, rfl, by decide +kernel, rfl, by decide +kernel, by decide +kernel⟩
def S_moved (C : Addr) (ca : Er8 → Addr) : PX := fun φs k kx => ∃ (a b : List Int) (g t : Int), φs = [TTot C a b, TI g, TI t] ∧ OkT a b ∧ (∀ u, u = movDue a b g t → Got ca kx (fun x y => k (TTot C x y)) u)
theorem ok_moved {C f1 fI fE : Addr} {ca : Er8 → Addr} {fd1 fdI fdE : FuncData} {psE : List Str} {uM : Value} (F : FnM K "moved" "Totals.moved" Totals_moved_st f fd) (T : TotC K C uM) (m_len : mg "len" = none) (m_list : mg "list" = none)
    (D_check_depot : Df P w K mg base 3 "check_depot" ["depot", "depots"] (spX (S_depot (ca .dep))) f1 fd1) (D_NoSupply : Er P w K mg base "NoSupply" "depot" (ca .sup) fE fdE psE)
    (D_Totals : Kn P w K mg base 5 "Totals" C ["self", "supplies", "demands"] (spInit C (S_tinit ca)) fI fdI) :
    FnOk P w K mg base (L2N.CX P w) 7 f fd ["self", "giver", "taker"] (spX (S_moved C ca)) := by
  refine F.ok Totals_moved_sc (fun vs H Q E h => lenX (n := 3) (fun φs k kx ⟨_, _, _, _, e, _⟩ => by rw [e]; rfl) h) (fun cdv A outer s H vs Q E hr h => ⟨_, (pss_cons (ps_expr (pe_callS D_check_depot.ok (hr.mono (by first | decide | omega)) rfl D_check_depot.g D_check_depot.kp D_check_depot.b (fun σ => L2N.passAt (L2N.takes_of rfl rfl rfl rfl) σ) (pa_cons (pv 1) (pa_cons (pe_callB call_len_seq (by rfl) m_len (by decide +kernel) (pa_cons (pe_fld (pv 0) rfl) pa_nil)) pa_nil))))
      (pss_cons (ps_expr (pe_callS D_check_depot.ok (hr.mono (by first | decide | omega)) rfl D_check_depot.g D_check_depot.kp D_check_depot.b (fun σ => L2N.passAt (L2N.takes_of rfl rfl rfl rfl) σ) (pa_cons (pv 2) (pa_cons (pe_callB call_len_seq (by rfl) m_len (by decide +kernel) (pa_cons (pe_fld (pv 0) rfl) pa_nil)) pa_nil))))
      (pss_cons (ps_if (pt_cmpR op_eq (pe_ix ix_tup (pe_fld (pv 0) rfl) (pv 1) (fun _ _ => rfl)) pe_int (nomark _)) (pss_one (L2N.ps_raise rfl (L2N.takes_of rfl rfl rfl rfl) (ErrX.pmk_err1 D_NoSupply.T D_NoSupply.iC D_NoSupply.tI D_NoSupply.F (hr.mono (by first | decide | omega)) D_NoSupply.b ErrX.passN rfl D_NoSupply.g (pa_cons (pv 1) pa_nil)))) pss_nil)
      (pss_cons (ps_set (i := 3) Totals_moved_sc.nd rfl (Or.inl rfl) (pe_callTy call_list_of (by rfl) m_list (by decide +kernel) (pa_cons (pe_fld (pv 0) rfl) pa_nil)))
      (pss_cons (ps_augS (pv 3) (pv 1) get_list pe_int ip_sub set_list)
      (pss_cons (ps_augS (pv 3) (pv 2) get_list pe_int ip_add set_list)
      (pss_one (ps_ret (pe_make D_Totals.mkk D_Totals.ok (hr.mono (by first | decide | omega)) rfl D_Totals.g D_Totals.b .nil (passO (L2N.takes_of rfl rfl rfl rfl)) (pa_cons (pv 3) (pa_cons (pe_fld (pv 0) rfl) pa_nil))))))))))), enterX (n := 4) rfl h fun A φs k kx hS hE => ?_⟩)
  obtain ⟨a, b, g, t, rfl, ok, q⟩ := hS
  have l1 := ok.s1
  have l2 := ok.d1
  have q := q _ rfl
  unfold movDue at q
  have lenS : ∀ (kk : Ty → Prop) (Φ : List Sl), Φ[0]? = some (.im (TTot C a b)) → kk (TI a.length) → De A (tCB (rLenK K) (tCons (tFld K (tVar 0) "_supplies") tNil)) Φ kk := fun kk Φ e h => by
    refine De_cb (Da_cons (De_tS T (De_var e ⟨_, _, rfl, Da_nil (Rc_lenU ?_)⟩)))
    rw [List.length_map]
    exact h
  refine Dt_seq (Dt_drop (De_callS (fun _ => hE) (Da_cons (De_var rfl (Da_cons (lenS _ _ rfl (Da_nil ?_)))))))
  refine ⟨_, _, rfl, fun hg => ?_, fun z => ?_⟩
  · rw [if_pos hg] at q
    refine Dt_seq (Dt_drop (De_callS (fun _ => hE) (Da_cons (De_var rfl (Da_cons (lenS _ _ rfl (Da_nil ?_)))))))
    refine ⟨_, _, rfl, fun ht => ?_, fun z => ?_⟩
    · rw [if_pos ht] at q
      obtain ⟨i, rfl⟩ := Int.eq_ofNat_of_zero_le hg.1
      obtain ⟨j, rfl⟩ := Int.eq_ofNat_of_zero_le ht.1
      have hi : i < a.length := by omega
      have hj : j < a.length := by omega
      rw [Int.toNat_natCast, Int.toNat_natCast] at q
      refine Dt_seq (Dt_if (Dc_test (De_op (De_op (De_tS T (De_var rfl ⟨_, _, rfl, De_var rfl (Rr_ixU (atI_get hi) (De_c (Rr_eq rfl ⟨_, rfl, br_dec (fun z => ?_) fun z => ?_⟩)))⟩))))))
      · rw [if_pos (V.int.inj z)] at q
        exact Dt_raise1 hE (Da_cons (De_var rfl (Da_nil ⟨_, rfl, q ⟨_, rfl⟩⟩)))
      · have z : a.getD i 0 ≠ 0 := fun e => z (congrArg V.int e)
        rw [if_neg z] at q
        refine Dt_next (Dt_seq (Dt_setOw (Dn_listU (De_tS T (De_var rfl ⟨_, _, rfl, _, rfl, ?_⟩)))))
        have gt : ∀ (c : List Int) (n : Nat), n < c.length → (TIs c)[n]? = some (TI (c.getD n 0)) := fun c n h => by
          rw [List.getElem?_map, List.getD_eq_getElem?_getD, List.getElem?_eq_getElem h]
          rfl
        have st : ∀ (c : List Int) (n : Nat) (x : Int), (TIs c).set n (TI x) = TIs (c.set n x) := fun c n x => by rw [TIs, TIs, List.map_set]
        refine Dt_seq (Dt_augS rfl (De_var rfl ⟨i, _, rfl, gt a i hi, De_c ⟨1, rfl, ?_⟩⟩))
        rw [st]
        refine Dt_seq (Dt_augS rfl (De_var rfl ⟨j, _, rfl, gt _ j (by rw [List.length_set]; exact hj), De_c ⟨1, rfl, ?_⟩⟩))
        rw [st]
        refine Dt_know 3 rfl ?_
        refine Dt_ret (De_makeX hE (Da_cons (De_var rfl (Da_cons (De_tD T (De_var rfl ⟨_, _, rfl, Da_nil ?_⟩))))))
        exact ⟨TL, TU, movL a i j, b, .inl rfl, .inr rfl, rfl, QM.good (okT_mov ok hi hj z) q⟩
    · rw [if_neg z] at q
      exact q ⟨_, rfl⟩
  · rw [if_neg z] at q
    exact q ⟨_, rfl⟩
abbrev Totals_turned_N : List Str := ["self"]
theorem Totals_turned_sc : FnScope ["self"] ["self"] (defScope Totals_turned_st) := ⟨rfl, rfl, rfl, by decide +kernel, rfl, by decide +kernel, by decide +kernel⟩
def S_turned (C : Addr) : PX := fun φs k kx => ∃ (a b : List Int), φs = [TTot C a b] ∧ OkT a b ∧ k (TTot C b a)
theorem ok_turned {C fI : Addr} {ca : Er8 → Addr} {fdI : FuncData} {uM : Value} (F : FnM K "turned" "Totals.turned" Totals_turned_st f fd) (T : TotC K C uM)
    (D_Totals : Kn P w K mg base 5 "Totals" C ["self", "supplies", "demands"] (spInit C (S_tinit ca)) fI fdI) :
    FnOk P w K mg base (L2N.CX P w) 7 f fd ["self"] (spX (S_turned C)) := by
  refine F.ok Totals_turned_sc (fun vs H Q E h => lenX (n := 1) (fun φs k kx ⟨_, _, e, _⟩ => by rw [e]; rfl) h) (fun cdv A outer s H vs Q E hr h => ⟨_, (pss_one (ps_ret (pe_make D_Totals.mkk D_Totals.ok (hr.mono (by first | decide | omega)) rfl D_Totals.g D_Totals.b .nil (passO (L2N.takes_of rfl rfl rfl rfl)) (pa_cons (pe_fld (pv 0) rfl) (pa_cons (pe_fld (pv 0) rfl) pa_nil))))), enterX (n := 1) rfl h fun A φs k kx hS hE => ?_⟩)
  obtain ⟨a, b, rfl, ok, h1⟩ := hS
  exact Dt_ret (De_makeX hE (Da_cons (De_tD T (De_var rfl ⟨_, _, rfl, Da_cons (De_tS T (De_var rfl ⟨_, _, rfl, Da_nil ⟨TU, TU, b, a, .inr rfl, .inr rfl, rfl, QM.good ok.turn h1⟩⟩))⟩))))
abbrev Totals_balance_N : List Str := ["supplies", "demands"]
theorem Totals_balance_sc : FnScope ["supplies", "demands"] ["supplies", "demands"] (defScope Totals_balance_st) := ⟨rfl, rfl, rfl, by decide +kernel, rfl, by decide +kernel, by decide +kernel⟩
def S_bal : PX := fun φs k _ => ∃ (T1 T2 : List Ty → Ty) (a b : List Int), LU T1 ∧ LU T2 ∧ φs = [T1 (TIs a), T2 (TIs b)] ∧ k (TI (a.sum - b.sum))
theorem ok_bal (F : FnM K "balance" "Totals.balance" Totals_balance_st f fd) (m_sum : mg "sum" = none) : FnOk P w K mg base (L2N.CX P w) 1 f fd ["supplies", "demands"] (spX S_bal) := by
  refine F.ok Totals_balance_sc (fun vs H Q E h => lenX (n := 2) (fun φs k kx ⟨_, _, _, _, _, _, e, _⟩ => by rw [e]; rfl) h) (fun cdv A outer s H vs Q E hr h => ⟨_, (pss_one (ps_ret (pe_op op_sub (pe_callB (EnT.cr_sumE rfl) (by rfl) m_sum (by decide +kernel) (pa_cons (pv 0) pa_nil)) (pe_callB (EnT.cr_sumE rfl) (by rfl) m_sum (by decide +kernel) (pa_cons (pv 1) pa_nil))))), enterX (n := 2) rfl h fun A φs k kx hS hE => ?_⟩)
  obtain ⟨T1, T2, a, b, t1, t2, rfl, h1⟩ := hS
  exact Dt_ret (De_op (De_sumE t1 rfl (De_sumE t2 rfl (Rr_I0 h1))))
/-! ### ==, str -/
abbrev Totals_eq_N : List Str := ["self", "other"]
theorem Totals_eq_sc : FnScope ["self", "other"] ["self", "other"] (defScope Totals_eq_st) := ⟨rfl, rfl, rfl, by decide +kernel, rfl, by decide +kernel, by decide +kernel⟩
def S_teq (C : Addr) : PX := fun φs k _ => ∃ (ss ds ss' ds' : List Int), φs = [TTot C ss ds, TTot C ss' ds'] ∧ k (TB (decide (ss = ss' ∧ ds = ds')))
theorem ok_teq {C : Addr} {uM : Value} (F : FnM K "__eq__" "Totals.__eq__" Totals_eq_st f fd) (T : TotC K C uM) (J : IsC K C) (m_isinstance : mg "isinstance" = none) (g_Totals : mg "Totals" = some (.ref C)) :
    FnOk P w K mg base (L2N.CX P w) 2 f fd ["self", "other"] (spX (S_teq C)) := by
  refine F.ok Totals_eq_sc (fun vs H Q E h => lenX (n := 2) (fun φs k kx ⟨_, _, _, _, e, _⟩ => by rw [e]; rfl) h) (fun cdv A outer s H vs Q E hr h => ⟨_, (pss_one (ps_ret (pe_and (pe_callB call_isi (by rfl) m_isinstance (by decide +kernel) (pa_cons (pv 1) (pa_cons (pe_glob (v := .ref C) rfl g_Totals rfl) pa_nil))) (pe_and (pe_cmpR (op_eqD hr.units) (pe_fld (pv 0) rfl) (pe_fld (pv 1) rfl) (nomark _)) (pe_one (pe_cmpR (op_eqD hr.units) (pe_fld (pv 0) rfl) (pe_fld (pv 1) rfl) (nomark _))))))), enterX (n := 2) rfl h fun A φs k kx hS hE => ?_⟩)
  obtain ⟨ss, ds, ss', ds', rfl, h1⟩ := hS
  have od : ∀ ns : List Int, OkD 64 (.tuple (ns.map .int)) := fun ns => .tup (okInts ns)
  have dt : ∀ ns : List Int, Dty K (TU (TIs ns)) (.tuple (ns.map .int)) := fun ns => .tup (.ints ns)
  (repeat' (first  | ((with_reducible apply De_var); exact rfl) | with_reducible refine De_c ?_ | with_reducible refine De_op ?_ | with_reducible refine Rr_I0 ?_ | ((with_reducible refine Rr_eq ?_ ?_); exact rfl) | ((with_reducible refine Rr_ne ?_ ?_); exact rfl) | with_reducible refine De_chain ?_ | with_reducible refine ⟨_, rfl, ?_⟩ | with_reducible refine Dc_test ?_ | with_reducible refine Dc_b ?_ | with_reducible refine Dc_not ?_ | with_reducible refine Dc_and ?_ | with_reducible refine Dc_or ?_ | with_reducible refine De_and ?_ | with_reducible refine De_or ?_ | with_reducible refine De_not ?_ | with_reducible refine Dt_if ?_ | with_reducible refine Da_cons ?_ | with_reducible refine Da_nil ?_ | with_reducible refine Dt_seq ?_ | with_reducible refine Dt_next ?_ | with_reducible refine De_un ?_ | with_reducible refine br_dec (fun _ => ?_) (fun _ => ?_) | with_reducible refine br_ndec (fun _ => ?_) (fun _ => ?_) | with_reducible refine br_t ?_ | with_reducible refine br_f ?_ | with_reducible refine br_nt ?_ | with_reducible refine br_nf ?_ | ((with_reducible refine De_len ?_); first | ((with_reducible apply Dl_im); exact rfl) | ((with_reducible apply Dl_ow); exact rfl)) | ((with_reducible refine De_sumL ?_); first | ((with_reducible apply Dl_im); exact rfl) | ((with_reducible apply Dl_ow); exact rfl)) | with_reducible refine ⟨rfl, ?_⟩ | with_reducible refine De_cb ?_ | with_reducible refine Rc_min2 ?_ | with_reducible refine Rc_max2 ?_ | with_reducible refine Rc_abs ?_ | with_reducible refine Rc_int1 ?_ | with_reducible refine Rc_intB ?_ | with_reducible refine Rc_lenU ?_ | refine Rc_lenQ ?_ | with_reducible refine Rr_IC ?_ ?_ | with_reducible refine Rr_isN ?_ | with_reducible refine Rr_isN_no (nn_tup _) ?_ | with_reducible refine Rr_notN ?_ | with_reducible refine Rr_notN_no (nn_tup _) ?_ | with_reducible refine Dt_ret ?_ | with_reducible refine Dt_set ?_ | with_reducible refine Dt_drop ?_ | with_reducible refine De_call ?_ | with_reducible refine De_callN ?_ | with_reducible refine De_ifExp ?_ | with_reducible refine De_prop ?_ | with_reducible refine De_fld ?_ | with_reducible refine ⟨⟨_, rfl⟩, ?_⟩ | ((with_reducible refine De_tupL ?_); first | ((with_reducible apply Dl_im); exact rfl) | ((with_reducible apply Dl_ow); exact rfl))))
  refine Rc_isi true (tyo_ins J _) (.own _) J.k ⟨_, rfl, br_t ?_⟩
  refine De_and (De_op (De_tS T (De_var rfl ⟨_, _, rfl, De_tS T (De_var rfl ⟨_, _, rfl, Rr_eqD (dt _) (dt _) (od _) (od _) ⟨_, rfl, fun e1 => ?_, fun e1 => ?_⟩⟩)⟩)))
  all_goals rw [show PyData.eqv (.tuple (ss.map .int)) (.tuple (ss'.map .int)) = decide (ss = ss') by rw [PyData.eqv, eqv_ints]] at e1
  · refine De_op (De_tD T (De_var rfl ⟨_, _, rfl, De_tD T (De_var rfl ⟨_, _, rfl, Rr_eqD (dt _) (dt _) (od _) (od _) ?_⟩)⟩))
    rw [show PyData.eqv (.tuple (ds.map .int)) (.tuple (ds'.map .int)) = decide (ds = ds') by rw [PyData.eqv, eqv_ints]]
    have : decide (ds = ds') = decide (ss = ss' ∧ ds = ds') := by simp [of_decide_eq_true e1]
    rw [this]
    exact h1
  · have : false = decide (ss = ss' ∧ ds = ds') := by simp [of_decide_eq_false e1]
    rw [this]
    exact h1
abbrev Totals_str_N : List Str := ["self", "supplies", "demands", "number"]
theorem Totals_str_sc : FnScope ["self", "supplies", "demands", "number"] ["self"] (defScope Totals_str_st) := ⟨rfl, rfl, rfl, by decide +kernel, rfl, by decide +kernel, by decide +kernel⟩
def S_str (C : Addr) : PX := fun φs k _ => ∃ (a b : List Int), φs = [TTot C a b] ∧ Tame a ∧ Tame b ∧ k (TS (totS a b))
theorem ok_str {C : Addr} {uM : Value} (F : FnM K "__str__" "Totals.__str__" Totals_str_st f fd) (T : TotC K C uM) (m_str : mg "str" = none) : FnOk P w K mg base (L2N.CX P w) 1 f fd ["self"] (spX (S_str C)) := by
  refine F.ok Totals_str_sc (fun vs H Q E h => lenX (n := 1) (fun φs k kx ⟨_, _, e, _⟩ => by rw [e]; rfl) h) (fun cdv A outer s H vs Q E hr h => ⟨_, (pss_cons (ps_set (i := 1) Totals_str_sc.nd rfl (Or.inl rfl) (pe_join pe_str (pe_lc (own := [("number", 3)]) rfl Totals_str_sc.nd (pi_tup (pe_fld (pv 0) rfl)) (blkOk_by (own := [("number", 3)]) (N := Totals_str_N) (sc := defScope Totals_str_st) (by decide +kernel)) (fun _ _ _ _ _ => (pg_name (i := 3) Totals_str_sc.nd rfl (Or.inl rfl))) (fun _ _ _ _ _ => pts_nil) (fun _ _ _ _ _ => (pe_callTy (call_str_int : CallR _ _ rStrI) (by rfl) m_str (by decide +kernel) (pa_cons (pv 3) pa_nil))))))
      (pss_cons (ps_set (i := 2) Totals_str_sc.nd rfl (Or.inl rfl) (pe_join pe_str (pe_lc (own := [("number", 3)]) rfl Totals_str_sc.nd (pi_tup (pe_fld (pv 0) rfl)) (blkOk_by (own := [("number", 3)]) (N := Totals_str_N) (sc := defScope Totals_str_st) (by decide +kernel)) (fun _ _ _ _ _ => (pg_name (i := 3) Totals_str_sc.nd rfl (Or.inl rfl))) (fun _ _ _ _ _ => pts_nil) (fun _ _ _ _ _ => (pe_callTy (call_str_int : CallR _ _ rStrI) (by rfl) m_str (by decide +kernel) (pa_cons (pv 3) pa_nil))))))
      (pss_one (ps_ret (pe_joined (.cons (pe_fmt (pv 1)) (.cons pe_str (.cons (pe_fmt (pv 2)) .nil)))))))), enterX (n := 4) rfl h fun A φs k kx hS hE => ?_⟩)
  obtain ⟨a, b, rfl, ta, tb, h1⟩ := hS
  have la := ta.1
  have lb := tb.1
  have sa := row_sum ta
  have sb := row_sum tb
  have ra := row_len ta
  have rb := row_len tb
  refine Dt_seq (Dt_set (De_join (De_c ⟨_, rfl, Dl_dn (Dn_mapL (us := [3]) a (fun x => TI x) (fun x => TS (numS x)) (by decide) (by omega) (Di_tup (De_tS T (De_var rfl ⟨_, _, rfl, _, rfl, rfl⟩))) (fun x hx => Dg_name (De_cb (Da_cons (De_var rfl (Da_nil (Rc_strI (num_log (ta.2 x hx)) rfl)))))) ⟨_, rfl, a.map numS, by rw [List.map_map]; rfl, Nat.le_trans sa (by decide), ?_⟩)⟩)))
  refine Dt_seq (Dt_set (De_join (De_c ⟨_, rfl, Dl_dn (Dn_mapL (us := [3]) b (fun x => TI x) (fun x => TS (numS x)) (by decide) (by omega) (Di_tup (De_tD T (De_var rfl ⟨_, _, rfl, _, rfl, rfl⟩))) (fun x hx => Dg_name (De_cb (Da_cons (De_var rfl (Da_nil (Rc_strI (num_log (tb.2 x hx)) rfl)))))) ⟨_, rfl, b.map numS, by rw [List.map_map]; rfl, Nat.le_trans sb (by decide), ?_⟩)⟩)))
  have e3 : (barS).length = 3 := by decide +kernel
  refine Dt_ret (De_js (Dj_cons (De_fmtS (De_var rfl ⟨rowS a, rfl, by omega, rowS a, rfl, by rw [emp_app]; omega, Dj_cons (De_c ⟨barS, rfl, by rw [emp_app, app_len]; omega, Dj_cons (De_fmtS (De_var rfl ⟨rowS b, rfl, by omega, rowS b, rfl, by rw [emp_app, app_len, app_len]; omega, Dj_nil ?_⟩))⟩)⟩))))
  rw [emp_app]
  exact h1
/-! ### add_totals -/
abbrev add_totals_N : List Str := ["first", "others", "total", "other"]
theorem add_totals_sc : FnScope ["first", "others", "total", "other"] ["first", "others"] (defScope add_totals_st) := ⟨rfl, rfl, rfl, by decide +kernel, rfl, by decide +kernel, by decide +kernel⟩
def S_addt (C : Addr) (ca : Er8 → Addr) : PX := fun φs k kx => ∃ (a b : List Int) (rows : List (List Int × List Int)), φs = TTot C a b :: rows.map (fun r => TTot C r.1 r.2) ∧ rows.length ≤ 1000 ∧ OkT a b ∧ (∀ r ∈ rows, OkT r.1 r.2) ∧ (∀ u, u = foldDue (.mad a b) rows → Got ca kx (fun x y => k (TTot C x y)) u)
def S_addt0 (C : Addr) (ca : Er8 → Addr) : PX := fun φs k kx => ∃ (a b : List Int) (rows : List (List Int × List Int)), φs = [TTot C a b, TU (rows.map fun r => TTot C r.1 r.2)] ∧ OkT a b ∧ (∀ r ∈ rows, OkT r.1 r.2) ∧ (∀ u, u = foldDue (.mad a b) rows → Got ca kx (fun x y => k (TTot C x y)) u)
theorem ok_addt {C f1 : Addr} {ca : Er8 → Addr} {fd1 : FuncData} (F : FnS K "add_totals" add_totals_st f fd) (self1 : PySem.W.selfFirst K C = true) (D_add : On P w K mg base 7 C (PySem.dunder Operator.Add.info.2) (spX (S_add C ca)) f1 fd1) :
    FnR P w K mg base (L2N.CX P w) 9 f (spX (S_addt C ca)) := by
  refine L2N.fn_rest (p1 := "first") (pv := "others") (S0 := S_addt0 C ca) F add_totals_sc (fun _ _ _ _ _ _ _ => rfl) (fun _ _ _ _ _ _ _ _ _ => rfl) (fun φs k kx ⟨a, b, rows, e, l, g, gs, q⟩ => ⟨_, _, e, by rw [List.length_map]; exact l, a, b, rows, rfl, g, gs, q⟩) (fun cdv A outer s H vs Q E hr h => ⟨_, (pss_cons (ps_set (i := 2) add_totals_sc.nd rfl (Or.inl rfl) (pv 0))
      (pss_cons (ps_for (passes_of rfl) rfl (pi_tup (pv 1)) (pg_name (i := 3) add_totals_sc.nd rfl (Or.inl rfl))
      (pss_one (ps_set (i := 2) add_totals_sc.nd rfl (Or.inl rfl) (pe_op (OwnB.op_own2 D_add.ok (hr.mono (by first | decide | omega)) D_add.b (passO (L2N.takes_of rfl rfl rfl rfl)) self1 D_add.s D_add.fn) (pv 2) (pv 3)))))
      (pss_one (ps_ret (pv 2))))), enterX (n := 4) rfl h fun A φs k kx hS hE => ?_⟩)
  obtain ⟨a, b, rows, rfl, g, gs, q⟩ := hS
  refine Dt_seq (Dt_set (De_var rfl ?_))
  refine Dt_seq (Dt_forI [3] (ψs := rows.map fun r => TTot C r.1 r.2) (fun j Φ => ∃ (x y : List Int) (s : Sl), Φ = [.im (TTot C a b), .im (TU (rows.map fun r => TTot C r.1 r.2)), .im (TTot C x y), s] ∧ OkT x y ∧ foldDue (.mad a b) (rows.take j) = .mad x y) (Di_tup (De_var rfl ⟨_, rfl, rfl⟩)) ⟨a, b, _, rfl, g, rfl⟩ (fun j ψ Φ e hI => ?_) fun Φ hI => ?_)
  · obtain ⟨x, y, s, rfl, gx, ef⟩ := hI
    obtain ⟨r, er, rfl⟩ := of_map e
    have gr := gs r (List.mem_of_getElem? er)
    have en : foldDue (.mad a b) (rows.take (j + 1)) = plusDue x y r.1 r.2 := by
      rw [List.take_add_one, er, foldDue_app, ef]
      rfl
    refine Dg_name (Dt_set (De_own2 hE (De_var rfl (De_var rfl ⟨_, _, rfl, rfl, x, y, r.1, r.2, rfl, gx, gr, fun u eu => ?_⟩))))
    subst eu
    cases hp : plusDue x y r.1 r.2 with
    | mad x2 y2 => exact ⟨x2, y2, _, rfl, plus_ok gx gr hp, by rw [en, hp]⟩
    | ref e2 xs =>
      have all : foldDue (.mad a b) rows = .ref e2 xs := by
        conv => lhs; rw [← List.take_append_drop (j + 1) rows]
        rw [foldDue_app, en, hp, foldDue_ref]
      exact q _ all.symm
  · obtain ⟨x, y, s, rfl, gx, ef⟩ := hI
    rw [List.length_map, List.take_length] at ef
    exact Dt_ret (De_var rfl (q _ ef.symm))
end
end K08
set_option Elab.async false
set_option linter.all false
set_option maxRecDepth 100000
set_option maxHeartbeats 8000000
namespace K08
open PySem PySem.Spec PyProof.Rows L2 Wl Kx
structure ClsG (K : PySem.W.Frag) (mg : Str → Option Value) (D CD : Addr) (nD : Str) (ga : Str → Addr) : Prop where
  exc : L2.ExcC K D
  g : ∀ x ∈ cls39, mg x = some (.ref (ga x))
  k : ∀ x ∈ cls39, PySem.W.kitOne K (.ref D) (.ref (ga x)) = some (decide (x = nD))
  gd : mg "DepotError" = some (.ref CD)
  kd : PySem.W.kitOne K (.ref D) (.ref CD) = some true
  ve : PySem.W.kitOne K (.ref D) (.type "ValueError") = some true
/-- the rows behind the first -/
def rowsT (K : PySem.W.Frag) (D a dd : Addr) (ga : Str → Addr) : List Str → TA
  | [] => tNil
  | x :: xs => tCons (tTup (tCons (tC (.str x)) (tCons (tCB (ErrX.rIsD K D a dd) (tCons (tVar 0) (tCons (tC (.ref (ga x))) tNil))) tNil))) (rowsT K D a dd ga xs)
abbrev rowT (q : Str × Bool) : Ty := TU [TS q.1, TB q.2]
theorem Da_rows {A : Wd × Hp} {Φ : List Sl} {K : PySem.W.Frag} {D a dd : Addr} {fs : List (Str × V)} {ga : Str → Addr} {nD : Str} (e : Φ[0]? = some (.im (TEx a dd fs))) : ∀ {xs : List Str} {k : List Ty → Prop}, (∀ x ∈ xs, PySem.W.kitOne K (.ref D) (.ref (ga x)) = some (decide (x = nD))) → k (xs.map fun x => rowT (x, decide (x = nD))) → Da A (rowsT K D a dd ga xs) Φ k
  | [], k, _, h => Da_nil h
  | x :: xs, k, hk, h => Da_cons (De_tup (Da_cons (De_c (Da_cons (De_cb (Da_cons (De_var e (Da_cons (De_c (Da_nil (Rc_isD (.own _) (hk x List.mem_cons_self) (Da_nil ⟨Nat.le_of_ble_eq_true rfl, Da_rows e (fun y hy => hk y (List.mem_cons_of_mem _ hy)) h⟩))))))))))))
section
variable {P : Program} {w : World} {K : PySem.W.Frag} {mg : Str → Option Value} {base : Heap} {f : Addr} {fd : FuncData}
/-! ### _law_classes -/
abbrev law_classes_N : List Str := ["e", "pairs", "name", "held"]
theorem law_classes_sc : FnScope ["e", "pairs", "name", "held"] ["e"] (defScope law_classes_st) := ⟨rfl, rfl, rfl, by decide +kernel, rfl, by decide +kernel, by decide +kernel⟩
def spCls (ca : Er8 → Addr) : ErrX.SpE := fun a c d vs H Q _ => ∃ (e : Er8) (dd : Addr) (fs : List (Str × V)) (W : Wd), vs = [.ref a] ∧ c = .ref (ca e) ∧ d = some dd ∧ In W H ∧ W.B dd = some (.xd fs) ∧ ∀ v W2 H2, Fr W H W2 H2 → (TLn (fun p => H p = none) [TS "DepotError", TS e.nm]).is W2 v → Q v H2
theorem filt39 (e : Er8) : (((("DepotError" : Str), true) :: cls39.map fun x => (x, decide (x = e.nm))).filter fun q => q.2).map (fun q => TS q.1) = [TS "DepotError", TS e.nm] := by
  have h : (((("DepotError" : Str), true) :: cls39.map fun x => (x, decide (x = e.nm))).filter fun q => q.2).map (fun q => q.1) = [("DepotError" : Str), e.nm] := by
    cases e <;> decide +kernel
  have h2 := congrArg (fun xs => xs.map fun (s : Str) => TS s) h
  rw [List.map_map] at h2
  exact h2
theorem ok_classes {ca : Er8 → Addr} {CD : Addr} {ga : Str → Addr} (F : FnS K "_law_classes" law_classes_st f fd) (m_isinstance : mg "isinstance" = none) (m_ValueError : mg "ValueError" = none) (Fc : ∀ e : Er8, ClsG K mg (ca e) CD e.nm ga) : ErrX.FnE P w K mg base (L2N.CX P w) 1 f fd ["e"] (spCls ca) := by
  refine ErrX.fn_ofE F law_classes_sc (fun a c d vs H Q E h => ?_) (fun cdv A outer s H vs Q E p c d hz hr h => ?_)
  · obtain ⟨e, dd, fs, W, rfl, _⟩ := h
    rfl
  · obtain ⟨e, dd, fs, W, rfl, rfl, rfl, inn, hd, q⟩ := h
    have Fb := Fc e
    have hC := Fb.exc
    have g_DepotError := Fb.gd
    have hot : ErrX.HotE (L2H.cxH (L2N.CX P w) P w K mg base law_classes_N "_law_classes" (defScope law_classes_st) f cdv A outer s H E p) p.1 (.ref (ca e)) (some dd) := ⟨p, rfl, ⟨hz.1, hz.2⟩, List.mem_cons_self⟩
    have h1 : L2H.Hot1 (L2H.cxH (L2N.CX P w) P w K mg base law_classes_N "_law_classes" (defScope law_classes_st) f cdv A outer s H E p).A p := ErrX.HotZ.hot ⟨hz.1, hz.2⟩
    refine ⟨_, pss_cons (ps_set (i := 1) law_classes_sc.nd rfl (Or.inl rfl) (pe_lst (pa_cons (pe_tup (pa_cons pe_str (pa_cons (pe_and (pe_callB (ErrX.call_isD hC hot) (by rfl) m_isinstance (by decide +kernel) (pa_cons (pv 0) (pa_cons (pe_glob (v := .ref CD) rfl g_DepotError rfl) pa_nil))) (pe_one (pe_callB (ErrX.call_isD hC hot) (by rfl) m_isinstance (by decide +kernel) (pa_cons (pv 0) (pa_cons (pe_bltn (by rfl) m_ValueError (by decide +kernel) (v := .ty "ValueError") rfl) pa_nil))))) pa_nil))) (pa_cons (pe_tup (pa_cons pe_str (pa_cons (pe_callB (ErrX.call_isD hC hot) (by rfl) m_isinstance (by decide +kernel) (pa_cons (pv 0) (pa_cons (pe_glob (v := .ref (ga "BadSize")) rfl (Fb.g "BadSize" (by decide +kernel)) rfl) pa_nil))) pa_nil))) (pa_cons (pe_tup (pa_cons pe_str (pa_cons (pe_callB (ErrX.call_isD hC hot) (by rfl) m_isinstance (by decide +kernel) (pa_cons (pv 0) (pa_cons (pe_glob (v := .ref (ga "BadLength")) rfl (Fb.g "BadLength" (by decide +kernel)) rfl) pa_nil))) pa_nil))) (pa_cons (pe_tup (pa_cons pe_str (pa_cons (pe_callB (ErrX.call_isD hC hot) (by rfl) m_isinstance (by decide +kernel) (pa_cons (pv 0) (pa_cons (pe_glob (v := .ref (ga "BadCount")) rfl (Fb.g "BadCount" (by decide +kernel)) rfl) pa_nil))) pa_nil))) (pa_cons (pe_tup (pa_cons pe_str (pa_cons (pe_callB (ErrX.call_isD hC hot) (by rfl) m_isinstance (by decide +kernel) (pa_cons (pv 0) (pa_cons (pe_glob (v := .ref (ga "TooMany")) rfl (Fb.g "TooMany" (by decide +kernel)) rfl) pa_nil))) pa_nil))) (pa_cons (pe_tup (pa_cons pe_str (pa_cons (pe_callB (ErrX.call_isD hC hot) (by rfl) m_isinstance (by decide +kernel) (pa_cons (pv 0) (pa_cons (pe_glob (v := .ref (ga "NoDepot")) rfl (Fb.g "NoDepot" (by decide +kernel)) rfl) pa_nil))) pa_nil))) (pa_cons (pe_tup (pa_cons pe_str (pa_cons (pe_callB (ErrX.call_isD hC hot) (by rfl) m_isinstance (by decide +kernel) (pa_cons (pv 0) (pa_cons (pe_glob (v := .ref (ga "NoCustomer")) rfl (Fb.g "NoCustomer" (by decide +kernel)) rfl) pa_nil))) pa_nil))) (pa_cons (pe_tup (pa_cons pe_str (pa_cons (pe_callB (ErrX.call_isD hC hot) (by rfl) m_isinstance (by decide +kernel) (pa_cons (pv 0) (pa_cons (pe_glob (v := .ref (ga "NoPlace")) rfl (Fb.g "NoPlace" (by decide +kernel)) rfl) pa_nil))) pa_nil))) (pa_cons (pe_tup (pa_cons pe_str (pa_cons (pe_callB (ErrX.call_isD hC hot) (by rfl) m_isinstance (by decide +kernel) (pa_cons (pv 0) (pa_cons (pe_glob (v := .ref (ga "NoLink")) rfl (Fb.g "NoLink" (by decide +kernel)) rfl) pa_nil))) pa_nil))) (pa_cons (pe_tup (pa_cons pe_str (pa_cons (pe_callB (ErrX.call_isD hC hot) (by rfl) m_isinstance (by decide +kernel) (pa_cons (pv 0) (pa_cons (pe_glob (v := .ref (ga "SameEnds")) rfl (Fb.g "SameEnds" (by decide +kernel)) rfl) pa_nil))) pa_nil))) (pa_cons (pe_tup (pa_cons pe_str (pa_cons (pe_callB (ErrX.call_isD hC hot) (by rfl) m_isinstance (by decide +kernel) (pa_cons (pv 0) (pa_cons (pe_glob (v := .ref (ga "Stranded")) rfl (Fb.g "Stranded" (by decide +kernel)) rfl) pa_nil))) pa_nil))) (pa_cons (pe_tup (pa_cons pe_str (pa_cons (pe_callB (ErrX.call_isD hC hot) (by rfl) m_isinstance (by decide +kernel) (pa_cons (pv 0) (pa_cons (pe_glob (v := .ref (ga "NoSupply")) rfl (Fb.g "NoSupply" (by decide +kernel)) rfl) pa_nil))) pa_nil))) (pa_cons (pe_tup (pa_cons pe_str (pa_cons (pe_callB (ErrX.call_isD hC hot) (by rfl) m_isinstance (by decide +kernel) (pa_cons (pv 0) (pa_cons (pe_glob (v := .ref (ga "NoDemand")) rfl (Fb.g "NoDemand" (by decide +kernel)) rfl) pa_nil))) pa_nil))) (pa_cons (pe_tup (pa_cons pe_str (pa_cons (pe_callB (ErrX.call_isD hC hot) (by rfl) m_isinstance (by decide +kernel) (pa_cons (pv 0) (pa_cons (pe_glob (v := .ref (ga "NotMore")) rfl (Fb.g "NotMore" (by decide +kernel)) rfl) pa_nil))) pa_nil))) (pa_cons (pe_tup (pa_cons pe_str (pa_cons (pe_callB (ErrX.call_isD hC hot) (by rfl) m_isinstance (by decide +kernel) (pa_cons (pv 0) (pa_cons (pe_glob (v := .ref (ga "NoRoute")) rfl (Fb.g "NoRoute" (by decide +kernel)) rfl) pa_nil))) pa_nil))) (pa_cons (pe_tup (pa_cons pe_str (pa_cons (pe_callB (ErrX.call_isD hC hot) (by rfl) m_isinstance (by decide +kernel) (pa_cons (pv 0) (pa_cons (pe_glob (v := .ref (ga "NotInTree")) rfl (Fb.g "NotInTree" (by decide +kernel)) rfl) pa_nil))) pa_nil))) (pa_cons (pe_tup (pa_cons pe_str (pa_cons (pe_callB (ErrX.call_isD hC hot) (by rfl) m_isinstance (by decide +kernel) (pa_cons (pv 0) (pa_cons (pe_glob (v := .ref (ga "NotAcross")) rfl (Fb.g "NotAcross" (by decide +kernel)) rfl) pa_nil))) pa_nil))) (pa_cons (pe_tup (pa_cons pe_str (pa_cons (pe_callB (ErrX.call_isD hC hot) (by rfl) m_isinstance (by decide +kernel) (pa_cons (pv 0) (pa_cons (pe_glob (v := .ref (ga "NotPriced")) rfl (Fb.g "NotPriced" (by decide +kernel)) rfl) pa_nil))) pa_nil))) (pa_cons (pe_tup (pa_cons pe_str (pa_cons (pe_callB (ErrX.call_isD hC hot) (by rfl) m_isinstance (by decide +kernel) (pa_cons (pv 0) (pa_cons (pe_glob (v := .ref (ga "Closes")) rfl (Fb.g "Closes" (by decide +kernel)) rfl) pa_nil))) pa_nil))) (pa_cons (pe_tup (pa_cons pe_str (pa_cons (pe_callB (ErrX.call_isD hC hot) (by rfl) m_isinstance (by decide +kernel) (pa_cons (pv 0) (pa_cons (pe_glob (v := .ref (ga "Short")) rfl (Fb.g "Short" (by decide +kernel)) rfl) pa_nil))) pa_nil))) (pa_cons (pe_tup (pa_cons pe_str (pa_cons (pe_callB (ErrX.call_isD hC hot) (by rfl) m_isinstance (by decide +kernel) (pa_cons (pv 0) (pa_cons (pe_glob (v := .ref (ga "Below")) rfl (Fb.g "Below" (by decide +kernel)) rfl) pa_nil))) pa_nil))) (pa_cons (pe_tup (pa_cons pe_str (pa_cons (pe_callB (ErrX.call_isD hC hot) (by rfl) m_isinstance (by decide +kernel) (pa_cons (pv 0) (pa_cons (pe_glob (v := .ref (ga "Repeated")) rfl (Fb.g "Repeated" (by decide +kernel)) rfl) pa_nil))) pa_nil))) (pa_cons (pe_tup (pa_cons pe_str (pa_cons (pe_callB (ErrX.call_isD hC hot) (by rfl) m_isinstance (by decide +kernel) (pa_cons (pv 0) (pa_cons (pe_glob (v := .ref (ga "NotJoined")) rfl (Fb.g "NotJoined" (by decide +kernel)) rfl) pa_nil))) pa_nil))) (pa_cons (pe_tup (pa_cons pe_str (pa_cons (pe_callB (ErrX.call_isD hC hot) (by rfl) m_isinstance (by decide +kernel) (pa_cons (pv 0) (pa_cons (pe_glob (v := .ref (ga "NotSpanning")) rfl (Fb.g "NotSpanning" (by decide +kernel)) rfl) pa_nil))) pa_nil))) (pa_cons (pe_tup (pa_cons pe_str (pa_cons (pe_callB (ErrX.call_isD hC hot) (by rfl) m_isinstance (by decide +kernel) (pa_cons (pv 0) (pa_cons (pe_glob (v := .ref (ga "Unbalanced")) rfl (Fb.g "Unbalanced" (by decide +kernel)) rfl) pa_nil))) pa_nil))) (pa_cons (pe_tup (pa_cons pe_str (pa_cons (pe_callB (ErrX.call_isD hC hot) (by rfl) m_isinstance (by decide +kernel) (pa_cons (pv 0) (pa_cons (pe_glob (v := .ref (ga "Overflow")) rfl (Fb.g "Overflow" (by decide +kernel)) rfl) pa_nil))) pa_nil))) (pa_cons (pe_tup (pa_cons pe_str (pa_cons (pe_callB (ErrX.call_isD hC hot) (by rfl) m_isinstance (by decide +kernel) (pa_cons (pv 0) (pa_cons (pe_glob (v := .ref (ga "Unfair")) rfl (Fb.g "Unfair" (by decide +kernel)) rfl) pa_nil))) pa_nil))) (pa_cons (pe_tup (pa_cons pe_str (pa_cons (pe_callB (ErrX.call_isD hC hot) (by rfl) m_isinstance (by decide +kernel) (pa_cons (pv 0) (pa_cons (pe_glob (v := .ref (ga "NoCycle")) rfl (Fb.g "NoCycle" (by decide +kernel)) rfl) pa_nil))) pa_nil))) (pa_cons (pe_tup (pa_cons pe_str (pa_cons (pe_callB (ErrX.call_isD hC hot) (by rfl) m_isinstance (by decide +kernel) (pa_cons (pv 0) (pa_cons (pe_glob (v := .ref (ga "NotFlexible")) rfl (Fb.g "NotFlexible" (by decide +kernel)) rfl) pa_nil))) pa_nil))) (pa_cons (pe_tup (pa_cons pe_str (pa_cons (pe_callB (ErrX.call_isD hC hot) (by rfl) m_isinstance (by decide +kernel) (pa_cons (pv 0) (pa_cons (pe_glob (v := .ref (ga "NotSpanningSet")) rfl (Fb.g "NotSpanningSet" (by decide +kernel)) rfl) pa_nil))) pa_nil))) (pa_cons (pe_tup (pa_cons pe_str (pa_cons (pe_callB (ErrX.call_isD hC hot) (by rfl) m_isinstance (by decide +kernel) (pa_cons (pv 0) (pa_cons (pe_glob (v := .ref (ga "NoNumber")) rfl (Fb.g "NoNumber" (by decide +kernel)) rfl) pa_nil))) pa_nil))) (pa_cons (pe_tup (pa_cons pe_str (pa_cons (pe_callB (ErrX.call_isD hC hot) (by rfl) m_isinstance (by decide +kernel) (pa_cons (pv 0) (pa_cons (pe_glob (v := .ref (ga "Unread")) rfl (Fb.g "Unread" (by decide +kernel)) rfl) pa_nil))) pa_nil))) (pa_cons (pe_tup (pa_cons pe_str (pa_cons (pe_callB (ErrX.call_isD hC hot) (by rfl) m_isinstance (by decide +kernel) (pa_cons (pv 0) (pa_cons (pe_glob (v := .ref (ga "BadColumn")) rfl (Fb.g "BadColumn" (by decide +kernel)) rfl) pa_nil))) pa_nil))) (pa_cons (pe_tup (pa_cons pe_str (pa_cons (pe_callB (ErrX.call_isD hC hot) (by rfl) m_isinstance (by decide +kernel) (pa_cons (pv 0) (pa_cons (pe_glob (v := .ref (ga "BadDeed")) rfl (Fb.g "BadDeed" (by decide +kernel)) rfl) pa_nil))) pa_nil))) (pa_cons (pe_tup (pa_cons pe_str (pa_cons (pe_callB (ErrX.call_isD hC hot) (by rfl) m_isinstance (by decide +kernel) (pa_cons (pv 0) (pa_cons (pe_glob (v := .ref (ga "BadLine")) rfl (Fb.g "BadLine" (by decide +kernel)) rfl) pa_nil))) pa_nil))) (pa_cons (pe_tup (pa_cons pe_str (pa_cons (pe_callB (ErrX.call_isD hC hot) (by rfl) m_isinstance (by decide +kernel) (pa_cons (pv 0) (pa_cons (pe_glob (v := .ref (ga "DeedRefused")) rfl (Fb.g "DeedRefused" (by decide +kernel)) rfl) pa_nil))) pa_nil))) (pa_cons (pe_tup (pa_cons pe_str (pa_cons (pe_callB (ErrX.call_isD hC hot) (by rfl) m_isinstance (by decide +kernel) (pa_cons (pv 0) (pa_cons (pe_glob (v := .ref (ga "OtherNetwork")) rfl (Fb.g "OtherNetwork" (by decide +kernel)) rfl) pa_nil))) pa_nil))) (pa_cons (pe_tup (pa_cons pe_str (pa_cons (pe_callB (ErrX.call_isD hC hot) (by rfl) m_isinstance (by decide +kernel) (pa_cons (pv 0) (pa_cons (pe_glob (v := .ref (ga "OtherTotals")) rfl (Fb.g "OtherTotals" (by decide +kernel)) rfl) pa_nil))) pa_nil))) (pa_cons (pe_tup (pa_cons pe_str (pa_cons (pe_callB (ErrX.call_isD hC hot) (by rfl) m_isinstance (by decide +kernel) (pa_cons (pv 0) (pa_cons (pe_glob (v := .ref (ga "NotInner")) rfl (Fb.g "NotInner" (by decide +kernel)) rfl) pa_nil))) pa_nil))) (pa_cons (pe_tup (pa_cons pe_str (pa_cons (pe_callB (ErrX.call_isD hC hot) (by rfl) m_isinstance (by decide +kernel) (pa_cons (pv 0) (pa_cons (pe_glob (v := .ref (ga "NothingLeft")) rfl (Fb.g "NothingLeft" (by decide +kernel)) rfl) pa_nil))) pa_nil))) pa_nil)))))))))))))))))))))))))))))))))))))))))) (pss_one (ps_ret (HotL.pe_lcH (own := [("name", 2), ("held", 3)]) h1 List.mem_cons_self law_classes_sc.nd (pv 1) (blkOk_by (own := [("name", 2), ("held", 3)]) (N := law_classes_N) (sc := defScope law_classes_st) (by decide +kernel)) (fun _ _ _ _ _ => (HotL.pgp_tup (by exact h1) (pgs_cons (pg_name (i := 2) law_classes_sc.nd rfl (Or.inl rfl)) (pgs_cons (pg_name (i := 3) law_classes_sc.nd rfl (Or.inl rfl)) pgs_nil)) : HotL.PGp _ p _ (gTup K 2 _))) (fun _ _ _ _ _ => (pts_one (pt_val (pv 3)))) (fun _ _ _ _ _ => (pv 2))))), ?_⟩
    have rt : ∀ φ, φ = TLn (fun p => H p = none) [TS "DepotError", TS e.nm] → ∀ v W2 H2, Fr W H W2 H2 → φ.is W2 v → Q v H2 := fun φ eφ v W2 H2 f2 p2 => by
      subst eφ
      exact q v W2 H2 f2 p2
    have hD : Dt (W, H) (tSeq (tAsg (tLst (tCons (tTup (tCons (tC (.str "DepotError")) (tCons (tAndV (tCB (ErrX.rIsD K (ca e) p.1 dd) (tCons (tVar 0) (tCons (tC (.ref CD)) tNil))) (tCB (ErrX.rIsD K (ca e) p.1 dd) (tCons (tVar 0) (tCons (tC (.ty "ValueError")) tNil)))) tNil))) (rowsT K (ca e) p.1 dd ga cls39))) (gName 1)) (tRet (tLc (iList K (tVar 1)) (gTup K 2 (gCons (gName 2) (gCons (gName 3) gNil))) (tTest (tVar 3)) (tVar 2) [2, 3]))) (slots 4 [TEx p.1 dd fs]) ⟨fun _ => False, fun φ => φ = TLn (fun p => H p = none) [TS "DepotError", TS e.nm], fun _ => False, fun _ => False⟩ := by
      refine Dt_seq (Dt_set (De_lst (Da_cons (De_tup (Da_cons (De_c (Da_cons (De_and (De_cb (Da_cons (De_var rfl (Da_cons (De_c (Da_nil (Rc_isD (.own _) Fb.kd ⟨true, rfl, fun _ => ?_, fun z => (by cases z)⟩)))))))))))))))
      refine De_cb (Da_cons (De_var rfl (Da_cons (De_c (Da_nil (Rc_isD (.ty _) Fb.ve (Da_nil ⟨Nat.le_of_ble_eq_true rfl, Da_rows rfl Fb.k ⟨by simp only [List.length_cons, List.length_map]; decide, ?_⟩⟩)))))))
      refine Dt_ret (De_dnN (Dn_filterL (us := [2] ++ ([3] ++ [])) ((("DepotError" : Str), true) :: cls39.map fun x => (x, decide (x = e.nm))) rowT (fun q => TS q.1) (fun q => q.2) (by decide) (by rw [List.length_cons, List.length_map]; decide) (Di_list (De_var rfl ⟨_, rfl, ?_⟩)) (fun q hq => ?_) ⟨_, rfl, ?_⟩))
      · rw [List.map_cons, List.map_map]
        rfl
      · refine Dg_tup rfl (Dgs_cons (Dg_name (Dgs_cons (Dg_name (Dgs_nil (Dc_test (De_var rfl ⟨_, rfl, rfl, fun _ => De_var rfl rfl⟩)))))))
      · rw [filt39]
    refine hD W _ (L2.start law_classes_N [.ref p.1]) W H ⟨fun _ _ _ _ z _ _ => z.elim, fun φ v W2 H2 eφ f2 p2 => rt φ eφ v W2 H2 f2 p2, fun _ _ _ _ z _ _ => z.elim, fun _ _ _ _ z _ _ => z.elim⟩ ⟨Fr.refl inn, en_start (φs := [TEx p.1 dd fs]) (N := law_classes_N) ⟨⟨rfl, hd⟩, trivial⟩⟩ (Le.refl W)
end
end K08
set_option Elab.async false
set_option linter.all false
set_option maxRecDepth 100000
set_option maxHeartbeats 8000000
namespace K08
open PySem PySem.Spec PyProof.Rows L2 Wl Kx
section
variable {P : Program} {w : World} {K : PySem.W.Frag} {mg : Str → Option Value} {base : Heap} {f : Addr} {fd : FuncData}
/-! ### pools -/
abbrev law_cell_N : List Str := ["script", "k", "cell", "mixed", "number", "turn"]
theorem law_cell_sc : FnScope ["script", "k", "cell", "mixed", "number", "turn"] ["script", "k"] (defScope law_cell_st) := ⟨rfl, rfl, rfl, by decide +kernel, rfl, by decide +kernel, by decide +kernel⟩
def S_cell (K : PySem.W.Frag) : PX := fun φs k _ => ∃ (ns : List Int) (i : Nat), φs = [TQ K ns, TI i] ∧ i < 5 ∧ ns.length ≤ 63 ∧ ∀ x : Int, k (TI x)
theorem ok_cell (F : FnS K "_law_cell" law_cell_st f fd) (m_len : mg "len" = none) (m_int : mg "int" = none) (m_min : mg "min" = none) (m_abs : mg "abs" = none) (m_range : mg "range" = none) : FnOk P w K mg base (L2N.CX P w) 1 f fd ["script", "k"] (spX (S_cell K)) := by
  refine F.ok law_cell_sc (fun vs H Q E h => lenX (n := 2) (fun φs k kx ⟨_, _, e, _⟩ => by rw [e]; rfl) h) (fun cdv A outer s H vs Q E hr h => ⟨_, (pss_cons (ps_if (pt_cmpR op_eq (pe_callB call_len_seq (by rfl) m_len (by decide +kernel) (pa_cons (pv 0) pa_nil)) pe_int (nomark _)) (pss_one (ps_ret (pe_ix ix_list (pe_lst (pa_cons pe_int (pa_cons pe_int (pa_cons pe_int (pa_cons pe_int (pa_cons pe_int pa_nil)))))) (pv 1) (fun _ _ => rfl)))) pss_nil)
      (pss_cons (ps_set (i := 2) law_cell_sc.nd rfl (Or.inl rfl) (pe_callTy call_int1 (by rfl) m_int (by decide +kernel) (pa_cons (pe_ix ix_list (pv 0) (pe_callB (call_min2 rfl) (by rfl) m_min (by decide +kernel) (pa_cons (pv 1) (pa_cons (pe_op op_sub (pe_callB call_len_seq (by rfl) m_len (by decide +kernel) (pa_cons (pv 0) pa_nil)) pe_int) pa_nil))) (fun _ _ => rfl)) pa_nil)))
      (pss_cons (ps_if (PW.pt (pw_and (pt_cmpR op_lt (pv 1) (pe_callB call_len_seq (by rfl) m_len (by decide +kernel) (pa_cons (pv 0) pa_nil)) (nomark _)) (pw_and1 (pt_cmpR op_ge (pe_callB call_abs (by rfl) m_abs (by decide +kernel) (pa_cons (pv 2) pa_nil)) (pe_op op_pow pe_int pe_int) (nomark _))))) (pss_one (ps_ret (pe_op op_mod (pe_callB call_abs (by rfl) m_abs (by decide +kernel) (pa_cons (pv 2) pa_nil)) (pe_op op_mulW (pe_op op_pow pe_int pe_int) (pe_op op_pow pe_int pe_int))))) pss_nil)
      (pss_cons (ps_set (i := 3) law_cell_sc.nd rfl (Or.inl rfl) (pe_op op_add (pe_op op_add (pe_op op_mul (pe_op op_mod (pe_callB call_abs (by rfl) m_abs (by decide +kernel) (pa_cons (pv 2) pa_nil)) (pe_op op_pow pe_int pe_int)) pe_int) (pe_op op_mul pe_int (pv 1))) (pe_callTy call_int1 (by rfl) m_int (by decide +kernel) (pa_cons (pe_cmpR op_lt (pv 2) pe_int (nomark _)) pa_nil))))
      (pss_cons (ps_set (i := 4) law_cell_sc.nd rfl (Or.inl rfl) pe_int)
      (pss_cons (ps_for (passes_of rfl) rfl (pi_range1 rfl m_range (pa_cons pe_int pa_nil)) (pg_name (i := 5) law_cell_sc.nd rfl (Or.inl rfl))
      (pss_cons (ps_set (i := 3) law_cell_sc.nd rfl (Or.inl rfl) (pe_op op_mod (pe_op op_add (pe_op op_mul (pv 3) pe_int) pe_int) pe_int))
      (pss_cons (ps_set (i := 3) law_cell_sc.nd rfl (Or.inl rfl) (pe_op op_mod (pe_op op_add (pe_op op_mul (pv 3) pe_int) (pv 5)) pe_int))
      (pss_one (ps_set (i := 4) law_cell_sc.nd rfl (Or.inl rfl) (pe_op op_add (pe_op op_mul (pv 4) pe_int) (pv 3)))))))
      (pss_one (ps_ret (pv 4))))))))), enterX (n := 6) rfl h fun A φs k kx hS hE => ?_⟩)
  obtain ⟨ns, i, rfl, hi, l, h1⟩ := hS
  have a4 : ∀ j : Nat, j < 5 → ∃ x : Int, atI [TI 98249, TI 21187, TI 529, TI 2222, TI 10850652232093632] (j : Int) = some (TI x) := fun j hj => by
    match j, hj with
    | 0, _ => exact ⟨_, rfl⟩
    | 1, _ => exact ⟨_, rfl⟩
    | 2, _ => exact ⟨_, rfl⟩
    | 3, _ => exact ⟨_, rfl⟩
    | 4, _ => exact ⟨_, rfl⟩
  (repeat' (first  | ((with_reducible apply De_var); exact rfl) | with_reducible refine De_c ?_ | with_reducible refine De_op ?_ | with_reducible refine Rr_I0 ?_ | ((with_reducible refine Rr_eq ?_ ?_); exact rfl) | ((with_reducible refine Rr_ne ?_ ?_); exact rfl) | with_reducible refine De_chain ?_ | with_reducible refine ⟨_, rfl, ?_⟩ | with_reducible refine Dc_test ?_ | with_reducible refine Dc_b ?_ | with_reducible refine Dc_not ?_ | with_reducible refine Dc_and ?_ | with_reducible refine Dc_or ?_ | with_reducible refine De_and ?_ | with_reducible refine De_or ?_ | with_reducible refine De_not ?_ | with_reducible refine Dt_if ?_ | with_reducible refine Da_cons ?_ | with_reducible refine Da_nil ?_ | with_reducible refine Dt_seq ?_ | with_reducible refine Dt_next ?_ | with_reducible refine De_un ?_ | with_reducible refine br_dec (fun _ => ?_) (fun _ => ?_) | with_reducible refine br_ndec (fun _ => ?_) (fun _ => ?_) | with_reducible refine br_t ?_ | with_reducible refine br_f ?_ | with_reducible refine br_nt ?_ | with_reducible refine br_nf ?_ | ((with_reducible refine De_len ?_); first | ((with_reducible apply Dl_im); exact rfl) | ((with_reducible apply Dl_ow); exact rfl)) | ((with_reducible refine De_sumL ?_); first | ((with_reducible apply Dl_im); exact rfl) | ((with_reducible apply Dl_ow); exact rfl)) | with_reducible refine ⟨rfl, ?_⟩ | with_reducible refine De_cb ?_ | with_reducible refine Rc_min2 ?_ | with_reducible refine Rc_max2 ?_ | with_reducible refine Rc_abs ?_ | with_reducible refine Rc_int1 ?_ | with_reducible refine Rc_intB ?_ | with_reducible refine Rc_lenU ?_ | refine Rc_lenQ ?_ | with_reducible refine Rr_IC ?_ ?_ | with_reducible refine Rr_isN ?_ | with_reducible refine Rr_isN_no (nn_tup _) ?_ | with_reducible refine Rr_notN ?_ | with_reducible refine Rr_notN_no (nn_tup _) ?_ | with_reducible refine Dt_ret ?_ | with_reducible refine Dt_set ?_ | with_reducible refine Dt_drop ?_ | with_reducible refine De_call ?_ | with_reducible refine De_callN ?_ | with_reducible refine De_ifExp ?_ | with_reducible refine De_prop ?_ | with_reducible refine De_fld ?_ | with_reducible refine ⟨⟨_, rfl⟩, ?_⟩ | ((with_reducible refine De_tupL ?_); first | ((with_reducible apply Dl_im); exact rfl) | ((with_reducible apply Dl_ow); exact rfl))))
  · obtain ⟨x, hx⟩ := a4 i hi
    refine De_lst (Da_cons (De_c (Da_cons (De_c (Da_cons (De_c (Da_cons (De_c (Da_cons (De_c (Da_nil ⟨Nat.le_of_ble_eq_true rfl, ?_⟩)))))))))))
    exact De_var rfl (Rr_ixL hx (h1 x))
  · rename_i e0
    have l0 : 0 < ns.length := by
      have : ¬ ((ns.length : Int) = 0) := fun z => e0 (congrArg V.int z)
      omega
    have ix : ∃ x, atI ns (if (ns.length : Int) - 1 < i then (ns.length : Int) - 1 else i) = some x := by
      by_cases c : (ns.length : Int) - 1 < i
      · rw [if_pos c, show (ns.length : Int) - 1 = ((ns.length - 1 : Nat) : Int) by omega]
        exact ⟨_, L2.atI_nat (List.getElem?_eq_getElem (by omega))⟩
      · rw [if_neg c]
        exact ⟨_, L2.atI_nat (List.getElem?_eq_getElem (by omega))⟩
    obtain ⟨x, hx⟩ := ix
    refine Rr_ixQ hx ?_
    (repeat' (first  | ((with_reducible apply De_var); exact rfl) | with_reducible refine De_c ?_ | with_reducible refine De_op ?_ | with_reducible refine Rr_I0 ?_ | ((with_reducible refine Rr_eq ?_ ?_); exact rfl) | ((with_reducible refine Rr_ne ?_ ?_); exact rfl) | with_reducible refine De_chain ?_ | with_reducible refine ⟨_, rfl, ?_⟩ | with_reducible refine Dc_test ?_ | with_reducible refine Dc_b ?_ | with_reducible refine Dc_not ?_ | with_reducible refine Dc_and ?_ | with_reducible refine Dc_or ?_ | with_reducible refine De_and ?_ | with_reducible refine De_or ?_ | with_reducible refine De_not ?_ | with_reducible refine Dt_if ?_ | with_reducible refine Da_cons ?_ | with_reducible refine Da_nil ?_ | with_reducible refine Dt_seq ?_ | with_reducible refine Dt_next ?_ | with_reducible refine De_un ?_ | with_reducible refine br_dec (fun _ => ?_) (fun _ => ?_) | with_reducible refine br_ndec (fun _ => ?_) (fun _ => ?_) | with_reducible refine br_t ?_ | with_reducible refine br_f ?_ | with_reducible refine br_nt ?_ | with_reducible refine br_nf ?_ | ((with_reducible refine De_len ?_); first | ((with_reducible apply Dl_im); exact rfl) | ((with_reducible apply Dl_ow); exact rfl)) | ((with_reducible refine De_sumL ?_); first | ((with_reducible apply Dl_im); exact rfl) | ((with_reducible apply Dl_ow); exact rfl)) | with_reducible refine ⟨rfl, ?_⟩ | with_reducible refine De_cb ?_ | with_reducible refine Rc_min2 ?_ | with_reducible refine Rc_max2 ?_ | with_reducible refine Rc_abs ?_ | with_reducible refine Rc_int1 ?_ | with_reducible refine Rc_intB ?_ | with_reducible refine Rc_lenU ?_ | refine Rc_lenQ ?_ | with_reducible refine Rr_IC ?_ ?_ | with_reducible refine Rr_isN ?_ | with_reducible refine Rr_isN_no (nn_tup _) ?_ | with_reducible refine Rr_notN ?_ | with_reducible refine Rr_notN_no (nn_tup _) ?_ | with_reducible refine Dt_ret ?_ | with_reducible refine Dt_set ?_ | with_reducible refine Dt_drop ?_ | with_reducible refine De_call ?_ | with_reducible refine De_callN ?_ | with_reducible refine De_ifExp ?_ | with_reducible refine De_prop ?_ | with_reducible refine De_fld ?_ | with_reducible refine ⟨⟨_, rfl⟩, ?_⟩ | ((with_reducible refine De_tupL ?_); first | ((with_reducible apply Dl_im); exact rfl) | ((with_reducible apply Dl_ow); exact rfl))))
    all_goals first
      | exact ⟨by decide, by decide, by decide⟩
      | exact Or.inr ⟨by decide, by decide⟩
      | exact Or.inl ⟨by decide, by decide⟩
      | exact h1 _
      | (show CMulW _ _; unfold CMulW; decide +kernel)
      | decide +kernel
      | skip
    all_goals (
      refine Dt_forI [5] (I := fun j Φ => ∃ y z t, Φ = [.im (TQ K ns), .im (TI i), .im (TI x), .im (TI y), .im (TI z), t]) (ψs := (List.range 7).map fun (i : Nat) => TI i) (Di_range1 (Da_cons (De_c (Da_nil ⟨7, rfl, by decide, rfl⟩)))) ⟨_, _, _, rfl⟩ (fun j ψ Φ e hI => ?_) fun Φ hI => ?_
      · obtain ⟨y, z, t, rfl⟩ := hI
        obtain ⟨p, ep, rfl⟩ := of_map e
        refine Dg_name ?_
        (repeat' (first  | ((with_reducible apply De_var); exact rfl) | with_reducible refine De_c ?_ | with_reducible refine De_op ?_ | with_reducible refine Rr_I0 ?_ | ((with_reducible refine Rr_eq ?_ ?_); exact rfl) | ((with_reducible refine Rr_ne ?_ ?_); exact rfl) | with_reducible refine De_chain ?_ | with_reducible refine ⟨_, rfl, ?_⟩ | with_reducible refine Dc_test ?_ | with_reducible refine Dc_b ?_ | with_reducible refine Dc_not ?_ | with_reducible refine Dc_and ?_ | with_reducible refine Dc_or ?_ | with_reducible refine De_and ?_ | with_reducible refine De_or ?_ | with_reducible refine De_not ?_ | with_reducible refine Dt_if ?_ | with_reducible refine Da_cons ?_ | with_reducible refine Da_nil ?_ | with_reducible refine Dt_seq ?_ | with_reducible refine Dt_next ?_ | with_reducible refine De_un ?_ | with_reducible refine br_dec (fun _ => ?_) (fun _ => ?_) | with_reducible refine br_ndec (fun _ => ?_) (fun _ => ?_) | with_reducible refine br_t ?_ | with_reducible refine br_f ?_ | with_reducible refine br_nt ?_ | with_reducible refine br_nf ?_ | ((with_reducible refine De_len ?_); first | ((with_reducible apply Dl_im); exact rfl) | ((with_reducible apply Dl_ow); exact rfl)) | ((with_reducible refine De_sumL ?_); first | ((with_reducible apply Dl_im); exact rfl) | ((with_reducible apply Dl_ow); exact rfl)) | with_reducible refine ⟨rfl, ?_⟩ | with_reducible refine De_cb ?_ | with_reducible refine Rc_min2 ?_ | with_reducible refine Rc_max2 ?_ | with_reducible refine Rc_abs ?_ | with_reducible refine Rc_int1 ?_ | with_reducible refine Rc_intB ?_ | with_reducible refine Rc_lenU ?_ | refine Rc_lenQ ?_ | with_reducible refine Rr_IC ?_ ?_ | with_reducible refine Rr_isN ?_ | with_reducible refine Rr_isN_no (nn_tup _) ?_ | with_reducible refine Rr_notN ?_ | with_reducible refine Rr_notN_no (nn_tup _) ?_ | with_reducible refine Dt_ret ?_ | with_reducible refine Dt_set ?_ | with_reducible refine Dt_drop ?_ | with_reducible refine De_call ?_ | with_reducible refine De_callN ?_ | with_reducible refine De_ifExp ?_ | with_reducible refine De_prop ?_ | with_reducible refine De_fld ?_ | with_reducible refine ⟨⟨_, rfl⟩, ?_⟩ | ((with_reducible refine De_tupL ?_); first | ((with_reducible apply Dl_im); exact rfl) | ((with_reducible apply Dl_ow); exact rfl))))
        all_goals first
          | exact Or.inr ⟨by decide, by decide⟩
          | decide
          | exact ⟨_, _, _, rfl⟩
      · obtain ⟨y, z, t, rfl⟩ := hI
        exact Dt_seq (Dt_ret (De_var rfl (h1 _)))
    )
abbrev law_take_N : List Str := ["pool", "limit", "digit"]
theorem law_take_sc : FnScope ["pool", "limit", "digit"] ["pool", "limit"] (defScope law_take_st) := ⟨rfl, rfl, rfl, by decide +kernel, rfl, by decide +kernel, by decide +kernel⟩
def S_take : PX := fun φs k _ => ∃ l : Int, φs = [TC, TI l] ∧ 0 < l ∧ l < 1000000 ∧ ∀ d : Int, 0 ≤ d → d < l → k (TI d)
theorem ok_take (F : FnS K "_law_take" law_take_st f fd) (m_int : mg "int" = none) : FnOk P w K mg base (L2N.CX P w) 1 f fd ["pool", "limit"] (spX S_take) := by
  refine F.ok law_take_sc (fun vs H Q E h => lenX (n := 2) (fun φs k kx ⟨_, e, _⟩ => by rw [e]; rfl) h) (fun cdv A outer s H vs Q E hr h => ⟨_, (pss_cons (ps_set (i := 2) law_take_sc.nd rfl (Or.inl rfl) (pe_op op_mod (pe_callTy call_int1 (by rfl) m_int (by decide +kernel) (pa_cons (pe_ix ix_list (pv 0) pe_int (fun _ _ => rfl)) pa_nil)) (pv 1)))
      (pss_cons (ps_asg (pe_op op_fdivN (pe_ix ix_list (pv 0) pe_int (fun _ _ => rfl)) (pv 1)) (pg_sub (pv 0) pe_int set_list))
      (pss_one (ps_ret (pv 2))))), enterX (n := 3) rfl h fun A φs k kx hS hE => ?_⟩)
  obtain ⟨l, rfl, l0, l1, h1⟩ := hS
  refine Dt_seq (Dt_set (De_op (De_cb (Da_cons (De_op (De_var rfl (De_c (Rr_ixC fun x => Da_nil (Rc_int1 (De_var rfl (Rr_IC l0 ?_)))))))))))
  refine Dt_seq (Dt_putC rfl (De_op (De_op (De_var rfl (De_c (Rr_ixC fun y => De_var rfl (Rr_IC ⟨by omega, by omega⟩ ⟨_, rfl, De_c ⟨rfl, ?_⟩⟩)))))))
  exact Dt_seq (Dt_ret (De_var rfl (h1 _ (Int.emod_nonneg _ (by omega)) (Int.emod_lt_of_pos _ l0))))
end
end K08
set_option Elab.async false
set_option linter.all false
set_option maxRecDepth 100000
set_option maxHeartbeats 8000000
namespace K08
open PySem PySem.Spec PyProof.Rows L2 Wl Kx
abbrev bI (b : Bool) : Ty := TI (if b then 1 else 0)
/-- ints, lists and tuples of such -/
def Nst : Nat → Ty → Prop
  | 0, _ => False
  | d + 1, φ => (∃ x, φ = TI x) ∨ (∃ x, φ = TS x) ∨ ∃ φs, (φ = TL φs ∨ φ = TU φs) ∧ φs.length ≤ 40 ∧ ∀ ψ ∈ φs, Nst d ψ
section
variable {P : Program} {w : World} {K : PySem.W.Frag} {mg : Str → Option Value} {base : Heap} {f : Addr} {fd : FuncData}
/-! ### _law_alike -/
abbrev law_alike_N : List Str := ["told", "due", "k"]
theorem law_alike_sc : FnScope ["told", "due", "k"] ["told", "due"] (defScope law_alike_st) := ⟨rfl, rfl, rfl, by decide +kernel, rfl, by decide +kernel, by decide +kernel⟩
def S_aI : PX := fun φs k _ => ∃ x : Int, φs = [TI x, TI x] ∧ k (TB true)
def S_aS : PX := fun φs k _ => ∃ x : Str, φs = [TS x, TS x] ∧ k (TB true)
def S_aL (T : List Ty → Ty) (d : Nat) : PX := fun φs k _ => ∃ ψs : List Ty, φs = [T ψs, T ψs] ∧ ψs.length ≤ 40 ∧ (∀ ψ ∈ ψs, Nst d ψ) ∧ k (TB true)
def S_alike : Nat → PX
  | 0 => fun _ _ _ => False
  | d + 1 => orX S_aI (orX S_aS (orX (S_aL TL d) (S_aL TU d)))
theorem alike_of {d : Nat} {φ : Ty} (h : Nst d φ) {k : Ty → Prop} {kx : Addr → List (Str × Ty) → Prop} (hk : k (TB true)) : S_alike d [φ, φ] k kx := by
  cases d with
  | zero => exact h.elim
  | succ d =>
    rcases h with ⟨x, rfl⟩ | ⟨x, rfl⟩ | ⟨φs, rfl | rfl, l, h⟩
    · exact .inl ⟨x, rfl, hk⟩
    · exact .inr (.inl ⟨x, rfl, hk⟩)
    · exact .inr (.inr (.inl ⟨φs, rfl, l, h, hk⟩))
    · exact .inr (.inr (.inr ⟨φs, rfl, l, h, hk⟩))
theorem ok_alike (F : FnS K "_law_alike" law_alike_st f fd) (g : mg "_law_alike" = some (.ref f)) (kp : PySem.W.keepIn K (.ref f) = true) (b : Binds K fd ["told", "due"] []) (m_isinstance : mg "isinstance" = none) (m_int : mg "int" = none) (m_bool : mg "bool" = none) (m_str : mg "str" = none) (m_list : mg "list" = none) (m_tuple : mg "tuple" = none) (m_len : mg "len" = none) (m_range : mg "range" = none) :
    ∀ d, FnOk P w K mg base (L2N.CX P w) (d + 2) f fd ["told", "due"] (spX (S_alike d)) := by
  have len2 : ∀ d φs k kx, S_alike d φs k kx → φs.length = 2 := fun d φs k kx h => by
    cases d with
    | zero => exact h.elim
    | succ d => rcases h with ⟨x, rfl, _⟩ | ⟨x, rfl, _⟩ | ⟨_, rfl, _⟩ | ⟨_, rfl, _⟩ <;> rfl
  intro d
  induction d with
  | zero => exact F.ok law_alike_sc (fun vs H Q E ⟨_, _, _, _, _, _, z, _⟩ => z.elim) (fun cdv A outer s H vs Q E hr ⟨_, _, _, _, _, _, z, _⟩ => z.elim)
  | succ d ih =>
    have D_law_alike : Df P w K mg base (d + 2) "_law_alike" ["told", "due"] (spX (S_alike d)) f fd := ⟨ih, g, kp, b⟩
    refine F.ok law_alike_sc (fun vs H Q E h => lenX (n := 2) (len2 (d + 1)) h) (fun cdv A outer s H vs Q E hr h => ?_)
    rcases spX_or h with h | h
    · refine ⟨_, (pss_cons (ps_if (pt_cmpR op_isN (pv 1) pe_non (nomark _)) (pss_one (ps_ret (pe_cmpR op_isN (pv 0) pe_non (nomark _)))) pss_nil)
      (pss_cons (ps_if (pt_cmpR op_isBX (pv 1) pe_bl (nomark _)) (pss_one (ps_ret (pe_cmpR op_isBX (pv 0) pe_bl (nomark _)))) pss_nil)
      (pss_cons (ps_if (pt_cmpR op_isBX (pv 1) pe_bl (nomark _)) (pss_one (ps_ret (pe_cmpR op_isBX (pv 0) pe_bl (nomark _)))) pss_nil)
      (pss_cons (ps_if (pt_val (pe_callB call_isi (by rfl) m_isinstance (by decide +kernel) (pa_cons (pv 1) (pa_cons (pe_bltn (by rfl) m_int (by decide +kernel) (v := .ty "int") rfl) pa_nil)))) (pss_one (ps_ret (pe_and (pe_callB call_isi (by rfl) m_isinstance (by decide +kernel) (pa_cons (pv 0) (pa_cons (pe_bltn (by rfl) m_int (by decide +kernel) (v := .ty "int") rfl) pa_nil))) (pe_and (pe_not (pe_callB call_isi (by rfl) m_isinstance (by decide +kernel) (pa_cons (pv 0) (pa_cons (pe_bltn (by rfl) m_bool (by decide +kernel) (v := .ty "bool") rfl) pa_nil)))) (pe_one (pe_cmpR op_eq (pv 0) (pv 1) (nomark _))))))) pss_nil)
      (pss_cons (ps_if (pt_val (pe_callB call_isi (by rfl) m_isinstance (by decide +kernel) (pa_cons (pv 1) (pa_cons (pe_bltn (by rfl) m_str (by decide +kernel) (v := .ty "str") rfl) pa_nil)))) (pss_one (ps_ret (pe_and (pe_callB call_isi (by rfl) m_isinstance (by decide +kernel) (pa_cons (pv 0) (pa_cons (pe_bltn (by rfl) m_str (by decide +kernel) (v := .ty "str") rfl) pa_nil))) (pe_one (pe_cmpR op_eq (pv 0) (pv 1) (nomark _)))))) pss_nil)
      (pss_cons (ps_if (PW.pt (pw_and (pt_val (pe_callB call_isi (by rfl) m_isinstance (by decide +kernel) (pa_cons (pv 1) (pa_cons (pe_bltn (by rfl) m_list (by decide +kernel) (v := .ty "list") rfl) pa_nil)))) (pw_and1 (pt_not (pt_val (pe_callB call_isi (by rfl) m_isinstance (by decide +kernel) (pa_cons (pv 0) (pa_cons (pe_bltn (by rfl) m_list (by decide +kernel) (v := .ty "list") rfl) pa_nil)))))))) (pss_one (ps_ret pe_bl)) pss_nil)
      (pss_cons (ps_if (PW.pt (pw_and (pt_val (pe_callB call_isi (by rfl) m_isinstance (by decide +kernel) (pa_cons (pv 1) (pa_cons (pe_bltn (by rfl) m_tuple (by decide +kernel) (v := .ty "tuple") rfl) pa_nil)))) (pw_and1 (pt_not (pt_val (pe_callB call_isi (by rfl) m_isinstance (by decide +kernel) (pa_cons (pv 0) (pa_cons (pe_bltn (by rfl) m_tuple (by decide +kernel) (v := .ty "tuple") rfl) pa_nil)))))))) (pss_one (ps_ret pe_bl)) pss_nil)
      (pss_cons (ps_if (pt_cmpR op_ne (pe_callB call_len_seq (by rfl) m_len (by decide +kernel) (pa_cons (pv 0) pa_nil)) (pe_callB call_len_seq (by rfl) m_len (by decide +kernel) (pa_cons (pv 1) pa_nil)) (nomark _)) (pss_one (ps_ret pe_bl)) pss_nil)
      (pss_cons (ps_for (passes_of rfl) rfl (pi_range1 rfl m_range (pa_cons (pe_callB call_len_seq (by rfl) m_len (by decide +kernel) (pa_cons (pv 1) pa_nil)) pa_nil)) (pg_name (i := 2) law_alike_sc.nd rfl (Or.inl rfl))
      (pss_one (ps_if (pt_not (pt_val (pe_call D_law_alike.ok (hr.mono (by first | decide | omega)) rfl D_law_alike.g D_law_alike.kp D_law_alike.b .nil ErrX.passN (pa_cons (pe_ix ix_list (pv 0) (pv 2) (fun _ _ => rfl)) (pa_cons (pe_ix ix_list (pv 1) (pv 2) (fun _ _ => rfl)) pa_nil))))) (pss_one (ps_ret pe_bl)) pss_nil)))
      (pss_one (ps_ret pe_bl))))))))))), enterX (n := 3) rfl h fun A φs k kx hS hE => ?_⟩
      obtain ⟨x, rfl, h1⟩ := hS
      (repeat' (first | (with_reducible refine br_yes (by decide) ?_) | (with_reducible refine br_no (by decide) ?_) | (with_reducible refine Rr_isN_no (nn_int _) ?_) | (with_reducible refine Rr_isN_no (nn_lst _) ?_) | (with_reducible refine Rr_isN_no (nn_str _) ?_) | (with_reducible refine Rr_isB_no (nbl_str _) ?_) | (refine Rc_isi true (tyo_str _) (.ty _) (kit_ty (by decide +kernel)) ?_) | (refine Rc_isi false (tyo_str _) (.ty _) (kit_ty (by decide +kernel)) ?_) | (with_reducible refine Rr_isB_no (nbl_int _) ?_) | (with_reducible refine Rr_isB_no (nbl_lst _) ?_) | (with_reducible refine Rr_isB_no (nbl_tup _) ?_) | (refine Rc_isi true (tyo_int _) (.ty _) (kit_ty (by decide +kernel)) ?_) | (refine Rc_isi false (tyo_int _) (.ty _) (kit_ty (by decide +kernel)) ?_) | (refine Rc_isi true (tyo_lst _) (.ty _) (kit_ty (by decide +kernel)) ?_) | (refine Rc_isi false (tyo_lst _) (.ty _) (kit_ty (by decide +kernel)) ?_) | (refine Rc_isi true (tyo_tup _) (.ty _) (kit_ty (by decide +kernel)) ?_) | (refine Rc_isi false (tyo_tup _) (.ty _) (kit_ty (by decide +kernel)) ?_) | ((with_reducible apply De_var); exact rfl) | with_reducible refine De_c ?_ | with_reducible refine De_op ?_ | with_reducible refine Rr_I0 ?_ | ((with_reducible refine Rr_eq ?_ ?_); exact rfl) | ((with_reducible refine Rr_ne ?_ ?_); exact rfl) | with_reducible refine De_chain ?_ | with_reducible refine ⟨_, rfl, ?_⟩ | with_reducible refine Dc_test ?_ | with_reducible refine Dc_b ?_ | with_reducible refine Dc_not ?_ | with_reducible refine Dc_and ?_ | with_reducible refine Dc_or ?_ | with_reducible refine De_and ?_ | with_reducible refine De_or ?_ | with_reducible refine De_not ?_ | with_reducible refine Dt_if ?_ | with_reducible refine Da_cons ?_ | with_reducible refine Da_nil ?_ | with_reducible refine Dt_seq ?_ | with_reducible refine Dt_next ?_ | with_reducible refine De_un ?_ | with_reducible refine br_dec (fun _ => ?_) (fun _ => ?_) | with_reducible refine br_ndec (fun _ => ?_) (fun _ => ?_) | with_reducible refine br_t ?_ | with_reducible refine br_f ?_ | with_reducible refine br_nt ?_ | with_reducible refine br_nf ?_ | ((with_reducible refine De_len ?_); first | ((with_reducible apply Dl_im); exact rfl) | ((with_reducible apply Dl_ow); exact rfl)) | ((with_reducible refine De_sumL ?_); first | ((with_reducible apply Dl_im); exact rfl) | ((with_reducible apply Dl_ow); exact rfl)) | with_reducible refine ⟨rfl, ?_⟩ | with_reducible refine De_cb ?_ | with_reducible refine Rc_min2 ?_ | with_reducible refine Rc_max2 ?_ | with_reducible refine Rc_abs ?_ | with_reducible refine Rc_int1 ?_ | with_reducible refine Rc_intB ?_ | with_reducible refine Rc_lenU ?_ | refine Rc_lenQ ?_ | with_reducible refine Rr_IC ?_ ?_ | with_reducible refine Rr_isN ?_ | with_reducible refine Rr_isN_no (nn_tup _) ?_ | with_reducible refine Rr_notN ?_ | with_reducible refine Rr_notN_no (nn_tup _) ?_ | with_reducible refine Dt_ret ?_ | with_reducible refine Dt_set ?_ | with_reducible refine Dt_drop ?_ | with_reducible refine De_call ?_ | with_reducible refine De_callN ?_ | with_reducible refine De_ifExp ?_ | with_reducible refine De_prop ?_ | with_reducible refine De_fld ?_ | with_reducible refine ⟨⟨_, rfl⟩, ?_⟩ | ((with_reducible refine De_tupL ?_); first | ((with_reducible apply Dl_im); exact rfl) | ((with_reducible apply Dl_ow); exact rfl))))
      rw [show decide (V.int x = V.int x) = true from decide_eq_true rfl]
      exact h1
    rcases spX_or h with h | h
    · refine ⟨_, (pss_cons (ps_if (pt_cmpR op_isN (pv 1) pe_non (nomark _)) (pss_one (ps_ret (pe_cmpR op_isN (pv 0) pe_non (nomark _)))) pss_nil)
      (pss_cons (ps_if (pt_cmpR op_isBX (pv 1) pe_bl (nomark _)) (pss_one (ps_ret (pe_cmpR op_isBX (pv 0) pe_bl (nomark _)))) pss_nil)
      (pss_cons (ps_if (pt_cmpR op_isBX (pv 1) pe_bl (nomark _)) (pss_one (ps_ret (pe_cmpR op_isBX (pv 0) pe_bl (nomark _)))) pss_nil)
      (pss_cons (ps_if (pt_val (pe_callB call_isi (by rfl) m_isinstance (by decide +kernel) (pa_cons (pv 1) (pa_cons (pe_bltn (by rfl) m_int (by decide +kernel) (v := .ty "int") rfl) pa_nil)))) (pss_one (ps_ret (pe_and (pe_callB call_isi (by rfl) m_isinstance (by decide +kernel) (pa_cons (pv 0) (pa_cons (pe_bltn (by rfl) m_int (by decide +kernel) (v := .ty "int") rfl) pa_nil))) (pe_and (pe_not (pe_callB call_isi (by rfl) m_isinstance (by decide +kernel) (pa_cons (pv 0) (pa_cons (pe_bltn (by rfl) m_bool (by decide +kernel) (v := .ty "bool") rfl) pa_nil)))) (pe_one (pe_cmpR op_eq (pv 0) (pv 1) (nomark _))))))) pss_nil)
      (pss_cons (ps_if (pt_val (pe_callB call_isi (by rfl) m_isinstance (by decide +kernel) (pa_cons (pv 1) (pa_cons (pe_bltn (by rfl) m_str (by decide +kernel) (v := .ty "str") rfl) pa_nil)))) (pss_one (ps_ret (pe_and (pe_callB call_isi (by rfl) m_isinstance (by decide +kernel) (pa_cons (pv 0) (pa_cons (pe_bltn (by rfl) m_str (by decide +kernel) (v := .ty "str") rfl) pa_nil))) (pe_one (pe_cmpR op_eq (pv 0) (pv 1) (nomark _)))))) pss_nil)
      (pss_cons (ps_if (PW.pt (pw_and (pt_val (pe_callB call_isi (by rfl) m_isinstance (by decide +kernel) (pa_cons (pv 1) (pa_cons (pe_bltn (by rfl) m_list (by decide +kernel) (v := .ty "list") rfl) pa_nil)))) (pw_and1 (pt_not (pt_val (pe_callB call_isi (by rfl) m_isinstance (by decide +kernel) (pa_cons (pv 0) (pa_cons (pe_bltn (by rfl) m_list (by decide +kernel) (v := .ty "list") rfl) pa_nil)))))))) (pss_one (ps_ret pe_bl)) pss_nil)
      (pss_cons (ps_if (PW.pt (pw_and (pt_val (pe_callB call_isi (by rfl) m_isinstance (by decide +kernel) (pa_cons (pv 1) (pa_cons (pe_bltn (by rfl) m_tuple (by decide +kernel) (v := .ty "tuple") rfl) pa_nil)))) (pw_and1 (pt_not (pt_val (pe_callB call_isi (by rfl) m_isinstance (by decide +kernel) (pa_cons (pv 0) (pa_cons (pe_bltn (by rfl) m_tuple (by decide +kernel) (v := .ty "tuple") rfl) pa_nil)))))))) (pss_one (ps_ret pe_bl)) pss_nil)
      (pss_cons (ps_if (pt_cmpR op_ne (pe_callB (call_len : CallR _ _ (rLenS K)) (by rfl) m_len (by decide +kernel) (pa_cons (pv 0) pa_nil)) (pe_callB (call_len : CallR _ _ (rLenS K)) (by rfl) m_len (by decide +kernel) (pa_cons (pv 1) pa_nil)) (nomark _)) (pss_one (ps_ret pe_bl)) pss_nil)
      (pss_cons (ps_for (passes_of rfl) rfl (pi_range1 rfl m_range (pa_cons (pe_callB (call_len : CallR _ _ (rLenS K)) (by rfl) m_len (by decide +kernel) (pa_cons (pv 1) pa_nil)) pa_nil)) (pg_name (i := 2) law_alike_sc.nd rfl (Or.inl rfl))
      (pss_one (ps_if (pt_not (pt_val (pe_call D_law_alike.ok (hr.mono (by first | decide | omega)) rfl D_law_alike.g D_law_alike.kp D_law_alike.b .nil ErrX.passN (pa_cons (pe_ix ix_str (pv 0) (pv 2) (fun _ _ => rfl)) (pa_cons (pe_ix ix_str (pv 1) (pv 2) (fun _ _ => rfl)) pa_nil))))) (pss_one (ps_ret pe_bl)) pss_nil)))
      (pss_one (ps_ret pe_bl))))))))))), enterX (n := 3) rfl h fun A φs k kx hS hE => ?_⟩
      obtain ⟨x, rfl, h1⟩ := hS
      (repeat' (first | (with_reducible refine br_yes (by decide) ?_) | (with_reducible refine br_no (by decide) ?_) | (with_reducible refine Rr_isN_no (nn_int _) ?_) | (with_reducible refine Rr_isN_no (nn_lst _) ?_) | (with_reducible refine Rr_isN_no (nn_str _) ?_) | (with_reducible refine Rr_isB_no (nbl_str _) ?_) | (refine Rc_isi true (tyo_str _) (.ty _) (kit_ty (by decide +kernel)) ?_) | (refine Rc_isi false (tyo_str _) (.ty _) (kit_ty (by decide +kernel)) ?_) | (with_reducible refine Rr_isB_no (nbl_int _) ?_) | (with_reducible refine Rr_isB_no (nbl_lst _) ?_) | (with_reducible refine Rr_isB_no (nbl_tup _) ?_) | (refine Rc_isi true (tyo_int _) (.ty _) (kit_ty (by decide +kernel)) ?_) | (refine Rc_isi false (tyo_int _) (.ty _) (kit_ty (by decide +kernel)) ?_) | (refine Rc_isi true (tyo_lst _) (.ty _) (kit_ty (by decide +kernel)) ?_) | (refine Rc_isi false (tyo_lst _) (.ty _) (kit_ty (by decide +kernel)) ?_) | (refine Rc_isi true (tyo_tup _) (.ty _) (kit_ty (by decide +kernel)) ?_) | (refine Rc_isi false (tyo_tup _) (.ty _) (kit_ty (by decide +kernel)) ?_) | ((with_reducible apply De_var); exact rfl) | with_reducible refine De_c ?_ | with_reducible refine De_op ?_ | with_reducible refine Rr_I0 ?_ | ((with_reducible refine Rr_eq ?_ ?_); exact rfl) | ((with_reducible refine Rr_ne ?_ ?_); exact rfl) | with_reducible refine De_chain ?_ | with_reducible refine ⟨_, rfl, ?_⟩ | with_reducible refine Dc_test ?_ | with_reducible refine Dc_b ?_ | with_reducible refine Dc_not ?_ | with_reducible refine Dc_and ?_ | with_reducible refine Dc_or ?_ | with_reducible refine De_and ?_ | with_reducible refine De_or ?_ | with_reducible refine De_not ?_ | with_reducible refine Dt_if ?_ | with_reducible refine Da_cons ?_ | with_reducible refine Da_nil ?_ | with_reducible refine Dt_seq ?_ | with_reducible refine Dt_next ?_ | with_reducible refine De_un ?_ | with_reducible refine br_dec (fun _ => ?_) (fun _ => ?_) | with_reducible refine br_ndec (fun _ => ?_) (fun _ => ?_) | with_reducible refine br_t ?_ | with_reducible refine br_f ?_ | with_reducible refine br_nt ?_ | with_reducible refine br_nf ?_ | ((with_reducible refine De_len ?_); first | ((with_reducible apply Dl_im); exact rfl) | ((with_reducible apply Dl_ow); exact rfl)) | ((with_reducible refine De_sumL ?_); first | ((with_reducible apply Dl_im); exact rfl) | ((with_reducible apply Dl_ow); exact rfl)) | with_reducible refine ⟨rfl, ?_⟩ | with_reducible refine De_cb ?_ | with_reducible refine Rc_min2 ?_ | with_reducible refine Rc_max2 ?_ | with_reducible refine Rc_abs ?_ | with_reducible refine Rc_int1 ?_ | with_reducible refine Rc_intB ?_ | with_reducible refine Rc_lenU ?_ | refine Rc_lenQ ?_ | with_reducible refine Rr_IC ?_ ?_ | with_reducible refine Rr_isN ?_ | with_reducible refine Rr_isN_no (nn_tup _) ?_ | with_reducible refine Rr_notN ?_ | with_reducible refine Rr_notN_no (nn_tup _) ?_ | with_reducible refine Dt_ret ?_ | with_reducible refine Dt_set ?_ | with_reducible refine Dt_drop ?_ | with_reducible refine De_call ?_ | with_reducible refine De_callN ?_ | with_reducible refine De_ifExp ?_ | with_reducible refine De_prop ?_ | with_reducible refine De_fld ?_ | with_reducible refine ⟨⟨_, rfl⟩, ?_⟩ | ((with_reducible refine De_tupL ?_); first | ((with_reducible apply Dl_im); exact rfl) | ((with_reducible apply Dl_ow); exact rfl))))
      rw [show decide (V.str x = V.str x) = true from decide_eq_true rfl]
      exact h1
    rcases spX_or h with h | h
    · refine ⟨_, (pss_cons (ps_if (pt_cmpR op_isN (pv 1) pe_non (nomark _)) (pss_one (ps_ret (pe_cmpR op_isN (pv 0) pe_non (nomark _)))) pss_nil)
      (pss_cons (ps_if (pt_cmpR op_isBX (pv 1) pe_bl (nomark _)) (pss_one (ps_ret (pe_cmpR op_isBX (pv 0) pe_bl (nomark _)))) pss_nil)
      (pss_cons (ps_if (pt_cmpR op_isBX (pv 1) pe_bl (nomark _)) (pss_one (ps_ret (pe_cmpR op_isBX (pv 0) pe_bl (nomark _)))) pss_nil)
      (pss_cons (ps_if (pt_val (pe_callB call_isi (by rfl) m_isinstance (by decide +kernel) (pa_cons (pv 1) (pa_cons (pe_bltn (by rfl) m_int (by decide +kernel) (v := .ty "int") rfl) pa_nil)))) (pss_one (ps_ret (pe_and (pe_callB call_isi (by rfl) m_isinstance (by decide +kernel) (pa_cons (pv 0) (pa_cons (pe_bltn (by rfl) m_int (by decide +kernel) (v := .ty "int") rfl) pa_nil))) (pe_and (pe_not (pe_callB call_isi (by rfl) m_isinstance (by decide +kernel) (pa_cons (pv 0) (pa_cons (pe_bltn (by rfl) m_bool (by decide +kernel) (v := .ty "bool") rfl) pa_nil)))) (pe_one (pe_cmpR (op_eqD hr.units) (pv 0) (pv 1) (nomark _))))))) pss_nil)
      (pss_cons (ps_if (pt_val (pe_callB call_isi (by rfl) m_isinstance (by decide +kernel) (pa_cons (pv 1) (pa_cons (pe_bltn (by rfl) m_str (by decide +kernel) (v := .ty "str") rfl) pa_nil)))) (pss_one (ps_ret (pe_and (pe_callB call_isi (by rfl) m_isinstance (by decide +kernel) (pa_cons (pv 0) (pa_cons (pe_bltn (by rfl) m_str (by decide +kernel) (v := .ty "str") rfl) pa_nil))) (pe_one (pe_cmpR (op_eqD hr.units) (pv 0) (pv 1) (nomark _)))))) pss_nil)
      (pss_cons (ps_if (PW.pt (pw_and (pt_val (pe_callB call_isi (by rfl) m_isinstance (by decide +kernel) (pa_cons (pv 1) (pa_cons (pe_bltn (by rfl) m_list (by decide +kernel) (v := .ty "list") rfl) pa_nil)))) (pw_and1 (pt_not (pt_val (pe_callB call_isi (by rfl) m_isinstance (by decide +kernel) (pa_cons (pv 0) (pa_cons (pe_bltn (by rfl) m_list (by decide +kernel) (v := .ty "list") rfl) pa_nil)))))))) (pss_one (ps_ret pe_bl)) pss_nil)
      (pss_cons (ps_if (PW.pt (pw_and (pt_val (pe_callB call_isi (by rfl) m_isinstance (by decide +kernel) (pa_cons (pv 1) (pa_cons (pe_bltn (by rfl) m_tuple (by decide +kernel) (v := .ty "tuple") rfl) pa_nil)))) (pw_and1 (pt_not (pt_val (pe_callB call_isi (by rfl) m_isinstance (by decide +kernel) (pa_cons (pv 0) (pa_cons (pe_bltn (by rfl) m_tuple (by decide +kernel) (v := .ty "tuple") rfl) pa_nil)))))))) (pss_one (ps_ret pe_bl)) pss_nil)
      (pss_cons (ps_if (pt_cmpR op_ne (pe_callB call_len_seq (by rfl) m_len (by decide +kernel) (pa_cons (pv 0) pa_nil)) (pe_callB call_len_seq (by rfl) m_len (by decide +kernel) (pa_cons (pv 1) pa_nil)) (nomark _)) (pss_one (ps_ret pe_bl)) pss_nil)
      (pss_cons (ps_for (passes_of rfl) rfl (pi_range1 rfl m_range (pa_cons (pe_callB call_len_seq (by rfl) m_len (by decide +kernel) (pa_cons (pv 1) pa_nil)) pa_nil)) (pg_name (i := 2) law_alike_sc.nd rfl (Or.inl rfl))
      (pss_one (ps_if (pt_not (pt_val (pe_call D_law_alike.ok (hr.mono (by first | decide | omega)) rfl D_law_alike.g D_law_alike.kp D_law_alike.b .nil ErrX.passN (pa_cons (pe_ix ix_list (pv 0) (pv 2) (fun _ _ => rfl)) (pa_cons (pe_ix ix_list (pv 1) (pv 2) (fun _ _ => rfl)) pa_nil))))) (pss_one (ps_ret pe_bl)) pss_nil)))
      (pss_one (ps_ret pe_bl))))))))))), enterX (n := 3) rfl h fun A φs k kx hS hE => ?_⟩
      obtain ⟨ψs, rfl, l, hd, h1⟩ := hS
      (repeat' (first | (with_reducible refine br_yes (by decide) ?_) | (with_reducible refine br_no (by decide) ?_) | (with_reducible refine Rr_isN_no (nn_int _) ?_) | (with_reducible refine Rr_isN_no (nn_lst _) ?_) | (with_reducible refine Rr_isN_no (nn_str _) ?_) | (with_reducible refine Rr_isB_no (nbl_str _) ?_) | (refine Rc_isi true (tyo_str _) (.ty _) (kit_ty (by decide +kernel)) ?_) | (refine Rc_isi false (tyo_str _) (.ty _) (kit_ty (by decide +kernel)) ?_) | (with_reducible refine Rr_isB_no (nbl_int _) ?_) | (with_reducible refine Rr_isB_no (nbl_lst _) ?_) | (with_reducible refine Rr_isB_no (nbl_tup _) ?_) | (refine Rc_isi true (tyo_int _) (.ty _) (kit_ty (by decide +kernel)) ?_) | (refine Rc_isi false (tyo_int _) (.ty _) (kit_ty (by decide +kernel)) ?_) | (refine Rc_isi true (tyo_lst _) (.ty _) (kit_ty (by decide +kernel)) ?_) | (refine Rc_isi false (tyo_lst _) (.ty _) (kit_ty (by decide +kernel)) ?_) | (refine Rc_isi true (tyo_tup _) (.ty _) (kit_ty (by decide +kernel)) ?_) | (refine Rc_isi false (tyo_tup _) (.ty _) (kit_ty (by decide +kernel)) ?_) | ((with_reducible apply De_var); exact rfl) | with_reducible refine De_c ?_ | with_reducible refine De_op ?_ | with_reducible refine Rr_I0 ?_ | ((with_reducible refine Rr_eq ?_ ?_); exact rfl) | ((with_reducible refine Rr_ne ?_ ?_); exact rfl) | with_reducible refine De_chain ?_ | with_reducible refine ⟨_, rfl, ?_⟩ | with_reducible refine Dc_test ?_ | with_reducible refine Dc_b ?_ | with_reducible refine Dc_not ?_ | with_reducible refine Dc_and ?_ | with_reducible refine Dc_or ?_ | with_reducible refine De_and ?_ | with_reducible refine De_or ?_ | with_reducible refine De_not ?_ | with_reducible refine Dt_if ?_ | with_reducible refine Da_cons ?_ | with_reducible refine Da_nil ?_ | with_reducible refine Dt_seq ?_ | with_reducible refine Dt_next ?_ | with_reducible refine De_un ?_ | with_reducible refine br_dec (fun _ => ?_) (fun _ => ?_) | with_reducible refine br_ndec (fun _ => ?_) (fun _ => ?_) | with_reducible refine br_t ?_ | with_reducible refine br_f ?_ | with_reducible refine br_nt ?_ | with_reducible refine br_nf ?_ | ((with_reducible refine De_len ?_); first | ((with_reducible apply Dl_im); exact rfl) | ((with_reducible apply Dl_ow); exact rfl)) | ((with_reducible refine De_sumL ?_); first | ((with_reducible apply Dl_im); exact rfl) | ((with_reducible apply Dl_ow); exact rfl)) | with_reducible refine ⟨rfl, ?_⟩ | with_reducible refine De_cb ?_ | with_reducible refine Rc_min2 ?_ | with_reducible refine Rc_max2 ?_ | with_reducible refine Rc_abs ?_ | with_reducible refine Rc_int1 ?_ | with_reducible refine Rc_intB ?_ | with_reducible refine Rc_lenU ?_ | refine Rc_lenQ ?_ | with_reducible refine Rr_IC ?_ ?_ | with_reducible refine Rr_isN ?_ | with_reducible refine Rr_isN_no (nn_tup _) ?_ | with_reducible refine Rr_notN ?_ | with_reducible refine Rr_notN_no (nn_tup _) ?_ | with_reducible refine Dt_ret ?_ | with_reducible refine Dt_set ?_ | with_reducible refine Dt_drop ?_ | with_reducible refine De_call ?_ | with_reducible refine De_callN ?_ | with_reducible refine De_ifExp ?_ | with_reducible refine De_prop ?_ | with_reducible refine De_fld ?_ | with_reducible refine ⟨⟨_, rfl⟩, ?_⟩ | ((with_reducible refine De_tupL ?_); first | ((with_reducible apply Dl_im); exact rfl) | ((with_reducible apply Dl_ow); exact rfl))))
      · rename_i z
        exact absurd rfl z
      refine Dt_seq (Dt_forI [2] (fun j Φ => ∃ s, Φ = [.im (TL ψs), .im (TL ψs), s]) (ψs := (List.range ψs.length).map fun (i : Nat) => TI i) (Di_range1 (Da_cons (De_len (Dl_im rfl (Da_nil ⟨_, rfl, by omega, rfl⟩))))) ⟨_, rfl⟩ (fun j ψ Φ e hI => ?_) fun Φ hI => ?_)
      · obtain ⟨s, rfl⟩ := hI
        obtain ⟨p, ep, rfl⟩ := of_map e
        have hp : p < ψs.length := List.mem_range.mp (List.mem_of_getElem? ep)
        have at_ : atI ψs (p : Int) = some ψs[p] := L2.atI_nat (List.getElem?_eq_getElem hp)
        refine Dg_name (Dt_if (Dc_not (Dc_test (De_callN (Da_cons (De_op (De_var rfl (De_var rfl (Rr_ixL at_ (Da_cons (De_op (De_var rfl (De_var rfl (Rr_ixL at_ (Da_nil (alike_of (hd _ (List.getElem_mem hp)) ⟨_, rfl, fun z => (by cases z), fun _ => Dt_next ⟨_, rfl⟩⟩))))))))))))))))
      · obtain ⟨s, rfl⟩ := hI
        exact Dt_next (Dt_ret (De_c h1))
    · refine ⟨_, (pss_cons (ps_if (pt_cmpR op_isN (pv 1) pe_non (nomark _)) (pss_one (ps_ret (pe_cmpR op_isN (pv 0) pe_non (nomark _)))) pss_nil)
      (pss_cons (ps_if (pt_cmpR op_isBX (pv 1) pe_bl (nomark _)) (pss_one (ps_ret (pe_cmpR op_isBX (pv 0) pe_bl (nomark _)))) pss_nil)
      (pss_cons (ps_if (pt_cmpR op_isBX (pv 1) pe_bl (nomark _)) (pss_one (ps_ret (pe_cmpR op_isBX (pv 0) pe_bl (nomark _)))) pss_nil)
      (pss_cons (ps_if (pt_val (pe_callB call_isi (by rfl) m_isinstance (by decide +kernel) (pa_cons (pv 1) (pa_cons (pe_bltn (by rfl) m_int (by decide +kernel) (v := .ty "int") rfl) pa_nil)))) (pss_one (ps_ret (pe_and (pe_callB call_isi (by rfl) m_isinstance (by decide +kernel) (pa_cons (pv 0) (pa_cons (pe_bltn (by rfl) m_int (by decide +kernel) (v := .ty "int") rfl) pa_nil))) (pe_and (pe_not (pe_callB call_isi (by rfl) m_isinstance (by decide +kernel) (pa_cons (pv 0) (pa_cons (pe_bltn (by rfl) m_bool (by decide +kernel) (v := .ty "bool") rfl) pa_nil)))) (pe_one (pe_cmpR (op_eqD hr.units) (pv 0) (pv 1) (nomark _))))))) pss_nil)
      (pss_cons (ps_if (pt_val (pe_callB call_isi (by rfl) m_isinstance (by decide +kernel) (pa_cons (pv 1) (pa_cons (pe_bltn (by rfl) m_str (by decide +kernel) (v := .ty "str") rfl) pa_nil)))) (pss_one (ps_ret (pe_and (pe_callB call_isi (by rfl) m_isinstance (by decide +kernel) (pa_cons (pv 0) (pa_cons (pe_bltn (by rfl) m_str (by decide +kernel) (v := .ty "str") rfl) pa_nil))) (pe_one (pe_cmpR (op_eqD hr.units) (pv 0) (pv 1) (nomark _)))))) pss_nil)
      (pss_cons (ps_if (PW.pt (pw_and (pt_val (pe_callB call_isi (by rfl) m_isinstance (by decide +kernel) (pa_cons (pv 1) (pa_cons (pe_bltn (by rfl) m_list (by decide +kernel) (v := .ty "list") rfl) pa_nil)))) (pw_and1 (pt_not (pt_val (pe_callB call_isi (by rfl) m_isinstance (by decide +kernel) (pa_cons (pv 0) (pa_cons (pe_bltn (by rfl) m_list (by decide +kernel) (v := .ty "list") rfl) pa_nil)))))))) (pss_one (ps_ret pe_bl)) pss_nil)
      (pss_cons (ps_if (PW.pt (pw_and (pt_val (pe_callB call_isi (by rfl) m_isinstance (by decide +kernel) (pa_cons (pv 1) (pa_cons (pe_bltn (by rfl) m_tuple (by decide +kernel) (v := .ty "tuple") rfl) pa_nil)))) (pw_and1 (pt_not (pt_val (pe_callB call_isi (by rfl) m_isinstance (by decide +kernel) (pa_cons (pv 0) (pa_cons (pe_bltn (by rfl) m_tuple (by decide +kernel) (v := .ty "tuple") rfl) pa_nil)))))))) (pss_one (ps_ret pe_bl)) pss_nil)
      (pss_cons (ps_if (pt_cmpR op_ne (pe_callB call_len_seq (by rfl) m_len (by decide +kernel) (pa_cons (pv 0) pa_nil)) (pe_callB call_len_seq (by rfl) m_len (by decide +kernel) (pa_cons (pv 1) pa_nil)) (nomark _)) (pss_one (ps_ret pe_bl)) pss_nil)
      (pss_cons (ps_for (passes_of rfl) rfl (pi_range1 rfl m_range (pa_cons (pe_callB call_len_seq (by rfl) m_len (by decide +kernel) (pa_cons (pv 1) pa_nil)) pa_nil)) (pg_name (i := 2) law_alike_sc.nd rfl (Or.inl rfl))
      (pss_one (ps_if (pt_not (pt_val (pe_call D_law_alike.ok (hr.mono (by first | decide | omega)) rfl D_law_alike.g D_law_alike.kp D_law_alike.b .nil ErrX.passN (pa_cons (pe_ix ix_tup (pv 0) (pv 2) (fun _ _ => rfl)) (pa_cons (pe_ix ix_tup (pv 1) (pv 2) (fun _ _ => rfl)) pa_nil))))) (pss_one (ps_ret pe_bl)) pss_nil)))
      (pss_one (ps_ret pe_bl))))))))))), enterX (n := 3) rfl h fun A φs k kx hS hE => ?_⟩
      obtain ⟨ψs, rfl, l, hd, h1⟩ := hS
      (repeat' (first | (with_reducible refine br_yes (by decide) ?_) | (with_reducible refine br_no (by decide) ?_) | (with_reducible refine Rr_isN_no (nn_int _) ?_) | (with_reducible refine Rr_isN_no (nn_lst _) ?_) | (with_reducible refine Rr_isN_no (nn_str _) ?_) | (with_reducible refine Rr_isB_no (nbl_str _) ?_) | (refine Rc_isi true (tyo_str _) (.ty _) (kit_ty (by decide +kernel)) ?_) | (refine Rc_isi false (tyo_str _) (.ty _) (kit_ty (by decide +kernel)) ?_) | (with_reducible refine Rr_isB_no (nbl_int _) ?_) | (with_reducible refine Rr_isB_no (nbl_lst _) ?_) | (with_reducible refine Rr_isB_no (nbl_tup _) ?_) | (refine Rc_isi true (tyo_int _) (.ty _) (kit_ty (by decide +kernel)) ?_) | (refine Rc_isi false (tyo_int _) (.ty _) (kit_ty (by decide +kernel)) ?_) | (refine Rc_isi true (tyo_lst _) (.ty _) (kit_ty (by decide +kernel)) ?_) | (refine Rc_isi false (tyo_lst _) (.ty _) (kit_ty (by decide +kernel)) ?_) | (refine Rc_isi true (tyo_tup _) (.ty _) (kit_ty (by decide +kernel)) ?_) | (refine Rc_isi false (tyo_tup _) (.ty _) (kit_ty (by decide +kernel)) ?_) | ((with_reducible apply De_var); exact rfl) | with_reducible refine De_c ?_ | with_reducible refine De_op ?_ | with_reducible refine Rr_I0 ?_ | ((with_reducible refine Rr_eq ?_ ?_); exact rfl) | ((with_reducible refine Rr_ne ?_ ?_); exact rfl) | with_reducible refine De_chain ?_ | with_reducible refine ⟨_, rfl, ?_⟩ | with_reducible refine Dc_test ?_ | with_reducible refine Dc_b ?_ | with_reducible refine Dc_not ?_ | with_reducible refine Dc_and ?_ | with_reducible refine Dc_or ?_ | with_reducible refine De_and ?_ | with_reducible refine De_or ?_ | with_reducible refine De_not ?_ | with_reducible refine Dt_if ?_ | with_reducible refine Da_cons ?_ | with_reducible refine Da_nil ?_ | with_reducible refine Dt_seq ?_ | with_reducible refine Dt_next ?_ | with_reducible refine De_un ?_ | with_reducible refine br_dec (fun _ => ?_) (fun _ => ?_) | with_reducible refine br_ndec (fun _ => ?_) (fun _ => ?_) | with_reducible refine br_t ?_ | with_reducible refine br_f ?_ | with_reducible refine br_nt ?_ | with_reducible refine br_nf ?_ | ((with_reducible refine De_len ?_); first | ((with_reducible apply Dl_im); exact rfl) | ((with_reducible apply Dl_ow); exact rfl)) | ((with_reducible refine De_sumL ?_); first | ((with_reducible apply Dl_im); exact rfl) | ((with_reducible apply Dl_ow); exact rfl)) | with_reducible refine ⟨rfl, ?_⟩ | with_reducible refine De_cb ?_ | with_reducible refine Rc_min2 ?_ | with_reducible refine Rc_max2 ?_ | with_reducible refine Rc_abs ?_ | with_reducible refine Rc_int1 ?_ | with_reducible refine Rc_intB ?_ | with_reducible refine Rc_lenU ?_ | refine Rc_lenQ ?_ | with_reducible refine Rr_IC ?_ ?_ | with_reducible refine Rr_isN ?_ | with_reducible refine Rr_isN_no (nn_tup _) ?_ | with_reducible refine Rr_notN ?_ | with_reducible refine Rr_notN_no (nn_tup _) ?_ | with_reducible refine Dt_ret ?_ | with_reducible refine Dt_set ?_ | with_reducible refine Dt_drop ?_ | with_reducible refine De_call ?_ | with_reducible refine De_callN ?_ | with_reducible refine De_ifExp ?_ | with_reducible refine De_prop ?_ | with_reducible refine De_fld ?_ | with_reducible refine ⟨⟨_, rfl⟩, ?_⟩ | ((with_reducible refine De_tupL ?_); first | ((with_reducible apply Dl_im); exact rfl) | ((with_reducible apply Dl_ow); exact rfl))))
      · rename_i z
        exact absurd rfl z
      refine Dt_seq (Dt_forI [2] (fun j Φ => ∃ s, Φ = [.im (TU ψs), .im (TU ψs), s]) (ψs := (List.range ψs.length).map fun (i : Nat) => TI i) (Di_range1 (Da_cons (De_cb (Da_cons (De_var rfl (Da_nil (Rc_lenU (Da_nil ⟨_, rfl, by omega, rfl⟩)))))))) ⟨_, rfl⟩ (fun j ψ Φ e hI => ?_) fun Φ hI => ?_)
      · obtain ⟨s, rfl⟩ := hI
        obtain ⟨p, ep, rfl⟩ := of_map e
        have hp : p < ψs.length := List.mem_range.mp (List.mem_of_getElem? ep)
        have at_ : atI ψs (p : Int) = some ψs[p] := L2.atI_nat (List.getElem?_eq_getElem hp)
        refine Dg_name (Dt_if (Dc_not (Dc_test (De_callN (Da_cons (De_op (De_var rfl (De_var rfl (Rr_ixU at_ (Da_cons (De_op (De_var rfl (De_var rfl (Rr_ixU at_ (Da_nil (alike_of (hd _ (List.getElem_mem hp)) ⟨_, rfl, fun z => (by cases z), fun _ => Dt_next ⟨_, rfl⟩⟩))))))))))))))))
      · obtain ⟨s, rfl⟩ := hI
        exact Dt_next (Dt_ret (De_c h1))
/-! ### _law_copied -/
abbrev law_copied_N : List Str := ["row", "mode"]
theorem law_copied_sc : FnScope ["row", "mode"] ["row", "mode"] (defScope law_copied_st) := ⟨rfl, rfl, rfl, by decide +kernel, rfl, by decide +kernel, by decide +kernel⟩
def spCop : Sp := fun vs H Q _ => ∃ (W : Wd) (ns : List Int) (b : Bool), In W H ∧ Are W [TL (TIs ns), bI b] vs ∧ (b = true → ∀ v W2 H2, Fr W H W2 H2 → (TU (TIs ns)).is W2 v → Q v H2) ∧
  (b = false → ∀ a o W2 H2, Fr W H W2 H2 → H a = none → W2.B a = none → ¬ W2.C a → H2 a = some o → (CL (TIs ns)).is W2 a o → Q (.ref a) H2)
theorem ok_copied (F : FnS K "_law_copied" law_copied_st f fd) (m_list : mg "list" = none) (m_tuple : mg "tuple" = none) : FnOk P w K mg base (L2N.CX P w) 1 f fd ["row", "mode"] spCop := by
  refine F.ok law_copied_sc (fun vs H Q E ⟨W, ns, b, _, ar, _⟩ => ar.len) (fun cdv A outer s H vs Q E hr ⟨W, ns, b, inn, ar, q1, q2⟩ => ⟨_, (pss_cons (ps_if (pt_cmpR op_eq (pv 1) pe_int (nomark _)) (pss_one (ps_ret (pe_callTy call_tuple_of (by rfl) m_tuple (by decide +kernel) (pa_cons (pv 0) pa_nil)))) pss_nil)
      (pss_one (ps_ret (pe_callTy call_list_of (by rfl) m_list (by decide +kernel) (pa_cons (pv 0) pa_nil))))), ?_⟩)
  have at0 : At (W, H) W H (slots 2 [TL (TIs ns), bI b]) (L2.start law_copied_N vs) := ⟨Fr.refl inn, en_start (N := law_copied_N) ar⟩
  have hc : Dc (W, H) (tTest (tOp rEq (tVar 1) (tC (.int 1)))) (slots 2 [TL (TIs ns), bI b]) (fun x => x = b) := Dc_test (De_op (De_var rfl (De_c (Rr_eq rfl ⟨_, rfl, by cases b <;> rfl⟩))))
  refine hc _ W H at0 _ fun x W2 H2 f2 ex => ?_
  subst ex
  cases x with
  | true => exact iteT ((De_tupL (k := fun φ => φ = TU (TIs ns)) (Dl_im rfl rfl)) _ W2 H2 (at0.up f2) _ fun φ v W3 H3 f3 p3 e3 => q1 rfl v W3 H3 (f2.trans f3) (e3 ▸ p3))
  | false => exact iteF ((Dn_listL (k := fun θ => θ = CL (TIs ns)) (Dl_im rfl rfl)) _ W2 H2 (at0.up f2) _ fun θ a o W3 H3 f3 n nb nc ho t e3 => q2 rfl a o W3 H3 (f2.trans f3) (f2.was n) nb nc ho (e3 ▸ t))
section
variable {A : Wd × Hp} {Φ : List Sl} {k : Ty → Prop} {kn : Th → Prop} {ta : TA} {E : XK}
theorem De_cop (h : Da A ta Φ fun φs => ∃ ns, φs = [TL (TIs ns), bI true] ∧ k (TU (TIs ns))) : De A (tCall spCop [] E ta) Φ k := fun σ W H a Q q =>
  h σ W H a _ fun φs vs W1 H1 f1 p1 ⟨ns, e, kh⟩ => by
    subst e
    show spCop (vs ++ []) H1 Q E
    rw [List.append_nil]
    exact ⟨W1, ns, true, f1.inn, p1, fun _ v W2 H2 f2 p2 => q _ v W2 H2 (f1.trans f2) p2 kh, fun z => by cases z⟩
theorem Dn_cop (h : Da A ta Φ fun φs => ∃ ns, φs = [TL (TIs ns), bI false] ∧ kn (CL (TIs ns))) : Wl.Dn A (tCall spCop [] E ta) Φ kn := fun σ W H a Q q =>
  h σ W H a _ fun φs vs W1 H1 f1 p1 ⟨ns, e, kh⟩ => by
    subst e
    show spCop (vs ++ []) H1 Q E
    rw [List.append_nil]
    exact ⟨W1, ns, false, f1.inn, p1, fun z => (by cases z), fun _ b o W2 H2 f2 n nb nc ho t => q _ b o W2 H2 (f1.trans f2) (f1.was n) nb nc ho t kh⟩
end
end
end K08
set_option Elab.async false
set_option linter.all false
set_option maxRecDepth 100000
set_option maxHeartbeats 4000000
namespace K08
open PySem PySem.Spec PyProof.Rows L2 Wl Kx
abbrev rwT (a b : List Int) : Ty := TL [TL (TIs a), TL (TIs b)]
/-- a drawn row -/
structure Par (m : Nat) (u : Int) (ns : List Int) : Prop where
  ln : ns.length = m
  nn : ∀ x ∈ ns, 0 ≤ x
  sm : ns.sum = u
section
variable {P : Program} {w : World} {K : PySem.W.Frag} {mg : Str → Option Value} {base : Heap} {f : Addr} {fd : FuncData}
abbrev law_parts_N : List Str := ["pool", "units", "many", "row", "left", "k"]
theorem law_parts_sc : FnScope ["pool", "units", "many", "row", "left", "k"] ["pool", "units", "many"] (defScope law_parts_st) := ⟨rfl, rfl, rfl, by decide +kernel, rfl, by decide +kernel, by decide +kernel⟩
def S_parts : PX := fun φs k _ => ∃ (u : Int) (m : Nat), φs = [TC, TI u, TI m] ∧ 0 ≤ u ∧ u < 1000 ∧ 1 ≤ m ∧ m ≤ 8 ∧ ∀ ns : List Int, Par m u ns → k (TL (TIs ns))
theorem ok_parts {f1 : Addr} {fd1 : FuncData} (F : FnS K "_law_parts" law_parts_st f fd) (m_range : mg "range" = none) (D_law_take : Df P w K mg base 1 "_law_take" ["pool", "limit"] (spX S_take) f1 fd1) : FnOk P w K mg base (L2N.CX P w) 2 f fd ["pool", "units", "many"] (spX S_parts) := by
  refine F.ok law_parts_sc (fun vs H Q E h => lenX (n := 3) (fun φs k kx ⟨_, _, e, _⟩ => by rw [e]; rfl) h) (fun cdv A outer s H vs Q E hr h => ⟨_, (pss_cons (ps_set (i := 3) law_parts_sc.nd rfl (Or.inl rfl) (pe_lst pa_nil))
      (pss_cons (ps_set (i := 4) law_parts_sc.nd rfl (Or.inl rfl) (pv 1))
      (pss_cons (ps_for (passes_of rfl) rfl (pi_range1 rfl m_range (pa_cons (pe_op op_sub (pv 2) pe_int) pa_nil)) (pg_name (i := 5) law_parts_sc.nd rfl (Or.inl rfl))
      (pss_cons (ps_expr (pe_bm PySem.F.plainAttrs_list PySem.F.slot_list_append PySem.F.type_list_append mt_append (pv 3) (pa_cons (pe_call D_law_take.ok (hr.mono (by first | decide | omega)) rfl D_law_take.g D_law_take.kp D_law_take.b .nil ErrX.passN (pa_cons (pv 0) (pa_cons (pe_op op_add (pv 4) pe_int) pa_nil))) pa_nil)))
      (pss_one (ps_set (i := 4) law_parts_sc.nd rfl (Or.inl rfl) (pe_op op_sub (pv 4) (pe_ix ix_list (pv 3) (pe_un un_neg pe_int) (fun _ _ => rfl)))))))
      (pss_one (ps_ret (pe_op op_cat (pv 3) (pe_lst (pa_cons (pv 4) pa_nil)))))))), enterX (n := 6) rfl h fun A φs k kx hS hE => ?_⟩)
  obtain ⟨u, m, rfl, u0, u1, m1, m8, h1⟩ := hS
  refine Dt_seq (Dt_setOw (Dn_lst (Da_nil ⟨Nat.zero_le _, ?_⟩)))
  refine Dt_seq (Dt_set (De_var rfl ?_))
  refine Dt_seq (Dt_forI [5] (fun j Φ => ∃ (ns : List Int) (l : Int) (s : Sl), Φ = [.im TC, .im (TI u), .im (TI m), .ow (CL (TIs ns)), .im (TI l), s] ∧ ns.length = j ∧ 0 ≤ l ∧ l ≤ u ∧ (∀ x ∈ ns, 0 ≤ x) ∧ ns.sum + l = u) (ψs := (List.range (m - 1)).map fun (i : Nat) => TI i) (Di_range1 (Da_cons (De_op (De_var rfl (De_c (Rr_I0 (Da_nil ⟨m - 1, by rw [show (m : Int) - 1 = ((m - 1 : Nat) : Int) by omega], by omega, rfl⟩))))))) ⟨[], u, _, rfl, rfl, u0, Int.le_refl _, (fun _ h => nomatch h), by simp⟩ (fun j ψ Φ e hI => ?_) fun Φ hI => ?_)
  · obtain ⟨ns, l, s, rfl, el, l0, lu, nn, sm⟩ := hI
    obtain ⟨p, ep, rfl⟩ := of_map e
    have hj : j < m - 1 := by have := (List.getElem?_eq_some_iff.mp ep).1; rw [List.length_range] at this; exact this
    refine Dg_name (Dt_seq (Dt_append rfl (by rw [List.length_map]; omega) (De_callN (Da_cons (De_var rfl (Da_cons (De_op (De_var rfl (De_c (Rr_I0 (Da_nil ⟨l + 1, rfl, by omega, by omega, fun d d0 d1 => ?_⟩)))))))))))
    refine Dt_seq (Dt_set (De_op (De_var rfl (De_ixOw (Dl_ow rfl (De_un (De_c (Ru_neg ?_))))))))
    refine ⟨_, _, rfl, Wl.atI_last _ _, Rr_I0 ?_⟩
    refine Dt_next ⟨ns ++ [d], l - d, .im (TI p), ?_, by rw [List.length_append]; simp; omega, by omega, by omega, fun x hx => ?_, by rw [List.sum_append, List.sum_singleton]; omega⟩
    · rw [TIs, TIs, List.map_append]
      rfl
    · rcases List.mem_append.mp hx with z | z
      · exact nn x z
      · rw [List.mem_singleton.mp z]; exact d0
  · obtain ⟨ns, l, s, rfl, el, l0, lu, nn, sm⟩ := hI
    rw [List.length_map, List.length_range] at el
    refine Dt_seq (Dt_ret (De_dn (Dn_cat (Dl_ow rfl (Dl_dn (Dn_lst (Da_cons (De_var rfl (Da_nil ⟨Nat.le_of_ble_eq_true rfl, _, rfl, by rw [List.length_map, el]; simp; omega, _, rfl, ?_⟩)))))))))
    have := h1 (ns ++ [l]) ⟨by rw [List.length_append, el]; simp; omega, fun x hx => by
      rcases List.mem_append.mp hx with z | z
      · exact nn x z
      · rw [List.mem_singleton.mp z]; exact l0, by rw [List.sum_append, List.sum_singleton]; exact sm⟩
    rw [TIs, List.map_append] at this
    exact this
abbrev law_units_N : List Str := ["pool", "rest", "mode"]
theorem law_units_sc : FnScope ["pool", "rest", "mode"] ["pool", "rest"] (defScope law_units_st) := ⟨rfl, rfl, rfl, by decide +kernel, rfl, by decide +kernel, by decide +kernel⟩
def S_lunits : PX := fun φs k _ => ∃ r : Int, φs = [TC, TI r] ∧ 0 ≤ r ∧ r ≤ 400 ∧ ∀ u : Int, 0 ≤ u → u ≤ 400 → k (TI u)
theorem ok_lunits {f1 : Addr} {fd1 : FuncData} (F : FnS K "_law_units" law_units_st f fd) (m_min : mg "min" = none) (D_law_take : Df P w K mg base 1 "_law_take" ["pool", "limit"] (spX S_take) f1 fd1) : FnOk P w K mg base (L2N.CX P w) 2 f fd ["pool", "rest"] (spX S_lunits) := by
  refine F.ok law_units_sc (fun vs H Q E h => lenX (n := 2) (fun φs k kx ⟨_, e, _⟩ => by rw [e]; rfl) h) (fun cdv A outer s H vs Q E hr h => ⟨_, (pss_cons (ps_set (i := 2) law_units_sc.nd rfl (Or.inl rfl) (pe_call D_law_take.ok (hr.mono (by first | decide | omega)) rfl D_law_take.g D_law_take.kp D_law_take.b .nil ErrX.passN (pa_cons (pv 0) (pa_cons pe_int pa_nil))))
      (pss_cons (ps_if (pt_cmpR op_lt (pv 2) pe_int (nomark _)) (pss_one (ps_ret (pe_ix ix_list (pe_lst (pa_cons pe_int (pa_cons pe_int (pa_cons (pv 1) (pa_cons (pe_callB (call_min2 rfl) (by rfl) m_min (by decide +kernel) (pa_cons pe_int (pa_cons (pe_op op_add (pv 1) pe_int) pa_nil))) pa_nil))))) (pv 2) (fun _ _ => rfl)))) pss_nil)
      (pss_cons (ps_if (pt_cmpR op_eq (pv 2) pe_int (nomark _)) (pss_one (ps_ret (pe_call D_law_take.ok (hr.mono (by first | decide | omega)) rfl D_law_take.g D_law_take.kp D_law_take.b .nil ErrX.passN (pa_cons (pv 0) (pa_cons pe_int pa_nil))))) pss_nil)
      (pss_one (ps_ret (pe_call D_law_take.ok (hr.mono (by first | decide | omega)) rfl D_law_take.g D_law_take.kp D_law_take.b .nil ErrX.passN (pa_cons (pv 0) (pa_cons pe_int pa_nil)))))))), enterX (n := 3) rfl h fun A φs k kx hS hE => ?_⟩)
  obtain ⟨r, rfl, r0, r4, h1⟩ := hS
  refine Dt_seq (Dt_set (De_callN (Da_cons (De_var rfl (Da_cons (De_c (Da_nil ⟨10, rfl, by decide, by decide, fun d d0 d1 => ?_⟩)))))))
  obtain ⟨i, rfl⟩ := Int.eq_ofNat_of_zero_le d0
  refine Dt_seq (Dt_if (Dc_test (De_op (De_var rfl (De_c (Rr_I0 ⟨_, rfl, fun z => ?_, fun z => Dt_next ?_⟩))))))
  · have z := of_decide_eq_true z
    refine Dt_ret (De_op (De_lst (Da_cons (De_c (Da_cons (De_c (Da_cons (De_var rfl (Da_cons (De_cb (Da_cons (De_c (Da_cons (De_op (De_var rfl (De_c (Rr_I0 (Da_nil (Rc_min2 (Da_nil ⟨Nat.le_of_ble_eq_true rfl, De_var rfl ?_⟩))))))))))))))))))))
    match i, z with
    | 0, _ => exact Rr_ixL rfl (h1 0 (by decide) (by decide))
    | 1, _ => exact Rr_ixL rfl (h1 400 (by decide) (by decide))
    | 2, _ => exact Rr_ixL rfl (h1 r r0 r4)
    | 3, _ => exact Rr_ixL rfl (h1 _ (by split <;> omega) (by split <;> omega))
  · refine Dt_seq (Dt_if (Dc_test (De_op (De_var rfl (De_c (Rr_eq rfl ⟨_, rfl, fun _ => ?_, fun _ => Dt_next ?_⟩))))))
    · exact Dt_ret (De_callN (Da_cons (De_var rfl (Da_cons (De_c (Da_nil ⟨401, rfl, by decide, by decide, fun d d0 d1 => h1 d d0 (by omega)⟩))))))
    · exact Dt_ret (De_callN (Da_cons (De_var rfl (Da_cons (De_c (Da_nil ⟨25, rfl, by decide, by decide, fun d d0 d1 => h1 d d0 (by omega)⟩))))))
theorem par_ok {m n : Nat} {u : Int} {a b : List Int} (pa : Par m u a) (pb : Par n u b) (m1 : 1 ≤ m) (m8 : m ≤ 8) (n1 : 1 ≤ n) (n8 : n ≤ 8) (u4 : u ≤ 400) : OkT a b :=
  okT_of (by unfold lens; rw [pa.ln]; exact ⟨m1, m8⟩) (by unfold lens; rw [pb.ln]; exact ⟨n1, n8⟩) pa.nn pb.nn (by rw [pa.sm, pb.sm]) (by rw [pa.sm]; exact u4)
abbrev law_first_N : List Str := ["pool", "m", "n", "units"]
theorem law_first_sc : FnScope ["pool", "m", "n", "units"] ["pool"] (defScope law_first_st) := ⟨rfl, rfl, rfl, by decide +kernel, rfl, by decide +kernel, by decide +kernel⟩
def S_first : PX := fun φs k _ => φs = [TC] ∧ ∀ a b : List Int, OkT a b → k (rwT a b)
theorem ok_first {f1 f2 f3 : Addr} {fd1 fd2 fd3 : FuncData} (F : FnS K "_law_first" law_first_st f fd) (D_law_take : Df P w K mg base 1 "_law_take" ["pool", "limit"] (spX S_take) f1 fd1) (D_law_units : Df P w K mg base 2 "_law_units" ["pool", "rest"] (spX S_lunits) f2 fd2) (D_law_parts : Df P w K mg base 2 "_law_parts" ["pool", "units", "many"] (spX S_parts) f3 fd3) : FnOk P w K mg base (L2N.CX P w) 3 f fd ["pool"] (spX S_first) := by
  refine F.ok law_first_sc (fun vs H Q E h => lenX (n := 1) (fun φs k kx ⟨e, _⟩ => by rw [e]; rfl) h) (fun cdv A outer s H vs Q E hr h => ⟨_, (pss_cons (ps_set (i := 1) law_first_sc.nd rfl (Or.inl rfl) (pe_op op_add pe_int (pe_call D_law_take.ok (hr.mono (by first | decide | omega)) rfl D_law_take.g D_law_take.kp D_law_take.b .nil ErrX.passN (pa_cons (pv 0) (pa_cons pe_int pa_nil)))))
      (pss_cons (ps_set (i := 2) law_first_sc.nd rfl (Or.inl rfl) (pe_op op_add pe_int (pe_call D_law_take.ok (hr.mono (by first | decide | omega)) rfl D_law_take.g D_law_take.kp D_law_take.b .nil ErrX.passN (pa_cons (pv 0) (pa_cons pe_int pa_nil)))))
      (pss_cons (ps_set (i := 3) law_first_sc.nd rfl (Or.inl rfl) (pe_call D_law_units.ok (hr.mono (by first | decide | omega)) rfl D_law_units.g D_law_units.kp D_law_units.b .nil ErrX.passN (pa_cons (pv 0) (pa_cons pe_int pa_nil))))
      (pss_one (ps_ret (pe_lst (pa_cons (pe_call D_law_parts.ok (hr.mono (by first | decide | omega)) rfl D_law_parts.g D_law_parts.kp D_law_parts.b .nil ErrX.passN (pa_cons (pv 0) (pa_cons (pv 3) (pa_cons (pv 1) pa_nil)))) (pa_cons (pe_call D_law_parts.ok (hr.mono (by first | decide | omega)) rfl D_law_parts.g D_law_parts.kp D_law_parts.b .nil ErrX.passN (pa_cons (pv 0) (pa_cons (pv 3) (pa_cons (pv 2) pa_nil)))) pa_nil)))))))), enterX (n := 4) rfl h fun A φs k kx hS hE => ?_⟩)
  obtain ⟨rfl, h1⟩ := hS
  refine Dt_seq (Dt_set (De_op (De_c (De_callN (Da_cons (De_var rfl (Da_cons (De_c (Da_nil ⟨8, rfl, by decide, by decide, fun d d0 d1 => Rr_I0 ?_⟩)))))))))
  obtain ⟨m', rfl⟩ := Int.eq_ofNat_of_zero_le d0
  refine Dt_seq (Dt_set (De_op (De_c (De_callN (Da_cons (De_var rfl (Da_cons (De_c (Da_nil ⟨8, rfl, by decide, by decide, fun d d0 d2 => Rr_I0 ?_⟩)))))))))
  obtain ⟨n', rfl⟩ := Int.eq_ofNat_of_zero_le d0
  rw [show (1 : Int) + (m' : Int) = ((1 + m' : Nat) : Int) by omega, show (1 : Int) + (n' : Int) = ((1 + n' : Nat) : Int) by omega]
  refine Dt_seq (Dt_set (De_callN (Da_cons (De_var rfl (Da_cons (De_c (Da_nil ⟨200, rfl, by decide, by decide, fun u u0 u4 => ?_⟩)))))))
  refine Dt_ret (De_lst (Da_cons (De_callN (Da_cons (De_var rfl (Da_cons (De_var rfl (Da_cons (De_var rfl (Da_nil ⟨u, 1 + m', rfl, u0, by omega, by omega, by omega, fun a pa => ?_⟩))))))))))
  refine Da_cons (De_callN (Da_cons (De_var rfl (Da_cons (De_var rfl (Da_cons (De_var rfl (Da_nil ⟨u, 1 + n', rfl, u0, by omega, by omega, by omega, fun b pb => Da_nil ⟨Nat.le_of_ble_eq_true rfl, ?_⟩⟩))))))))
  exact h1 a b (par_ok pa pb (by omega) (by omega) (by omega) (by omega) u4)
abbrev law_second_N : List Str := ["pool", "one", "m", "n", "shape", "units"]
theorem law_second_sc : FnScope ["pool", "one", "m", "n", "shape", "units"] ["pool", "one"] (defScope law_second_st) := ⟨rfl, rfl, rfl, by decide +kernel, rfl, by decide +kernel, by decide +kernel⟩
def S_second : PX := fun φs k _ => ∃ a b : List Int, φs = [TC, rwT a b] ∧ OkT a b ∧ ∀ c d : List Int, OkT c d → k (rwT c d)
theorem ok_second {f1 f2 f3 : Addr} {fd1 fd2 fd3 : FuncData} (F : FnS K "_law_second" law_second_st f fd) (m_len : mg "len" = none) (m_sum : mg "sum" = none) (D_law_take : Df P w K mg base 1 "_law_take" ["pool", "limit"] (spX S_take) f1 fd1) (D_law_units : Df P w K mg base 2 "_law_units" ["pool", "rest"] (spX S_lunits) f2 fd2) (D_law_parts : Df P w K mg base 2 "_law_parts" ["pool", "units", "many"] (spX S_parts) f3 fd3) : FnOk P w K mg base (L2N.CX P w) 3 f fd ["pool", "one"] (spX S_second) := by
  refine F.ok law_second_sc (fun vs H Q E h => lenX (n := 2) (fun φs k kx ⟨_, _, e, _⟩ => by rw [e]; rfl) h) (fun cdv A outer s H vs Q E hr h => ⟨_, (pss_cons (ps_set (i := 2) law_second_sc.nd rfl (Or.inl rfl) (pe_callB call_len_seq (by rfl) m_len (by decide +kernel) (pa_cons (pe_ix ix_list (pv 1) pe_int (fun _ _ => rfl)) pa_nil)))
      (pss_cons (ps_set (i := 3) law_second_sc.nd rfl (Or.inl rfl) (pe_callB call_len_seq (by rfl) m_len (by decide +kernel) (pa_cons (pe_ix ix_list (pv 1) pe_int (fun _ _ => rfl)) pa_nil)))
      (pss_cons (ps_set (i := 4) law_second_sc.nd rfl (Or.inl rfl) (pe_call D_law_take.ok (hr.mono (by first | decide | omega)) rfl D_law_take.g D_law_take.kp D_law_take.b .nil ErrX.passN (pa_cons (pv 0) (pa_cons pe_int pa_nil))))
      (pss_cons (ps_if (pt_cmpR op_eq (pv 4) pe_int (nomark _)) (pss_one (ps_set (i := 2) law_second_sc.nd rfl (Or.inl rfl) (pe_op op_add pe_int (pe_call D_law_take.ok (hr.mono (by first | decide | omega)) rfl D_law_take.g D_law_take.kp D_law_take.b .nil ErrX.passN (pa_cons (pv 0) (pa_cons pe_int pa_nil)))))) pss_nil)
      (pss_cons (ps_if (pt_cmpR op_le (pv 4) pe_int (nomark _)) (pss_one (ps_set (i := 3) law_second_sc.nd rfl (Or.inl rfl) (pe_op op_add pe_int (pe_call D_law_take.ok (hr.mono (by first | decide | omega)) rfl D_law_take.g D_law_take.kp D_law_take.b .nil ErrX.passN (pa_cons (pv 0) (pa_cons pe_int pa_nil)))))) pss_nil)
      (pss_cons (ps_set (i := 5) law_second_sc.nd rfl (Or.inl rfl) (pe_call D_law_units.ok (hr.mono (by first | decide | omega)) rfl D_law_units.g D_law_units.kp D_law_units.b .nil ErrX.passN (pa_cons (pv 0) (pa_cons (pe_op op_sub pe_int (pe_callB (EnT.cr_sumE rfl) (by rfl) m_sum (by decide +kernel) (pa_cons (pe_ix ix_list (pv 1) pe_int (fun _ _ => rfl)) pa_nil))) pa_nil))))
      (pss_one (ps_ret (pe_lst (pa_cons (pe_call D_law_parts.ok (hr.mono (by first | decide | omega)) rfl D_law_parts.g D_law_parts.kp D_law_parts.b .nil ErrX.passN (pa_cons (pv 0) (pa_cons (pv 5) (pa_cons (pv 2) pa_nil)))) (pa_cons (pe_call D_law_parts.ok (hr.mono (by first | decide | omega)) rfl D_law_parts.g D_law_parts.kp D_law_parts.b .nil ErrX.passN (pa_cons (pv 0) (pa_cons (pv 5) (pa_cons (pv 3) pa_nil)))) pa_nil))))))))))), enterX (n := 6) rfl h fun A φs k kx hS hE => ?_⟩)
  obtain ⟨a, b, rfl, g, h1⟩ := hS
  have l1 := g.s1
  have l2 := g.d1
  have s4 := g.le
  have s0 : 0 ≤ a.sum := by
    have : ∃ x, x ∈ a := List.exists_mem_of_length_pos (by omega)
    obtain ⟨x, hx⟩ := this
    exact (le_sum (fun x hx => (g.na x hx).1) hx).1
  refine Dt_seq (Dt_set (De_len (Dl_de (De_op (De_var rfl (De_c (Rr_ixL rfl ⟨_, rfl, ?_⟩)))))))
  rw [List.length_map]
  refine Dt_seq (Dt_set (De_len (Dl_de (De_op (De_var rfl (De_c (Rr_ixL rfl ⟨_, rfl, ?_⟩)))))))
  rw [List.length_map]
  refine Dt_seq (Dt_set (De_callN (Da_cons (De_var rfl (Da_cons (De_c (Da_nil ⟨4, rfl, by decide, by decide, fun sh _ _ => ?_⟩)))))))
  have fin : ∀ m n : Nat, 1 ≤ m → m ≤ 8 → 1 ≤ n → n ≤ 8 → Dt A (tSeq (tAsg (tCall (spX S_lunits) [] E0 (tCons (tVar 0) (tCons (tOp (rI0 fun i j => .int (i - j)) (tC (.int 400)) (tCB (EnT.rSumE K) (tCons (tOp (rIxL K) (tVar 1) (tC (.int 0))) tNil))) tNil))) (gName 5)) (tRet (tLst (tCons (tCall (spX S_parts) [] E0 (tCons (tVar 0) (tCons (tVar 5) (tCons (tVar 2) tNil)))) (tCons (tCall (spX S_parts) [] E0 (tCons (tVar 0) (tCons (tVar 5) (tCons (tVar 3) tNil)))) tNil))))) [.im TC, .im (rwT a b), .im (TI m), .im (TI n), .im (TI sh), .no] ⟨fun _ => k TN, k, fun _ => False, fun _ => False⟩ := fun m n m1 m8 n1 n8 => by
    refine Dt_seq (Dt_set (De_callN (Da_cons (De_var rfl (Da_cons (De_op (De_c (De_sumL (ns := a) (Dl_de (De_op (De_var rfl (De_c (Rr_ixL rfl ⟨_, rfl, rfl, Rr_I0 (Da_nil ⟨_, rfl, by omega, by omega, fun u u0 u4 => ?_⟩)⟩)))))))))))))
    refine Dt_ret (De_lst (Da_cons (De_callN (Da_cons (De_var rfl (Da_cons (De_var rfl (Da_cons (De_var rfl (Da_nil ⟨u, m, rfl, u0, by omega, m1, m8, fun c pc => ?_⟩))))))))))
    refine Da_cons (De_callN (Da_cons (De_var rfl (Da_cons (De_var rfl (Da_cons (De_var rfl (Da_nil ⟨u, n, rfl, u0, by omega, n1, n8, fun d pd => Da_nil ⟨Nat.le_of_ble_eq_true rfl, ?_⟩⟩))))))))
    exact h1 c d (par_ok pc pd m1 m8 n1 n8 u4)
  have nxt : ∀ m : Nat, 1 ≤ m → m ≤ 8 → Dt A (tSeq (tIfS (tTest (tOp (rI0 fun i j => .bl (decide (i ≤ j))) (tVar 4) (tC (.int 1)))) (tAsg (tOp (rI0 fun i j => .int (i + j)) (tC (.int 1)) (tCall (spX S_take) [] E0 (tCons (tVar 0) (tCons (tC (.int 8)) tNil)))) (gName 3)) tNext) (tSeq (tAsg (tCall (spX S_lunits) [] E0 (tCons (tVar 0) (tCons (tOp (rI0 fun i j => .int (i - j)) (tC (.int 400)) (tCB (EnT.rSumE K) (tCons (tOp (rIxL K) (tVar 1) (tC (.int 0))) tNil))) tNil))) (gName 5)) (tRet (tLst (tCons (tCall (spX S_parts) [] E0 (tCons (tVar 0) (tCons (tVar 5) (tCons (tVar 2) tNil)))) (tCons (tCall (spX S_parts) [] E0 (tCons (tVar 0) (tCons (tVar 5) (tCons (tVar 3) tNil)))) tNil)))))) [.im TC, .im (rwT a b), .im (TI m), .im (TI b.length), .im (TI sh), .no] ⟨fun _ => k TN, k, fun _ => False, fun _ => False⟩ := fun m m1 m8 => by
    refine Dt_seq (Dt_if (Dc_test (De_op (De_var rfl (De_c (Rr_I0 ⟨_, rfl, fun _ => ?_, fun _ => Dt_next (fin m b.length m1 m8 l2.1 l2.2)⟩))))))
    refine Dt_set (De_op (De_c (De_callN (Da_cons (De_var rfl (Da_cons (De_c (Da_nil ⟨8, rfl, by decide, by decide, fun d d0 d1 => Rr_I0 ?_⟩))))))))
    obtain ⟨n', rfl⟩ := Int.eq_ofNat_of_zero_le d0
    rw [show (1 : Int) + (n' : Int) = ((1 + n' : Nat) : Int) by omega]
    exact fin m (1 + n') m1 m8 (by omega) (by omega)
  refine Dt_seq (Dt_if (Dc_test (De_op (De_var rfl (De_c (Rr_eq rfl ⟨_, rfl, fun _ => ?_, fun _ => Dt_next (nxt a.length l1.1 l1.2)⟩))))))
  refine Dt_set (De_op (De_c (De_callN (Da_cons (De_var rfl (Da_cons (De_c (Da_nil ⟨8, rfl, by decide, by decide, fun d d0 d1 => Rr_I0 ?_⟩))))))))
  obtain ⟨m', rfl⟩ := Int.eq_ofNat_of_zero_le d0
  rw [show (1 : Int) + (m' : Int) = ((1 + m' : Nat) : Int) by omega]
  exact nxt (1 + m') (by omega) (by omega)
end
end K08
set_option Elab.async false
set_option linter.all false
set_option maxRecDepth 100000
set_option maxHeartbeats 4000000
namespace K08
open PySem PySem.Spec PyProof.Rows L2 Wl Kx
def TmJ (j : Nat) (ns : List Int) : Prop := ns.length ≤ 8 + j ∧ ∀ x ∈ ns, x.natAbs ≤ 10 ^ 30 + 4000 + j
theorem TmJ.tame {j : Nat} {ns : List Int} (h : TmJ j ns) (hj : j ≤ 2) : Tame ns := ⟨by have := h.1; omega, fun x hx => by
  have := h.2 x hx
  have e : (10 : Nat) ^ 30 + 4000 + 2 < 10 ^ 32 := by decide +kernel
  omega⟩
theorem TmJ.up {j : Nat} {ns : List Int} (h : TmJ j ns) : TmJ (j + 1) ns := ⟨by have := h.1; omega, fun x hx => by have := h.2 x hx; omega⟩
theorem rep_flat {α : Type} (n : Nat) (x : α) : (List.replicate n [x]).flatten = List.replicate n x := by
  induction n with
  | zero => rfl
  | succ n ih => rw [List.replicate_succ, List.flatten_cons, ih, List.replicate_succ]; rfl
theorem tis_rep (n : Nat) (x : Int) : TIs (List.replicate n x) = List.replicate n (TI x) := by rw [TIs, List.map_replicate]
section
variable {P : Program} {w : World} {K : PySem.W.Frag} {mg : Str → Option Value} {base : Heap} {f : Addr} {fd : FuncData}
abbrev law_level_N : List Str := ["units", "many", "each", "row", "k"]
theorem law_level_sc : FnScope ["units", "many", "each", "row", "k"] ["units", "many"] (defScope law_level_st) := ⟨rfl, rfl, rfl, by decide +kernel, rfl, by decide +kernel, by decide +kernel⟩
def S_level : PX := fun φs k _ => ∃ (u m : Nat), φs = [TI u, TI m] ∧ u ≤ 3200 ∧ 1 ≤ m ∧ m ≤ 8 ∧ ∀ ns : List Int, TmJ 0 ns → k (TL (TIs ns))
theorem ok_level (F : FnS K "_law_level" law_level_st f fd) (m_range : mg "range" = none) (m_int : mg "int" = none) : FnOk P w K mg base (L2N.CX P w) 1 f fd ["units", "many"] (spX S_level) := by
  refine F.ok law_level_sc (fun vs H Q E h => lenX (n := 2) (fun φs k kx ⟨_, _, e, _⟩ => by rw [e]; rfl) h) (fun cdv A outer s H vs Q E hr h => ⟨_, (pss_cons (ps_set (i := 2) law_level_sc.nd rfl (Or.inl rfl) (pe_op op_fdivN (pv 0) (pv 1)))
      (pss_cons (ps_set (i := 3) law_level_sc.nd rfl (Or.inl rfl) (pe_op op_rep (pe_lst (pa_cons (pv 2) pa_nil)) (pv 1)))
      (pss_cons (ps_for (passes_of rfl) rfl (pi_range1 rfl m_range (pa_cons (pe_op op_mod (pe_callTy call_int1 (by rfl) m_int (by decide +kernel) (pa_cons (pv 0) pa_nil)) (pv 1)) pa_nil)) (pg_name (i := 4) law_level_sc.nd rfl (Or.inl rfl))
      (pss_one (ps_asg (pe_op op_add (pe_ix ix_list (pv 3) (pv 4) (fun _ _ => rfl)) pe_int) (pg_sub (pv 3) (pv 4) set_list))))
      (pss_one (ps_ret (pv 3)))))), enterX (n := 5) rfl h fun A φs k kx hS hE => ?_⟩)
  obtain ⟨u, m, rfl, u3, m1, m8, h1⟩ := hS
  refine Dt_seq (Dt_set (De_op (De_var rfl (De_var rfl (Rr_IC ⟨by omega, by omega⟩ ?_)))))
  refine Dt_seq (Dt_setOw (Dn_repI (Dl_dn (Dn_lst (Da_cons (De_var rfl (Da_nil ⟨Nat.le_of_ble_eq_true rfl, _, rfl, De_var rfl ⟨m, rfl, by omega, by simp; omega, ?_⟩⟩)))))))
  rw [Int.toNat_natCast, rep_flat]
  have e0 : (u : Int).fdiv (m : Int) = ((u / m : Nat) : Int) := by
    rw [Int.fdiv_eq_ediv_of_nonneg _ (by omega)]
    rfl
  have e1 : u / m ≤ u := Nat.div_le_self u m
  rw [e0, ← tis_rep]
  clear e0
  generalize u / m = q at e1 ⊢
  have r0 : (0 : Int) < m := by omega
  have hm := Int.emod_nonneg (u : Int) (show (m : Int) ≠ 0 by omega)
  have hl := Int.emod_lt_of_pos (u : Int) r0
  obtain ⟨n, hn⟩ := Int.eq_ofNat_of_zero_le hm
  refine Dt_seq (Dt_forI [4] (fun j Φ => ∃ (ns : List Int) (s : Sl), Φ = [.im (TI u), .im (TI m), .im (TI q), .ow (CL (TIs ns)), s] ∧ ns.length = m ∧ ∀ x ∈ ns, x.natAbs ≤ 3200 + j) (ψs := (List.range n).map fun (i : Nat) => TI i) (Di_range1 (Da_cons (De_op (De_cb (Da_cons (De_var rfl (Da_nil (Rc_int1 (De_var rfl (Rr_IC r0 (Da_nil ⟨n, by rw [hn], by omega, rfl⟩))))))))))) ⟨List.replicate m (q : Int), _, rfl, List.length_replicate, fun x hx => by rw [List.eq_of_mem_replicate hx]; omega⟩ (fun j ψ Φ e hI => ?_) fun Φ hI => ?_)
  · obtain ⟨ns, s, rfl, el, nb⟩ := hI
    obtain ⟨p, ep, rfl⟩ := of_map e
    have hj : j < n := by have := (List.getElem?_eq_some_iff.mp ep).1; rw [List.length_range] at this; exact this
    rw [List.getElem?_range hj] at ep
    cases ep
    have hjm : j < ns.length := by omega
    refine Dg_name (Dt_put rfl (De_op (De_ixOw (Dl_ow rfl (De_var rfl ⟨_, _, rfl, atI_get hjm, De_c (Rr_I0 (De_var rfl ⟨j, j, rfl, ?_, ?_⟩))⟩)))))
    · unfold ixN
      rw [if_pos (by omega), if_pos (by rw [List.length_map]; omega)]
      rfl
    · refine ⟨ns.set j (ns.getD j 0 + 1), .im (TI j), ?_, by rw [List.length_set]; exact el, fun x hx => ?_⟩
      · show [Sl.im (TI u), .im (TI m), .im (TI q), .ow (CL ((TIs ns).set j (TI (ns.getD j 0 + 1)))), .im (TI j)] = _
        rw [TIs, TIs, List.map_set]
      · rcases List.mem_or_eq_of_mem_set hx with z | rfl
        · have := nb x z
          omega
        · have g : ns.getD j 0 = ns[j] := by rw [List.getD_eq_getElem?_getD, List.getElem?_eq_getElem hjm]; rfl
          have := nb ns[j] (List.getElem_mem hjm)
          rw [g]
          omega
  · obtain ⟨ns, s, rfl, el, nb⟩ := hI
    rw [List.length_map, List.length_range] at nb
    exact Dt_retOw rfl (h1 ns ⟨by omega, fun x hx => by have := nb x hx; have : (0 : Nat) ≤ 10 ^ 30 := Nat.zero_le _; omega⟩)
abbrev law_odd_row_N : List Str := ["pool", "row", "turn", "kind", "spot", "number"]
theorem law_odd_row_sc : FnScope ["pool", "row", "turn", "kind", "spot", "number"] ["pool", "row"] (defScope law_odd_row_st) := ⟨rfl, rfl, rfl, by decide +kernel, rfl, by decide +kernel, by decide +kernel⟩
def S_oddrow : PX := fun φs k _ => ∃ ns : List Int, φs = [TC, TL (TIs ns)] ∧ TmJ 0 ns ∧ ∀ ns' : List Int, Tame ns' → k (TL (TIs ns'))
theorem ok_oddrow {f1 : Addr} {fd1 : FuncData} (F : FnS K "_law_odd_row" law_odd_row_st f fd) (m_range : mg "range" = none) (m_len : mg "len" = none) (D_law_take : Df P w K mg base 1 "_law_take" ["pool", "limit"] (spX S_take) f1 fd1) : FnOk P w K mg base (L2N.CX P w) 2 f fd ["pool", "row"] (spX S_oddrow) := by
  refine F.ok law_odd_row_sc (fun vs H Q E h => lenX (n := 2) (fun φs k kx ⟨_, e, _⟩ => by rw [e]; rfl) h) (fun cdv A outer s H vs Q E hr h => ⟨_, (pss_cons (ps_for (passes_of rfl) rfl (pi_range1 rfl m_range (pa_cons (pe_call D_law_take.ok (hr.mono (by first | decide | omega)) rfl D_law_take.g D_law_take.kp D_law_take.b .nil ErrX.passN (pa_cons (pv 0) (pa_cons pe_int pa_nil))) pa_nil)) (pg_name (i := 2) law_odd_row_sc.nd rfl (Or.inl rfl))
      (pss_cons (ps_set (i := 3) law_odd_row_sc.nd rfl (Or.inl rfl) (pe_call D_law_take.ok (hr.mono (by first | decide | omega)) rfl D_law_take.g D_law_take.kp D_law_take.b .nil ErrX.passN (pa_cons (pv 0) (pa_cons pe_int pa_nil))))
      (pss_cons (ps_set (i := 4) law_odd_row_sc.nd rfl (Or.inl rfl) (pe_call D_law_take.ok (hr.mono (by first | decide | omega)) rfl D_law_take.g D_law_take.kp D_law_take.b .nil ErrX.passN (pa_cons (pv 0) (pa_cons (pe_op op_add (pe_callB call_len_seq (by rfl) m_len (by decide +kernel) (pa_cons (pv 1) pa_nil)) pe_int) pa_nil))))
      (pss_cons (ps_set (i := 5) law_odd_row_sc.nd rfl (Or.inl rfl) (pe_ix ix_list (pe_lst (pa_cons (pe_un un_neg pe_int) (pa_cons pe_int (pa_cons pe_int (pa_cons pe_int (pa_cons pe_int (pa_cons (pe_op op_pow pe_int pe_int) (pa_cons (pe_un un_neg (pe_op op_pow pe_int pe_int)) (pa_cons pe_int pa_nil))))))))) (pe_call D_law_take.ok (hr.mono (by first | decide | omega)) rfl D_law_take.g D_law_take.kp D_law_take.b .nil ErrX.passN (pa_cons (pv 0) (pa_cons pe_int pa_nil))) (fun _ _ => rfl)))
      (pss_one (ps_if (pt_cmpR op_eq (pv 3) pe_int (nomark _)) (pss_one (ps_set (i := 1) law_odd_row_sc.nd rfl (Or.inl rfl) (pe_slice sl_list (pv 1) po_none (po_some (pv 4))))) (pss_one (ps_if (pt_cmpR op_eq (pv 3) pe_int (nomark _)) (pss_one (ps_set (i := 1) law_odd_row_sc.nd rfl (Or.inl rfl) (pe_op op_cat (pe_op op_cat (pe_slice sl_list (pv 1) po_none (po_some (pv 4))) (pe_lst (pa_cons (pv 5) pa_nil))) (pe_slice sl_list (pv 1) (po_some (pv 4)) po_none)))) (pss_one (ps_if (pt_cmpR op_eq (pv 3) pe_int (nomark _)) (pss_one (ps_set (i := 1) law_odd_row_sc.nd rfl (Or.inl rfl) (pe_op op_cat (pe_op op_cat (pe_slice sl_list (pv 1) po_none (po_some (pv 4))) (pe_op op_rep (pe_lst (pa_cons pe_int pa_nil)) (pe_op op_sub pe_int (pe_callB call_len_seq (by rfl) m_len (by decide +kernel) (pa_cons (pv 1) pa_nil))))) (pe_slice sl_list (pv 1) (po_some (pv 4)) po_none)))) (pss_one (ps_if (PW.pt (pw_and (pt_cmpR op_lt (pv 4) (pe_callB call_len_seq (by rfl) m_len (by decide +kernel) (pa_cons (pv 1) pa_nil)) (nomark _)) (pw_and1 (pt_cmpR op_eq (pv 3) pe_int (nomark _))))) (pss_one (ps_set (i := 1) law_odd_row_sc.nd rfl (Or.inl rfl) (pe_op op_cat (pe_op op_cat (pe_slice sl_list (pv 1) po_none (po_some (pv 4))) (pe_lst (pa_cons (pv 5) pa_nil))) (pe_slice sl_list (pv 1) (po_some (pe_op op_add (pv 4) pe_int)) po_none)))) (pss_one (ps_if (pt_cmpR op_lt (pv 4) (pe_callB call_len_seq (by rfl) m_len (by decide +kernel) (pa_cons (pv 1) pa_nil)) (nomark _)) (pss_one (ps_set (i := 1) law_odd_row_sc.nd rfl (Or.inl rfl) (pe_op op_cat (pe_op op_cat (pe_slice sl_list (pv 1) po_none (po_some (pv 4))) (pe_lst (pa_cons (pe_op op_add (pe_ix ix_list (pv 1) (pv 4) (fun _ _ => rfl)) pe_int) pa_nil))) (pe_slice sl_list (pv 1) (po_some (pe_op op_add (pv 4) pe_int)) po_none)))) pss_nil))))))))))))))
      (pss_one (ps_ret (pv 1)))), enterX (n := 6) rfl h fun A φs k kx hS hE => ?_⟩)
  obtain ⟨ns0, rfl, tm0, h1⟩ := hS
  have cat : ∀ (Φ : List Sl) (ns : List Int) (i j : Nat) (b : List Int) (kk : Th → Prop) (te te2 : TE), Φ[1]? = some (.im (TL (TIs ns))) → Φ[4]? = some (.im (TI i)) → ns.length ≤ 100 → i ≤ ns.length → b.length ≤ 100 → (∀ kt : Th → Prop, kt (CL (TIs b)) → Wl.Dn A te Φ kt) → (∀ kt : Ty → Prop, kt (TI j) → De A te2 Φ kt) →
      kk (CL (TIs (ns.take i ++ b ++ ns.drop j))) → Wl.Dn A (tOp rCat (tOp rCat (tSl (rSlL K) (tVar 1) tNoPart (tPart (tVar 4))) te) (tSl (rSlL K) (tVar 1) (tPart te2) tNoPart)) Φ kk := fun Φ ns i j b kk te te2 e1 e4 ln li lb ht h2 hk => by
    refine Dn_cat (Dl_dn (Dn_cat (Dl_dn (Dn_slice (Dl_im e1 (Do_none (Do_part (De_var e4 ⟨_, rfl, _, rfl, ?_⟩))))))))
    refine Dl_dn (ht _ ⟨TIs b, rfl, ?_, _, rfl, ?_⟩)
    · rw [cut_take, List.length_take, List.length_map, List.length_map]
      omega
    · refine Dl_dn (Dn_slice (Dl_im e1 (Do_part (h2 _ ⟨_, rfl, Do_none ⟨_, rfl, ?_, ?_⟩⟩))))
      · rw [cut_take, cut_drop, List.length_append, List.length_take, List.length_drop, List.length_map, List.length_map]
        omega
      · rw [cut_take, cut_drop]
        have e : (TIs ns).take i ++ TIs b ++ (TIs ns).drop j = TIs (ns.take i ++ b ++ ns.drop j) := by
          simp [TIs, List.map_take, List.map_drop]
        rw [e]
        exact hk
  refine Dt_seq (Dt_for (us := [2]) (Di_range1 (Da_cons (De_callN (Da_cons (De_var rfl (Da_cons (De_c (Da_nil ⟨3, rfl, by decide, by decide, fun d d0 d1 => Da_nil ?_⟩)))))))))
  obtain ⟨t, rfl⟩ := Int.eq_ofNat_of_zero_le d0
  refine ⟨t, rfl, by omega, fun j Φ => ∃ (ns : List Int) (s2 s3 s4 s5 : Sl), Φ = [.im TC, .im (TL (TIs ns)), s2, s3, s4, s5] ∧ TmJ j ns, ⟨ns0, _, _, _, _, rfl, tm0⟩, fun j ψ Φ e hI => ?_, fun Φ hI => ?_⟩
  · obtain ⟨ns, s2, s3, s4, s5, rfl, tm⟩ := hI
    obtain ⟨p, ep, rfl⟩ := of_map e
    have hj : j < t := by have := (List.getElem?_eq_some_iff.mp ep).1; rw [List.length_range] at this; exact this
    have l8 := tm.1
    refine Dg_name ?_
    refine Dt_seq (Dt_set (De_callN (Da_cons (De_var rfl (Da_cons (De_c (Da_nil ⟨5, rfl, by decide, by decide, fun kd _ _ => ?_⟩)))))))
    refine Dt_seq (Dt_set (De_callN (Da_cons (De_var rfl (Da_cons (De_op (De_len (Dl_im rfl (De_c (Rr_I0 (Da_nil ⟨_, rfl, ?_, ?_, fun sp sp0 sp1 => ?_⟩)))))))))))
    · rw [List.length_map]; omega
    · rw [List.length_map]; omega
    rw [List.length_map] at sp1
    obtain ⟨i, rfl⟩ := Int.eq_ofNat_of_zero_le sp0
    have hi : i ≤ ns.length := by omega
    have num : ∀ kt : Ty → Prop, (∀ x : Int, x.natAbs ≤ 10 ^ 30 → kt (TI x)) → De A (tOp (rIxL K) (tLst (tCons (tUn (rU fun i => .int (-i)) (tC (.int 1))) (tCons (tC (.int 401)) (tCons (tC (.int 400)) (tCons (tC (.int 399)) (tCons (tC (.int 1000)) (tCons (tOp (rI CPow fun i j => .int (i ^ j.toNat)) (tC (.int 10)) (tC (.int 30))) (tCons (tUn (rU fun i => .int (-i)) (tOp (rI CPow fun i j => .int (i ^ j.toNat)) (tC (.int 10)) (tC (.int 30)))) (tCons (tC (.int 0)) tNil))))))))) (tCall (spX S_take) [] E0 (tCons (tVar 0) (tCons (tC (.int 8)) tNil)))) [.im TC, .im (TL (TIs ns)), .im (TI p), .im (TI kd), .im (TI i), s5] kt := fun kt hk => by
      have cp : CPow 10 30 := ⟨by decide, by decide, by decide⟩
      refine De_op (De_lst (Da_cons (De_un (De_c (Ru_neg (Da_cons (De_c (Da_cons (De_c (Da_cons (De_c (Da_cons (De_c (Da_cons (De_op (De_c (De_c (Rr_IC cp (Da_cons (De_un (De_op (De_c (De_c (Rr_IC cp (Ru_neg (Da_cons (De_c (Da_nil ⟨Nat.le_of_ble_eq_true rfl, ?_⟩))))))))))))))))))))))))))))
      refine De_callN (Da_cons (De_var rfl (Da_cons (De_c (Da_nil ⟨8, rfl, by decide, by decide, fun d d0 d1 => ?_⟩)))))
      obtain ⟨q, rfl⟩ := Int.eq_ofNat_of_zero_le d0
      have e : ((30 : Int).toNat) = 30 := rfl
      match q, d1 with
      | 0, _ => exact Rr_ixL rfl (hk (-1) (by decide +kernel))
      | 1, _ => exact Rr_ixL rfl (hk 401 (by decide +kernel))
      | 2, _ => exact Rr_ixL rfl (hk 400 (by decide +kernel))
      | 3, _ => exact Rr_ixL rfl (hk 399 (by decide +kernel))
      | 4, _ => exact Rr_ixL rfl (hk 1000 (by decide +kernel))
      | 5, _ => exact Rr_ixL rfl (hk (10 ^ (30 : Int).toNat) (by decide +kernel))
      | 6, _ => exact Rr_ixL rfl (hk (-(10 ^ (30 : Int).toNat)) (by decide +kernel))
      | 7, _ => exact Rr_ixL rfl (hk 0 (by decide +kernel))
    refine Dt_seq (Dt_set (num _ fun x hx => ?_))
    have ins : ∀ (b : List Int) (j2 : Nat), b.length + i + (ns.length - j2) ≤ 8 + (j + 1) → (∀ y ∈ b, y.natAbs ≤ 10 ^ 30 + 4000 + (j + 1)) → TmJ (j + 1) (ns.take i ++ b ++ ns.drop j2) := fun b j2 hl hb => by
      refine ⟨by rw [List.length_append, List.length_append, List.length_take, List.length_drop]; omega, fun y hy => ?_⟩
      rcases List.mem_append.mp hy with z | z
      · rcases List.mem_append.mp z with z | z
        · have := tm.2 y (List.mem_of_mem_take z); omega
        · exact hb y z
      · have := tm.2 y (List.mem_of_mem_drop z); omega
    have nxt : ∀ ns' : List Int, TmJ (j + 1) ns' → ∃ (ns2 : List Int) (t2 t3 t4 t5 : Sl), [Sl.im TC, .im (TL (TIs ns')), .im (TI p), .im (TI kd), .im (TI i), .im (TI x)] = [.im TC, .im (TL (TIs ns2)), t2, t3, t4, t5] ∧ TmJ (j + 1) ns2 := fun ns' h => ⟨ns', _, _, _, _, rfl, h⟩
    have ln : ns.length ≤ 100 := by omega
    have x1 : ∀ y ∈ [x], y.natAbs ≤ 10 ^ 30 + 4000 + (j + 1) := fun y hy => by rw [List.mem_singleton.mp hy]; omega
    refine Dt_if (Dc_test (De_op (De_var rfl (De_c (Rr_eq rfl ⟨_, rfl, fun _ => ?_, fun _ => ?_⟩)))))
    · refine Dt_set (De_dn (Dn_slice (Dl_im rfl (Do_none (Do_part (De_var rfl ⟨_, rfl, _, rfl, ?_⟩))))))
      rw [cut_take, show (TIs ns).take i = TIs (ns.take i) by rw [TIs, TIs, List.map_take]]
      exact nxt _ ⟨by rw [List.length_take]; omega, fun y hy => by have := tm.2 y (List.mem_of_mem_take hy); omega⟩
    · refine Dt_if (Dc_test (De_op (De_var rfl (De_c (Rr_eq rfl ⟨_, rfl, fun _ => ?_, fun _ => ?_⟩)))))
      · exact Dt_set (De_dn (cat _ ns i i [x] _ _ _ rfl rfl ln hi (by simp) (fun kt h => Dn_lst (Da_cons (De_var rfl (Da_nil ⟨Nat.le_of_ble_eq_true rfl, h⟩)))) (fun kt h => De_var rfl h) ⟨_, rfl, nxt _ (ins [x] i (by simp; omega) x1)⟩))
      · refine Dt_if (Dc_test (De_op (De_var rfl (De_c (Rr_eq rfl ⟨_, rfl, fun _ => ?_, fun _ => ?_⟩)))))
        · have tn : ((9 : Int) - (ns.length : Int)).toNat = 9 - ns.length := by omega
          refine Dt_set (De_dn (cat _ ns i i (List.replicate (9 - ns.length) 0) _ _ _ rfl rfl ln hi (by rw [List.length_replicate]; omega) (fun kt h => Dn_repI (Dl_dn (Dn_lst (Da_cons (De_c (Da_nil ⟨Nat.le_of_ble_eq_true rfl, _, rfl, De_op (De_c (De_len (Dl_im rfl (Rr_I0 ⟨_, rfl, by rw [List.length_map]; omega, by rw [List.length_map, tn]; simp; omega, ?_⟩))))⟩)))))) (fun kt h => De_var rfl h) ⟨_, rfl, nxt _ (ins _ i (by rw [List.length_replicate]; omega) fun y hy => by rw [List.eq_of_mem_replicate hy]; omega)⟩))
          rw [List.length_map, tn, rep_flat]
          rw [tis_rep] at h
          exact h
        · refine Dt_if (Dc_and (Dc_test (De_op (De_var rfl (De_len (Dl_im rfl (Rr_I0 ⟨_, rfl, fun z => ?_, fun z => ?_⟩)))))))
          · have z := of_decide_eq_true z
            rw [List.length_map] at z
            have hil : i < ns.length := by omega
            have i1 : ∀ (Φ : List Sl) (kt : Ty → Prop), Φ[4]? = some (.im (TI i)) → kt (TI (i + 1 : Nat)) → De A (tOp (rI0 fun i j => .int (i + j)) (tVar 4) (tC (.int 1))) Φ kt := fun Φ kt e h => De_op (De_var e (De_c (Rr_I0 h)))
            refine Dc_test (De_op (De_var rfl (De_c (Rr_eq rfl ⟨_, rfl, fun _ => ?_, fun _ => ?_⟩))))
            · exact Dt_set (De_dn (cat _ ns i (i + 1) [x] _ _ _ rfl rfl ln hi (by simp) (fun kt h => Dn_lst (Da_cons (De_var rfl (Da_nil ⟨Nat.le_of_ble_eq_true rfl, h⟩)))) (fun kt h => i1 _ _ rfl h) ⟨_, rfl, nxt _ (ins [x] (i + 1) (by simp; omega) x1)⟩))
            · refine Dt_if (Dc_test (De_op (De_var rfl (De_len (Dl_im rfl (Rr_I0 ⟨_, rfl, fun _ => ?_, fun z2 => ?_⟩))))))
              · have g : ns.getD i 0 = ns[i] := by rw [List.getD_eq_getElem?_getD, List.getElem?_eq_getElem hil]; rfl
                have b1 := tm.2 ns[i] (List.getElem_mem hil)
                exact Dt_set (De_dn (cat _ ns i (i + 1) [ns.getD i 0 + 1] _ _ _ rfl rfl ln hi (by simp) (fun kt h => Dn_lst (Da_cons (De_op (De_op (De_var rfl (De_var rfl (Rr_ixL (atI_get hil) (De_c (Rr_I0 (Da_nil ⟨Nat.le_of_ble_eq_true rfl, h⟩)))))))))) (fun kt h => i1 _ _ rfl h) ⟨_, rfl, nxt _ (ins _ (i + 1) (by simp; omega) fun y hy => by rw [List.mem_singleton.mp hy, g]; omega)⟩))
              · exact Dt_next (nxt ns tm.up)
          · have z := of_decide_eq_false z
            rw [List.length_map] at z
            refine ⟨fun z => (by cases z), fun _ => Dt_if (Dc_test (De_op (De_var rfl (De_len (Dl_im rfl (Rr_I0 ⟨_, rfl, fun z2 => ?_, fun _ => ?_⟩))))))⟩
            · have z2 := of_decide_eq_true z2
              rw [List.length_map] at z2
              exact absurd z2 z
            · exact Dt_next (nxt ns tm.up)
  · obtain ⟨ns, s2, s3, s4, s5, rfl, tm⟩ := hI
    rw [List.length_map, List.length_range] at tm
    exact Dt_ret (De_var rfl (h1 ns (tm.tame (by omega))))
end
end K08
set_option Elab.async false
set_option linter.all false
set_option maxRecDepth 100000
set_option maxHeartbeats 4000000
namespace K08
open PySem PySem.Spec PyProof.Rows L2 Wl Kx
theorem par_tm {m : Nat} {u : Int} {ns : List Int} (p : Par m u ns) (m8 : m ≤ 8) (u4 : u ≤ 403) : TmJ 0 ns := ⟨by rw [p.ln]; omega, fun x hx => by
  have h1 := p.nn x hx
  have h2 := (le_sum p.nn hx).2
  rw [p.sm] at h2
  have : (0 : Nat) ≤ 10 ^ 30 := Nat.zero_le _
  omega⟩
section
variable {P : Program} {w : World} {K : PySem.W.Frag} {mg : Str → Option Value} {base : Heap} {f : Addr} {fd : FuncData}
abbrev law_odd_N : List Str := ["pool", "m", "n", "units", "rows", "first"]
theorem law_odd_sc : FnScope ["pool", "m", "n", "units", "rows", "first"] ["pool"] (defScope law_odd_st) := ⟨rfl, rfl, rfl, by decide +kernel, rfl, by decide +kernel, by decide +kernel⟩
def S_odd : PX := fun φs k _ => φs = [TC] ∧ ∀ a b : List Int, Tame a → Tame b → k (rwT a b)
theorem ok_odd {f1 f2 f3 f4 : Addr} {fd1 fd2 fd3 fd4 : FuncData} (F : FnS K "_law_odd" law_odd_st f fd) (D_law_take : Df P w K mg base 1 "_law_take" ["pool", "limit"] (spX S_take) f1 fd1) (D_law_level : Df P w K mg base 1 "_law_level" ["units", "many"] (spX S_level) f2 fd2) (D_law_parts : Df P w K mg base 2 "_law_parts" ["pool", "units", "many"] (spX S_parts) f3 fd3) (D_law_odd_row : Df P w K mg base 2 "_law_odd_row" ["pool", "row"] (spX S_oddrow) f4 fd4) : FnOk P w K mg base (L2N.CX P w) 3 f fd ["pool"] (spX S_odd) := by
  refine F.ok law_odd_sc (fun vs H Q E h => lenX (n := 1) (fun φs k kx ⟨e, _⟩ => by rw [e]; rfl) h) (fun cdv A outer s H vs Q E hr h => ⟨_, (pss_cons (ps_set (i := 1) law_odd_sc.nd rfl (Or.inl rfl) (pe_op op_add pe_int (pe_call D_law_take.ok (hr.mono (by first | decide | omega)) rfl D_law_take.g D_law_take.kp D_law_take.b .nil ErrX.passN (pa_cons (pv 0) (pa_cons pe_int pa_nil)))))
      (pss_cons (ps_set (i := 2) law_odd_sc.nd rfl (Or.inl rfl) (pe_op op_add pe_int (pe_call D_law_take.ok (hr.mono (by first | decide | omega)) rfl D_law_take.g D_law_take.kp D_law_take.b .nil ErrX.passN (pa_cons (pv 0) (pa_cons pe_int pa_nil)))))
      (pss_cons (ps_if (pt_cmpR op_eq (pe_call D_law_take.ok (hr.mono (by first | decide | omega)) rfl D_law_take.g D_law_take.kp D_law_take.b .nil ErrX.passN (pa_cons (pv 0) (pa_cons pe_int pa_nil))) pe_int (nomark _)) (pss_cons (ps_set (i := 3) law_odd_sc.nd rfl (Or.inl rfl) (pe_ix ix_list (pe_lst (pa_cons pe_int (pa_cons pe_int (pa_cons pe_int (pa_cons pe_int (pa_cons pe_int (pa_cons pe_int (pa_cons pe_int (pa_cons pe_int pa_nil))))))))) (pe_call D_law_take.ok (hr.mono (by first | decide | omega)) rfl D_law_take.g D_law_take.kp D_law_take.b .nil ErrX.passN (pa_cons (pv 0) (pa_cons pe_int pa_nil))) (fun _ _ => rfl)))
      (pss_one (ps_set (i := 4) law_odd_sc.nd rfl (Or.inl rfl) (pe_lst (pa_cons (pe_call D_law_level.ok (hr.mono (by first | decide | omega)) rfl D_law_level.g D_law_level.kp D_law_level.b .nil ErrX.passN (pa_cons (pv 3) (pa_cons (pv 1) pa_nil))) (pa_cons (pe_call D_law_level.ok (hr.mono (by first | decide | omega)) rfl D_law_level.g D_law_level.kp D_law_level.b .nil ErrX.passN (pa_cons (pv 3) (pa_cons (pv 2) pa_nil))) pa_nil)))))) (pss_cons (ps_set (i := 3) law_odd_sc.nd rfl (Or.inl rfl) (pe_call D_law_take.ok (hr.mono (by first | decide | omega)) rfl D_law_take.g D_law_take.kp D_law_take.b .nil ErrX.passN (pa_cons (pv 0) (pa_cons pe_int pa_nil))))
      (pss_cons (ps_set (i := 4) law_odd_sc.nd rfl (Or.inl rfl) (pe_lst (pa_cons (pe_call D_law_parts.ok (hr.mono (by first | decide | omega)) rfl D_law_parts.g D_law_parts.kp D_law_parts.b .nil ErrX.passN (pa_cons (pv 0) (pa_cons (pv 3) (pa_cons (pv 1) pa_nil)))) pa_nil)))
      (pss_one (ps_expr (pe_bm PySem.F.plainAttrs_list PySem.F.slot_list_append PySem.F.type_list_append mt_append (pv 4) (pa_cons (pe_call D_law_parts.ok (hr.mono (by first | decide | omega)) rfl D_law_parts.g D_law_parts.kp D_law_parts.b .nil ErrX.passN (pa_cons (pv 0) (pa_cons (pv 3) (pa_cons (pv 2) pa_nil)))) pa_nil)))))))
      (pss_cons (ps_set (i := 5) law_odd_sc.nd rfl (Or.inl rfl) (pe_call D_law_odd_row.ok (hr.mono (by first | decide | omega)) rfl D_law_odd_row.g D_law_odd_row.kp D_law_odd_row.b .nil ErrX.passN (pa_cons (pv 0) (pa_cons (pe_ix ix_list (pv 4) pe_int (fun _ _ => rfl)) pa_nil))))
      (pss_one (ps_ret (pe_lst (pa_cons (pv 5) (pa_cons (pe_call D_law_odd_row.ok (hr.mono (by first | decide | omega)) rfl D_law_odd_row.g D_law_odd_row.kp D_law_odd_row.b .nil ErrX.passN (pa_cons (pv 0) (pa_cons (pe_ix ix_list (pv 4) pe_int (fun _ _ => rfl)) pa_nil))) pa_nil))))))))), enterX (n := 6) rfl h fun A φs k kx hS hE => ?_⟩)
  obtain ⟨rfl, h1⟩ := hS
  refine Dt_seq (Dt_set (De_op (De_c (De_callN (Da_cons (De_var rfl (Da_cons (De_c (Da_nil ⟨8, rfl, by decide, by decide, fun d d0 d1 => Rr_I0 ?_⟩)))))))))
  obtain ⟨m', rfl⟩ := Int.eq_ofNat_of_zero_le d0
  refine Dt_seq (Dt_set (De_op (De_c (De_callN (Da_cons (De_var rfl (Da_cons (De_c (Da_nil ⟨8, rfl, by decide, by decide, fun d d0 d2 => Rr_I0 ?_⟩)))))))))
  obtain ⟨n', rfl⟩ := Int.eq_ofNat_of_zero_le d0
  rw [show (1 : Int) + (m' : Int) = ((1 + m' : Nat) : Int) by omega, show (1 : Int) + (n' : Int) = ((1 + n' : Nat) : Int) by omega]
  have fin : ∀ (a b : List Int) (s3 : Sl), TmJ 0 a → TmJ 0 b → Dt A (tSeq (tAsg (tCall (spX S_oddrow) [] E0 (tCons (tVar 0) (tCons (tOp (rIxL K) (tVar 4) (tC (.int 0))) tNil))) (gName 5)) (tRet (tLst (tCons (tVar 5) (tCons (tCall (spX S_oddrow) [] E0 (tCons (tVar 0) (tCons (tOp (rIxL K) (tVar 4) (tC (.int 1))) tNil))) tNil))))) [.im TC, .im (TI (1 + m' : Nat)), .im (TI (1 + n' : Nat)), s3, .im (rwT a b), .no] ⟨fun _ => k TN, k, fun _ => False, fun _ => False⟩ := fun a b s3 ta tb => by
    refine Dt_seq (Dt_set (De_callN (Da_cons (De_var rfl (Da_cons (De_op (De_var rfl (De_c (Rr_ixL rfl (Da_nil ⟨a, rfl, ta, fun a' ta' => ?_⟩))))))))))
    refine Dt_ret (De_lst (Da_cons (De_var rfl (Da_cons (De_callN (Da_cons (De_var rfl (Da_cons (De_op (De_var rfl (De_c (Rr_ixL rfl (Da_nil ⟨b, rfl, tb, fun b' tb' => Da_nil ⟨Nat.le_of_ble_eq_true rfl, h1 a' b' ta' tb'⟩⟩)))))))))))))
  refine Dt_seq (Dt_if (Dc_test (De_op (De_callN (Da_cons (De_var rfl (Da_cons (De_c (Da_nil ⟨2, rfl, by decide, by decide, fun d _ _ => De_c (Rr_eq rfl ⟨_, rfl, fun _ => ?_, fun _ => ?_⟩)⟩)))))))))
  · refine Dt_seq (Dt_set (De_op (De_lst (Da_cons (De_c (Da_cons (De_c (Da_cons (De_c (Da_cons (De_c (Da_cons (De_c (Da_cons (De_c (Da_cons (De_c (Da_cons (De_c (Da_nil ⟨Nat.le_of_ble_eq_true rfl, ?_⟩))))))))))))))))))))
    refine De_callN (Da_cons (De_var rfl (Da_cons (De_c (Da_nil ⟨8, rfl, by decide, by decide, fun d d0 d1 => ?_⟩)))))
    obtain ⟨q, rfl⟩ := Int.eq_ofNat_of_zero_le d0
    have go : ∀ u : Nat, u ≤ 3200 → Dt A (tAsg (tLst (tCons (tCall (spX S_level) [] E0 (tCons (tVar 3) (tCons (tVar 1) tNil))) (tCons (tCall (spX S_level) [] E0 (tCons (tVar 3) (tCons (tVar 2) tNil))) tNil))) (gName 4)) [.im TC, .im (TI (1 + m' : Nat)), .im (TI (1 + n' : Nat)), .im (TI u), .no, .no] { nx := fun Φ' => Dt A (tSeq (tAsg (tCall (spX S_oddrow) [] E0 (tCons (tVar 0) (tCons (tOp (rIxL K) (tVar 4) (tC (.int 0))) tNil))) (gName 5)) (tRet (tLst (tCons (tVar 5) (tCons (tCall (spX S_oddrow) [] E0 (tCons (tVar 0) (tCons (tOp (rIxL K) (tVar 4) (tC (.int 1))) tNil))) tNil))))) Φ' ⟨fun _ => k TN, k, fun _ => False, fun _ => False⟩, rt := k } := fun u u3 => by
      refine Dt_set (De_lst (Da_cons (De_callN (Da_cons (De_var rfl (Da_cons (De_var rfl (Da_nil ⟨u, 1 + m', rfl, u3, by omega, by omega, fun a ta => ?_⟩))))))))
      refine Da_cons (De_callN (Da_cons (De_var rfl (Da_cons (De_var rfl (Da_nil ⟨u, 1 + n', rfl, u3, by omega, by omega, fun b tb => Da_nil ⟨Nat.le_of_ble_eq_true rfl, fin a b _ ta tb⟩⟩))))))
    match q, d1 with
    | 0, _ => exact Rr_ixL rfl (go 0 (by decide))
    | 1, _ => exact Rr_ixL rfl (go 1 (by decide))
    | 2, _ => exact Rr_ixL rfl (go 7 (by decide))
    | 3, _ => exact Rr_ixL rfl (go 400 (by decide))
    | 4, _ => exact Rr_ixL rfl (go 401 (by decide))
    | 5, _ => exact Rr_ixL rfl (go 402 (by decide))
    | 6, _ => exact Rr_ixL rfl (go 800 (by decide))
    | 7, _ => exact Rr_ixL rfl (go 3200 (by decide))
  · refine Dt_seq (Dt_set (De_callN (Da_cons (De_var rfl (Da_cons (De_c (Da_nil ⟨403, rfl, by decide, by decide, fun u u0 u4 => ?_⟩)))))))
    refine Dt_seq (Dt_setOw (Dn_lst (Da_cons (De_callN (Da_cons (De_var rfl (Da_cons (De_var rfl (Da_cons (De_var rfl (Da_nil ⟨u, 1 + m', rfl, u0, by omega, by omega, by omega, fun a pa => Da_nil ⟨Nat.le_of_ble_eq_true rfl, ?_⟩⟩)))))))))))
    refine Dt_append rfl (by show 1 < 1000; decide) (De_callN (Da_cons (De_var rfl (Da_cons (De_var rfl (Da_cons (De_var rfl (Da_nil ⟨u, 1 + n', rfl, u0, by omega, by omega, by omega, fun b pb => ?_⟩))))))))
    exact Dt_know 4 rfl (fin a b _ (par_tm pa (by omega) (by omega)) (par_tm pb (by omega) (by omega)))
abbrev law_text_N : List Str := ["rows", "first", "second", "x"]
theorem law_text_sc : FnScope ["rows", "first", "second", "x"] ["rows"] (defScope law_text_st) := ⟨rfl, rfl, rfl, by decide +kernel, rfl, by decide +kernel, by decide +kernel⟩
def S_text : PX := fun φs k _ => ∃ a b : List Int, φs = [rwT a b] ∧ Tame a ∧ Tame b ∧ k (TS (totS a b))
theorem ok_text (F : FnS K "_law_text" law_text_st f fd) (m_str : mg "str" = none) : FnOk P w K mg base (L2N.CX P w) 1 f fd ["rows"] (spX S_text) := by
  refine F.ok law_text_sc (fun vs H Q E h => lenX (n := 1) (fun φs k kx ⟨_, _, e, _⟩ => by rw [e]; rfl) h) (fun cdv A outer s H vs Q E hr h => ⟨_, (pss_cons (ps_set (i := 1) law_text_sc.nd rfl (Or.inl rfl) (pe_join pe_str (pe_lc (own := [("x", 3)]) rfl law_text_sc.nd (pi_list (pe_ix ix_list (pv 0) pe_int (fun _ _ => rfl))) (blkOk_by (own := [("x", 3)]) (N := law_text_N) (sc := defScope law_text_st) (by decide +kernel)) (fun _ _ _ _ _ => (pg_name (i := 3) law_text_sc.nd rfl (Or.inl rfl))) (fun _ _ _ _ _ => pts_nil) (fun _ _ _ _ _ => (pe_callTy (call_str_int : CallR _ _ rStrI) (by rfl) m_str (by decide +kernel) (pa_cons (pv 3) pa_nil))))))
      (pss_cons (ps_set (i := 2) law_text_sc.nd rfl (Or.inl rfl) (pe_join pe_str (pe_lc (own := [("x", 3)]) rfl law_text_sc.nd (pi_list (pe_ix ix_list (pv 0) pe_int (fun _ _ => rfl))) (blkOk_by (own := [("x", 3)]) (N := law_text_N) (sc := defScope law_text_st) (by decide +kernel)) (fun _ _ _ _ _ => (pg_name (i := 3) law_text_sc.nd rfl (Or.inl rfl))) (fun _ _ _ _ _ => pts_nil) (fun _ _ _ _ _ => (pe_callTy (call_str_int : CallR _ _ rStrI) (by rfl) m_str (by decide +kernel) (pa_cons (pv 3) pa_nil))))))
      (pss_one (ps_ret (pe_op op_add_str (pe_op op_add_str (pv 1) pe_str) (pv 2)))))), enterX (n := 4) rfl h fun A φs k kx hS hE => ?_⟩)
  obtain ⟨a, b, rfl, ta, tb, h1⟩ := hS
  have la := ta.1
  have lb := tb.1
  have sa := row_sum ta
  have sb := row_sum tb
  have ra := row_len ta
  have rb := row_len tb
  have e3 : (barS).length = 3 := by decide +kernel
  refine Dt_seq (Dt_set (De_join (De_c ⟨_, rfl, Dl_dn (Dn_mapL (us := [3]) a (fun x => TI x) (fun x => TS (numS x)) (by decide) (by omega) (Di_list (De_op (De_var rfl (De_c (Rr_ixL rfl ⟨_, rfl, rfl⟩))))) (fun x hx => Dg_name (De_cb (Da_cons (De_var rfl (Da_nil (Rc_strI (num_log (ta.2 x hx)) rfl)))))) ⟨_, rfl, a.map numS, by rw [List.map_map]; rfl, Nat.le_trans sa (by decide), ?_⟩)⟩)))
  refine Dt_seq (Dt_set (De_join (De_c ⟨_, rfl, Dl_dn (Dn_mapL (us := [3]) b (fun x => TI x) (fun x => TS (numS x)) (by decide) (by omega) (Di_list (De_op (De_var rfl (De_c (Rr_ixL rfl ⟨_, rfl, rfl⟩))))) (fun x hx => Dg_name (De_cb (Da_cons (De_var rfl (Da_nil (Rc_strI (num_log (tb.2 x hx)) rfl)))))) ⟨_, rfl, b.map numS, by rw [List.map_map]; rfl, Nat.le_trans sb (by decide), ?_⟩)⟩)))
  exact Dt_ret (De_op (De_op (De_var rfl (De_c (Rr_addSz (x := rowS a) (y := barS) (by omega) (De_var rfl (Rr_addSz (x := rowS a ++ barS) (y := rowS b) (by rw [app_len]; omega) h1)))))))
end
end K08
set_option Elab.async false
set_option linter.all false
set_option maxRecDepth 100000
set_option maxHeartbeats 4000000
namespace K08
open PySem PySem.Spec PyProof.Rows L2 Wl Kx
def nearS : Str := "0123456789 |"
def everyS : Str := (" !\"#$&'()*+,-./0123456789:;<=>?@ABCDEFGHIJKLMNOPQRSTUVWXYZ[\\]^_`" : Str) ++ ("abcdefghijklmnopqrstuvwxyz{|}~\n" : Str)
theorem near_at {i : Nat} (h : i < 12) : ∃ c, atI nearS.cps.toList (i : Int) = some c ∧ c < 128 := by
  have l : (TL.tl nearS).length = 12 := by decide +kernel
  have a : ∀ c ∈ TL.tl nearS, c < 128 := by decide +kernel
  have e : (TL.tl nearS)[i]? = some (TL.tl nearS)[i] := List.getElem?_eq_getElem (by omega)
  exact ⟨_, L2.atI_nat e, a _ (List.getElem_mem (by omega))⟩
theorem every_at {i : Nat} (h : i < 95) : ∃ c, atI everyS.cps.toList (i : Int) = some c ∧ c < 128 := by
  have l : (TL.tl everyS).length = 95 := by decide +kernel
  have a : ∀ c ∈ TL.tl everyS, c < 128 := by decide +kernel
  have e : (TL.tl everyS)[i]? = some (TL.tl everyS)[i] := List.getElem?_eq_getElem (by omega)
  exact ⟨_, L2.atI_nat e, a _ (List.getElem_mem (by omega))⟩
def TxJ (j : Nat) (t : Str) : Prop := Asc t ∧ t.length ≤ 700 + j
theorem asc_app {x y : Str} (hx : Asc x) (hy : Asc y) : Asc (x ++ y) := fun c hc => by
  rw [TL.tl_append] at hc
  rcases List.mem_append.mp hc with z | z
  · exact hx c z
  · exact hy c z
theorem asc_take {x : Str} (hx : Asc x) (k : Nat) : Asc (cutS x none (some (k : Int))) := fun c hc => by
  rw [cutS_take] at hc
  exact hx c (List.mem_of_mem_take hc)
theorem asc_drop {x : Str} (hx : Asc x) (k : Nat) : Asc (cutS x (some (k : Int)) none) := fun c hc => by
  rw [cutS_drop] at hc
  exact hx c (List.mem_of_mem_drop hc)
theorem len_take (x : Str) (k : Nat) : (cutS x none (some (k : Int))).length = min k x.length := by rw [TL.len_tl, cutS_take, List.length_take, ← TL.len_tl]
theorem len_drop (x : Str) (k : Nat) : (cutS x (some (k : Int)) none).length = x.length - k := by rw [TL.len_tl, cutS_drop, List.length_drop, ← TL.len_tl]
theorem asc_one {c : Nat} (h : c < 128) : Asc ⟨#[c]⟩ := fun d hd => by
  have : d = c := by simpa [TL.tl] using hd
  omega
section
variable {P : Program} {w : World} {K : PySem.W.Frag} {mg : Str → Option Value} {base : Heap} {f : Addr} {fd : FuncData}
abbrev law_spoilt_N : List Str := ["pool", "text", "near", "every", "turn", "kind", "spot", "sign"]
theorem law_spoilt_sc : FnScope ["pool", "text", "near", "every", "turn", "kind", "spot", "sign"] ["pool", "text"] (defScope law_spoilt_st) := ⟨rfl, rfl, rfl, by decide +kernel, rfl, by decide +kernel, by decide +kernel⟩
def S_spoilt : PX := fun φs k _ => ∃ t : Str, φs = [TC, TS t] ∧ TxJ 0 t ∧ ∀ t' : Str, TxJ 2 t' → k (TS t')
theorem ok_spoilt {f1 : Addr} {fd1 : FuncData} (F : FnS K "_law_spoilt" law_spoilt_st f fd) (m_range : mg "range" = none) (m_len : mg "len" = none) (D_law_take : Df P w K mg base 1 "_law_take" ["pool", "limit"] (spX S_take) f1 fd1) : FnOk P w K mg base (L2N.CX P w) 2 f fd ["pool", "text"] (spX S_spoilt) := by
  refine F.ok law_spoilt_sc (fun vs H Q E h => lenX (n := 2) (fun φs k kx ⟨_, e, _⟩ => by rw [e]; rfl) h) (fun cdv A outer s H vs Q E hr h => ⟨_, (pss_cons (ps_set (i := 2) law_spoilt_sc.nd rfl (Or.inl rfl) pe_str)
      (pss_cons (ps_set (i := 3) law_spoilt_sc.nd rfl (Or.inl rfl) pe_str)
      (pss_cons (ps_set (i := 3) law_spoilt_sc.nd rfl (Or.inl rfl) (pe_op op_add_str (pv 3) pe_str))
      (pss_cons (ps_for (passes_of rfl) rfl (pi_range1 rfl m_range (pa_cons (pe_call D_law_take.ok (hr.mono (by first | decide | omega)) rfl D_law_take.g D_law_take.kp D_law_take.b .nil ErrX.passN (pa_cons (pv 0) (pa_cons pe_int pa_nil))) pa_nil)) (pg_name (i := 4) law_spoilt_sc.nd rfl (Or.inl rfl))
      (pss_cons (ps_set (i := 5) law_spoilt_sc.nd rfl (Or.inl rfl) (pe_call D_law_take.ok (hr.mono (by first | decide | omega)) rfl D_law_take.g D_law_take.kp D_law_take.b .nil ErrX.passN (pa_cons (pv 0) (pa_cons pe_int pa_nil))))
      (pss_cons (ps_set (i := 6) law_spoilt_sc.nd rfl (Or.inl rfl) (pe_call D_law_take.ok (hr.mono (by first | decide | omega)) rfl D_law_take.g D_law_take.kp D_law_take.b .nil ErrX.passN (pa_cons (pv 0) (pa_cons (pe_op op_add (pe_callB (call_len : CallR _ _ (rLenS K)) (by rfl) m_len (by decide +kernel) (pa_cons (pv 1) pa_nil)) pe_int) pa_nil))))
      (pss_cons (ps_set (i := 7) law_spoilt_sc.nd rfl (Or.inl rfl) (pe_ix ix_str (pv 2) (pe_call D_law_take.ok (hr.mono (by first | decide | omega)) rfl D_law_take.g D_law_take.kp D_law_take.b .nil ErrX.passN (pa_cons (pv 0) (pa_cons pe_int pa_nil))) (fun _ _ => rfl)))
      (pss_cons (ps_if (pt_cmpR op_eq (pe_call D_law_take.ok (hr.mono (by first | decide | omega)) rfl D_law_take.g D_law_take.kp D_law_take.b .nil ErrX.passN (pa_cons (pv 0) (pa_cons pe_int pa_nil))) pe_int (nomark _)) (pss_one (ps_set (i := 7) law_spoilt_sc.nd rfl (Or.inl rfl) (pe_ix ix_str (pv 3) (pe_call D_law_take.ok (hr.mono (by first | decide | omega)) rfl D_law_take.g D_law_take.kp D_law_take.b .nil ErrX.passN (pa_cons (pv 0) (pa_cons pe_int pa_nil))) (fun _ _ => rfl)))) pss_nil)
      (pss_one (ps_if (pt_cmpR op_eq (pv 5) pe_int (nomark _)) (pss_one (ps_set (i := 1) law_spoilt_sc.nd rfl (Or.inl rfl) (pe_op op_add_str (pe_slice sl_str (pv 1) po_none (po_some (pv 6))) (pe_slice sl_str (pv 1) (po_some (pe_op op_add (pv 6) pe_int)) po_none)))) (pss_one (ps_if (pt_cmpR op_eq (pv 5) pe_int (nomark _)) (pss_one (ps_set (i := 1) law_spoilt_sc.nd rfl (Or.inl rfl) (pe_op op_add_str (pe_op op_add_str (pe_slice sl_str (pv 1) po_none (po_some (pv 6))) (pv 7)) (pe_slice sl_str (pv 1) (po_some (pv 6)) po_none)))) (pss_one (ps_set (i := 1) law_spoilt_sc.nd rfl (Or.inl rfl) (pe_op op_add_str (pe_op op_add_str (pe_slice sl_str (pv 1) po_none (po_some (pv 6))) (pv 7)) (pe_slice sl_str (pv 1) (po_some (pe_op op_add (pv 6) pe_int)) po_none)))))))))))))
      (pss_one (ps_ret (pv 1))))))), enterX (n := 8) rfl h fun A φs k kx hS hE => ?_⟩)
  obtain ⟨t0, rfl, tx0, h1⟩ := hS
  refine Dt_seq (Dt_set (De_c ?_))
  refine Dt_seq (Dt_set (De_c ?_))
  refine Dt_seq (Dt_set (De_op (De_var rfl (De_c (Rr_addSz (by decide +kernel) ?_)))))
  refine Dt_seq (Dt_for (us := [4]) (Di_range1 (Da_cons (De_callN (Da_cons (De_var rfl (Da_cons (De_c (Da_nil ⟨3, rfl, by decide, by decide, fun d d0 d1 => Da_nil ?_⟩)))))))))
  obtain ⟨n, rfl⟩ := Int.eq_ofNat_of_zero_le d0
  refine ⟨n, rfl, by omega, fun j Φ => ∃ (t : Str) (s4 s5 s6 s7 : Sl), Φ = [.im TC, .im (TS t), .im (TS nearS), .im (TS everyS), s4, s5, s6, s7] ∧ TxJ j t, ⟨t0, _, _, _, _, rfl, tx0⟩, fun j ψ Φ e hI => ?_, fun Φ hI => ?_⟩
  · obtain ⟨t, s4, s5, s6, s7, rfl, tx⟩ := hI
    obtain ⟨p, ep, rfl⟩ := of_map e
    have hj : j < n := by have := (List.getElem?_eq_some_iff.mp ep).1; rw [List.length_range] at this; exact this
    have tl := tx.2
    refine Dg_name ?_
    refine Dt_seq (Dt_set (De_callN (Da_cons (De_var rfl (Da_cons (De_c (Da_nil ⟨3, rfl, by decide, by decide, fun kd _ _ => ?_⟩)))))))
    refine Dt_seq (Dt_set (De_callN (Da_cons (De_var rfl (Da_cons (De_op (De_cb (Da_cons (De_var rfl (Da_nil (Rc_lenS (by omega) (De_c (Rr_I0 (Da_nil ⟨_, rfl, by omega, by omega, fun sp sp0 sp1 => ?_⟩))))))))))))))
    obtain ⟨i, rfl⟩ := Int.eq_ofNat_of_zero_le sp0
    have hi : i ≤ t.length := by omega
    refine Dt_seq (Dt_set (De_op (De_var rfl (De_callN (Da_cons (De_var rfl (Da_cons (De_c (Da_nil ⟨12, rfl, by decide, by decide, fun q q0 q1 => ?_⟩)))))))))
    obtain ⟨q, rfl⟩ := Int.eq_ofNat_of_zero_le q0
    obtain ⟨c, hc, ac⟩ := near_at (i := q) (by omega)
    refine Rr_ixS (by decide +kernel) hc ?_
    have i1 : ∀ (Φ : List Sl) (kt : Ty → Prop), Φ[6]? = some (.im (TI i)) → kt (TI (i + 1 : Nat)) → De A (tOp (rI0 fun i j => .int (i + j)) (tVar 6) (tC (.int 1))) Φ kt := fun Φ kt e h => De_op (De_var e (De_c (Rr_I0 h)))
    have lt := len_take t i
    have rest : ∀ (c : Nat) (O : Out), c < 128 → (∀ t', TxJ (j + 1) t' → O.nx [.im TC, .im (TS t'), .im (TS nearS), .im (TS everyS), .im (TI p), .im (TI kd), .im (TI i), .im (T1 c)]) → Dt A (tIfS (tTest (tOp rEq (tVar 5) (tC (.int 0)))) (tAsg (tOp rAddS (tSl rSlS (tVar 1) tNoPart (tPart (tVar 6))) (tSl rSlS (tVar 1) (tPart (tOp (rI0 fun i j => .int (i + j)) (tVar 6) (tC (.int 1)))) tNoPart)) (gName 1)) (tIfS (tTest (tOp rEq (tVar 5) (tC (.int 1)))) (tAsg (tOp rAddS (tOp rAddS (tSl rSlS (tVar 1) tNoPart (tPart (tVar 6))) (tVar 7)) (tSl rSlS (tVar 1) (tPart (tVar 6)) tNoPart)) (gName 1)) (tAsg (tOp rAddS (tOp rAddS (tSl rSlS (tVar 1) tNoPart (tPart (tVar 6))) (tVar 7)) (tSl rSlS (tVar 1) (tPart (tOp (rI0 fun i j => .int (i + j)) (tVar 6) (tC (.int 1)))) tNoPart)) (gName 1)))) [.im TC, .im (TS t), .im (TS nearS), .im (TS everyS), .im (TI p), .im (TI kd), .im (TI i), .im (T1 c)]
        O := fun c O ac nxt => by
      have l1 : (⟨#[c]⟩ : Str).length = 1 := rfl
      have ld := len_drop t i
      have ld1 := len_drop t (i + 1)
      refine Dt_if (Dc_test (De_op (De_var rfl (De_c (Rr_eq rfl ⟨_, rfl, fun _ => ?_, fun _ => ?_⟩)))))
      · refine Dt_set (De_op (De_slS (De_var rfl ⟨t, rfl, by omega, Do_none (Do_part (De_var rfl ⟨_, rfl, ?_⟩))⟩)))
        refine De_slS (De_var rfl ⟨t, rfl, by omega, Do_part (i1 _ _ rfl ⟨_, rfl, Do_none (Rr_addSz (by rw [lt, ld1]; omega) ?_)⟩)⟩)
        exact nxt _ ⟨asc_app (asc_take tx.1 i) (asc_drop tx.1 (i + 1)), by rw [app_len, lt, ld1]; omega⟩
      refine Dt_if (Dc_test (De_op (De_var rfl (De_c (Rr_eq rfl ⟨_, rfl, fun _ => ?_, fun _ => ?_⟩)))))
      · refine Dt_set (De_op (De_op (De_slS (De_var rfl ⟨t, rfl, by omega, Do_none (Do_part (De_var rfl ⟨_, rfl, De_var rfl (Rr_addSz (by rw [lt, l1]; omega) ?_)⟩))⟩))))
        refine De_slS (De_var rfl ⟨t, rfl, by omega, Do_part (De_var rfl ⟨_, rfl, Do_none (Rr_addSz (by rw [app_len, lt, ld, l1]; omega) ?_)⟩)⟩)
        exact nxt _ ⟨asc_app (asc_app (asc_take tx.1 i) (asc_one ac)) (asc_drop tx.1 i), by rw [app_len, app_len, lt, ld, l1]; omega⟩
      · refine Dt_set (De_op (De_op (De_slS (De_var rfl ⟨t, rfl, by omega, Do_none (Do_part (De_var rfl ⟨_, rfl, De_var rfl (Rr_addSz (by rw [lt, l1]; omega) ?_)⟩))⟩))))
        refine De_slS (De_var rfl ⟨t, rfl, by omega, Do_part (i1 _ _ rfl ⟨_, rfl, Do_none (Rr_addSz (by rw [app_len, lt, ld1, l1]; omega) ?_)⟩)⟩)
        exact nxt _ ⟨asc_app (asc_app (asc_take tx.1 i) (asc_one ac)) (asc_drop tx.1 (i + 1)), by rw [app_len, app_len, lt, ld1, l1]; omega⟩
    refine Dt_seq (Dt_if (Dc_test (De_op (De_callN (Da_cons (De_var rfl (Da_cons (De_c (Da_nil ⟨3, rfl, by decide, by decide, fun _ _ _ => De_c (Rr_eq rfl ⟨_, rfl, fun _ => ?_, fun _ => Dt_next (rest c _ ac fun t' h => ⟨t', _, _, _, _, rfl, h⟩)⟩)⟩)))))))))
    refine Dt_set (De_op (De_var rfl (De_callN (Da_cons (De_var rfl (Da_cons (De_c (Da_nil ⟨95, rfl, by decide, by decide, fun r r0 r1 => ?_⟩))))))))
    obtain ⟨r, rfl⟩ := Int.eq_ofNat_of_zero_le r0
    obtain ⟨c2, hc2, ac2⟩ := every_at (i := r) (by omega)
    exact Rr_ixS (by decide +kernel) hc2 (rest c2 _ ac2 fun t' h => ⟨t', _, _, _, _, rfl, h⟩)
  · obtain ⟨t, s4, s5, s6, s7, rfl, tx⟩ := hI
    rw [List.length_map, List.length_range] at tx
    exact Dt_ret (De_var rfl (h1 t ⟨tx.1, by have := tx.2; omega⟩))
/-! ### _law_sides -/
def soT : Option (List Int × List Int) → Ty
  | none => TN
  | some (a, b) => rwT a b
theorem good_no {t w : Str} {ws : List Str} (h1 : ws ∈ sidesW t) (h2 : w ∈ ws) (h : good w = false) : sidesOf t = none := okT_no (by
  unfold okT
  have : ((sidesW t).flatMap id).all good = false := by
    rw [List.all_eq_false]
    exact ⟨w, List.mem_flatMap.mpr ⟨ws, h1, h2⟩, by rw [h]; decide⟩
  rw [this, Bool.and_false])
abbrev law_sides_N : List Str := ["text", "sides", "rows", "side", "row", "word"]
theorem law_sides_sc : FnScope ["text", "sides", "rows", "side", "row", "word"] ["text"] (defScope law_sides_st) := ⟨rfl, rfl, rfl, by decide +kernel, rfl, by decide +kernel, by decide +kernel⟩
def S_sides : PX := fun φs k _ => ∃ t : Str, φs = [TS t] ∧ TxJ 200 t ∧ k (soT (sidesOf t))
theorem ok_sides (F : FnS K "_law_sides" law_sides_st f fd) (m_len : mg "len" = none) (m_int : mg "int" = none) : FnOk P w K mg base (L2N.CX P w) 1 f fd ["text"] (spX S_sides) := by
  refine F.ok law_sides_sc (fun vs H Q E h => lenX (n := 1) (fun φs k kx ⟨_, e, _⟩ => by rw [e]; rfl) h) (fun cdv A outer s H vs Q E hr h => ⟨_, (pss_cons (ps_set (i := 1) law_sides_sc.nd rfl (Or.inl rfl) (pe_split (pv 0) pe_str))
      (pss_cons (ps_if (pt_cmpR op_ne (pe_callB call_len_seq (by rfl) m_len (by decide +kernel) (pa_cons (pv 1) pa_nil)) pe_int (nomark _)) (pss_one (ps_ret pe_non)) pss_nil)
      (pss_cons (ps_set (i := 2) law_sides_sc.nd rfl (Or.inl rfl) (pe_lst pa_nil))
      (pss_cons (ps_for (passes_of rfl) rfl (pi_list (pv 1)) (pg_name (i := 3) law_sides_sc.nd rfl (Or.inl rfl))
      (pss_cons (ps_set (i := 4) law_sides_sc.nd rfl (Or.inl rfl) (pe_lst pa_nil))
      (pss_cons (ps_for (passes_of rfl) rfl (pi_list (pe_split (pv 3) pe_str)) (pg_name (i := 5) law_sides_sc.nd rfl (Or.inl rfl))
      (pss_cons (ps_if (PW.pt (pw_or (pt_not (pt_val (pe_m0 PySem.F.slot_str_isdigit PySem.F.type_str_isdigit mt_isdigit (pv 5)))) (pw_or (pt_cmpR op_gt (pe_callB (call_len : CallR _ _ (rLenS K)) (by rfl) m_len (by decide +kernel) (pa_cons (pv 5) pa_nil)) pe_int (nomark _)) (pw_or1 (PW.pt (pw_and (pt_cmpR op_gt (pe_callB (call_len : CallR _ _ (rLenS K)) (by rfl) m_len (by decide +kernel) (pa_cons (pv 5) pa_nil)) pe_int (nomark _)) (pw_and1 (pt_cmpR op_eq (pe_ix ix_str (pv 5) pe_int (fun _ _ => rfl)) pe_str (nomark _))))))))) (pss_one (ps_ret pe_non)) pss_nil)
      (pss_one (ps_expr (pe_bm PySem.F.plainAttrs_list PySem.F.slot_list_append PySem.F.type_list_append mt_append (pv 4) (pa_cons (pe_callTy (call_int_str : CallR _ _ rIntS) (by rfl) m_int (by decide +kernel) (pa_cons (pv 5) pa_nil)) pa_nil))))))
      (pss_one (ps_expr (pe_bm PySem.F.plainAttrs_list PySem.F.slot_list_append PySem.F.type_list_append mt_append (pv 2) (pa_cons (pv 4) pa_nil)))))))
      (pss_one (ps_ret (pv 2))))))), enterX (n := 6) rfl h fun A φs k kx hS hE => ?_⟩)
  obtain ⟨t, rfl, tx, h1⟩ := hS
  have tl := tx.2
  have few := sides_few t
  refine Dt_seq (Dt_set (De_dn (Dn_split (De_var rfl ⟨_, rfl, De_c ⟨_, rfl, by decide +kernel, by omega, _, rfl, ?_⟩⟩))))
  have lw : (sidesW t).length = (Txt.split t barS).length := by unfold sidesW; rw [List.length_map]
  refine Dt_seq (Dt_if (Dc_test (De_op (De_len (Dl_im rfl (De_c (Rr_ne rfl ⟨_, rfl, br_ndec (fun z => ?_) fun z => ?_⟩)))))))
  · have z : ¬ (sidesW t).length = 2 := fun q => z (congrArg V.int (by rw [List.length_map]; show ((Txt.split t barS).length : Int) = 2; omega))
    have : sidesOf t = none := okT_no (by unfold okT; simp [z])
    rw [this] at h1
    exact Dt_ret (De_c h1)
  have z : (sidesW t).length = 2 := by
    have z := V.int.inj z
    rw [List.length_map] at z
    have z : ((Txt.split t barS).length : Int) = 2 := z
    omega
  refine Dt_next (Dt_seq (Dt_setOw (Dn_lst (Da_nil ⟨Nat.zero_le _, ?_⟩))))
  refine Dt_seq (Dt_forI [3] (ψs := (Txt.split t barS).map TS) (fun j Φ => ∃ (s3 s4 s5 : Sl), Φ = [.im (TS t), .im (TL ((Txt.split t barS).map TS)), .ow (CL (((sidesW t).take j).map fun ws => TL (TIs (ws.map wv)))), s3, s4, s5] ∧ ∀ ws ∈ (sidesW t).take j, ws.all good = true) (Di_list (De_var rfl ⟨_, rfl, rfl⟩)) ⟨_, _, _, rfl, fun _ h => nomatch h⟩ (fun j ψ Φ e hI => ?_) fun Φ hI => ?_)
  · obtain ⟨s3, s4, s5, rfl, ag⟩ := hI
    obtain ⟨sd, es, rfl⟩ := of_map e
    have hj : j < (sidesW t).length := by rw [lw]; exact (List.getElem?_eq_some_iff.mp es).1
    have ew : (sidesW t)[j]? = some (Txt.split sd spS) := by unfold sidesW; rw [List.getElem?_map, es]; rfl
    have ms : sd ∈ Txt.split t barS := List.mem_of_getElem? es
    have mw : Txt.split sd spS ∈ sidesW t := List.mem_of_getElem? ew
    have asd : Asc sd := split_asc (split_bar t) tx.1 sd ms
    have lsd := side_short ms
    have w1 := words1 (s := sd)
    refine Dg_name (Dt_seq (Dt_setOw (Dn_lst (Da_nil ⟨Nat.zero_le _, ?_⟩))))
    refine Dt_seq (Dt_forI [5] (ψs := (Txt.split sd spS).map TS) (fun i Φ => ∃ (s5 : Sl), Φ = [.im (TS t), .im (TL ((Txt.split t barS).map TS)), .ow (CL (((sidesW t).take j).map fun ws => TL (TIs (ws.map wv)))), .im (TS sd), .ow (CL (TIs (((Txt.split sd spS).take i).map wv))), s5] ∧ ((Txt.split sd spS).take i).all good = true) (Di_list (De_dn (Dn_split (De_var rfl ⟨_, rfl, De_c ⟨_, rfl, by decide +kernel, by omega, _, rfl, _, rfl, rfl⟩⟩)))) ⟨_, rfl, rfl⟩ (fun i ψ Φ e hI => ?_) fun Φ hI => ?_)
    · obtain ⟨s5, rfl, al⟩ := hI
      obtain ⟨wd, ewd, rfl⟩ := of_map e
      have hi : i < (Txt.split sd spS).length := (List.getElem?_eq_some_iff.mp ewd).1
      have mwd : wd ∈ Txt.split sd spS := List.mem_of_getElem? ewd
      have awd : Asc wd := split_asc (split_sp sd) asd wd mwd
      have lwd := word_short mwd
      have out : good wd = false → k TN := fun hb => by
        rw [good_no mw mwd hb] at h1
        exact h1
      have yes : ∀ (O : Out), good wd = true → (((Txt.split sd spS).take (i + 1)).all good = true → O.nx [.im (TS t), .im (TL ((Txt.split t barS).map TS)), .ow (CL (((sidesW t).take j).map fun ws => TL (TIs (ws.map wv)))), .im (TS sd), .ow (CL (TIs (((Txt.split sd spS).take (i + 1)).map wv))), .im (TS wd)]) → Dt A (tDrop (tBM K "list" rAppend (tVar 4) (tCons (tCB rIntS (tCons (tVar 5) tNil)) tNil))) [.im (TS t), .im (TL ((Txt.split t barS).map TS)), .ow (CL (((sidesW t).take j).map fun ws => TL (TIs (ws.map wv)))), .im (TS sd), .ow (CL (TIs (((Txt.split sd spS).take i).map wv))), .im (TS wd)] O := fun O hb hO => by
        obtain ⟨g1, g2⟩ := good_int hb
        refine Dt_append rfl (by rw [List.length_map, List.length_map, List.length_take]; omega) (De_cb (Da_cons (De_var rfl (Da_nil (Rc_intS g1 g2 ?_)))))
        have tk : (Txt.split sd spS).take (i + 1) = (Txt.split sd spS).take i ++ [wd] := by rw [List.take_add_one, ewd]; rfl
        have := hO (by rw [tk, List.all_append, al]; simp [hb])
        rw [tk, List.map_append, TIs, List.map_append] at this
        exact this
      have dg := isdigit_asc awd
      refine Dg_name (Dt_seq (Dt_if (Dc_or (Dc_not (Dc_test (De_isdigit (De_var rfl ⟨wd, rfl, _, rfl, fun z => ?_, fun z => ?_⟩)))))))
      · refine br_t (Dt_ret (De_c (out ?_))) --nb
        · (
          rw [dg] at z
          rw [good_eq]
          cases e1 : (TL.tl wd).all isD with
          | false => simp
          | true =>
            rw [e1] at z
            have : ¬ 1 ≤ wd.length := by simpa using z
            simp [this])
      · have z : Txt.isdigit wd = true := by simpa using z
        rw [dg] at z
        obtain ⟨z1, z2⟩ := Bool.and_eq_true_iff.mp z
        have z1 := of_decide_eq_true z1
        obtain ⟨c, hc, ha⟩ := head_at z1
        refine Dc_or (Dc_test (De_op (De_cb (Da_cons (De_var rfl (Da_nil (Rc_lenS (by omega) (De_c (Rr_I0 ⟨_, rfl, fun y => ?_, fun y => ?_⟩)))))))))
        · have y := of_decide_eq_true y
          exact br_t (Dt_ret (De_c (out (by rw [good_eq]; simp [show ¬ wd.length ≤ 3 by omega]))))
        · have y := of_decide_eq_false y
          have y3 : wd.length ≤ 3 := by omega
          refine Dc_and (Dc_test (De_op (De_cb (Da_cons (De_var rfl (Da_nil (Rc_lenS (by omega) (De_c (Rr_I0 ⟨_, rfl, fun x => ?_, fun x => ?_⟩)))))))))
          · have x := of_decide_eq_true x
            have x1 : ¬ wd.length = 1 := by omega
            refine Dc_test (De_op (De_op (De_var rfl (De_c (Rr_ixS (by show _ ≤ 2 ^ 24; omega) ha (De_c (Rr_eq rfl ⟨_, rfl, fun u => ?_, fun u => ?_⟩)))))))
            · have u := sign_zero.mp (V.str.inj (of_decide_eq_true u))
              subst u
              exact Dt_ret (De_c (out (by rw [good_eq, hc]; simp [x1])))
            · have u : ¬ c = 48 := fun q => absurd (congrArg V.str (sign_zero.mpr q)) (of_decide_eq_false u)
              exact Dt_next (yes _ (by rw [good_eq, hc, z2]; simp [z1, y3, u]) fun h => ⟨_, rfl, h⟩)
          · have x := of_decide_eq_false x
            have x1 : wd.length = 1 := by omega
            refine ⟨fun q => (by cases q), fun _ => Dt_next (yes _ (by rw [good_eq, z2]; simp [x1]) fun h => ⟨_, rfl, h⟩)⟩
    · obtain ⟨s5, rfl, al⟩ := hI
      rw [List.length_map, List.take_length] at al
      rw [List.length_map, List.take_length]
      refine Dt_know 4 rfl (Dt_append rfl (by rw [List.length_map, List.length_take]; omega) (De_var rfl ?_))
      have tk : (sidesW t).take (j + 1) = (sidesW t).take j ++ [Txt.split sd spS] := by rw [List.take_add_one, ew]; rfl
      refine ⟨.im (TS sd), .im (TL (TIs ((Txt.split sd spS).map wv))), s5, ?_, fun ws hws => ?_⟩
      · rw [tk, List.map_append]
        rfl
      · rw [tk] at hws
        rcases List.mem_append.mp hws with q | q
        · exact ag ws q
        · rw [List.mem_singleton.mp q]; exact al
  · obtain ⟨s3, s4, s5, rfl, ag⟩ := hI
    have e2 : (List.map TS (Txt.split t barS)).length = (sidesW t).length := by rw [List.length_map, lw]
    rw [e2, List.take_length] at ag ⊢
    obtain ⟨p, q, e⟩ : ∃ p q, sidesW t = [p, q] := by
      match sidesW t, z with
      | [p, q], _ => exact ⟨p, q, rfl⟩
    have so : sidesOf t = some (p.map wv, q.map wv) := by
      unfold sidesOf
      rw [e]
      simp only [ag p (by rw [e]; simp), ag q (by rw [e]; simp), Bool.and_self, if_true]
    rw [so] at h1
    rw [e]
    exact Dt_retOw rfl h1
end
end K08
set_option Elab.async false
set_option linter.all false
set_option maxRecDepth 100000
set_option maxHeartbeats 4000000
namespace K08
open PySem PySem.Spec PyProof.Rows L2 Wl Kx
section
variable {P : Program} {w : World} {K : PySem.W.Frag} {mg : Str → Option Value} {base : Heap} {f : Addr} {fd : FuncData}
/-- ('refused', name, [n]) -/
theorem De_ref {A : Wd × Hp} {Φ : List Sl} {k : Ty → Prop} {te : TE} {nm : Str} (h : De A te Φ fun φ => ∃ x, φ = TV x ∧ k (refT nm [x])) : De A (tTup (tCons (tC (.str "refused")) (tCons (tC (.str nm)) (tCons (tLst (tCons te tNil)) tNil)))) Φ k :=
  De_tup (Da_cons (De_c (Da_cons (De_c (Da_cons (De_lst (Da_cons (h.mono fun φ ⟨x, e, hk⟩ => by subst e; exact Da_nil ⟨Nat.le_of_ble_eq_true rfl, Da_nil ⟨Nat.le_of_ble_eq_true rfl, hk⟩⟩))))))))
theorem De_ref2 {A : Wd × Hp} {Φ : List Sl} {k : Ty → Prop} {te te2 : TE} {nm : Str} (h : De A te Φ fun φ => De A te2 Φ fun ψ => ∃ x y, φ = TV x ∧ ψ = TV y ∧ k (refT nm [x, y])) : De A (tTup (tCons (tC (.str "refused")) (tCons (tC (.str nm)) (tCons (tLst (tCons te (tCons te2 tNil))) tNil)))) Φ k :=
  De_tup (Da_cons (De_c (Da_cons (De_c (Da_cons (De_lst (Da_cons (h.mono fun φ h2 => Da_cons (h2.mono fun ψ ⟨x, y, e, e2, hk⟩ => by subst e e2; exact Da_nil ⟨Nat.le_of_ble_eq_true rfl, Da_nil ⟨Nat.le_of_ble_eq_true rfl, hk⟩⟩)))))))))
/-! ### _law_due -/
abbrev law_due_N : List Str := ["first", "second", "row", "number"]
theorem law_due_sc : FnScope ["first", "second", "row", "number"] ["first", "second"] (defScope law_due_st) := ⟨rfl, rfl, rfl, by decide +kernel, rfl, by decide +kernel, by decide +kernel⟩
def S_due : PX := fun φs k _ => ∃ a b : List Int, φs = [TL (TIs a), TL (TIs b)] ∧ k (makeDue a b).T
theorem ok_due (F : FnS K "_law_due" law_due_st f fd) (m_len : mg "len" = none) (m_sum : mg "sum" = none) (m_list : mg "list" = none) : FnOk P w K mg base (L2N.CX P w) 1 f fd ["first", "second"] (spX S_due) := by
  refine F.ok law_due_sc (fun vs H Q E h => lenX (n := 2) (fun φs k kx ⟨_, _, e, _⟩ => by rw [e]; rfl) h) (fun cdv A outer s H vs Q E hr h => ⟨_, (pss_cons (ps_for (passes_of rfl) rfl (pi_list (pe_lst (pa_cons (pv 0) (pa_cons (pv 1) pa_nil)))) (pg_name (i := 2) law_due_sc.nd rfl (Or.inl rfl))
      (pss_cons (ps_if (pt_not (pt_chain op_le op_le pe_int (pe_callB call_len_seq (by rfl) m_len (by decide +kernel) (pa_cons (pv 2) pa_nil)) pe_int)) (pss_one (ps_ret (pe_tup (pa_cons pe_str (pa_cons pe_str (pa_cons (pe_lst (pa_cons (pe_callB call_len_seq (by rfl) m_len (by decide +kernel) (pa_cons (pv 2) pa_nil)) pa_nil)) pa_nil)))))) pss_nil)
      (pss_one (ps_for (passes_of rfl) rfl (pi_list (pv 2)) (pg_name (i := 3) law_due_sc.nd rfl (Or.inl rfl))
      (pss_one (ps_if (pt_not (pt_chain op_le op_le pe_int (pv 3) pe_int)) (pss_one (ps_ret (pe_tup (pa_cons pe_str (pa_cons pe_str (pa_cons (pe_lst (pa_cons (pv 3) pa_nil)) pa_nil)))))) pss_nil))))))
      (pss_cons (ps_if (pt_cmpR op_ne (pe_callB (EnT.cr_sumE rfl) (by rfl) m_sum (by decide +kernel) (pa_cons (pv 0) pa_nil)) (pe_callB (EnT.cr_sumE rfl) (by rfl) m_sum (by decide +kernel) (pa_cons (pv 1) pa_nil)) (nomark _)) (pss_one (ps_ret (pe_tup (pa_cons pe_str (pa_cons pe_str (pa_cons (pe_lst (pa_cons (pe_callB (EnT.cr_sumE rfl) (by rfl) m_sum (by decide +kernel) (pa_cons (pv 0) pa_nil)) (pa_cons (pe_callB (EnT.cr_sumE rfl) (by rfl) m_sum (by decide +kernel) (pa_cons (pv 1) pa_nil)) pa_nil))) pa_nil)))))) pss_nil)
      (pss_cons (ps_if (pt_cmpR op_gt (pe_callB (EnT.cr_sumE rfl) (by rfl) m_sum (by decide +kernel) (pa_cons (pv 0) pa_nil)) pe_int (nomark _)) (pss_one (ps_ret (pe_tup (pa_cons pe_str (pa_cons pe_str (pa_cons (pe_lst (pa_cons pe_int pa_nil)) pa_nil)))))) pss_nil)
      (pss_one (ps_ret (pe_tup (pa_cons pe_str (pa_cons (pe_callTy call_list_of (by rfl) m_list (by decide +kernel) (pa_cons (pv 0) pa_nil)) (pa_cons (pe_callTy call_list_of (by rfl) m_list (by decide +kernel) (pa_cons (pv 1) pa_nil)) pa_nil))))))))), enterX (n := 4) rfl h fun A φs k kx hS hE => ?_⟩)
  obtain ⟨a, b, rfl, h1⟩ := hS
  have row : ∀ (ns : List Int) (s3 : Sl) (O : Out), (∀ d, rowDue ns = some d → O.rt d.T) → (rowDue ns = none → ∀ s, O.nx [.im (TL (TIs a)), .im (TL (TIs b)), .im (TL (TIs ns)), s]) →
      Dt A (tSeq (tIfS (tNot (tTest (tChain (rI0 fun i j => .bl (decide (i ≤ j))) (rI0 fun i j => .bl (decide (i ≤ j))) (tC (.int 1)) (tCB (rLenK K) (tCons (tVar 2) tNil)) (tC (.int 8))))) (tRet (tTup (tCons (tC (.str "refused")) (tCons (tC (.str "BadSize")) (tCons (tLst (tCons (tCB (rLenK K) (tCons (tVar 2) tNil)) tNil)) tNil))))) tNext) (tFor (iList K (tVar 2)) (gName 3) (tIfS (tNot (tTest (tChain (rI0 fun i j => .bl (decide (i ≤ j))) (rI0 fun i j => .bl (decide (i ≤ j))) (tC (.int 0)) (tVar 3) (tC (.int 400))))) (tRet (tTup (tCons (tC (.str "refused")) (tCons (tC (.str "BadCount")) (tCons (tLst (tCons (tVar 3) tNil)) tNil))))) tNext)))
        [.im (TL (TIs a)), .im (TL (TIs b)), .im (TL (TIs ns)), s3] O := fun ns s3 O hr hn => by
    have sz1 : ¬ lens ns → O.rt (refT "BadSize" [.int ns.length]) := fun z => hr (.ref .siz [.int ns.length]) (by unfold rowDue; rw [if_neg z])
    have lenE : ∀ (kk : Ty → Prop), kk (TI ns.length) → De A (tCB (rLenK K) (tCons (tVar 2) tNil)) [.im (TL (TIs a)), .im (TL (TIs b)), .im (TL (TIs ns)), s3] kk := fun kk h => by
      refine De_len (Dl_im rfl ?_)
      rw [List.length_map]
      exact h
    have bad_ : ¬ lens ns → Dt A (tRet (tTup (tCons (tC (.str "refused")) (tCons (tC (.str "BadSize")) (tCons (tLst (tCons (tCB (rLenK K) (tCons (tVar 2) tNil)) tNil)) tNil))))) [.im (TL (TIs a)), .im (TL (TIs b)), .im (TL (TIs ns)), s3] { O with nx := fun Φ' => Dt A (tFor (iList K (tVar 2)) (gName 3) (tIfS (tNot (tTest (tChain (rI0 fun i j => .bl (decide (i ≤ j))) (rI0 fun i j => .bl (decide (i ≤ j))) (tC (.int 0)) (tVar 3) (tC (.int 400))))) (tRet (tTup (tCons (tC (.str "refused")) (tCons (tC (.str "BadCount")) (tCons (tLst (tCons (tVar 3) tNil)) tNil))))) tNext)) Φ' O } := fun z => Dt_ret (De_ref (lenE _ ⟨_, rfl, sz1 z⟩))
    refine Dt_seq (Dt_if (Dc_not (Dc_test (De_chain (De_c (lenE _ (Rr_I0 ⟨_, rfl, fun z1 => De_c (Rr_I0 ⟨_, rfl, br_b (fun z => ?_) fun z => ?_⟩), fun z1 => ⟨_, rfl, br_nf (bad_ (fun q => by have := of_decide_eq_false z1; unfold lens at q; omega))⟩⟩)))))))
    · have z2 : ¬ ((ns.length : Int) ≤ 8) := by simpa using z
      exact bad_ (fun q => by unfold lens at q; omega)
    · have z1 := of_decide_eq_true z1
      have z2 : ((ns.length : Int) ≤ 8) := by simpa using z
      have ln : lens ns := by unfold lens; omega
      refine Dt_next (Dt_forI [3] (ψs := TIs ns) (fun j Φ => (∃ s, Φ = [.im (TL (TIs a)), .im (TL (TIs b)), .im (TL (TIs ns)), s]) ∧ bad 0 400 (ns.take j) = none) (Di_list (De_var rfl ⟨_, rfl, rfl⟩)) ⟨⟨_, rfl⟩, rfl⟩ (fun j ψ Φ e hI => ?_) fun Φ hI => ?_)
      · obtain ⟨⟨s, rfl⟩, hb⟩ := hI
        obtain ⟨x, en, rfl⟩ := of_map e
        have ret : ¬ (0 ≤ x ∧ x ≤ 400) → O.rt (refT "BadCount" [.int x]) := fun g => hr (.ref .cnt [.int x]) (by
          unfold rowDue
          rw [if_pos ln, bad_at hb en g]
          rfl)
        refine Dg_name ?_
        refine Dt_if (Dc_not (Dc_test (De_chain (De_c (De_var rfl (Rr_I0 ⟨_, rfl, fun z1 => De_c (Rr_I0 ⟨_, rfl, br_b (fun z => ?_) fun z => ?_⟩), fun z1 => ⟨_, rfl, br_nf (Dt_ret (De_ref (De_var rfl ⟨_, rfl, ret (fun q => by have := of_decide_eq_false z1; omega)⟩)))⟩⟩))))))
        · have z2 : ¬ (x ≤ 400) := by simpa using z
          exact Dt_ret (De_ref (De_var rfl ⟨_, rfl, ret (fun q => by omega)⟩))
        · have z1 := of_decide_eq_true z1
          have z2 : (x ≤ 400) := by simpa using z
          exact Dt_next ⟨⟨_, rfl⟩, bad_take hb en ⟨z1, z2⟩⟩
      · obtain ⟨⟨s, rfl⟩, hb⟩ := hI
        rw [List.length_map, List.take_length] at hb
        exact hn (by unfold rowDue; rw [if_pos ln, hb]; rfl) s
  have orA : ∀ d, rowDue a = some d → makeDue a b = d := fun d hd => by unfold makeDue; rw [hd]; rfl
  have orB : rowDue a = none → ∀ d, rowDue b = some d → makeDue a b = d := fun ha d hd => by unfold makeDue; rw [ha, hd]; rfl
  have orE : rowDue a = none → rowDue b = none → makeDue a b = endDue a b := fun ha hb => by unfold makeDue; rw [ha, hb]; rfl
  refine Dt_seq (Dt_forI (ψs := [TL (TIs a), TL (TIs b)]) [2] (fun j Φ => ∃ s2 s3, Φ = [.im (TL (TIs a)), .im (TL (TIs b)), s2, s3] ∧ (0 < j → rowDue a = none) ∧ (1 < j → rowDue b = none)) (Di_list (De_lst (Da_cons (De_var rfl (Da_cons (De_var rfl (Da_nil ⟨Nat.le_of_ble_eq_true rfl, _, rfl, rfl⟩))))))) ⟨_, _, rfl, fun z => by omega, fun z => by omega⟩ (fun j ψ Φ e hI => ?_) fun Φ hI => ?_)
  · obtain ⟨s2, s3, rfl, i1, i2⟩ := hI
    refine Dg_name ?_
    match j, e with
    | 0, e =>
      cases e
      exact row a _ _ (fun d hd => by rw [orA d hd] at h1; exact h1) fun hn s => ⟨_, _, rfl, fun _ => hn, fun z => by omega⟩
    | 1, e =>
      cases e
      have ha := i1 (by omega)
      exact row b _ _ (fun d hd => by rw [orB ha d hd] at h1; exact h1) fun hn s => ⟨_, _, rfl, fun _ => ha, fun _ => hn⟩
  · obtain ⟨s2, s3, rfl, i1, i2⟩ := hI
    rw [orE (i1 (by show 0 < 2; decide)) (i2 (by show 1 < 2; decide))] at h1
    unfold endDue at h1
    have sA : ∀ (kk : Ty → Prop), kk (TI a.sum) → De A (tCB (EnT.rSumE K) (tCons (tVar 0) tNil)) [.im (TL (TIs a)), .im (TL (TIs b)), s2, s3] kk := fun kk h => De_sumL (Dl_im rfl ⟨rfl, h⟩)
    have sB : ∀ (kk : Ty → Prop), kk (TI b.sum) → De A (tCB (EnT.rSumE K) (tCons (tVar 1) tNil)) [.im (TL (TIs a)), .im (TL (TIs b)), s2, s3] kk := fun kk h => De_sumL (Dl_im rfl ⟨rfl, h⟩)
    refine Dt_seq (Dt_if (Dc_test (De_op (sA _ (sB _ (Rr_ne rfl ⟨_, rfl, br_ndec (fun z => ?_) fun z => ?_⟩))))))
    · rw [if_neg (fun q => z (congrArg V.int q))] at h1
      exact Dt_ret (De_ref2 (sA _ (sB _ ⟨_, _, rfl, rfl, h1⟩)))
    · rw [if_pos (V.int.inj z)] at h1
      refine Dt_next (Dt_seq (Dt_if (Dc_test (De_op (sA _ (De_c (Rr_I0 ⟨_, rfl, fun z4 => ?_, fun z4 => Dt_next ?_⟩)))))))
      · have z4 := of_decide_eq_true z4
        rw [if_neg (by omega)] at h1
        exact Dt_ret (De_ref (De_c ⟨_, rfl, h1⟩))
      · have z4 := of_decide_eq_false z4
        rw [if_pos (by omega)] at h1
        exact Dt_ret (De_tup (Da_cons (De_c (Da_cons (De_dn (Dn_listL (Dl_im rfl ⟨_, rfl, Da_cons (De_dn (Dn_listL (Dl_im rfl ⟨_, rfl, Da_nil ⟨Nat.le_of_ble_eq_true rfl, h1⟩⟩)))⟩)))))))
end
end K08
set_option Elab.async false
set_option linter.all false
set_option maxRecDepth 100000
set_option maxHeartbeats 4000000
namespace K08
open PySem PySem.Spec PyProof.Rows L2 Wl Kx
theorem adds_range {a c : List Int} (e : a.length = c.length) : (List.range a.length).map (fun i : Nat => a.getD i 0 + c.getD i 0) = adds a c := by
  unfold adds
  refine List.ext_getElem? fun i => ?_
  rw [List.getElem?_map, List.getElem?_map]
  by_cases h : i < a.length
  · have hc : i < c.length := by omega
    have g1 : a.getD i 0 = a[i] := by rw [List.getD_eq_getElem?_getD, List.getElem?_eq_getElem h]; rfl
    have g2 : c.getD i 0 = c[i] := by rw [List.getD_eq_getElem?_getD, List.getElem?_eq_getElem hc]; rfl
    rw [List.getElem?_range h, (List.getElem?_zip_eq_some (z := (a[i], c[i]))).mpr ⟨List.getElem?_eq_getElem h, List.getElem?_eq_getElem hc⟩]
    show some (a.getD i 0 + c.getD i 0) = some (a[i] + c[i])
    rw [g1, g2]
  · rw [List.getElem?_eq_none (by rw [List.length_range]; omega), List.getElem?_eq_none (by rw [List.length_zip]; omega)]
    rfl
section
variable {P : Program} {w : World} {K : PySem.W.Frag} {mg : Str → Option Value} {base : Heap} {f : Addr} {fd : FuncData}
/-! ### _law_plus -/
abbrev law_plus_N : List Str := ["one", "two", "side", "first", "second", "k"]
theorem law_plus_sc : FnScope ["one", "two", "side", "first", "second", "k"] ["one", "two"] (defScope law_plus_st) := ⟨rfl, rfl, rfl, by decide +kernel, rfl, by decide +kernel, by decide +kernel⟩
def S_plus : PX := fun φs k _ => ∃ a b c d : List Int, φs = [rwT a b, rwT c d] ∧ a.length ≤ 8 ∧ b.length ≤ 8 ∧ k (plusDue a b c d).T
theorem ok_plus (F : FnS K "_law_plus" law_plus_st f fd) (m_len : mg "len" = none) (m_sum : mg "sum" = none) (m_range : mg "range" = none) : FnOk P w K mg base (L2N.CX P w) 1 f fd ["one", "two"] (spX S_plus) := by
  refine F.ok law_plus_sc (fun vs H Q E h => lenX (n := 2) (fun φs k kx ⟨_, _, _, _, e, _⟩ => by rw [e]; rfl) h) (fun cdv A outer s H vs Q E hr h => ⟨_, (pss_cons (ps_for (passes_of rfl) rfl (pi_range1 rfl m_range (pa_cons pe_int pa_nil)) (pg_name (i := 2) law_plus_sc.nd rfl (Or.inl rfl))
      (pss_one (ps_if (pt_cmpR op_ne (pe_callB call_len_seq (by rfl) m_len (by decide +kernel) (pa_cons (pe_ix ix_list (pv 0) (pv 2) (fun _ _ => rfl)) pa_nil)) (pe_callB call_len_seq (by rfl) m_len (by decide +kernel) (pa_cons (pe_ix ix_list (pv 1) (pv 2) (fun _ _ => rfl)) pa_nil)) (nomark _)) (pss_one (ps_ret (pe_tup (pa_cons pe_str (pa_cons pe_str (pa_cons (pe_lst (pa_cons (pe_callB call_len_seq (by rfl) m_len (by decide +kernel) (pa_cons (pe_ix ix_list (pv 1) (pv 2) (fun _ _ => rfl)) pa_nil)) pa_nil)) pa_nil)))))) pss_nil)))
      (pss_cons (ps_if (pt_cmpR op_gt (pe_op op_add (pe_callB (EnT.cr_sumE rfl) (by rfl) m_sum (by decide +kernel) (pa_cons (pe_ix ix_list (pv 0) pe_int (fun _ _ => rfl)) pa_nil)) (pe_callB (EnT.cr_sumE rfl) (by rfl) m_sum (by decide +kernel) (pa_cons (pe_ix ix_list (pv 1) pe_int (fun _ _ => rfl)) pa_nil))) pe_int (nomark _)) (pss_one (ps_ret (pe_tup (pa_cons pe_str (pa_cons pe_str (pa_cons (pe_lst (pa_cons pe_int pa_nil)) pa_nil)))))) pss_nil)
      (pss_cons (ps_setLc (i := 3) (own := [("k", 5)]) rfl law_plus_sc.nd rfl rfl (sw_true rfl rfl rfl (by decide +kernel)) (pi_range1 rfl m_range (pa_cons (pe_callB call_len_seq (by rfl) m_len (by decide +kernel) (pa_cons (pe_ix ix_list (pv 0) pe_int (fun _ _ => rfl)) pa_nil)) pa_nil)) (blkOk_by (own := [("k", 5)]) (N := law_plus_N) (sc := defScope law_plus_st) (by decide +kernel)) (fun _ _ _ _ _ => (pg_name (i := 5) law_plus_sc.nd rfl (Or.inl rfl))) (fun _ _ _ _ _ => pts_nil) (fun _ _ _ _ _ => (pe_op op_add (pe_ix (ix_list : IxR _ (rIxL K)) (pe_ix (ix_list : IxR _ (rIxL K)) (pv 0) pe_int (fun _ _ => rfl)) (pv 5) (fun _ _ => rfl)) (pe_ix (ix_list : IxR _ (rIxL K)) (pe_ix (ix_list : IxR _ (rIxL K)) (pv 1) pe_int (fun _ _ => rfl)) (pv 5) (fun _ _ => rfl)))))
      (pss_cons (ps_setLc (i := 4) (own := [("k", 5)]) rfl law_plus_sc.nd rfl rfl (sw_true rfl rfl rfl (by decide +kernel)) (pi_range1 rfl m_range (pa_cons (pe_callB call_len_seq (by rfl) m_len (by decide +kernel) (pa_cons (pe_ix ix_list (pv 0) pe_int (fun _ _ => rfl)) pa_nil)) pa_nil)) (blkOk_by (own := [("k", 5)]) (N := law_plus_N) (sc := defScope law_plus_st) (by decide +kernel)) (fun _ _ _ _ _ => (pg_name (i := 5) law_plus_sc.nd rfl (Or.inl rfl))) (fun _ _ _ _ _ => pts_nil) (fun _ _ _ _ _ => (pe_op op_add (pe_ix (ix_list : IxR _ (rIxL K)) (pe_ix (ix_list : IxR _ (rIxL K)) (pv 0) pe_int (fun _ _ => rfl)) (pv 5) (fun _ _ => rfl)) (pe_ix (ix_list : IxR _ (rIxL K)) (pe_ix (ix_list : IxR _ (rIxL K)) (pv 1) pe_int (fun _ _ => rfl)) (pv 5) (fun _ _ => rfl)))))
      (pss_one (ps_ret (pe_tup (pa_cons pe_str (pa_cons (pv 3) (pa_cons (pv 4) pa_nil)))))))))), enterX (n := 6) rfl h fun A φs k kx hS hE => ?_⟩)
  obtain ⟨a, b, c, d, rfl, la, lb, h1⟩ := hS
  unfold plusDue at h1
  have ix : ∀ (Φ : List Sl) (i q : Nat) (x y : List Int) (te : TE) (χ : List Int) (kk : List Ty → Prop), Φ[i]? = some (.im (rwT x y)) → ([x, y])[q]? = some χ → (∀ kt : Ty → Prop, kt (TI q) → De A te Φ kt) → kk (TIs χ) → Dl A (tOp (rIxL K) (tVar i) te) Φ kk := fun Φ i q x y te χ kk e eq ht h => by
    refine Dl_de (De_op (De_var e (ht _ (Rr_ixL (χ := TL (TIs χ)) ?_ ⟨_, rfl, h⟩))))
    refine L2.atI_nat ?_
    match q, eq with
    | 0, eq => cases eq; rfl
    | 1, eq => cases eq; rfl
  have turn : ∀ (q : Nat) (x y : List Int) (s2 s3 s4 s5 : Sl) (O : Out), ([a, b])[q]? = some x → ([c, d])[q]? = some y → (x.length ≠ y.length → O.rt (refT "BadLength" [.int y.length])) → (x.length = y.length → O.nx [.im (rwT a b), .im (rwT c d), .im (TI q), s3, s4, s5]) →
      Dt A (tIfS (tTest (tOp rNe (tCB (rLenK K) (tCons (tOp (rIxL K) (tVar 0) (tVar 2)) tNil)) (tCB (rLenK K) (tCons (tOp (rIxL K) (tVar 1) (tVar 2)) tNil)))) (tRet (tTup (tCons (tC (.str "refused")) (tCons (tC (.str "BadLength")) (tCons (tLst (tCons (tCB (rLenK K) (tCons (tOp (rIxL K) (tVar 1) (tVar 2)) tNil)) tNil)) tNil))))) tNext) [.im (rwT a b), .im (rwT c d), .im (TI q), s3, s4, s5] O := fun q x y s2 s3 s4 s5 O ex ey hr hn => by
    refine Dt_if (Dc_test (De_op (De_len (ix _ 0 q a b _ x _ rfl ex (fun kt h => De_var rfl h) (De_len (ix _ 1 q c d _ y _ rfl ey (fun kt h => De_var rfl h) (Rr_ne rfl ⟨_, rfl, br_ndec (fun z => ?_) fun z => ?_⟩)))))))
    · rw [List.length_map, List.length_map] at z
      refine Dt_ret (De_ref (De_len (ix _ 1 q c d _ y _ rfl ey (fun kt h => De_var rfl h) ⟨_, rfl, ?_⟩)))
      rw [List.length_map]
      exact hr fun q => z (by rw [q])
    · rw [List.length_map, List.length_map] at z
      have z := V.int.inj z
      exact Dt_next (hn (by omega))
  refine Dt_seq (Dt_forI (ψs := (List.range 2).map fun (i : Nat) => TI i) [2] (fun j Φ => ∃ s2, Φ = [.im (rwT a b), .im (rwT c d), s2, .no, .no, .no] ∧ (0 < j → a.length = c.length) ∧ (1 < j → b.length = d.length)) (Di_range1 (Da_cons (De_c (Da_nil ⟨2, rfl, by decide, rfl⟩)))) ⟨_, rfl, fun z => by omega, fun z => by omega⟩ (fun j ψ Φ e hI => ?_) fun Φ hI => ?_)
  · obtain ⟨s2, rfl, i1, i2⟩ := hI
    match j, e with
    | 0, e =>
      cases e
      refine Dg_name (turn 0 a c s2 _ _ _ _ rfl rfl (fun z => ?_) fun z => ⟨_, rfl, fun _ => z, fun z => by omega⟩)
      rw [if_neg z] at h1
      exact h1
    | 1, e =>
      cases e
      have e1 := i1 (by omega)
      refine Dg_name (turn 1 b d s2 _ _ _ _ rfl rfl (fun z => ?_) fun z => ⟨_, rfl, fun _ => e1, fun _ => z⟩)
      rw [if_pos e1, if_neg z] at h1
      exact h1
  · obtain ⟨s2, rfl, i1, i2⟩ := hI
    have e1 := i1 (by show 0 < 2; decide)
    have e2 := i2 (by show 1 < 2; decide)
    rw [if_pos e1, if_pos e2] at h1
    refine Dt_seq (Dt_if (Dc_test (De_op (De_op (De_sumL (ns := a) (ix _ 0 0 a b _ a _ rfl rfl (fun kt h => De_c h) ⟨rfl, De_sumL (ns := c) (ix _ 1 0 c d _ c _ rfl rfl (fun kt h => De_c h) ⟨rfl, Rr_I0 (De_c (Rr_I0 ⟨_, rfl, fun z => ?_, fun z => Dt_next ?_⟩))⟩)⟩))))))
    · have z := of_decide_eq_true z
      rw [if_neg (by omega)] at h1
      exact Dt_ret (De_ref (De_c ⟨_, rfl, h1⟩))
    · have z := of_decide_eq_false z
      rw [if_pos (by omega)] at h1
      refine Dt_seq (Dt_set (De_dn (Dn_mapL (us := [5]) (List.range a.length) (fun (i : Nat) => TI i) (fun (i : Nat) => TI (a.getD i 0 + c.getD i 0)) (by decide) (by rw [List.length_range]; omega) (Di_range1 (Da_cons (De_len (ix _ 0 0 a b _ a _ rfl rfl (fun kt h => De_c h) (Da_nil ⟨_, rfl, by rw [List.length_map]; omega, by rw [List.length_map]⟩))))) (fun i hi => Dg_name ?_) ⟨_, rfl, ?_⟩)))
      · have hi := List.mem_range.mp hi
        exact De_op (De_op (De_op (De_var rfl (De_c (Rr_ixL rfl (De_var rfl (Rr_ixL (atI_get hi) (De_op (De_op (De_var rfl (De_c (Rr_ixL rfl (De_var rfl (Rr_ixL (atI_get (by omega)) (Rr_I0 rfl)))))))))))))))
      refine Dt_seq (Dt_set (De_dn (Dn_mapL (us := [5]) (List.range b.length) (fun (i : Nat) => TI i) (fun (i : Nat) => TI (b.getD i 0 + d.getD i 0)) (by decide) (by rw [List.length_range]; omega) (Di_range1 (Da_cons (De_len (ix _ 0 1 a b _ b _ rfl rfl (fun kt h => De_c h) (Da_nil ⟨_, rfl, by rw [List.length_map]; omega, by rw [List.length_map]⟩))))) (fun i hi => Dg_name ?_) ⟨_, rfl, ?_⟩)))
      · have hi := List.mem_range.mp hi
        exact De_op (De_op (De_op (De_var rfl (De_c (Rr_ixL rfl (De_var rfl (Rr_ixL (atI_get hi) (De_op (De_op (De_var rfl (De_c (Rr_ixL rfl (De_var rfl (Rr_ixL (atI_get (by omega)) (Rr_I0 rfl)))))))))))))))
      have m1 : (List.range a.length).map (fun (i : Nat) => TI (a.getD i 0 + c.getD i 0)) = TIs (adds a c) := by rw [← adds_range e1, TIs, List.map_map]; rfl
      have m2 : (List.range b.length).map (fun (i : Nat) => TI (b.getD i 0 + d.getD i 0)) = TIs (adds b d) := by rw [← adds_range e2, TIs, List.map_map]; rfl
      rw [m1, m2]
      exact Dt_ret (De_tup (Da_cons (De_c (Da_cons (De_var rfl (Da_cons (De_var rfl (Da_nil ⟨Nat.le_of_ble_eq_true rfl, h1⟩))))))))
/-! ### _law_times -/
abbrev law_times_N : List Str := ["number", "one", "first", "second", "x"]
theorem law_times_sc : FnScope ["number", "one", "first", "second", "x"] ["number", "one"] (defScope law_times_st) := ⟨rfl, rfl, rfl, by decide +kernel, rfl, by decide +kernel, by decide +kernel⟩
def S_times : PX := fun φs k _ => ∃ (n : Int) (a b : List Int), φs = [TI n, rwT a b] ∧ a.length ≤ 8 ∧ b.length ≤ 8 ∧ k (timesDue n a b).T
theorem ok_times (F : FnS K "_law_times" law_times_st f fd) (m_sum : mg "sum" = none) : FnOk P w K mg base (L2N.CX P w) 1 f fd ["number", "one"] (spX S_times) := by
  refine F.ok law_times_sc (fun vs H Q E h => lenX (n := 2) (fun φs k kx ⟨_, _, _, e, _⟩ => by rw [e]; rfl) h) (fun cdv A outer s H vs Q E hr h => ⟨_, (pss_cons (ps_if (pt_not (pt_chain op_le op_le pe_int (pv 0) pe_int)) (pss_one (ps_ret (pe_tup (pa_cons pe_str (pa_cons pe_str (pa_cons (pe_lst (pa_cons (pv 0) pa_nil)) pa_nil)))))) pss_nil)
      (pss_cons (ps_if (pt_cmpR op_gt (pe_op op_mul (pv 0) (pe_callB (EnT.cr_sumE rfl) (by rfl) m_sum (by decide +kernel) (pa_cons (pe_ix ix_list (pv 1) pe_int (fun _ _ => rfl)) pa_nil))) pe_int (nomark _)) (pss_one (ps_ret (pe_tup (pa_cons pe_str (pa_cons pe_str (pa_cons (pe_lst (pa_cons pe_int pa_nil)) pa_nil)))))) pss_nil)
      (pss_cons (ps_setLc (i := 2) (own := [("x", 4)]) rfl law_times_sc.nd rfl rfl (sw_true rfl rfl rfl (by decide +kernel)) (pi_list (pe_ix ix_list (pv 1) pe_int (fun _ _ => rfl))) (blkOk_by (own := [("x", 4)]) (N := law_times_N) (sc := defScope law_times_st) (by decide +kernel)) (fun _ _ _ _ _ => (pg_name (i := 4) law_times_sc.nd rfl (Or.inl rfl))) (fun _ _ _ _ _ => pts_nil) (fun _ _ _ _ _ => (pe_op op_mul (pv 0) (pv 4))))
      (pss_cons (ps_setLc (i := 3) (own := [("x", 4)]) rfl law_times_sc.nd rfl rfl (sw_true rfl rfl rfl (by decide +kernel)) (pi_list (pe_ix ix_list (pv 1) pe_int (fun _ _ => rfl))) (blkOk_by (own := [("x", 4)]) (N := law_times_N) (sc := defScope law_times_st) (by decide +kernel)) (fun _ _ _ _ _ => (pg_name (i := 4) law_times_sc.nd rfl (Or.inl rfl))) (fun _ _ _ _ _ => pts_nil) (fun _ _ _ _ _ => (pe_op op_mul (pv 0) (pv 4))))
      (pss_one (ps_ret (pe_tup (pa_cons pe_str (pa_cons (pv 2) (pa_cons (pv 3) pa_nil)))))))))), enterX (n := 5) rfl h fun A φs k kx hS hE => ?_⟩)
  obtain ⟨n, a, b, rfl, la, lb, h1⟩ := hS
  unfold timesDue at h1
  have bad_ : ¬ (0 ≤ n ∧ n ≤ 400) → k (refT "BadCount" [.int n]) := fun z => by
    rw [if_neg z] at h1
    exact h1
  refine Dt_seq (Dt_if (Dc_not (Dc_test (De_chain (De_c (De_var rfl (Rr_I0 ⟨_, rfl, fun z1 => De_c (Rr_I0 ⟨_, rfl, br_b (fun z => ?_) fun z => ?_⟩), fun z1 => ⟨_, rfl, br_nf (Dt_ret (De_ref (De_var rfl ⟨_, rfl, bad_ (fun q => by have := of_decide_eq_false z1; omega)⟩)))⟩⟩)))))))
  · have z2 : ¬ (n ≤ 400) := by simpa using z
    exact Dt_ret (De_ref (De_var rfl ⟨_, rfl, bad_ (fun q => by omega)⟩))
  have z1 := of_decide_eq_true z1
  have z2 : (n ≤ 400) := by simpa using z
  have cm : ∀ y : Int, CMul n y := fun y => .inl ⟨by omega, by omega⟩
  rw [if_pos ⟨z1, z2⟩] at h1
  refine Dt_next (Dt_seq (Dt_if (Dc_test (De_op (De_op (De_var rfl (De_sumL (ns := a) (Dl_de (De_op (De_var rfl (De_c (Rr_ixL rfl ⟨_, rfl, rfl, Rr_IC (cm _) (De_c (Rr_I0 ⟨_, rfl, fun z => ?_, fun z => Dt_next ?_⟩))⟩))))))))))))
  · have z := of_decide_eq_true z
    rw [if_neg (by omega)] at h1
    exact Dt_ret (De_ref (De_c ⟨_, rfl, h1⟩))
  · have z := of_decide_eq_false z
    rw [if_pos (by omega)] at h1
    refine Dt_seq (Dt_set (De_dn (Dn_mapL (us := [4]) a (fun x => TI x) (fun x => TI (n * x)) (by decide) (by omega) (Di_list (De_op (De_var rfl (De_c (Rr_ixL rfl ⟨_, rfl, rfl⟩))))) (fun x hx => Dg_name (De_op (De_var rfl (De_var rfl (Rr_IC (cm _) rfl))))) ⟨_, rfl, ?_⟩)))
    refine Dt_seq (Dt_set (De_dn (Dn_mapL (us := [4]) b (fun x => TI x) (fun x => TI (n * x)) (by decide) (by omega) (Di_list (De_op (De_var rfl (De_c (Rr_ixL rfl ⟨_, rfl, rfl⟩))))) (fun x hx => Dg_name (De_op (De_var rfl (De_var rfl (Rr_IC (cm _) rfl))))) ⟨_, rfl, ?_⟩)))
    have m : ∀ c : List Int, c.map (fun x => TI (n * x)) = TIs (muls n c) := fun c => by unfold muls; rw [TIs, List.map_map]; rfl
    rw [m, m]
    exact Dt_ret (De_tup (Da_cons (De_c (Da_cons (De_var rfl (Da_cons (De_var rfl (Da_nil ⟨Nat.le_of_ble_eq_true rfl, h1⟩))))))))
/-! ### _law_moved -/
abbrev law_moved_N : List Str := ["one", "source", "goal", "depot", "first"]
theorem law_moved_sc : FnScope ["one", "source", "goal", "depot", "first"] ["one", "source", "goal"] (defScope law_moved_st) := ⟨rfl, rfl, rfl, by decide +kernel, rfl, by decide +kernel, by decide +kernel⟩
def S_lmov : PX := fun φs k _ => ∃ (a b : List Int) (g t : Int), φs = [rwT a b, TI g, TI t] ∧ a.length ≤ 8 ∧ b.length ≤ 8 ∧ k (movDue a b g t).T
theorem ok_lmov (F : FnS K "_law_moved" law_moved_st f fd) (m_len : mg "len" = none) (m_list : mg "list" = none) : FnOk P w K mg base (L2N.CX P w) 1 f fd ["one", "source", "goal"] (spX S_lmov) := by
  refine F.ok law_moved_sc (fun vs H Q E h => lenX (n := 3) (fun φs k kx ⟨_, _, _, _, e, _⟩ => by rw [e]; rfl) h) (fun cdv A outer s H vs Q E hr h => ⟨_, (pss_cons (ps_for (passes_of rfl) rfl (pi_list (pe_lst (pa_cons (pv 1) (pa_cons (pv 2) pa_nil)))) (pg_name (i := 3) law_moved_sc.nd rfl (Or.inl rfl))
      (pss_one (ps_if (pt_not (pt_chain op_le op_lt pe_int (pv 3) (pe_callB call_len_seq (by rfl) m_len (by decide +kernel) (pa_cons (pe_ix ix_list (pv 0) pe_int (fun _ _ => rfl)) pa_nil)))) (pss_one (ps_ret (pe_tup (pa_cons pe_str (pa_cons pe_str (pa_cons (pe_lst (pa_cons (pv 3) pa_nil)) pa_nil)))))) pss_nil)))
      (pss_cons (ps_if (pt_cmpR op_eq (pe_ix ix_list (pe_ix ix_list (pv 0) pe_int (fun _ _ => rfl)) (pv 1) (fun _ _ => rfl)) pe_int (nomark _)) (pss_one (ps_ret (pe_tup (pa_cons pe_str (pa_cons pe_str (pa_cons (pe_lst (pa_cons (pv 1) pa_nil)) pa_nil)))))) pss_nil)
      (pss_cons (ps_set (i := 4) law_moved_sc.nd rfl (Or.inl rfl) (pe_callTy call_list_of (by rfl) m_list (by decide +kernel) (pa_cons (pe_ix ix_list (pv 0) pe_int (fun _ _ => rfl)) pa_nil)))
      (pss_cons (ps_asg (pe_op op_sub (pe_ix ix_list (pv 4) (pv 1) (fun _ _ => rfl)) pe_int) (pg_sub (pv 4) (pv 1) set_list))
      (pss_cons (ps_asg (pe_op op_add (pe_ix ix_list (pv 4) (pv 2) (fun _ _ => rfl)) pe_int) (pg_sub (pv 4) (pv 2) set_list))
      (pss_one (ps_ret (pe_tup (pa_cons pe_str (pa_cons (pv 4) (pa_cons (pe_callTy call_list_of (by rfl) m_list (by decide +kernel) (pa_cons (pe_ix ix_list (pv 0) pe_int (fun _ _ => rfl)) pa_nil)) pa_nil))))))))))), enterX (n := 5) rfl h fun A φs k kx hS hE => ?_⟩)
  obtain ⟨a, b, g, t, rfl, la, lb, h1⟩ := hS
  unfold movDue at h1
  have turn : ∀ (x : Int) (O : Out), (¬ (0 ≤ x ∧ x < a.length) → O.rt (refT "NoDepot" [.int x])) → (0 ≤ x ∧ x < a.length → O.nx [.im (rwT a b), .im (TI g), .im (TI t), .im (TI x), .no]) →
      Dt A (tIfS (tNot (tTest (tChain (rI0 fun i j => .bl (decide (i ≤ j))) (rI0 fun i j => .bl (decide (i < j))) (tC (.int 0)) (tVar 3) (tCB (rLenK K) (tCons (tOp (rIxL K) (tVar 0) (tC (.int 0))) tNil))))) (tRet (tTup (tCons (tC (.str "refused")) (tCons (tC (.str "NoDepot")) (tCons (tLst (tCons (tVar 3) tNil)) tNil))))) tNext) [.im (rwT a b), .im (TI g), .im (TI t), .im (TI x), .no] O := fun x O hr hn => by
    refine Dt_if (Dc_not (Dc_test (De_chain (De_c (De_var rfl (Rr_I0 ⟨_, rfl, fun z1 => De_len (Dl_de (De_op (De_var rfl (De_c (Rr_ixL rfl ⟨_, rfl, Rr_I0 ⟨_, rfl, br_b (fun z => ?_) fun z => ?_⟩⟩))))), fun z1 => ⟨_, rfl, br_nf (Dt_ret (De_ref (De_var rfl ⟨_, rfl, hr (fun q => by have := of_decide_eq_false z1; omega)⟩)))⟩⟩))))))
    · rw [List.length_map] at z
      have z2 : ¬ (x < a.length) := by simpa using z
      exact Dt_ret (De_ref (De_var rfl ⟨_, rfl, hr (fun q => by omega)⟩))
    · rw [List.length_map] at z
      have z1 := of_decide_eq_true z1
      have z2 : (x < a.length) := by simpa using z
      exact Dt_next (hn ⟨z1, z2⟩)
  refine Dt_seq (Dt_forI (ψs := [TI g, TI t]) [3] (fun j Φ => ∃ s3, Φ = [.im (rwT a b), .im (TI g), .im (TI t), s3, .no] ∧ (0 < j → 0 ≤ g ∧ g < a.length) ∧ (1 < j → 0 ≤ t ∧ t < a.length)) (Di_list (De_lst (Da_cons (De_var rfl (Da_cons (De_var rfl (Da_nil ⟨Nat.le_of_ble_eq_true rfl, _, rfl, rfl⟩))))))) ⟨_, rfl, fun z => by omega, fun z => by omega⟩ (fun j ψ Φ e hI => ?_) fun Φ hI => ?_)
  · obtain ⟨s3, rfl, i1, i2⟩ := hI
    match j, e with
    | 0, e =>
      cases e
      refine Dg_name (turn g _ (fun z => ?_) fun z => ⟨_, rfl, fun _ => z, fun z => by omega⟩)
      rw [if_neg z] at h1
      exact h1
    | 1, e =>
      cases e
      have e1 := i1 (by omega)
      refine Dg_name (turn t _ (fun z => ?_) fun z => ⟨_, rfl, fun _ => e1, fun _ => z⟩)
      rw [if_pos e1, if_neg z] at h1
      exact h1
  · obtain ⟨s3, rfl, i1, i2⟩ := hI
    have e1 := i1 (by show 0 < 2; decide)
    have e2 := i2 (by show 1 < 2; decide)
    rw [if_pos e1, if_pos e2] at h1
    obtain ⟨i, rfl⟩ := Int.eq_ofNat_of_zero_le e1.1
    obtain ⟨j, rfl⟩ := Int.eq_ofNat_of_zero_le e2.1
    have hi : i < a.length := by omega
    have hj : j < a.length := by omega
    rw [Int.toNat_natCast, Int.toNat_natCast] at h1
    refine Dt_seq (Dt_if (Dc_test (De_op (De_op (De_op (De_var rfl (De_c (Rr_ixL rfl (De_var rfl (Rr_ixL (atI_get hi) (De_c (Rr_eq rfl ⟨_, rfl, br_dec (fun z => ?_) fun z => ?_⟩))))))))))))
    · rw [if_pos (V.int.inj z)] at h1
      exact Dt_ret (De_ref (De_var rfl ⟨_, rfl, h1⟩))
    · rw [if_neg (fun e => z (congrArg V.int e))] at h1
      have st : ∀ (c : List Int) (n : Nat) (x : Int), (TIs c).set n (TI x) = TIs (c.set n x) := fun c n x => by rw [TIs, TIs, List.map_set]
      have ixn : ∀ {n : Nat} {q : Nat}, q < n → ixN n (q : Int) = some q := fun {n q} h => by
        unfold ixN
        rw [if_pos (by omega), if_pos (by omega)]
        rfl
      refine Dt_next (Dt_seq (Dt_setOw (Dn_listL (Dl_de (De_op (De_var rfl (De_c (Rr_ixL rfl ⟨_, rfl, ?_⟩))))))))
      refine Dt_seq (Dt_put rfl (De_op (De_ixOw (Dl_ow rfl (De_var rfl ⟨_, _, rfl, atI_get hi, De_c (Rr_I0 (De_var rfl ⟨_, _, rfl, ixn (by rw [List.length_map]; exact hi), ?_⟩))⟩)))))
      rw [st]
      refine Dt_seq (Dt_put rfl (De_op (De_ixOw (Dl_ow rfl (De_var rfl ⟨_, _, rfl, atI_get (by rw [List.length_set]; exact hj), De_c (Rr_I0 (De_var rfl ⟨_, _, rfl, ixn (by rw [List.length_map, List.length_set]; exact hj), ?_⟩))⟩)))))
      rw [st]
      refine Dt_know 4 rfl ?_
      exact Dt_ret (De_tup (Da_cons (De_c (Da_cons (De_var rfl (Da_cons (De_dn (Dn_listL (Dl_de (De_op (De_var rfl (De_c (Rr_ixL rfl ⟨_, rfl, _, rfl, Da_nil ⟨Nat.le_of_ble_eq_true rfl, h1⟩⟩)))))))))))))
end
end K08
set_option Elab.async false
set_option linter.all false
set_option maxRecDepth 100000
set_option maxHeartbeats 8000000
namespace K08
open PySem PySem.Spec PyProof.Rows L2 Wl Kx
/-- what is asked -/
inductive Qk where
  | make (T1 T2 : Bool) (a b : List Int)
  | read (t : Str)
  | plus (a b c d : List Int)
  | timesN (n : Int) (a b : List Int)
  | timesB (n : Int) (a b : List Int)
  | moved (a b : List Int) (g t : Int)
  | added (a b : List Int) (rows : List (List Int × List Int))
def Qk.S : Qk → Str
  | .make .. => "make"
  | .read .. => "read"
  | .plus .. => "plus"
  | .timesN .. => "times"
  | .timesB .. => "times"
  | .moved .. => "moved"
  | .added .. => "added"
abbrev LT (b : Bool) (φs : List Ty) : Ty := if b then TU φs else TL φs
theorem LT_lu (b : Bool) : LU (LT b) := by
  cases b
  · exact .inl rfl
  · exact .inr rfl
def Qk.A (CT : Addr) : Qk → Ty × Ty
  | .make T1 T2 a b => (LT T1 (TIs a), LT T2 (TIs b))
  | .read t => (TS t, TN)
  | .plus a b c d => (TTot CT a b, TTot CT c d)
  | .timesN n a b => (TI n, TTot CT a b)
  | .timesB n a b => (TTot CT a b, TI n)
  | .moved a b g t => (TTot CT a b, TL [TI g, TI t])
  | .added a b rows => (TL (TTot CT a b :: rows.map fun r => TTot CT r.1 r.2), TN)
def readDue (t : Str) : Due := match sidesOf t with
  | none => .ref .unr [.str t]
  | some (a, b) => makeDue a b
def Qk.due : Qk → Due
  | .make _ _ a b => makeDue a b
  | .read t => readDue t
  | .plus a b c d => plusDue a b c d
  | .timesN n a b => timesDue n a b
  | .timesB n a b => timesDue n a b
  | .moved a b g t => movDue a b g t
  | .added a b rows => foldDue (.mad a b) rows
def Qk.fit : Qk → Prop
  | .make .. => True
  | .read t => t.length ≤ 900
  | .plus a b c d => OkT a b ∧ OkT c d
  | .timesN _ a b => OkT a b
  | .timesB _ a b => OkT a b
  | .moved a b _ _ => OkT a b
  | .added a b rows => rows.length ≤ 3 ∧ OkT a b ∧ ∀ r ∈ rows, OkT r.1 r.2
theorem rowDue_ok {a : List Int} {d : Due} (h : rowDue a = some d) : d.ok := by
  unfold rowDue at h
  split at h
  · cases hb : bad 0 400 a with
    | none => rw [hb] at h; cases h
    | some x => rw [hb] at h; cases h; exact ⟨_, rfl⟩
  · cases h; exact ⟨_, rfl⟩
theorem rowDue_none {a : List Int} (h : rowDue a = none) : lens a ∧ bad 0 400 a = none := by
  unfold rowDue at h
  split at h
  · refine ⟨‹_›, ?_⟩
    cases hb : bad 0 400 a with
    | none => rfl
    | some x => rw [hb] at h; cases h
  · cases h
theorem makeDue_shape (a b : List Int) : (makeDue a b).ok := by
  unfold makeDue
  cases ha : rowDue a with
  | some d => exact rowDue_ok ha
  | none =>
    cases hb : rowDue b with
    | some d => exact rowDue_ok hb
    | none =>
      have h1 := (rowDue_none ha).1
      have h2 := (rowDue_none hb).1
      show (endDue a b).ok
      unfold endDue
      split
      · split
        · exact ⟨h1.2, h2.2⟩
        · exact ⟨_, rfl⟩
      · exact ⟨_, _, rfl⟩
theorem fold_shape {a b : List Int} : ∀ {rows : List (List Int × List Int)}, OkT a b → (∀ r ∈ rows, OkT r.1 r.2) → (foldDue (.mad a b) rows).ok := fun {rows} g h => by
  induction rows generalizing a b with
  | nil => exact ⟨g.s1.2, g.d1.2⟩
  | cons r rows ih =>
    rw [foldDue_cons]
    have gr := h r (by simp)
    have sh := due_ok g gr
    cases e : plusDue a b r.1 r.2 with
    | mad x y => exact ih (plus_ok g gr e) fun r hr => h r (by simp [hr])
    | ref e2 xs => rw [foldDue_ref]; rw [e] at sh; exact sh
theorem Qk.ok {q : Qk} (h : q.fit) : q.due.ok := by
  have tm : ∀ (n : Int) (a b : List Int), OkT a b → (timesDue n a b).ok := fun n a b g => by
    unfold timesDue
    split
    · split
      · have h1 := g.s1
        have h2 := g.d1
        refine ⟨?_, ?_⟩ <;> (unfold muls; rw [List.length_map]; omega)
      · exact ⟨_, rfl⟩
    · exact ⟨_, rfl⟩
  cases q with
  | make T1 T2 a b => exact makeDue_shape a b
  | read t =>
    show (readDue t).ok
    unfold readDue
    split
    · exact ⟨_, rfl⟩
    · exact makeDue_shape _ _
  | plus a b c d => exact due_ok h.1 h.2
  | timesN n a b => exact tm n a b h
  | timesB n a b => exact tm n a b h
  | moved a b g t =>
    show (movDue a b g t).ok
    have g1 : OkT a b := h
    have h1 := g1.s1
    have h2 := g1.d1
    unfold movDue
    split
    · split
      · split
        · exact ⟨_, rfl⟩
        · refine ⟨?_, h2.2⟩
          unfold movL
          rw [List.length_set, List.length_set]
          exact h1.2
      · exact ⟨_, rfl⟩
    · exact ⟨_, rfl⟩
  | added a b rows => exact fold_shape h.2.1 h.2.2
/-- a def with *rest -/
structure Sr (P : Program) (w : World) (K : PySem.W.Frag) (mg : Str → Option Value) (base : Heap) (k : Nat) (x : Str) (sp : Sp) (f : Addr) : Prop where
  ok : FnR P w K mg base (L2N.CX P w) k f sp
  g : mg x = some (.ref f)
  kp : PySem.W.keepIn K (.ref f) = true
section
variable {P : Program} {w : World} {K : PySem.W.Frag} {mg : Str → Option Value} {base : Heap} {f : Addr} {fd : FuncData}
/-! ### _law_added -/
abbrev law_added_N : List Str := ["row"]
theorem law_added_sc : FnScope ["row"] ["row"] (defScope law_added_st) := ⟨rfl, rfl, rfl, by decide +kernel, rfl, by decide +kernel, by decide +kernel⟩
def S_added (CT : Addr) (ca : Er8 → Addr) : PX := fun φs k kx => ∃ (a b : List Int) (rows : List (List Int × List Int)), φs = [TL (TTot CT a b :: rows.map fun r => TTot CT r.1 r.2)] ∧ rows.length ≤ 3 ∧ OkT a b ∧ (∀ r ∈ rows, OkT r.1 r.2) ∧ (∀ u, u = foldDue (.mad a b) rows → Got ca kx (fun x y => k (TTot CT x y)) u)
theorem ok_added {CT f1 : Addr} {ca : Er8 → Addr} (F : FnS K "_law_added" law_added_st f fd) (m_len : mg "len" = none) (D_add_totals : Sr P w K mg base 9 "add_totals" (spX (S_addt CT ca)) f1) : FnOk P w K mg base (L2N.CX P w) 10 f fd ["row"] (spX (S_added CT ca)) := by
  refine F.ok law_added_sc (fun vs H Q E h => lenX (n := 1) (fun φs k kx ⟨_, _, _, e, _⟩ => by rw [e]; rfl) h) (fun cdv A outer s H vs Q E hr h => ⟨_, (pss_cons (ps_if (pt_cmpR op_eq (pe_callB call_len_seq (by rfl) m_len (by decide +kernel) (pa_cons (pv 0) pa_nil)) pe_int (nomark _)) (pss_one (ps_ret (L2.pe_callFR D_add_totals.ok (hr.mono (by first | decide | omega)) D_add_totals.kp rfl D_add_totals.g (passO (L2N.takes_of rfl rfl rfl rfl)) (pa_cons (pe_ix ix_list (pv 0) pe_int (fun _ _ => rfl)) pa_nil)))) pss_nil)
      (pss_cons (ps_if (pt_cmpR op_eq (pe_callB call_len_seq (by rfl) m_len (by decide +kernel) (pa_cons (pv 0) pa_nil)) pe_int (nomark _)) (pss_one (ps_ret (L2.pe_callFR D_add_totals.ok (hr.mono (by first | decide | omega)) D_add_totals.kp rfl D_add_totals.g (passO (L2N.takes_of rfl rfl rfl rfl)) (pa_cons (pe_ix ix_list (pv 0) pe_int (fun _ _ => rfl)) (pa_cons (pe_ix ix_list (pv 0) pe_int (fun _ _ => rfl)) pa_nil))))) pss_nil)
      (pss_cons (ps_if (pt_cmpR op_eq (pe_callB call_len_seq (by rfl) m_len (by decide +kernel) (pa_cons (pv 0) pa_nil)) pe_int (nomark _)) (pss_one (ps_ret (L2.pe_callFR D_add_totals.ok (hr.mono (by first | decide | omega)) D_add_totals.kp rfl D_add_totals.g (passO (L2N.takes_of rfl rfl rfl rfl)) (pa_cons (pe_ix ix_list (pv 0) pe_int (fun _ _ => rfl)) (pa_cons (pe_ix ix_list (pv 0) pe_int (fun _ _ => rfl)) (pa_cons (pe_ix ix_list (pv 0) pe_int (fun _ _ => rfl)) pa_nil)))))) pss_nil)
      (pss_one (ps_ret (L2.pe_callFR D_add_totals.ok (hr.mono (by first | decide | omega)) D_add_totals.kp rfl D_add_totals.g (passO (L2N.takes_of rfl rfl rfl rfl)) (pa_cons (pe_ix ix_list (pv 0) pe_int (fun _ _ => rfl)) (pa_cons (pe_ix ix_list (pv 0) pe_int (fun _ _ => rfl)) (pa_cons (pe_ix ix_list (pv 0) pe_int (fun _ _ => rfl)) (pa_cons (pe_ix ix_list (pv 0) pe_int (fun _ _ => rfl)) pa_nil)))))))))), enterX (n := 1) rfl h fun A φs k kx hS hE => ?_⟩)
  obtain ⟨a, b, rows, rfl, l, g, gs, q⟩ := hS
  have tst : ∀ (n : Nat) (c : Int) (kk : Bool → Prop) (Φ : List Sl), rows.length = n → Φ[0]? = some (.im (TL (TTot CT a b :: rows.map fun r => TTot CT r.1 r.2))) → kk (decide (((n : Nat) : Int) + 1 = c)) → Dc A (tTest (tOp rEq (tCB (rLenK K) (tCons (tVar 0) tNil)) (tC (.int c)))) Φ kk := fun n c kk Φ hn e h => by
    refine Dc_test (De_op (De_len (Dl_im e (De_c (Rr_eq rfl ⟨_, rfl, ?_⟩)))))
    have e2 : decide (V.int ((TTot CT a b :: rows.map fun r => TTot CT r.1 r.2).length : Nat) = V.int c) = decide (((n : Nat) : Int) + 1 = c) := by
      rw [List.length_cons, List.length_map, hn]
      by_cases z : ((n : Nat) : Int) + 1 = c
      · rw [decide_eq_true z, decide_eq_true (congrArg V.int (by omega))]
      · rw [decide_eq_false z, decide_eq_false (fun q => z (by have := V.int.inj q; omega))]
    rw [e2]
    exact h
  match rows, l, gs, q, tst with
  | [], _, gs, q, tst =>
    refine Dt_seq (Dt_if (tst 0 1 _ _ rfl rfl (br_yes (by decide) ?_)))
    refine Dt_ret (De_callR hE (Da_cons (De_op (De_var rfl (De_c (Rr_ixL rfl (Da_nil ?_)))))))
    exact ⟨a, b, [], rfl, by decide, g, gs, q⟩
  | [r1], _, gs, q, tst =>
    refine Dt_seq (Dt_if (tst 1 1 _ _ rfl rfl (br_no (by decide) (Dt_next ?_))))
    refine Dt_seq (Dt_if (tst 1 2 _ _ rfl rfl (br_yes (by decide) ?_)))
    refine Dt_ret (De_callR hE (Da_cons (De_op (De_var rfl (De_c (Rr_ixL rfl (Da_cons (De_op (De_var rfl (De_c (Rr_ixL rfl (Da_nil ?_))))))))))))
    exact ⟨a, b, [r1], rfl, Nat.le_of_ble_eq_true rfl, g, gs, q⟩
  | [r1, r2], _, gs, q, tst =>
    refine Dt_seq (Dt_if (tst 2 1 _ _ rfl rfl (br_no (by decide) (Dt_next ?_))))
    refine Dt_seq (Dt_if (tst 2 2 _ _ rfl rfl (br_no (by decide) (Dt_next ?_))))
    refine Dt_seq (Dt_if (tst 2 3 _ _ rfl rfl (br_yes (by decide) ?_)))
    refine Dt_ret (De_callR hE (Da_cons (De_op (De_var rfl (De_c (Rr_ixL rfl (Da_cons (De_op (De_var rfl (De_c (Rr_ixL rfl (Da_cons (De_op (De_var rfl (De_c (Rr_ixL rfl (Da_nil ?_)))))))))))))))))
    exact ⟨a, b, [r1, r2], rfl, Nat.le_of_ble_eq_true rfl, g, gs, q⟩
  | [r1, r2, r3], _, gs, q, tst =>
    refine Dt_seq (Dt_if (tst 3 1 _ _ rfl rfl (br_no (by decide) (Dt_next ?_))))
    refine Dt_seq (Dt_if (tst 3 2 _ _ rfl rfl (br_no (by decide) (Dt_next ?_))))
    refine Dt_seq (Dt_if (tst 3 3 _ _ rfl rfl (br_no (by decide) (Dt_next ?_))))
    refine Dt_ret (De_callR hE (Da_cons (De_op (De_var rfl (De_c (Rr_ixL rfl (Da_cons (De_op (De_var rfl (De_c (Rr_ixL rfl (Da_cons (De_op (De_var rfl (De_c (Rr_ixL rfl (Da_cons (De_op (De_var rfl (De_c (Rr_ixL rfl (Da_nil ?_))))))))))))))))))))))
    exact ⟨a, b, [r1, r2, r3], rfl, Nat.le_of_ble_eq_true rfl, g, gs, q⟩
end
end K08
set_option Elab.async false
set_option linter.all false
set_option maxRecDepth 100000
set_option maxHeartbeats 8000000
namespace K08
open PySem PySem.Spec PyProof.Rows L2 Wl Kx
theorem read_of {ca : Er8 → Addr} {kx : Addr → List (Str × Ty) → Prop} {ok : List Int → List Int → Prop} {t : Str} (h : ∀ d, d = readDue t → Got ca kx ok d) : (sidesOf t = none → kx (ca .unr) [("text", TS t)]) ∧ (∀ a b, sidesOf t = some (a, b) → QM ca a b kx (ok a b)) := by
  unfold readDue at h
  refine ⟨fun e => ?_, fun a b e => ?_⟩
  · rw [e] at h
    exact h _ rfl ⟨_, rfl⟩
  · rw [e] at h
    exact QM.of h
section
variable {P : Program} {w : World} {K : PySem.W.Frag} {mg : Str → Option Value} {base : Heap} {f : Addr} {fd : FuncData}
/-! ### _law_done -/
abbrev law_done_N : List Str := ["word", "a", "b"]
theorem law_done_sc : FnScope ["word", "a", "b"] ["word", "a", "b"] (defScope law_done_st) := ⟨rfl, rfl, rfl, by decide +kernel, rfl, by decide +kernel, by decide +kernel⟩
def S_doneQ (CT : Addr) (ca : Er8 → Addr) (p : Qk → Prop) : PX := fun φs k kx => ∃ q : Qk, p q ∧ φs = [TS q.S, (q.A CT).1, (q.A CT).2] ∧ q.fit ∧ (∀ d, d = q.due → Got ca kx (fun x y => k (TTot CT x y)) d)
def isB : Qk → Bool
  | .timesB .. => true
  | _ => false
def S_done (CT : Addr) (ca : Er8 → Addr) : PX := orX (S_doneQ CT ca fun q => isB q = true) (S_doneQ CT ca fun q => isB q = false)
theorem ok_done {CT fI pr fr fa fm fn fv fl : Addr} {mc : Value} {ca : Er8 → Addr} {fdI fda fdm fdn fdv fdl : FuncData} (F : FnS K "_law_done" law_done_st f fd) (g_Totals : mg "Totals" = some (.ref CT)) (self1 : PySem.W.selfFirst K CT = true)
    (D_Totals : Kn P w K mg base 5 "Totals" CT ["self", "supplies", "demands"] (spInit CT (S_tinit ca)) fI fdI) (D_Totals_read : Cn P w K mg base 7 CT mc "read" (spX (S_read CT ca)) pr fr)
    (D_add : On P w K mg base 7 CT (PySem.dunder Operator.Add.info.2) (spX (S_add CT ca)) fa fda) (D_mul : On P w K mg base 7 CT "__mul__" (spX (S_mul CT ca)) fm fdm) (D_rmul : On P w K mg base 8 CT "__rmul__" (spX (S_mul CT ca)) fn fdn)
    (D_Totals_moved : Mn P w K mg base 7 CT "moved" ["self", "giver", "taker"] (spX (S_moved CT ca)) fv fdv) (D_law_added : Df P w K mg base 10 "_law_added" ["row"] (spX (S_added CT ca)) fl fdl)
    (i1 : PySem.W.findIn K (.type "int") "__mul__" = some (some (.builtin "int.__mul__"))) (i2 : PySem.W.findIn K (.type "int") "__rmul__" = some (some (.builtin "int.__rmul__"))) (sb : PySem.W.subIn K (.type "int") (.ref CT) = some false) (sb2 : PySem.W.subIn K (.ref CT) (.type "int") = some false) :
    FnOk P w K mg base (L2N.CX P w) 11 f fd ["word", "a", "b"] (spX (S_done CT ca)) := by
  refine F.ok law_done_sc (fun vs H Q E h => lenX (n := 3) (fun φs k kx e => by rcases e with ⟨_, _, e, _⟩ | ⟨_, _, e, _⟩ <;> (rw [e]; rfl)) h) (fun cdv A outer s H vs Q E hr h => ?_)
  rcases spX_or h with h | h
  · refine ⟨_, (pss_cons (ps_if (pt_cmpR op_eq (pv 0) pe_str (nomark _)) (pss_one (ps_ret (pe_make D_Totals.mkk D_Totals.ok (hr.mono (by first | decide | omega)) rfl D_Totals.g D_Totals.b .nil (passO (L2N.takes_of rfl rfl rfl rfl)) (pa_cons (pv 1) (pa_cons (pv 2) pa_nil))))) pss_nil)
      (pss_cons (ps_if (pt_cmpR op_eq (pv 0) pe_str (nomark _)) (pss_one (ps_ret (ClX.pe_cmeth (pe_glob (v := .ref CT) rfl g_Totals rfl) D_Totals_read.cr D_Totals_read.cm D_Totals_read.ok (hr.mono (by first | decide | omega)) (passO (L2N.takes_of rfl rfl rfl rfl)) (pa_cons (pv 1) pa_nil)))) pss_nil)
      (pss_cons (ps_if (pt_cmpR op_eq (pv 0) pe_str (nomark _)) (pss_one (ps_ret (pe_op (OwnB.op_own2 D_add.ok (hr.mono (by first | decide | omega)) D_add.b (passO (L2N.takes_of rfl rfl rfl rfl)) self1 D_add.s D_add.fn) (pv 1) (pv 2)))) pss_nil)
      (pss_cons (ps_if (pt_cmpR op_eq (pv 0) pe_str (nomark _)) (pss_one (ps_ret (pe_op (OwnB.op_ownT D_mul.ok (hr.mono (by first | decide | omega)) D_mul.b (passO (L2N.takes_of rfl rfl rfl rfl)) self1 D_mul.s D_mul.fn D_rmul.s i1 i2 sb) (pv 1) (pv 2)))) pss_nil)
      (pss_cons (ps_if (pt_cmpR op_eq (pv 0) pe_str (nomark _)) (pss_one (ps_ret (ErrX.pe_methE (pv 1) D_Totals_moved.cl D_Totals_moved.m D_Totals_moved.ok (hr.mono (by first | decide | omega)) D_Totals_moved.b (fun σ => L2N.passAt (L2N.takes_of rfl rfl rfl rfl) σ) (pa_cons (pe_ix ix_list (pv 2) pe_int (fun _ _ => rfl)) (pa_cons (pe_ix ix_list (pv 2) pe_int (fun _ _ => rfl)) pa_nil))))) pss_nil)
      (pss_one (ps_ret (pe_callS D_law_added.ok (hr.mono (by first | decide | omega)) rfl D_law_added.g D_law_added.kp D_law_added.b (fun σ => L2N.passAt (L2N.takes_of rfl rfl rfl rfl) σ) (pa_cons (pv 1) pa_nil))))))))), enterX (n := 3) rfl h fun A φs k kx hS hE => ?_⟩
    obtain ⟨q, hq, rfl, ft, hd⟩ := hS
    cases q with
    | timesB n a b =>
      change Dt A _ (slots 3 [TS "times", TTot CT a b, TI n]) _
      refine Dt_seq (Dt_if (Dc_test (De_op (De_var rfl (De_c (Rr_eq rfl ⟨_, rfl, br_no (by decide) (Dt_next ?_)⟩))))))
      refine Dt_seq (Dt_if (Dc_test (De_op (De_var rfl (De_c (Rr_eq rfl ⟨_, rfl, br_no (by decide) (Dt_next ?_)⟩))))))
      refine Dt_seq (Dt_if (Dc_test (De_op (De_var rfl (De_c (Rr_eq rfl ⟨_, rfl, br_no (by decide) (Dt_next ?_)⟩))))))
      refine Dt_seq (Dt_if (Dc_test (De_op (De_var rfl (De_c (Rr_eq rfl ⟨_, rfl, br_yes (by decide) ?_⟩))))))
      refine Dt_ret ?_
      exact De_ownT hE (De_var rfl (De_var rfl ⟨_, _, rfl, rfl, a, b, n, rfl, ft, hd⟩))
    | _ => cases hq
  · refine ⟨_, (pss_cons (ps_if (pt_cmpR op_eq (pv 0) pe_str (nomark _)) (pss_one (ps_ret (pe_make D_Totals.mkk D_Totals.ok (hr.mono (by first | decide | omega)) rfl D_Totals.g D_Totals.b .nil (passO (L2N.takes_of rfl rfl rfl rfl)) (pa_cons (pv 1) (pa_cons (pv 2) pa_nil))))) pss_nil)
      (pss_cons (ps_if (pt_cmpR op_eq (pv 0) pe_str (nomark _)) (pss_one (ps_ret (ClX.pe_cmeth (pe_glob (v := .ref CT) rfl g_Totals rfl) D_Totals_read.cr D_Totals_read.cm D_Totals_read.ok (hr.mono (by first | decide | omega)) (passO (L2N.takes_of rfl rfl rfl rfl)) (pa_cons (pv 1) pa_nil)))) pss_nil)
      (pss_cons (ps_if (pt_cmpR op_eq (pv 0) pe_str (nomark _)) (pss_one (ps_ret (pe_op (OwnB.op_own2 D_add.ok (hr.mono (by first | decide | omega)) D_add.b (passO (L2N.takes_of rfl rfl rfl rfl)) self1 D_add.s D_add.fn) (pv 1) (pv 2)))) pss_nil)
      (pss_cons (ps_if (pt_cmpR op_eq (pv 0) pe_str (nomark _)) (pss_one (ps_ret (pe_op (OwnB.op_ownR D_rmul.ok (hr.mono (by first | decide | omega)) D_rmul.b (passO (L2N.takes_of rfl rfl rfl rfl)) self1 D_rmul.s D_rmul.fn D_mul.s sb2) (pv 1) (pv 2)))) pss_nil)
      (pss_cons (ps_if (pt_cmpR op_eq (pv 0) pe_str (nomark _)) (pss_one (ps_ret (ErrX.pe_methE (pv 1) D_Totals_moved.cl D_Totals_moved.m D_Totals_moved.ok (hr.mono (by first | decide | omega)) D_Totals_moved.b (fun σ => L2N.passAt (L2N.takes_of rfl rfl rfl rfl) σ) (pa_cons (pe_ix ix_list (pv 2) pe_int (fun _ _ => rfl)) (pa_cons (pe_ix ix_list (pv 2) pe_int (fun _ _ => rfl)) pa_nil))))) pss_nil)
      (pss_one (ps_ret (pe_callS D_law_added.ok (hr.mono (by first | decide | omega)) rfl D_law_added.g D_law_added.kp D_law_added.b (fun σ => L2N.passAt (L2N.takes_of rfl rfl rfl rfl) σ) (pa_cons (pv 1) pa_nil))))))))), enterX (n := 3) rfl h fun A φs k kx hS hE => ?_⟩
    obtain ⟨q, hq, rfl, ft, hd⟩ := hS
    cases q with
    | timesB n a b => cases hq
    | make T1 T2 a b =>
      change Dt A _ (slots 3 [TS "make", LT T1 (TIs a), LT T2 (TIs b)]) _
      (repeat' (first | (with_reducible refine br_yes (by decide) ?_) | (with_reducible refine br_no (by decide) ?_) | ((with_reducible apply De_var); exact rfl) | with_reducible refine De_c ?_ | with_reducible refine De_op ?_ | with_reducible refine Rr_I0 ?_ | ((with_reducible refine Rr_eq ?_ ?_); exact rfl) | ((with_reducible refine Rr_ne ?_ ?_); exact rfl) | with_reducible refine De_chain ?_ | with_reducible refine ⟨_, rfl, ?_⟩ | with_reducible refine Dc_test ?_ | with_reducible refine Dc_b ?_ | with_reducible refine Dc_not ?_ | with_reducible refine Dc_and ?_ | with_reducible refine Dc_or ?_ | with_reducible refine De_and ?_ | with_reducible refine De_or ?_ | with_reducible refine De_not ?_ | with_reducible refine Dt_if ?_ | with_reducible refine Da_cons ?_ | with_reducible refine Da_nil ?_ | with_reducible refine Dt_seq ?_ | with_reducible refine Dt_next ?_ | with_reducible refine De_un ?_ | with_reducible refine br_dec (fun _ => ?_) (fun _ => ?_) | with_reducible refine br_ndec (fun _ => ?_) (fun _ => ?_) | with_reducible refine br_t ?_ | with_reducible refine br_f ?_ | with_reducible refine br_nt ?_ | with_reducible refine br_nf ?_ | ((with_reducible refine De_len ?_); first | ((with_reducible apply Dl_im); exact rfl) | ((with_reducible apply Dl_ow); exact rfl)) | ((with_reducible refine De_sumL ?_); first | ((with_reducible apply Dl_im); exact rfl) | ((with_reducible apply Dl_ow); exact rfl)) | with_reducible refine ⟨rfl, ?_⟩ | with_reducible refine De_cb ?_ | with_reducible refine Rc_min2 ?_ | with_reducible refine Rc_max2 ?_ | with_reducible refine Rc_abs ?_ | with_reducible refine Rc_int1 ?_ | with_reducible refine Rc_intB ?_ | with_reducible refine Rc_lenU ?_ | refine Rc_lenQ ?_ | with_reducible refine Rr_IC ?_ ?_ | with_reducible refine Rr_isN ?_ | with_reducible refine Rr_isN_no (nn_tup _) ?_ | with_reducible refine Rr_notN ?_ | with_reducible refine Rr_notN_no (nn_tup _) ?_ | with_reducible refine Dt_ret ?_ | with_reducible refine Dt_set ?_ | with_reducible refine Dt_drop ?_ | with_reducible refine De_call ?_ | with_reducible refine De_callN ?_ | with_reducible refine De_ifExp ?_ | with_reducible refine De_prop ?_ | with_reducible refine De_fld ?_ | with_reducible refine ⟨⟨_, rfl⟩, ?_⟩ | ((with_reducible refine De_tupL ?_); first | ((with_reducible apply Dl_im); exact rfl) | ((with_reducible apply Dl_ow); exact rfl))))
      exact De_makeX hE (Da_cons (De_var rfl (Da_cons (De_var rfl (Da_nil ⟨LT T1, LT T2, a, b, LT_lu T1, LT_lu T2, rfl, QM.of hd⟩)))))
    | read t =>
      change Dt A _ (slots 3 [TS "read", TS t, TN]) _
      (repeat' (first | (with_reducible refine br_yes (by decide) ?_) | (with_reducible refine br_no (by decide) ?_) | ((with_reducible apply De_var); exact rfl) | with_reducible refine De_c ?_ | with_reducible refine De_op ?_ | with_reducible refine Rr_I0 ?_ | ((with_reducible refine Rr_eq ?_ ?_); exact rfl) | ((with_reducible refine Rr_ne ?_ ?_); exact rfl) | with_reducible refine De_chain ?_ | with_reducible refine ⟨_, rfl, ?_⟩ | with_reducible refine Dc_test ?_ | with_reducible refine Dc_b ?_ | with_reducible refine Dc_not ?_ | with_reducible refine Dc_and ?_ | with_reducible refine Dc_or ?_ | with_reducible refine De_and ?_ | with_reducible refine De_or ?_ | with_reducible refine De_not ?_ | with_reducible refine Dt_if ?_ | with_reducible refine Da_cons ?_ | with_reducible refine Da_nil ?_ | with_reducible refine Dt_seq ?_ | with_reducible refine Dt_next ?_ | with_reducible refine De_un ?_ | with_reducible refine br_dec (fun _ => ?_) (fun _ => ?_) | with_reducible refine br_ndec (fun _ => ?_) (fun _ => ?_) | with_reducible refine br_t ?_ | with_reducible refine br_f ?_ | with_reducible refine br_nt ?_ | with_reducible refine br_nf ?_ | ((with_reducible refine De_len ?_); first | ((with_reducible apply Dl_im); exact rfl) | ((with_reducible apply Dl_ow); exact rfl)) | ((with_reducible refine De_sumL ?_); first | ((with_reducible apply Dl_im); exact rfl) | ((with_reducible apply Dl_ow); exact rfl)) | with_reducible refine ⟨rfl, ?_⟩ | with_reducible refine De_cb ?_ | with_reducible refine Rc_min2 ?_ | with_reducible refine Rc_max2 ?_ | with_reducible refine Rc_abs ?_ | with_reducible refine Rc_int1 ?_ | with_reducible refine Rc_intB ?_ | with_reducible refine Rc_lenU ?_ | refine Rc_lenQ ?_ | with_reducible refine Rr_IC ?_ ?_ | with_reducible refine Rr_isN ?_ | with_reducible refine Rr_isN_no (nn_tup _) ?_ | with_reducible refine Rr_notN ?_ | with_reducible refine Rr_notN_no (nn_tup _) ?_ | with_reducible refine Dt_ret ?_ | with_reducible refine Dt_set ?_ | with_reducible refine Dt_drop ?_ | with_reducible refine De_call ?_ | with_reducible refine De_callN ?_ | with_reducible refine De_ifExp ?_ | with_reducible refine De_prop ?_ | with_reducible refine De_fld ?_ | with_reducible refine ⟨⟨_, rfl⟩, ?_⟩ | ((with_reducible refine De_tupL ?_); first | ((with_reducible apply Dl_im); exact rfl) | ((with_reducible apply Dl_ow); exact rfl))))
      exact De_cmeth hE (De_c ⟨rfl, Da_cons (De_var rfl (Da_nil ⟨t, rfl, ft, read_of hd⟩))⟩)
    | plus a b c d =>
      change Dt A _ (slots 3 [TS "plus", TTot CT a b, TTot CT c d]) _
      refine Dt_seq (Dt_if (Dc_test (De_op (De_var rfl (De_c (Rr_eq rfl ⟨_, rfl, br_no (by decide) (Dt_next ?_)⟩))))))
      refine Dt_seq (Dt_if (Dc_test (De_op (De_var rfl (De_c (Rr_eq rfl ⟨_, rfl, br_no (by decide) (Dt_next ?_)⟩))))))
      refine Dt_seq (Dt_if (Dc_test (De_op (De_var rfl (De_c (Rr_eq rfl ⟨_, rfl, br_yes (by decide) ?_⟩))))))
      refine Dt_ret ?_
      exact De_own2 hE (De_var rfl (De_var rfl ⟨_, _, rfl, rfl, a, b, c, d, rfl, ft.1, ft.2, hd⟩))
    | timesN n a b =>
      change Dt A _ (slots 3 [TS "times", TI n, TTot CT a b]) _
      refine Dt_seq (Dt_if (Dc_test (De_op (De_var rfl (De_c (Rr_eq rfl ⟨_, rfl, br_no (by decide) (Dt_next ?_)⟩))))))
      refine Dt_seq (Dt_if (Dc_test (De_op (De_var rfl (De_c (Rr_eq rfl ⟨_, rfl, br_no (by decide) (Dt_next ?_)⟩))))))
      refine Dt_seq (Dt_if (Dc_test (De_op (De_var rfl (De_c (Rr_eq rfl ⟨_, rfl, br_no (by decide) (Dt_next ?_)⟩))))))
      refine Dt_seq (Dt_if (Dc_test (De_op (De_var rfl (De_c (Rr_eq rfl ⟨_, rfl, br_yes (by decide) ?_⟩))))))
      refine Dt_ret ?_
      exact De_ownR hE (De_var rfl (De_var rfl ⟨_, _, rfl, rfl, a, b, n, rfl, ft, hd⟩))
    | moved a b g t =>
      change Dt A _ (slots 3 [TS "moved", TTot CT a b, TL [TI g, TI t]]) _
      (repeat' (first | (with_reducible refine br_yes (by decide) ?_) | (with_reducible refine br_no (by decide) ?_) | ((with_reducible apply De_var); exact rfl) | with_reducible refine De_c ?_ | with_reducible refine De_op ?_ | with_reducible refine Rr_I0 ?_ | ((with_reducible refine Rr_eq ?_ ?_); exact rfl) | ((with_reducible refine Rr_ne ?_ ?_); exact rfl) | with_reducible refine De_chain ?_ | with_reducible refine ⟨_, rfl, ?_⟩ | with_reducible refine Dc_test ?_ | with_reducible refine Dc_b ?_ | with_reducible refine Dc_not ?_ | with_reducible refine Dc_and ?_ | with_reducible refine Dc_or ?_ | with_reducible refine De_and ?_ | with_reducible refine De_or ?_ | with_reducible refine De_not ?_ | with_reducible refine Dt_if ?_ | with_reducible refine Da_cons ?_ | with_reducible refine Da_nil ?_ | with_reducible refine Dt_seq ?_ | with_reducible refine Dt_next ?_ | with_reducible refine De_un ?_ | with_reducible refine br_dec (fun _ => ?_) (fun _ => ?_) | with_reducible refine br_ndec (fun _ => ?_) (fun _ => ?_) | with_reducible refine br_t ?_ | with_reducible refine br_f ?_ | with_reducible refine br_nt ?_ | with_reducible refine br_nf ?_ | ((with_reducible refine De_len ?_); first | ((with_reducible apply Dl_im); exact rfl) | ((with_reducible apply Dl_ow); exact rfl)) | ((with_reducible refine De_sumL ?_); first | ((with_reducible apply Dl_im); exact rfl) | ((with_reducible apply Dl_ow); exact rfl)) | with_reducible refine ⟨rfl, ?_⟩ | with_reducible refine De_cb ?_ | with_reducible refine Rc_min2 ?_ | with_reducible refine Rc_max2 ?_ | with_reducible refine Rc_abs ?_ | with_reducible refine Rc_int1 ?_ | with_reducible refine Rc_intB ?_ | with_reducible refine Rc_lenU ?_ | refine Rc_lenQ ?_ | with_reducible refine Rr_IC ?_ ?_ | with_reducible refine Rr_isN ?_ | with_reducible refine Rr_isN_no (nn_tup _) ?_ | with_reducible refine Rr_notN ?_ | with_reducible refine Rr_notN_no (nn_tup _) ?_ | with_reducible refine Dt_ret ?_ | with_reducible refine Dt_set ?_ | with_reducible refine Dt_drop ?_ | with_reducible refine De_call ?_ | with_reducible refine De_callN ?_ | with_reducible refine De_ifExp ?_ | with_reducible refine De_prop ?_ | with_reducible refine De_fld ?_ | with_reducible refine ⟨⟨_, rfl⟩, ?_⟩ | ((with_reducible refine De_tupL ?_); first | ((with_reducible apply Dl_im); exact rfl) | ((with_reducible apply Dl_ow); exact rfl))))
      exact De_methE (fun _ => hE) (De_var rfl ⟨_, rfl, rfl, Da_cons (De_op (De_var rfl (De_c (Rr_ixL rfl (Da_cons (De_op (De_var rfl (De_c (Rr_ixL rfl (Da_nil ⟨a, b, g, t, rfl, ft, hd⟩))))))))))⟩)
    | added a b rows =>
      change Dt A _ (slots 3 [TS "added", TL (TTot CT a b :: rows.map fun r => TTot CT r.1 r.2), TN]) _
      (repeat' (first | (with_reducible refine br_yes (by decide) ?_) | (with_reducible refine br_no (by decide) ?_) | ((with_reducible apply De_var); exact rfl) | with_reducible refine De_c ?_ | with_reducible refine De_op ?_ | with_reducible refine Rr_I0 ?_ | ((with_reducible refine Rr_eq ?_ ?_); exact rfl) | ((with_reducible refine Rr_ne ?_ ?_); exact rfl) | with_reducible refine De_chain ?_ | with_reducible refine ⟨_, rfl, ?_⟩ | with_reducible refine Dc_test ?_ | with_reducible refine Dc_b ?_ | with_reducible refine Dc_not ?_ | with_reducible refine Dc_and ?_ | with_reducible refine Dc_or ?_ | with_reducible refine De_and ?_ | with_reducible refine De_or ?_ | with_reducible refine De_not ?_ | with_reducible refine Dt_if ?_ | with_reducible refine Da_cons ?_ | with_reducible refine Da_nil ?_ | with_reducible refine Dt_seq ?_ | with_reducible refine Dt_next ?_ | with_reducible refine De_un ?_ | with_reducible refine br_dec (fun _ => ?_) (fun _ => ?_) | with_reducible refine br_ndec (fun _ => ?_) (fun _ => ?_) | with_reducible refine br_t ?_ | with_reducible refine br_f ?_ | with_reducible refine br_nt ?_ | with_reducible refine br_nf ?_ | ((with_reducible refine De_len ?_); first | ((with_reducible apply Dl_im); exact rfl) | ((with_reducible apply Dl_ow); exact rfl)) | ((with_reducible refine De_sumL ?_); first | ((with_reducible apply Dl_im); exact rfl) | ((with_reducible apply Dl_ow); exact rfl)) | with_reducible refine ⟨rfl, ?_⟩ | with_reducible refine De_cb ?_ | with_reducible refine Rc_min2 ?_ | with_reducible refine Rc_max2 ?_ | with_reducible refine Rc_abs ?_ | with_reducible refine Rc_int1 ?_ | with_reducible refine Rc_intB ?_ | with_reducible refine Rc_lenU ?_ | refine Rc_lenQ ?_ | with_reducible refine Rr_IC ?_ ?_ | with_reducible refine Rr_isN ?_ | with_reducible refine Rr_isN_no (nn_tup _) ?_ | with_reducible refine Rr_notN ?_ | with_reducible refine Rr_notN_no (nn_tup _) ?_ | with_reducible refine Dt_ret ?_ | with_reducible refine Dt_set ?_ | with_reducible refine Dt_drop ?_ | with_reducible refine De_call ?_ | with_reducible refine De_callN ?_ | with_reducible refine De_ifExp ?_ | with_reducible refine De_prop ?_ | with_reducible refine De_fld ?_ | with_reducible refine ⟨⟨_, rfl⟩, ?_⟩ | ((with_reducible refine De_tupL ?_); first | ((with_reducible apply Dl_im); exact rfl) | ((with_reducible apply Dl_ow); exact rfl))))
      exact De_callS (fun _ => hE) (Da_cons (De_var rfl (Da_nil ⟨a, b, rows, rfl, ft.1, ft.2.1, ft.2.2, hd⟩)))
end
end K08
set_option Elab.async false
set_option linter.all false
set_option maxRecDepth 100000
set_option maxHeartbeats 8000000
namespace K08
open PySem PySem.Spec PyProof.Rows L2 Wl Kx
section
variable {P : Program} {w : World} {K : PySem.W.Frag} {mg : Str → Option Value} {base : Heap} {f : Addr} {fd : FuncData}
def askT (CT : Addr) (N : Addr → Prop) : Due → Ty
  | .mad a b => TU [TS "made", TTot CT a b]
  | .ref e xs => TU [TS "refused", TS e.nm, TLn N (xs.map TV), TLn N [TS "DepotError", TS e.nm]]
def lAsk (K : PySem.W.Frag) (ca : Er8 → Addr) : List (Value × TryAs.Su) := [(.ref (ca .siz), fun a cls d => tRet (tTup (tCons (tC (.str "refused")) (tCons (tC (.str "BadSize")) (tCons (tLst (tCons (ErrX.tFldG K a cls d "size" (tVar 3)) tNil)) (tCons (ErrX.tCallE (spCls ca) a cls d (fun _ => E0) (tCons (tVar 3) tNil)) tNil)))))),
  (.ref (ca .len), fun a cls d => tRet (tTup (tCons (tC (.str "refused")) (tCons (tC (.str "BadLength")) (tCons (tLst (tCons (ErrX.tFldG K a cls d "length" (tVar 3)) tNil)) (tCons (ErrX.tCallE (spCls ca) a cls d (fun _ => E0) (tCons (tVar 3) tNil)) tNil)))))),
  (.ref (ca .cnt), fun a cls d => tRet (tTup (tCons (tC (.str "refused")) (tCons (tC (.str "BadCount")) (tCons (tLst (tCons (ErrX.tFldG K a cls d "number" (tVar 3)) tNil)) (tCons (ErrX.tCallE (spCls ca) a cls d (fun _ => E0) (tCons (tVar 3) tNil)) tNil)))))),
  (.ref (ca .unb), fun a cls d => tRet (tTup (tCons (tC (.str "refused")) (tCons (tC (.str "Unbalanced")) (tCons (tLst (tCons (ErrX.tFldG K a cls d "supply" (tVar 3)) (tCons (ErrX.tFldG K a cls d "demand" (tVar 3)) tNil))) (tCons (ErrX.tCallE (spCls ca) a cls d (fun _ => E0) (tCons (tVar 3) tNil)) tNil)))))),
  (.ref (ca .mos), fun a cls d => tRet (tTup (tCons (tC (.str "refused")) (tCons (tC (.str "TooMany")) (tCons (tLst (tCons (ErrX.tFldG K a cls d "most" (tVar 3)) tNil)) (tCons (ErrX.tCallE (spCls ca) a cls d (fun _ => E0) (tCons (tVar 3) tNil)) tNil)))))),
  (.ref (ca .dep), fun a cls d => tRet (tTup (tCons (tC (.str "refused")) (tCons (tC (.str "NoDepot")) (tCons (tLst (tCons (ErrX.tFldG K a cls d "depot" (tVar 3)) tNil)) (tCons (ErrX.tCallE (spCls ca) a cls d (fun _ => E0) (tCons (tVar 3) tNil)) tNil)))))),
  (.ref (ca .sup), fun a cls d => tRet (tTup (tCons (tC (.str "refused")) (tCons (tC (.str "NoSupply")) (tCons (tLst (tCons (ErrX.tFldG K a cls d "depot" (tVar 3)) tNil)) (tCons (ErrX.tCallE (spCls ca) a cls d (fun _ => E0) (tCons (tVar 3) tNil)) tNil)))))),
  (.ref (ca .unr), fun a cls d => tRet (tTup (tCons (tC (.str "refused")) (tCons (tC (.str "Unread")) (tCons (tLst (tCons (ErrX.tFldG K a cls d "text" (tVar 3)) tNil)) (tCons (ErrX.tCallE (spCls ca) a cls d (fun _ => E0) (tCons (tVar 3) tNil)) tNil))))))]
/-! ### _law_ask -/
abbrev law_ask_N : List Str := ["word", "a", "b", "e"]
theorem law_ask_sc : FnScope ["word", "a", "b", "e"] ["word", "a", "b"] (defScope law_ask_st) := ⟨rfl, rfl, rfl, by decide +kernel, rfl, by decide +kernel, by decide +kernel⟩
def spAsk (CT : Addr) : Sp := fun vs H Q _ => ∃ (W : Wd) (q : Qk), In W H ∧ Are W [TS q.S, (q.A CT).1, (q.A CT).2] vs ∧ q.fit ∧ ∀ v W2 H2, Fr W H W2 H2 → (askT CT (fun p => H p = none) q.due).is W2 v → Q v H2
theorem De_callCls {A : Wd × Hp} {Φ : List Sl} {k : Ty → Prop} {ca : Er8 → Addr} {a dd : Addr} {fs : List (Str × V)} {i : Nat} {e : Er8} (ev : Φ[i]? = some (.im (TEx a dd fs))) (h : k (TLn (fun p => A.2 p = none) [TS "DepotError", TS e.nm])) : De A (ErrX.tCallE (spCls ca) a (.ref (ca e)) (some dd) (fun _ => E0) (tCons (tVar i) tNil)) Φ k := fun σ W H at_ Q q => by
  obtain ⟨u, s1, rfl, p1⟩ := at_.env.im i _ ev
  refine ⟨.ref a, s1, e, dd, fs, W, rfl, rfl, rfl, at_.inn, p1, fun v W2 H2 f2 ⟨p, vs, e1, n, b, ar⟩ => ?_⟩
  exact q (TLn (fun p => A.2 p = none) [TS "DepotError", TS e.nm]) v W2 H2 f2 ⟨p, vs, e1, at_.fr.was n, b, ar⟩ h
/-- which clause takes which error -/
structure ExQ (K : PySem.W.Frag) (ca : Er8 → Addr) (e : Er8) : Prop where
  exc : L2.ExcC K (ca e)
  m : ∀ e', PySem.W.exmOne K (.ref (ca e)) (.ref (ca e')) = some (decide (e = e'))
  no : ∀ q ∈ e.fl [.non, .non], PySem.W.findIn K (.ref (ca e)) q.1 = some none
theorem ok_ask {CT f0 f1 : Addr} {fd0 fd1 : FuncData} {ca : Er8 → Addr} (F : FnS K "_law_ask" law_ask_st f fd) (D_law_done : Df P w K mg base 11 "_law_done" ["word", "a", "b"] (spX (S_done CT ca)) f1 fd1)
    (FE : ErrX.FnE P w K mg base (L2N.CX P w) 1 f0 fd0 ["e"] (spCls ca)) (g0 : mg "_law_classes" = some (.ref f0)) (kp0 : PySem.W.keepIn K (.ref f0) = true) (b0 : Binds K fd0 ["e"] []) (gE : ∀ e : Er8, mg e.nm = some (.ref (ca e))) (XQ : ∀ e, ExQ K ca e) :
    FnOk P w K mg base (L2N.CX P w) 12 f fd ["word", "a", "b"] (spAsk CT) := by
  refine F.ok law_ask_sc (fun vs H Q E h => ?_) (fun cdv A outer s H vs Q E hr h => ?_)
  · obtain ⟨W, q, _, ar, _⟩ := h
    exact ar.len
  obtain ⟨W, q, inn, ar, ft, qq⟩ := h
  refine ⟨_, (pss_one (TryAs.ps_try_manyAs (i := 3) (n := "e") (l := lAsk K ca) (tb := fun W => tRet (tTup (tCons (tC (.str "made")) (tCons (tCallS (spX (S_done CT ca)) (L2.WE W) (tCons (tVar 0) (tCons (tVar 1) (tCons (tVar 2) tNil)))) tNil)))) rfl rfl law_ask_sc.nd rfl rfl (L2N.takes_of rfl rfl rfl rfl) (fun W pn xe tk po => pss_one (ps_ret (pe_tup (pa_cons pe_str (pa_cons (pe_callS D_law_done.ok (hr.mono (by decide)) rfl D_law_done.g D_law_done.kp D_law_done.b (fun σ => L2N.passAt tk σ) (pa_cons (pv 0) (pa_cons (pv 1) (pa_cons (pv 2) pa_nil)))) pa_nil))))) (by
      refine TryAs.Cls.cons ⟨rfl, by decide, Or.inl (gE .siz)⟩ ?_ ?_ --nb
      · exact (fun a oe cls d pn hz hf => pss_one (ps_ret (pe_tup (pa_cons pe_str (pa_cons pe_str (pa_cons (pe_lst (pa_cons (ErrX.pe_fldG (by exact ErrX.hotE_suite hz hf) (pv 3)) pa_nil)) (pa_cons (ErrX.pe_callE (E := fun _ => E0) (by exact FE) (by exact L2H.roomH_mark (hr.mono (by decide)) _) (by exact ErrX.hotE_suite hz hf) (by rfl) (by exact g0) (by exact kp0) (by exact b0) (by exact fun σ pins => ErrX.passN pins σ) (pa_cons (pv 3) pa_nil)) pa_nil))))))) --nb
      refine TryAs.Cls.cons ⟨rfl, by decide, Or.inl (gE .len)⟩ ?_ ?_ --nb
      · exact (fun a oe cls d pn hz hf => pss_one (ps_ret (pe_tup (pa_cons pe_str (pa_cons pe_str (pa_cons (pe_lst (pa_cons (ErrX.pe_fldG (by exact ErrX.hotE_suite hz hf) (pv 3)) pa_nil)) (pa_cons (ErrX.pe_callE (E := fun _ => E0) (by exact FE) (by exact L2H.roomH_mark (hr.mono (by decide)) _) (by exact ErrX.hotE_suite hz hf) (by rfl) (by exact g0) (by exact kp0) (by exact b0) (by exact fun σ pins => ErrX.passN pins σ) (pa_cons (pv 3) pa_nil)) pa_nil))))))) --nb
      refine TryAs.Cls.cons ⟨rfl, by decide, Or.inl (gE .cnt)⟩ ?_ ?_ --nb
      · exact (fun a oe cls d pn hz hf => pss_one (ps_ret (pe_tup (pa_cons pe_str (pa_cons pe_str (pa_cons (pe_lst (pa_cons (ErrX.pe_fldG (by exact ErrX.hotE_suite hz hf) (pv 3)) pa_nil)) (pa_cons (ErrX.pe_callE (E := fun _ => E0) (by exact FE) (by exact L2H.roomH_mark (hr.mono (by decide)) _) (by exact ErrX.hotE_suite hz hf) (by rfl) (by exact g0) (by exact kp0) (by exact b0) (by exact fun σ pins => ErrX.passN pins σ) (pa_cons (pv 3) pa_nil)) pa_nil))))))) --nb
      refine TryAs.Cls.cons ⟨rfl, by decide, Or.inl (gE .unb)⟩ ?_ ?_ --nb
      · exact (fun a oe cls d pn hz hf => pss_one (ps_ret (pe_tup (pa_cons pe_str (pa_cons pe_str (pa_cons (pe_lst (pa_cons (ErrX.pe_fldG (by exact ErrX.hotE_suite hz hf) (pv 3)) (pa_cons (ErrX.pe_fldG (by exact ErrX.hotE_suite hz hf) (pv 3)) pa_nil))) (pa_cons (ErrX.pe_callE (E := fun _ => E0) (by exact FE) (by exact L2H.roomH_mark (hr.mono (by decide)) _) (by exact ErrX.hotE_suite hz hf) (by rfl) (by exact g0) (by exact kp0) (by exact b0) (by exact fun σ pins => ErrX.passN pins σ) (pa_cons (pv 3) pa_nil)) pa_nil))))))) --nb
      refine TryAs.Cls.cons ⟨rfl, by decide, Or.inl (gE .mos)⟩ ?_ ?_ --nb
      · exact (fun a oe cls d pn hz hf => pss_one (ps_ret (pe_tup (pa_cons pe_str (pa_cons pe_str (pa_cons (pe_lst (pa_cons (ErrX.pe_fldG (by exact ErrX.hotE_suite hz hf) (pv 3)) pa_nil)) (pa_cons (ErrX.pe_callE (E := fun _ => E0) (by exact FE) (by exact L2H.roomH_mark (hr.mono (by decide)) _) (by exact ErrX.hotE_suite hz hf) (by rfl) (by exact g0) (by exact kp0) (by exact b0) (by exact fun σ pins => ErrX.passN pins σ) (pa_cons (pv 3) pa_nil)) pa_nil))))))) --nb
      refine TryAs.Cls.cons ⟨rfl, by decide, Or.inl (gE .dep)⟩ ?_ ?_ --nb
      · exact (fun a oe cls d pn hz hf => pss_one (ps_ret (pe_tup (pa_cons pe_str (pa_cons pe_str (pa_cons (pe_lst (pa_cons (ErrX.pe_fldG (by exact ErrX.hotE_suite hz hf) (pv 3)) pa_nil)) (pa_cons (ErrX.pe_callE (E := fun _ => E0) (by exact FE) (by exact L2H.roomH_mark (hr.mono (by decide)) _) (by exact ErrX.hotE_suite hz hf) (by rfl) (by exact g0) (by exact kp0) (by exact b0) (by exact fun σ pins => ErrX.passN pins σ) (pa_cons (pv 3) pa_nil)) pa_nil))))))) --nb
      refine TryAs.Cls.cons ⟨rfl, by decide, Or.inl (gE .sup)⟩ ?_ ?_ --nb
      · exact (fun a oe cls d pn hz hf => pss_one (ps_ret (pe_tup (pa_cons pe_str (pa_cons pe_str (pa_cons (pe_lst (pa_cons (ErrX.pe_fldG (by exact ErrX.hotE_suite hz hf) (pv 3)) pa_nil)) (pa_cons (ErrX.pe_callE (E := fun _ => E0) (by exact FE) (by exact L2H.roomH_mark (hr.mono (by decide)) _) (by exact ErrX.hotE_suite hz hf) (by rfl) (by exact g0) (by exact kp0) (by exact b0) (by exact fun σ pins => ErrX.passN pins σ) (pa_cons (pv 3) pa_nil)) pa_nil))))))) --nb
      refine TryAs.Cls.cons ⟨rfl, by decide, Or.inl (gE .unr)⟩ ?_ ?_ --nb
      · exact (fun a oe cls d pn hz hf => pss_one (ps_ret (pe_tup (pa_cons pe_str (pa_cons pe_str (pa_cons (pe_lst (pa_cons (ErrX.pe_fldG (by exact ErrX.hotE_suite hz hf) (pv 3)) pa_nil)) (pa_cons (ErrX.pe_callE (E := fun _ => E0) (by exact FE) (by exact L2H.roomH_mark (hr.mono (by decide)) _) (by exact ErrX.hotE_suite hz hf) (by rfl) (by exact g0) (by exact kp0) (by exact b0) (by exact fun σ pins => ErrX.passN pins σ) (pa_cons (pv 3) pa_nil)) pa_nil))))))) --nb
      exact .nil))), ?_⟩
  have at0 : At (W, H) W H (slots 4 [TS q.S, (q.A CT).1, (q.A CT).2]) (L2.start law_ask_N vs) := ⟨Fr.refl inn, en_start (N := law_ask_N) ar⟩
  have dok := Qk.ok ft
  generalize hd : q.due = D at qq dok
  have fin : ∀ φ v W2 H2, Fr W H W2 H2 → φ.is W2 v → φ = askT CT (fun p => H p = none) D → Q v H2 := fun φ v W2 H2 f2 p2 e2 => qq v W2 H2 f2 (e2 ▸ p2)
  have fin2 : ∀ {W1 : Wd} {H1 : Hp}, Fr W H W1 H1 → ∀ φ v W2 H2, Fr W1 H1 W2 H2 → φ.is W2 v → φ = askT CT (fun p => H p = none) D → Q v H2 := fun f1 φ v W2 H2 f2 p2 e2 => qq v W2 H2 (f1.trans f2) (e2 ▸ p2)
  refine De_tup (A := (W, H)) (k := fun φ => φ = askT CT (fun p => H p = none) D) (Da_cons (De_c (Da_cons (De_callA (kx := fun C ts => ∃ (e : Er8) (xs : List V), D = .ref e xs ∧ e.ok xs ∧ C = ca e ∧ ts = e.fl xs) (fun σ W1 H1 a1 => ?_) (Da_cons (De_var rfl (Da_cons (De_var rfl (Da_cons (De_var rfl (Da_nil ?_))))))))))) _ W H at0 _ fin
  · rintro C ts d fs W2 H2 f2 hb fl ⟨e, xs, eD, eo, rfl, rfl⟩
    have fin := fin2 (a1.fr.trans f2)
    cases e with
    | siz =>
      refine ⟨_, (XQ _).m _, fun _ x nx => ?_, fun z => absurd z (by decide)⟩
      have at2 : At (W, H) W2 H2 _ (σ.set 3 (some (.ref x))) := ((a1.up f2).set (i := 3) (φ := TEx x d fs) ⟨rfl, hb⟩)
      have e4 : (List.set (slots 4 [TS q.S, (q.A CT).1, (q.A CT).2]) 3 (.im (TEx x d fs)))[3]? = some (.im (TEx x d fs)) := rfl
      generalize σ.set 3 (some (.ref x)) = σ' at at2 ⊢
      obtain ⟨y, rfl⟩ : ∃ y : Int, xs = [.int y] := eo
      obtain ⟨v, lv, ev⟩ := fl.get (n := "size") rfl
      obtain rfl : v = .int y := ev
      refine De_tup (Da_cons (De_c (Da_cons (De_c (Da_cons (De_lstN (Da_cons (De_fldG (XQ .siz).exc ((XQ .siz).no ("size", TV .non) (by simp [Er8.fl])) e4 lv (Da_nil ⟨Nat.le_of_ble_eq_true rfl, ?_⟩))))))))) σ' W2 H2 at2 _ fin
      exact Da_cons (De_callCls e4 (Da_nil ⟨Nat.le_of_ble_eq_true rfl, by rw [eD]; rfl⟩))
    | len =>
      refine ⟨_, (XQ _).m _, fun z => absurd z (by decide), fun _ => ?_⟩
      refine ⟨_, (XQ _).m _, fun _ x nx => ?_, fun z => absurd z (by decide)⟩
      have at2 : At (W, H) W2 H2 _ (σ.set 3 (some (.ref x))) := ((a1.up f2).set (i := 3) (φ := TEx x d fs) ⟨rfl, hb⟩)
      have e4 : (List.set (slots 4 [TS q.S, (q.A CT).1, (q.A CT).2]) 3 (.im (TEx x d fs)))[3]? = some (.im (TEx x d fs)) := rfl
      generalize σ.set 3 (some (.ref x)) = σ' at at2 ⊢
      obtain ⟨y, rfl⟩ : ∃ y : Int, xs = [.int y] := eo
      obtain ⟨v, lv, ev⟩ := fl.get (n := "length") rfl
      obtain rfl : v = .int y := ev
      refine De_tup (Da_cons (De_c (Da_cons (De_c (Da_cons (De_lstN (Da_cons (De_fldG (XQ .len).exc ((XQ .len).no ("length", TV .non) (by simp [Er8.fl])) e4 lv (Da_nil ⟨Nat.le_of_ble_eq_true rfl, ?_⟩))))))))) σ' W2 H2 at2 _ fin
      exact Da_cons (De_callCls e4 (Da_nil ⟨Nat.le_of_ble_eq_true rfl, by rw [eD]; rfl⟩))
    | cnt =>
      refine ⟨_, (XQ _).m _, fun z => absurd z (by decide), fun _ => ?_⟩
      refine ⟨_, (XQ _).m _, fun z => absurd z (by decide), fun _ => ?_⟩
      refine ⟨_, (XQ _).m _, fun _ x nx => ?_, fun z => absurd z (by decide)⟩
      have at2 : At (W, H) W2 H2 _ (σ.set 3 (some (.ref x))) := ((a1.up f2).set (i := 3) (φ := TEx x d fs) ⟨rfl, hb⟩)
      have e4 : (List.set (slots 4 [TS q.S, (q.A CT).1, (q.A CT).2]) 3 (.im (TEx x d fs)))[3]? = some (.im (TEx x d fs)) := rfl
      generalize σ.set 3 (some (.ref x)) = σ' at at2 ⊢
      obtain ⟨y, rfl⟩ : ∃ y : Int, xs = [.int y] := eo
      obtain ⟨v, lv, ev⟩ := fl.get (n := "number") rfl
      obtain rfl : v = .int y := ev
      refine De_tup (Da_cons (De_c (Da_cons (De_c (Da_cons (De_lstN (Da_cons (De_fldG (XQ .cnt).exc ((XQ .cnt).no ("number", TV .non) (by simp [Er8.fl])) e4 lv (Da_nil ⟨Nat.le_of_ble_eq_true rfl, ?_⟩))))))))) σ' W2 H2 at2 _ fin
      exact Da_cons (De_callCls e4 (Da_nil ⟨Nat.le_of_ble_eq_true rfl, by rw [eD]; rfl⟩))
    | unb =>
      refine ⟨_, (XQ _).m _, fun z => absurd z (by decide), fun _ => ?_⟩
      refine ⟨_, (XQ _).m _, fun z => absurd z (by decide), fun _ => ?_⟩
      refine ⟨_, (XQ _).m _, fun z => absurd z (by decide), fun _ => ?_⟩
      refine ⟨_, (XQ _).m _, fun _ x nx => ?_, fun z => absurd z (by decide)⟩
      have at2 : At (W, H) W2 H2 _ (σ.set 3 (some (.ref x))) := ((a1.up f2).set (i := 3) (φ := TEx x d fs) ⟨rfl, hb⟩)
      have e4 : (List.set (slots 4 [TS q.S, (q.A CT).1, (q.A CT).2]) 3 (.im (TEx x d fs)))[3]? = some (.im (TEx x d fs)) := rfl
      generalize σ.set 3 (some (.ref x)) = σ' at at2 ⊢
      obtain ⟨y, z, rfl⟩ : ∃ y z : Int, xs = [.int y, .int z] := eo
      obtain ⟨v, lv, ev⟩ := fl.get (n := "supply") rfl
      obtain rfl : v = .int y := ev
      obtain ⟨v2, lv2, ev2⟩ := fl.get (n := "demand") rfl
      obtain rfl : v2 = .int z := ev2
      refine De_tup (Da_cons (De_c (Da_cons (De_c (Da_cons (De_lstN (Da_cons (De_fldG (XQ .unb).exc ((XQ .unb).no ("supply", TV .non) (by simp [Er8.fl])) e4 lv (Da_cons (De_fldG (XQ .unb).exc ((XQ .unb).no ("demand", TV .non) (by simp [Er8.fl])) e4 lv2 (Da_nil ⟨Nat.le_of_ble_eq_true rfl, ?_⟩))))))))))) σ' W2 H2 at2 _ fin
      exact Da_cons (De_callCls e4 (Da_nil ⟨Nat.le_of_ble_eq_true rfl, by rw [eD]; rfl⟩))
    | mos =>
      refine ⟨_, (XQ _).m _, fun z => absurd z (by decide), fun _ => ?_⟩
      refine ⟨_, (XQ _).m _, fun z => absurd z (by decide), fun _ => ?_⟩
      refine ⟨_, (XQ _).m _, fun z => absurd z (by decide), fun _ => ?_⟩
      refine ⟨_, (XQ _).m _, fun z => absurd z (by decide), fun _ => ?_⟩
      refine ⟨_, (XQ _).m _, fun _ x nx => ?_, fun z => absurd z (by decide)⟩
      have at2 : At (W, H) W2 H2 _ (σ.set 3 (some (.ref x))) := ((a1.up f2).set (i := 3) (φ := TEx x d fs) ⟨rfl, hb⟩)
      have e4 : (List.set (slots 4 [TS q.S, (q.A CT).1, (q.A CT).2]) 3 (.im (TEx x d fs)))[3]? = some (.im (TEx x d fs)) := rfl
      generalize σ.set 3 (some (.ref x)) = σ' at at2 ⊢
      obtain ⟨y, rfl⟩ : ∃ y : Int, xs = [.int y] := eo
      obtain ⟨v, lv, ev⟩ := fl.get (n := "most") rfl
      obtain rfl : v = .int y := ev
      refine De_tup (Da_cons (De_c (Da_cons (De_c (Da_cons (De_lstN (Da_cons (De_fldG (XQ .mos).exc ((XQ .mos).no ("most", TV .non) (by simp [Er8.fl])) e4 lv (Da_nil ⟨Nat.le_of_ble_eq_true rfl, ?_⟩))))))))) σ' W2 H2 at2 _ fin
      exact Da_cons (De_callCls e4 (Da_nil ⟨Nat.le_of_ble_eq_true rfl, by rw [eD]; rfl⟩))
    | dep =>
      refine ⟨_, (XQ _).m _, fun z => absurd z (by decide), fun _ => ?_⟩
      refine ⟨_, (XQ _).m _, fun z => absurd z (by decide), fun _ => ?_⟩
      refine ⟨_, (XQ _).m _, fun z => absurd z (by decide), fun _ => ?_⟩
      refine ⟨_, (XQ _).m _, fun z => absurd z (by decide), fun _ => ?_⟩
      refine ⟨_, (XQ _).m _, fun z => absurd z (by decide), fun _ => ?_⟩
      refine ⟨_, (XQ _).m _, fun _ x nx => ?_, fun z => absurd z (by decide)⟩
      have at2 : At (W, H) W2 H2 _ (σ.set 3 (some (.ref x))) := ((a1.up f2).set (i := 3) (φ := TEx x d fs) ⟨rfl, hb⟩)
      have e4 : (List.set (slots 4 [TS q.S, (q.A CT).1, (q.A CT).2]) 3 (.im (TEx x d fs)))[3]? = some (.im (TEx x d fs)) := rfl
      generalize σ.set 3 (some (.ref x)) = σ' at at2 ⊢
      obtain ⟨y, rfl⟩ : ∃ y : Int, xs = [.int y] := eo
      obtain ⟨v, lv, ev⟩ := fl.get (n := "depot") rfl
      obtain rfl : v = .int y := ev
      refine De_tup (Da_cons (De_c (Da_cons (De_c (Da_cons (De_lstN (Da_cons (De_fldG (XQ .dep).exc ((XQ .dep).no ("depot", TV .non) (by simp [Er8.fl])) e4 lv (Da_nil ⟨Nat.le_of_ble_eq_true rfl, ?_⟩))))))))) σ' W2 H2 at2 _ fin
      exact Da_cons (De_callCls e4 (Da_nil ⟨Nat.le_of_ble_eq_true rfl, by rw [eD]; rfl⟩))
    | sup =>
      refine ⟨_, (XQ _).m _, fun z => absurd z (by decide), fun _ => ?_⟩
      refine ⟨_, (XQ _).m _, fun z => absurd z (by decide), fun _ => ?_⟩
      refine ⟨_, (XQ _).m _, fun z => absurd z (by decide), fun _ => ?_⟩
      refine ⟨_, (XQ _).m _, fun z => absurd z (by decide), fun _ => ?_⟩
      refine ⟨_, (XQ _).m _, fun z => absurd z (by decide), fun _ => ?_⟩
      refine ⟨_, (XQ _).m _, fun z => absurd z (by decide), fun _ => ?_⟩
      refine ⟨_, (XQ _).m _, fun _ x nx => ?_, fun z => absurd z (by decide)⟩
      have at2 : At (W, H) W2 H2 _ (σ.set 3 (some (.ref x))) := ((a1.up f2).set (i := 3) (φ := TEx x d fs) ⟨rfl, hb⟩)
      have e4 : (List.set (slots 4 [TS q.S, (q.A CT).1, (q.A CT).2]) 3 (.im (TEx x d fs)))[3]? = some (.im (TEx x d fs)) := rfl
      generalize σ.set 3 (some (.ref x)) = σ' at at2 ⊢
      obtain ⟨y, rfl⟩ : ∃ y : Int, xs = [.int y] := eo
      obtain ⟨v, lv, ev⟩ := fl.get (n := "depot") rfl
      obtain rfl : v = .int y := ev
      refine De_tup (Da_cons (De_c (Da_cons (De_c (Da_cons (De_lstN (Da_cons (De_fldG (XQ .sup).exc ((XQ .sup).no ("depot", TV .non) (by simp [Er8.fl])) e4 lv (Da_nil ⟨Nat.le_of_ble_eq_true rfl, ?_⟩))))))))) σ' W2 H2 at2 _ fin
      exact Da_cons (De_callCls e4 (Da_nil ⟨Nat.le_of_ble_eq_true rfl, by rw [eD]; rfl⟩))
    | unr =>
      refine ⟨_, (XQ _).m _, fun z => absurd z (by decide), fun _ => ?_⟩
      refine ⟨_, (XQ _).m _, fun z => absurd z (by decide), fun _ => ?_⟩
      refine ⟨_, (XQ _).m _, fun z => absurd z (by decide), fun _ => ?_⟩
      refine ⟨_, (XQ _).m _, fun z => absurd z (by decide), fun _ => ?_⟩
      refine ⟨_, (XQ _).m _, fun z => absurd z (by decide), fun _ => ?_⟩
      refine ⟨_, (XQ _).m _, fun z => absurd z (by decide), fun _ => ?_⟩
      refine ⟨_, (XQ _).m _, fun z => absurd z (by decide), fun _ => ?_⟩
      refine ⟨_, (XQ _).m _, fun _ x nx => ?_, fun z => absurd z (by decide)⟩
      have at2 : At (W, H) W2 H2 _ (σ.set 3 (some (.ref x))) := ((a1.up f2).set (i := 3) (φ := TEx x d fs) ⟨rfl, hb⟩)
      have e4 : (List.set (slots 4 [TS q.S, (q.A CT).1, (q.A CT).2]) 3 (.im (TEx x d fs)))[3]? = some (.im (TEx x d fs)) := rfl
      generalize σ.set 3 (some (.ref x)) = σ' at at2 ⊢
      obtain ⟨y, rfl⟩ : ∃ y : Str, xs = [.str y] := eo
      obtain ⟨v, lv, ev⟩ := fl.get (n := "text") rfl
      obtain rfl : v = .str y := ev
      refine De_tup (Da_cons (De_c (Da_cons (De_c (Da_cons (De_lstN (Da_cons (De_fldG (XQ .unr).exc ((XQ .unr).no ("text", TV .non) (by simp [Er8.fl])) e4 lv (Da_nil ⟨Nat.le_of_ble_eq_true rfl, ?_⟩))))))))) σ' W2 H2 at2 _ fin
      exact Da_cons (De_callCls e4 (Da_nil ⟨Nat.le_of_ble_eq_true rfl, by rw [eD]; rfl⟩))
  · have got : ∀ d0, d0 = q.due → Got ca (fun C ts => ∃ (e : Er8) (xs : List V), D = .ref e xs ∧ e.ok xs ∧ C = ca e ∧ ts = e.fl xs) (fun x y => Da (W, H) tNil (slots 4 [TS q.S, (q.A CT).1, (q.A CT).2]) fun φs => (TV (V.str "made") :: TTot CT x y :: φs).length ≤ 1000 ∧ TU (TV (V.str "made") :: TTot CT x y :: φs) = askT CT (fun p => H p = none) D) d0 := fun d0 e0 => by
      rw [e0, hd]
      cases D with
      | mad a b => exact Da_nil ⟨Nat.le_of_ble_eq_true rfl, rfl⟩
      | ref e xs => exact fun eo => ⟨e, xs, rfl, eo, rfl, rfl⟩
    by_cases hB : isB q = true
    · exact .inl ⟨q, hB, rfl, ft, got⟩
    · exact .inr ⟨q, by simpa using hB, rfl, ft, got⟩
end
end K08
set_option Elab.async false
set_option linter.all false
set_option maxRecDepth 100000
set_option maxHeartbeats 4000000
namespace K08
open PySem PySem.Spec PyProof.Rows L2 Wl Kx
def Due.good : Due → Prop
  | .ref e xs => e.ok xs
  | .mad a b => OkT a b
theorem OkT.tame {a b : List Int} (g : OkT a b) : Tame a ∧ Tame b := by
  have h1 := g.s1
  have h2 := g.d1
  refine ⟨⟨by omega, fun x hx => ?_⟩, ⟨by omega, fun x hx => ?_⟩⟩
  · have := g.na x hx
    have e : (400 : Nat) < 10 ^ 32 := by decide +kernel
    omega
  · have := g.nb x hx
    have e : (400 : Nat) < 10 ^ 32 := by decide +kernel
    omega
theorem makeDue_good (a b : List Int) : (makeDue a b).good := by
  have sh := makeDue_shape a b
  cases e : makeDue a b with
  | ref e2 xs => rw [e] at sh; exact sh
  | mad x y =>
    unfold makeDue at e
    cases ha : rowDue a with
    | some d =>
      rw [ha] at e
      have e : d = .mad x y := e
      subst e
      unfold rowDue at ha
      split at ha
      · cases hb : bad 0 400 a with
        | none => rw [hb] at ha; cases ha
        | some x => rw [hb] at ha; cases ha
      · cases ha
    | none =>
      rw [ha] at e
      cases hb : rowDue b with
      | some d =>
        rw [hb] at e
        have e : d = .mad x y := e
        subst e
        unfold rowDue at hb
        split at hb
        · cases hc : bad 0 400 b with
          | none => rw [hc] at hb; cases hb
          | some x => rw [hc] at hb; cases hb
        · cases hb
      | none =>
        rw [hb] at e
        have e : endDue a b = .mad x y := e
        unfold endDue at e
        split at e
        · split at e
          · cases e
            exact ⟨(rowDue_none ha).1, (rowDue_none hb).1, (rowDue_none ha).2, (rowDue_none hb).2, ‹_›, ‹_›⟩
          · cases e
        · cases e
theorem Qk.good {q : Qk} (h : q.fit) : q.due.good := by
  have tm : ∀ (n : Int) (a b : List Int), OkT a b → (timesDue n a b).good := fun n a b g => by
    unfold timesDue
    split
    · split
      · rename_i h1 h2
        exact okT_muls g h1.1 h2
      · exact ⟨_, rfl⟩
    · exact ⟨_, rfl⟩
  cases q with
  | make T1 T2 a b => exact makeDue_good a b
  | read t =>
    show (readDue t).good
    unfold readDue
    split
    · exact ⟨_, rfl⟩
    · exact makeDue_good _ _
  | plus a b c d =>
    show (plusDue a b c d).good
    have sh := due_ok h.1 h.2
    cases e : plusDue a b c d with
    | mad x y => exact plus_ok h.1 h.2 e
    | ref e2 xs => rw [e] at sh; exact sh
  | timesN n a b => exact tm n a b h
  | timesB n a b => exact tm n a b h
  | moved a b g t =>
    show (movDue a b g t).good
    have g1 : OkT a b := h
    unfold movDue
    split
    · rename_i hg
      split
      · rename_i ht
        split
        · exact ⟨_, rfl⟩
        · rename_i hz
          exact okT_mov g1 (by omega) (by omega) hz
      · exact ⟨_, rfl⟩
    · exact ⟨_, rfl⟩
  | added a b rows =>
    show (foldDue (.mad a b) rows).good
    obtain ⟨_, g, hr⟩ := h
    clear tm
    induction rows generalizing a b with
    | nil => exact g
    | cons r rows ih =>
      rw [foldDue_cons]
      have gr := hr r (by simp)
      have sh := due_ok g gr
      cases e : plusDue a b r.1 r.2 with
      | mad x y => exact ih x y (by simp at *; omega) (plus_ok g gr e) fun r hr' => hr r (by simp [hr'])
      | ref e2 xs => rw [foldDue_ref]; rw [e] at sh; exact sh
theorem nstI (xs : List Int) (h : xs.length ≤ 40) : Nst 2 (TL (TIs xs)) ∧ Nst 2 (TU (TIs xs)) := ⟨.inr (.inr ⟨_, .inl rfl, by rw [List.length_map]; exact h, fun ψ hψ => by obtain ⟨x, _, rfl⟩ := List.mem_map.mp hψ; exact .inl ⟨x, rfl⟩⟩), .inr (.inr ⟨_, .inr rfl, by rw [List.length_map]; exact h, fun ψ hψ => by obtain ⟨x, _, rfl⟩ := List.mem_map.mp hψ; exact .inl ⟨x, rfl⟩⟩)⟩
theorem nstE {e : Er8} {xs : List V} (h : e.ok xs) : Nst 2 (TL (xs.map TV)) := by
  have one : ∀ x : Int, Nst 2 (TL [TI x]) := fun x => (nstI [x] (by simp)).1
  cases e with
  | unb => obtain ⟨a, b, rfl⟩ := h; exact (nstI [a, b] (by simp)).1
  | unr => obtain ⟨t, rfl⟩ := h; exact .inr (.inr ⟨_, .inl rfl, by simp, fun ψ hψ => by rw [List.mem_singleton.mp hψ]; exact .inr (.inl ⟨t, rfl⟩)⟩)
  | siz => obtain ⟨a, rfl⟩ := h; exact one a
  | len => obtain ⟨a, rfl⟩ := h; exact one a
  | cnt => obtain ⟨a, rfl⟩ := h; exact one a
  | mos => obtain ⟨a, rfl⟩ := h; exact one a
  | dep => obtain ⟨a, rfl⟩ := h; exact one a
  | sup => obtain ⟨a, rfl⟩ := h; exact one a
section
variable {P : Program} {w : World} {K : PySem.W.Frag} {mg : Str → Option Value} {base : Heap} {f : Addr} {fd : FuncData}
/-! ### _law_is -/
abbrev law_is_N : List Str := ["box", "first", "second"]
theorem law_is_sc : FnScope ["box", "first", "second"] ["box", "first", "second"] (defScope law_is_st) := ⟨rfl, rfl, rfl, by decide +kernel, rfl, by decide +kernel, by decide +kernel⟩
def S_is (CT : Addr) : PX := fun φs k _ => ∃ a b : List Int, φs = [TTot CT a b, TL (TIs a), TL (TIs b)] ∧ Tame a ∧ Tame b ∧ k (TB true)
theorem ok_is {CT f1 fs ft p1 g1 p2 g2 p3 g3 : Addr} {fd1 fds fdt fp1 fp2 fp3 : FuncData} (F : FnS K "_law_is" law_is_st f fd) (J : IsC K CT) (g_Totals : mg "Totals" = some (.ref CT)) (m_isinstance : mg "isinstance" = none) (m_tuple : mg "tuple" = none) (m_sum : mg "sum" = none) (m_str : mg "str" = none)
    (D_law_alike : Df P w K mg base 4 "_law_alike" ["told", "due"] (spX (S_alike 2)) f1 fd1) (D_str_ok : FnOk P w K mg base (L2N.CX P w) 1 fs fds ["self"] (spX (S_str CT))) (D_str_b : Binds K fds ["self"] []) (D_str_s : PySem.W.findIn K (.ref CT) "__str__" = some (some (.ref fs))) (D_str_fn : PySem.W.isFn K (.ref fs) = true)
    (D_law_text : Df P w K mg base 1 "_law_text" ["rows"] (spX S_text) ft fdt) (D_Totals_supplies : Pn P w K mg base 1 CT "supplies" (spX (S_supplies CT)) p1 g1 fp1) (D_Totals_demands : Pn P w K mg base 1 CT "demands" (spX (S_demands CT)) p2 g2 fp2) (D_Totals_units : Pn P w K mg base 1 CT "units" (spX (S_units CT)) p3 g3 fp3) :
    FnOk P w K mg base (L2N.CX P w) 6 f fd ["box", "first", "second"] (spX (S_is CT)) := by
  refine F.ok law_is_sc (fun vs H Q E h => lenX (n := 3) (fun φs k kx ⟨_, _, e, _⟩ => by rw [e]; rfl) h) (fun cdv A outer s H vs Q E hr h => ⟨_, (pss_cons (ps_if (pt_not (pt_val (pe_callB call_isi (by rfl) m_isinstance (by decide +kernel) (pa_cons (pv 0) (pa_cons (pe_glob (v := .ref CT) rfl g_Totals rfl) pa_nil))))) (pss_one (ps_ret pe_bl)) pss_nil)
      (pss_cons (ps_if (pt_not (pt_val (pe_call D_law_alike.ok (hr.mono (by first | decide | omega)) rfl D_law_alike.g D_law_alike.kp D_law_alike.b .nil ErrX.passN (pa_cons (pe_prop (pv 0) D_Totals_supplies.cl D_Totals_supplies.po D_Totals_supplies.ok (hr.mono (by first | decide | omega)) D_Totals_supplies.b .nil ErrX.passN rfl) (pa_cons (pe_callTy call_tuple_of (by rfl) m_tuple (by decide +kernel) (pa_cons (pv 1) pa_nil)) pa_nil))))) (pss_one (ps_ret pe_bl)) pss_nil)
      (pss_cons (ps_if (pt_not (pt_val (pe_call D_law_alike.ok (hr.mono (by first | decide | omega)) rfl D_law_alike.g D_law_alike.kp D_law_alike.b .nil ErrX.passN (pa_cons (pe_prop (pv 0) D_Totals_demands.cl D_Totals_demands.po D_Totals_demands.ok (hr.mono (by first | decide | omega)) D_Totals_demands.b .nil ErrX.passN rfl) (pa_cons (pe_callTy call_tuple_of (by rfl) m_tuple (by decide +kernel) (pa_cons (pv 2) pa_nil)) pa_nil))))) (pss_one (ps_ret pe_bl)) pss_nil)
      (pss_cons (ps_if (pt_not (pt_val (pe_call D_law_alike.ok (hr.mono (by first | decide | omega)) rfl D_law_alike.g D_law_alike.kp D_law_alike.b .nil ErrX.passN (pa_cons (pe_callTy (OwnM.call_strO D_str_ok (hr.mono (by first | decide | omega)) D_str_b ErrX.passN D_str_s D_str_fn : CallR _ _ (rStrO CT _ E0)) (by rfl) m_str (by decide +kernel) (pa_cons (pv 0) pa_nil)) (pa_cons (pe_call D_law_text.ok (hr.mono (by first | decide | omega)) rfl D_law_text.g D_law_text.kp D_law_text.b .nil ErrX.passN (pa_cons (pe_lst (pa_cons (pv 1) (pa_cons (pv 2) pa_nil))) pa_nil)) pa_nil))))) (pss_one (ps_ret pe_bl)) pss_nil)
      (pss_one (ps_ret (pe_call D_law_alike.ok (hr.mono (by first | decide | omega)) rfl D_law_alike.g D_law_alike.kp D_law_alike.b .nil ErrX.passN (pa_cons (pe_prop (pv 0) D_Totals_units.cl D_Totals_units.po D_Totals_units.ok (hr.mono (by first | decide | omega)) D_Totals_units.b .nil ErrX.passN rfl) (pa_cons (pe_callB (EnT.cr_sumE rfl) (by rfl) m_sum (by decide +kernel) (pa_cons (pv 1) pa_nil)) pa_nil))))))))), enterX (n := 3) rfl h fun A φs k kx hS hE => ?_⟩)
  obtain ⟨a, b, rfl, ta, tb, h1⟩ := hS
  have la : a.length ≤ 40 := by have := ta.1; omega
  have lb : b.length ≤ 40 := by have := tb.1; omega
  refine Dt_seq (Dt_if (Dc_not (Dc_test (De_cb (Da_cons (De_var rfl (Da_cons (De_c (Da_nil (Rc_isi true (tyo_ins J _) (.own _) J.k ⟨_, rfl, fun z => (by cases z), fun _ => Dt_next ?_⟩))))))))))
  refine Dt_seq (Dt_if (Dc_not (Dc_test (De_callN (Da_cons (De_prop (De_var rfl ⟨⟨_, rfl⟩, _, _, rfl, Da_cons (De_tupL (Dl_im rfl (Da_nil (alike_of (nstI a la).2 ⟨_, rfl, fun z => (by cases z), fun _ => Dt_next ?_⟩))))⟩)))))))
  refine Dt_seq (Dt_if (Dc_not (Dc_test (De_callN (Da_cons (De_prop (De_var rfl ⟨⟨_, rfl⟩, _, _, rfl, Da_cons (De_tupL (Dl_im rfl (Da_nil (alike_of (nstI b lb).2 ⟨_, rfl, fun z => (by cases z), fun _ => Dt_next ?_⟩))))⟩)))))))
  refine Dt_seq (Dt_if (Dc_not (Dc_test (De_callN (Da_cons (De_cb (Da_cons (De_var rfl (Da_nil (Rc_strO ⟨a, b, rfl, ta, tb, _, rfl, ?_⟩))))))))))
  refine Da_cons (De_callN (Da_cons (De_lst (Da_cons (De_var rfl (Da_cons (De_var rfl (Da_nil ⟨Nat.le_of_ble_eq_true rfl, Da_nil ⟨a, b, rfl, ta, tb, Da_nil (alike_of (show Nst 2 (TS (totS a b)) from Or.inr (.inl ⟨_, rfl⟩)) ⟨_, rfl, fun z => (by cases z), fun _ => Dt_next ?_⟩)⟩⟩))))))))
  exact Dt_ret (De_callN (Da_cons (De_prop (De_var rfl ⟨⟨_, rfl⟩, _, _, rfl, Da_cons (De_sumL (ns := a) (Dl_im rfl ⟨rfl, Da_nil (alike_of (show Nst 2 (TI a.sum) from Or.inl ⟨_, rfl⟩) h1)⟩))⟩))))
/-! ### _law_agrees -/
abbrev law_agrees_N : List Str := ["told", "due"]
theorem law_agrees_sc : FnScope ["told", "due"] ["told", "due"] (defScope law_agrees_st) := ⟨rfl, rfl, rfl, by decide +kernel, rfl, by decide +kernel, by decide +kernel⟩
def S_agrees (CT : Addr) (N : Addr → Prop) : PX := fun φs k _ => ∃ d : Due, φs = [askT CT N d, d.T] ∧ d.good ∧ k (TB true)
theorem strE (e : Er8) : PyData.canLay0 (.str e.nm) = true := by cases e <;> decide +kernel
theorem ok_agrees {CT f1 f2 : Addr} {fd1 fd2 : FuncData} (F : FnS K "_law_agrees" law_agrees_st f fd) (D_law_alike : Df P w K mg base 4 "_law_alike" ["told", "due"] (spX (S_alike 2)) f1 fd1) (D_law_is : Df P w K mg base 6 "_law_is" ["box", "first", "second"] (spX (S_is CT)) f2 fd2) :
    FnOk P w K mg base (L2N.CX P w) 7 f fd ["told", "due"] (fun vs H Q E => ∃ N, spX (S_agrees CT N) vs H Q E) := by
  refine F.ok law_agrees_sc (fun vs H Q E ⟨N, h⟩ => lenX (n := 2) (fun φs k kx ⟨_, e, _⟩ => by rw [e]; rfl) h) (fun cdv A outer s H vs Q E hr ⟨N, h⟩ => ⟨_, (pss_cons (ps_if (pt_cmpR op_eq (pe_ix ix_tup (pv 1) pe_int (fun _ _ => rfl)) pe_str (nomark _)) (pss_one (ps_ret (pe_and (pe_cmpR op_eq (pe_ix ix_tup (pv 0) pe_int (fun _ _ => rfl)) pe_str (nomark _)) (pe_one (pe_call D_law_is.ok (hr.mono (by first | decide | omega)) rfl D_law_is.g D_law_is.kp D_law_is.b .nil ErrX.passN (pa_cons (pe_ix ix_tup (pv 0) pe_int (fun _ _ => rfl)) (pa_cons (pe_ix ix_tup (pv 1) pe_int (fun _ _ => rfl)) (pa_cons (pe_ix ix_tup (pv 1) pe_int (fun _ _ => rfl)) pa_nil)))))))) pss_nil)
      (pss_cons (ps_if (PW.pt (pw_or (pt_cmpR op_eq (pe_ix ix_tup (pv 0) pe_int (fun _ _ => rfl)) pe_str (nomark _)) (pw_or1 (pt_cmpR op_ne (pe_ix ix_tup (pv 0) pe_int (fun _ _ => rfl)) (pe_ix ix_tup (pv 1) pe_int (fun _ _ => rfl)) (nomark _))))) (pss_one (ps_ret pe_bl)) pss_nil)
      (pss_one (ps_ret (pe_and (pe_call D_law_alike.ok (hr.mono (by first | decide | omega)) rfl D_law_alike.g D_law_alike.kp D_law_alike.b .nil ErrX.passN (pa_cons (pe_ix ix_tup (pv 0) pe_int (fun _ _ => rfl)) (pa_cons (pe_ix ix_tup (pv 1) pe_int (fun _ _ => rfl)) pa_nil))) (pe_one (pe_cmpR (op_eqD hr.units) (pe_ix ix_tup (pv 0) pe_int (fun _ _ => rfl)) (pe_lst (pa_cons pe_str (pa_cons (pe_ix ix_tup (pv 1) pe_int (fun _ _ => rfl)) pa_nil))) (nomark _)))))))), enterX (n := 2) rfl h fun A φs k kx hS hE => ?_⟩)
  obtain ⟨d, rfl, od, h1⟩ := hS
  cases d with
  | mad a b =>
    have od : OkT a b := od
    refine Dt_seq (Dt_if (Dc_test (De_op (De_op (De_var rfl (De_c (Rr_ixU rfl (De_c (Rr_eq rfl ⟨_, rfl, br_yes rfl ?_⟩)))))))))
    refine Dt_ret (De_and (De_op (De_op (De_var rfl (De_c (Rr_ixU rfl (De_c (Rr_eq rfl ⟨_, rfl, br_yes rfl ?_⟩))))))))
    exact De_callN (Da_cons (De_op (De_var rfl (De_c (Rr_ixU rfl (Da_cons (De_op (De_var rfl (De_c (Rr_ixU rfl (Da_cons (De_op (De_var rfl (De_c (Rr_ixU rfl (Da_nil ⟨a, b, rfl, od.tame.1, od.tame.2, h1⟩))))))))))))))))
  | ref e xs =>
    have eo : e.ok xs := od
    refine Dt_seq (Dt_if (Dc_test (De_op (De_op (De_var rfl (De_c (Rr_ixU rfl (De_c (Rr_eq rfl ⟨_, rfl, br_no (by decide) ?_⟩)))))))))
    refine Dt_next (Dt_seq (Dt_if (Dc_or (Dc_test (De_op (De_op (De_var rfl (De_c (Rr_ixU rfl (De_c (Rr_eq rfl ⟨_, rfl, br_no (by decide) ?_⟩)))))))))))
    refine Dc_test (De_op (De_op (De_var rfl (De_c (Rr_ixU rfl (De_op (De_var rfl (De_c (Rr_ixU rfl (Rr_ne rfl ⟨_, rfl, br_ndec (fun z => absurd rfl z) fun _ => ?_⟩))))))))))
    refine Dt_next (Dt_seq (Dt_ret (De_and (De_callN (Da_cons (De_weak (De_op (De_var rfl (De_c (Rr_ixU rfl ⟨_, TLn_sub, Da_cons (De_op (De_var rfl (De_c (Rr_ixU rfl (Da_nil (alike_of (nstE eo) ⟨_, rfl, fun _ => ?_, fun z => (by cases z)⟩))))))⟩))))))))))
    have dt : Dty K (TL [TS "DepotError", TS e.nm]) (.list [.str "DepotError", .str e.nm]) := .lst ⟨.str _, .str _, trivial⟩
    have ok : OkD 64 (.list [.str "DepotError", .str e.nm]) := .lst fun d hd => by
      simp only [List.mem_cons, List.not_mem_nil, or_false] at hd
      rcases hd with rfl | rfl
      · exact .str _ (by decide +kernel)
      · exact .str _ (strE e)
    refine De_op (De_weak (De_op (De_var rfl (De_c (Rr_ixU rfl ⟨_, TLn_sub, De_lst (Da_cons (De_c (Da_cons (De_op (De_var rfl (De_c (Rr_ixU rfl (Da_nil ⟨Nat.le_of_ble_eq_true rfl, Rr_eqD dt dt ok ok ?_⟩))))))))⟩)))))
    rw [show PyData.eqv (.list [.str "DepotError", .str e.nm]) (.list [.str "DepotError", .str e.nm]) = true by simp [PyData.eqv, PyData.eqvAll]]
    exact h1
end
end K08
set_option Elab.async false
set_option linter.all false
set_option maxRecDepth 100000
set_option maxHeartbeats 4000000
namespace K08
open PySem PySem.Spec PyProof.Rows L2 Wl Kx
theorem rm_vals {p : Addr} (xs : List V) : ∀ φ ∈ xs.map TV, Rm p φ := fun φ h => by
  obtain ⟨x, _, rfl⟩ := List.mem_map.mp h
  exact rm_tv _
theorem rm_ask {p CT : Addr} {N : Addr → Prop} (np : ¬ N p) (d : Due) : Rm p (askT CT N d) := by
  cases d with
  | mad a b =>
    refine rm_tu fun φ h => ?_
    simp only [List.mem_cons, List.not_mem_nil, or_false] at h
    rcases h with rfl | rfl
    · exact rm_tv _
    · refine rm_tj fun t ht => ?_
      simp only [totF, List.mem_cons, List.not_mem_nil, or_false] at ht
      rcases ht with rfl | rfl
      · exact rm_tu (rm_ints a)
      · exact rm_tu (rm_ints b)
  | ref e xs =>
    refine rm_tu fun φ h => ?_
    simp only [List.mem_cons, List.not_mem_nil, or_false] at h
    rcases h with rfl | rfl | rfl | rfl
    · exact rm_tv _
    · exact rm_tv _
    · exact rm_tln np (rm_vals xs)
    · refine rm_tln np fun φ h => ?_
      simp only [List.mem_cons, List.not_mem_nil, or_false] at h
      rcases h with rfl | rfl <;> exact rm_tv _
theorem TLn_any {N : Addr → Prop} {φs : List Ty} {W : Wd} {v : V} (h : (TLn N φs).is W v) : (TLn (fun _ => True) φs).is W v := by
  obtain ⟨p, vs, e, _, b, ar⟩ := h
  exact ⟨p, vs, e, trivial, b, ar⟩
theorem ask_any {CT : Addr} {N : Addr → Prop} (d : Due) : (askT CT N d).Sub (askT CT (fun _ => True) d) := by
  cases d with
  | mad a b => exact fun W v h => h
  | ref e xs =>
    rintro W v ⟨p, vs, e1, b, ar⟩
    match vs, ar with
    | [v0, v1, v2, v3], ⟨h0, h1, h2, h3, _⟩ => exact ⟨p, _, e1, b, h0, h1, TLn_any h2, TLn_any h3, trivial⟩
section
variable {P : Program} {w : World} {K : PySem.W.Frag} {mg : Str → Option Value} {base : Heap} {f : Addr} {fd : FuncData}
section
variable {A : Wd × Hp} {Φ : List Sl} {k : Ty → Prop} {ta : TA} {E : XK}
theorem De_ask {CT : Addr} (h : Da A ta Φ fun φs => ∃ q : Qk, φs = [TS q.S, (q.A CT).1, (q.A CT).2] ∧ q.fit ∧ ∀ N, k (askT CT N q.due)) : De A (tCall (spAsk CT) [] E ta) Φ k := fun σ W H a Q q =>
  h σ W H a _ fun φs vs W1 H1 f1 p1 ⟨c, e, ft, kh⟩ => by
    subst e
    show spAsk CT (vs ++ []) H1 Q E
    rw [List.append_nil]
    exact ⟨W1, c, f1.inn, p1, ft, fun v W2 H2 f2 p2 => q _ v W2 H2 (f1.trans f2) p2 (kh _)⟩
theorem De_agr {CT : Addr} (h : Da A ta Φ fun φs => ∃ N, S_agrees CT N φs k fun _ _ => False) : De A (tCall (fun vs H Q E => ∃ N, spX (S_agrees CT N) vs H Q E) [] E ta) Φ k := fun σ W H a Q q =>
  h σ W H a _ fun φs vs W1 H1 f1 p1 ⟨N, h1⟩ => by
    show ∃ N, spX (S_agrees CT N) (vs ++ []) H1 Q E
    rw [List.append_nil]
    exact ⟨N, φs, k, fun _ _ => False, W1, f1.inn, p1, h1, fun φ v W2 H2 f2 p2 k2 => q φ v W2 H2 (f1.trans f2) p2 k2, fun _ _ _ _ _ _ _ _ _ z => z.elim⟩
/-- told = _law_ask('make', first, second), passed two lists of one's own -/
theorem Dt_lend2 {CT : Addr} {O : Out} {a b : List Int} (e2 : Φ[2]? = some (.ow (CL (TIs a)))) (e3 : Φ[3]? = some (.ow (CL (TIs b)))) (h : ∀ N, O.nx (Φ.set 4 (.im (askT CT N (makeDue a b))))) : Dt A (tAsg (tCall (spAsk CT) [] E (tCons (tC (.str "make")) (tCons (tVar 2) (tCons (tVar 3) tNil)))) (gName 4)) Φ O := fun G D σ W H s a0 g => by
  obtain ⟨p, o, s2, nb, nc, nA, ho, us, rfl, ar⟩ := a0.env.ow 2 _ e2
  obtain ⟨p', o', s3, nb', nc', nA', ho', us', rfl, ar'⟩ := a0.env.ow 3 _ e3
  have ne : p' ≠ p := fun z => by subst z; exact absurd (a0.env.ap 2 3 _ _ _ e2 e3 s2 s3) (by decide)
  have up := Le.add (W := W) (o := .lst us) nb
  have nb2 : (W.add p (.lst us)).B p' = none := by rw [show (W.add p (.lst us)).B p' = W.B p' from upd_ne ne]; exact nb'
  have up2 := Le.add (W := W.add p (.lst us)) (o := .lst us') nb2
  have i1 : In (W.add p (.lst us)) H := a0.inn.add ho nc
  have i2 : In ((W.add p (.lst us)).add p' (.lst us')) H := i1.add ho' nc'
  refine ⟨.ref p, s2, .ref p', s3, (W.add p (.lst us)).add p' (.lst us'), .make false false a b, i2, ⟨rfl, ⟨p, us, rfl, up2.b _ _ Wd.add_at, (ar.up up).up up2⟩, ⟨p', us', rfl, Wd.add_at, (ar'.up up).up up2⟩, trivial⟩, trivial, fun v W2 H2 f2 p2 => ?_⟩
  have rm := fun (q : Addr) (z : ¬ H q = none) => rm_ask (CT := CT) (N := fun q => H q = none) (p := q) z (makeDue a b)
  have f3 := f2.rem nb2
  have q3 := (rm p' (fun z => by rw [z] at ho'; cases ho')).rm W2 us' v (f2.le.b _ _ Wd.add_at) p2
  have f4 := f3.rem nb
  have q4 := (rm p (fun z => by rw [z] at ho; cases ho)).rm _ us v (f3.le.b _ _ Wd.add_at) q3
  exact s.nx _ _ _ _ (h _) ((a0.up f4).set q4) (g.trans f4.le)
end
/-! ### _law_makes -/
theorem dtI (K : PySem.W.Frag) (ns : List Int) : Dty K (TL (TIs ns)) (.list (ns.map .int)) := .lst (.ints ns)
theorem okI (ns : List Int) : OkD 64 (.list (ns.map .int)) := .lst (okInts ns)
theorem samI (ns : List Int) : PyData.eqv (.list (ns.map .int)) (.list (ns.map .int)) = true := by rw [PyData.eqv, eqv_ints]; exact decide_eq_true rfl
abbrev law_makes_N : List Str := ["rows", "mode", "first", "second", "told"]
theorem law_makes_sc : FnScope ["rows", "mode", "first", "second", "told"] ["rows", "mode"] (defScope law_makes_st) := ⟨rfl, rfl, rfl, by decide +kernel, rfl, by decide +kernel, by decide +kernel⟩
def S_makes (CT : Addr) : PX := fun φs k _ => ∃ (a b : List Int) (m : Bool), φs = [rwT a b, bI m] ∧ a.length ≤ 40 ∧ b.length ≤ 40 ∧ k (askT CT (fun _ => True) (makeDue a b))
theorem ok_makes {CT f1 f2 f3 f4 : Addr} {fd1 fd2 fd3 fd4 : FuncData} (F : FnS K "_law_makes" law_makes_st f fd) (m_list : mg "list" = none)
    (D_law_copied : Df P w K mg base 1 "_law_copied" ["row", "mode"] spCop f1 fd1) (D_law_ask : Df P w K mg base 12 "_law_ask" ["word", "a", "b"] (spAsk CT) f2 fd2) (D_law_due : Df P w K mg base 1 "_law_due" ["first", "second"] (spX S_due) f3 fd3) (D_law_agrees : Df P w K mg base 7 "_law_agrees" ["told", "due"] (fun vs H Q E => ∃ N, spX (S_agrees CT N) vs H Q E) f4 fd4) :
    FnOk P w K mg base (L2N.CX P w) 13 f fd ["rows", "mode"] (spX (S_makes CT)) := by
  refine F.ok law_makes_sc (fun vs H Q E h => lenX (n := 2) (fun φs k kx ⟨_, _, _, e, _⟩ => by rw [e]; rfl) h) (fun cdv A outer s H vs Q E hr h => ⟨_, (pss_cons (ps_set (i := 2) law_makes_sc.nd rfl (Or.inl rfl) (pe_call D_law_copied.ok (hr.mono (by first | decide | omega)) rfl D_law_copied.g D_law_copied.kp D_law_copied.b .nil ErrX.passN (pa_cons (pe_ix ix_list (pv 0) pe_int (fun _ _ => rfl)) (pa_cons (pv 1) pa_nil))))
      (pss_cons (ps_set (i := 3) law_makes_sc.nd rfl (Or.inl rfl) (pe_call D_law_copied.ok (hr.mono (by first | decide | omega)) rfl D_law_copied.g D_law_copied.kp D_law_copied.b .nil ErrX.passN (pa_cons (pe_ix ix_list (pv 0) pe_int (fun _ _ => rfl)) (pa_cons (pv 1) pa_nil))))
      (pss_cons (ps_set (i := 4) law_makes_sc.nd rfl (Or.inl rfl) (pe_call D_law_ask.ok (hr.mono (by first | decide | omega)) rfl D_law_ask.g D_law_ask.kp D_law_ask.b .nil ErrX.passN (pa_cons pe_str (pa_cons (pv 2) (pa_cons (pv 3) pa_nil)))))
      (pss_cons (ps_if (pt_not (pt_val (pe_call D_law_agrees.ok (hr.mono (by first | decide | omega)) rfl D_law_agrees.g D_law_agrees.kp D_law_agrees.b .nil ErrX.passN (pa_cons (pv 4) (pa_cons (pe_call D_law_due.ok (hr.mono (by first | decide | omega)) rfl D_law_due.g D_law_due.kp D_law_due.b .nil ErrX.passN (pa_cons (pe_ix ix_list (pv 0) pe_int (fun _ _ => rfl)) (pa_cons (pe_ix ix_list (pv 0) pe_int (fun _ _ => rfl)) pa_nil))) pa_nil))))) (pss_one (ps_ret pe_non)) pss_nil)
      (pss_cons (ps_if (PW.pt (pw_or (pt_cmpR (op_neD hr.units) (pe_callTy call_list_of (by rfl) m_list (by decide +kernel) (pa_cons (pv 2) pa_nil)) (pe_ix ix_list (pv 0) pe_int (fun _ _ => rfl)) (nomark _)) (pw_or1 (pt_cmpR (op_neD hr.units) (pe_callTy call_list_of (by rfl) m_list (by decide +kernel) (pa_cons (pv 3) pa_nil)) (pe_ix ix_list (pv 0) pe_int (fun _ _ => rfl)) (nomark _))))) (pss_one (ps_ret pe_non)) pss_nil)
      (pss_cons (ps_if (pt_cmpR op_eq (pv 1) pe_int (nomark _)) (pss_cons (ps_expr (pe_bm PySem.F.plainAttrs_list PySem.F.slot_list_append PySem.F.type_list_append mt_append (pv 2) (pa_cons pe_int pa_nil)))
      (pss_cons (ps_expr (pe_bm PySem.F.plainAttrs_list PySem.F.slot_list_append PySem.F.type_list_append mt_append (pv 3) (pa_cons pe_int pa_nil)))
      (pss_cons (ps_asg (pe_op op_add (pe_ix ix_list (pv 2) pe_int (fun _ _ => rfl)) pe_int) (pg_sub (pv 2) pe_int set_list))
      (pss_one (ps_asg (pe_op op_add (pe_ix ix_list (pv 3) pe_int (fun _ _ => rfl)) pe_int) (pg_sub (pv 3) pe_int set_list)))))) pss_nil)
      (pss_one (ps_ret (pv 4))))))))), enterX (n := 5) rfl h fun A φs k kx hS hE => ?_⟩)
  obtain ⟨a, b, m, rfl, la, lb, h1⟩ := hS
  have sa := samI a
  have sb := samI b
  cases m with
  | true =>
    refine Dt_seq (Dt_set (De_cop (Da_cons (De_op (De_var rfl (De_c (Rr_ixL rfl (Da_cons (De_var rfl (Da_nil ⟨a, rfl, ?_⟩))))))))))
    refine Dt_seq (Dt_set (De_cop (Da_cons (De_op (De_var rfl (De_c (Rr_ixL rfl (Da_cons (De_var rfl (Da_nil ⟨b, rfl, ?_⟩))))))))))
    refine Dt_seq (Dt_set (De_ask (Da_cons (De_c (Da_cons (De_var rfl (Da_cons (De_var rfl (Da_nil ⟨.make true true a b, rfl, trivial, fun N => ?_⟩)))))))))
    refine Dt_seq (Dt_if (Dc_not (Dc_test (De_agr (Da_cons (De_var rfl (Da_cons (De_callN (Da_cons (De_op (De_var rfl (De_c (Rr_ixL rfl (Da_cons (De_op (De_var rfl (De_c (Rr_ixL rfl (Da_nil ⟨a, b, rfl, Da_nil ⟨N, makeDue a b, rfl, makeDue_good a b, _, rfl, fun z => (by cases z), fun _ => Dt_next ?_⟩⟩)))))))))))))))))))
    refine Dt_seq (Dt_if (Dc_or (Dc_test (De_op (De_dn (Dn_listU (De_var rfl ⟨_, rfl, _, rfl, De_op (De_var rfl (De_c (Rr_ixL rfl (Rr_neD (dtI K a) (dtI K a) (okI a) (okI a) ⟨_, rfl, ?_⟩))))⟩)))))))
    rw [sa]
    refine ⟨fun z => (by cases z), fun _ => Dc_test (De_op (De_dn (Dn_listU (De_var rfl ⟨_, rfl, _, rfl, De_op (De_var rfl (De_c (Rr_ixL rfl (Rr_neD (dtI K b) (dtI K b) (okI b) (okI b) ⟨_, rfl, ?_⟩))))⟩))))⟩
    rw [sb]
    refine ⟨fun z => (by cases z), fun _ => Dt_next ?_⟩
    refine Dt_seq (Dt_if (Dc_test (De_op (De_var rfl (De_c (Rr_eq rfl ⟨_, rfl, fun z => absurd z (by decide), fun _ => Dt_next ?_⟩))))))
    exact Dt_ret (De_weak (De_var rfl ⟨_, ask_any _, h1⟩))
  | false =>
    refine Dt_seq (Dt_setOw (Dn_cop (Da_cons (De_op (De_var rfl (De_c (Rr_ixL rfl (Da_cons (De_var rfl (Da_nil ⟨a, rfl, ?_⟩))))))))))
    refine Dt_seq (Dt_setOw (Dn_cop (Da_cons (De_op (De_var rfl (De_c (Rr_ixL rfl (Da_cons (De_var rfl (Da_nil ⟨b, rfl, ?_⟩))))))))))
    refine Dt_seq (Dt_lend2 (a := a) (b := b) rfl rfl fun N => ?_)
    refine Dt_seq (Dt_if (Dc_not (Dc_test (De_agr (Da_cons (De_var rfl (Da_cons (De_callN (Da_cons (De_op (De_var rfl (De_c (Rr_ixL rfl (Da_cons (De_op (De_var rfl (De_c (Rr_ixL rfl (Da_nil ⟨a, b, rfl, Da_nil ⟨N, makeDue a b, rfl, makeDue_good a b, _, rfl, fun z => (by cases z), fun _ => Dt_next ?_⟩⟩)))))))))))))))))))
    refine Dt_seq (Dt_if (Dc_or (Dc_test (De_op (De_dn (Dn_listL (Dl_ow rfl ⟨_, rfl, De_op (De_var rfl (De_c (Rr_ixL rfl (Rr_neD (dtI K a) (dtI K a) (okI a) (okI a) ⟨_, rfl, ?_⟩))))⟩)))))))
    rw [sa]
    refine ⟨fun z => (by cases z), fun _ => Dc_test (De_op (De_dn (Dn_listL (Dl_ow rfl ⟨_, rfl, De_op (De_var rfl (De_c (Rr_ixL rfl (Rr_neD (dtI K b) (dtI K b) (okI b) (okI b) ⟨_, rfl, ?_⟩))))⟩))))⟩
    rw [sb]
    refine ⟨fun z => (by cases z), fun _ => Dt_next ?_⟩
    have at0 : ∀ ns : List Int, atI (TIs ns ++ [TV (.int 3)]) (0 : Int) = some (TI ((ns ++ [3]).getD 0 0)) := fun ns => by
      rw [show TIs ns ++ [TV (.int 3)] = TIs (ns ++ [3]) by rw [TIs, TIs, List.map_append]; rfl]
      exact atI_get (a := 0) (by rw [List.length_append]; simp)
    have ix0 : ∀ ns : List Int, ixN (TIs ns ++ [TV (.int 3)]).length 0 = some 0 := fun ns => by
      unfold ixN
      rw [if_pos (by omega), if_pos (by rw [List.length_append]; simp)]
      rfl
    refine Dt_seq (Dt_if (Dc_test (De_op (De_var rfl (De_c (Rr_eq rfl ⟨_, rfl, fun _ => ?_, fun z => absurd z (by decide)⟩))))))
    refine Dt_seq (Dt_append rfl (by rw [List.length_map]; omega) (De_c ?_))
    refine Dt_seq (Dt_append rfl (by rw [List.length_map]; omega) (De_c ?_))
    refine Dt_seq (Dt_put rfl (De_op (De_ixOw (Dl_ow rfl (De_c ⟨0, _, rfl, at0 a, De_c (Rr_I0 (De_c ⟨0, 0, rfl, ix0 a, ?_⟩))⟩)))))
    refine Dt_put rfl (De_op (De_ixOw (Dl_ow rfl (De_c ⟨0, _, rfl, at0 b, De_c (Rr_I0 (De_c ⟨0, 0, rfl, ix0 b, ?_⟩))⟩))))
    exact Dt_ret (De_weak (De_var rfl ⟨_, ask_any _, h1⟩))
/-! ### _law_balanced -/
abbrev law_balanced_N : List Str := ["rows", "mode", "first", "second"]
theorem law_balanced_sc : FnScope ["rows", "mode", "first", "second"] ["rows", "mode"] (defScope law_balanced_st) := ⟨rfl, rfl, rfl, by decide +kernel, rfl, by decide +kernel, by decide +kernel⟩
structure Sn (P : Program) (w : World) (K : PySem.W.Frag) (mg : Str → Option Value) (base : Heap) (k : Nat) (C : Addr) (mc : Value) (x : Str) (sp : Sp) (p f : Addr) : Prop where
  cr : ClX.CRead K C mc
  cm : ClX.SMet K C mc x p f
  ok : FnR P w K mg base (L2N.CX P w) k f sp
def S_lbal : PX := fun φs k _ => ∃ (a b : List Int) (m : Bool), φs = [rwT a b, bI m] ∧ k (TB true)
theorem ok_lbal {CT f1 f2 f3 f4 : Addr} {fd1 fd2 : FuncData} {mc : Value} (F : FnS K "_law_balanced" law_balanced_st f fd) (m_list : mg "list" = none) (m_sum : mg "sum" = none) (g_Totals : mg "Totals" = some (.ref CT))
    (D_law_copied : Df P w K mg base 1 "_law_copied" ["row", "mode"] spCop f1 fd1) (D_law_alike : Df P w K mg base 4 "_law_alike" ["told", "due"] (spX (S_alike 2)) f2 fd2) (D_Totals_balance : Sn P w K mg base 1 CT mc "balance" (spX S_bal) f3 f4) :
    FnOk P w K mg base (L2N.CX P w) 5 f fd ["rows", "mode"] (spX S_lbal) := by
  refine F.ok law_balanced_sc (fun vs H Q E h => lenX (n := 2) (fun φs k kx ⟨_, _, _, e, _⟩ => by rw [e]; rfl) h) (fun cdv A outer s H vs Q E hr h => ⟨_, (pss_cons (ps_set (i := 2) law_balanced_sc.nd rfl (Or.inl rfl) (pe_call D_law_copied.ok (hr.mono (by first | decide | omega)) rfl D_law_copied.g D_law_copied.kp D_law_copied.b .nil ErrX.passN (pa_cons (pe_ix ix_list (pv 0) pe_int (fun _ _ => rfl)) (pa_cons (pv 1) pa_nil))))
      (pss_cons (ps_set (i := 3) law_balanced_sc.nd rfl (Or.inl rfl) (pe_call D_law_copied.ok (hr.mono (by first | decide | omega)) rfl D_law_copied.g D_law_copied.kp D_law_copied.b .nil ErrX.passN (pa_cons (pe_ix ix_list (pv 0) pe_int (fun _ _ => rfl)) (pa_cons (pv 1) pa_nil))))
      (pss_cons (ps_if (pt_not (pt_val (pe_call D_law_alike.ok (hr.mono (by first | decide | omega)) rfl D_law_alike.g D_law_alike.kp D_law_alike.b .nil ErrX.passN (pa_cons (ClX.pe_smeth (pe_glob (v := .ref CT) rfl g_Totals rfl) D_Totals_balance.cr D_Totals_balance.cm D_Totals_balance.ok (hr.mono (by first | decide | omega)) ErrX.passN (pa_cons (pv 2) (pa_cons (pv 3) pa_nil))) (pa_cons (pe_op op_sub (pe_callB (EnT.cr_sumE rfl) (by rfl) m_sum (by decide +kernel) (pa_cons (pe_ix ix_list (pv 0) pe_int (fun _ _ => rfl)) pa_nil)) (pe_callB (EnT.cr_sumE rfl) (by rfl) m_sum (by decide +kernel) (pa_cons (pe_ix ix_list (pv 0) pe_int (fun _ _ => rfl)) pa_nil))) pa_nil))))) (pss_one (ps_ret pe_bl)) pss_nil)
      (pss_one (ps_ret (pe_and (pe_cmpR (op_eqD hr.units) (pe_callTy call_list_of (by rfl) m_list (by decide +kernel) (pa_cons (pv 2) pa_nil)) (pe_ix ix_list (pv 0) pe_int (fun _ _ => rfl)) (nomark _)) (pe_one (pe_cmpR (op_eqD hr.units) (pe_callTy call_list_of (by rfl) m_list (by decide +kernel) (pa_cons (pv 3) pa_nil)) (pe_ix ix_list (pv 0) pe_int (fun _ _ => rfl)) (nomark _))))))))), enterX (n := 4) rfl h fun A φs k kx hS hE => ?_⟩)
  obtain ⟨a, b, m, rfl, h1⟩ := hS
  have sa := samI a
  have sb := samI b
  cases m with
  | true =>
    refine Dt_seq (Dt_set (De_cop (Da_cons (De_op (De_var rfl (De_c (Rr_ixL rfl (Da_cons (De_var rfl (Da_nil ⟨a, rfl, ?_⟩))))))))))
    refine Dt_seq (Dt_set (De_cop (Da_cons (De_op (De_var rfl (De_c (Rr_ixL rfl (Da_cons (De_var rfl (Da_nil ⟨b, rfl, ?_⟩))))))))))
    refine Dt_seq (Dt_if (Dc_not (Dc_test (De_callN (Da_cons (De_smeth (kx := fun _ _ => False) (fun _ _ _ _ _ _ _ _ _ z => z.elim) (De_c ⟨rfl, Da_cons (De_var rfl (Da_cons (De_var rfl (Da_nil ⟨TU, TU, a, b, .inr rfl, .inr rfl, rfl, ?_⟩))))⟩)))))))
    refine Da_cons (De_op (De_sumL (ns := a) (Dl_de (De_op (De_var rfl (De_c (Rr_ixL rfl ⟨_, rfl, rfl, De_sumL (ns := b) (Dl_de (De_op (De_var rfl (De_c (Rr_ixL rfl ⟨_, rfl, rfl, Rr_I0 (Da_nil (alike_of (show Nst 2 (TI (a.sum - b.sum)) from Or.inl ⟨_, rfl⟩) ⟨_, rfl, fun z => (by cases z), fun _ => Dt_next ?_⟩))⟩)))))⟩)))))))
    refine Dt_ret (De_and (De_op (De_dn (Dn_listU (De_var rfl ⟨_, rfl, _, rfl, De_op (De_var rfl (De_c (Rr_ixL rfl (Rr_eqD (dtI K a) (dtI K a) (okI a) (okI a) ⟨_, rfl, ?_⟩))))⟩)))))
    rw [sa]
    refine ⟨fun _ => De_op (De_dn (Dn_listU (De_var rfl ⟨_, rfl, _, rfl, De_op (De_var rfl (De_c (Rr_ixL rfl (Rr_eqD (dtI K b) (dtI K b) (okI b) (okI b) ?_))))⟩))), fun z => (by cases z)⟩
    rw [sb]
    exact h1
  | false =>
    refine Dt_seq (Dt_setOw (Dn_cop (Da_cons (De_op (De_var rfl (De_c (Rr_ixL rfl (Da_cons (De_var rfl (Da_nil ⟨a, rfl, ?_⟩))))))))))
    refine Dt_seq (Dt_setOw (Dn_cop (Da_cons (De_op (De_var rfl (De_c (Rr_ixL rfl (Da_cons (De_var rfl (Da_nil ⟨b, rfl, ?_⟩))))))))))
    refine Dt_know 2 rfl (Dt_know 3 rfl ?_)
    refine Dt_seq (Dt_if (Dc_not (Dc_test (De_callN (Da_cons (De_smeth (kx := fun _ _ => False) (fun _ _ _ _ _ _ _ _ _ z => z.elim) (De_c ⟨rfl, Da_cons (De_var rfl (Da_cons (De_var rfl (Da_nil ⟨TL, TL, a, b, .inl rfl, .inl rfl, rfl, ?_⟩))))⟩)))))))
    refine Da_cons (De_op (De_sumL (ns := a) (Dl_de (De_op (De_var rfl (De_c (Rr_ixL rfl ⟨_, rfl, rfl, De_sumL (ns := b) (Dl_de (De_op (De_var rfl (De_c (Rr_ixL rfl ⟨_, rfl, rfl, Rr_I0 (Da_nil (alike_of (show Nst 2 (TI (a.sum - b.sum)) from Or.inl ⟨_, rfl⟩) ⟨_, rfl, fun z => (by cases z), fun _ => Dt_next ?_⟩))⟩)))))⟩)))))))
    refine Dt_ret (De_and (De_op (De_dn (Dn_listL (Dl_im rfl ⟨_, rfl, De_op (De_var rfl (De_c (Rr_ixL rfl (Rr_eqD (dtI K a) (dtI K a) (okI a) (okI a) ⟨_, rfl, ?_⟩))))⟩)))))
    rw [sa]
    refine ⟨fun _ => De_op (De_dn (Dn_listL (Dl_im rfl ⟨_, rfl, De_op (De_var rfl (De_c (Rr_ixL rfl (Rr_eqD (dtI K b) (dtI K b) (okI b) (okI b) ?_))))⟩))), fun z => (by cases z)⟩
    rw [sb]
    exact h1
end
end K08
set_option Elab.async false
set_option linter.all false
set_option maxRecDepth 100000
set_option maxHeartbeats 4000000
namespace K08
open PySem PySem.Spec PyProof.Rows L2 Wl Kx
theorem TxJ.lit {t : Str} (h : (∀ c ∈ TL.tl t, c < 128) ∧ t.length ≤ 20) : TxJ 200 t := ⟨h.1, by have := h.2; omega⟩
theorem TxJ.up {j k : Nat} {t : Str} (h : TxJ j t) (l : j ≤ k) : TxJ k t := ⟨h.1, by have := h.2; omega⟩
theorem TxJ.bef {t u : Str} (h : TxJ 0 t) (g : (∀ c ∈ TL.tl u, c < 128) ∧ u.length ≤ 20) : TxJ 200 (u ++ t) := ⟨asc_app g.1 h.1, by rw [app_len]; have := h.2; have := g.2; omega⟩
theorem TxJ.aft {t u : Str} (h : TxJ 0 t) (g : (∀ c ∈ TL.tl u, c < 128) ∧ u.length ≤ 20) : TxJ 200 (t ++ u) := ⟨asc_app h.1 g.1, by rw [app_len]; have := h.2; have := g.2; omega⟩
def readTs (p s o : Str) : List Str := [p, s, o, "", "0" ++ p, " " ++ p, p ++ " ", p ++ "\n", p ++ " | 0", " | ", "0|0", "0 |0", "0 |  0", "0 | 00", "1_0 | 10", "+1 | 1", "-0 | 0", "0001 | 1"]
theorem readTs_ok {p s o : Str} (hp : TxJ 0 p) (hs : TxJ 2 s) (ho : TxJ 0 o) : ∀ t ∈ readTs p s o, TxJ 200 t := fun t ht => by
  unfold readTs at ht
  simp only [List.mem_cons, List.not_mem_nil, or_false] at ht
  rcases ht with rfl | rfl | rfl | rfl | rfl | rfl | rfl | rfl | rfl | rfl | rfl | rfl | rfl | rfl | rfl | rfl | rfl | rfl
  · exact hp.up (by omega)
  · exact hs.up (by omega)
  · exact ho.up (by omega)
  · exact .lit (by decide +kernel)
  · exact hp.bef (by decide +kernel)
  · exact hp.bef (by decide +kernel)
  · exact hp.aft (by decide +kernel)
  · exact hp.aft (by decide +kernel)
  · exact hp.aft (by decide +kernel)
  all_goals exact .lit (by decide +kernel)
def bi (b : Bool) : Int := if b then 1 else 0
abbrev sel (r s : List Int × List Int) (b : Bool) : List Int × List Int := if b then s else r
theorem len20 {u p : Str} (h : p.length ≤ 700) (g : u.length ≤ 20) : u.length + p.length ≤ 100000 ∧ p.length + u.length ≤ 100000 := ⟨by omega, by omega⟩
section
variable {P : Program} {w : World} {K : PySem.W.Frag} {mg : Str → Option Value} {base : Heap} {f : Addr} {fd : FuncData}
/-! ### _law_reads -/
abbrev law_reads_N : List Str := ["pool", "one", "odd", "rows", "plain", "texts", "text", "sides", "due"]
theorem law_reads_sc : FnScope ["pool", "one", "odd", "rows", "plain", "texts", "text", "sides", "due"] ["pool", "one", "odd"] (defScope law_reads_st) := ⟨rfl, rfl, rfl, by decide +kernel, rfl, by decide +kernel, by decide +kernel⟩
def S_lreads : PX := fun φs k _ => ∃ a b c d : List Int, φs = [TC, rwT a b, rwT c d] ∧ Tame a ∧ Tame b ∧ Tame c ∧ Tame d ∧ k (TB true)
theorem ok_lreads {CT f1 f2 f3 f4 f5 f6 f7 : Addr} {fd1 fd2 fd3 fd4 fd5 fd6 fd7 : FuncData} (F : FnS K "_law_reads" law_reads_st f fd)
    (D_law_take : Df P w K mg base 1 "_law_take" ["pool", "limit"] (spX S_take) f1 fd1) (D_law_text : Df P w K mg base 1 "_law_text" ["rows"] (spX S_text) f2 fd2) (D_law_spoilt : Df P w K mg base 2 "_law_spoilt" ["pool", "text"] (spX S_spoilt) f3 fd3) (D_law_sides : Df P w K mg base 1 "_law_sides" ["text"] (spX S_sides) f4 fd4)
    (D_law_ask : Df P w K mg base 12 "_law_ask" ["word", "a", "b"] (spAsk CT) f5 fd5) (D_law_due : Df P w K mg base 1 "_law_due" ["first", "second"] (spX S_due) f6 fd6) (D_law_agrees : Df P w K mg base 7 "_law_agrees" ["told", "due"] (fun vs H Q E => ∃ N, spX (S_agrees CT N) vs H Q E) f7 fd7) :
    FnOk P w K mg base (L2N.CX P w) 13 f fd ["pool", "one", "odd"] (spX S_lreads) := by
  refine F.ok law_reads_sc (fun vs H Q E h => lenX (n := 3) (fun φs k kx ⟨_, _, _, _, e, _⟩ => by rw [e]; rfl) h) (fun cdv A outer s H vs Q E hr h => ⟨_, (pss_cons (ps_set (i := 3) law_reads_sc.nd rfl (Or.inl rfl) (pv 1))
      (pss_cons (ps_if (pt_cmpR op_eq (pe_call D_law_take.ok (hr.mono (by first | decide | omega)) rfl D_law_take.g D_law_take.kp D_law_take.b .nil ErrX.passN (pa_cons (pv 0) (pa_cons pe_int pa_nil))) pe_int (nomark _)) (pss_one (ps_set (i := 3) law_reads_sc.nd rfl (Or.inl rfl) (pv 2))) pss_nil)
      (pss_cons (ps_set (i := 4) law_reads_sc.nd rfl (Or.inl rfl) (pe_call D_law_text.ok (hr.mono (by first | decide | omega)) rfl D_law_text.g D_law_text.kp D_law_text.b .nil ErrX.passN (pa_cons (pv 1) pa_nil)))
      (pss_cons (ps_set (i := 5) law_reads_sc.nd rfl (Or.inl rfl) (pe_lst (pa_cons (pv 4) (pa_cons (pe_call D_law_spoilt.ok (hr.mono (by first | decide | omega)) rfl D_law_spoilt.g D_law_spoilt.kp D_law_spoilt.b .nil ErrX.passN (pa_cons (pv 0) (pa_cons (pe_call D_law_text.ok (hr.mono (by first | decide | omega)) rfl D_law_text.g D_law_text.kp D_law_text.b .nil ErrX.passN (pa_cons (pv 3) pa_nil)) pa_nil))) (pa_cons (pe_call D_law_text.ok (hr.mono (by first | decide | omega)) rfl D_law_text.g D_law_text.kp D_law_text.b .nil ErrX.passN (pa_cons (pv 2) pa_nil)) (pa_cons pe_str pa_nil))))))
      (pss_cons (ps_set (i := 5) law_reads_sc.nd rfl (Or.inl rfl) (pe_op op_cat (pv 5) (pe_lst (pa_cons (pe_op op_add_str pe_str (pv 4)) (pa_cons (pe_op op_add_str pe_str (pv 4)) (pa_cons (pe_op op_add_str (pv 4) pe_str) (pa_cons (pe_op op_add_str (pv 4) pe_str) pa_nil)))))))
      (pss_cons (ps_set (i := 5) law_reads_sc.nd rfl (Or.inl rfl) (pe_op op_cat (pv 5) (pe_lst (pa_cons (pe_op op_add_str (pv 4) pe_str) (pa_cons pe_str (pa_cons pe_str (pa_cons pe_str (pa_cons pe_str (pa_cons pe_str pa_nil)))))))))
      (pss_cons (ps_for (passes_of rfl) rfl (pi_list (pe_op op_cat (pv 5) (pe_lst (pa_cons pe_str (pa_cons pe_str (pa_cons pe_str (pa_cons pe_str pa_nil))))))) (pg_name (i := 6) law_reads_sc.nd rfl (Or.inl rfl))
      (pss_cons (ps_set (i := 7) law_reads_sc.nd rfl (Or.inl rfl) (pe_call D_law_sides.ok (hr.mono (by first | decide | omega)) rfl D_law_sides.g D_law_sides.kp D_law_sides.b .nil ErrX.passN (pa_cons (pv 6) pa_nil)))
      (pss_cons (ps_set (i := 8) law_reads_sc.nd rfl (Or.inl rfl) (pe_tup (pa_cons pe_str (pa_cons pe_str (pa_cons (pe_lst (pa_cons (pv 6) pa_nil)) pa_nil)))))
      (pss_cons (ps_if (pt_cmpR op_notN (pv 7) pe_non (nomark _)) (pss_one (ps_set (i := 8) law_reads_sc.nd rfl (Or.inl rfl) (pe_call D_law_due.ok (hr.mono (by first | decide | omega)) rfl D_law_due.g D_law_due.kp D_law_due.b .nil ErrX.passN (pa_cons (pe_ix ix_list (pv 7) pe_int (fun _ _ => rfl)) (pa_cons (pe_ix ix_list (pv 7) pe_int (fun _ _ => rfl)) pa_nil))))) pss_nil)
      (pss_one (ps_if (pt_not (pt_val (pe_call D_law_agrees.ok (hr.mono (by first | decide | omega)) rfl D_law_agrees.g D_law_agrees.kp D_law_agrees.b .nil ErrX.passN (pa_cons (pe_call D_law_ask.ok (hr.mono (by first | decide | omega)) rfl D_law_ask.g D_law_ask.kp D_law_ask.b .nil ErrX.passN (pa_cons pe_str (pa_cons (pv 6) (pa_cons pe_non pa_nil)))) (pa_cons (pv 8) pa_nil))))) (pss_one (ps_ret pe_bl)) pss_nil))))))
      (pss_one (ps_ret pe_bl))))))))), enterX (n := 9) rfl h fun A φs k kx hS hE => ?_⟩)
  obtain ⟨a, b, c, d, rfl, ta, tb, tc, td, h1⟩ := hS
  refine Dt_seq (Dt_set (De_var rfl ?_))
  have turn : ∀ (O : Out), (∀ x y, Tame x → Tame y → O.nx [.im TC, .im (rwT a b), .im (rwT c d), .im (rwT x y), .no, .no, .no, .no, .no]) → Dt A (tIfS (tTest (tOp rEq (tCall (spX S_take) [] E0 (tCons (tVar 0) (tCons (tC (.int 2)) tNil))) (tC (.int 1)))) (tAsg (tVar 2) (gName 3)) tNext) [.im TC, .im (rwT a b), .im (rwT c d), .im (rwT a b), .no, .no, .no, .no, .no] O := fun O hO =>
    Dt_if (Dc_test (De_op (De_callN (Da_cons (De_var rfl (Da_cons (De_c (Da_nil ⟨2, rfl, by decide, by decide, fun d d0 d1 => De_c (Rr_eq rfl ⟨_, rfl, fun _ => Dt_set (De_var rfl (hO _ _ tc td)), fun _ => Dt_next (hO _ _ ta tb)⟩)⟩))))))))
  refine Dt_seq (turn _ fun x y tx ty => ?_)
  clear turn
  have txt : ∀ {a b : List Int}, Tame a → Tame b → TxJ 0 (totS a b) := fun ha hb => ⟨tot_asc _ _, by have := tot_len ha hb; omega⟩
  have pp := txt ta tb
  have po := txt tc td
  have pq := txt tx ty
  refine Dt_seq (Dt_set (De_callN (Da_cons (De_var rfl (Da_nil ⟨a, b, rfl, ta, tb, ?_⟩)))))
  refine Dt_seq (Dt_set (De_lst (Da_cons (De_var rfl (Da_cons (De_callN (Da_cons (De_var rfl (Da_cons (De_callN (Da_cons (De_var rfl (Da_nil ⟨x, y, rfl, tx, ty, Da_nil ⟨_, rfl, pq, fun s ps => ?_⟩⟩)))))))))))))
  refine Da_cons (De_callN (Da_cons (De_var rfl (Da_nil ⟨c, d, rfl, tc, td, Da_cons (De_c (Da_nil ⟨Nat.le_of_ble_eq_true rfl, ?_⟩))⟩))))
  generalize totS a b = p at pp ⊢
  generalize totS c d = o at po ⊢
  have lp := pp.2
  refine Dt_seq (Dt_set (De_dn (Dn_cat (Dl_im rfl (Dl_dn (Dn_lst (Da_cons (De_op (De_c (De_var rfl (Rr_addSz (len20 lp (by decide +kernel)).1 (Da_cons (De_op (De_c (De_var rfl (Rr_addSz (len20 lp (by decide +kernel)).1 (Da_cons (De_op (De_var rfl (De_c (Rr_addSz (len20 lp (by decide +kernel)).2 (Da_cons (De_op (De_var rfl (De_c (Rr_addSz (len20 lp (by decide +kernel)).2 (Da_nil ⟨Nat.le_of_ble_eq_true rfl, _, rfl, Nat.le_of_ble_eq_true rfl, _, rfl, ?_⟩)))))))))))))))))))))))))))
  refine Dt_seq (Dt_set (De_dn (Dn_cat (Dl_im rfl (Dl_dn (Dn_lst (Da_cons (De_op (De_var rfl (De_c (Rr_addSz (len20 lp (by decide +kernel)).2 (Da_cons (De_c (Da_cons (De_c (Da_cons (De_c (Da_cons (De_c (Da_cons (De_c (Da_nil ⟨Nat.le_of_ble_eq_true rfl, _, rfl, Nat.le_of_ble_eq_true rfl, _, rfl, ?_⟩))))))))))))))))))))))
  refine Dt_seq (Dt_forI [6] (ψs := (readTs p s o).map TS) (fun j Φ => ∃ (s3 s5 s6 s7 s8 : Sl), Φ = [.im TC, .im (rwT a b), .im (rwT c d), s3, .im (TS p), s5, s6, s7, s8]) (Di_list (De_dn (Dn_cat (Dl_im rfl (Dl_dn (Dn_lst (Da_cons (De_c (Da_cons (De_c (Da_cons (De_c (Da_cons (De_c (Da_nil ⟨Nat.le_of_ble_eq_true rfl, _, rfl, Nat.le_of_ble_eq_true rfl, _, rfl, _, rfl, rfl⟩))))))))))))))) ⟨_, _, _, _, _, rfl⟩ (fun j ψ Φ e hI => ?_) fun Φ hI => ?_)
  · obtain ⟨s3, s5, s6, s7, s8, rfl⟩ := hI
    obtain ⟨t, et, rfl⟩ := of_map e
    have tx := readTs_ok pp ps po t (List.mem_of_getElem? et)
    have tl := tx.2
    refine Dg_name (Dt_seq (Dt_set (De_callN (Da_cons (De_var rfl (Da_nil ⟨t, rfl, tx, ?_⟩))))))
    refine Dt_seq (Dt_set (De_ref (De_var rfl ⟨_, rfl, ?_⟩)))
    have gd : (readDue t).good := Qk.good (q := .read t) (show t.length ≤ 900 by omega)
    cases e : sidesOf t with
    | none =>
      have er : readDue t = .ref .unr [.str t] := by unfold readDue; rw [e]
      refine Dt_seq (Dt_if (Dc_test (De_op (De_var rfl (De_c (Rr_notN ⟨_, rfl, fun z => (by cases z), fun _ => Dt_next ?_⟩))))))
      refine Dt_if (Dc_not (Dc_test (De_agr (Da_cons (De_ask (Da_cons (De_c (Da_cons (De_var rfl (Da_cons (De_c (Da_nil ⟨.read t, rfl, (by show t.length ≤ 900; omega), fun N => ?_⟩))))))))))))
      exact Da_cons (De_var rfl (Da_nil ⟨N, readDue t, by rw [er]; show [askT CT N (readDue t), _] = _; rw [er]; rfl, gd, _, rfl, fun z => (by cases z), fun _ => Dt_next ⟨_, _, _, _, _, rfl⟩⟩))
    | some q =>
      obtain ⟨u, v⟩ := q
      have er : readDue t = makeDue u v := by unfold readDue; rw [e]
      refine Dt_seq (Dt_if (Dc_test (De_op (De_var rfl (De_c (Rr_notN_no (nn_lst _) ⟨_, rfl, fun _ => ?_, fun z => (by cases z)⟩))))))
      refine Dt_set (De_callN (Da_cons (De_op (De_var rfl (De_c (Rr_ixL rfl (Da_cons (De_op (De_var rfl (De_c (Rr_ixL rfl (Da_nil ⟨u, v, rfl, ?_⟩))))))))))))
      refine Dt_if (Dc_not (Dc_test (De_agr (Da_cons (De_ask (Da_cons (De_c (Da_cons (De_var rfl (Da_cons (De_c (Da_nil ⟨.read t, rfl, (by show t.length ≤ 900; omega), fun N => ?_⟩))))))))))))
      exact Da_cons (De_var rfl (Da_nil ⟨N, readDue t, by rw [er]; show [askT CT N (readDue t), _] = _; rw [er], gd, _, rfl, fun z => (by cases z), fun _ => Dt_next ⟨_, _, _, _, _, rfl⟩⟩))
  · obtain ⟨s3, s5, s6, s7, s8, rfl⟩ := hI
    exact Dt_ret (De_c h1)
/-! ### _law_adds -/
abbrev law_adds_N : List Str := ["pool", "boxes", "rows", "k", "told", "picks", "due"]
theorem law_adds_sc : FnScope ["pool", "boxes", "rows", "k", "told", "picks", "due"] ["pool", "boxes", "rows"] (defScope law_adds_st) := ⟨rfl, rfl, rfl, by decide +kernel, rfl, by decide +kernel, by decide +kernel⟩
def S_ladds (CT : Addr) : PX := fun φs k _ => ∃ a b c d : List Int, φs = [TC, TL [TTot CT a b, TTot CT c d], TL [rwT a b, rwT c d]] ∧ OkT a b ∧ OkT c d ∧ k (TB true)
theorem ok_ladds {CT f1 f2 f3 f4 : Addr} {fd1 fd2 fd3 fd4 : FuncData} (F : FnS K "_law_adds" law_adds_st f fd) (m_range : mg "range" = none)
    (D_law_take : Df P w K mg base 1 "_law_take" ["pool", "limit"] (spX S_take) f1 fd1) (D_law_plus : Df P w K mg base 1 "_law_plus" ["one", "two"] (spX S_plus) f2 fd2) (D_law_ask : Df P w K mg base 12 "_law_ask" ["word", "a", "b"] (spAsk CT) f3 fd3) (D_law_agrees : Df P w K mg base 7 "_law_agrees" ["told", "due"] (fun vs H Q E => ∃ N, spX (S_agrees CT N) vs H Q E) f4 fd4) :
    FnOk P w K mg base (L2N.CX P w) 13 f fd ["pool", "boxes", "rows"] (spX (S_ladds CT)) := by
  refine F.ok law_adds_sc (fun vs H Q E h => lenX (n := 3) (fun φs k kx ⟨_, _, _, _, e, _⟩ => by rw [e]; rfl) h) (fun cdv A outer s H vs Q E hr h => ⟨_, (pss_cons (ps_for (passes_of rfl) rfl (pi_range1 rfl m_range (pa_cons pe_int pa_nil)) (pg_name (i := 3) law_adds_sc.nd rfl (Or.inl rfl))
      (pss_cons (ps_set (i := 4) law_adds_sc.nd rfl (Or.inl rfl) (pe_call D_law_ask.ok (hr.mono (by first | decide | omega)) rfl D_law_ask.g D_law_ask.kp D_law_ask.b .nil ErrX.passN (pa_cons pe_str (pa_cons (pe_ix ix_list (pv 1) (pv 3) (fun _ _ => rfl)) (pa_cons (pe_ix ix_list (pv 1) (pe_op op_sub pe_int (pv 3)) (fun _ _ => rfl)) pa_nil)))))
      (pss_one (ps_if (pt_not (pt_val (pe_call D_law_agrees.ok (hr.mono (by first | decide | omega)) rfl D_law_agrees.g D_law_agrees.kp D_law_agrees.b .nil ErrX.passN (pa_cons (pv 4) (pa_cons (pe_call D_law_plus.ok (hr.mono (by first | decide | omega)) rfl D_law_plus.g D_law_plus.kp D_law_plus.b .nil ErrX.passN (pa_cons (pe_ix ix_list (pv 2) (pv 3) (fun _ _ => rfl)) (pa_cons (pe_ix ix_list (pv 2) (pe_op op_sub pe_int (pv 3)) (fun _ _ => rfl)) pa_nil))) pa_nil))))) (pss_one (ps_ret pe_bl)) pss_nil))))
      (pss_cons (ps_setLc (i := 5) (own := [("k", 3)]) rfl law_adds_sc.nd rfl rfl (sw_true rfl rfl rfl (by decide +kernel)) (pi_range1 rfl m_range (pa_cons (pe_op op_add pe_int (pe_call D_law_take.ok (hr.mono (by first | decide | omega)) rfl D_law_take.g D_law_take.kp D_law_take.b .nil ErrX.passN (pa_cons (pv 0) (pa_cons pe_int pa_nil)))) pa_nil)) (blkOk_by (own := [("k", 3)]) (N := law_adds_N) (sc := defScope law_adds_st) (by decide +kernel)) (fun _ _ _ _ _ => (pg_name (i := 3) law_adds_sc.nd rfl (Or.inl rfl))) (fun _ _ _ _ _ => pts_nil) (fun _ _ _ _ _ => (pe_call D_law_take.ok (hr.mono (by first | decide | omega)) rfl D_law_take.g D_law_take.kp D_law_take.b .nil ErrX.passN (pa_cons (pv 0) (pa_cons pe_int pa_nil)))))
      (pss_cons (ps_set (i := 6) law_adds_sc.nd rfl (Or.inl rfl) (pe_tup (pa_cons pe_str (pa_cons (pe_ix ix_list (pe_ix ix_list (pv 2) (pe_ix ix_list (pv 5) pe_int (fun _ _ => rfl)) (fun _ _ => rfl)) pe_int (fun _ _ => rfl)) (pa_cons (pe_ix ix_list (pe_ix ix_list (pv 2) (pe_ix ix_list (pv 5) pe_int (fun _ _ => rfl)) (fun _ _ => rfl)) pe_int (fun _ _ => rfl)) pa_nil)))))
      (pss_cons (ps_for (passes_of rfl) rfl (pi_list (pe_slice sl_list (pv 5) (po_some pe_int) po_none)) (pg_name (i := 3) law_adds_sc.nd rfl (Or.inl rfl))
      (pss_one (ps_if (pt_cmpR op_eq (pe_ix ix_tup (pv 6) pe_int (fun _ _ => rfl)) pe_str (nomark _)) (pss_one (ps_set (i := 6) law_adds_sc.nd rfl (Or.inl rfl) (pe_call D_law_plus.ok (hr.mono (by first | decide | omega)) rfl D_law_plus.g D_law_plus.kp D_law_plus.b .nil ErrX.passN (pa_cons (pe_lst (pa_cons (pe_ix ix_tup (pv 6) pe_int (fun _ _ => rfl)) (pa_cons (pe_ix ix_tup (pv 6) pe_int (fun _ _ => rfl)) pa_nil))) (pa_cons (pe_ix ix_list (pv 2) (pv 3) (fun _ _ => rfl)) pa_nil))))) pss_nil)))
      (pss_one (ps_ret (pe_call D_law_agrees.ok (hr.mono (by first | decide | omega)) rfl D_law_agrees.g D_law_agrees.kp D_law_agrees.b .nil ErrX.passN (pa_cons (pe_call D_law_ask.ok (hr.mono (by first | decide | omega)) rfl D_law_ask.g D_law_ask.kp D_law_ask.b .nil ErrX.passN (pa_cons pe_str (pa_cons (pe_lc (own := [("k", 3)]) rfl law_adds_sc.nd (pi_list (pv 5)) (blkOk_by (own := [("k", 3)]) (N := law_adds_N) (sc := defScope law_adds_st) (by decide +kernel)) (fun _ _ _ _ _ => (pg_name (i := 3) law_adds_sc.nd rfl (Or.inl rfl))) (fun _ _ _ _ _ => pts_nil) (fun _ _ _ _ _ => (pe_ix (ix_list : IxR _ (rIxL K)) (pv 1) (pv 3) (fun _ _ => rfl)))) (pa_cons pe_non pa_nil)))) (pa_cons (pv 6) pa_nil))))))))), enterX (n := 7) rfl h fun A φs k kx hS hE => ?_⟩)
  obtain ⟨a, b, c, d, rfl, g1, g2, h1⟩ := hS
  generalize hr0 : (a, b) = r0
  generalize hs0 : (c, d) = s0
  have ra : ∀ t : Bool, atI [rwT a b, rwT c d] (bi t) = some (rwT (sel r0 s0 t).1 (sel r0 s0 t).2) := fun t => by subst hr0 hs0; cases t <;> rfl
  have ba : ∀ t : Bool, atI [TTot CT a b, TTot CT c d] (bi t) = some (TTot CT (sel r0 s0 t).1 (sel r0 s0 t).2) := fun t => by subst hr0 hs0; cases t <;> rfl
  have so : ∀ t : Bool, OkT (sel r0 s0 t).1 (sel r0 s0 t).2 := fun t => by subst hr0 hs0; cases t <;> assumption
  refine Dt_seq (Dt_forI [3] (ψs := (List.range 2).map fun (i : Nat) => TI i) (fun j Φ => ∃ s3 s4, Φ = [.im TC, .im (TL [TTot CT a b, TTot CT c d]), .im (TL [rwT a b, rwT c d]), s3, s4, .no, .no]) (Di_range1 (Da_cons (De_c (Da_nil ⟨2, rfl, by decide, rfl⟩)))) ⟨_, _, rfl⟩ (fun j ψ Φ e hI => ?_) fun Φ hI => ?_)
  · obtain ⟨s3, s4, rfl⟩ := hI
    match j, e with
    | 0, e =>
      cases e
      refine Dg_name (Dt_seq (Dt_set (De_ask (Da_cons (De_c (Da_cons (De_op (De_var rfl (De_var rfl (Rr_ixL rfl (Da_cons (De_op (De_var rfl (De_op (De_c (De_var rfl (Rr_I0 (Rr_ixL rfl (Da_nil ⟨.plus a b c d, rfl, ⟨g1, g2⟩, fun N => ?_⟩)))))))))))))))))))
      refine Dt_if (Dc_not (Dc_test (De_agr (Da_cons (De_var rfl (Da_cons (De_callN (Da_cons (De_op (De_var rfl (De_var rfl (Rr_ixL rfl (Da_cons (De_op (De_var rfl (De_op (De_c (De_var rfl (Rr_I0 (Rr_ixL rfl (Da_nil ⟨a, b, c, d, rfl, g1.s1.2, g1.d1.2, ?_⟩)))))))))))))))))))))
      exact Da_nil ⟨N, plusDue a b c d, rfl, Qk.good (q := .plus a b c d) ⟨g1, g2⟩, _, rfl, fun z => (by cases z), fun _ => Dt_next ⟨_, _, rfl⟩⟩
    | 1, e =>
      cases e
      refine Dg_name (Dt_seq (Dt_set (De_ask (Da_cons (De_c (Da_cons (De_op (De_var rfl (De_var rfl (Rr_ixL rfl (Da_cons (De_op (De_var rfl (De_op (De_c (De_var rfl (Rr_I0 (Rr_ixL rfl (Da_nil ⟨.plus c d a b, rfl, ⟨g2, g1⟩, fun N => ?_⟩)))))))))))))))))))
      refine Dt_if (Dc_not (Dc_test (De_agr (Da_cons (De_var rfl (Da_cons (De_callN (Da_cons (De_op (De_var rfl (De_var rfl (Rr_ixL rfl (Da_cons (De_op (De_var rfl (De_op (De_c (De_var rfl (Rr_I0 (Rr_ixL rfl (Da_nil ⟨c, d, a, b, rfl, g2.s1.2, g2.d1.2, ?_⟩)))))))))))))))))))))
      exact Da_nil ⟨N, plusDue c d a b, rfl, Qk.good (q := .plus c d a b) ⟨g2, g1⟩, _, rfl, fun z => (by cases z), fun _ => Dt_next ⟨_, _, rfl⟩⟩
  obtain ⟨s3, s4, rfl⟩ := hI
  refine Dt_seq (Dt_setOw (Dn_lc (us := [3]) (by decide) (Di_range1 (Da_cons (De_op (De_c (De_callN (Da_cons (De_var rfl (Da_cons (De_c (Da_nil ⟨4, rfl, by decide, by decide, fun q q0 q4 => Rr_I0 (Da_nil ?_)⟩))))))))))))
  obtain ⟨q', rfl⟩ := Int.eq_ofNat_of_zero_le q0
  refine ⟨1 + q', by rw [show (1 : Int) + (q' : Int) = ((1 + q' : Nat) : Int) by omega], by omega, fun j acc => ∃ bs : List Bool, bs.length = j ∧ acc = bs.map fun t => TI (bi t), ⟨[], rfl, rfl⟩, fun j ψ acc e hR => ?_, fun acc hR => ?_⟩
  · obtain ⟨bs, lb, rfl⟩ := hR
    have hj : j < 1 + q' := by have := (List.getElem?_eq_some_iff.mp e).1; rw [List.length_map, List.length_range] at this; exact this
    refine Dg_name (Dc_yes ⟨fun _ => De_callN (Da_cons (De_var rfl (Da_cons (De_c (Da_nil ⟨2, rfl, by decide, by decide, fun t t0 t1 => ?_⟩))))), fun z => by cases z⟩)
    refine ⟨by rw [List.length_map]; omega, bs ++ [decide (t = 1)], by rw [List.length_append, lb]; rfl, ?_⟩
    rw [List.map_append]
    have : TI t = TI (bi (decide (t = 1))) := by
      by_cases z : t = 1
      · subst z; rfl
      · rw [show t = 0 by omega]; rfl
    rw [this]
    rfl
  obtain ⟨bs, lb, rfl⟩ := hR
  rw [List.length_map, List.length_range] at lb
  obtain ⟨b0, bt, rfl⟩ : ∃ b0 bt, bs = b0 :: bt := by
    cases bs with
    | nil => have lb : 0 = 1 + q' := lb; omega
    | cons b0 bt => exact ⟨b0, bt, rfl⟩
  have lt : bt.length ≤ 3 := by rw [List.length_cons] at lb; omega
  have pa : atI ((b0 :: bt).map fun t => TI (bi t)) (0 : Int) = some (TI (bi b0)) := by
    show atI _ ((0 : Nat) : Int) = _
    exact L2.atI_nat rfl
  refine Dt_know 5 rfl ?_
  refine Dt_seq (Dt_set (De_tup (Da_cons (De_c (Da_cons (De_op (De_op (De_var rfl (De_op (De_var rfl (De_c (Rr_ixL pa (Rr_ixL (ra b0) (De_c (Rr_ixL rfl (Da_cons (De_op (De_op (De_var rfl (De_op (De_var rfl (De_c (Rr_ixL pa (Rr_ixL (ra b0) (De_c (Rr_ixL rfl (Da_nil ⟨Nat.le_of_ble_eq_true rfl, ?_⟩)))))))))))))))))))))))))))
  have mr : ∀ xs : List Bool, ∀ r ∈ xs.map (sel r0 s0), OkT r.1 r.2 := fun xs r hr => by
    obtain ⟨t, _, rfl⟩ := List.mem_map.mp hr
    exact so t
  refine Dt_seq (Dt_forI [3] (ψs := bt.map fun t => TI (bi t)) (fun j Φ => ∃ s3, Φ = [.im TC, .im (TL [TTot CT a b, TTot CT c d]), .im (TL [rwT a b, rwT c d]), s3, s4, .im (TL ((b0 :: bt).map fun t => TI (bi t))), .im (foldDue (.mad (sel r0 s0 b0).1 (sel r0 s0 b0).2) ((bt.take j).map (sel r0 s0))).T]) (Di_list (De_dn (Dn_slice (Dl_im rfl (Do_part (De_c ⟨_, rfl, Do_none ⟨_, rfl, _, rfl, cut_drop _ 1⟩⟩)))))) ⟨_, rfl⟩ (fun j ψ Φ e hI => ?_) fun Φ hI => ?_)
  · obtain ⟨s3, rfl⟩ := hI
    obtain ⟨t, et, rfl⟩ := of_map e
    have st : foldDue (.mad (sel r0 s0 b0).1 (sel r0 s0 b0).2) ((bt.take (j + 1)).map (sel r0 s0)) = foldDue (foldDue (.mad (sel r0 s0 b0).1 (sel r0 s0 b0).2) ((bt.take j).map (sel r0 s0))) [sel r0 s0 t] := by
      rw [List.take_add_one, et, List.map_append, foldDue_app]
      rfl
    have sh := fold_shape (so b0) (mr (bt.take j))
    generalize foldDue (.mad (sel r0 s0 b0).1 (sel r0 s0 b0).2) ((bt.take j).map (sel r0 s0)) = D at *
    refine Dg_name ?_
    cases D with
    | mad x y =>
      have sh : x.length ≤ 8 ∧ y.length ≤ 8 := sh
      refine Dt_if (Dc_test (De_op (De_op (De_var rfl (De_c (Rr_ixU rfl (De_c (Rr_eq rfl ⟨_, rfl, br_yes rfl ?_⟩))))))))
      refine Dt_set (De_callN (Da_cons (De_lst (Da_cons (De_op (De_var rfl (De_c (Rr_ixU rfl (Da_cons (De_op (De_var rfl (De_c (Rr_ixU rfl (Da_nil ⟨Nat.le_of_ble_eq_true rfl, ?_⟩))))))))))))))
      refine Da_cons (De_op (De_var rfl (De_var rfl (Rr_ixL (ra t) (Da_nil ⟨x, y, _, _, rfl, sh.1, sh.2, ?_⟩)))))
      exact ⟨_, by rw [st]; rfl⟩
    | ref e xs =>
      refine Dt_if (Dc_test (De_op (De_op (De_var rfl (De_c (Rr_ixU rfl (De_c (Rr_eq rfl ⟨_, rfl, br_no (by decide) (Dt_next ⟨_, by rw [st]; rfl⟩)⟩))))))))
  obtain ⟨s3, rfl⟩ := hI
  rw [List.length_map, List.take_length]
  have ft : (Qk.added (sel r0 s0 b0).1 (sel r0 s0 b0).2 (bt.map (sel r0 s0))).fit := ⟨by rw [List.length_map]; exact lt, so b0, mr bt⟩
  have eb : TL ((b0 :: bt).map fun t => TTot CT (sel r0 s0 t).1 (sel r0 s0 t).2) = (Qk.A CT (.added (sel r0 s0 b0).1 (sel r0 s0 b0).2 (bt.map (sel r0 s0)))).1 := by
    show _ = TL (_ :: (bt.map (sel r0 s0)).map fun r => TTot CT r.1 r.2)
    rw [List.map_map]
    rfl
  refine Dt_ret (De_agr (Da_cons (De_ask (Da_cons (De_c (Da_cons (De_dn (Dn_mapL (us := [3]) (b0 :: bt) (fun t => TI (bi t)) (fun t => TTot CT (sel r0 s0 t).1 (sel r0 s0 t).2) (by decide) (by rw [List.length_cons]; omega) (Di_list (De_var rfl ⟨_, rfl, rfl⟩)) (fun t _ => Dg_name (De_op (De_var rfl (De_var rfl (Rr_ixL (ba t) rfl))))) ⟨_, rfl, ?_⟩))))))))
  refine Da_cons (De_c (Da_nil ⟨.added (sel r0 s0 b0).1 (sel r0 s0 b0).2 (bt.map (sel r0 s0)), by rw [← eb]; rfl, ft, fun N => ?_⟩))
  exact Da_cons (De_var rfl (Da_nil ⟨N, foldDue (.mad (sel r0 s0 b0).1 (sel r0 s0 b0).2) (bt.map (sel r0 s0)), rfl, Qk.good ft, h1⟩))
end
end K08
set_option Elab.async false
set_option linter.all false
set_option maxRecDepth 100000
set_option maxHeartbeats 4000000
namespace K08
open PySem PySem.Spec PyProof.Rows L2 Wl Kx
theorem atI_any {φs : List Ty} {d : Int} (h : ∀ φ ∈ φs, ∃ n : Int, φ = TI n) (d0 : 0 ≤ d) (d1 : d < φs.length) : ∃ n : Int, atI φs d = some (TI n) := by
  obtain ⟨i, rfl⟩ := Int.eq_ofNat_of_zero_le d0
  have hi : i < φs.length := by omega
  obtain ⟨n, e⟩ := h _ (List.getElem_mem hi)
  exact ⟨n, L2.atI_nat (by rw [List.getElem?_eq_getElem hi, e])⟩
theorem Rc_bool1 {b : Bool} {k : Ty → Prop} (h : k (TB b)) : Rc (fun xs H Q => (∃ i, xs = [.int i] ∧ Q (.bl (i != 0)) H) ∨ ∃ c, xs = [.bl c] ∧ Q (.bl c) H) [TB b] k := fun W H vs i a Q q => by
  obtain ⟨v, rfl, p⟩ := a.un
  obtain rfl : v = .bl b := p
  exact .inr ⟨b, rfl, q (TB b) _ W H (Fr.refl i) rfl h⟩
abbrev rwD (r : List Int × List Int) : PyData := .list [.list (r.1.map .int), .list (r.2.map .int)]
theorem rw_dt (K : PySem.W.Frag) (r : List Int × List Int) : Dty K (rwT r.1 r.2) (rwD r) := .lst ⟨.lst (.ints _), .lst (.ints _), trivial⟩
theorem rw_ok (r : List Int × List Int) : OkD 64 (rwD r) := .lst fun d hd => by
  simp only [List.mem_cons, List.not_mem_nil, or_false] at hd
  rcases hd with rfl | rfl <;> exact .lst (okInts _)
theorem rw_eqv (r s : List Int × List Int) : PyData.eqv (rwD r) (rwD s) = decide (r.1 = s.1 ∧ r.2 = s.2) := by
  simp [PyData.eqv, PyData.eqvAll, eqv_ints]
section
variable {P : Program} {w : World} {K : PySem.W.Frag} {mg : Str → Option Value} {base : Heap} {f : Addr} {fd : FuncData}
/-! ### _law_multiplies -/
abbrev law_multiplies_N : List Str := ["pool", "box", "rows", "near", "menu", "number", "due"]
theorem law_multiplies_sc : FnScope ["pool", "box", "rows", "near", "menu", "number", "due"] ["pool", "box", "rows"] (defScope law_multiplies_st) := ⟨rfl, rfl, rfl, by decide +kernel, rfl, by decide +kernel, by decide +kernel⟩
def S_lmul (CT : Addr) : PX := fun φs k _ => ∃ a b : List Int, φs = [TC, TTot CT a b, rwT a b] ∧ OkT a b ∧ k (TB true)
theorem ok_lmul {CT f1 f2 f3 f4 : Addr} {fd1 fd2 fd3 fd4 : FuncData} (F : FnS K "_law_multiplies" law_multiplies_st f fd) (m_max : mg "max" = none) (m_sum : mg "sum" = none)
    (D_law_take : Df P w K mg base 1 "_law_take" ["pool", "limit"] (spX S_take) f1 fd1) (D_law_times : Df P w K mg base 1 "_law_times" ["number", "one"] (spX S_times) f2 fd2) (D_law_ask : Df P w K mg base 12 "_law_ask" ["word", "a", "b"] (spAsk CT) f3 fd3) (D_law_agrees : Df P w K mg base 7 "_law_agrees" ["told", "due"] (fun vs H Q E => ∃ N, spX (S_agrees CT N) vs H Q E) f4 fd4) :
    FnOk P w K mg base (L2N.CX P w) 13 f fd ["pool", "box", "rows"] (spX (S_lmul CT)) := by
  refine F.ok law_multiplies_sc (fun vs H Q E h => lenX (n := 3) (fun φs k kx ⟨_, _, e, _⟩ => by rw [e]; rfl) h) (fun cdv A outer s H vs Q E hr h => ⟨_, (pss_cons (ps_set (i := 3) law_multiplies_sc.nd rfl (Or.inl rfl) (pe_op op_fdivN pe_int (pe_callB (call_max2 rfl) (by rfl) m_max (by decide +kernel) (pa_cons pe_int (pa_cons (pe_callB (EnT.cr_sumE rfl) (by rfl) m_sum (by decide +kernel) (pa_cons (pe_ix ix_list (pv 2) pe_int (fun _ _ => rfl)) pa_nil)) pa_nil)))))
      (pss_cons (ps_set (i := 4) law_multiplies_sc.nd rfl (Or.inl rfl) (pe_lst (pa_cons (pe_un un_neg pe_int) (pa_cons pe_int (pa_cons pe_int (pa_cons pe_int (pa_cons (pv 3) (pa_cons (pe_op op_add (pv 3) pe_int) (pa_cons pe_int (pa_cons (pe_op op_pow pe_int pe_int) (pa_cons (pe_un un_neg (pe_op op_pow pe_int pe_int)) (pa_cons (pe_call D_law_take.ok (hr.mono (by first | decide | omega)) rfl D_law_take.g D_law_take.kp D_law_take.b .nil ErrX.passN (pa_cons (pv 0) (pa_cons pe_int pa_nil))) pa_nil))))))))))))
      (pss_cons (ps_set (i := 5) law_multiplies_sc.nd rfl (Or.inl rfl) (pe_ix ix_list (pv 4) (pe_call D_law_take.ok (hr.mono (by first | decide | omega)) rfl D_law_take.g D_law_take.kp D_law_take.b .nil ErrX.passN (pa_cons (pv 0) (pa_cons pe_int pa_nil))) (fun _ _ => rfl)))
      (pss_cons (ps_set (i := 6) law_multiplies_sc.nd rfl (Or.inl rfl) (pe_call D_law_times.ok (hr.mono (by first | decide | omega)) rfl D_law_times.g D_law_times.kp D_law_times.b .nil ErrX.passN (pa_cons (pv 5) (pa_cons (pv 2) pa_nil))))
      (pss_cons (ps_if (pt_not (pt_val (pe_call D_law_agrees.ok (hr.mono (by first | decide | omega)) rfl D_law_agrees.g D_law_agrees.kp D_law_agrees.b .nil ErrX.passN (pa_cons (pe_call D_law_ask.ok (hr.mono (by first | decide | omega)) rfl D_law_ask.g D_law_ask.kp D_law_ask.b .nil ErrX.passN (pa_cons pe_str (pa_cons (pv 5) (pa_cons (pv 1) pa_nil)))) (pa_cons (pv 6) pa_nil))))) (pss_one (ps_ret pe_bl)) pss_nil)
      (pss_one (ps_ret (pe_call D_law_agrees.ok (hr.mono (by first | decide | omega)) rfl D_law_agrees.g D_law_agrees.kp D_law_agrees.b .nil ErrX.passN (pa_cons (pe_call D_law_ask.ok (hr.mono (by first | decide | omega)) rfl D_law_ask.g D_law_ask.kp D_law_ask.b .nil ErrX.passN (pa_cons pe_str (pa_cons (pv 1) (pa_cons (pv 5) pa_nil)))) (pa_cons (pv 6) pa_nil)))))))))), enterX (n := 7) rfl h fun A φs k kx hS hE => ?_⟩)
  obtain ⟨a, b, rfl, g, h1⟩ := hS
  have le := g.le
  have cp : CPow 10 30 := ⟨by decide, by decide, by decide⟩
  refine Dt_seq (Dt_set (De_op (De_c (De_cb (Da_cons (De_c (Da_cons (De_sumL (ns := a) (Dl_de (De_op (De_var rfl (De_c (Rr_ixL rfl ⟨_, rfl, rfl, Da_nil (Rc_max2 (Rr_IC ?cd ?_))⟩)))))))))))))
  case cd => exact ⟨by split <;> omega, by split <;> omega⟩
  generalize Int.fdiv 400 _ = nr
  refine Dt_seq (Dt_set (De_lst (Da_cons (De_un (De_c (Ru_neg (Da_cons (De_c (Da_cons (De_c (Da_cons (De_c (Da_cons (De_var rfl (Da_cons (De_op (De_var rfl (De_c (Rr_I0 (Da_cons (De_c (Da_cons (De_op (De_c (De_c (Rr_IC cp (Da_cons (De_un (De_op (De_c (De_c (Rr_IC cp (Ru_neg ?_)))))))))))))))))))))))))))))))))
  refine Da_cons (De_callN (Da_cons (De_var rfl (Da_cons (De_c (Da_nil ⟨401, rfl, by decide, by decide, fun t t0 t1 => Da_nil ⟨Nat.le_of_ble_eq_true rfl, ?_⟩⟩))))))
  refine Dt_seq (Dt_set (De_op (De_var rfl (De_callN (Da_cons (De_var rfl (Da_cons (De_c (Da_nil ⟨10, rfl, by decide, by decide, fun d d0 d1 => ?_⟩)))))))))
  obtain ⟨n, hn⟩ := atI_any (φs := [TI (-1), TI 0, TI 1, TI 2, TI nr, TI (nr + 1), TI 401, TI (10 ^ (30 : Int).toNat), TI (-10 ^ (30 : Int).toNat), TI t]) (fun φ h => by
    simp only [List.mem_cons, List.not_mem_nil, or_false] at h
    rcases h with h | h | h | h | h | h | h | h | h | h <;> exact ⟨_, h⟩) d0 d1
  refine Rr_ixL hn ?_
  refine Dt_seq (Dt_set (De_callN (Da_cons (De_var rfl (Da_cons (De_var rfl (Da_nil ⟨n, a, b, rfl, g.s1.2, g.d1.2, ?_⟩)))))))
  refine Dt_seq (Dt_if (Dc_not (Dc_test (De_agr (Da_cons (De_ask (Da_cons (De_c (Da_cons (De_var rfl (Da_cons (De_var rfl (Da_nil ⟨.timesN n a b, rfl, g, fun N => ?_⟩)))))))))))))
  refine Da_cons (De_var rfl (Da_nil ⟨N, timesDue n a b, rfl, Qk.good (q := .timesN n a b) g, _, rfl, fun z => (by cases z), fun _ => Dt_next ?_⟩))
  refine Dt_ret (De_agr (Da_cons (De_ask (Da_cons (De_c (Da_cons (De_var rfl (Da_cons (De_var rfl (Da_nil ⟨.timesB n a b, rfl, g, fun N => ?_⟩))))))))))
  exact Da_cons (De_var rfl (Da_nil ⟨N, timesDue n a b, rfl, Qk.good (q := .timesB n a b) g, h1⟩))
/-! ### _law_moves -/
abbrev law_moves_N : List Str := ["pool", "box", "rows", "spots", "turn", "spot", "due"]
theorem law_moves_sc : FnScope ["pool", "box", "rows", "spots", "turn", "spot", "due"] ["pool", "box", "rows"] (defScope law_moves_st) := ⟨rfl, rfl, rfl, by decide +kernel, rfl, by decide +kernel, by decide +kernel⟩
def S_lmoves (CT : Addr) : PX := fun φs k _ => ∃ a b : List Int, φs = [TC, TTot CT a b, rwT a b] ∧ OkT a b ∧ k (TB true)
theorem ok_lmoves {CT f1 f2 f3 f4 : Addr} {fd1 fd2 fd3 fd4 : FuncData} (F : FnS K "_law_moves" law_moves_st f fd) (m_range : mg "range" = none) (m_len : mg "len" = none)
    (D_law_take : Df P w K mg base 1 "_law_take" ["pool", "limit"] (spX S_take) f1 fd1) (D_law_moved : Df P w K mg base 1 "_law_moved" ["one", "source", "goal"] (spX S_lmov) f2 fd2) (D_law_ask : Df P w K mg base 12 "_law_ask" ["word", "a", "b"] (spAsk CT) f3 fd3) (D_law_agrees : Df P w K mg base 7 "_law_agrees" ["told", "due"] (fun vs H Q E => ∃ N, spX (S_agrees CT N) vs H Q E) f4 fd4) :
    FnOk P w K mg base (L2N.CX P w) 13 f fd ["pool", "box", "rows"] (spX (S_lmoves CT)) := by
  refine F.ok law_moves_sc (fun vs H Q E h => lenX (n := 3) (fun φs k kx ⟨_, _, e, _⟩ => by rw [e]; rfl) h) (fun cdv A outer s H vs Q E hr h => ⟨_, (pss_cons (ps_set (i := 3) law_moves_sc.nd rfl (Or.inl rfl) (pe_lst pa_nil))
      (pss_cons (ps_for (passes_of rfl) rfl (pi_range1 rfl m_range (pa_cons pe_int pa_nil)) (pg_name (i := 4) law_moves_sc.nd rfl (Or.inl rfl))
      (pss_cons (ps_set (i := 5) law_moves_sc.nd rfl (Or.inl rfl) (pe_op op_sub (pe_call D_law_take.ok (hr.mono (by first | decide | omega)) rfl D_law_take.g D_law_take.kp D_law_take.b .nil ErrX.passN (pa_cons (pv 0) (pa_cons (pe_op op_add (pe_callB call_len_seq (by rfl) m_len (by decide +kernel) (pa_cons (pe_ix ix_list (pv 2) pe_int (fun _ _ => rfl)) pa_nil)) pe_int) pa_nil))) pe_int))
      (pss_cons (ps_if (pt_cmpR op_eq (pe_call D_law_take.ok (hr.mono (by first | decide | omega)) rfl D_law_take.g D_law_take.kp D_law_take.b .nil ErrX.passN (pa_cons (pv 0) (pa_cons pe_int pa_nil))) pe_int (nomark _)) (pss_one (ps_set (i := 5) law_moves_sc.nd rfl (Or.inl rfl) (pe_ix ix_list (pe_lst (pa_cons (pe_op op_pow pe_int pe_int) (pa_cons (pe_un un_neg (pe_op op_pow pe_int pe_int)) pa_nil))) (pe_call D_law_take.ok (hr.mono (by first | decide | omega)) rfl D_law_take.g D_law_take.kp D_law_take.b .nil ErrX.passN (pa_cons (pv 0) (pa_cons pe_int pa_nil))) (fun _ _ => rfl)))) pss_nil)
      (pss_one (ps_expr (pe_bm PySem.F.plainAttrs_list PySem.F.slot_list_append PySem.F.type_list_append mt_append (pv 3) (pa_cons (pv 5) pa_nil)))))))
      (pss_cons (ps_set (i := 6) law_moves_sc.nd rfl (Or.inl rfl) (pe_call D_law_moved.ok (hr.mono (by first | decide | omega)) rfl D_law_moved.g D_law_moved.kp D_law_moved.b .nil ErrX.passN (pa_cons (pv 2) (pa_cons (pe_ix ix_list (pv 3) pe_int (fun _ _ => rfl)) (pa_cons (pe_ix ix_list (pv 3) pe_int (fun _ _ => rfl)) pa_nil)))))
      (pss_one (ps_ret (pe_call D_law_agrees.ok (hr.mono (by first | decide | omega)) rfl D_law_agrees.g D_law_agrees.kp D_law_agrees.b .nil ErrX.passN (pa_cons (pe_call D_law_ask.ok (hr.mono (by first | decide | omega)) rfl D_law_ask.g D_law_ask.kp D_law_ask.b .nil ErrX.passN (pa_cons pe_str (pa_cons (pv 1) (pa_cons (pv 3) pa_nil)))) (pa_cons (pv 6) pa_nil)))))))), enterX (n := 7) rfl h fun A φs k kx hS hE => ?_⟩)
  obtain ⟨a, b, rfl, g, h1⟩ := hS
  have la := g.s1
  have cp : CPow 10 30 := ⟨by decide, by decide, by decide⟩
  refine Dt_seq (Dt_setOw (Dn_lst (Da_nil ⟨Nat.zero_le _, ?_⟩)))
  refine Dt_seq (Dt_forI [4] (ψs := (List.range 2).map fun (i : Nat) => TI i) (fun j Φ => ∃ (ns : List Int) (s4 s5 : Sl), Φ = [.im TC, .im (TTot CT a b), .im (rwT a b), .ow (CL (TIs ns)), s4, s5, .no] ∧ ns.length = j) (Di_range1 (Da_cons (De_c (Da_nil ⟨2, rfl, by decide, rfl⟩)))) ⟨[], _, _, rfl, rfl⟩ (fun j ψ Φ e hI => ?_) fun Φ hI => ?_)
  · obtain ⟨ns, s4, s5, rfl, el⟩ := hI
    have hj : j < 2 := by have := (List.getElem?_eq_some_iff.mp e).1; rw [List.length_map, List.length_range] at this; exact this
    refine Dg_name (Dt_seq (Dt_set (De_op (De_callN (Da_cons (De_var rfl (Da_cons (De_op (De_len (Dl_de (De_op (De_var rfl (De_c (Rr_ixL rfl ⟨_, rfl, De_c (Rr_I0 (Da_nil ⟨_, rfl, ?ga, ?gb, fun t t0 t1 => De_c (Rr_I0 ?_)⟩))⟩))))))))))))))
    case ga => rw [List.length_map]; omega
    case gb => rw [List.length_map]; omega
    have app : ∀ (y : Int) (O : Out) (s4 : Sl), O.nx [.im TC, .im (TTot CT a b), .im (rwT a b), .ow (CL (TIs (ns ++ [y]))), s4, .im (TI y), .no] → Dt A (tDrop (tBM K "list" rAppend (tVar 3) (tCons (tVar 5) tNil))) [.im TC, .im (TTot CT a b), .im (rwT a b), .ow (CL (TIs ns)), s4, .im (TI y), .no] O := fun y O s4 hO => by
      refine Dt_append rfl (by rw [List.length_map]; omega) (De_var rfl ?_)
      rw [TIs, List.map_append] at hO
      exact hO
    refine Dt_seq (Dt_if (Dc_test (De_op (De_callN (Da_cons (De_var rfl (Da_cons (De_c (Da_nil ⟨12, rfl, by decide, by decide, fun u _ _ => De_c (Rr_eq rfl ⟨_, rfl, fun _ => ?_, fun _ => Dt_next (app _ _ _ ⟨ns ++ [_], _, _, rfl, by rw [List.length_append, el]; rfl⟩)⟩)⟩)))))))))
    refine Dt_set (De_op (De_lst (Da_cons (De_op (De_c (De_c (Rr_IC cp (Da_cons (De_un (De_op (De_c (De_c (Rr_IC cp (Ru_neg (Da_nil ⟨Nat.le_of_ble_eq_true rfl, ?_⟩)))))))))))))))
    refine De_callN (Da_cons (De_var rfl (Da_cons (De_c (Da_nil ⟨2, rfl, by decide, by decide, fun d d0 d1 => ?_⟩)))))
    obtain ⟨n, hn⟩ := atI_any (φs := [TI (10 ^ (30 : Int).toNat), TI (-10 ^ (30 : Int).toNat)]) (fun φ h => by
      simp only [List.mem_cons, List.not_mem_nil, or_false] at h
      rcases h with h | h <;> exact ⟨_, h⟩) d0 d1
    exact Rr_ixL hn (app _ _ _ ⟨ns ++ [_], _, _, rfl, by rw [List.length_append, el]; rfl⟩)
  · obtain ⟨ns, s4, s5, rfl, el⟩ := hI
    rw [List.length_map, List.length_range] at el
    obtain ⟨u, v, rfl⟩ : ∃ u v, ns = [u, v] := by
      match ns, el with
      | [u, v], _ => exact ⟨u, v, rfl⟩
    refine Dt_know 3 rfl ?_
    refine Dt_seq (Dt_set (De_callN (Da_cons (De_var rfl (Da_cons (De_op (De_var rfl (De_c (Rr_ixL rfl (Da_cons (De_op (De_var rfl (De_c (Rr_ixL rfl (Da_nil ⟨a, b, u, v, rfl, g.s1.2, g.d1.2, ?_⟩)))))))))))))))
    refine Dt_ret (De_agr (Da_cons (De_ask (Da_cons (De_c (Da_cons (De_var rfl (Da_cons (De_var rfl (Da_nil ⟨.moved a b u v, rfl, g, fun N => ?_⟩))))))))))
    exact Da_cons (De_var rfl (Da_nil ⟨N, movDue a b u v, rfl, Qk.good (q := .moved a b u v) g, h1⟩))
/-! ### _law_equal -/
abbrev law_equal_N : List Str := ["boxes", "rows", "k", "j"]
theorem law_equal_sc : FnScope ["boxes", "rows", "k", "j"] ["boxes", "rows"] (defScope law_equal_st) := ⟨rfl, rfl, rfl, by decide +kernel, rfl, by decide +kernel, by decide +kernel⟩
def S_lequal (CT : Addr) : PX := fun φs k _ => ∃ xs : List (List Int × List Int), φs = [TL (xs.map fun r => TTot CT r.1 r.2), TL (xs.map fun r => rwT r.1 r.2)] ∧ xs.length ≤ 100 ∧ k (TB true)
theorem ok_lequal {CT ge : Addr} {fde : FuncData} (F : FnS K "_law_equal" law_equal_st f fd) (m_range : mg "range" = none) (m_len : mg "len" = none) (m_bool : mg "bool" = none) (D_eq : On P w K mg base 2 CT "__eq__" (spX (S_teq CT)) ge fde) :
    FnOk P w K mg base (L2N.CX P w) 3 f fd ["boxes", "rows"] (spX (S_lequal CT)) := by
  refine F.ok law_equal_sc (fun vs H Q E h => lenX (n := 2) (fun φs k kx ⟨_, e, _⟩ => by rw [e]; rfl) h) (fun cdv A outer s H vs Q E hr h => ⟨_, (pss_cons (ps_for (passes_of rfl) rfl (pi_range1 rfl m_range (pa_cons (pe_callB call_len_seq (by rfl) m_len (by decide +kernel) (pa_cons (pv 0) pa_nil)) pa_nil)) (pg_name (i := 2) law_equal_sc.nd rfl (Or.inl rfl))
      (pss_one (ps_for (passes_of rfl) rfl (pi_range1 rfl m_range (pa_cons (pe_callB call_len_seq (by rfl) m_len (by decide +kernel) (pa_cons (pv 0) pa_nil)) pa_nil)) (pg_name (i := 3) law_equal_sc.nd rfl (Or.inl rfl))
      (pss_one (ps_if (pt_cmpR op_ne (pe_callTy call_bool1 (by rfl) m_bool (by decide +kernel) (pa_cons (pe_cmpR (OwnM.op_eqO D_eq.ok (hr.mono (by first | decide | omega)) D_eq.b ErrX.passN D_eq.s D_eq.fn) (pe_ix ix_list (pv 0) (pv 2) (fun _ _ => rfl)) (pe_ix ix_list (pv 0) (pv 3) (fun _ _ => rfl)) (nomark _)) pa_nil)) (pe_cmpR (op_eqD hr.units) (pe_ix ix_list (pv 1) (pv 2) (fun _ _ => rfl)) (pe_ix ix_list (pv 1) (pv 3) (fun _ _ => rfl)) (nomark _)) (nomark _)) (pss_one (ps_ret pe_bl)) pss_nil)))))
      (pss_one (ps_ret pe_bl))), enterX (n := 4) rfl h fun A φs k kx hS hE => ?_⟩)
  obtain ⟨xs, rfl, lx, h1⟩ := hS
  have rg : ∀ (kk : List Ty → Prop) (s2 s3 : Sl), (∀ ψs, ψs = (List.range xs.length).map (fun (i : Nat) => TI i) → kk ψs) → Di A (iRng1 (tCons (tCB (rLenK K) (tCons (tVar 0) tNil)) tNil)) [.im (TL (xs.map fun r => TTot CT r.1 r.2)), .im (TL (xs.map fun r => rwT r.1 r.2)), s2, s3] kk := fun kk s2 s3 hk => by
    refine Di_range1 (Da_cons (De_len (Dl_im rfl (Da_nil ⟨xs.length, congrArg (fun n : Nat => [TI n]) (List.length_map _), by omega, hk _ rfl⟩))))
  refine Dt_seq (Dt_forI [2] (ψs := (List.range xs.length).map fun (i : Nat) => TI i) (fun j Φ => ∃ s2 s3, Φ = [.im (TL (xs.map fun r => TTot CT r.1 r.2)), .im (TL (xs.map fun r => rwT r.1 r.2)), s2, s3]) (rg _ _ _ fun _ e => e) ⟨_, _, rfl⟩ (fun i ψ Φ e hI => ?_) fun Φ hI => ?_)
  · obtain ⟨s2, s3, rfl⟩ := hI
    obtain ⟨p, ep, rfl⟩ := of_map e
    have hp := (List.getElem?_eq_some_iff.mp ep)
    obtain ⟨hi, e1⟩ := hp
    rw [List.getElem_range] at e1
    subst e1
    rw [List.length_range] at hi
    refine Dg_name (Dt_forI [3] (ψs := (List.range xs.length).map fun (i : Nat) => TI i) (fun j Φ => ∃ s3, Φ = [.im (TL (xs.map fun r => TTot CT r.1 r.2)), .im (TL (xs.map fun r => rwT r.1 r.2)), .im (TI i), s3]) (rg _ _ _ fun _ e => e) ⟨_, rfl⟩ (fun j ψ Φ e hI => ?_) fun Φ hI => ?_)
    · obtain ⟨s3, rfl⟩ := hI
      obtain ⟨p, ep, rfl⟩ := of_map e
      obtain ⟨hj, e1⟩ := (List.getElem?_eq_some_iff.mp ep)
      rw [List.getElem_range] at e1
      subst e1
      rw [List.length_range] at hj
      have ab : ∀ i (h : i < xs.length), atI (xs.map fun r => TTot CT r.1 r.2) (i : Int) = some (TTot CT xs[i].1 xs[i].2) := fun i h => L2.atI_nat (by rw [List.getElem?_map, List.getElem?_eq_getElem h]; rfl)
      have ar : ∀ i (h : i < xs.length), atI (xs.map fun r => rwT r.1 r.2) (i : Int) = some (rwT xs[i].1 xs[i].2) := fun i h => L2.atI_nat (by rw [List.getElem?_map, List.getElem?_eq_getElem h]; rfl)
      refine Dg_name (Dt_if (Dc_test (De_op (De_cb (Da_cons (De_op (De_op (De_var rfl (De_var rfl (Rr_ixL (ab i hi) (De_op (De_var rfl (De_var rfl (Rr_ixL (ab j hj) (Rr_eqO ⟨_, _, _, _, rfl, _, rfl, Da_nil (Rc_bool1 ?_)⟩)))))))))))))))
      refine De_op (De_op (De_var rfl (De_var rfl (Rr_ixL (ar i hi) (De_op (De_var rfl (De_var rfl (Rr_ixL (ar j hj) (Rr_eqD (rw_dt K _) (rw_dt K _) (rw_ok _) (rw_ok _) ?_)))))))))
      rw [rw_eqv]
      exact Rr_ne rfl ⟨_, rfl, br_ndec (fun z => absurd rfl z) fun _ => Dt_next ⟨_, rfl⟩⟩
    · obtain ⟨s3, rfl⟩ := hI
      exact ⟨_, _, rfl⟩
  · obtain ⟨s2, s3, rfl⟩ := hI
    exact Dt_ret (De_c h1)
end
end K08
set_option Elab.async false
set_option linter.all false
set_option maxRecDepth 100000
set_option maxHeartbeats 4000000
namespace K08
open PySem PySem.Spec PyProof.Rows L2 Wl Kx
theorem xs0 {A : Wd × Hp} {E : XK} : Xs A (fun _ _ => False) E := fun _ _ _ _ _ _ _ _ _ z => z.elim
theorem are_rev {W : Wd} : ∀ {φs : List Ty} {vs : List V}, Are W φs vs → Are W φs.reverse vs.reverse
  | [], [], _ => trivial
  | φ :: φs, v :: vs, h => by
    rw [List.reverse_cons, List.reverse_cons]
    exact Are.app (ψs := [φ]) (us := [v]) ⟨h.1, trivial⟩ (are_rev h.2)
  | [], _ :: _, h => h.elim
  | _ :: _, [], h => h.elim
/-- xs[::-1] of a list of numbers -/
theorem Dn_revI {A : Wd × Hp} {K : PySem.W.Frag} {Φ : List Sl} {te : TE} {k : Th → Prop} (h : Dl A te Φ fun φs => ∃ ns : List Int, φs = TIs ns ∧ k (CL (TIs ns.reverse))) : Dn A (tRevL K te) Φ k := fun σ W H a Q q =>
  h σ W H a _ fun φs p vs W1 H1 f1 st ar ⟨ns, e, kh⟩ => by
    subst e
    refine ⟨p, vs, rfl, .inl (.inl (st W1 H1 (Fr.refl f1.inn))), fun b n => ?_⟩
    have f := f1
    refine q (CL (TIs ns.reverse)) b (.lst vs.reverse) W1 _ (f.own (f.was n) (f.inn.out n).1 (f.inn.out n).2) (f.was n) (f.inn.out n).1 (f.inn.out n).2 upd_same ⟨_, rfl, ?_⟩ kh
    rw [TIs, List.map_reverse]
    exact are_rev ar
theorem sum_rev : ∀ ns : List Int, ns.reverse.sum = ns.sum
  | [] => rfl
  | n :: ns => by
    rw [List.reverse_cons, List.sum_append, sum_rev ns, List.sum_singleton, List.sum_cons]
    omega
theorem OkT.rev {a b : List Int} (g : OkT a b) : OkT a b.reverse :=
  okT_of g.s1 (by have := g.d1; unfold lens at *; rw [List.length_reverse]; exact this) (fun x hx => (g.na x hx).1) (fun x hx => (g.nb x (List.mem_reverse.mp hx)).1) (by rw [sum_rev]; exact g.eq) g.le
theorem muls_one (a : List Int) : muls 1 a = a := by
  unfold muls
  simp
theorem times_one {a b : List Int} (g : OkT a b) : timesDue 1 a b = .mad a b := by
  have := g.le
  unfold timesDue
  rw [if_pos ⟨by decide, by decide⟩, if_pos (by omega), muls_one, muls_one]
theorem nn_ask {CT : Addr} {N : Addr → Prop} (d : Due) : NoNon (askT CT N d) := by
  cases d with
  | mad a b => exact nn_tup _
  | ref e xs => exact nn_tup _
section
variable {P : Program} {w : World} {K : PySem.W.Frag} {mg : Str → Option Value} {base : Heap} {f : Addr} {fd : FuncData}
/-! ### law -/
abbrev law_N : List Str := ["script", "pools", "mode", "one", "two", "odd", "boxes", "rows", "told", "k", "back", "beside"]
theorem law_sc : FnScope ["script", "pools", "mode", "one", "two", "odd", "boxes", "rows", "told", "k", "back", "beside"] ["script"] (defScope law_st) := ⟨rfl, rfl, rfl, by decide +kernel, rfl, by decide +kernel, by decide +kernel⟩
def S_law (K : PySem.W.Frag) : PX := fun φs k _ => ∃ ns : List Int, φs = [TQ K ns] ∧ ns.length ≤ 63 ∧ k (TB true)
theorem ok_law {CT f1 f2 f3 f4 f5 f6 f7 f8 f9 f10 f11 f12 f13 f14 f15 fI pr fr fn fm ft : Addr} {fd1 fd2 fd3 fd4 fd5 fd6 fd7 fd8 fd9 fd10 fd11 fd12 fd13 fd14 fd15 fdI fdn fdm fdt : FuncData} {ca : Er8 → Addr} {mc uv : Value} (F : FnS K "law" law_st f fd) (m_range : mg "range" = none) (g_Totals : mg "Totals" = some (.ref CT)) (self1 : PySem.W.selfFirst K CT = true) (sb2 : PySem.W.subIn K (.ref CT) (.type "int") = some false)
    (rd : ClX.CRead K CT mc) (cv : ClX.CVal K CT mc "MOST_UNITS" (.int 400) uv)
    (D_law_cell : Df P w K mg base 1 "_law_cell" ["script", "k"] (spX (S_cell K)) f1 fd1) (D_law_take : Df P w K mg base 1 "_law_take" ["pool", "limit"] (spX S_take) f2 fd2) (D_law_first : Df P w K mg base 3 "_law_first" ["pool"] (spX S_first) f3 fd3) (D_law_second : Df P w K mg base 3 "_law_second" ["pool", "one"] (spX S_second) f4 fd4) (D_law_odd : Df P w K mg base 3 "_law_odd" ["pool"] (spX S_odd) f5 fd5)
    (D_law_makes : Df P w K mg base 13 "_law_makes" ["rows", "mode"] (spX (S_makes CT)) f6 fd6) (D_law_alike : Df P w K mg base 4 "_law_alike" ["told", "due"] (spX (S_alike 2)) f7 fd7) (D_law_reads : Df P w K mg base 13 "_law_reads" ["pool", "one", "odd"] (spX S_lreads) f8 fd8) (D_law_is : Df P w K mg base 6 "_law_is" ["box", "first", "second"] (spX (S_is CT)) f9 fd9)
    (D_law_multiplies : Df P w K mg base 13 "_law_multiplies" ["pool", "box", "rows"] (spX (S_lmul CT)) f10 fd10) (D_law_moves : Df P w K mg base 13 "_law_moves" ["pool", "box", "rows"] (spX (S_lmoves CT)) f11 fd11) (D_law_adds : Df P w K mg base 13 "_law_adds" ["pool", "boxes", "rows"] (spX (S_ladds CT)) f12 fd12) (D_law_equal : Df P w K mg base 3 "_law_equal" ["boxes", "rows"] (spX (S_lequal CT)) f13 fd13) (D_law_balanced : Df P w K mg base 5 "_law_balanced" ["rows", "mode"] (spX S_lbal) f14 fd14) (D_law_text : Df P w K mg base 1 "_law_text" ["rows"] (spX S_text) f15 fd15)
    (D_Totals : Kn P w K mg base 5 "Totals" CT ["self", "supplies", "demands"] (spInit CT (S_tinit ca)) fI fdI) (D_Totals_read : Cn P w K mg base 7 CT mc "read" (spX (S_read CT ca)) pr fr) (D_mul : On P w K mg base 7 CT "__mul__" (spX (S_mul CT ca)) fm fdm) (D_rmul : On P w K mg base 8 CT "__rmul__" (spX (S_mul CT ca)) fn fdn) (D_Totals_turned : Mn P w K mg base 7 CT "turned" ["self"] (spX (S_turned CT)) ft fdt) :
    FnOk P w K mg base (L2N.CX P w) 14 f fd ["script"] (spX (S_law K)) := by
  refine F.ok law_sc (fun vs H Q E h => lenX (n := 1) (fun φs k kx ⟨_, e, _⟩ => by rw [e]; rfl) h) (fun cdv A outer s H vs Q E hr h => ⟨_, (pss_cons (ps_setLc (i := 1) (own := [("k", 9)]) rfl law_sc.nd rfl rfl (sw_true rfl rfl rfl (by decide +kernel)) (pi_range1 rfl m_range (pa_cons pe_int pa_nil)) (blkOk_by (own := [("k", 9)]) (N := law_N) (sc := defScope law_st) (by decide +kernel)) (fun _ _ _ _ _ => (pg_name (i := 9) law_sc.nd rfl (Or.inl rfl))) (fun _ _ _ _ _ => pts_nil) (fun _ _ _ _ _ => (pe_lst (pa_cons (pe_call D_law_cell.ok (hr.mono (by first | decide | omega)) rfl D_law_cell.g D_law_cell.kp D_law_cell.b .nil ErrX.passN (pa_cons (pv 0) (pa_cons (pv 9) pa_nil))) pa_nil))))
      (pss_cons (ps_set (i := 2) law_sc.nd rfl (Or.inl rfl) (pe_call D_law_take.ok (hr.mono (by first | decide | omega)) rfl D_law_take.g D_law_take.kp D_law_take.b .nil ErrX.passN (pa_cons (pe_ix ix_list (pv 1) pe_int (fun _ _ => rfl)) (pa_cons pe_int pa_nil))))
      (pss_cons (ps_set (i := 3) law_sc.nd rfl (Or.inl rfl) (pe_call D_law_first.ok (hr.mono (by first | decide | omega)) rfl D_law_first.g D_law_first.kp D_law_first.b .nil ErrX.passN (pa_cons (pe_ix ix_list (pv 1) pe_int (fun _ _ => rfl)) pa_nil)))
      (pss_cons (ps_set (i := 4) law_sc.nd rfl (Or.inl rfl) (pe_call D_law_second.ok (hr.mono (by first | decide | omega)) rfl D_law_second.g D_law_second.kp D_law_second.b .nil ErrX.passN (pa_cons (pe_ix ix_list (pv 1) pe_int (fun _ _ => rfl)) (pa_cons (pv 3) pa_nil))))
      (pss_cons (ps_set (i := 5) law_sc.nd rfl (Or.inl rfl) (pe_call D_law_odd.ok (hr.mono (by first | decide | omega)) rfl D_law_odd.g D_law_odd.kp D_law_odd.b .nil ErrX.passN (pa_cons (pe_ix ix_list (pv 1) pe_int (fun _ _ => rfl)) pa_nil)))
      (pss_cons (ps_set (i := 6) law_sc.nd rfl (Or.inl rfl) (pe_lst pa_nil))
      (pss_cons (ps_for (passes_of rfl) rfl (pi_list (pe_lst (pa_cons (pv 3) (pa_cons (pv 4) pa_nil)))) (pg_name (i := 7) law_sc.nd rfl (Or.inl rfl))
      (pss_cons (ps_set (i := 8) law_sc.nd rfl (Or.inl rfl) (pe_call D_law_makes.ok (hr.mono (by first | decide | omega)) rfl D_law_makes.g D_law_makes.kp D_law_makes.b .nil ErrX.passN (pa_cons (pv 7) (pa_cons (pv 2) pa_nil))))
      (pss_cons (ps_if (pt_cmpR op_isN (pv 8) pe_non (nomark _)) (pss_one (ps_ret pe_bl)) pss_nil)
      (pss_one (ps_expr (pe_bm PySem.F.plainAttrs_list PySem.F.slot_list_append PySem.F.type_list_append mt_append (pv 6) (pa_cons (pe_ix ix_tup (pv 8) pe_int (fun _ _ => rfl)) pa_nil)))))))
      (pss_cons (ps_if (pt_cmpR op_isN (pe_call D_law_makes.ok (hr.mono (by first | decide | omega)) rfl D_law_makes.g D_law_makes.kp D_law_makes.b .nil ErrX.passN (pa_cons (pv 5) (pa_cons (pe_op op_sub pe_int (pv 2)) pa_nil))) pe_non (nomark _)) (pss_one (ps_ret pe_bl)) pss_nil)
      (pss_cons (ps_if (PW.pt (pw_or (pt_not (pt_val (pe_call D_law_alike.ok (hr.mono (by first | decide | omega)) rfl D_law_alike.g D_law_alike.kp D_law_alike.b .nil ErrX.passN (pa_cons (ClX.pe_cval (pe_glob (v := .ref CT) rfl g_Totals rfl)) (pa_cons pe_int pa_nil))))) (pw_or1 (pt_not (pt_val (pe_call D_law_reads.ok (hr.mono (by first | decide | omega)) rfl D_law_reads.g D_law_reads.kp D_law_reads.b .nil ErrX.passN (pa_cons (pe_ix ix_list (pv 1) pe_int (fun _ _ => rfl)) (pa_cons (pv 3) (pa_cons (pv 5) pa_nil))))))))) (pss_one (ps_ret pe_bl)) pss_nil)
      (pss_cons (ps_for (passes_of rfl) rfl (pi_range1 rfl m_range (pa_cons pe_int pa_nil)) (pg_name (i := 9) law_sc.nd rfl (Or.inl rfl))
      (pss_cons (ps_set (i := 7) law_sc.nd rfl (Or.inl rfl) (pe_ix ix_list (pe_lst (pa_cons (pv 3) (pa_cons (pv 4) pa_nil))) (pv 9) (fun _ _ => rfl)))
      (pss_cons (ps_if (pt_not (pt_val (pe_call D_law_is.ok (hr.mono (by first | decide | omega)) rfl D_law_is.g D_law_is.kp D_law_is.b .nil ErrX.passN (pa_cons (pe_ix ix_list (pv 6) (pv 9) (fun _ _ => rfl)) (pa_cons (pe_ix ix_list (pv 7) pe_int (fun _ _ => rfl)) (pa_cons (pe_ix ix_list (pv 7) pe_int (fun _ _ => rfl)) pa_nil)))))) (pss_one (ps_ret pe_bl)) pss_nil)
      (pss_cons (ps_if (pt_not (pt_val (pe_call D_law_is.ok (hr.mono (by first | decide | omega)) rfl D_law_is.g D_law_is.kp D_law_is.b .nil ErrX.passN (pa_cons (pe_meth0 (pe_ix ix_list (pv 6) (pv 9) (fun _ _ => rfl)) D_Totals_turned.cl D_Totals_turned.m D_Totals_turned.ok (hr.mono (by first | decide | omega)) D_Totals_turned.b .nil ErrX.passN) (pa_cons (pe_ix ix_list (pv 7) pe_int (fun _ _ => rfl)) (pa_cons (pe_ix ix_list (pv 7) pe_int (fun _ _ => rfl)) pa_nil)))))) (pss_one (ps_ret pe_bl)) pss_nil)
      (pss_cons (ps_if (pt_not (pt_val (pe_call D_law_multiplies.ok (hr.mono (by first | decide | omega)) rfl D_law_multiplies.g D_law_multiplies.kp D_law_multiplies.b .nil ErrX.passN (pa_cons (pe_ix ix_list (pv 1) pe_int (fun _ _ => rfl)) (pa_cons (pe_ix ix_list (pv 6) (pv 9) (fun _ _ => rfl)) (pa_cons (pv 7) pa_nil)))))) (pss_one (ps_ret pe_bl)) pss_nil)
      (pss_one (ps_if (pt_not (pt_val (pe_call D_law_moves.ok (hr.mono (by first | decide | omega)) rfl D_law_moves.g D_law_moves.kp D_law_moves.b .nil ErrX.passN (pa_cons (pe_ix ix_list (pv 1) pe_int (fun _ _ => rfl)) (pa_cons (pe_ix ix_list (pv 6) (pv 9) (fun _ _ => rfl)) (pa_cons (pv 7) pa_nil)))))) (pss_one (ps_ret pe_bl)) pss_nil)))))))
      (pss_cons (ps_if (pt_not (pt_val (pe_call D_law_adds.ok (hr.mono (by first | decide | omega)) rfl D_law_adds.g D_law_adds.kp D_law_adds.b .nil ErrX.passN (pa_cons (pe_ix ix_list (pv 1) pe_int (fun _ _ => rfl)) (pa_cons (pv 6) (pa_cons (pe_lst (pa_cons (pv 3) (pa_cons (pv 4) pa_nil))) pa_nil)))))) (pss_one (ps_ret pe_bl)) pss_nil)
      (pss_cons (ps_set (i := 10) law_sc.nd rfl (Or.inl rfl) (pe_lst (pa_cons (pe_ix ix_list (pv 3) pe_int (fun _ _ => rfl)) (pa_cons (pe_revL (pe_ix ix_list (pv 3) pe_int (fun _ _ => rfl))) pa_nil))))
      (pss_cons (ps_set (i := 11) law_sc.nd rfl (Or.inl rfl) (pe_lst (pa_cons (pe_meth0 (pe_ix ix_list (pv 6) pe_int (fun _ _ => rfl)) D_Totals_turned.cl D_Totals_turned.m D_Totals_turned.ok (hr.mono (by first | decide | omega)) D_Totals_turned.b .nil ErrX.passN) (pa_cons (ClX.pe_cmeth (pe_glob (v := .ref CT) rfl g_Totals rfl) D_Totals_read.cr D_Totals_read.cm D_Totals_read.ok (hr.mono (by first | decide | omega)) ErrX.passN (pa_cons (pe_call D_law_text.ok (hr.mono (by first | decide | omega)) rfl D_law_text.g D_law_text.kp D_law_text.b .nil ErrX.passN (pa_cons (pv 3) pa_nil)) pa_nil)) pa_nil))))
      (pss_cons (ps_set (i := 11) law_sc.nd rfl (Or.inl rfl) (pe_op op_cat (pv 11) (pe_lst (pa_cons (pe_make D_Totals.mkk D_Totals.ok (hr.mono (by first | decide | omega)) rfl D_Totals.g D_Totals.b .nil ErrX.passN (pa_cons (pe_ix ix_list (pv 10) pe_int (fun _ _ => rfl)) (pa_cons (pe_ix ix_list (pv 10) pe_int (fun _ _ => rfl)) pa_nil))) (pa_cons (pe_op (OwnB.op_ownR D_rmul.ok (hr.mono (by first | decide | omega)) D_rmul.b ErrX.passN self1 D_rmul.s D_rmul.fn D_mul.s sb2) pe_int (pe_ix ix_list (pv 6) pe_int (fun _ _ => rfl))) pa_nil)))))
      (pss_cons (ps_set (i := 7) law_sc.nd rfl (Or.inl rfl) (pe_lst (pa_cons (pv 3) (pa_cons (pv 4) (pa_cons (pe_lst (pa_cons (pe_ix ix_list (pv 3) pe_int (fun _ _ => rfl)) (pa_cons (pe_ix ix_list (pv 3) pe_int (fun _ _ => rfl)) pa_nil))) (pa_cons (pv 3) (pa_cons (pv 10) (pa_cons (pv 3) pa_nil))))))))
      (pss_cons (ps_if (pt_not (pt_val (pe_call D_law_equal.ok (hr.mono (by first | decide | omega)) rfl D_law_equal.g D_law_equal.kp D_law_equal.b .nil ErrX.passN (pa_cons (pe_op op_cat (pv 6) (pv 11)) (pa_cons (pv 7) pa_nil))))) (pss_one (ps_ret pe_bl)) pss_nil)
      (pss_cons (ps_if (PW.pt (pw_or (pt_not (pt_val (pe_call D_law_balanced.ok (hr.mono (by first | decide | omega)) rfl D_law_balanced.g D_law_balanced.kp D_law_balanced.b .nil ErrX.passN (pa_cons (pv 5) (pa_cons (pv 2) pa_nil))))) (pw_or1 (pt_not (pt_val (pe_call D_law_balanced.ok (hr.mono (by first | decide | omega)) rfl D_law_balanced.g D_law_balanced.kp D_law_balanced.b .nil ErrX.passN (pa_cons (pe_lst (pa_cons (pe_lst pa_nil) (pa_cons (pe_ix ix_list (pv 3) pe_int (fun _ _ => rfl)) pa_nil))) (pa_cons (pe_op op_sub pe_int (pv 2)) pa_nil)))))))) (pss_one (ps_ret pe_bl)) pss_nil)
      (pss_cons (ps_if (pt_not (pt_val (pe_call D_law_is.ok (hr.mono (by first | decide | omega)) rfl D_law_is.g D_law_is.kp D_law_is.b .nil ErrX.passN (pa_cons (pe_ix ix_list (pv 6) pe_int (fun _ _ => rfl)) (pa_cons (pe_ix ix_list (pv 3) pe_int (fun _ _ => rfl)) (pa_cons (pe_ix ix_list (pv 3) pe_int (fun _ _ => rfl)) pa_nil)))))) (pss_one (ps_ret pe_bl)) pss_nil)
      (pss_one (ps_ret (pe_call D_law_is.ok (hr.mono (by first | decide | omega)) rfl D_law_is.g D_law_is.kp D_law_is.b .nil ErrX.passN (pa_cons (pe_ix ix_list (pv 6) pe_int (fun _ _ => rfl)) (pa_cons (pe_ix ix_list (pv 4) pe_int (fun _ _ => rfl)) (pa_cons (pe_ix ix_list (pv 4) pe_int (fun _ _ => rfl)) pa_nil)))))))))))))))))))))))), enterX (n := 12) rfl h fun A φs k kx hS hE => ?_⟩)
  obtain ⟨ns, rfl, l63, h1⟩ := hS
  refine Dt_seq (Dt_set (De_dn (Dn_mapL (us := [9]) (List.range 5) (fun (i : Nat) => TI i) (fun _ => TC) (by decide) (by decide) (Di_range1 (Da_cons (De_c (Da_nil ⟨5, rfl, by decide, rfl⟩)))) (fun i hi => Dg_name (De_cell (Da_cons (De_callN (Da_cons (De_var rfl (Da_cons (De_var rfl (Da_nil ⟨ns, i, rfl, List.mem_range.mp hi, l63, fun x => Da_nil ⟨⟨x, rfl⟩, rfl⟩⟩))))))))) ⟨_, rfl, ?_⟩)))
  refine Dt_seq (Dt_set (De_callN (Da_cons (De_op (De_var rfl (De_c (Rr_ixL rfl (Da_cons (De_c (Da_nil ⟨2, rfl, by decide, by decide, fun md md0 md1 => ?_⟩))))))))))
  obtain ⟨m, rfl⟩ : ∃ m : Bool, md = (if m then 1 else 0) := by
    have : md = 0 ∨ md = 1 := by omega
    rcases this with rfl | rfl
    · exact ⟨false, rfl⟩
    · exact ⟨true, rfl⟩
  have nb : (1 : Int) - (if m then 1 else 0) = (if !m then 1 else 0) := by cases m <;> rfl
  refine Dt_seq (Dt_set (De_callN (Da_cons (De_op (De_var rfl (De_c (Rr_ixL rfl (Da_nil ⟨rfl, fun a b g => ?_⟩))))))))
  refine Dt_seq (Dt_set (De_callN (Da_cons (De_op (De_var rfl (De_c (Rr_ixL rfl (Da_cons (De_var rfl (Da_nil ⟨a, b, rfl, g, fun c d h => ?_⟩))))))))))
  refine Dt_seq (Dt_set (De_callN (Da_cons (De_op (De_var rfl (De_c (Rr_ixL rfl (Da_nil ⟨rfl, fun x y tx ty => ?_⟩))))))))
  have l8 : ∀ {a b : List Int}, OkT a b → a.length ≤ 40 ∧ b.length ≤ 40 := fun g => by
    have h1 := g.s1
    have h2 := g.d1
    unfold lens at h1 h2
    exact ⟨by omega, by omega⟩
  refine Dt_seq (Dt_setOw (Dn_lst (Da_nil ⟨Nat.zero_le _, ?_⟩)))
  refine Dt_seq (Dt_forI [7] (ψs := [rwT a b, rwT c d]) (fun j Φ => ∃ s7 s8, Φ = [.im (TQ K ns), .im (TL [TC, TC, TC, TC, TC]), .im (bI m), .im (rwT a b), .im (rwT c d), .im (rwT x y), .ow (CL ([TTot CT a b, TTot CT c d].take j)), s7, s8, .no, .no, .no]) (Di_list (De_lst (Da_cons (De_var rfl (Da_cons (De_var rfl (Da_nil ⟨Nat.le_of_ble_eq_true rfl, _, rfl, rfl⟩))))))) ⟨_, _, rfl⟩ (fun j ψ Φ e hI => ?_) fun Φ hI => ?_)
  · obtain ⟨s7, s8, rfl⟩ := hI
    have one : ∀ (j : Nat) (p q : List Int) (s8 : Sl) (O : Out), OkT p q → j < 2 → ([TTot CT a b, TTot CT c d].take j ++ [TTot CT p q] = [TTot CT a b, TTot CT c d].take (j + 1)) → O.nx [.im (TQ K ns), .im (TL [TC, TC, TC, TC, TC]), .im (bI m), .im (rwT a b), .im (rwT c d), .im (rwT x y), .ow (CL ([TTot CT a b, TTot CT c d].take (j + 1))), .im (rwT p q), .im (TU [TS "made", TTot CT p q]), .no, .no, .no] →
        Dt A (tSeq (tAsg (tCall (spX (S_makes CT)) [] E0 (tCons (tVar 7) (tCons (tVar 2) tNil))) (gName 8)) (tSeq (tIfS (tTest (tOp (fun x y H Q => y = .non ∧ Q (.bl (decide (x = .non))) H) (tVar 8) (tC .non))) (tRet (tC (.bl false))) tNext) (tDrop (tBM K "list" rAppend (tVar 6) (tCons (tOp (rIxT K) (tVar 8) (tC (.int 1))) tNil))))) [.im (TQ K ns), .im (TL [TC, TC, TC, TC, TC]), .im (bI m), .im (rwT a b), .im (rwT c d), .im (rwT x y), .ow (CL ([TTot CT a b, TTot CT c d].take j)), .im (rwT p q), s8, .no, .no, .no] O := fun j p q s8 O go hj eq hO => by
      refine Dt_seq (Dt_set (De_callN (Da_cons (De_var rfl (Da_cons (De_var rfl (Da_nil ⟨p, q, m, rfl, (l8 go).1, (l8 go).2, ?_⟩)))))))
      rw [makeDue_ok go]
      refine Dt_seq (Dt_if (Dc_test (De_op (De_var rfl (De_c (Rr_isN_no (nn_ask _) ⟨_, rfl, fun z => (by cases z), fun _ => Dt_next ?_⟩))))))
      refine Dt_append rfl (by rw [List.length_take]; exact Nat.lt_of_le_of_lt (Nat.min_le_left _ _) (by omega)) (De_op (De_var rfl (De_c (Rr_ixU (χ := TTot CT p q) rfl ?_))))
      rw [← eq] at hO
      exact hO
    match j, e with
    | 0, e =>
      cases e
      exact Dg_name (one 0 a b s8 _ g (by decide) rfl ⟨_, _, rfl⟩)
    | 1, e =>
      cases e
      exact Dg_name (one 1 c d s8 _ h (by decide) rfl ⟨_, _, rfl⟩)
  obtain ⟨s7, s8, rfl⟩ := hI
  refine Dt_know 6 rfl ?_
  refine Dt_seq (Dt_if (Dc_test (De_op (De_callN (Da_cons (De_var rfl (Da_cons (De_op (De_c (De_var rfl (Rr_I0 (Da_nil ⟨x, y, !m, by rw [nb], by have := tx.1; omega, by have := ty.1; omega, De_c (Rr_isN_no (nn_ask _) ⟨_, rfl, fun z => (by cases z), fun _ => Dt_next ?_⟩)⟩))))))))))))
  refine Dt_seq (Dt_if (Dc_or (Dc_not (Dc_test (De_callN (Da_cons (De_cval rd cv (De_c ⟨rfl, Da_cons (De_c (Da_nil (alike_of (show Nst 2 (TI 400) from Or.inl ⟨_, rfl⟩) ⟨_, rfl, fun z => (by cases z), fun _ => ?_⟩)))⟩))))))))
  refine Dc_not (Dc_test (De_callN (Da_cons (De_op (De_var rfl (De_c (Rr_ixL rfl (Da_cons (De_var rfl (Da_cons (De_var rfl (Da_nil ⟨a, b, x, y, rfl, g.tame.1, g.tame.2, tx, ty, _, rfl, fun z => (by cases z), fun _ => Dt_next ?_⟩))))))))))))
  have is : ∀ (O : Out) (Φ : List Sl) (te t1 t2 : TE) (ts : L2.TS) (p q : List Int), OkT p q → (∀ kt : Ty → Prop, kt (TTot CT p q) → De A te Φ kt) → (∀ kt : Ty → Prop, kt (TL (TIs p)) → De A t1 Φ kt) → (∀ kt : Ty → Prop, kt (TL (TIs q)) → De A t2 Φ kt) → O.nx Φ → Dt A (tIfS (tNot (tTest (tCall (spX (S_is CT)) [] E0 (tCons te (tCons t1 (tCons t2 tNil)))))) ts tNext) Φ O := fun O Φ te t1 t2 ts p q go h1 h2 h3 hO =>
    Dt_if (Dc_not (Dc_test (De_callN (Da_cons (h1 _ (Da_cons (h2 _ (Da_cons (h3 _ (Da_nil ⟨p, q, rfl, go.tame.1, go.tame.2, _, rfl, fun z => (by cases z), fun _ => Dt_next hO⟩))))))))))
  refine Dt_seq (Dt_forI [9] (ψs := (List.range 2).map fun (i : Nat) => TI i) (fun j Φ => ∃ s7 s9, Φ = [.im (TQ K ns), .im (TL [TC, TC, TC, TC, TC]), .im (bI m), .im (rwT a b), .im (rwT c d), .im (rwT x y), .im (TL [TTot CT a b, TTot CT c d]), s7, s8, s9, .no, .no]) (Di_range1 (Da_cons (De_c (Da_nil ⟨2, rfl, by decide, rfl⟩)))) ⟨_, _, rfl⟩ (fun j ψ Φ e hI => ?_) fun Φ hI => ?_)
  · obtain ⟨s7, s9, rfl⟩ := hI
    refine Dg_name ?_
    match j, e with
    | 0, e =>
      cases e
      refine Dt_seq (Dt_set (De_op (De_lst (Da_cons (De_var rfl (Da_cons (De_var rfl (Da_nil ⟨Nat.le_of_ble_eq_true rfl, De_var rfl (Rr_ixL (χ := rwT a b) rfl ?_)⟩))))))))
      refine Dt_seq (is _ _ _ _ _ _ a b g (fun kt hk => De_op (De_var rfl (De_var rfl (Rr_ixL (χ := TTot CT a b) rfl hk)))) (fun kt hk => De_op (De_var rfl (De_c (Rr_ixL (χ := TL (TIs a)) rfl hk)))) (fun kt hk => De_op (De_var rfl (De_c (Rr_ixL (χ := TL (TIs b)) rfl hk)))) ?_)
      refine Dt_seq (is _ _ _ _ _ _ b a g.turn (fun kt hk => De_meth (De_op (De_var rfl (De_var rfl (Rr_ixL (χ := TTot CT a b) rfl ⟨_, rfl, rfl, Da_nil ⟨a, b, rfl, g, hk⟩⟩))))) (fun kt hk => De_op (De_var rfl (De_c (Rr_ixL (χ := TL (TIs b)) rfl hk)))) (fun kt hk => De_op (De_var rfl (De_c (Rr_ixL (χ := TL (TIs a)) rfl hk)))) ?_)
      refine Dt_seq (Dt_if (Dc_not (Dc_test (De_callN (Da_cons (De_op (De_var rfl (De_c (Rr_ixL rfl (Da_cons (De_op (De_var rfl (De_var rfl (Rr_ixL (χ := TTot CT a b) rfl (Da_cons (De_var rfl (Da_nil ⟨a, b, rfl, g, _, rfl, fun z => (by cases z), fun _ => Dt_next ?_⟩)))))))))))))))))
      exact Dt_if (Dc_not (Dc_test (De_callN (Da_cons (De_op (De_var rfl (De_c (Rr_ixL rfl (Da_cons (De_op (De_var rfl (De_var rfl (Rr_ixL (χ := TTot CT a b) rfl (Da_cons (De_var rfl (Da_nil ⟨a, b, rfl, g, _, rfl, fun z => (by cases z), fun _ => Dt_next ⟨_, _, rfl⟩⟩))))))))))))))))
    | 1, e =>
      cases e
      refine Dt_seq (Dt_set (De_op (De_lst (Da_cons (De_var rfl (Da_cons (De_var rfl (Da_nil ⟨Nat.le_of_ble_eq_true rfl, De_var rfl (Rr_ixL (χ := rwT c d) rfl ?_)⟩))))))))
      refine Dt_seq (is _ _ _ _ _ _ c d h (fun kt hk => De_op (De_var rfl (De_var rfl (Rr_ixL (χ := TTot CT c d) rfl hk)))) (fun kt hk => De_op (De_var rfl (De_c (Rr_ixL (χ := TL (TIs c)) rfl hk)))) (fun kt hk => De_op (De_var rfl (De_c (Rr_ixL (χ := TL (TIs d)) rfl hk)))) ?_)
      refine Dt_seq (is _ _ _ _ _ _ d c h.turn (fun kt hk => De_meth (De_op (De_var rfl (De_var rfl (Rr_ixL (χ := TTot CT c d) rfl ⟨_, rfl, rfl, Da_nil ⟨c, d, rfl, h, hk⟩⟩))))) (fun kt hk => De_op (De_var rfl (De_c (Rr_ixL (χ := TL (TIs d)) rfl hk)))) (fun kt hk => De_op (De_var rfl (De_c (Rr_ixL (χ := TL (TIs c)) rfl hk)))) ?_)
      refine Dt_seq (Dt_if (Dc_not (Dc_test (De_callN (Da_cons (De_op (De_var rfl (De_c (Rr_ixL rfl (Da_cons (De_op (De_var rfl (De_var rfl (Rr_ixL (χ := TTot CT c d) rfl (Da_cons (De_var rfl (Da_nil ⟨c, d, rfl, h, _, rfl, fun z => (by cases z), fun _ => Dt_next ?_⟩)))))))))))))))))
      exact Dt_if (Dc_not (Dc_test (De_callN (Da_cons (De_op (De_var rfl (De_c (Rr_ixL rfl (Da_cons (De_op (De_var rfl (De_var rfl (Rr_ixL (χ := TTot CT c d) rfl (Da_cons (De_var rfl (Da_nil ⟨c, d, rfl, h, _, rfl, fun z => (by cases z), fun _ => Dt_next ⟨_, _, rfl⟩⟩))))))))))))))))
  obtain ⟨s7, s9, rfl⟩ := hI
  refine Dt_seq (Dt_if (Dc_not (Dc_test (De_callN (Da_cons (De_op (De_var rfl (De_c (Rr_ixL rfl (Da_cons (De_var rfl (Da_cons (De_lst (Da_cons (De_var rfl (Da_cons (De_var rfl (Da_nil ⟨Nat.le_of_ble_eq_true rfl, Da_nil ⟨a, b, c, d, rfl, g, h, _, rfl, fun z => (by cases z), fun _ => Dt_next ?_⟩⟩))))))))))))))))))
  refine Dt_seq (Dt_set (De_lst (Da_cons (De_op (De_var rfl (De_c (Rr_ixL rfl (Da_cons (De_dn (Dn_revI (Dl_de (De_op (De_var rfl (De_c (Rr_ixL rfl ⟨_, rfl, b, rfl, _, rfl, Da_nil ⟨Nat.le_of_ble_eq_true rfl, ?_⟩⟩)))))))))))))))
  refine Dt_seq (Dt_set (De_lst (Da_cons (De_meth (De_op (De_var rfl (De_c (Rr_ixL (χ := TTot CT a b) rfl ⟨_, rfl, rfl, Da_nil ⟨a, b, rfl, g, ?_⟩⟩))))))))
  refine Da_cons (De_cmeth xs0 (De_c ⟨rfl, Da_cons (De_callN (Da_cons (De_var rfl (Da_nil ⟨a, b, rfl, g.tame.1, g.tame.2, Da_nil ⟨totS a b, rfl, by have := tot_len g.tame.1 g.tame.2; omega, fun z => ?_, fun p q e => ?_⟩⟩))))⟩))
  · rw [sides_tot (by rintro rfl; exact absurd g.s1.1 (by decide)) (by rintro rfl; exact absurd g.d1.1 (by decide)) g.na g.nb] at z
    cases z
  rw [sides_tot (by rintro rfl; exact absurd g.s1.1 (by decide)) (by rintro rfl; exact absurd g.d1.1 (by decide)) g.na g.nb] at e
  cases e
  refine QM.good g (Da_nil ⟨Nat.le_of_ble_eq_true rfl, ?_⟩)
  refine Dt_seq (Dt_set (De_dn (Dn_cat (Dl_im rfl (Dl_dn (Dn_lst (Da_cons (De_make (Da_cons (De_op (De_var rfl (De_c (Rr_ixL rfl (Da_cons (De_op (De_var rfl (De_c (Rr_ixL rfl (Da_nil ⟨TL, TL, a, b.reverse, .inl rfl, .inl rfl, rfl, QM.good g.rev ?_⟩)))))))))))))))))))
  refine Da_cons (De_ownR xs0 (De_c (De_op (De_var rfl (De_c (Rr_ixL rfl ⟨_, 1, rfl, rfl, a, b, 1, rfl, g, fun u eu => ?_⟩))))))
  rw [eu, times_one g]
  refine Da_nil ⟨Nat.le_of_ble_eq_true rfl, _, rfl, Nat.le_of_ble_eq_true rfl, _, rfl, ?_⟩
  refine Dt_seq (Dt_set (De_lst (Da_cons (De_var rfl (Da_cons (De_var rfl (Da_cons (De_lst (Da_cons (De_op (De_var rfl (De_c (Rr_ixL rfl (Da_cons (De_op (De_var rfl (De_c (Rr_ixL rfl (Da_nil ⟨Nat.le_of_ble_eq_true rfl, ?_⟩)))))))))))))))))))
  refine Da_cons (De_var rfl (Da_cons (De_var rfl (Da_cons (De_var rfl (Da_nil ⟨Nat.le_of_ble_eq_true rfl, ?_⟩))))))
  refine Dt_seq (Dt_if (Dc_not (Dc_test (De_callN (Da_cons (De_dn (Dn_cat (Dl_im rfl (Dl_im rfl ⟨Nat.le_of_ble_eq_true rfl, _, rfl, ?_⟩)))))))))
  refine Da_cons (De_var rfl (Da_nil ⟨[(a, b), (c, d), (b, a), (a, b), (a, b.reverse), (a, b)], rfl, Nat.le_of_ble_eq_true rfl, _, rfl, fun z => (by cases z), fun _ => Dt_next ?_⟩))
  refine Dt_seq (Dt_if (Dc_or (Dc_not (Dc_test (De_callN (Da_cons (De_var rfl (Da_cons (De_var rfl (Da_nil ⟨x, y, m, rfl, _, rfl, fun z => (by cases z), fun _ => ?_⟩))))))))))
  refine Dc_not (Dc_test (De_callN (Da_cons (De_lst (Da_cons (De_lst (Da_nil ⟨Nat.le_of_ble_eq_true rfl, ?_⟩)))))))
  refine Da_cons (De_op (De_var rfl (De_c (Rr_ixL rfl (Da_nil ⟨Nat.le_of_ble_eq_true rfl, ?_⟩)))))
  refine Da_cons (De_op (De_c (De_var rfl (Rr_I0 (Da_nil ⟨[], a, !m, by rw [nb]; rfl, _, rfl, fun z => (by cases z), fun _ => Dt_next ?_⟩)))))
  refine Dt_seq (is _ _ _ _ _ _ a b g (fun kt hk => De_op (De_var rfl (De_c (Rr_ixL rfl hk)))) (fun kt hk => De_op (De_var rfl (De_c (Rr_ixL rfl hk)))) (fun kt hk => De_op (De_var rfl (De_c (Rr_ixL rfl hk)))) ?_)
  exact Dt_ret (De_callN (Da_cons (De_op (De_var rfl (De_c (Rr_ixL rfl (Da_cons (De_op (De_var rfl (De_c (Rr_ixL rfl (Da_cons (De_op (De_var rfl (De_c (Rr_ixL rfl (Da_nil ⟨c, d, rfl, h.tame.1, h.tame.2, h1⟩)))))))))))))))))
end
end K08
set_option Elab.async false
set_option linter.all false
set_option maxRecDepth 100000
set_option maxHeartbeats 4000000
namespace K08
open PySem PySem.W PySem.Spec PyProof.Rows L2 Hk
theorem noneB_ok {a b : Value} (h : noneB a b = true) : a = .none ∧ b = .none := by
  cases a <;> cases b <;> first | exact ⟨rfl, rfl⟩ | cases h
theorem dfl_of {d : ErrD} {K : Frag} {oc dV kV doc pm cd ct : Value} {od an : Option Addr} {osl : Array (Option Value)} {n q : Str} {ps : Arguments} {b : List Stmt} {sc : Scope} {cl : List (Str × Addr)} (h : dflB d K = true) (lk : K.lookup (d.at_ K) = some ⟨oc, od, .func (fnX n q ps b sc cl dV kV doc pm an cd ct), osl⟩) : dV = .none ∧ kV = .none := by
  unfold dflB at h
  rw [lk] at h
  exact noneB_ok h
theorem ok_dS {P : Program} {w : World} {K : Frag} {mg : Str → Option Value} {base : Heap} {C : Addr} (EF : ErrF K C (dS.at_ K) "/claim/cut.py" dS) (o : nsIn K cStatics "thirdparty.any" = some none) (ms : mg "super" = none) (hP : P.main.file = "/claim/cut.py") (hsup : (P.main.scope.names.lookup ("super" : Str)).isSome = false) (hd : dflB dS K = true) (hno : findIn K (.ref C) "size" = some none) :
    ∃ fd, FnOk P w K mg base (L2N.CX P w) 1 (dS.at_ K) fd ["self", "size"] (ErrX.spI C "size") ∧ Binds K fd ["self", "size"] [] := by
  obtain ⟨oc, od, osl, dV, kV, doc, pm, an, ct, cc, cda, cl, cld, csl, ccl, cdd, cvs, ccs, tf, lk, hcd, hcode, hvs, hcell⟩ := EF.fn
  rw [← hP] at hvs
  obtain ⟨rfl, rfl⟩ := dfl_of hd lk
  have S : SupX.ScS ["self", "size"] ["self", "size"] (defScope dS.st) := ⟨rfl, rfl, rfl, by decide +kernel, rfl, by decide +kernel, by decide +kernel, by decide +kernel, rfl, rfl⟩
  have T : SupX.SupC P K mg C := ⟨EF.oex, EF.sup, EF.sub, EF.self, o, ms, hsup⟩
  refine ⟨_, SupX.fn_sup (k := 0) (sp := ErrX.spI C "size") (CX := L2N.CX P w) lk hcd hcode hvs hcell T (fun L => ⟨_, rfl⟩) (fun L => rfl) S rfl rfl (fun vs H Q E h => ?_) (fun A outer s H vs Q E hr h => ?_), .all fun us hl => match us, hl with | [_, _], _ => rfl⟩
  · obtain ⟨a, x, rfl, ha, _⟩ := h
    exact ⟨rfl, a, _, rfl, ha⟩
  · obtain ⟨a, x, rfl, ha, q⟩ := h
    refine ⟨_, pss_one (ps_ost (pv 0) (pv 1) rfl), ?_⟩
    exact ⟨.int x, rfl, .ref a, rfl, a, C, rfl, EF.oex, hno, .inl ⟨ha, q⟩⟩
theorem ok_dL {P : Program} {w : World} {K : Frag} {mg : Str → Option Value} {base : Heap} {C : Addr} (EF : ErrF K C (dL.at_ K) "/claim/cut.py" dL) (o : nsIn K cStatics "thirdparty.any" = some none) (ms : mg "super" = none) (hP : P.main.file = "/claim/cut.py") (hsup : (P.main.scope.names.lookup ("super" : Str)).isSome = false) (hd : dflB dL K = true) (hno : findIn K (.ref C) "length" = some none) :
    ∃ fd, FnOk P w K mg base (L2N.CX P w) 1 (dL.at_ K) fd ["self", "length"] (ErrX.spI C "length") ∧ Binds K fd ["self", "length"] [] := by
  obtain ⟨oc, od, osl, dV, kV, doc, pm, an, ct, cc, cda, cl, cld, csl, ccl, cdd, cvs, ccs, tf, lk, hcd, hcode, hvs, hcell⟩ := EF.fn
  rw [← hP] at hvs
  obtain ⟨rfl, rfl⟩ := dfl_of hd lk
  have S : SupX.ScS ["self", "length"] ["self", "length"] (defScope dL.st) := ⟨rfl, rfl, rfl, by decide +kernel, rfl, by decide +kernel, by decide +kernel, by decide +kernel, rfl, rfl⟩
  have T : SupX.SupC P K mg C := ⟨EF.oex, EF.sup, EF.sub, EF.self, o, ms, hsup⟩
  refine ⟨_, SupX.fn_sup (k := 0) (sp := ErrX.spI C "length") (CX := L2N.CX P w) lk hcd hcode hvs hcell T (fun L => ⟨_, rfl⟩) (fun L => rfl) S rfl rfl (fun vs H Q E h => ?_) (fun A outer s H vs Q E hr h => ?_), .all fun us hl => match us, hl with | [_, _], _ => rfl⟩
  · obtain ⟨a, x, rfl, ha, _⟩ := h
    exact ⟨rfl, a, _, rfl, ha⟩
  · obtain ⟨a, x, rfl, ha, q⟩ := h
    refine ⟨_, pss_one (ps_ost (pv 0) (pv 1) rfl), ?_⟩
    exact ⟨.int x, rfl, .ref a, rfl, a, C, rfl, EF.oex, hno, .inl ⟨ha, q⟩⟩
theorem ok_dB {P : Program} {w : World} {K : Frag} {mg : Str → Option Value} {base : Heap} {C : Addr} (EF : ErrF K C (dB.at_ K) "/claim/cut.py" dB) (o : nsIn K cStatics "thirdparty.any" = some none) (ms : mg "super" = none) (hP : P.main.file = "/claim/cut.py") (hsup : (P.main.scope.names.lookup ("super" : Str)).isSome = false) (hd : dflB dB K = true) (hno : findIn K (.ref C) "number" = some none) :
    ∃ fd, FnOk P w K mg base (L2N.CX P w) 1 (dB.at_ K) fd ["self", "number"] (ErrX.spI C "number") ∧ Binds K fd ["self", "number"] [] := by
  obtain ⟨oc, od, osl, dV, kV, doc, pm, an, ct, cc, cda, cl, cld, csl, ccl, cdd, cvs, ccs, tf, lk, hcd, hcode, hvs, hcell⟩ := EF.fn
  rw [← hP] at hvs
  obtain ⟨rfl, rfl⟩ := dfl_of hd lk
  have S : SupX.ScS ["self", "number"] ["self", "number"] (defScope dB.st) := ⟨rfl, rfl, rfl, by decide +kernel, rfl, by decide +kernel, by decide +kernel, by decide +kernel, rfl, rfl⟩
  have T : SupX.SupC P K mg C := ⟨EF.oex, EF.sup, EF.sub, EF.self, o, ms, hsup⟩
  refine ⟨_, SupX.fn_sup (k := 0) (sp := ErrX.spI C "number") (CX := L2N.CX P w) lk hcd hcode hvs hcell T (fun L => ⟨_, rfl⟩) (fun L => rfl) S rfl rfl (fun vs H Q E h => ?_) (fun A outer s H vs Q E hr h => ?_), .all fun us hl => match us, hl with | [_, _], _ => rfl⟩
  · obtain ⟨a, x, rfl, ha, _⟩ := h
    exact ⟨rfl, a, _, rfl, ha⟩
  · obtain ⟨a, x, rfl, ha, q⟩ := h
    refine ⟨_, pss_one (ps_ost (pv 0) (pv 1) rfl), ?_⟩
    exact ⟨.int x, rfl, .ref a, rfl, a, C, rfl, EF.oex, hno, .inl ⟨ha, q⟩⟩
theorem ok_dM {P : Program} {w : World} {K : Frag} {mg : Str → Option Value} {base : Heap} {C : Addr} (EF : ErrF K C (dM.at_ K) "/claim/cut.py" dM) (o : nsIn K cStatics "thirdparty.any" = some none) (ms : mg "super" = none) (hP : P.main.file = "/claim/cut.py") (hsup : (P.main.scope.names.lookup ("super" : Str)).isSome = false) (hd : dflB dM K = true) (hno : findIn K (.ref C) "most" = some none) :
    ∃ fd, FnOk P w K mg base (L2N.CX P w) 1 (dM.at_ K) fd ["self", "most"] (ErrX.spI C "most") ∧ Binds K fd ["self", "most"] [] := by
  obtain ⟨oc, od, osl, dV, kV, doc, pm, an, ct, cc, cda, cl, cld, csl, ccl, cdd, cvs, ccs, tf, lk, hcd, hcode, hvs, hcell⟩ := EF.fn
  rw [← hP] at hvs
  obtain ⟨rfl, rfl⟩ := dfl_of hd lk
  have S : SupX.ScS ["self", "most"] ["self", "most"] (defScope dM.st) := ⟨rfl, rfl, rfl, by decide +kernel, rfl, by decide +kernel, by decide +kernel, by decide +kernel, rfl, rfl⟩
  have T : SupX.SupC P K mg C := ⟨EF.oex, EF.sup, EF.sub, EF.self, o, ms, hsup⟩
  refine ⟨_, SupX.fn_sup (k := 0) (sp := ErrX.spI C "most") (CX := L2N.CX P w) lk hcd hcode hvs hcell T (fun L => ⟨_, rfl⟩) (fun L => rfl) S rfl rfl (fun vs H Q E h => ?_) (fun A outer s H vs Q E hr h => ?_), .all fun us hl => match us, hl with | [_, _], _ => rfl⟩
  · obtain ⟨a, x, rfl, ha, _⟩ := h
    exact ⟨rfl, a, _, rfl, ha⟩
  · obtain ⟨a, x, rfl, ha, q⟩ := h
    refine ⟨_, pss_one (ps_ost (pv 0) (pv 1) rfl), ?_⟩
    exact ⟨.int x, rfl, .ref a, rfl, a, C, rfl, EF.oex, hno, .inl ⟨ha, q⟩⟩
theorem ok_dD {P : Program} {w : World} {K : Frag} {mg : Str → Option Value} {base : Heap} {C : Addr} (EF : ErrF K C (dD.at_ K) "/claim/cut.py" dD) (o : nsIn K cStatics "thirdparty.any" = some none) (ms : mg "super" = none) (hP : P.main.file = "/claim/cut.py") (hsup : (P.main.scope.names.lookup ("super" : Str)).isSome = false) (hd : dflB dD K = true) (hno : findIn K (.ref C) "depot" = some none) :
    ∃ fd, FnOk P w K mg base (L2N.CX P w) 1 (dD.at_ K) fd ["self", "depot"] (ErrX.spI C "depot") ∧ Binds K fd ["self", "depot"] [] := by
  obtain ⟨oc, od, osl, dV, kV, doc, pm, an, ct, cc, cda, cl, cld, csl, ccl, cdd, cvs, ccs, tf, lk, hcd, hcode, hvs, hcell⟩ := EF.fn
  rw [← hP] at hvs
  obtain ⟨rfl, rfl⟩ := dfl_of hd lk
  have S : SupX.ScS ["self", "depot"] ["self", "depot"] (defScope dD.st) := ⟨rfl, rfl, rfl, by decide +kernel, rfl, by decide +kernel, by decide +kernel, by decide +kernel, rfl, rfl⟩
  have T : SupX.SupC P K mg C := ⟨EF.oex, EF.sup, EF.sub, EF.self, o, ms, hsup⟩
  refine ⟨_, SupX.fn_sup (k := 0) (sp := ErrX.spI C "depot") (CX := L2N.CX P w) lk hcd hcode hvs hcell T (fun L => ⟨_, rfl⟩) (fun L => rfl) S rfl rfl (fun vs H Q E h => ?_) (fun A outer s H vs Q E hr h => ?_), .all fun us hl => match us, hl with | [_, _], _ => rfl⟩
  · obtain ⟨a, x, rfl, ha, _⟩ := h
    exact ⟨rfl, a, _, rfl, ha⟩
  · obtain ⟨a, x, rfl, ha, q⟩ := h
    refine ⟨_, pss_one (ps_ost (pv 0) (pv 1) rfl), ?_⟩
    exact ⟨.int x, rfl, .ref a, rfl, a, C, rfl, EF.oex, hno, .inl ⟨ha, q⟩⟩
theorem ok_dP {P : Program} {w : World} {K : Frag} {mg : Str → Option Value} {base : Heap} {C : Addr} (EF : ErrF K C (dP.at_ K) "/claim/cut.py" dP) (o : nsIn K cStatics "thirdparty.any" = some none) (ms : mg "super" = none) (hP : P.main.file = "/claim/cut.py") (hsup : (P.main.scope.names.lookup ("super" : Str)).isSome = false) (hd : dflB dP K = true) (hno : findIn K (.ref C) "depot" = some none) :
    ∃ fd, FnOk P w K mg base (L2N.CX P w) 1 (dP.at_ K) fd ["self", "depot"] (ErrX.spI C "depot") ∧ Binds K fd ["self", "depot"] [] := by
  obtain ⟨oc, od, osl, dV, kV, doc, pm, an, ct, cc, cda, cl, cld, csl, ccl, cdd, cvs, ccs, tf, lk, hcd, hcode, hvs, hcell⟩ := EF.fn
  rw [← hP] at hvs
  obtain ⟨rfl, rfl⟩ := dfl_of hd lk
  have S : SupX.ScS ["self", "depot"] ["self", "depot"] (defScope dP.st) := ⟨rfl, rfl, rfl, by decide +kernel, rfl, by decide +kernel, by decide +kernel, by decide +kernel, rfl, rfl⟩
  have T : SupX.SupC P K mg C := ⟨EF.oex, EF.sup, EF.sub, EF.self, o, ms, hsup⟩
  refine ⟨_, SupX.fn_sup (k := 0) (sp := ErrX.spI C "depot") (CX := L2N.CX P w) lk hcd hcode hvs hcell T (fun L => ⟨_, rfl⟩) (fun L => rfl) S rfl rfl (fun vs H Q E h => ?_) (fun A outer s H vs Q E hr h => ?_), .all fun us hl => match us, hl with | [_, _], _ => rfl⟩
  · obtain ⟨a, x, rfl, ha, _⟩ := h
    exact ⟨rfl, a, _, rfl, ha⟩
  · obtain ⟨a, x, rfl, ha, q⟩ := h
    refine ⟨_, pss_one (ps_ost (pv 0) (pv 1) rfl), ?_⟩
    exact ⟨.int x, rfl, .ref a, rfl, a, C, rfl, EF.oex, hno, .inl ⟨ha, q⟩⟩
theorem ok_dX {P : Program} {w : World} {K : Frag} {mg : Str → Option Value} {base : Heap} {C : Addr} (EF : ErrF K C (dX.at_ K) "/claim/cut.py" dX) (o : nsIn K cStatics "thirdparty.any" = some none) (ms : mg "super" = none) (hP : P.main.file = "/claim/cut.py") (hsup : (P.main.scope.names.lookup ("super" : Str)).isSome = false) (hd : dflB dX K = true) (hno : findIn K (.ref C) "text" = some none) :
    ∃ fd, FnOk P w K mg base (L2N.CX P w) 1 (dX.at_ K) fd ["self", "text"] (ErrX.spIS C "text") ∧ Binds K fd ["self", "text"] [] := by
  obtain ⟨oc, od, osl, dV, kV, doc, pm, an, ct, cc, cda, cl, cld, csl, ccl, cdd, cvs, ccs, tf, lk, hcd, hcode, hvs, hcell⟩ := EF.fn
  rw [← hP] at hvs
  obtain ⟨rfl, rfl⟩ := dfl_of hd lk
  have S : SupX.ScS ["self", "text"] ["self", "text"] (defScope dX.st) := ⟨rfl, rfl, rfl, by decide +kernel, rfl, by decide +kernel, by decide +kernel, by decide +kernel, rfl, rfl⟩
  have T : SupX.SupC P K mg C := ⟨EF.oex, EF.sup, EF.sub, EF.self, o, ms, hsup⟩
  refine ⟨_, SupX.fn_sup (k := 0) (sp := ErrX.spIS C "text") (CX := L2N.CX P w) lk hcd hcode hvs hcell T (fun L => ⟨_, rfl⟩) (fun L => rfl) S rfl rfl (fun vs H Q E h => ?_) (fun A outer s H vs Q E hr h => ?_), .all fun us hl => match us, hl with | [_, _], _ => rfl⟩
  · obtain ⟨a, x, rfl, ha, _⟩ := h
    exact ⟨rfl, a, _, rfl, ha⟩
  · obtain ⟨a, x, rfl, ha, q⟩ := h
    refine ⟨_, pss_one (ps_ost (pv 0) (pv 1) rfl), ?_⟩
    exact ⟨.str x, rfl, .ref a, rfl, a, C, rfl, EF.oex, hno, .inl ⟨ha, q⟩⟩
theorem ok_dU {P : Program} {w : World} {K : Frag} {mg : Str → Option Value} {base : Heap} {C : Addr} (EF : ErrF K C (dU.at_ K) "/claim/cut.py" dU) (o : nsIn K cStatics "thirdparty.any" = some none) (ms : mg "super" = none) (hP : P.main.file = "/claim/cut.py") (hsup : (P.main.scope.names.lookup ("super" : Str)).isSome = false) (hd : dflB dU K = true) (h1 : findIn K (.ref C) "supply" = some none) (h2 : findIn K (.ref C) "demand" = some none) :
    ∃ fd, FnOk P w K mg base (L2N.CX P w) 1 (dU.at_ K) fd ["self", "supply", "demand"] (ErrX.spI2 C "supply" "demand") ∧ Binds K fd ["self", "supply", "demand"] [] := by
  obtain ⟨oc, od, osl, dV, kV, doc, pm, an, ct, cc, cda, cl, cld, csl, ccl, cdd, cvs, ccs, tf, lk, hcd, hcode, hvs, hcell⟩ := EF.fn
  rw [← hP] at hvs
  obtain ⟨rfl, rfl⟩ := dfl_of hd lk
  have S : SupX.ScS ["self", "supply", "demand"] ["self", "supply", "demand"] (defScope dU.st) := ⟨rfl, rfl, rfl, by decide +kernel, rfl, by decide +kernel, by decide +kernel, by decide +kernel, rfl, rfl⟩
  have T : SupX.SupC P K mg C := ⟨EF.oex, EF.sup, EF.sub, EF.self, o, ms, hsup⟩
  refine ⟨_, SupX.fn_sup (k := 0) (sp := ErrX.spI2 C "supply" "demand") (CX := L2N.CX P w) lk hcd hcode hvs hcell T (fun L => ⟨_, rfl⟩) (fun L => rfl) S rfl rfl (fun vs H Q E h => ?_) (fun A outer s H vs Q E hr h => ?_), .all fun us hl => match us, hl with | [_, _, _], _ => rfl⟩
  · obtain ⟨a, x, y, rfl, ha, _⟩ := h
    exact ⟨rfl, a, _, rfl, ha⟩
  · obtain ⟨a, x, y, rfl, ha, q⟩ := h
    refine ⟨_, pss_cons (ps_ost (pv 0) (pv 1) rfl) (pss_one (ps_ost (pv 0) (pv 2) rfl)), ?_⟩
    refine ⟨.int x, rfl, .ref a, rfl, a, C, rfl, EF.oex, h1, .inl ⟨ha, fun dx ndx ne => ?_⟩⟩
    exact ⟨.int y, rfl, .ref a, rfl, a, C, rfl, EF.oex, h2, .inr ⟨dx, _, upd_same, (upd_ne ne).trans upd_same, by simp, q dx ndx ne⟩⟩
end K08
set_option Elab.async false
set_option linter.all false
set_option maxRecDepth 100000
set_option maxHeartbeats 4000000
namespace K08
open PySem PySem.W PySem.Spec PyProof.Rows L2 Hk Wl Kx
theorem conB_ok {C x : Str} {i : Int} {K : Frag} (h : conB C x i K = true) (hc : copiedNames.contains x = false) : ∃ u, Con K (He.ga K C) x (.int i) u := by
  unfold conB at h
  split at h
  · rename_i j t e
    obtain ⟨h1, h2⟩ := Bool.and_eq_true_iff.mp h
    have ej := of_decide_eq_true h1
    subst ej
    exact ⟨.int j t, e, ⟨t, rfl⟩, He.eqO_ok h2, hc⟩
  · cases h
theorem getB_ok {K : Frag} (h : getB K = true) : specialIn K (.builtin "object.__class__") "__get__" = some (some (.builtin "getset_descriptor.__get__")) ∧ takesIn K (.builtin "object.__class__") = some true := by
  obtain ⟨h1, h2⟩ := Bool.and_eq_true_iff.mp h
  exact ⟨He.eqO_ok h1, of_decide_eq_true h2⟩
theorem more_mem {K : Frag} (c : Says ask K) {b : Frag → Bool} (h : b ∈ ask.bs) : b K = true := List.all_eq_true.mp c.all.2.2 b h
theorem fa_mem {K : Frag} (c : Says ask K) {f : He.Fa} (h : f ∈ ask.fa) : f.ok K = true := List.all_eq_true.mp c.all.1.1 f h
theorem propB_ok {C x : Str} {K : Frag} (h : propB C x K = true) : PropOf K (He.ga K C) x (He.ma K (He.ga K C) x) (gaP K C x) := by
  obtain ⟨h1, h2⟩ := Bool.and_eq_true_iff.mp h
  obtain ⟨h2, h3⟩ := Bool.and_eq_true_iff.mp h2
  obtain ⟨h3, h4⟩ := Bool.and_eq_true_iff.mp h3
  refine ⟨He.eqO_ok h1, He.eqO_ok h2, of_decide_eq_true h3, ?_⟩
  unfold gaP
  split at h4
  · rename_i g rest e
    rw [e]
    exact ⟨rest, rfl⟩
  · cases h4
theorem isCm_ok {C p : Addr} {r : Option CFound} (h : isCm C p r = true) : r = some (.get (.builtin "classmethod.__get__") (.ref p) .none (.ref C)) := by
  unfold isCm at h
  split at h
  · obtain ⟨h1, h2⟩ := Bool.and_eq_true_iff.mp h
    obtain ⟨h2, h3⟩ := Bool.and_eq_true_iff.mp h2
    rw [of_decide_eq_true h1, of_decide_eq_true h2, of_decide_eq_true h3]
  · cases h
theorem cmB_ok {C x : Str} {K : Frag} (h : cmB C x K = true) : ClX.CMet K (He.ga K C) (.type "type") x (He.ma K (He.ga K C) x) (gaC K C x) := by
  obtain ⟨h1, h2⟩ := Bool.and_eq_true_iff.mp h
  obtain ⟨h2, h3⟩ := Bool.and_eq_true_iff.mp h2
  refine ⟨isCm_ok h1, ?_, h3⟩
  unfold gaC
  split at h2
  · rename_i g rest e
    rw [e]
    exact ⟨rest, rfl⟩
  · cases h2
theorem isSm_ok {C p : Addr} {r : Option CFound} (h : isSm C p r = true) : r = some (.get (.builtin "staticmethod.__get__") (.ref p) .none (.ref C)) := by
  unfold isSm at h
  split at h
  · obtain ⟨h1, h2⟩ := Bool.and_eq_true_iff.mp h
    obtain ⟨h2, h3⟩ := Bool.and_eq_true_iff.mp h2
    rw [of_decide_eq_true h1, of_decide_eq_true h2, of_decide_eq_true h3]
  · cases h
theorem smB_ok {C x : Str} {K : Frag} (h : smB C x K = true) : ClX.SMet K (He.ga K C) (.type "type") x (He.ma K (He.ga K C) x) (gaS K C x) := by
  obtain ⟨h1, h2⟩ := Bool.and_eq_true_iff.mp h
  obtain ⟨h2, h3⟩ := Bool.and_eq_true_iff.mp h2
  refine ⟨isSm_ok h1, ?_, h3⟩
  unfold gaS
  split at h2
  · rename_i g rest e
    rw [e]
    exact ⟨rest, rfl⟩
  · cases h2
theorem cvalB_ok {C x : Str} {i : Int} {K : Frag} (h : cvalB C x i K = true) : ∃ u, ClX.CVal K (He.ga K C) (.type "type") x (.int i) u := by
  unfold cvalB at h
  split at h
  · rename_i j t e
    have ej := of_decide_eq_true h
    subst ej
    exact ⟨.int j t, e, ⟨t, rfl⟩⟩
  · cases h
theorem readB_ok {C : Str} {K : Frag} (h : readB C K = true) : ClX.CRead K (He.ga K C) (.type "type") := by
  obtain ⟨h1, h2⟩ := Bool.and_eq_true_iff.mp h
  exact ⟨h1, He.eqO_ok h2⟩
theorem insB_ok {C : Str} {K : Frag} (h : insB C K = true) (cl : Cls K (He.ga K C)) (g : specialIn K (.builtin "object.__class__") "__get__" = some (some (.builtin "getset_descriptor.__get__")) ∧ takesIn K (.builtin "object.__class__") = some true) : IsC K (He.ga K C) := by
  obtain ⟨h1, h2⟩ := Bool.and_eq_true_iff.mp h
  obtain ⟨h2, h3⟩ := Bool.and_eq_true_iff.mp h2
  exact ⟨cl, He.eqO_ok h1, g.1, g.2, of_decide_eq_true h2, of_decide_eq_true h3⟩
theorem rawR {P : Program} {w : World} {K : Frag} {mg : Str → Option Value} {base : Heap} {k : Nat} {f : Addr} {fd : FuncData} {ps : List Str} {sp : Sp} (F : FnOk P w K mg base (L2N.CX P w) k f fd ps sp) (b : Binds K fd ps []) : FnR P w K mg base (L2N.CX P w) k f sp := (F.raw b .nil).imp fun vs H Q E h => by
  rw [List.append_nil]
  exact h
def caK (K : Frag) (e : Er8) : Addr := He.ga K e.nm
def spLaw (K : PySem.W.Frag) : Sp := fun vs H Q _ => ∃ (a : Addr) (ns : List Int), vs = [.ref a] ∧ SqL K H a (ns.map V.int) ∧ ns.length ≤ 63 ∧ ∀ H', Q (.bl true) H'
theorem toLaw {P : Program} {w : World} {K : Frag} {mg : Str → Option Value} {base : Heap} {k : Nat} {f : Addr} {fd : FuncData} (F : FnOk P w K mg base (L2N.CX P w) k f fd ["script"] (spX (S_law K))) : FnOk P w K mg base (L2N.CX P w) k f fd ["script"] (spLaw K) := by
  have conv : ∀ vs H Q E, spLaw K vs H Q E → spX (S_law K) vs H Q E := fun vs H Q E ⟨a, ns, e, hS, l, q⟩ => by
    subst e
    refine ⟨[TQ K ns], fun φ => φ = TB true, fun _ _ => False, ⟨H, fun _ => False⟩, ⟨Same.refl _, fun _ z => z.elim⟩, ⟨⟨a, rfl, hS⟩, trivial⟩, ⟨ns, rfl, l, rfl⟩, fun φ v W2 H2 f p e => ?_, fun _ _ _ _ _ _ _ _ _ z => z.elim⟩
    subst e
    obtain rfl : v = .bl true := p
    exact q H2
  exact ⟨fun vs H Q E h => F.len vs H Q E (conv _ _ _ _ h), fun A outer s H args us vs Q E hr he hb hv hs => F.run A outer s H args us vs Q E hr he hb hv (conv _ _ _ _ hs)⟩
theorem cls_of {K : Frag} {mg : Str → Option Value} {h : Heap} (X : K.In h) (G : h.Ns mainGlobals mg) (c : Says ask K) : ∀ e : Er8, ClsG K mg (caK K e) (He.ga K "DepotError") e.nm (fun x => He.ga K x) := by
  obtain ⟨gt1, gt2⟩ := getB_ok (c.more 3)
  have hg : ∀ x ∈ cls39, mg x = some (.ref (He.ga K x)) := fun x hx => He.glo_ok X G (fa_mem c (List.mem_append_right _ (List.mem_append_left _ (List.mem_map_of_mem hx))))
  have gd := He.glo_ok X G (c.fact 62 (f := .glo "DepotError") rfl)
  intro e
  cases e with
  | siz =>
    have E := c.err 0 (d := dS) rfl
    exact ⟨⟨E.ga, E.gt, E.oex.exC, E.hd, E.cl, gt1, gt2, E.top⟩, hg, fun x hx => of_decide_eq_true (more_mem c (b := isx "BadSize" x (decide (x = "BadSize"))) (List.mem_append_right _ (List.mem_append_left _ (List.mem_append_left _ (List.mem_map_of_mem (f := fun y => isx "BadSize" y (decide (y = "BadSize"))) hx))))), gd, of_decide_eq_true (c.more 19), of_decide_eq_true (c.more 11)⟩
  | len =>
    have E := c.err 1 (d := dL) rfl
    exact ⟨⟨E.ga, E.gt, E.oex.exC, E.hd, E.cl, gt1, gt2, E.top⟩, hg, fun x hx => of_decide_eq_true (more_mem c (b := isx "BadLength" x (decide (x = "BadLength"))) (List.mem_append_right _ (List.mem_append_left _ (List.mem_append_right _ (List.mem_append_left _ (List.mem_map_of_mem (f := fun y => isx "BadLength" y (decide (y = "BadLength"))) hx)))))), gd, of_decide_eq_true (c.more 20), of_decide_eq_true (c.more 12)⟩
  | cnt =>
    have E := c.err 2 (d := dB) rfl
    exact ⟨⟨E.ga, E.gt, E.oex.exC, E.hd, E.cl, gt1, gt2, E.top⟩, hg, fun x hx => of_decide_eq_true (more_mem c (b := isx "BadCount" x (decide (x = "BadCount"))) (List.mem_append_right _ (List.mem_append_left _ (List.mem_append_right _ (List.mem_append_right _ (List.mem_append_left _ (List.mem_map_of_mem (f := fun y => isx "BadCount" y (decide (y = "BadCount"))) hx))))))), gd, of_decide_eq_true (c.more 21), of_decide_eq_true (c.more 13)⟩
  | unb =>
    have E := c.err 7 (d := dU) rfl
    exact ⟨⟨E.ga, E.gt, E.oex.exC, E.hd, E.cl, gt1, gt2, E.top⟩, hg, fun x hx => of_decide_eq_true (more_mem c (b := isx "Unbalanced" x (decide (x = "Unbalanced"))) (List.mem_append_right _ (List.mem_append_right _ (List.mem_append_right _ (List.mem_append_right _ (List.mem_append_right _ (List.mem_map_of_mem (f := fun y => isx "Unbalanced" y (decide (y = "Unbalanced"))) hx))))))), gd, of_decide_eq_true (c.more 26), of_decide_eq_true (c.more 18)⟩
  | mos =>
    have E := c.err 3 (d := dM) rfl
    exact ⟨⟨E.ga, E.gt, E.oex.exC, E.hd, E.cl, gt1, gt2, E.top⟩, hg, fun x hx => of_decide_eq_true (more_mem c (b := isx "TooMany" x (decide (x = "TooMany"))) (List.mem_append_right _ (List.mem_append_left _ (List.mem_append_right _ (List.mem_append_right _ (List.mem_append_right _ (List.mem_map_of_mem (f := fun y => isx "TooMany" y (decide (y = "TooMany"))) hx))))))), gd, of_decide_eq_true (c.more 22), of_decide_eq_true (c.more 14)⟩
  | dep =>
    have E := c.err 4 (d := dD) rfl
    exact ⟨⟨E.ga, E.gt, E.oex.exC, E.hd, E.cl, gt1, gt2, E.top⟩, hg, fun x hx => of_decide_eq_true (more_mem c (b := isx "NoDepot" x (decide (x = "NoDepot"))) (List.mem_append_right _ (List.mem_append_right _ (List.mem_append_left _ (List.mem_map_of_mem (f := fun y => isx "NoDepot" y (decide (y = "NoDepot"))) hx))))), gd, of_decide_eq_true (c.more 23), of_decide_eq_true (c.more 15)⟩
  | sup =>
    have E := c.err 5 (d := dP) rfl
    exact ⟨⟨E.ga, E.gt, E.oex.exC, E.hd, E.cl, gt1, gt2, E.top⟩, hg, fun x hx => of_decide_eq_true (more_mem c (b := isx "NoSupply" x (decide (x = "NoSupply"))) (List.mem_append_right _ (List.mem_append_right _ (List.mem_append_right _ (List.mem_append_left _ (List.mem_map_of_mem (f := fun y => isx "NoSupply" y (decide (y = "NoSupply"))) hx)))))), gd, of_decide_eq_true (c.more 24), of_decide_eq_true (c.more 16)⟩
  | unr =>
    have E := c.err 6 (d := dX) rfl
    exact ⟨⟨E.ga, E.gt, E.oex.exC, E.hd, E.cl, gt1, gt2, E.top⟩, hg, fun x hx => of_decide_eq_true (more_mem c (b := isx "Unread" x (decide (x = "Unread"))) (List.mem_append_right _ (List.mem_append_right _ (List.mem_append_right _ (List.mem_append_right _ (List.mem_append_left _ (List.mem_map_of_mem (f := fun y => isx "Unread" y (decide (y = "Unread"))) hx))))))), gd, of_decide_eq_true (c.more 25), of_decide_eq_true (c.more 17)⟩
theorem exq_of {K : Frag} (c : Says ask K) (Fc : ∀ e : Er8, L2.ExcC K (caK K e)) : ∀ e : Er8, ExQ K (caK K) e := by
  intro e
  refine ⟨Fc e, fun e' => ?_, fun q hq => ?_⟩
  · cases e <;> cases e'
    · exact He.exm_ok (c.fact 86 (f := .exm "BadSize" "BadSize" true) rfl)
    · exact He.exm_ok (c.fact 87 (f := .exm "BadSize" "BadLength" false) rfl)
    · exact He.exm_ok (c.fact 88 (f := .exm "BadSize" "BadCount" false) rfl)
    · exact He.exm_ok (c.fact 93 (f := .exm "BadSize" "Unbalanced" false) rfl)
    · exact He.exm_ok (c.fact 89 (f := .exm "BadSize" "TooMany" false) rfl)
    · exact He.exm_ok (c.fact 90 (f := .exm "BadSize" "NoDepot" false) rfl)
    · exact He.exm_ok (c.fact 91 (f := .exm "BadSize" "NoSupply" false) rfl)
    · exact He.exm_ok (c.fact 92 (f := .exm "BadSize" "Unread" false) rfl)
    · exact He.exm_ok (c.fact 94 (f := .exm "BadLength" "BadSize" false) rfl)
    · exact He.exm_ok (c.fact 95 (f := .exm "BadLength" "BadLength" true) rfl)
    · exact He.exm_ok (c.fact 96 (f := .exm "BadLength" "BadCount" false) rfl)
    · exact He.exm_ok (c.fact 101 (f := .exm "BadLength" "Unbalanced" false) rfl)
    · exact He.exm_ok (c.fact 97 (f := .exm "BadLength" "TooMany" false) rfl)
    · exact He.exm_ok (c.fact 98 (f := .exm "BadLength" "NoDepot" false) rfl)
    · exact He.exm_ok (c.fact 99 (f := .exm "BadLength" "NoSupply" false) rfl)
    · exact He.exm_ok (c.fact 100 (f := .exm "BadLength" "Unread" false) rfl)
    · exact He.exm_ok (c.fact 102 (f := .exm "BadCount" "BadSize" false) rfl)
    · exact He.exm_ok (c.fact 103 (f := .exm "BadCount" "BadLength" false) rfl)
    · exact He.exm_ok (c.fact 104 (f := .exm "BadCount" "BadCount" true) rfl)
    · exact He.exm_ok (c.fact 109 (f := .exm "BadCount" "Unbalanced" false) rfl)
    · exact He.exm_ok (c.fact 105 (f := .exm "BadCount" "TooMany" false) rfl)
    · exact He.exm_ok (c.fact 106 (f := .exm "BadCount" "NoDepot" false) rfl)
    · exact He.exm_ok (c.fact 107 (f := .exm "BadCount" "NoSupply" false) rfl)
    · exact He.exm_ok (c.fact 108 (f := .exm "BadCount" "Unread" false) rfl)
    · exact He.exm_ok (c.fact 142 (f := .exm "Unbalanced" "BadSize" false) rfl)
    · exact He.exm_ok (c.fact 143 (f := .exm "Unbalanced" "BadLength" false) rfl)
    · exact He.exm_ok (c.fact 144 (f := .exm "Unbalanced" "BadCount" false) rfl)
    · exact He.exm_ok (c.fact 149 (f := .exm "Unbalanced" "Unbalanced" true) rfl)
    · exact He.exm_ok (c.fact 145 (f := .exm "Unbalanced" "TooMany" false) rfl)
    · exact He.exm_ok (c.fact 146 (f := .exm "Unbalanced" "NoDepot" false) rfl)
    · exact He.exm_ok (c.fact 147 (f := .exm "Unbalanced" "NoSupply" false) rfl)
    · exact He.exm_ok (c.fact 148 (f := .exm "Unbalanced" "Unread" false) rfl)
    · exact He.exm_ok (c.fact 110 (f := .exm "TooMany" "BadSize" false) rfl)
    · exact He.exm_ok (c.fact 111 (f := .exm "TooMany" "BadLength" false) rfl)
    · exact He.exm_ok (c.fact 112 (f := .exm "TooMany" "BadCount" false) rfl)
    · exact He.exm_ok (c.fact 117 (f := .exm "TooMany" "Unbalanced" false) rfl)
    · exact He.exm_ok (c.fact 113 (f := .exm "TooMany" "TooMany" true) rfl)
    · exact He.exm_ok (c.fact 114 (f := .exm "TooMany" "NoDepot" false) rfl)
    · exact He.exm_ok (c.fact 115 (f := .exm "TooMany" "NoSupply" false) rfl)
    · exact He.exm_ok (c.fact 116 (f := .exm "TooMany" "Unread" false) rfl)
    · exact He.exm_ok (c.fact 118 (f := .exm "NoDepot" "BadSize" false) rfl)
    · exact He.exm_ok (c.fact 119 (f := .exm "NoDepot" "BadLength" false) rfl)
    · exact He.exm_ok (c.fact 120 (f := .exm "NoDepot" "BadCount" false) rfl)
    · exact He.exm_ok (c.fact 125 (f := .exm "NoDepot" "Unbalanced" false) rfl)
    · exact He.exm_ok (c.fact 121 (f := .exm "NoDepot" "TooMany" false) rfl)
    · exact He.exm_ok (c.fact 122 (f := .exm "NoDepot" "NoDepot" true) rfl)
    · exact He.exm_ok (c.fact 123 (f := .exm "NoDepot" "NoSupply" false) rfl)
    · exact He.exm_ok (c.fact 124 (f := .exm "NoDepot" "Unread" false) rfl)
    · exact He.exm_ok (c.fact 126 (f := .exm "NoSupply" "BadSize" false) rfl)
    · exact He.exm_ok (c.fact 127 (f := .exm "NoSupply" "BadLength" false) rfl)
    · exact He.exm_ok (c.fact 128 (f := .exm "NoSupply" "BadCount" false) rfl)
    · exact He.exm_ok (c.fact 133 (f := .exm "NoSupply" "Unbalanced" false) rfl)
    · exact He.exm_ok (c.fact 129 (f := .exm "NoSupply" "TooMany" false) rfl)
    · exact He.exm_ok (c.fact 130 (f := .exm "NoSupply" "NoDepot" false) rfl)
    · exact He.exm_ok (c.fact 131 (f := .exm "NoSupply" "NoSupply" true) rfl)
    · exact He.exm_ok (c.fact 132 (f := .exm "NoSupply" "Unread" false) rfl)
    · exact He.exm_ok (c.fact 134 (f := .exm "Unread" "BadSize" false) rfl)
    · exact He.exm_ok (c.fact 135 (f := .exm "Unread" "BadLength" false) rfl)
    · exact He.exm_ok (c.fact 136 (f := .exm "Unread" "BadCount" false) rfl)
    · exact He.exm_ok (c.fact 141 (f := .exm "Unread" "Unbalanced" false) rfl)
    · exact He.exm_ok (c.fact 137 (f := .exm "Unread" "TooMany" false) rfl)
    · exact He.exm_ok (c.fact 138 (f := .exm "Unread" "NoDepot" false) rfl)
    · exact He.exm_ok (c.fact 139 (f := .exm "Unread" "NoSupply" false) rfl)
    · exact He.exm_ok (c.fact 140 (f := .exm "Unread" "Unread" true) rfl)
  · cases e
    · obtain rfl := List.mem_singleton.mp hq
      exact He.noat_ok (c.fact 77 (f := .noat "BadSize" "size") rfl)
    · obtain rfl := List.mem_singleton.mp hq
      exact He.noat_ok (c.fact 78 (f := .noat "BadLength" "length") rfl)
    · obtain rfl := List.mem_singleton.mp hq
      exact He.noat_ok (c.fact 79 (f := .noat "BadCount" "number") rfl)
    · rcases List.mem_cons.mp hq with rfl | hq
      · exact He.noat_ok (c.fact 85 (f := .noat "Unbalanced" "demand") rfl)
      · obtain rfl := List.mem_singleton.mp hq
        exact He.noat_ok (c.fact 84 (f := .noat "Unbalanced" "supply") rfl)
    · obtain rfl := List.mem_singleton.mp hq
      exact He.noat_ok (c.fact 80 (f := .noat "TooMany" "most") rfl)
    · obtain rfl := List.mem_singleton.mp hq
      exact He.noat_ok (c.fact 81 (f := .noat "NoDepot" "depot") rfl)
    · obtain rfl := List.mem_singleton.mp hq
      exact He.noat_ok (c.fact 82 (f := .noat "NoSupply" "depot") rfl)
    · obtain rfl := List.mem_singleton.mp hq
      exact He.noat_ok (c.fact 83 (f := .noat "Unread" "text") rfl)
theorem facts {P : Program} {w : World} {K : Frag} {h : Heap} {mg : Str → Option Value} {f : Addr} (hP : P.main.file = "/claim/cut.py") (hsup : (P.main.scope.names.lookup ("super" : Str)).isSome = false) (X : K.In h) (G : h.Ns mainGlobals mg) (hfa : mg ("law" : Str) = some (.ref f)) (c : Says ask K) :
    ∃ fd : FuncData, (∀ (s : Shared) (v : Value), BindsTo s fd ⟨[v], []⟩ [("script", v)]) ∧ ∀ base : Heap, K.In base → base.Ns mainGlobals mg → FnOk P w K mg base (L2N.CX P w) 14 f fd ["script"] (spLaw K) := by
  obtain ⟨fd_check_size, F_check_size⟩ := c.def_ 0 (d := gdef "check_size" check_size_st) rfl
  obtain ⟨fd_check_length, F_check_length⟩ := c.def_ 1 (d := gdef "check_length" check_length_st) rfl
  obtain ⟨fd_check_count, F_check_count⟩ := c.def_ 2 (d := gdef "check_count" check_count_st) rfl
  obtain ⟨fd_check_counts, F_check_counts⟩ := c.def_ 3 (d := gdef "check_counts" check_counts_st) rfl
  obtain ⟨fd_check_most, F_check_most⟩ := c.def_ 4 (d := gdef "check_most" check_most_st) rfl
  obtain ⟨fd_check_depot, F_check_depot⟩ := c.def_ 5 (d := gdef "check_depot" check_depot_st) rfl
  obtain ⟨fd_digits_as_zeros, F_digits_as_zeros⟩ := c.def_ 6 (d := gdef "digits_as_zeros" digits_as_zeros_st) rfl
  obtain ⟨fd_is_written_number, F_is_written_number⟩ := c.def_ 7 (d := gdef "is_written_number" is_written_number_st) rfl
  obtain ⟨fd_add_totals, F_add_totals⟩ := c.def_ 8 (d := gdef "add_totals" add_totals_st) rfl
  obtain ⟨fd_is_written_totals, F_is_written_totals⟩ := c.def_ 9 (d := gdef "is_written_totals" is_written_totals_st) rfl
  obtain ⟨fd_written_sides, F_written_sides⟩ := c.def_ 10 (d := gdef "_written_sides" written_sides_st) rfl
  obtain ⟨fd_check_balanced, F_check_balanced⟩ := c.def_ 11 (d := gdef "_check_balanced" check_balanced_st) rfl
  obtain ⟨fd_sums, F_sums⟩ := c.def_ 12 (d := gdef "_sums" sums_st) rfl
  obtain ⟨fd_law_classes, F_law_classes⟩ := c.def_ 13 (d := gdef "_law_classes" law_classes_st) rfl
  obtain ⟨fd_law_cell, F_law_cell⟩ := c.def_ 14 (d := gdef "_law_cell" law_cell_st) rfl
  obtain ⟨fd_law_take, F_law_take⟩ := c.def_ 15 (d := gdef "_law_take" law_take_st) rfl
  obtain ⟨fd_law_alike, F_law_alike⟩ := c.def_ 16 (d := gdef "_law_alike" law_alike_st) rfl
  obtain ⟨fd_law_copied, F_law_copied⟩ := c.def_ 17 (d := gdef "_law_copied" law_copied_st) rfl
  obtain ⟨fd_law_parts, F_law_parts⟩ := c.def_ 18 (d := gdef "_law_parts" law_parts_st) rfl
  obtain ⟨fd_law_units, F_law_units⟩ := c.def_ 19 (d := gdef "_law_units" law_units_st) rfl
  obtain ⟨fd_law_first, F_law_first⟩ := c.def_ 20 (d := gdef "_law_first" law_first_st) rfl
  obtain ⟨fd_law_second, F_law_second⟩ := c.def_ 21 (d := gdef "_law_second" law_second_st) rfl
  obtain ⟨fd_law_level, F_law_level⟩ := c.def_ 22 (d := gdef "_law_level" law_level_st) rfl
  obtain ⟨fd_law_odd_row, F_law_odd_row⟩ := c.def_ 23 (d := gdef "_law_odd_row" law_odd_row_st) rfl
  obtain ⟨fd_law_odd, F_law_odd⟩ := c.def_ 24 (d := gdef "_law_odd" law_odd_st) rfl
  obtain ⟨fd_law_text, F_law_text⟩ := c.def_ 25 (d := gdef "_law_text" law_text_st) rfl
  obtain ⟨fd_law_spoilt, F_law_spoilt⟩ := c.def_ 26 (d := gdef "_law_spoilt" law_spoilt_st) rfl
  obtain ⟨fd_law_sides, F_law_sides⟩ := c.def_ 27 (d := gdef "_law_sides" law_sides_st) rfl
  obtain ⟨fd_law_due, F_law_due⟩ := c.def_ 28 (d := gdef "_law_due" law_due_st) rfl
  obtain ⟨fd_law_plus, F_law_plus⟩ := c.def_ 29 (d := gdef "_law_plus" law_plus_st) rfl
  obtain ⟨fd_law_times, F_law_times⟩ := c.def_ 30 (d := gdef "_law_times" law_times_st) rfl
  obtain ⟨fd_law_moved, F_law_moved⟩ := c.def_ 31 (d := gdef "_law_moved" law_moved_st) rfl
  obtain ⟨fd_law_added, F_law_added⟩ := c.def_ 32 (d := gdef "_law_added" law_added_st) rfl
  obtain ⟨fd_law_done, F_law_done⟩ := c.def_ 33 (d := gdef "_law_done" law_done_st) rfl
  obtain ⟨fd_law_ask, F_law_ask⟩ := c.def_ 34 (d := gdef "_law_ask" law_ask_st) rfl
  obtain ⟨fd_law_is, F_law_is⟩ := c.def_ 35 (d := gdef "_law_is" law_is_st) rfl
  obtain ⟨fd_law_agrees, F_law_agrees⟩ := c.def_ 36 (d := gdef "_law_agrees" law_agrees_st) rfl
  obtain ⟨fd_law_makes, F_law_makes⟩ := c.def_ 37 (d := gdef "_law_makes" law_makes_st) rfl
  obtain ⟨fd_law_reads, F_law_reads⟩ := c.def_ 38 (d := gdef "_law_reads" law_reads_st) rfl
  obtain ⟨fd_law_adds, F_law_adds⟩ := c.def_ 39 (d := gdef "_law_adds" law_adds_st) rfl
  obtain ⟨fd_law_multiplies, F_law_multiplies⟩ := c.def_ 40 (d := gdef "_law_multiplies" law_multiplies_st) rfl
  obtain ⟨fd_law_moves, F_law_moves⟩ := c.def_ 41 (d := gdef "_law_moves" law_moves_st) rfl
  obtain ⟨fd_law_equal, F_law_equal⟩ := c.def_ 42 (d := gdef "_law_equal" law_equal_st) rfl
  obtain ⟨fd_law_balanced, F_law_balanced⟩ := c.def_ 43 (d := gdef "_law_balanced" law_balanced_st) rfl
  obtain ⟨fd_law, F_law⟩ := c.def_ 44 (d := gdef "law" law_st) rfl
  obtain ⟨fd_Totals_init, F_Totals_init⟩ := c.def_ 45 (d := mdefN "Totals" "__init__" "Totals.__init__" Totals_init_st) rfl
  obtain ⟨fd_Totals_moved, F_Totals_moved⟩ := c.def_ 46 (d := mdefN "Totals" "moved" "Totals.moved" Totals_moved_st) rfl
  obtain ⟨fd_Totals_turned, F_Totals_turned⟩ := c.def_ 47 (d := mdefN "Totals" "turned" "Totals.turned" Totals_turned_st) rfl
  obtain ⟨fd_Totals_add, F_Totals_add⟩ := c.def_ 48 (d := mdefN "Totals" "__add__" "Totals.__add__" Totals_add_st) rfl
  obtain ⟨fd_Totals_mul, F_Totals_mul⟩ := c.def_ 49 (d := mdefN "Totals" "__mul__" "Totals.__mul__" Totals_mul_st) rfl
  obtain ⟨fd_Totals_rmul, F_Totals_rmul⟩ := c.def_ 50 (d := mdefN "Totals" "__rmul__" "Totals.__rmul__" Totals_rmul_st) rfl
  obtain ⟨fd_Totals_eq, F_Totals_eq⟩ := c.def_ 51 (d := mdefN "Totals" "__eq__" "Totals.__eq__" Totals_eq_st) rfl
  obtain ⟨fd_Totals_str, F_Totals_str⟩ := c.def_ 52 (d := mdefN "Totals" "__str__" "Totals.__str__" Totals_str_st) rfl
  obtain ⟨fd_Totals_read, F_Totals_read⟩ := c.def_ 53 (d := cdefN "Totals" "read" "Totals.read" Totals_read_st) rfl
  obtain ⟨fd_Totals_balance, F_Totals_balance⟩ := c.def_ 54 (d := sdefN "Totals" "balance" "Totals.balance" Totals_balance_st) rfl
  obtain ⟨fd_Totals_supplies, F_Totals_supplies⟩ := c.def_ 55 (d := pdefN "Totals" "supplies" "Totals.supplies" Totals_supplies_st) rfl
  obtain ⟨fd_Totals_demands, F_Totals_demands⟩ := c.def_ 56 (d := pdefN "Totals" "demands" "Totals.demands" Totals_demands_st) rfl
  obtain ⟨fd_Totals_units, F_Totals_units⟩ := c.def_ 57 (d := pdefN "Totals" "units" "Totals.units" Totals_units_st) rfl
  have g_check_size := He.glo_ok X G (c.fact 16 (f := .glo "check_size") rfl)
  have g_check_length := He.glo_ok X G (c.fact 17 (f := .glo "check_length") rfl)
  have g_check_count := He.glo_ok X G (c.fact 18 (f := .glo "check_count") rfl)
  have g_check_counts := He.glo_ok X G (c.fact 19 (f := .glo "check_counts") rfl)
  have g_check_most := He.glo_ok X G (c.fact 20 (f := .glo "check_most") rfl)
  have g_check_depot := He.glo_ok X G (c.fact 21 (f := .glo "check_depot") rfl)
  have g_digits_as_zeros := He.glo_ok X G (c.fact 22 (f := .glo "digits_as_zeros") rfl)
  have g_is_written_number := He.glo_ok X G (c.fact 23 (f := .glo "is_written_number") rfl)
  have g_add_totals := He.glo_ok X G (c.fact 24 (f := .glo "add_totals") rfl)
  have g_is_written_totals := He.glo_ok X G (c.fact 25 (f := .glo "is_written_totals") rfl)
  have g_written_sides := He.glo_ok X G (c.fact 26 (f := .glo "_written_sides") rfl)
  have g_check_balanced := He.glo_ok X G (c.fact 27 (f := .glo "_check_balanced") rfl)
  have g_sums := He.glo_ok X G (c.fact 28 (f := .glo "_sums") rfl)
  have g_law_classes := He.glo_ok X G (c.fact 29 (f := .glo "_law_classes") rfl)
  have g_law_cell := He.glo_ok X G (c.fact 30 (f := .glo "_law_cell") rfl)
  have g_law_take := He.glo_ok X G (c.fact 31 (f := .glo "_law_take") rfl)
  have g_law_alike := He.glo_ok X G (c.fact 32 (f := .glo "_law_alike") rfl)
  have g_law_copied := He.glo_ok X G (c.fact 33 (f := .glo "_law_copied") rfl)
  have g_law_parts := He.glo_ok X G (c.fact 34 (f := .glo "_law_parts") rfl)
  have g_law_units := He.glo_ok X G (c.fact 35 (f := .glo "_law_units") rfl)
  have g_law_first := He.glo_ok X G (c.fact 36 (f := .glo "_law_first") rfl)
  have g_law_second := He.glo_ok X G (c.fact 37 (f := .glo "_law_second") rfl)
  have g_law_level := He.glo_ok X G (c.fact 38 (f := .glo "_law_level") rfl)
  have g_law_odd_row := He.glo_ok X G (c.fact 39 (f := .glo "_law_odd_row") rfl)
  have g_law_odd := He.glo_ok X G (c.fact 40 (f := .glo "_law_odd") rfl)
  have g_law_text := He.glo_ok X G (c.fact 41 (f := .glo "_law_text") rfl)
  have g_law_spoilt := He.glo_ok X G (c.fact 42 (f := .glo "_law_spoilt") rfl)
  have g_law_sides := He.glo_ok X G (c.fact 43 (f := .glo "_law_sides") rfl)
  have g_law_due := He.glo_ok X G (c.fact 44 (f := .glo "_law_due") rfl)
  have g_law_plus := He.glo_ok X G (c.fact 45 (f := .glo "_law_plus") rfl)
  have g_law_times := He.glo_ok X G (c.fact 46 (f := .glo "_law_times") rfl)
  have g_law_moved := He.glo_ok X G (c.fact 47 (f := .glo "_law_moved") rfl)
  have g_law_added := He.glo_ok X G (c.fact 48 (f := .glo "_law_added") rfl)
  have g_law_done := He.glo_ok X G (c.fact 49 (f := .glo "_law_done") rfl)
  have g_law_ask := He.glo_ok X G (c.fact 50 (f := .glo "_law_ask") rfl)
  have g_law_is := He.glo_ok X G (c.fact 51 (f := .glo "_law_is") rfl)
  have g_law_agrees := He.glo_ok X G (c.fact 52 (f := .glo "_law_agrees") rfl)
  have g_law_makes := He.glo_ok X G (c.fact 53 (f := .glo "_law_makes") rfl)
  have g_law_reads := He.glo_ok X G (c.fact 54 (f := .glo "_law_reads") rfl)
  have g_law_adds := He.glo_ok X G (c.fact 55 (f := .glo "_law_adds") rfl)
  have g_law_multiplies := He.glo_ok X G (c.fact 56 (f := .glo "_law_multiplies") rfl)
  have g_law_moves := He.glo_ok X G (c.fact 57 (f := .glo "_law_moves") rfl)
  have g_law_equal := He.glo_ok X G (c.fact 58 (f := .glo "_law_equal") rfl)
  have g_law_balanced := He.glo_ok X G (c.fact 59 (f := .glo "_law_balanced") rfl)
  have g_law := He.glo_ok X G (c.fact 60 (f := .glo "law") rfl)
  have g_Totals := He.glo_ok X G (c.fact 61 (f := .glo "Totals") rfl)
  have g_DepotError := He.glo_ok X G (c.fact 62 (f := .glo "DepotError") rfl)
  have g_BadSize := He.glo_ok X G (fa_mem c (List.mem_append_right _ (List.mem_append_left _ (List.mem_map_of_mem (f := He.Fa.glo) (show ("BadSize" : Str) ∈ cls39 by decide +kernel)))))
  have g_BadLength := He.glo_ok X G (fa_mem c (List.mem_append_right _ (List.mem_append_left _ (List.mem_map_of_mem (f := He.Fa.glo) (show ("BadLength" : Str) ∈ cls39 by decide +kernel)))))
  have g_BadCount := He.glo_ok X G (fa_mem c (List.mem_append_right _ (List.mem_append_left _ (List.mem_map_of_mem (f := He.Fa.glo) (show ("BadCount" : Str) ∈ cls39 by decide +kernel)))))
  have g_TooMany := He.glo_ok X G (fa_mem c (List.mem_append_right _ (List.mem_append_left _ (List.mem_map_of_mem (f := He.Fa.glo) (show ("TooMany" : Str) ∈ cls39 by decide +kernel)))))
  have g_NoDepot := He.glo_ok X G (fa_mem c (List.mem_append_right _ (List.mem_append_left _ (List.mem_map_of_mem (f := He.Fa.glo) (show ("NoDepot" : Str) ∈ cls39 by decide +kernel)))))
  have g_NoSupply := He.glo_ok X G (fa_mem c (List.mem_append_right _ (List.mem_append_left _ (List.mem_map_of_mem (f := He.Fa.glo) (show ("NoSupply" : Str) ∈ cls39 by decide +kernel)))))
  have g_Unread := He.glo_ok X G (fa_mem c (List.mem_append_right _ (List.mem_append_left _ (List.mem_map_of_mem (f := He.Fa.glo) (show ("Unread" : Str) ∈ cls39 by decide +kernel)))))
  have g_Unbalanced := He.glo_ok X G (fa_mem c (List.mem_append_right _ (List.mem_append_left _ (List.mem_map_of_mem (f := He.Fa.glo) (show ("Unbalanced" : Str) ∈ cls39 by decide +kernel)))))
  have m_len := He.free_ok X G (c.fact 0 (f := .free "len") rfl)
  have m_range := He.free_ok X G (c.fact 1 (f := .free "range") rfl)
  have m_min := He.free_ok X G (c.fact 2 (f := .free "min") rfl)
  have m_max := He.free_ok X G (c.fact 3 (f := .free "max") rfl)
  have m_abs := He.free_ok X G (c.fact 4 (f := .free "abs") rfl)
  have m_int := He.free_ok X G (c.fact 5 (f := .free "int") rfl)
  have m_list := He.free_ok X G (c.fact 6 (f := .free "list") rfl)
  have m_tuple := He.free_ok X G (c.fact 7 (f := .free "tuple") rfl)
  have m_isinstance := He.free_ok X G (c.fact 8 (f := .free "isinstance") rfl)
  have m_bool := He.free_ok X G (c.fact 9 (f := .free "bool") rfl)
  have m_str := He.free_ok X G (c.fact 10 (f := .free "str") rfl)
  have m_ValueError := He.free_ok X G (c.fact 11 (f := .free "ValueError") rfl)
  have m_super := He.free_ok X G (c.fact 12 (f := .free "super") rfl)
  have m_sum := He.free_ok X G (c.fact 13 (f := .free "sum") rfl)
  have m_zip := He.free_ok X G (c.fact 14 (f := .free "zip") rfl)
  have m_all := He.free_ok X G (c.fact 15 (f := .free "all") rfl)
  obtain ⟨t8, g_M8⟩ := He.int_ok X G (c.fact 63 (f := .int "MOST_NUMBERS" 8) rfl)
  obtain ⟨t3, g_M3⟩ := He.int_ok X G (c.fact 64 (f := .int "MOST_DIGITS" 3) rfl)
  obtain ⟨tD, g_DIG⟩ := He.str_ok X G (c.fact 65 (f := .str "DIGITS" "0123456789") rfl)
  have b_check_size : Binds K fd_check_size ["size", "least", "most"] [] := FunD.bindsN F_check_size fun _ _ _ _ _ _ us hl => match us, hl with | [_, _, _], _ => rfl
  have b_check_length : Binds K fd_check_length ["row", "length"] [] := FunD.bindsN F_check_length fun _ _ _ _ _ _ us hl => match us, hl with | [_, _], _ => rfl
  have b_check_count : Binds K fd_check_count ["number", "least", "most"] [] := FunD.bindsN F_check_count fun _ _ _ _ _ _ us hl => match us, hl with | [_, _, _], _ => rfl
  have b_check_counts : Binds K fd_check_counts ["numbers", "least", "most"] [] := FunD.bindsN F_check_counts fun _ _ _ _ _ _ us hl => match us, hl with | [_, _, _], _ => rfl
  have b_check_most : Binds K fd_check_most ["number", "most"] [] := FunD.bindsN F_check_most fun _ _ _ _ _ _ us hl => match us, hl with | [_, _], _ => rfl
  have b_check_depot : Binds K fd_check_depot ["depot", "depots"] [] := FunD.bindsN F_check_depot fun _ _ _ _ _ _ us hl => match us, hl with | [_, _], _ => rfl
  have b_digits_as_zeros : Binds K fd_digits_as_zeros ["text"] [] := FunD.bindsN F_digits_as_zeros fun _ _ _ _ _ _ us hl => match us, hl with | [_], _ => rfl
  have b_is_written_number : Binds K fd_is_written_number ["word", "most_digits"] [] := FunD.bindsN F_is_written_number fun _ _ _ _ _ _ us hl => match us, hl with | [_, _], _ => rfl
  have b_is_written_totals : Binds K fd_is_written_totals ["text"] [] := FunD.bindsN F_is_written_totals fun _ _ _ _ _ _ us hl => match us, hl with | [_], _ => rfl
  have b_written_sides : Binds K fd_written_sides ["text"] [] := FunD.bindsN F_written_sides fun _ _ _ _ _ _ us hl => match us, hl with | [_], _ => rfl
  have b_check_balanced : Binds K fd_check_balanced ["supply", "demand"] [] := FunD.bindsN F_check_balanced fun _ _ _ _ _ _ us hl => match us, hl with | [_, _], _ => rfl
  have b_sums : Binds K fd_sums ["first", "second"] [] := FunD.bindsN F_sums fun _ _ _ _ _ _ us hl => match us, hl with | [_, _], _ => rfl
  have b_law_classes : Binds K fd_law_classes ["e"] [] := FunD.bindsN F_law_classes fun _ _ _ _ _ _ us hl => match us, hl with | [_], _ => rfl
  have b_law_cell : Binds K fd_law_cell ["script", "k"] [] := FunD.bindsN F_law_cell fun _ _ _ _ _ _ us hl => match us, hl with | [_, _], _ => rfl
  have b_law_take : Binds K fd_law_take ["pool", "limit"] [] := FunD.bindsN F_law_take fun _ _ _ _ _ _ us hl => match us, hl with | [_, _], _ => rfl
  have b_law_alike : Binds K fd_law_alike ["told", "due"] [] := FunD.bindsN F_law_alike fun _ _ _ _ _ _ us hl => match us, hl with | [_, _], _ => rfl
  have b_law_copied : Binds K fd_law_copied ["row", "mode"] [] := FunD.bindsN F_law_copied fun _ _ _ _ _ _ us hl => match us, hl with | [_, _], _ => rfl
  have b_law_parts : Binds K fd_law_parts ["pool", "units", "many"] [] := FunD.bindsN F_law_parts fun _ _ _ _ _ _ us hl => match us, hl with | [_, _, _], _ => rfl
  have b_law_units : Binds K fd_law_units ["pool", "rest"] [] := FunD.bindsN F_law_units fun _ _ _ _ _ _ us hl => match us, hl with | [_, _], _ => rfl
  have b_law_first : Binds K fd_law_first ["pool"] [] := FunD.bindsN F_law_first fun _ _ _ _ _ _ us hl => match us, hl with | [_], _ => rfl
  have b_law_second : Binds K fd_law_second ["pool", "one"] [] := FunD.bindsN F_law_second fun _ _ _ _ _ _ us hl => match us, hl with | [_, _], _ => rfl
  have b_law_level : Binds K fd_law_level ["units", "many"] [] := FunD.bindsN F_law_level fun _ _ _ _ _ _ us hl => match us, hl with | [_, _], _ => rfl
  have b_law_odd_row : Binds K fd_law_odd_row ["pool", "row"] [] := FunD.bindsN F_law_odd_row fun _ _ _ _ _ _ us hl => match us, hl with | [_, _], _ => rfl
  have b_law_odd : Binds K fd_law_odd ["pool"] [] := FunD.bindsN F_law_odd fun _ _ _ _ _ _ us hl => match us, hl with | [_], _ => rfl
  have b_law_text : Binds K fd_law_text ["rows"] [] := FunD.bindsN F_law_text fun _ _ _ _ _ _ us hl => match us, hl with | [_], _ => rfl
  have b_law_spoilt : Binds K fd_law_spoilt ["pool", "text"] [] := FunD.bindsN F_law_spoilt fun _ _ _ _ _ _ us hl => match us, hl with | [_, _], _ => rfl
  have b_law_sides : Binds K fd_law_sides ["text"] [] := FunD.bindsN F_law_sides fun _ _ _ _ _ _ us hl => match us, hl with | [_], _ => rfl
  have b_law_due : Binds K fd_law_due ["first", "second"] [] := FunD.bindsN F_law_due fun _ _ _ _ _ _ us hl => match us, hl with | [_, _], _ => rfl
  have b_law_plus : Binds K fd_law_plus ["one", "two"] [] := FunD.bindsN F_law_plus fun _ _ _ _ _ _ us hl => match us, hl with | [_, _], _ => rfl
  have b_law_times : Binds K fd_law_times ["number", "one"] [] := FunD.bindsN F_law_times fun _ _ _ _ _ _ us hl => match us, hl with | [_, _], _ => rfl
  have b_law_moved : Binds K fd_law_moved ["one", "source", "goal"] [] := FunD.bindsN F_law_moved fun _ _ _ _ _ _ us hl => match us, hl with | [_, _, _], _ => rfl
  have b_law_added : Binds K fd_law_added ["row"] [] := FunD.bindsN F_law_added fun _ _ _ _ _ _ us hl => match us, hl with | [_], _ => rfl
  have b_law_done : Binds K fd_law_done ["word", "a", "b"] [] := FunD.bindsN F_law_done fun _ _ _ _ _ _ us hl => match us, hl with | [_, _, _], _ => rfl
  have b_law_ask : Binds K fd_law_ask ["word", "a", "b"] [] := FunD.bindsN F_law_ask fun _ _ _ _ _ _ us hl => match us, hl with | [_, _, _], _ => rfl
  have b_law_is : Binds K fd_law_is ["box", "first", "second"] [] := FunD.bindsN F_law_is fun _ _ _ _ _ _ us hl => match us, hl with | [_, _, _], _ => rfl
  have b_law_agrees : Binds K fd_law_agrees ["told", "due"] [] := FunD.bindsN F_law_agrees fun _ _ _ _ _ _ us hl => match us, hl with | [_, _], _ => rfl
  have b_law_makes : Binds K fd_law_makes ["rows", "mode"] [] := FunD.bindsN F_law_makes fun _ _ _ _ _ _ us hl => match us, hl with | [_, _], _ => rfl
  have b_law_reads : Binds K fd_law_reads ["pool", "one", "odd"] [] := FunD.bindsN F_law_reads fun _ _ _ _ _ _ us hl => match us, hl with | [_, _, _], _ => rfl
  have b_law_adds : Binds K fd_law_adds ["pool", "boxes", "rows"] [] := FunD.bindsN F_law_adds fun _ _ _ _ _ _ us hl => match us, hl with | [_, _, _], _ => rfl
  have b_law_multiplies : Binds K fd_law_multiplies ["pool", "box", "rows"] [] := FunD.bindsN F_law_multiplies fun _ _ _ _ _ _ us hl => match us, hl with | [_, _, _], _ => rfl
  have b_law_moves : Binds K fd_law_moves ["pool", "box", "rows"] [] := FunD.bindsN F_law_moves fun _ _ _ _ _ _ us hl => match us, hl with | [_, _, _], _ => rfl
  have b_law_equal : Binds K fd_law_equal ["boxes", "rows"] [] := FunD.bindsN F_law_equal fun _ _ _ _ _ _ us hl => match us, hl with | [_, _], _ => rfl
  have b_law_balanced : Binds K fd_law_balanced ["rows", "mode"] [] := FunD.bindsN F_law_balanced fun _ _ _ _ _ _ us hl => match us, hl with | [_, _], _ => rfl
  have b_law : Binds K fd_law ["script"] [] := FunD.bindsN F_law fun _ _ _ _ _ _ us hl => match us, hl with | [_], _ => rfl
  have b_Totals_init : Binds K fd_Totals_init ["self", "supplies", "demands"] [] := FunD.bindsN F_Totals_init fun _ _ _ _ _ _ us hl => match us, hl with | [_, _, _], _ => rfl
  have b_Totals_moved : Binds K fd_Totals_moved ["self", "giver", "taker"] [] := FunD.bindsN F_Totals_moved fun _ _ _ _ _ _ us hl => match us, hl with | [_, _, _], _ => rfl
  have b_Totals_turned : Binds K fd_Totals_turned ["self"] [] := FunD.bindsN F_Totals_turned fun _ _ _ _ _ _ us hl => match us, hl with | [_], _ => rfl
  have b_Totals_add : Binds K fd_Totals_add ["self", "other"] [] := FunD.bindsN F_Totals_add fun _ _ _ _ _ _ us hl => match us, hl with | [_, _], _ => rfl
  have b_Totals_mul : Binds K fd_Totals_mul ["self", "other"] [] := FunD.bindsN F_Totals_mul fun _ _ _ _ _ _ us hl => match us, hl with | [_, _], _ => rfl
  have b_Totals_rmul : Binds K fd_Totals_rmul ["self", "other"] [] := FunD.bindsN F_Totals_rmul fun _ _ _ _ _ _ us hl => match us, hl with | [_, _], _ => rfl
  have b_Totals_eq : Binds K fd_Totals_eq ["self", "other"] [] := FunD.bindsN F_Totals_eq fun _ _ _ _ _ _ us hl => match us, hl with | [_, _], _ => rfl
  have b_Totals_str : Binds K fd_Totals_str ["self"] [] := FunD.bindsN F_Totals_str fun _ _ _ _ _ _ us hl => match us, hl with | [_], _ => rfl
  have b_Totals_read : Binds K fd_Totals_read ["cls", "text"] [] := FunD.bindsN F_Totals_read fun _ _ _ _ _ _ us hl => match us, hl with | [_, _], _ => rfl
  have b_Totals_balance : Binds K fd_Totals_balance ["supplies", "demands"] [] := FunD.bindsN F_Totals_balance fun _ _ _ _ _ _ us hl => match us, hl with | [_, _], _ => rfl
  have b_Totals_supplies : Binds K fd_Totals_supplies ["self"] [] := FunD.bindsN F_Totals_supplies fun _ _ _ _ _ _ us hl => match us, hl with | [_], _ => rfl
  have b_Totals_demands : Binds K fd_Totals_demands ["self"] [] := FunD.bindsN F_Totals_demands fun _ _ _ _ _ _ us hl => match us, hl with | [_], _ => rfl
  have b_Totals_units : Binds K fd_Totals_units ["self"] [] := FunD.bindsN F_Totals_units fun _ _ _ _ _ _ us hl => match us, hl with | [_], _ => rfl
  have e := hfa.symm.trans g_law
  cases e
  have bA := FunD.bindsA (ps := ["script"]) F_law fun _ _ _ _ _ _ us hl => match us, hl with | [_], _ => rfl
  have EdS := c.err 0 (d := dS) rfl
  have ndS_size : findIn K (.ref (He.ga K "BadSize")) "size" = some none := He.noat_ok (c.fact 77 (f := .noat "BadSize" "size") rfl)
  have fdS := c.more 27
  have EdL := c.err 1 (d := dL) rfl
  have ndL_length : findIn K (.ref (He.ga K "BadLength")) "length" = some none := He.noat_ok (c.fact 78 (f := .noat "BadLength" "length") rfl)
  have fdL := c.more 28
  have EdB := c.err 2 (d := dB) rfl
  have ndB_number : findIn K (.ref (He.ga K "BadCount")) "number" = some none := He.noat_ok (c.fact 79 (f := .noat "BadCount" "number") rfl)
  have fdB := c.more 29
  have EdM := c.err 3 (d := dM) rfl
  have ndM_most : findIn K (.ref (He.ga K "TooMany")) "most" = some none := He.noat_ok (c.fact 80 (f := .noat "TooMany" "most") rfl)
  have fdM := c.more 30
  have EdD := c.err 4 (d := dD) rfl
  have ndD_depot : findIn K (.ref (He.ga K "NoDepot")) "depot" = some none := He.noat_ok (c.fact 81 (f := .noat "NoDepot" "depot") rfl)
  have fdD := c.more 31
  have EdP := c.err 5 (d := dP) rfl
  have ndP_depot : findIn K (.ref (He.ga K "NoSupply")) "depot" = some none := He.noat_ok (c.fact 82 (f := .noat "NoSupply" "depot") rfl)
  have fdP := c.more 32
  have EdX := c.err 6 (d := dX) rfl
  have ndX_text : findIn K (.ref (He.ga K "Unread")) "text" = some none := He.noat_ok (c.fact 83 (f := .noat "Unread" "text") rfl)
  have fdX := c.more 33
  have EdU := c.err 7 (d := dU) rfl
  have ndU_supply : findIn K (.ref (He.ga K "Unbalanced")) "supply" = some none := He.noat_ok (c.fact 84 (f := .noat "Unbalanced" "supply") rfl)
  have ndU_demand : findIn K (.ref (He.ga K "Unbalanced")) "demand" = some none := He.noat_ok (c.fact 85 (f := .noat "Unbalanced" "demand") rfl)
  have fdU := c.more 34
  have oq : nsIn K cStatics "thirdparty.any" = some none := He.eqO_ok (c.more 0)
  obtain ⟨uM, cM⟩ := conB_ok (c.more 1) (by decide)
  obtain ⟨uv, cv⟩ := cvalB_ok (c.more 2)
  have TT : TotC K (He.ga K "Totals") uM := ⟨He.cls_ok (c.fact 66 (f := .cls "Totals") rfl), He.noat_ok (c.fact 68 (f := .noat "Totals" "_supplies") rfl), He.noat_ok (c.fact 69 (f := .noat "Totals" "_demands") rfl), cM⟩
  have MTotals := He.mkr_ok (c.fact 67 (f := .mkr "Totals") rfl)
  have J := insB_ok (c.more 4) TT.cl (getB_ok (c.more 3))
  have self1 : selfFirst K (He.ga K "Totals") = true := c.more 5
  have rd := readB_ok (c.more 6)
  obtain ⟨i1, i2⟩ := Bool.and_eq_true_iff.mp (show intB K = true from c.more 7)
  have i1 := He.eqO_ok i1
  have i2 := He.eqO_ok i2
  obtain ⟨sb, sb2⟩ := Bool.and_eq_true_iff.mp (show subB "Totals" K = true from c.more 8)
  have sb := of_decide_eq_true sb
  have sb2 := of_decide_eq_true sb2
  have k_moved := He.meth_ok (c.fact 70 (f := .meth "Totals" "moved") rfl)
  have k_turned := He.meth_ok (c.fact 71 (f := .meth "Totals" "turned") rfl)
  have k_add := He.meth_ok (c.fact 72 (f := .meth "Totals" "__add__") rfl)
  have k_mul := He.meth_ok (c.fact 73 (f := .meth "Totals" "__mul__") rfl)
  have k_rmul := He.meth_ok (c.fact 74 (f := .meth "Totals" "__rmul__") rfl)
  have k_eq := He.meth_ok (c.fact 75 (f := .meth "Totals" "__eq__") rfl)
  have k_str := He.meth_ok (c.fact 76 (f := .meth "Totals" "__str__") rfl)
  have k_Totals_read := cmB_ok (c.more 9)
  have k_Totals_balance := smB_ok (c.more 10)
  have k_Totals_supplies := propB_ok (c.more 35)
  have k_Totals_demands := propB_ok (c.more 36)
  have k_Totals_units := propB_ok (c.more 37)
  have Fc := cls_of X G c
  have XQ := exq_of c fun e => (Fc e).exc
  refine ⟨fd_law, fun s v => bA s [v] rfl, fun base _ _ => toLaw ?_⟩
  obtain ⟨fddS, odS, bdS⟩ := ok_dS (P := P) (w := w) (base := base) EdS oq m_super hP hsup fdS ndS_size
  have D_BadSize : Er P w K mg base "BadSize" "size" (He.ga K "BadSize") _ _ _ := ⟨EdS.oex, EdS.init, EdS.tI, odS, bdS, g_BadSize⟩
  obtain ⟨fddL, odL, bdL⟩ := ok_dL (P := P) (w := w) (base := base) EdL oq m_super hP hsup fdL ndL_length
  have D_BadLength : Er P w K mg base "BadLength" "length" (He.ga K "BadLength") _ _ _ := ⟨EdL.oex, EdL.init, EdL.tI, odL, bdL, g_BadLength⟩
  obtain ⟨fddB, odB, bdB⟩ := ok_dB (P := P) (w := w) (base := base) EdB oq m_super hP hsup fdB ndB_number
  have D_BadCount : Er P w K mg base "BadCount" "number" (He.ga K "BadCount") _ _ _ := ⟨EdB.oex, EdB.init, EdB.tI, odB, bdB, g_BadCount⟩
  obtain ⟨fddM, odM, bdM⟩ := ok_dM (P := P) (w := w) (base := base) EdM oq m_super hP hsup fdM ndM_most
  have D_TooMany : Er P w K mg base "TooMany" "most" (He.ga K "TooMany") _ _ _ := ⟨EdM.oex, EdM.init, EdM.tI, odM, bdM, g_TooMany⟩
  obtain ⟨fddD, odD, bdD⟩ := ok_dD (P := P) (w := w) (base := base) EdD oq m_super hP hsup fdD ndD_depot
  have D_NoDepot : Er P w K mg base "NoDepot" "depot" (He.ga K "NoDepot") _ _ _ := ⟨EdD.oex, EdD.init, EdD.tI, odD, bdD, g_NoDepot⟩
  obtain ⟨fddP, odP, bdP⟩ := ok_dP (P := P) (w := w) (base := base) EdP oq m_super hP hsup fdP ndP_depot
  have D_NoSupply : Er P w K mg base "NoSupply" "depot" (He.ga K "NoSupply") _ _ _ := ⟨EdP.oex, EdP.init, EdP.tI, odP, bdP, g_NoSupply⟩
  obtain ⟨fddX, odX, bdX⟩ := ok_dX (P := P) (w := w) (base := base) EdX oq m_super hP hsup fdX ndX_text
  have D_Unread : ErS P w K mg base "Unread" "text" (He.ga K "Unread") _ _ _ := ⟨EdX.oex, EdX.init, EdX.tI, odX, bdX, g_Unread⟩
  obtain ⟨fddU, odU, bdU⟩ := ok_dU (P := P) (w := w) (base := base) EdU oq m_super hP hsup fdU ndU_supply ndU_demand
  have D_Unbalanced : Er2 P w K mg base "Unbalanced" "supply" "demand" (He.ga K "Unbalanced") _ _ _ := ⟨EdU.oex, EdU.init, EdU.tI, odU, bdU, g_Unbalanced⟩
  have D_check_size : Df P w K mg base 3 "check_size" ["size", "least", "most"] (spX (S_size ((caK K) .siz))) _ _ := ⟨ok_size F_check_size D_BadSize, g_check_size, F_check_size.kp, b_check_size⟩
  have D_check_length : Df P w K mg base 3 "check_length" ["row", "length"] (spX (S_length ((caK K) .len))) _ _ := ⟨ok_length F_check_length m_len D_BadLength, g_check_length, F_check_length.kp, b_check_length⟩
  have D_check_count : Df P w K mg base 3 "check_count" ["number", "least", "most"] (spX (S_count ((caK K) .cnt))) _ _ := ⟨ok_count F_check_count D_BadCount, g_check_count, F_check_count.kp, b_check_count⟩
  have D_check_counts : Df P w K mg base 4 "check_counts" ["numbers", "least", "most"] (spX (S_counts ((caK K) .cnt))) _ _ := ⟨ok_counts F_check_counts D_check_count, g_check_counts, F_check_counts.kp, b_check_counts⟩
  have D_check_most : Df P w K mg base 3 "check_most" ["number", "most"] (spX (S_most ((caK K) .mos))) _ _ := ⟨ok_most F_check_most D_TooMany, g_check_most, F_check_most.kp, b_check_most⟩
  have D_check_depot : Df P w K mg base 3 "check_depot" ["depot", "depots"] (spX (S_depot ((caK K) .dep))) _ _ := ⟨ok_depot F_check_depot D_NoDepot, g_check_depot, F_check_depot.kp, b_check_depot⟩
  have D_check_balanced : Df P w K mg base 3 "_check_balanced" ["supply", "demand"] (spX (S_balanced ((caK K) .unb))) _ _ := ⟨ok_balanced F_check_balanced D_Unbalanced, g_check_balanced, F_check_balanced.kp, b_check_balanced⟩
  have D_digits_as_zeros : Df P w K mg base 1 "digits_as_zeros" ["text"] (spX S_zer) _ _ := ⟨ok_zer F_digits_as_zeros g_DIG ⟨tD, rfl⟩, g_digits_as_zeros, F_digits_as_zeros.kp, b_digits_as_zeros⟩
  have D_is_written_number : Df P w K mg base 2 "is_written_number" ["word", "most_digits"] (spX S_num) _ _ := ⟨ok_num F_is_written_number m_len D_digits_as_zeros, g_is_written_number, F_is_written_number.kp, b_is_written_number⟩
  have D_written_sides : Df P w K mg base 1 "_written_sides" ["text"] (spX S_wsides) _ _ := ⟨ok_wsides F_written_sides, g_written_sides, F_written_sides.kp, b_written_sides⟩
  have D_is_written_totals : Df P w K mg base 3 "is_written_totals" ["text"] (spX S_wtot) _ _ := ⟨ok_wtot F_is_written_totals m_len m_all g_M3 ⟨t3, rfl⟩ D_written_sides D_is_written_number, g_is_written_totals, F_is_written_totals.kp, b_is_written_totals⟩
  have D_Totals_supplies : Pn P w K mg base 1 (He.ga K "Totals") "supplies" (spX (S_supplies (He.ga K "Totals"))) _ _ _ := ⟨TT.cl, k_Totals_supplies, ok_supplies F_Totals_supplies TT, b_Totals_supplies⟩
  have D_Totals_demands : Pn P w K mg base 1 (He.ga K "Totals") "demands" (spX (S_demands (He.ga K "Totals"))) _ _ _ := ⟨TT.cl, k_Totals_demands, ok_demands F_Totals_demands TT, b_Totals_demands⟩
  have D_Totals_units : Pn P w K mg base 1 (He.ga K "Totals") "units" (spX (S_units (He.ga K "Totals"))) _ _ _ := ⟨TT.cl, k_Totals_units, ok_units F_Totals_units TT m_sum, b_Totals_units⟩
  have D_Totals : Kn P w K mg base 5 "Totals" (He.ga K "Totals") ["self", "supplies", "demands"] (spInit (He.ga K "Totals") (S_tinit (caK K))) _ _ := ⟨MTotals, ok_tinit F_Totals_init TT m_len m_sum m_tuple g_M8 ⟨t8, rfl⟩ D_check_size D_check_counts D_check_balanced D_check_most, g_Totals, b_Totals_init⟩
  have D_Totals_read : Cn P w K mg base 7 (He.ga K "Totals") (.type "type") "read" (spX (S_read (He.ga K "Totals") (caK K))) _ _ := ⟨rd, k_Totals_read, rawR (ok_read F_Totals_read m_int D_is_written_totals D_written_sides D_Unread D_Totals) b_Totals_read⟩
  have D_Totals_balance : Sn P w K mg base 1 (He.ga K "Totals") (.type "type") "balance" (spX S_bal) _ _ := ⟨rd, k_Totals_balance, rawR (ok_bal F_Totals_balance m_sum) b_Totals_balance⟩
  have D_sums : Df P w K mg base 3 "_sums" ["first", "second"] (spX S_sums) _ _ := ⟨ok_sums F_sums m_zip, g_sums, F_sums.kp, b_sums⟩
  have D_add : On P w K mg base 7 (He.ga K "Totals") (PySem.dunder Operator.Add.info.2) (spX (S_add (He.ga K "Totals") (caK K))) _ _ := ⟨ok_add F_Totals_add TT m_len D_check_length D_check_most D_sums D_Totals_supplies D_Totals_demands D_Totals_units D_Totals, b_Totals_add, k_add.at_, k_add.fn⟩
  have D_mul : On P w K mg base 7 (He.ga K "Totals") "__mul__" (spX (S_mul (He.ga K "Totals") (caK K))) _ _ := ⟨ok_mul F_Totals_mul TT D_check_count D_check_most D_Totals_units D_Totals, b_Totals_mul, k_mul.at_, k_mul.fn⟩
  have D_rmul : On P w K mg base 8 (He.ga K "Totals") "__rmul__" (spX (S_mul (He.ga K "Totals") (caK K))) _ _ := ⟨ok_rmul F_Totals_rmul self1 D_mul k_rmul.at_ i1 i2 sb, b_Totals_rmul, k_rmul.at_, k_rmul.fn⟩
  have D_Totals_moved : Mn P w K mg base 7 (He.ga K "Totals") "moved" ["self", "giver", "taker"] (spX (S_moved (He.ga K "Totals") (caK K))) _ _ := ⟨TT.cl, k_moved, ok_moved F_Totals_moved TT m_len m_list D_check_depot D_NoSupply D_Totals, b_Totals_moved⟩
  have D_Totals_turned : Mn P w K mg base 7 (He.ga K "Totals") "turned" ["self"] (spX (S_turned (He.ga K "Totals"))) _ _ := ⟨TT.cl, k_turned, ok_turned F_Totals_turned TT D_Totals, b_Totals_turned⟩
  have D_eq : On P w K mg base 2 (He.ga K "Totals") "__eq__" (spX (S_teq (He.ga K "Totals"))) _ _ := ⟨ok_teq F_Totals_eq TT J m_isinstance g_Totals, b_Totals_eq, k_eq.at_, k_eq.fn⟩
  have o_str := ok_str (P := P) (w := w) (base := base) F_Totals_str TT m_str
  have D_add_totals : Sr P w K mg base 9 "add_totals" (spX (S_addt (He.ga K "Totals") (caK K))) _ := ⟨ok_addt F_add_totals self1 D_add, g_add_totals, F_add_totals.kp⟩
  have D_law_cell : Df P w K mg base 1 "_law_cell" ["script", "k"] (spX (S_cell K)) _ _ := ⟨ok_cell F_law_cell m_len m_int m_min m_abs m_range, g_law_cell, F_law_cell.kp, b_law_cell⟩
  have D_law_take : Df P w K mg base 1 "_law_take" ["pool", "limit"] (spX S_take) _ _ := ⟨ok_take F_law_take m_int, g_law_take, F_law_take.kp, b_law_take⟩
  have al := ok_alike (P := P) (w := w) (base := base) F_law_alike g_law_alike F_law_alike.kp b_law_alike m_isinstance m_int m_bool m_str m_list m_tuple m_len m_range
  have D_law_alike : Df P w K mg base 4 "_law_alike" ["told", "due"] (spX (S_alike 2)) _ _ := ⟨al 2, g_law_alike, F_law_alike.kp, b_law_alike⟩
  have D_law_copied : Df P w K mg base 1 "_law_copied" ["row", "mode"] spCop _ _ := ⟨ok_copied F_law_copied m_list m_tuple, g_law_copied, F_law_copied.kp, b_law_copied⟩
  have D_law_parts : Df P w K mg base 2 "_law_parts" ["pool", "units", "many"] (spX S_parts) _ _ := ⟨ok_parts F_law_parts m_range D_law_take, g_law_parts, F_law_parts.kp, b_law_parts⟩
  have D_law_units : Df P w K mg base 2 "_law_units" ["pool", "rest"] (spX S_lunits) _ _ := ⟨ok_lunits F_law_units m_min D_law_take, g_law_units, F_law_units.kp, b_law_units⟩
  have D_law_first : Df P w K mg base 3 "_law_first" ["pool"] (spX S_first) _ _ := ⟨ok_first F_law_first D_law_take D_law_units D_law_parts, g_law_first, F_law_first.kp, b_law_first⟩
  have D_law_second : Df P w K mg base 3 "_law_second" ["pool", "one"] (spX S_second) _ _ := ⟨ok_second F_law_second m_len m_sum D_law_take D_law_units D_law_parts, g_law_second, F_law_second.kp, b_law_second⟩
  have D_law_level : Df P w K mg base 1 "_law_level" ["units", "many"] (spX S_level) _ _ := ⟨ok_level F_law_level m_range m_int, g_law_level, F_law_level.kp, b_law_level⟩
  have D_law_odd_row : Df P w K mg base 2 "_law_odd_row" ["pool", "row"] (spX S_oddrow) _ _ := ⟨ok_oddrow F_law_odd_row m_range m_len D_law_take, g_law_odd_row, F_law_odd_row.kp, b_law_odd_row⟩
  have D_law_odd : Df P w K mg base 3 "_law_odd" ["pool"] (spX S_odd) _ _ := ⟨ok_odd F_law_odd D_law_take D_law_level D_law_parts D_law_odd_row, g_law_odd, F_law_odd.kp, b_law_odd⟩
  have D_law_text : Df P w K mg base 1 "_law_text" ["rows"] (spX S_text) _ _ := ⟨ok_text F_law_text m_str, g_law_text, F_law_text.kp, b_law_text⟩
  have D_law_spoilt : Df P w K mg base 2 "_law_spoilt" ["pool", "text"] (spX S_spoilt) _ _ := ⟨ok_spoilt F_law_spoilt m_range m_len D_law_take, g_law_spoilt, F_law_spoilt.kp, b_law_spoilt⟩
  have D_law_sides : Df P w K mg base 1 "_law_sides" ["text"] (spX S_sides) _ _ := ⟨ok_sides F_law_sides m_len m_int, g_law_sides, F_law_sides.kp, b_law_sides⟩
  have D_law_due : Df P w K mg base 1 "_law_due" ["first", "second"] (spX S_due) _ _ := ⟨ok_due F_law_due m_len m_sum m_list, g_law_due, F_law_due.kp, b_law_due⟩
  have D_law_plus : Df P w K mg base 1 "_law_plus" ["one", "two"] (spX S_plus) _ _ := ⟨ok_plus F_law_plus m_len m_sum m_range, g_law_plus, F_law_plus.kp, b_law_plus⟩
  have D_law_times : Df P w K mg base 1 "_law_times" ["number", "one"] (spX S_times) _ _ := ⟨ok_times F_law_times m_sum, g_law_times, F_law_times.kp, b_law_times⟩
  have D_law_moved : Df P w K mg base 1 "_law_moved" ["one", "source", "goal"] (spX S_lmov) _ _ := ⟨ok_lmov F_law_moved m_len m_list, g_law_moved, F_law_moved.kp, b_law_moved⟩
  have D_law_added : Df P w K mg base 10 "_law_added" ["row"] (spX (S_added (He.ga K "Totals") (caK K))) _ _ := ⟨ok_added F_law_added m_len D_add_totals, g_law_added, F_law_added.kp, b_law_added⟩
  have D_law_done : Df P w K mg base 11 "_law_done" ["word", "a", "b"] (spX (S_done (He.ga K "Totals") (caK K))) _ _ := ⟨ok_done F_law_done g_Totals self1 D_Totals D_Totals_read D_add D_mul D_rmul D_Totals_moved D_law_added i1 i2 sb sb2, g_law_done, F_law_done.kp, b_law_done⟩
  have FEc := ok_classes (P := P) (w := w) (base := base) F_law_classes m_isinstance m_ValueError Fc
  have gE : ∀ e : Er8, mg e.nm = some (.ref (caK K e)) := fun e => by
    cases e with
    | siz => exact g_BadSize
    | len => exact g_BadLength
    | cnt => exact g_BadCount
    | unb => exact g_Unbalanced
    | mos => exact g_TooMany
    | dep => exact g_NoDepot
    | sup => exact g_NoSupply
    | unr => exact g_Unread
  have D_law_ask : Df P w K mg base 12 "_law_ask" ["word", "a", "b"] (spAsk (He.ga K "Totals")) _ _ := ⟨ok_ask F_law_ask D_law_done FEc g_law_classes F_law_classes.kp b_law_classes gE XQ, g_law_ask, F_law_ask.kp, b_law_ask⟩
  have D_law_is : Df P w K mg base 6 "_law_is" ["box", "first", "second"] (spX (S_is (He.ga K "Totals"))) _ _ := ⟨ok_is F_law_is J g_Totals m_isinstance m_tuple m_sum m_str D_law_alike o_str b_Totals_str k_str.at_ k_str.fn D_law_text D_Totals_supplies D_Totals_demands D_Totals_units, g_law_is, F_law_is.kp, b_law_is⟩
  have D_law_agrees : Df P w K mg base 7 "_law_agrees" ["told", "due"] (fun vs H Q E => ∃ N, spX (S_agrees (He.ga K "Totals") N) vs H Q E) _ _ := ⟨ok_agrees F_law_agrees D_law_alike D_law_is, g_law_agrees, F_law_agrees.kp, b_law_agrees⟩
  have D_law_makes : Df P w K mg base 13 "_law_makes" ["rows", "mode"] (spX (S_makes (He.ga K "Totals"))) _ _ := ⟨ok_makes F_law_makes m_list D_law_copied D_law_ask D_law_due D_law_agrees, g_law_makes, F_law_makes.kp, b_law_makes⟩
  have D_law_balanced : Df P w K mg base 5 "_law_balanced" ["rows", "mode"] (spX S_lbal) _ _ := ⟨ok_lbal F_law_balanced m_list m_sum g_Totals D_law_copied D_law_alike D_Totals_balance, g_law_balanced, F_law_balanced.kp, b_law_balanced⟩
  have D_law_reads : Df P w K mg base 13 "_law_reads" ["pool", "one", "odd"] (spX S_lreads) _ _ := ⟨ok_lreads F_law_reads D_law_take D_law_text D_law_spoilt D_law_sides D_law_ask D_law_due D_law_agrees, g_law_reads, F_law_reads.kp, b_law_reads⟩
  have D_law_adds : Df P w K mg base 13 "_law_adds" ["pool", "boxes", "rows"] (spX (S_ladds (He.ga K "Totals"))) _ _ := ⟨ok_ladds F_law_adds m_range D_law_take D_law_plus D_law_ask D_law_agrees, g_law_adds, F_law_adds.kp, b_law_adds⟩
  have D_law_multiplies : Df P w K mg base 13 "_law_multiplies" ["pool", "box", "rows"] (spX (S_lmul (He.ga K "Totals"))) _ _ := ⟨ok_lmul F_law_multiplies m_max m_sum D_law_take D_law_times D_law_ask D_law_agrees, g_law_multiplies, F_law_multiplies.kp, b_law_multiplies⟩
  have D_law_moves : Df P w K mg base 13 "_law_moves" ["pool", "box", "rows"] (spX (S_lmoves (He.ga K "Totals"))) _ _ := ⟨ok_lmoves F_law_moves m_range m_len D_law_take D_law_moved D_law_ask D_law_agrees, g_law_moves, F_law_moves.kp, b_law_moves⟩
  have D_law_equal : Df P w K mg base 3 "_law_equal" ["boxes", "rows"] (spX (S_lequal (He.ga K "Totals"))) _ _ := ⟨ok_lequal F_law_equal m_range m_len m_bool D_eq, g_law_equal, F_law_equal.kp, b_law_equal⟩
  exact ok_law F_law m_range g_Totals self1 sb2 rd cv D_law_cell D_law_take D_law_first D_law_second D_law_odd D_law_makes D_law_alike D_law_reads D_law_is D_law_multiplies D_law_moves D_law_adds D_law_equal D_law_balanced D_law_text D_Totals D_Totals_read D_mul D_rmul D_Totals_turned
/-- nothing leaves the law: seen as a def that lets nothing out -/
theorem out0 {P : Program} {w : World} {K : Frag} {mg : Str → Option Value} {base : Heap} {k : Nat} {f : Addr} {fd : FuncData} (F : FnOk P w K mg base (L2N.CX P w) k f fd ["script"] (spLaw K)) : FnOk P w K mg base CX0 k f fd ["script"] (spLaw K) := by
  refine ⟨F.len, fun A outer s H args us vs Q E hr he hb hv hs => codeAny_mono (F.run A outer s H args us vs Q (fun _ _ _ => False) hr he hb hv hs) fun r s' h => ?_⟩
  cases r with
  | ok fl => cases fl <;> exact h
  | error e =>
    obtain ⟨_, _, _, _, _, _, _, _, _, _, _, _, z⟩ := h
    exact z.elim
end K08
open PySem PySem.W PySem.Calls PyProof.Rows
theorem PySem.Challenge.cw_whichdepot_k08_totals_holds : PySem.Challenge.rw_whichdepot_k08_totals.Holds := by
  w_on; o_law
  refine HandSHeadRun.head_any (r := K08.R) (q := K08.qv) (H := Hk.hook 6 K08.ask) (ob := Hk.ob 6 K08.ask) (M := 30000) (loose := K08.names) (d := HandSHeadRun.topDef K08.R.prog 93) (kwd := []) Hk.ob_eq
    (by kernel_rfl) (fun s => by kernel_rfl) K08.run (by kernel_rfl) (by kernel_rfl) (by kernel_rfl) (by rfl) (by first | assumption | decide +kernel) (by decide +kernel) ⟨rfl, rfl, rfl, rfl, rfl, by decide +kernel⟩ ?hw ?hc
  case hw => w_witness2
  case hc =>
    refine L2.walk_ofE (l := PySem.Challenge.rw_whichdepot_k08_totals) (n := 63) (k := 14) (x := "script") (CX := L2.CX0) rfl (by decide) (by kernel_rfl) ⟨rfl, by decide, by decide⟩ ?F (fun _ _ _ _ z => z)
    intro w mg fa h Y G hmg0
    obtain ⟨K, KX, c⟩ := Y
    have hmg : mg ("law" : PySem.Str) = some (.ref fa) := by
      have e : (HandSHeadRun.topDef K08.R.prog 93).name = ("law" : PySem.Str) := by kernel_rfl
      rw [← e]
      exact hmg0
    obtain ⟨fd, hb, hF⟩ := K08.facts (P := (PySem.Challenge.rw_whichdepot_k08_totals).prog) (w := w) (by rfl) (by rfl) KX G hmg c
    exact ⟨K, fd, K08.spLaw K, KX, hb, fun H a ns hl _ hS => ⟨a, ns, rfl, hS, hl, fun _ => rfl⟩, fun base h1 h2 => K08.out0 (hF base h1 h2)⟩
